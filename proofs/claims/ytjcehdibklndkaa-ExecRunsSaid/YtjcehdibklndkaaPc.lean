/-
  Layer 12 (parse): steps (api.Seq) in memory; Depth, within, note, by their walks. Conditions: as each theorem's premises say.
-/
import Derived.Test.YtjcehdibklndkaaEr
import Derived.Test.YtjcehdibklndkaaPm
import Derived.BigQuiet
import Derived.WalkSmall
namespace Go.Proofs.Ytjcehdibklndkaa
open Go.RowKit

/-- A step's cells. -/
def stp3 (t : Bm.Stp) : List Value := [.int .i64 (t.1 : Int), .int .i64 (t.2.1 : Int), .int .i64 (t.2.2 : Int)]
/-- The memory's cells of a list of steps. -/
def sqs : List Bm.Stp → List Value
  | [] => []
  | t :: l => stp3 t ++ sqs l
theorem sqs_length (l : List Bm.Stp) : (sqs l).length = l.length * 3 := by
  induction l with
  | nil => rfl
  | cons t l ih => rw [sqs, List.length_append, ih, List.length_cons]; simp [stp3]; omega
theorem sqs_append (l m : List Bm.Stp) : sqs (l ++ m) = sqs l ++ sqs m := by
  induction l with
  | nil => rfl
  | cons t l ih => rw [List.cons_append, sqs, ih, sqs, List.append_assoc]
theorem sqs_get (l : List Bm.Stp) (i : Nat) (h : i < l.length) : (sqs l)[i * 3]? = some (.int .i64 (l[i].1 : Int)) ∧ (sqs l)[i * 3 + 1]? = some (.int .i64 (l[i].2.1 : Int)) ∧ (sqs l)[i * 3 + 2]? = some (.int .i64 (l[i].2.2 : Int)) := by
  induction l generalizing i with
  | nil => simp at h
  | cons t l ih =>
    cases i with
    | zero => exact ⟨rfl, rfl, rfl⟩
    | succ i =>
      have h1 := ih i (by simpa using h)
      rw [sqs]
      have e : ∀ j, (stp3 t ++ sqs l)[(i + 1) * 3 + j]? = (sqs l)[i * 3 + j]? := fun j => by
        rw [List.getElem?_append_right (by simp [stp3]; omega)]
        congr 1
        simp [stp3]; omega
      have e0 := e 0
      rw [Nat.add_zero, Nat.add_zero] at e0
      rw [e0, e 1, e 2]
      exact h1
/-- A slice that reads as these steps. -/
def StpR (w : World) (A : Option Addr) (l : List Bm.Stp) : Prop := 0 < l.length → ∃ g off, A = some ⟨g, off, none⟩ ∧ g < w.heap.size ∧ ∀ j (h : j < l.length), w.cell? ⟨g, off + j * 3, none⟩ = some (.int .i64 (l[j].1 : Int)) ∧ w.cell? ⟨g, off + j * 3 + 1, none⟩ = some (.int .i64 (l[j].2.1 : Int)) ∧ w.cell? ⟨g, off + j * 3 + 2, none⟩ = some (.int .i64 (l[j].2.2 : Int))
theorem StpR.below {w w' : World} {A : Option Addr} {l : List Bm.Stp} (h : StpR w A l) (hb : Below w.heap.size w w') : StpR w' A l := fun h0 => by
  obtain ⟨g, off, e, hg, hc⟩ := h h0
  refine ⟨g, off, e, Nat.lt_of_lt_of_le hg hb.size, fun j hj => ?_⟩
  obtain ⟨c0, c1, c2⟩ := hc j hj
  exact ⟨(hb.cell (p := ⟨g, _, none⟩) hg).trans c0, (hb.cell (p := ⟨g, _, none⟩) hg).trans c1, (hb.cell (p := ⟨g, _, none⟩) hg).trans c2⟩
theorem StpR.nil (w : World) (A : Option Addr) : StpR w A [] := fun h => absurd h (by simp)
theorem stp_own {w : World} {base : Nat} {v : Value} {l : List Bm.Stp} (h : w.ownsRow base 37 3 v l.length (sqs l)) : ∃ A c, v = .slice A l.length c ∧ StpR w A l ∧ c ≤ maxLen ∧ l.length ≤ c := by
  rcases h.2 with ⟨rfl, h0⟩ | ⟨g, cap, cur, rfl, hb, hg, hnc, hcm, hcs, ht⟩
  · refine ⟨none, 0, by rw [h0], fun h1 => by omega, by unfold maxLen; omega, by omega⟩
  · have hr : Row w g 37 (sqs l ++ cur.toList.drop (l.length * 3)) := by
      unfold Row
      rw [← ht, List.take_append_drop, Array.toArray_toList]
      exact hg
    refine ⟨_, cap, rfl, fun h1 => ⟨g, 0, rfl, hr.lt, fun j hj => ?_⟩, hcm, hnc⟩
    obtain ⟨c0, c1, c2⟩ := sqs_get l j hj
    have hl := sqs_length l
    rw [Nat.zero_add, hr.cell, hr.cell, hr.cell, List.getElem?_append_left (by omega), List.getElem?_append_left (by omega), List.getElem?_append_left (by omega)]
    exact ⟨c0, c1, c2⟩
theorem info_seq : (Try.prog.info? 37).map (fun i => (i.zero, i.size, i.bytes)) = some (some (.agg #[.int .i64 0, .int .i64 0, .int .i64 0]), 3, 24) := by kernel_rfl
theorem grown_trans12 {a b c : World} {row : Option Nat} (h : a.grownBy b row) (k : b.grownBy c row) : a.grownBy c row :=
  ⟨k.os.trans h.os, k.tape.trans h.tape, k.output.trans h.output, Nat.le_trans h.size k.size, fun i hi hn => (k.block i (Nat.lt_of_lt_of_le hi h.size) hn).trans (h.block i hi hn)⟩
theorem grown_on {a b c : World} {row : Option Nat} (h : a.grownBy b row) (k : Below b.heap.size b c) : a.grownBy c row := grown_trans12 h (grown_below k row)

set_option maxHeartbeats 400000 in
set_option maxRecDepth 100000 in
theorem pardepth_any (v : Int) (hv : Bm.IntOk v) (w : World) : Calls Try.prog 16 #[.int .i64 v] w fun e w' => e = .returned (.int .i64 (Bm.depN v : Int)) ∧ Below w.heap.size w w' := by
  obtain ⟨hv0, hv1⟩ := hv
  by_cases h0 : v ≤ 0
  · have hr : Bm.depN v = 0 := by unfold Bm.depN; rw [if_pos h0]
    rw [hr]
    have d0 : decide (v ≤ 0) = true := decide_eq_true h0
    go_enter Try.func16, Try.ntmps16
    go_wp2
    go_ret
    exact ⟨rfl, Below.refl _ _⟩
  · have d0 : decide (v ≤ 0) = false := decide_eq_false h0
    obtain ⟨m, hm, hm3⟩ : ∃ m : Int, min v 3 = m ∧ ((m = 1 ∧ Bm.depN v = 4) ∨ (m = 2 ∧ Bm.depN v = 16) ∨ (m = 3 ∧ Bm.depN v = 64)) := by
      by_cases h1 : v = 1
      · subst h1; exact ⟨1, by omega, .inl ⟨rfl, rfl⟩⟩
      · by_cases h2 : v = 2
        · subst h2; exact ⟨2, by omega, .inr (.inl ⟨rfl, rfl⟩)⟩
        · exact ⟨3, by omega, .inr (.inr ⟨rfl, by unfold Bm.depN; rw [if_neg h0, if_neg h1, if_neg h2]⟩)⟩
    rcases hm3 with ⟨rfl, hr⟩ | ⟨rfl, hr⟩ | ⟨rfl, hr⟩
    all_goals
      rw [hr]
      clear hr h0
      go_enter Try.func16, Try.ntmps16
      go_wp2
      go_ret
      exact ⟨rfl, Below.refl _ _⟩
set_option maxHeartbeats 400000 in
set_option maxRecDepth 100000 in
theorem parwithin_any (n : Nat) (T : List Nat) (w : World) (hn : n ≤ T.length) : Calls Try.prog 20 #[.int .i64 (n : Int), .string (strOf T)] w fun e w' => e = .returned (.int .i64 (n : Int)) ∧ w' = w := by
  have hsz := strOf_size T
  have m1 : max (n : Int) 0 = (n : Int) := by omega
  have m2 : min (n : Int) (T.length : Int) = (n : Int) := by omega
  go_enter Try.func20, Try.ntmps20
  go_wp2
  go_ret
  exact ⟨rfl, rfl⟩
set_option maxHeartbeats 400000 in
set_option maxRecDepth 100000 in
theorem parnote_any (b : Nat) (T P : List Nat) (x y : Nat) (w : World) (hT : T.length ≤ 2000) (hlt : ∀ z ∈ T, z < 256) (hxy : x ≤ y) (hy : y ≤ 1000000) (h : PF w b T P) :
    Calls Try.prog 18 #[.pointer (some ⟨b, 0, none⟩), .int .i64 (x : Int), .int .i64 (y : Int)] w fun e w' => e = .returned (.tuple #[]) ∧ PF w' b T (Bm.notesF T P x (y - x)) ∧ w.grownBy w' (some b) := by
  have Hnote := Lib.hid (fun w P (k : Nat) (hk : k ≤ 1000000) (h : PF w b T P) => znote_any b T P (k : Int) w hT hlt ⟨by omega, by omega⟩ h)
  obtain ⟨R, hR⟩ : ∃ R, R = Bm.notesF T P x (y - x) := ⟨_, rfl⟩
  rw [← hR]
  have HR := Lib.hid hR
  have H := Lib.hid h
  clear hR h hlt hT
  go_enter Try.func18, Try.ntmps18
  go_wp2
  go_loopw [6] (fun iv wr => ∃ (k : Nat) (Q : List Nat), k ≤ y ∧ iv = .int .i64 (k : Int) ∧ Hid (R = Bm.notesF T Q k (y - k)) ∧ Hid (PF wr b T Q) ∧ Hid (w.grownBy wr (some b))) (fun iv _ => y - (intOf iv).toNat)
  case atStart => exact ⟨x, P, hxy, rfl, HR, H, Lib.hid (grown_refl _ _)⟩
  case round =>
    obtain ⟨k, Q, hk, rfl, hq, hf, hg⟩ := hrel
    clear HR H
    by_cases hky : k < y
    · have d0 : decide ((k : Int) < (y : Int)) = true := decide_eq_true (by omega)
      have Hn := Lib.hid (Hnote.out wr Q k (by omega) hf.out)
      have Hq2 : Hid (R = Bm.notesF T (Bm.noteP T Q (k : Int)) (k + 1) (y - (k + 1))) := Lib.hid (by rw [hq.out, show y - k = (y - (k + 1)) + 1 by omega, Bm.notesF])
      clear hq hf
      go_wp2_with fail
      refine Hn.out.mono ?_
      rintro e w1 ⟨rfl, hf1, hg1⟩
      have Hf1 := Lib.hid hf1
      have Hg1 := Lib.hid (grown_trans12 hg.out hg1)
      clear hf1 hg1 hg Hn
      go_wp2
      go_roundw
      case rel => exact ⟨k + 1, _, by omega, by go_num, Hq2, Hf1, Hg1⟩
      case measure => simp [intOf]; omega
    · obtain rfl : k = y := by omega
      have d0 : decide ((k : Int) < (k : Int)) = false := decide_eq_false (by omega)
      have e : R = Q := by rw [hq.out, Nat.sub_self]; rfl
      go_wp2
      go_end0
      exact ⟨rfl, by rw [e]; exact hf.out, hg.out⟩
end Go.Proofs.Ytjcehdibklndkaa
