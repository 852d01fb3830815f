/-
  Layer 3 (cursor), the leaves, each by its walk: fixed, ends, Bad, fail, Done, New. Conditions: as each theorem's premises say.
-/
import Derived.Test.YtfopnbfaaikghaaMc
namespace Go.Proofs.Ytfopnbfaaikghaa
open Go.RowKit

set_option maxHeartbeats 400000 in
set_option maxRecDepth 100000 in
theorem cfixed_any (n : Int) (w : World) (h0 : -9223372036854775808 ≤ n) (h1 : n ≤ 9223372036854775807) :
    Calls Try.prog 37 #[.int .i64 n] w fun e w' => e = .returned (.int .i64 (fx n : Int)) ∧ w = w' := by
  have hf : min (max n 0) 8 = (fx n : Int) := by unfold fx; omega
  have Hf := Lib.hid hf
  clear hf
  go_enter Try.func37, Try.ntmps37
  go_wp2
  go_ret
  exact ⟨congrArg Ending.returned (congrArg (Value.int .i64) Hf.out), rfl⟩

/-- Whether a byte may be a number's last group, so many being ahead of it. -/
def endsB (c i : Nat) : Bool := decide ((i = 9 ∧ c = 1) ∨ (i ≠ 9 ∧ (c ≠ 0 ∨ i = 0)))
set_option maxHeartbeats 400000 in
set_option maxRecDepth 100000 in
theorem cends_any (c i : Nat) (w : World) (hc : c < 256) (hi : i ≤ 9) :
    Calls Try.prog 52 #[.int .u8 (c : Int), .int .i64 (i : Int)] w fun e w' => e = .returned (.bool (endsB c i)) ∧ w = w' := by
  by_cases h9 : i = 9
  · subst h9
    by_cases h1 : c = 1
    · subst h1
      have he : endsB 1 9 = true := by decide
      rw [he]
      go_enter Try.func52, Try.ntmps52
      go_wp2
      go_ret
      exact ⟨rfl, rfl⟩
    · have he : endsB c 9 = false := by unfold endsB; simp; omega
      have hb : ((c : Int) == 1) = false := by simp; omega
      rw [he]
      clear h1 he
      go_enter Try.func52, Try.ntmps52
      go_wp2
      go_ret
      exact ⟨rfl, rfl⟩
  · have h9b : ((i : Int) == 9) = false := by simp; omega
    by_cases h0 : c = 0
    · subst h0
      by_cases hz : i = 0
      · subst hz
        have he : endsB 0 0 = true := by decide
        rw [he]
        clear h9b
        go_enter Try.func52, Try.ntmps52
        go_wp2
        go_ret
        exact ⟨rfl, rfl⟩
      · have he : endsB 0 i = false := by unfold endsB; simp; omega
        have hb : ((i : Int) == 0) = false := by simp; omega
        rw [he]
        clear he hz h9
        go_enter Try.func52, Try.ntmps52
        go_wp2
        go_ret
        exact ⟨rfl, rfl⟩
    · have he : endsB c i = true := by unfold endsB; simp; omega
      have hb : ((c : Int) != 0) = true := by simp; omega
      rw [he]
      clear he h0 h9
      go_enter Try.func52, Try.ntmps52
      go_wp2
      go_ret
      exact ⟨rfl, rfl⟩

theorem CR.cells {w : World} {b : Nat} {st : Left} (h : CR w b st) : w.cell? ⟨b, 0, none⟩ = some (.string (strOf (st.getD []))) ∧ w.cell? ⟨b, 1, none⟩ = some (.bool st.isNone) ∧ w.frozen? ⟨b, 0, none⟩ = false ∧ w.frozen? ⟨b, 1, none⟩ = false := by
  refine ⟨(Row.cell h 0).trans ?_, (Row.cell h 1).trans ?_, Row.free h 0, Row.free h 1⟩
  all_goals rcases st with _ | bs <;> rfl

theorem CR.left {w : World} {b : Nat} {st : Left} (h : CR w b st) (l : List Nat) : Row (w.setCell ⟨b, 0, none⟩ (.string (strOf l))) b 75 [.string (strOf l), .bool st.isNone] := by
  have h1 := Row.set_ h 0 (.string (strOf l))
  have e : (rcells st).set 0 (.string (strOf l)) = [.string (strOf l), .bool st.isNone] := by rcases st with _ | bs <;> rfl
  rw [e] at h1
  exact h1
theorem Row.bad {w : World} {b : Nat} {x : Value} (h : Row w b 75 [.string (strOf []), x]) : CR (w.setCell ⟨b, 1, none⟩ (.bool true)) b none := h.set_ 1 (.bool true)
theorem CR.step {w : World} {b : Nat} {bs : List Nat} (h : CR w b (some bs)) (l : List Nat) : CR (w.setCell ⟨b, 0, none⟩ (.string (strOf l))) b (some l) := h.left l

set_option maxHeartbeats 400000 in
set_option maxRecDepth 100000 in
theorem rbad_nil (w : World) : Calls Try.prog 44 #[.pointer none] w fun e w' => e = .returned (.bool true) ∧ w = w' := by
  go_enter Try.func44, Try.ntmps44
  go_wp2
  go_ret
  exact ⟨rfl, rfl⟩
set_option maxHeartbeats 400000 in
set_option maxRecDepth 100000 in
theorem rbad_any (b : Nat) (st : Left) (w : World) (h : CR w b st) : Calls Try.prog 44 #[.pointer (some ⟨b, 0, none⟩)] w fun e w' => e = .returned (.bool st.isNone) ∧ w = w' := by
  obtain ⟨c0, c1, f0, f1⟩ := h.cells
  clear h c0 f0 f1
  generalize st.isNone = bad at c1 ⊢
  go_enter Try.func44, Try.ntmps44
  go_wp2
  go_ret
  exact ⟨rfl, rfl⟩

set_option maxHeartbeats 400000 in
set_option maxRecDepth 100000 in
theorem rfail_any (b : Nat) (st : Left) (w : World) (h : CR w b st) : Calls Try.prog 50 #[.pointer (some ⟨b, 0, none⟩)] w fun e w' => e = .returned (.tuple #[]) ∧ CR w' b none ∧ w.grownBy w' (some b) := by
  obtain ⟨c0, c1, f0, f1⟩ := h.cells
  have H := Lib.hid h
  clear h
  go_enter Try.func50, Try.ntmps50
  go_wp2
  go_end0
  refine ⟨rfl, ?_, grown_set (grown_set (grown_refl _ _) _ _) _ _⟩
  exact (H.out.left []).bad
set_option maxHeartbeats 400000 in
set_option maxRecDepth 100000 in
theorem cnew_any (l : List Nat) (w : World) : Calls Try.prog 26 #[.string (strOf l)] w fun e w' => e = .returned (.pointer (some ⟨w.heap.size, 0, none⟩)) ∧ CR w' w.heap.size (some l) ∧ Below w.heap.size w w' := by
  generalize hs : strOf l = s
  have Hs := Lib.hid hs
  clear hs
  go_enter Try.func26, Try.ntmps26
  go_wp2
  go_ret
  refine ⟨rfl, ?_, (Below.refl _ _).alloc (Nat.le_refl _) _⟩
  rw [← Hs.out]
  exact Row.new w 75 [.string (strOf l), .bool false]

theorem emptyB (bs : List Nat) : (strOf bs).toList.isEmpty = decide (bs = []) := by
  rw [strOf_toList]
  rcases bs with _ | ⟨x, bs⟩
  · rfl
  · rw [decide_eq_false (by simp)]; rfl
set_option maxHeartbeats 400000 in
set_option maxRecDepth 100000 in
theorem rdone_nil (w : World) : Calls Try.prog 31 #[.pointer none] w fun e w' => e = .returned (.bool false) ∧ w = w' := by
  go_enter Try.func31, Try.ntmps31
  go_wp2_with fail
  refine (rbad_nil w).mono ?_
  rintro e w' ⟨rfl, rfl⟩
  go_wp2
  go_ret
  exact ⟨rfl, rfl⟩
set_option maxHeartbeats 400000 in
set_option maxRecDepth 100000 in
theorem rdone_any (b : Nat) (st : Left) (w : World) (h : CR w b st) : Calls Try.prog 31 #[.pointer (some ⟨b, 0, none⟩)] w fun e w' => e = .returned (.bool (decide (st = some []))) ∧ w = w' := by
  have Hb := Lib.hid (rbad_any b st w h)
  obtain ⟨c0, c1, f0, f1⟩ := h.cells
  clear h c1 f0 f1
  rcases st with _ | bs
  · rw [decide_eq_false (by simp)]
    go_enter Try.func31, Try.ntmps31
    go_wp2_with fail
    refine Hb.out.mono ?_
    rintro e w' ⟨rfl, rfl⟩
    go_wp2
    go_ret
    exact ⟨rfl, rfl⟩
  · have he := emptyB bs
    have Hd : Hid (decide (some bs = some ([] : List Nat)) = decide (bs = [])) := by unfold Hid; simp
    rw [Hd.out]
    rw [Option.getD_some] at c0
    generalize strOf bs = s at c0 he
    generalize decide (bs = []) = d at he ⊢
    go_enter Try.func31, Try.ntmps31
    go_wp2_with fail
    refine Hb.out.mono ?_
    rintro e w' ⟨rfl, rfl⟩
    go_wp2
    go_ret
    exact ⟨rfl, rfl⟩

set_option maxHeartbeats 400000 in
set_option maxRecDepth 100000 in
theorem rraw_bad (b : Nat) (n : Int) (w : World) (h : CR w b none) : Calls Try.prog 42 #[.pointer (some ⟨b, 0, none⟩), .int .i64 n] w fun e w' => e = .returned (.string (strOf [])) ∧ w = w' := by
  have Hb := Lib.hid (rbad_any b none w h)
  clear h
  go_enter Try.func42, Try.ntmps42
  go_wp2_with fail
  refine Hb.out.mono ?_
  rintro e w' ⟨rfl, rfl⟩
  go_wp2
  go_ret
  exact ⟨rfl, rfl⟩
theorem CR.drew {w : World} {b : Nat} {st : Left} (h : CR w b st) : CR w.drew b st := h.keep (row := none) (grown_drew (grown_refl _ _)) (by simp)
theorem CR.drewN {w : World} {b : Nat} {st : Left} (h : CR w b st) (k : Nat) : CR (w.drewN k) b st := h.keep (row := none) (grown_drewN (grown_refl _ _) k) (by simp)
set_option maxHeartbeats 400000 in
set_option maxRecDepth 100000 in
theorem rraw_some (b m : Nat) (n : Int) (bs : List Nat) (w : World) (hm : max n 0 = (m : Int)) (hle : m ≤ bs.length) (h : CR w b (some bs)) :
    Calls Try.prog 42 #[.pointer (some ⟨b, 0, none⟩), .int .i64 n] w fun e w' => e = .returned (.string (strOf (bs.take m))) ∧ CR w' b (some (bs.drop m)) ∧ w.grownBy w' (some b) := by
  have Hb := Lib.hid (rbad_any b _ w h)
  obtain ⟨c0, c1, f0, f1⟩ := h.cells
  rw [Option.getD_some] at c0
  have hsz := strOf_size bs
  have hto := str_to bs m hle
  have hfrom := str_from bs m hle
  have hstep := h.step (bs.drop m)
  have Hstep := Lib.hid hstep
  have hlt : (m : Int) ≤ (bs.length : Int) := by omega
  clear h hstep c1 f1
  generalize strOf bs = s at c0 hsz hto hfrom
  generalize strOf (bs.take m) = s1 at hto ⊢
  generalize strOf (bs.drop m) = s2 at hfrom Hstep
  go_enter Try.func42, Try.ntmps42
  go_wp2_with fail
  refine Hb.out.mono ?_
  rintro e w' ⟨rfl, rfl⟩
  go_wp2
  go_ret
  exact ⟨rfl, Hstep.out, grown_set (grown_refl _ _) _ _⟩
set_option maxHeartbeats 400000 in
set_option maxRecDepth 100000 in
theorem rraw_more (b m : Nat) (n : Int) (bs : List Nat) (w : World) (hm : max n 0 = (m : Int)) (hle : bs.length < m) (h : CR w b (some bs)) :
    Calls Try.prog 42 #[.pointer (some ⟨b, 0, none⟩), .int .i64 n] w fun e w' => e = .returned (.string (strOf [])) ∧ CR w' b none ∧ w.grownBy w' (some b) := by
  have Hb := Lib.hid (rbad_any b _ w h)
  have Hf := Lib.hid (rfail_any b _ w h)
  obtain ⟨c0, c1, f0, f1⟩ := h.cells
  rw [Option.getD_some] at c0
  have hsz := strOf_size bs
  have hlt : (bs.length : Int) < (m : Int) := by omega
  clear h c1 f1 f0
  generalize strOf bs = s at c0 hsz
  go_enter Try.func42, Try.ntmps42
  go_wp2_with fail
  refine Hb.out.mono ?_
  rintro e w' ⟨rfl, rfl⟩
  go_wp2_with fail
  refine Hf.out.mono ?_
  rintro e w' ⟨rfl, hcr, hgr⟩
  go_wp2
  go_ret
  exact ⟨rfl, hcr, hgr⟩
theorem rraw_any (b : Nat) (st : Left) (n : Int) (w : World) (h : CR w b st) :
    Calls Try.prog 42 #[.pointer (some ⟨b, 0, none⟩), .int .i64 n] w fun e w' => e = .returned (.string (strOf (rawS n.toNat st).1)) ∧ CR w' b (rawS n.toNat st).2 ∧ w.grownBy w' (some b) := by
  rcases st with _ | bs
  · exact (rraw_bad b n w h).mono fun e w' ⟨he, hw⟩ => by subst hw; exact ⟨he, h, grown_refl _ _⟩
  · have hm : max n 0 = (n.toNat : Int) := by omega
    simp only [rawS]
    split
    · exact rraw_some b _ n bs w hm (by assumption) h
    · exact rraw_more b _ n bs w hm (by omega) h
end Go.Proofs.Ytfopnbfaaikghaa
