/-
  SpreadSteps (layer 6): the law's function by its walk: true for any numbers, log, state, symbol and bits. Premises: what the calls of layers 5, 6 answer.
-/
import Derived.Test.YthaahijapkolkaaTk
import Derived.Deep.DeepCutAuto
namespace Go.Proofs.Ythaahijapkolkaa
open Go.RowKit

set_option maxHeartbeats 1000000 in
set_option maxRecDepth 100000 in
theorem tsteps_long {TB : World → Addr → List Nat → Nat → Prop} (hT : TabOk TB) (A : Option Addr) (n c : Nat) (log n0 n1 n2 : Int) (w : World) (h : 300 < n) (hm : n ≤ 9223372036854775807) :
    Calls Try.prog 4 #[.slice A n c, .int .i64 log, .agg #[.int .i64 n0, .int .i64 n1, .int .i64 n2]] w fun e w' => e = .returned (.bool true) ∧ Below w.heap.size w w' := by
  have Haw := Lib.hid (fun w => tawake_of hT w)
  have Hba := Lib.hid ((Below.refl w.heap.size w).alloc (Nat.le_refl _) (.cells #[.int .i64 n0, .int .i64 n1, .int .i64 n2] 36))
  clear hT
  go_enter Try.func4, Try.ntmps4
  go_wp2_with fail
  refine (Haw.out _).mono ?_
  rintro e w1 ⟨rfl, hb1⟩
  have Hb1 := Lib.hid (Hba.out.trans (hb1.mono Hba.out.size))
  clear hb1
  go_wp2
  go_ret
  exact ⟨rfl, Hb1.out⟩

set_option maxHeartbeats 1000000 in
set_option maxRecDepth 100000 in
theorem tsteps_none {TB : World → Addr → List Nat → Nat → Prop} (hT : TabOk TB) (A : Option Addr) (c : Nat) (l : List Int) (log n0 n1 n2 : Int) (w : World) (h : l.length ≤ 300) (hr : Reads w A (i64z l)) (hf : ¬ Bm.Fair l log) :
    Calls Try.prog 4 #[.slice A l.length c, .int .i64 log, .agg #[.int .i64 n0, .int .i64 n1, .int .i64 n2]] w fun e w' => e = .returned (.bool true) ∧ Below w.heap.size w w' := by
  have Haw := Lib.hid (fun w => tawake_of hT w)
  have Hba := Lib.hid ((Below.refl w.heap.size w).alloc (Nat.le_refl _) (.cells #[.int .i64 n0, .int .i64 n1, .int .i64 n2] 36))
  have hfb : Bm.fairB l log = false := decide_eq_false hf
  have H2 : Hid (∀ W, Below w.heap.size w W → Calls Try.prog 8 #[.slice A l.length c, .int .i64 log] W fun e w' => e = .returned (.bool false) ∧ W = w') := Lib.hid (fun W hb => by
    have h1 := hfair_any A c l log W (by omega) (reads_on hr hb)
    rw [hfb] at h1
    exact h1)
  clear hT hr hf hfb
  go_enter Try.func4, Try.ntmps4
  go_wp2_with fail
  refine (Haw.out _).mono ?_
  rintro e w1 ⟨rfl, hb1⟩
  have Hb1 := Lib.hid (Hba.out.trans (hb1.mono Hba.out.size))
  clear hb1
  go_wp2_with fail
  refine (H2.out w1 Hb1.out).mono ?_
  rintro e w' ⟨rfl, rfl⟩
  go_wp2
  go_ret
  exact ⟨rfl, Hb1.out⟩

set_option maxHeartbeats 8000000 in
set_option maxRecDepth 100000 in
/-- The law's walk, what its calls answer given as letters. -/
theorem tsteps_walk {TB : World → Addr → List Nat → Nat → Prop} (A : Option Addr) (c n S s : Nat) (log n0 n1 n2 : Int) (ls : List Nat) (lg : Nat) (pP vV kK : Nat) (isB inB : Bool) (nx : Int) (fb : Bool) (w : World)
    (h : n ≤ 300) (hS32 : 32 ≤ S) (hS512 : S ≤ 512) (hs : IntKind.u8.wrap n1 = (s : Int)) (hs256 : s < 256)
    (Haw : Hid (∀ w, Calls Try.prog 6 #[] w fun e w' => e = .returned (.bool true) ∧ Below w.heap.size w w'))
    (hkeep : Hid (∀ w W p, TB w p ls lg → Below w.heap.size w W → TB W p ls lg))
    (H1 : Hid (∀ W, Below w.heap.size w W → Calls Try.prog 7 #[.slice A n c, .int .i64 log] W fun e w' => ∃ p, e = .returned (.tuple #[.pointer (some p), .bool true]) ∧ TB w' p ls lg ∧ Below W.heap.size W w'))
    (H2 : Hid (∀ W, Below w.heap.size w W → Calls Try.prog 8 #[.slice A n c, .int .i64 log] W fun e w' => e = .returned (.bool true) ∧ W = w'))
    (H3 : Hid (∀ W, Below w.heap.size w W → Calls Try.prog 12 #[.slice A n c, .int .i64 log] W fun e w' => ∃ g, e = .returned (.slice (some ⟨g, 0, none⟩) S S) ∧ Row w' g 29 (c3 (Bm.cellsM ls lg)) ∧ Below W.heap.size W w'))
    (H4 : Hid (∀ W p, TB W p ls lg → Calls Try.prog 13 #[.pointer (some p), .int .i64 n0, .int .u8 (s : Int)] W fun e w' => e = .returned (.tuple #[.int .i64 (pP : Int), .int .i64 (vV : Int), .int .i64 (kK : Int), .bool isB]) ∧ Below W.heap.size W w'))
    (hin : inB = decide (0 ≤ n0 ∧ n0 < (S : Int) ∧ s < n))
    (H5 : Hid (inB = true → ∀ W g, Row W g 29 (c3 (Bm.cellsM ls lg)) → Calls Try.prog 14 #[.slice (some ⟨g, 0, none⟩) S S, .int .i64 n0, .int .u8 (s : Int)] W fun e w' => e = .returned (.tuple #[.int .i64 (pP : Int), .int .i64 (vV : Int), .bool isB]) ∧ Below W.heap.size W w'))
    (hno : isB = false → pP = 0 ∧ vV = 0 ∧ kK = 0)
    (hout : inB = false → isB = false)
    (hyes : isB = true → pP < S ∧ (c3 (Bm.cellsM ls lg))[pP * 3 + 1]? = some (.int .i64 (kK : Int)))
    (H6 : Hid (isB = true → ∀ W p, TB W p ls lg → Calls Try.prog 15 #[.pointer (some p), .int .i64 (pP : Int), .int .i64 (vV : Int)] W fun e w' => e = .returned (.tuple #[.int .i64 n0, .bool true]) ∧ Below W.heap.size W w'))
    (H7 : Hid (∀ W p, TB W p ls lg → Calls Try.prog 15 #[.pointer (some p), .int .i64 n0, .int .i64 n2] W fun e w' => e = .returned (.tuple #[.int .i64 nx, .bool fb]) ∧ Below W.heap.size W w'))
    (hway : (n0 < 0 ∧ fb = false ∧ nx = 0) ∨ ((S : Int) ≤ n0 ∧ fb = false ∧ nx = 0) ∨ ∃ st b z : Nat, n0 = (st : Int) ∧ st < S ∧ b ≤ 20 ∧ z ≤ 1000000 ∧ (c3 (Bm.cellsM ls lg))[st * 3 + 1]? = some (.int .i64 (b : Int)) ∧ (c3 (Bm.cellsM ls lg))[st * 3 + 2]? = some (.int .i64 (z : Int)) ∧
      ((n2 < 0 ∧ fb = false ∧ nx = 0) ∨ (0 ≤ n2 ∧ ((2 ^ b : Nat) : Int) ≤ n2 ∧ fb = false ∧ nx = 0) ∨ (0 ≤ n2 ∧ n2 < ((2 ^ b : Nat) : Int) ∧ fb = true ∧ nx = (z : Int) + n2))) :
    Calls Try.prog 4 #[.slice A n c, .int .i64 log, .agg #[.int .i64 n0, .int .i64 n1, .int .i64 n2]] w fun e w' => e = .returned (.bool true) ∧ Below w.heap.size w w' := by
  obtain ⟨b0, hb0⟩ : ∃ b, b = w.heap.size := ⟨_, rfl⟩
  have hrb : Row (w.alloc (.cells #[.int .i64 n0, .int .i64 n1, .int .i64 n2] 36)) b0 36 [.int .i64 n0, .int .i64 n1, .int .i64 n2] := by rw [hb0]; exact Row.new w 36 [.int .i64 n0, .int .i64 n1, .int .i64 n2]
  have Hrb := Lib.hid hrb
  have Hba := Lib.hid ((Below.refl w.heap.size w).alloc (Nat.le_refl _) (.cells #[.int .i64 n0, .int .i64 n1, .int .i64 n2] 36))
  have Hb0 := Lib.hid hb0
  have Hs := Lib.hid hs
  have Hin := Lib.hid hin
  have Hno := Lib.hid hno
  have Hout := Lib.hid hout
  have Hyes := Lib.hid hyes
  have Hway := Lib.hid hway
  clear hrb hb0 hs hin hno hout hyes hway
  go_enter Try.func4, Try.ntmps4
  go_wp2_with fail
  rw [← Hb0.out]
  refine (Haw.out _).mono ?_
  rintro e w1 ⟨rfl, hb1⟩
  have Hrb1 := Lib.hid (row_below Hrb.out hb1)
  have Hb1 := Lib.hid (Hba.out.trans (hb1.mono Hba.out.size))
  clear hb1 Hrb Hba Haw Hb0
  go_wp2_with fail
  refine (H2.out w1 Hb1.out).mono ?_
  rintro e w' ⟨rfl, rfl⟩
  go_wp2_with fail
  refine (H1.out w1 Hb1.out).mono ?_
  rintro e w2 ⟨p, rfl, ht2, hb2⟩
  have Hrb2 := Lib.hid (row_below Hrb1.out hb2)
  have Hb2 := Lib.hid (Hb1.out.trans (hb2.mono Hb1.out.size))
  have Ht2 := Lib.hid ht2
  clear hb2 ht2 Hrb1 Hb1 H1 H2
  go_wp2_with fail
  refine (H3.out w2 Hb2.out).mono ?_
  rintro e w3 ⟨g, rfl, hrow, hb3⟩
  have hrb3 := row_below Hrb2.out hb3
  have Hb3 := Lib.hid (Hb2.out.trans (hb3.mono Hb2.out.size))
  have Ht3 := Lib.hid (hkeep.out _ _ _ Ht2.out hb3)
  have Hrow3 := Lib.hid hrow
  have a0 := hrb3.cell 0
  have a1 := hrb3.cell 1
  simp only [List.getElem?_cons_zero, List.getElem?_cons_succ] at a0 a1
  have Hrb3 := Lib.hid hrb3
  have hs := Hs.out
  clear hb3 hrow hrb3 Hrb2 Hb2 Ht2 H3
  go_wp2_with fail
  go_quiet (fail)
  go_wp2_with fail
  have Ht4 := Lib.hid (hkeep.out _ _ _ Ht3.out (below_drewN (Below.refl _ _) nq))
  have Hrow4 : Hid (Row (w3.drewN nq) g 29 (c3 (Bm.cellsM ls lg))) := Hrow3
  have Hrb4 : Hid (Row (w3.drewN nq) b0 36 [.int .i64 n0, .int .i64 n1, .int .i64 n2]) := Hrb3
  have Hb4 := Lib.hid (below_drewN Hb3.out nq)
  clear Ht3 Hrow3 Hrb3 Hb3 a0 a1 hs
  generalize (w3.drewN nq) = w4 at Ht4 Hrow4 Hrb4 Hb4 ⊢
  refine (H4.out w4 p Ht4.out).mono ?_
  rintro e w5 ⟨rfl, hb5⟩
  have Ht5 := Lib.hid (hkeep.out _ _ _ Ht4.out hb5)
  have Hrow5 := Lib.hid (row_below Hrow4.out hb5)
  have Hrb5 := Lib.hid (row_below Hrb4.out hb5)
  have Hb5 := Lib.hid (Hb4.out.trans (hb5.mono Hb4.out.size))
  clear hb5 Ht4 Hrow4 Hrb4 Hb4 H4
  go_upto_region 12 with fail
  go_cut [73] (fun s73 wx => s73 = .bool inB ∧ wx = w5)
  case first =>
    have hv : ∀ v : Bool, decide (0 ≤ n0 ∧ n0 < (S : Int) ∧ s < n) = v → v = inB := fun v e => by rw [Hin.out, e]
    have Hv := Lib.hid hv
    clear H5 H6 H7 Hway Hyes Hno Hout Hin Hs hkeep Ht5 Hrow5 Hrb5 Hb5 hv
    by_cases h1 : 0 ≤ n0
    · by_cases h2 : n0 < (S : Int)
      · by_cases h3 : s < n
        · have He := Lib.hid (Hv.out true (decide_eq_true ⟨h1, h2, h3⟩))
          go_wp2_with fail
          go_meet
          exact ⟨congrArg Value.bool He.out, rfl⟩
        · have He := Lib.hid (Hv.out false (decide_eq_false (fun e => h3 e.2.2)))
          have hd3 : decide ((s : Int) < (n : Int)) = false := decide_eq_false (by omega)
          go_wp2_with fail
          go_meet
          exact ⟨congrArg Value.bool He.out, rfl⟩
      · have He := Lib.hid (Hv.out false (decide_eq_false (fun e => h2 e.2.1)))
        have hd2 : decide (n0 < (S : Int)) = false := decide_eq_false h2
        go_wp2_with fail
        go_meet
        exact ⟨congrArg Value.bool He.out, rfl⟩
    · have He := Lib.hid (Hv.out false (decide_eq_false (fun e => h1 e.1)))
      have hd1 : decide (0 ≤ n0) = false := decide_eq_false h1
      go_wp2_with fail
      go_meet
      exact ⟨congrArg Value.bool He.out, rfl⟩
  case rest =>
    obtain ⟨rfl, rfl⟩ := hcut
    clear Hin Hs
    have htail : isB = false ∨ isB = true := by cases isB <;> simp
    rcases htail with hB | hB
    all_goals rcases hI : inB with _ | _
    case inr.false => exact absurd (Hout.out hI) (by rw [hB]; simp)
    case' inl.false =>
      obtain ⟨rfl, rfl, rfl⟩ := Hno.out hB
      subst hB hI
      have Ht7 := Ht5
      have Hrow7 := Hrow5
      have Hrb7 := Hrb5
      have Hb7 := Hb5
      clear Hout Hno Hyes H5 H6 Ht5 Hrow5 Hrb5 Hb5
    case' inl.true =>
      obtain ⟨rfl, rfl, rfl⟩ := Hno.out hB
      have Hj := Lib.hid (H5.out hI)
      subst hB hI
      clear Hout Hno Hyes H5 H6
      go_wp2_with fail
      refine (Hj.out wc g Hrow5.out).mono ?_
      rintro e w6 ⟨rfl, hb6⟩
      have Ht7 := Lib.hid (hkeep.out _ _ _ Ht5.out hb6)
      have Hrow7 := Lib.hid (row_below Hrow5.out hb6)
      have Hrb7 := Lib.hid (row_below Hrb5.out hb6)
      have Hb7 := Lib.hid (Hb5.out.trans (hb6.mono Hb5.out.size))
      clear hb6 Ht5 Hrow5 Hrb5 Hb5 Hj
    case' inr.true =>
      obtain ⟨hps, hget⟩ := Hyes.out hB
      have Hj := Lib.hid (H5.out hI)
      have Hn := Lib.hid (H6.out hB)
      subst hB hI
      clear Hout Hno Hyes H5 H6
      go_wp2_with fail
      refine (Hj.out wc g Hrow5.out).mono ?_
      rintro e w6 ⟨rfl, hb6⟩
      have Ht6 := Lib.hid (hkeep.out _ _ _ Ht5.out hb6)
      have Hrow6 := Lib.hid (row_below Hrow5.out hb6)
      have Hrb6 := Lib.hid (row_below Hrb5.out hb6)
      have Hb6 := Lib.hid (Hb5.out.trans (hb6.mono Hb5.out.size))
      clear hb6 Ht5 Hrow5 Hrb5 Hb5 Hj
      go_wp2_with fail
      refine (Hn.out w6 p Ht6.out).mono ?_
      rintro e w7 ⟨rfl, hb7⟩
      have Ht7 := Lib.hid (hkeep.out _ _ _ Ht6.out hb7)
      have Hrow7 := Lib.hid (row_below Hrow6.out hb7)
      have Hrb7 := Lib.hid (row_below Hrb6.out hb7)
      have Hb7 := Lib.hid (Hb6.out.trans (hb7.mono Hb6.out.size))
      have ck := (Hrow7.out.cell (pP * 3 + 1)).trans hget
      clear hb7 Ht6 Hrow6 Hrb6 Hb6 Hn hget
    all_goals
      have a2 := Hrb7.out.cell 2
      simp only [List.getElem?_cons_zero, List.getElem?_cons_succ] at a2
      go_wp2_with fail
      refine (H7.out _ p Ht7.out).mono ?_
      rintro e w8 ⟨rfl, hb8⟩
      have hrow8 := row_below Hrow7.out hb8
      have hrb8 := row_below Hrb7.out hb8
      have Hb8 := Lib.hid (Hb7.out.trans (hb8.mono Hb7.out.size))
      have Hrow8 := Lib.hid hrow8
      have b2 := hrb8.cell 2
      simp only [List.getElem?_cons_zero, List.getElem?_cons_succ] at b2
      clear hb8 hrow8 hrb8 Ht7 Hrow7 Hrb7 Hb7 H7 a2
      rcases Hway.out with ⟨hn0, rfl, rfl⟩ | ⟨hn0, rfl, rfl⟩ | ⟨st, b, z, rfl, hst, hb20, hz, e1, e2, hw⟩
      · have hd0 : decide (n0 < 0) = true := decide_eq_true hn0
        clear Hway Hrow8
        go_wp2_with fail
        go_quiet (fail)
        go_wp2
        go_ret
        exact ⟨rfl, below_drewN Hb8.out _⟩
      · have hd0 : decide (n0 < 0) = false := decide_eq_false (by omega)
        have hd1 : decide ((S : Int) ≤ n0) = true := decide_eq_true hn0
        clear Hway Hrow8
        go_wp2_with fail
        go_quiet (fail)
        go_wp2
        go_ret
        exact ⟨rfl, below_drewN Hb8.out _⟩
      · have hd0 : decide ((st : Int) < 0) = false := decide_eq_false (by omega)
        have hd1 : decide (S ≤ st) = false := decide_eq_false (by omega)
        have k1 := (Hrow8.out.cell (st * 3 + 1)).trans e1
        have k2 := (Hrow8.out.cell (st * 3 + 2)).trans e2
        have hms : 2 ^ b ≤ 1048576 := by
          have h2 : 2 ^ b ≤ 2 ^ 20 := Nat.pow_le_pow_right (by omega) hb20
          have h3 : (2 : Nat) ^ 20 = 1048576 := by decide
          omega
        have hsz : ∀ W, Calls Try.prog 16 #[.int .i64 (b : Int)] W fun e w' => e = .returned (.int .i64 ((2 ^ b : Nat) : Int)) ∧ W = w' := fun W => hsize_any _ W (by omega)
        have Hsz := Lib.hid hsz
        clear Hway Hrow8 e1 e2 hsz
        generalize 2 ^ b = P at hms Hsz hw
        rcases hw with ⟨hn2, rfl, rfl⟩ | ⟨hn2, hm, rfl, rfl⟩ | ⟨hn2, hm, rfl, rfl⟩
        · have hd2 : decide (n2 < 0) = true := decide_eq_true hn2
          go_wp2_with fail
          go_quiet (fail)
          go_wp2
          go_ret
          exact ⟨rfl, below_drewN Hb8.out _⟩
        · have hd2 : decide (n2 < 0) = false := decide_eq_false (by omega)
          have hd3 : decide ((P : Int) ≤ n2) = true := decide_eq_true hm
          go_wp2_with fail
          go_quiet ((go_at_call 16; exact quiet_left6 (Hsz.out _)))
          go_wp2
          go_ret
          exact ⟨rfl, below_drewN Hb8.out _⟩
        · have hd2 : decide (n2 < 0) = false := decide_eq_false (by omega)
          have hd3 : decide ((P : Int) ≤ n2) = false := decide_eq_false (by omega)
          have hd4 : ((z : Int) + n2 == (z : Int) + n2) = true := by simp
          go_wp2_with fail
          go_quiet ((go_at_call 16; exact quiet_left6 (Hsz.out _)))
          go_wp2_with fail
          go_quiet (fail)
          go_wp2
          go_ret
          exact ⟨rfl, below_drewN (below_drewN Hb8.out _) _⟩
end Go.Proofs.Ythaahijapkolkaa
