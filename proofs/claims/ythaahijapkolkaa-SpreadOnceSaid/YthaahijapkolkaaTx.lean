/-
  SpreadCells (layer 6): the law's function by its walk: true for any numbers, log and state. Premises: what the calls of layers 5, 6 answer.
-/
import Derived.Test.YthaahijapkolkaaTk
namespace Go.Proofs.Ythaahijapkolkaa
open Go.RowKit

set_option maxHeartbeats 400000 in
set_option maxRecDepth 100000 in
theorem tcells_long {TB : World → Addr → List Nat → Nat → Prop} (hT : TabOk TB) (A : Option Addr) (n c : Nat) (log st : Int) (w : World) (h : 300 < n) (hm : n ≤ 9223372036854775807) :
    Calls Try.prog 3 #[.slice A n c, .int .i64 log, .int .i64 st] w fun e w' => e = .returned (.bool true) ∧ Below w.heap.size w w' := by
  have Haw := Lib.hid (tawake_of hT)
  clear hT
  go_enter Try.func3, Try.ntmps3
  go_wp2_with fail
  refine (Haw.out w).mono ?_
  rintro e w1 ⟨rfl, hb1⟩
  have Hb1 := Lib.hid hb1
  clear hb1
  go_wp2
  go_ret
  exact ⟨rfl, Hb1.out⟩

set_option maxHeartbeats 1000000 in
set_option maxRecDepth 100000 in
theorem tcells_none {TB : World → Addr → List Nat → Nat → Prop} (hT : TabOk TB) (A : Option Addr) (c : Nat) (l : List Int) (log st : Int) (w : World) (h : l.length ≤ 300) (hok : ∀ x ∈ l, Bm.IntOk x) (hlog : Bm.IntOk log) (hst : Bm.IntOk st) (hr : Reads w A (i64z l)) (hf : ¬ Bm.Fair l log) :
    Calls Try.prog 3 #[.slice A l.length c, .int .i64 log, .int .i64 st] w fun e w' => e = .returned (.bool true) ∧ Below w.heap.size w w' := by
  have Haw := Lib.hid (tawake_of hT)
  have H1 : Hid (∀ W, Below w.heap.size w W → Calls Try.prog 7 #[.slice A l.length c, .int .i64 log] W fun e w' => e = .returned (.tuple #[.pointer none, .bool false]) ∧ Below W.heap.size W w') := Lib.hid (fun W hb => hT.noBuild A c l log W (by omega) hok hlog (reads_on hr hb) hf)
  have hfb : Bm.fairB l log = false := decide_eq_false hf
  have H2 : Hid (∀ W, Below w.heap.size w W → Calls Try.prog 8 #[.slice A l.length c, .int .i64 log] W fun e w' => e = .returned (.bool false) ∧ W = w') := Lib.hid (fun W hb => by
    have h1 := hfair_any A c l log W (by omega) (reads_on hr hb)
    rw [hfb] at h1
    exact h1)
  have H3 : Hid (∀ W, Calls Try.prog 9 #[.pointer none, .int .i64 st] W fun e w' => e = .returned (.tuple #[.agg #[.int .u8 0, .int .i64 0, .int .i64 0], .bool false]) ∧ Below W.heap.size W w') := Lib.hid (fun W => hT.cellNil W st hst)
  have H4 := Lib.hid hT.sizeNil
  have H5 := Lib.hid hT.logNil
  clear hT hok hlog hst hr hf hfb
  go_enter Try.func3, Try.ntmps3
  go_wp2_with fail
  refine (Haw.out w).mono ?_
  rintro e w1 ⟨rfl, hb1⟩
  have Hb1 := Lib.hid hb1
  clear hb1
  go_wp2_with fail
  refine (H1.out w1 Hb1.out).mono ?_
  rintro e w2 ⟨rfl, hb2⟩
  have Hb2 := Lib.hid (Hb1.out.trans (hb2.mono Hb1.out.size))
  clear hb2 Hb1
  go_wp2_with fail
  refine (H2.out w2 Hb2.out).mono ?_
  rintro e w' ⟨rfl, rfl⟩
  go_wp2_with fail
  refine (H3.out w2).mono ?_
  rintro e w3 ⟨rfl, hb3⟩
  have Hb3 := Lib.hid (Hb2.out.trans (hb3.mono Hb2.out.size))
  clear hb3 Hb2
  go_wp2_with fail
  refine (H4.out _).mono ?_
  rintro e w4 ⟨rfl, m4, rfl⟩
  go_wp2_with fail
  refine (H5.out _).mono ?_
  rintro e w5 ⟨rfl, m5, rfl⟩
  go_wp2
  go_ret
  exact ⟨rfl, below_drewN (Hb3.out.alloc Hb3.out.size _) _⟩

set_option maxHeartbeats 2000000 in
set_option maxRecDepth 100000 in
theorem tcells_fair {TB : World → Addr → List Nat → Nat → Prop} (hT : TabOk TB) (A : Option Addr) (c : Nat) (l : List Int) (log st : Int) (w : World) (h : l.length ≤ 300) (hok : ∀ x ∈ l, Bm.IntOk x) (hlog : Bm.IntOk log) (hst : Bm.IntOk st) (hr : Reads w A (i64z l)) (hf : Bm.Fair l log) :
    Calls Try.prog 3 #[.slice A l.length c, .int .i64 log, .int .i64 st] w fun e w' => e = .returned (.bool true) ∧ Below w.heap.size w w' := by
  have Haw := Lib.hid (tawake_of hT)
  have hfn := Bm.fair_n l log hf
  have hls : i64s (l.map Int.toNat) = i64z l := by rw [← i64z_nat, Bm.fair_map l log hf]
  have hlen : (l.map Int.toNat).length = l.length := by simp
  have hl9 : (log.toNat : Int) = log := by have := hf.1; omega
  have H1 : Hid (∀ W, Below w.heap.size w W → Calls Try.prog 7 #[.slice A l.length c, .int .i64 log] W fun e w' => ∃ p, e = .returned (.tuple #[.pointer (some p), .bool true]) ∧ TB w' p (l.map Int.toNat) log.toNat ∧ Below W.heap.size W w') := Lib.hid (fun W hb => hT.build A c l log W (by omega) hok hlog (reads_on hr hb) hf)
  have hfb : Bm.fairB l log = true := decide_eq_true hf
  have H2 : Hid (∀ W, Below w.heap.size w W → Calls Try.prog 8 #[.slice A l.length c, .int .i64 log] W fun e w' => e = .returned (.bool true) ∧ W = w') := Lib.hid (fun W hb => by
    have h1 := hfair_any A c l log W (by omega) (reads_on hr hb)
    rw [hfb] at h1
    exact h1)
  generalize hlsn : l.map Int.toNat = ls at hfn hls hlen H1
  generalize hlgn : log.toNat = lg at hfn hl9 H1
  clear hlsn hlgn
  obtain ⟨S, hS⟩ : ∃ S, S = 2 ^ lg := ⟨_, rfl⟩
  have hS32 : 32 ≤ S := by rw [hS]; exact Nat.pow_le_pow_right (n := 2) (by omega) hfn.low
  have hS512 : S ≤ 512 := by rw [hS]; exact Nat.pow_le_pow_right (n := 2) (by omega) hfn.high
  have H3 : Hid (∀ W, Below w.heap.size w W → Calls Try.prog 12 #[.slice A l.length c, .int .i64 log] W fun e w' => ∃ g, e = .returned (.slice (some ⟨g, 0, none⟩) S S) ∧ Row w' g 29 (c3 (Bm.cellsM ls lg)) ∧ Below W.heap.size W w') := Lib.hid (fun W hb => by
    have h1 := jbuild_any A c ls lg W hfn (by rw [hls]; exact reads_on hr hb)
    rw [hlen, hl9, ← hS] at h1
    exact h1.mono fun e w' ⟨g, he, _, hrow, hb⟩ => ⟨g, he, hrow, hb⟩)
  have H4 : Hid (∀ W p, TB W p ls lg → Calls Try.prog 10 #[.pointer (some p)] W fun e w' => e = .returned (.int .i64 (S : Int)) ∧ ∃ m, w' = W.drewN m) := Lib.hid (fun W p ht => by
    have h1 := hT.size W p ls lg hfn ht
    rw [← hS] at h1
    exact h1)
  have H5 : Hid (∀ W p, TB W p ls lg → Calls Try.prog 11 #[.pointer (some p)] W fun e w' => e = .returned (.int .i64 log) ∧ ∃ m, w' = W.drewN m) := Lib.hid (fun W p ht => by
    have h1 := hT.logOf W p ls lg hfn ht
    rw [hl9] at h1
    exact h1)
  have H6 : Hid (∀ W p i, i < S → TB W p ls lg → Calls Try.prog 9 #[.pointer (some p), .int .i64 (i : Int)] W fun e w' => e = .returned (.tuple #[.agg #[.int .u8 (Bm.symAt ls lg i : Int), .int .i64 (Bm.bitsAt ls lg i : Int), .int .i64 (Bm.baseAt ls lg i : Int)], .bool true]) ∧ Below W.heap.size W w') := Lib.hid (fun W p i hi ht => by
    have h1 := hT.cell W p ls lg (i : Int) hfn ht (by unfold Bm.IntOk; omega)
    have hin : 0 ≤ (i : Int) ∧ (i : Int) < ((2 ^ lg : Nat) : Int) := by rw [← hS]; omega
    rw [decide_eq_true hin] at h1
    unfold Bm.cellA at h1
    rw [if_pos hin, Int.toNat_natCast] at h1
    exact h1)
  have H7 : Hid (∀ W p, TB W p ls lg → ∃ t : Cel, (¬ (0 ≤ st ∧ st < (S : Int)) → t = (0, 0, 0)) ∧ Calls Try.prog 9 #[.pointer (some p), .int .i64 st] W fun e w' => e = .returned (.tuple #[.agg #[.int .u8 (t.1 : Int), .int .i64 (t.2.1 : Int), .int .i64 (t.2.2 : Int)], .bool (decide (0 ≤ st ∧ st < (S : Int)))]) ∧ Below W.heap.size W w') := Lib.hid (fun W p ht => by
    have h1 := hT.cell W p ls lg st hfn ht hst
    rw [← hS] at h1
    exact ⟨Bm.cellA ls lg st, fun hn => by unfold Bm.cellA; rw [if_neg (by rw [← hS]; exact hn)], h1⟩)
  have hget : Hid (∀ i, i < S → (c3 (Bm.cellsM ls lg))[i * 3]? = some (.int .u8 (Bm.symAt ls lg i : Int)) ∧ (c3 (Bm.cellsM ls lg))[i * 3 + 1]? = some (.int .i64 (Bm.bitsAt ls lg i : Int)) ∧ (c3 (Bm.cellsM ls lg))[i * 3 + 2]? = some (.int .i64 (Bm.baseAt ls lg i : Int))) := Lib.hid (fun i hi => by
    have hil : i < (Bm.cellsM ls lg).length := by rw [Bm.cellsM_length, ← hS]; exact hi
    have h1 := c3_get (Bm.cellsM ls lg) i hil
    rw [Bm.cellsM_get ls lg i hil] at h1
    exact h1)
  have hkeep := Lib.hid hT.keep
  have hsd := cel_stood
  have hgu := cel_guard
  clear hT hok hlog hr hf hfb hfn hls hlen hl9 hS hst
  go_enter Try.func3, Try.ntmps3
  go_wp2_with fail
  refine (Haw.out w).mono ?_
  rintro e w1 ⟨rfl, hb1⟩
  have Hb1 := Lib.hid hb1
  clear hb1 Haw
  go_wp2_with fail
  refine (H1.out w1 Hb1.out).mono ?_
  rintro e w2 ⟨p, rfl, ht2, hb2⟩
  have Hb2 := Lib.hid (Hb1.out.trans (hb2.mono Hb1.out.size))
  have Ht2 := Lib.hid ht2
  clear hb2 Hb1 ht2 H1
  go_wp2_with fail
  refine (H2.out w2 Hb2.out).mono ?_
  rintro e w' ⟨rfl, rfl⟩
  go_wp2_with fail
  refine (H3.out w2 Hb2.out).mono ?_
  rintro e w3 ⟨g, rfl, hrow, hb3⟩
  have Ht3 := Lib.hid (hkeep.out _ _ _ _ _ Ht2.out hb3)
  have Hb3 := Lib.hid (Hb2.out.trans (hb3.mono Hb2.out.size))
  have Hrow := Lib.hid hrow
  clear hb3 Hb2 Ht2 hrow H2 H3
  go_wp2_with fail
  refine (H4.out w3 p Ht3.out).mono ?_
  rintro e w4 ⟨rfl, hm4⟩
  have hb4 := below_of_drewN hm4
  have Ht4 := Lib.hid (hkeep.out _ _ _ _ _ Ht3.out hb4)
  have Hrow4 := Lib.hid (row_below Hrow.out hb4)
  have Hb4 := Lib.hid (Hb3.out.trans (hb4.mono Hb3.out.size))
  clear hb4 hm4 Ht3 Hb3 Hrow H4
  go_wp2_with fail
  refine (H5.out _ p Ht4.out).mono ?_
  rintro e w6 ⟨rfl, hm5⟩
  have hb5 := below_of_drewN hm5
  have Ht5 := Lib.hid (hkeep.out _ _ _ _ _ Ht4.out hb5)
  have Hrow5 := Lib.hid (row_below Hrow4.out hb5)
  have Hb5 := Lib.hid (Hb4.out.trans (hb5.mono Hb4.out.size))
  clear hb5 hm5 Ht4 Hb4 Hrow4 H5
  go_wp2
  go_loopw [6, 12, 13, 14, 15, 74] (fun _ _ _ _ _ i wr => ∃ k : Nat, k ≤ S ∧ i = .int .i64 (k : Int) ∧ Hid (TB wr p ls lg) ∧ Hid (Row wr g 29 (c3 (Bm.cellsM ls lg))) ∧ Hid (Below w.heap.size w wr)) (fun _ _ _ _ _ i _ => S - (intOf i).toNat)
  case atStart => exact ⟨0, by omega, rfl, Ht5, Hrow5, Hb5⟩
  case round =>
    obtain ⟨k, hk, rfl, ht, hrow, hbel⟩ := hrel
    clear Ht5 Hrow5 Hb5
    by_cases hkS : k < S
    · obtain ⟨e0, e1, e2⟩ := hget.out k hkS
      have c0 := (hrow.out.cell (k * 3)).trans e0
      have c1 := (hrow.out.cell (k * 3 + 1)).trans e1
      have c2 := (hrow.out.cell (k * 3 + 2)).trans e2
      have Hc := Lib.hid (fun W p ht => H6.out W p k hkS ht)
      clear e0 e1 e2
      generalize Bm.symAt ls lg k = x0 at c0 Hc
      generalize Bm.bitsAt ls lg k = x1 at c1 Hc
      generalize Bm.baseAt ls lg k = x2 at c2 Hc
      go_wp2_with fail
      obtain ⟨b, hb⟩ : ∃ b, b = wr.heap.size := ⟨_, rfl⟩
      have hrb : Row (wr.alloc (.cells #[.int .u8 (x0 : Int), .int .i64 (x1 : Int), .int .i64 (x2 : Int)] 29)) b 29 (cel3 (x0, x1, x2)) := by rw [hb]; exact Row.new wr 29 (cel3 (x0, x1, x2))
      have hba := (Below.refl wr.heap.size wr).alloc (Nat.le_refl _) (.cells #[.int .u8 (x0 : Int), .int .i64 (x1 : Int), .int .i64 (x2 : Int)] 29)
      have Hta := Lib.hid (hkeep.out _ _ _ _ _ ht.out hba)
      have Hrowa := Lib.hid (row_below hrow.out hba)
      have Hbela := Lib.hid (hbel.out.trans (hba.mono hbel.out.size))
      have Hrb := Lib.hid hrb
      rw [← hb]
      clear hrb hba ht hrow hbel c0 c1 c2 hb
      generalize (wr.alloc (.cells #[.int .u8 (x0 : Int), .int .i64 (x1 : Int), .int .i64 (x2 : Int)] 29)) = wa at Hta Hrowa Hbela Hrb ⊢
      refine (Hc.out wa p Hta.out).mono ?_
      rintro e wb ⟨rfl, hbb⟩
      have hrb := row_below Hrb.out hbb
      have d0 := hrb.cell 0
      have d1 := hrb.cell 1
      have d2 := hrb.cell 2
      simp only [cel3, List.getElem?_cons_zero, List.getElem?_cons_succ] at d0 d1 d2
      have hbl := hrb.lt
      have Htb := Lib.hid (hkeep.out _ _ _ _ _ Hta.out hbb)
      have Hrowb := Lib.hid (row_below Hrowa.out hbb)
      have Hbelb := Lib.hid (Hbela.out.trans (hbb.mono Hbela.out.size))
      clear hrb hbb Hta Hrowa Hbela Hrb
      go_wp2
      go_roundw
      case rel => exact ⟨k + 1, by omega, by go_num, Lib.hid (hkeep.out _ _ _ _ _ Htb.out ((Below.refl _ _).alloc (Nat.le_refl _) _)), Lib.hid (Hrowb.out.alloc _), Lib.hid (Hbelb.out.alloc Hbelb.out.size _)⟩
      case measure => simp [intOf]; omega
    · obtain rfl : k = S := by omega
      obtain ⟨t, htz, hct⟩ := H7.out wr p ht.out
      have Hct := Lib.hid hct
      have Htz := Lib.hid htz
      clear hct htz
      by_cases hin : 0 ≤ st ∧ st < (k : Int)
      · have hd := decide_eq_true hin
        rw [hd] at Hct
        obtain ⟨hi0, hi1⟩ := hin
        clear hd Htz
        go_wp2_with fail
        refine Hct.out.mono ?_
        rintro e w7 ⟨rfl, hb7⟩
        have Hb7 := Lib.hid (hbel.out.trans (hb7.mono hbel.out.size))
        clear hb7
        go_wp2
        go_ret
        exact ⟨rfl, Hb7.out.alloc Hb7.out.size _⟩
      · have hd := decide_eq_false hin
        rw [hd, Htz.out hin] at Hct
        clear hd Htz
        by_cases hi0 : 0 ≤ st
        · have hi1 : ¬ st < (k : Int) := fun h => hin ⟨hi0, h⟩
          have hd1 : decide (st < (k : Int)) = false := decide_eq_false hi1
          clear hin
          go_wp2_with fail
          refine Hct.out.mono ?_
          rintro e w7 ⟨rfl, hb7⟩
          have Hb7 := Lib.hid (hbel.out.trans (hb7.mono hbel.out.size))
          clear hb7
          go_wp2
          go_ret
          exact ⟨rfl, Hb7.out.alloc Hb7.out.size _⟩
        · clear hin
          go_wp2_with fail
          refine Hct.out.mono ?_
          rintro e w7 ⟨rfl, hb7⟩
          have Hb7 := Lib.hid (hbel.out.trans (hb7.mono hbel.out.size))
          clear hb7
          go_wp2
          go_ret
          exact ⟨rfl, Hb7.out.alloc Hb7.out.size _⟩
end Go.Proofs.Ythaahijapkolkaa
