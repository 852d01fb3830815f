/-
  Layer 19's awake, small, by their walks. Conditions: as each theorem's premises say.
-/
import Derived.Test.YtaebnkeddcbmkaaGg
namespace Go.Proofs.Ytaebnkeddcbmkaa
open Go.RowKit Go.Proofs.Ytaebnkeddcbmkaa.Bm
/-- hello world. -/
def hwT : ByteArray := ⟨#[104, 101, 108, 108, 111, 32, 119, 111, 114, 108, 100]⟩
theorem hw_train : trainD [hwT, hwT] 99 = hwT := by decide +kernel
theorem hw_worth : worthL (brt [hwT, hwT]) [] hwT = 6 := by decide +kernel
theorem hw_pieces : (chosen (brt [hwT, hwT]) (min (max 10 0) 256 : Int).toNat).length = 0 := by decide +kernel
theorem maxB_on {w W : World} (h : MaxB w.heap.size w) (hb : Below w.heap.size w W) : MaxB W.heap.size W := (h.below hb).mono hb.size
set_option maxHeartbeats 1000000 in
set_option maxRecDepth 100000 in
theorem tawake_any (w : World) (hmax : MaxB w.heap.size w) : Calls Try.prog 6 #[] w fun e w' => e = .returned (.bool true) ∧ Below w.heap.size w w' := by
  obtain ⟨h, hh⟩ : ∃ h, h = hwT := ⟨_, rfl⟩
  have hr : Row (w.alloc (.cells #[.string h, .string h] 9)) w.heap.size 9 (strC [h, h]) := Row.new w 9 (strC [h, h])
  have hb0 : Below w.heap.size w (w.alloc (.cells #[.string h, .string h] 9)) := (Below.refl _ _).alloc (Nat.le_refl _) _
  have hs : ∀ s ∈ [h, h], s.size ≤ 140737488351232 := fun s hs => by
    simp at hs
    rw [hs, hh]
    decide
  have hone : Hid (∀ W, Below w.heap.size w W → Reads W (some ⟨w.heap.size, 0, none⟩) (strC [h, h]) → Calls Try.prog 11 #[.slice (some ⟨w.heap.size, 0, none⟩) 2 2, .int .i64 99] W fun e w' => e = .returned (.string h) ∧ Below W.heap.size W w') := Lib.hid (fun W hW hrd => by
    have h1 := ttrain_any (some ⟨w.heap.size, 0, none⟩) 2 [h, h] 99 W (by simp) (by simp) hs hrd (maxB_on hmax hW)
    rw [hh] at h1 ⊢
    rw [hw_train] at h1
    exact h1)
  have htwo : Hid (∀ W, Below w.heap.size w W → Reads W (some ⟨w.heap.size, 0, none⟩) (strC [h, h]) → Calls Try.prog 12 #[.slice (some ⟨w.heap.size, 0, none⟩) 2 2, .string h] W fun e w' => e = .returned (.int .i64 6) ∧ Below W.heap.size W w') := Lib.hid (fun W hW hrd => by
    have h1 := tworth_any (some ⟨w.heap.size, 0, none⟩) 2 [h, h] h W (by rw [hh]; decide) (by simp) (by simp) hs hrd
    rw [hh] at h1 ⊢
    rw [hw_worth] at h1
    exact h1)
  have hthree : Hid (∀ W, Below w.heap.size w W → Reads W (some ⟨w.heap.size, 0, none⟩) (strC [h, h]) → Calls Try.prog 8 #[.slice (some ⟨w.heap.size, 0, none⟩) 2 2, .int .i64 10] W fun e w' => (∃ A c, e = .returned (.slice A 0 c)) ∧ Below W.heap.size W w') := Lib.hid (fun W hW hrd => by
    have h1 := tpieces_any (some ⟨w.heap.size, 0, none⟩) 2 [h, h] 10 W (by simp) (by simp) hs hrd (maxB_on hmax hW)
    refine h1.mono ?_
    rintro e w' ⟨v, rfl, ho, hb⟩
    obtain ⟨A, c, rfl, _, _, _⟩ := ho.reads
    rw [hh, hw_pieces]
    exact ⟨⟨A, c, rfl⟩, hb⟩)
  have heq : (h.toList == (⟨#[104, 101, 108, 108, 111, 32, 119, 111, 114, 108, 100]⟩ : ByteArray).toList) = true := by rw [hh]; exact beq_self_eq_true _
  have Hr0 := Lib.hid (row_reads hr)
  have Hb0 := Lib.hid hb0
  have Hhh : Hid ((⟨#[104, 101, 108, 108, 111, 32, 119, 111, 114, 108, 100]⟩ : ByteArray) = h) := Lib.hid (by rw [hh]; rfl)
  have Hrow := Lib.hid hr
  clear hs hr hb0 hmax hh
  go_enter Try.func6, Try.ntmps6
  rw [Hhh.out] at heq ⊢
  go_wp2_with fail
  refine (hone.out _ Hb0.out Hr0.out).mono ?_
  rintro e w1 ⟨rfl, hb1⟩
  have Hb1 := Lib.hid (Hb0.out.trans (hb1.mono Hb0.out.size))
  have Hr1 := Lib.hid (reads_on Hr0.out hb1)
  clear hb1
  go_wp2_with fail
  refine (htwo.out _ Hb1.out Hr1.out).mono ?_
  rintro e w2 ⟨rfl, hb2⟩
  have Hb2 := Lib.hid (Hb1.out.trans (hb2.mono Hb1.out.size))
  have Hr2 := Lib.hid (reads_on Hr1.out hb2)
  clear hb2
  go_wp2_with fail
  refine (hthree.out _ Hb2.out Hr2.out).mono ?_
  rintro e w3 ⟨⟨A, c, rfl⟩, hb3⟩
  have Hb3 := Lib.hid (Hb2.out.trans (hb3.mono Hb2.out.size))
  clear hb3
  go_wp2
  go_ret
  exact ⟨rfl, Hb3.out⟩
set_option maxHeartbeats 1000000 in
set_option maxRecDepth 100000 in
theorem tsmall_any (A : Option Addr) (c : Nat) (R : List ByteArray) (most bytes : Nat) (w : World) (hm : most ≤ 1000) (hb : bytes ≤ 1000) (hR : R.length ≤ 9223372036854775807) (hs : ∀ s ∈ R, s.size ≤ 140737488351232) (hrd : Reads w A (strC R)) :
    Calls Try.prog 7 #[.slice A R.length c, .int .i64 (most : Int), .int .i64 (bytes : Int)] w fun e w' => e = .returned (.bool (decide (R.length ≤ most ∧ sizeT R ≤ bytes))) ∧ w' = w := by
  obtain ⟨r, hr⟩ : ∃ r, r = decide (R.length ≤ most ∧ sizeT R ≤ bytes) := ⟨_, rfl⟩
  rw [← hr]
  have Hr := Lib.hid hr
  have Hrd := Lib.hid hrd
  have Hs := Lib.hid hs
  clear hr hrd hs
  by_cases hmR : most < R.length
  · have hrf : Hid (r = false) := Lib.hid (by rw [Hr.out]; exact decide_eq_false (by omega))
    have d0 : decide ((most : Int) < (R.length : Int)) = true := decide_eq_true (by omega)
    go_enter Try.func7, Try.ntmps7
    go_wp2
    go_ret
    exact ⟨congrArg (fun x => Ending.returned (Value.bool x)) hrf.out.symm, rfl⟩
  have d0 : decide ((most : Int) < (R.length : Int)) = false := decide_eq_false (by omega)
  go_enter Try.func7, Try.ntmps7
  go_wp2
  clear d0
  go_loopw [2, 15] (fun bv iv wr => ∃ i x : Nat, iv = .int .i64 (i : Int) ∧ i ≤ R.length ∧ bv = .int .i64 (x : Int) ∧ x ≤ bytes ∧ Hid (sizeT (R.take i) + x = bytes) ∧ wr = w) (fun _ iv _ => R.length - (intOf iv).toNat)
  case atStart => exact ⟨0, bytes, rfl, Nat.zero_le _, rfl, Nat.le_refl _, Lib.hid (by simp [sizeT]), rfl⟩
  case round =>
    obtain ⟨i, x, rfl, hi, rfl, hx, Hx, rfl⟩ := hrel
    by_cases hil : i < R.length
    · obtain ⟨gA, oA, eA, hcA⟩ := reads_str Hrd.out (by omega)
      subst eA
      have hcell := hcA i hil
      obtain ⟨s, hsd⟩ : ∃ s, s = R[i] := ⟨_, rfl⟩
      rw [← hsd] at hcell
      have hss : s.size ≤ 140737488351232 := by rw [hsd]; exact Hs.out _ (List.getElem_mem hil)
      have Hts : Hid (sizeT (R.take (i + 1)) = sizeT (R.take i) + s.size) := Lib.hid (by rw [List.take_succ_eq_append_getElem hil, sizeT_snoc, ← hsd])
      have Hle : Hid (sizeT (R.take (i + 1)) ≤ sizeT R) := Lib.hid (by
        have h1 : sizeT R = sizeT (R.take (i + 1)) + sizeT (R.drop (i + 1)) := by
          conv => lhs; rw [← List.take_append_drop (i + 1) R]
          unfold sizeT
          rw [List.map_append, List.sum_append]
        omega)
      clear hcA hsd
      by_cases hlt : x < s.size
      · have hrf : Hid (r = false) := Lib.hid (by
          rw [Hr.out]
          refine decide_eq_false ?_
          have h1 := Hx.out
          have h2 := Hts.out
          have h3 := Hle.out
          omega)
        have d0 : decide ((x : Int) - (s.size : Int) < 0) = true := decide_eq_true (by omega)
        go_wp2
        go_ret
        exact ⟨congrArg (fun x => Ending.returned (Value.bool x)) hrf.out.symm, rfl⟩
      · have d0 : decide ((x : Int) - (s.size : Int) < 0) = false := decide_eq_false (by omega)
        have Hx2 : Hid (sizeT (R.take (i + 1)) + (x - s.size) = bytes) := Lib.hid (by
          have h1 := Hx.out
          have h2 := Hts.out
          omega)
        go_wp2
        go_roundw
        case rel => exact ⟨i + 1, x - s.size, by go_num, by omega, by go_num, by omega, Hx2, by first | rfl | trivial⟩
        case measure => simp [intOf]; omega
    · have hrt : Hid (r = true) := Lib.hid (by
        rw [Hr.out]
        refine decide_eq_true ?_
        have h1 := Hx.out
        rw [List.take_of_length_le (by omega)] at h1
        omega)
      go_wp2
      go_ret
      exact ⟨congrArg (fun x => Ending.returned (Value.bool x)) hrt.out.symm, rfl⟩
end Go.Proofs.Ytaebnkeddcbmkaa
