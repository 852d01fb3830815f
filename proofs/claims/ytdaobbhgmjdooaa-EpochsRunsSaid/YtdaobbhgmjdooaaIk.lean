/-
  Layer 21 (epochs): the laws' awake and same (of two slices that read as one list), by their walks: true; EpochsNobody's walk. No condition beyond each theorem's premises.
-/
import Derived.Test.YtdaobbhgmjdooaaId
import Derived.RegionTactic
import Derived.BigQuiet
namespace Go.Proofs.Ytdaobbhgmjdooaa
open Go.RowKit

theorem add_x : Bm.addD ⟨#[120]⟩ [] = (1, 0, [⟨1, ⟨#[120]⟩, 0⟩]) := rfl
theorem add_y : Bm.addD ⟨#[121]⟩ [⟨1, ⟨#[120]⟩, 0⟩] = (2, 0, [⟨1, ⟨#[120]⟩, 0⟩, ⟨2, ⟨#[121]⟩, 0⟩]) := rfl
set_option maxHeartbeats 1000000 in
set_option maxRecDepth 100000 in
theorem epawake_any (w : World) : Calls Try.prog 6 #[] w fun e w' => e = .returned (.bool true) ∧ Below w.heap.size w w' := by
  have Hnew := Lib.hid (enew_any w)
  go_enter Try.func6, Try.ntmps6
  go_wp2_with fail
  refine Hnew.out.mono ?_
  rintro e w1 ⟨b, rfl, hr1, hb, hB1⟩
  have Ha := Lib.hid (eadd_any b 0 [] ⟨#[120]⟩ w1 (by decide) hr1)
  rw [add_x] at Ha
  have Hb := Lib.hid hb
  have HB1 := Lib.hid hB1
  clear hr1 hb hB1 Hnew
  go_wp2_with fail
  refine Ha.out.mono ?_
  rintro e w2 ⟨rfl, hr2, hg2⟩
  have Hadd := Lib.hid (eadd_any b 1 [⟨1, ⟨#[120]⟩, 0⟩] ⟨#[121]⟩ w2 (by decide) hr2)
  rw [add_y] at Hadd
  have HB2 := Lib.hid (HB1.out.trans (below_grown hg2 Hb.out HB1.out.size))
  clear hr2 hg2 HB1 Ha
  go_wp2_with fail
  refine Hadd.out.mono ?_
  rintro e w3 ⟨rfl, hr3, hg3⟩
  have hr3' : SG w3 b 2 [⟨1, ⟨#[120]⟩, 0⟩, ⟨2, ⟨#[121]⟩, 0⟩] := hr3
  have Ht := Lib.hid (show Calls Try.prog 13 #[.pointer (some ⟨b, 0, none⟩), .int .i64 1] w3 fun e w' => e = .returned (.tuple #[.string ⟨#[120]⟩, .bool true]) ∧ ∃ q, w' = w3.drewN q from etext_any _ 2 _ 1 w3 hr3'.toP)
  have HB3 := Lib.hid (HB2.out.trans (below_grown hg3 Hb.out HB2.out.size))
  have HR3 := Lib.hid hr3'
  clear hr3 hr3' hg3 HB2 Hadd
  go_wp2_with fail
  refine Ht.out.mono ?_
  rintro e w4 ⟨rfl, q4, rfl⟩
  have HR4 := Lib.hid (show SG (w3.drewN q4) b 2 [⟨1, ⟨#[120]⟩, 0⟩, ⟨2, ⟨#[121]⟩, 0⟩] from HR3.out.keep rfl)
  have HB4 := Lib.hid (show Below w.heap.size w (w3.drewN q4) from ⟨HB3.out.os, HB3.out.tape, HB3.out.output, HB3.out.size, HB3.out.block⟩)
  clear HR3 HB3 Ht
  generalize w3.drewN q4 = w4 at *
  have Hl := Lib.hid (show Calls Try.prog 15 #[.pointer (some ⟨b, 0, none⟩)] w4 fun e w' => e = .returned (.int .i64 2) ∧ ∃ q, w' = w4.drewN q from elast_any _ 2 _ w4 HR4.out.toP)
  go_wp2_with fail
  refine Hl.out.mono ?_
  rintro e w5 ⟨rfl, q5, rfl⟩
  have HR5 := Lib.hid (show SG (w4.drewN q5) b 2 [⟨1, ⟨#[120]⟩, 0⟩, ⟨2, ⟨#[121]⟩, 0⟩] from HR4.out.keep rfl)
  have HB5 := Lib.hid (show Below w.heap.size w (w4.drewN q5) from ⟨HB4.out.os, HB4.out.tape, HB4.out.output, HB4.out.size, HB4.out.block⟩)
  clear HR4 HB4 Hl
  generalize w4.drewN q5 = w5 at *
  have Hh := Lib.hid (show Calls Try.prog 11 #[.pointer (some ⟨b, 0, none⟩), .int .i64 1] w5 fun e w' => e = .returned (.bool true) ∧ GP w5 w' (some ⟨b, 0, none⟩) 3 [⟨1, ⟨#[120]⟩, 1⟩, ⟨2, ⟨#[121]⟩, 0⟩] from ehold_any _ 2 _ 1 w5 (by decide) HR5.out.toP)
  go_wp2_with fail
  refine Hh.out.mono ?_
  rintro e w6 ⟨rfl, hp6, hg6⟩
  have Hd := Lib.hid (show Calls Try.prog 14 #[.pointer (some ⟨b, 0, none⟩), .int .i64 1] w6 fun e w' => e = .returned (.int .i64 1) ∧ ∃ q, w' = w6.drewN q from eheld_any _ 3 _ 1 w6 hp6)
  have HB6 := Lib.hid (HB5.out.trans (below_grown (b := b) hg6 Hb.out HB5.out.size))
  clear hp6 hg6 HB5 HR5 Hh
  go_wp2_with fail
  refine Hd.out.mono ?_
  rintro e w7 ⟨rfl, q7, rfl⟩
  go_wp2
  go_ret
  exact ⟨rfl, HB6.out.os, HB6.out.tape, HB6.out.output, HB6.out.size, HB6.out.block⟩

set_option maxHeartbeats 1000000 in
set_option maxRecDepth 100000 in
theorem esame_any (A B : Option Addr) (ca cb : Nat) (l : List Nat) (w : World) (hl : l.length ≤ 1000) (ha : Reads w A (i64s l)) (hb : Reads w B (i64s l)) :
    Calls Try.prog 16 #[.slice A l.length ca, .slice B l.length cb] w fun e w' => e = .returned (.bool true) ∧ Below w.heap.size w w' := by
  have Ha := Lib.hid ha
  have Hb := Lib.hid hb
  clear ha hb
  go_enter Try.func16, Try.ntmps16
  go_wp2
  go_loopw [5, 13] (fun _ i wr => ∃ k m : Nat, k ≤ l.length ∧ i = .int .i64 (k : Int) ∧ Hid (wr = w.drewN m)) (fun _ i _ => l.length - (intOf i).toNat)
  case atStart => exact ⟨0, 0, Nat.zero_le _, rfl, Lib.hid rfl⟩
  case round =>
    obtain ⟨k, m, hk, rfl, hw⟩ := hrel
    have hwr := hw.out
    subst hwr
    clear hw
    by_cases hkl : k < l.length
    · have hne : i64s l ≠ [] := fun e => by
        have h1 := congrArg List.length e
        rw [i64s_length, List.length_nil] at h1
        omega
      obtain ⟨g, off, rfl, hc⟩ := Ha.out hne
      obtain ⟨g2, off2, rfl, hc2⟩ := Hb.out hne
      have c0 := (hc k (by rw [i64s_length]; exact hkl)).trans (i64s_get? l k hkl)
      have c1 := (hc2 k (by rw [i64s_length]; exact hkl)).trans (i64s_get? l k hkl)
      have hkI : (k : Int) < (l.length : Int) := by omega
      clear hc hc2 Ha Hb hne
      generalize l[k] = s at *
      have hbe : ((s : Int) == (s : Int)) = true := beq_self_eq_true _
      go_wp2_with fail
      go_quiet (fail)
      go_wp2
      go_roundw
      case rel => exact ⟨k + 1, _, by omega, by go_num, Lib.hid rfl⟩
      case measure => simp [intOf]; omega
    · obtain rfl : k = l.length := by omega
      go_wp2
      go_ret
      exact ⟨rfl, rfl, rfl, rfl, Nat.le_refl _, fun _ _ => rfl⟩
end Go.Proofs.Ytdaobbhgmjdooaa
