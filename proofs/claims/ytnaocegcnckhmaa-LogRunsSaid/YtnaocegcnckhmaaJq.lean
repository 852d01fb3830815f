/-
  Layer 26 (log): the laws' same (of two slices that read as one list) and awake, by their walks: true. Conditions: as each theorem's premises say.
-/
import Derived.Test.YtnaocegcnckhmaaJo
namespace Go.Proofs.Ytnaocegcnckhmaa
open Go.RowKit

set_option maxHeartbeats 1000000 in
set_option maxRecDepth 100000 in
theorem lgsame_any (A B : Option Addr) (ca cb : Nat) (l : List ByteArray) (w : World) (hl : l.length ≤ 1000) (ha : Reads w A (strC l)) (hb : Reads w B (strC l)) :
    Calls Try.prog 18 #[.slice A l.length ca, .slice B l.length cb] w fun e w' => e = .returned (.bool true) ∧ ∃ q, w' = w.drewN q := by
  have Ha := Lib.hid ha
  have Hb := Lib.hid hb
  clear ha hb
  go_enter Try.func18, Try.ntmps18
  go_wp2
  go_loopw [5, 13] (fun _ i wr => ∃ k m : Nat, k ≤ l.length ∧ i = .int .i64 (k : Int) ∧ Hid (wr = w.drewN m)) (fun _ i _ => l.length - (intOf i).toNat)
  case atStart => exact ⟨0, 0, Nat.zero_le _, rfl, Lib.hid rfl⟩
  case round =>
    obtain ⟨k, m, hk, rfl, hw⟩ := hrel
    have hwr := hw.out
    subst hwr
    clear hw
    by_cases hkl : k < l.length
    · obtain ⟨g, off, rfl, hc⟩ := reads_str Ha.out (by omega)
      obtain ⟨g2, off2, rfl, hc2⟩ := reads_str Hb.out (by omega)
      have c0 := hc k hkl
      have c1 := hc2 k hkl
      have hkI : (k : Int) < (l.length : Int) := by omega
      clear hc hc2 Ha Hb
      generalize l[k] = s at *
      have hbe : (s.toList == s.toList) = true := beq_self_eq_true _
      go_wp2_with fail
      go_quiet (fail)
      go_wp2
      go_roundw
      case rel => exact ⟨k + 1, _, by omega, by go_num, Lib.hid rfl⟩
      case measure => simp [intOf]; omega
    · obtain rfl : k = l.length := by omega
      go_wp2
      go_ret
      exact ⟨rfl, _, rfl⟩
theorem lgawake_app1 : Bm.lgApp [] ⟨#[120]⟩ = (0, 0, [⟨#[120]⟩]) := rfl
theorem lgawake_app2 : Bm.lgApp [⟨#[120]⟩] ⟨#[121]⟩ = (1, 0, [⟨#[120]⟩, ⟨#[121]⟩]) := rfl
theorem lgawake_tr : Bm.lgTr [⟨#[120]⟩, ⟨#[121]⟩] 0 1 = (true, 1) := rfl
theorem lgawake_at0 : Bm.lgAt [⟨#[120]⟩, ⟨#[121]⟩] 1 0 = (⟨#[]⟩, 7) := rfl
theorem lgawake_at1 : Bm.lgAt [⟨#[120]⟩, ⟨#[121]⟩] 1 1 = (⟨#[121]⟩, 0) := rfl
set_option maxHeartbeats 1000000 in
set_option maxRecDepth 100000 in
theorem lgawake_any (w : World) : Calls Try.prog 6 #[] w fun e w' => e = .returned (.bool true) ∧ Below w.heap.size w w' := by
  have Hnew := Lib.hid (lgnew_any w)
  go_enter Try.func6, Try.ntmps6
  go_wp2_with fail
  refine Hnew.out.mono ?_
  rintro e w1 ⟨b, rfl, hr1, hb, hB1⟩
  have Ha := Lib.hid (lgappend_any b [] 0 ⟨#[120]⟩ w1 hr1)
  rw [lgawake_app1] at Ha
  have Hb := Lib.hid hb
  have HB1 := Lib.hid hB1
  clear hr1 hb hB1 Hnew
  go_wp2_with fail
  refine Ha.out.mono ?_
  rintro e w2 ⟨rfl, hr2, hg2⟩
  have Hadd := Lib.hid (lgappend_any b [⟨#[120]⟩] 0 ⟨#[121]⟩ w2 hr2)
  rw [lgawake_app2] at Hadd
  have HB2 := Lib.hid (HB1.out.trans (below_grown hg2 Hb.out HB1.out.size))
  clear hr2 hg2 HB1 Ha
  go_wp2_with fail
  refine Hadd.out.mono ?_
  rintro e w3 ⟨rfl, hr3, hg3⟩
  have Ht := Lib.hid (lgtrunc_any b _ 0 1 w3 hr3)
  rw [lgawake_tr] at Ht
  have HB3 := Lib.hid (HB2.out.trans (below_grown hg3 Hb.out HB2.out.size))
  clear hr3 hg3 HB2 Hadd
  go_wp2_with fail
  refine Ht.out.mono ?_
  rintro e w4 ⟨rfl, hr4, hg4⟩
  have Hat0 := Lib.hid (lgat_any _ _ 1 0 w4 hr4.some_)
  rw [lgawake_at0] at Hat0
  have Hat1 := Lib.hid (fun q => lgat_any _ _ 1 1 (w4.drewN q) (hr4.some_.keep rfl))
  rw [lgawake_at1] at Hat1
  have Hlen := Lib.hid (fun q => lglen_any _ _ 1 (w4.drewN q) (hr4.some_.keep rfl))
  have HB4 := Lib.hid (HB3.out.trans (below_grown hg4 Hb.out HB3.out.size))
  clear hr4 hg4 HB3 Ht
  go_wp2_with fail
  refine Hat0.out.mono ?_
  rintro e w5 ⟨rfl, q5, rfl⟩
  go_wp2_with fail
  refine (Hat1.out q5).mono ?_
  rintro e w6 ⟨rfl, q6, rfl⟩
  rw [World.drewN_drewN]
  go_wp2_with fail
  refine (Hlen.out (q5 + q6)).mono ?_
  rintro e w7 ⟨rfl, q7, rfl⟩
  go_wp2
  go_ret
  exact ⟨rfl, HB4.out.os, HB4.out.tape, HB4.out.output, HB4.out.size, HB4.out.block⟩
end Go.Proofs.Ytnaocegcnckhmaa
