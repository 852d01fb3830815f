/-
  put and shift of layer 22 (pipe), by their walks. Conditions: as each theorem's premises say (no place beyond the last one).
-/
import Derived.Test.YtckmdeiahpijcaaXi
namespace Go.Proofs.Ytckmdeiahpijcaa
open Go.RowKit

set_option maxHeartbeats 1000000 in
set_option maxRecDepth 100000 in
theorem ppput_any (b f i : Nat) (G : Bm.Plc) (c fl m h n : Nat) (l : List Nat) (sent : Bool) (w : World) (hi : i + l.length ≤ 2048) (hlt : ∀ x ∈ l, x < 256) (k : PW w b f G c fl m h n) :
    Calls Try.prog 33 #[.pointer (some ⟨b, 0, none⟩), .int .i64 (i : Int), .string (strOf l), .bool sent] w fun e w' => e = .returned (.tuple #[]) ∧ PW w' b f (Bm.putG G i (Bm.itms sent l)) c fl m h n ∧ w.grownBy w' (some b) := by
  have hsz := strOf_size l
  have Hidx : Hid (∀ (i : Nat) (W : World) (hi : i < l.length), (Instr.index 9 (.string (strOf l)) (.int .i64 (i : Int))).run Try.prog W = .ok (.int .u8 ((l[i] : Nat) : Int)) W) := Lib.hid (fun i W hi => index_at l i W hi (hlt _ (List.getElem_mem hi)))
  have Hf := Lib.hid k.cells.2.2.2.2.2.2.2
  have HG : Hid (∀ j (hj : j < l.length), Bm.setG (Bm.putG G i ((Bm.itms sent l).take j)) (i + j) (l[j], sent) = Bm.putG G i ((Bm.itms sent l).take (j + 1))) := Lib.hid fun j hj => by
    have := Bm.putG_step G i (Bm.itms sent l) j (by rw [Bm.itms_length]; exact hj)
    rwa [show (Bm.itms sent l)[j]'(by rw [Bm.itms_length]; exact hj) = (l[j], sent) by simp [Bm.itms]] at this
  have Hend : Hid ((Bm.itms sent l).take l.length = Bm.itms sent l) := Lib.hid (List.take_of_length_le (by rw [Bm.itms_length]; exact Nat.le_refl _))
  have Hat := Lib.hid (fun (W : World) (j : Nat) (hj : j ≤ 2048) hc => ppat_any b f j W Hf.out hj hc)
  have Hk := Lib.hid k
  clear hlt k
  generalize strOf l = s at hsz Hidx ⊢
  go_enter Try.func33, Try.ntmps33
  go_wp2
  go_loopw [8, 11] (fun _ x wr => ∃ j : Nat, j ≤ l.length ∧ x = .int .i64 (j : Int) ∧ Hid (PW wr b f (Bm.putG G i ((Bm.itms sent l).take j)) c fl m h n) ∧ Hid (w.grownBy wr (some b))) (fun _ x _ => l.length - (intOf x).toNat)
  case atStart => exact ⟨0, Nat.zero_le _, rfl, Lib.hid (by rw [List.take_zero, Bm.putG_nil]; exact Hk.out), Lib.hid (grown_refl w _)⟩
  case round =>
    obtain ⟨j, hj, rfl, hpw, hgr⟩ := hrel
    clear Hk
    by_cases hjl : j < l.length
    · have hx := fun W => Hidx.out j W hjl
      have Hg := Lib.hid (HG.out j hjl)
      have Hij := Lib.hid (show i + j < 2048 by omega)
      have hc0 := hpw.out.cells.1
      obtain ⟨k0, k1⟩ := hpw.out.at (i + j) Hij.out
      have f0 := hpw.out.cells.2.2.2.2.2.2.1 (2 * Bm.posR f 2048 (i + j))
      have f1 := hpw.out.cells.2.2.2.2.2.2.1 (2 * Bm.posR f 2048 (i + j) + 1)
      have HPW := Lib.hid (fun x => hpw.out.item (i + j) Hij.out x)
      have Ha := Lib.hid (Hat.out wr.drew (i + j) (Nat.le_of_lt Hij.out) hc0)
      have hsum : (i : Int) + (j : Int) = ((i + j : Nat) : Int) := by omega
      clear Hidx HG hc0 hpw
      generalize Bm.putG G i ((Bm.itms sent l).take j) = G1 at *
      generalize hG2 : Bm.putG G i ((Bm.itms sent l).take (j + 1)) = G2 at *
      have HG2 := Lib.hid hG2
      clear hG2
      generalize l[j] = x at *
      clear Hend Hat
      generalize hij : i + j = ij at *
      have hw : IntKind.i64.wrap (ij : Int) = (ij : Int) := IntWalk.i64_in _ (by have := Hij.out; omega)
      clear hij
      generalize Bm.posR f 2048 ij = q at *
      go_wp2_with fail
      go_region_held3 (fun W : World => True) (first | trivial) ((go_at_call 43; refine Ha.out.mono ?_; rintro e w1 ⟨rfl, q5, rfl⟩))
      all_goals
        have HP2 := Lib.hid (HPW.out (x, sent))
        rw [Hg.out] at HP2
        have HP3 := Lib.hid (show PW (((wr.drewN (1 + q5)).setCell ⟨b, 2 * q, none⟩ (.int .u8 (x : Int))).setCell ⟨b, 2 * q + 1, none⟩ (.bool sent)) b f G2 c fl m h n from HP2.out.keep rfl)
        have HG3 := Lib.hid (grown_set (grown_set (grown_drewN hgr.out (1 + q5)) (2 * q) (.int .u8 (x : Int))) (2 * q + 1) (.bool sent))
        clear HP2 HPW Hg Ha k0 k1 f0 f1 hgr
        go_wp2
        go_roundw
        case rel => exact ⟨j + 1, by omega, by go_num, by rw [HG2.out]; exact HP3, HG3⟩
        case measure => simp [intOf]; omega
    · obtain rfl : j = l.length := by omega
      have Hp := Lib.hid hpw.out
      rw [Hend.out] at Hp
      go_wp2
      go_end0
      exact ⟨rfl, Hp.out, hgr.out⟩

set_option maxHeartbeats 1000000 in
set_option maxRecDepth 100000 in
theorem ppshift_any (b f : Nat) (G : Bm.Plc) (c fl m h n a : Nat) (w : World) (ha : c + fl + a ≤ 2048) (k : PW w b f G c fl m h n) :
    Calls Try.prog 41 #[.pointer (some ⟨b, 0, none⟩), .int .i64 (a : Int)] w fun e w' => e = .returned (.tuple #[]) ∧ PW w' b f (Bm.shiftG G a c (c + fl)) c fl m h n ∧ w.grownBy w' (some b) := by
  have Hf := Lib.hid k.cells.2.2.2.2.2.2.2
  have hc1 := k.cells.2.1
  have hc2 := k.cells.2.2.1
  have Hat := Lib.hid (fun (W : World) (j : Nat) (hj : j ≤ 2048) hc => ppat_any b f j W Hf.out hj hc)
  have Hk := Lib.hid k
  have hsum : (c : Int) + (fl : Int) = ((c + fl : Nat) : Int) := by omega
  generalize he : c + fl = e at *
  have He := Lib.hid he
  clear he k
  go_enter Try.func41, Try.ntmps41
  go_wp2_with fail
  go_quiet (fail)
  clear hc1 hc2 hsum
  go_wp2
  go_loopw [4] (fun x wr => ∃ j : Nat, c ≤ j ∧ j ≤ e ∧ x = .int .i64 ((j : Int) - 1) ∧ Hid (PW wr b f (Bm.shiftG G a j e) c fl m h n) ∧ Hid (w.grownBy wr (some b))) (fun x _ => (intOf x + 1).toNat)
  case atStart => exact ⟨e, by have := He.out; omega, Nat.le_refl _, rfl, Lib.hid (by rw [Bm.shiftG_end]; exact Hk.out.keep rfl), Lib.hid (grown_drewN (grown_refl w _) nq)⟩
  case round =>
    obtain ⟨j, hcj, hje, rfl, hpw, hgr⟩ := hrel
    have hcc := hpw.out.cells.2.1
    clear Hk He
    by_cases hlt : c < j
    · obtain ⟨t, rfl⟩ : ∃ t, j = t + 1 := ⟨j - 1, by omega⟩
      have ht1 : ((t + 1 : Nat) : Int) - 1 = (t : Int) := by omega
      rw [ht1]
      have Ht1 := Lib.hid ht1
      have hct : c ≤ t := by omega
      have hctI : decide ((c : Int) ≤ (t : Int)) = true := decide_eq_true (by omega)
      have hta : (t : Int) + (a : Int) = ((t + a : Nat) : Int) := by omega
      have Hg := Lib.hid (Bm.shiftG_step G a t e (by omega))
      have Hgt := Lib.hid (Bm.shiftG_at G a t e)
      have Hta := Lib.hid (show t + a < 2048 by omega)
      have Htl := Lib.hid (show t < 2048 by omega)
      obtain ⟨k0, k1⟩ := hpw.out.at t Htl.out
      obtain ⟨k2, k3⟩ := hpw.out.at (t + a) Hta.out
      have f2 := hpw.out.cells.2.2.2.2.2.2.1 (2 * Bm.posR f 2048 (t + a))
      have f3 := hpw.out.cells.2.2.2.2.2.2.1 (2 * Bm.posR f 2048 (t + a) + 1)
      have HPW := Lib.hid (hpw.out.item (t + a) Hta.out (G t))
      have Ha := Lib.hid (Hat.out wr (t + a) (Nat.le_of_lt Hta.out) hpw.out.cells.1)
      have Ha2 := Lib.hid (fun q => Hat.out (wr.drewN q) t (Nat.le_of_lt Htl.out) hpw.out.cells.1)
      rw [Hg.out] at HPW
      rw [Hgt.out] at k0 k1
      have Hgr := Lib.hid hgr.out
      clear hpw hgr Hat Hg Hgt
      generalize hG2 : Bm.shiftG G a t e = G2 at *
      have HG2 := Lib.hid hG2
      clear hG2
      generalize Bm.shiftG G a (t + 1) e = G1 at *
      generalize hij : t + a = ta at *
      have hw : IntKind.i64.wrap (ta : Int) = (ta : Int) := IntWalk.i64_in _ (by have := Hta.out; omega)
      clear hij
      generalize Bm.posR f 2048 ta = q at *
      generalize Bm.posR f 2048 t = q2 at *
      generalize G t = x at *
      go_wp2_with fail
      refine Ha.out.mono ?_
      rintro e w1 ⟨rfl, d1, rfl⟩
      go_wp2_with fail
      refine (Ha2.out d1).mono ?_
      rintro e w1 ⟨rfl, d2, rfl⟩
      clear Ha Ha2
      go_wp2
      exact ⟨⟨t, hct, by omega, rfl, by rw [HG2.out]; exact Lib.hid (HPW.out.keep rfl), Lib.hid (grown_set (grown_set (grown_drewN Hgr.out (d1 + d2)) (2 * q) _) (2 * q + 1) _)⟩, by simp [intOf]⟩
    · have hctI : decide ((c : Int) ≤ (j : Int) - 1) = false := decide_eq_false (by omega)
      obtain rfl : j = c := by omega
      have Hp := Lib.hid hpw.out
      have Hgr := Lib.hid hgr.out
      clear hpw hgr Hat
      go_wp2
      go_end0
      exact ⟨rfl, Hp.out, Hgr.out⟩
end Go.Proofs.Ytckmdeiahpijcaa
