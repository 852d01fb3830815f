/-
  PipeRuns (layer 22): the law's function by its walk, where there are no more than 100 deeds: true. No condition beyond the theorem's premises.
-/
import Derived.Test.YtholenecikkijaaXd
namespace Go.Proofs.Ytholenecikkijaa
open Go.RowKit

set_option maxHeartbeats 2000000 in
set_option maxRecDepth 100000 in
theorem ppruns_in (A : Option Addr) (c : Nat) (xs : List Ped) (x : Int) (w : World) (hl : xs.length ≤ 100) (hx : ArgPd w A xs.length c xs) :
    Calls Try.prog 3 #[.slice A xs.length c, .int .i64 x] w fun e w' => e = .returned (.bool true) ∧ Below w.heap.size w w' := by
  have Haw := Lib.hid (ppawake_any w)
  have hd : decide (100 < (xs.length : Int)) = false := decide_eq_false (by omega)
  have Hm := Lib.hid (Bm.most_le x)
  have Hok := Lib.hid hx.2.1
  have Hcell := Lib.hid hx.2.2.1
  clear hx
  go_enter Try.func3, Try.ntmps3
  go_wp2_with fail
  refine Haw.out.mono ?_
  rintro e w1 ⟨rfl, hb1⟩
  have HB1 := Lib.hid hb1
  have Hnew := Lib.hid (ppnew_any x w1)
  clear hb1 Haw
  go_wp2_with fail
  refine Hnew.out.mono ?_
  rintro e w2 ⟨b, rfl, hP2, hb, hb2⟩
  have HB2 := Lib.hid (HB1.out.trans (hb2.mono HB1.out.size))
  have Hb := Lib.hid (Nat.le_trans HB1.out.size hb)
  have HP2 := Lib.hid hP2
  have Hrn := Lib.hid (rpnew_any x w2)
  clear hP2 hb2 hb Hnew HB1
  go_wp2_with fail
  refine Hrn.out.mono ?_
  rintro e w3 ⟨rfl, hR3, hb3⟩
  have HJ3 : Hid (PJ w3 b w2.heap.size (w2.heap.size + 1) (Bm.mostN x) 0) := Lib.hid ⟨[], 0, [], 0, [], [], _, 0, HP2.out.below hb3, hR3, Bm.Agr.new, Nat.le_refl _⟩
  have HB3 := Lib.hid (HB2.out.trans (hb3.mono HB2.out.size))
  have Hp : Hid (w.heap.size ≤ w2.heap.size) := Lib.hid HB2.out.size
  have Hbp : Hid (b < w2.heap.size) := Lib.hid HP2.out.lt
  clear hR3 hb3 HP2 HB2 Hrn
  generalize hbs : w2.heap.size + 1 = base at *
  generalize w2.heap.size = p at *
  have Hbs := Lib.hid (show p < base by omega)
  clear hbs hd
  generalize Bm.mostN x = m at *
  go_wp2
  go_loopw [8, 9, 10, 11, 12, 13, 14, 15, 27] (fun _ _ _ _ _ _ _ _ i wr => ∃ k : Nat, k ≤ xs.length ∧ i = .int .i64 (k : Int) ∧ Hid (PJ wr b p base m k) ∧ Hid (Below w.heap.size w wr)) (fun _ _ _ _ _ _ _ _ i _ => xs.length - (intOf i).toNat)
  case atStart => exact ⟨0, Nat.zero_le _, rfl, HJ3, HB3⟩
  case round =>
    obtain ⟨k, hk, rfl, hE, hbel⟩ := hrel
    have HE := Lib.hid hE.out
    clear HJ3 HB3 hE
    by_cases hkl : k < xs.length
    · obtain ⟨g, off, rfl, hg, hc⟩ := Hcell.out (by omega)
      obtain ⟨q0, q1, q2⟩ := (hc k hkl).below hbel.out hg
      obtain ⟨o0, o1⟩ := Hok.out xs[k] (List.getElem_mem hkl)
      have hkI : (k : Int) < (xs.length : Int) := by omega
      have Hk100 : Hid (k ≤ 100) := Lib.hid (by omega)
      clear hc
      generalize xs[k] = dd at *
      obtain ⟨kd, nn, tx⟩ := dd
      simp only at q0 q1 q2 o0 o1
      go_upto_region 9 with fail
      have hdr := Row.new wr 29 [.int .u8 (kd : Int), .int .i64 nn, .string tx]
      have hda : Below wr.heap.size wr (wr.alloc (.cells #[.int .u8 (kd : Int), .int .i64 nn, .string tx] 29)) := (Below.refl _ _).alloc (Nat.le_refl _) _
      have HEA := Lib.hid (HE.out.below hda)
      have HBA := Lib.hid (hbel.out.trans (hda.mono hbel.out.size))
      have HD := Lib.hid (show Row (wr.alloc (.cells #[.int .u8 (kd : Int), .int .i64 nn, .string tx] 29)) wr.heap.size 29 [.int .u8 (kd : Int), .int .i64 nn, .string tx] from hdr)
      have Hbd := Lib.hid (show b < wr.heap.size ∧ p < wr.heap.size ∧ base ≤ wr.heap.size from by
        obtain ⟨S, a, K, t, kc, kf, h, n, h1, h2, _⟩ := HE.out
        exact ⟨h1.lt, h2.lt.1, h2.lt.2.2⟩)
      clear hdr hda HE hbel q0 q1 q2 hg Hcell Hok
      generalize wr.alloc (.cells #[.int .u8 (kd : Int), .int .i64 nn, .string tx] 29) = wA at *
      generalize wr.heap.size = dB at *
      have e0 := HD.out.cell 0
      have e1 := HD.out.cell 1
      have e2 := HD.out.cell 2
      simp only [List.getElem?_cons_zero, List.getElem?_cons_succ] at e0 e1 e2
      by_cases ht : 40 < tx.size
      · have hdt : decide (40 < (tx.size : Int)) = true := decide_eq_true (by omega)
        go_wp2
        go_ret
        exact ⟨rfl, HBA.out⟩
      have hdt : decide (40 < (tx.size : Int)) = false := decide_eq_false (by omega)
      have Htx : Hid (tx.size ≤ 40) := Lib.hid (by omega)
      clear ht
      go_upto_region 12 with fail
      go_cut [37] from 35 to 37 (fun s37 wx => wx = wA ∧ (s37 = .int .u8 0 ∨ s37 = .int .u8 1 ∨ s37 = .int .u8 2 ∨ s37 = .int .u8 3 ∨ s37 = .int .u8 4))
      case first =>
        have hm : (kd : Int) % 5 = 0 ∨ (kd : Int) % 5 = 1 ∨ (kd : Int) % 5 = 2 ∨ (kd : Int) % 5 = 3 ∨ (kd : Int) % 5 = 4 := by omega
        go_wp2
        go_meet
        rcases hm with h | h | h | h | h
        · exact ⟨rfl, Or.inl (by rw [← h])⟩
        · exact ⟨rfl, Or.inr (Or.inl (by rw [← h]))⟩
        · exact ⟨rfl, Or.inr (Or.inr (Or.inl (by rw [← h])))⟩
        · exact ⟨rfl, Or.inr (Or.inr (Or.inr (Or.inl (by rw [← h]))))⟩
        · exact ⟨rfl, Or.inr (Or.inr (Or.inr (Or.inr (by rw [← h]))))⟩
      case rest =>
      obtain ⟨hwc, h37⟩ := hcut
      have hwc2 := hwc.symm
      subst hwc2
      apply_assumption
      obtain ⟨tl, rfl, hlt⟩ := of_string tx
      have htl := strOf_size tl
      rw [htl] at Htx hdt
      have Htl := Lib.hid hlt
      clear hdt hlt
      go_cut [9] (fun s9 wx => s9 = .bool true ∧ Hid (PJ wx b p base m (k + 1)) ∧ Hid (Below w.heap.size w wx))
      case first =>
        have Hpm := Lib.hid (show m ≤ 2048 from Hm.out.2.1)
        obtain ⟨S, a, K, t, kc, kf, h, n, hP, hR, hA, hS⟩ := HEA.out
        have HP := Lib.hid hP
        have HR := Lib.hid hR
        have HA := Lib.hid hA
        have HS := Lib.hid (show S.length ≤ 4000 by have := Hk100.out; omega)
        have HS40 := Lib.hid hS
        have hsum : kc.length + kf.length ≤ m := by obtain ⟨_, _, _, _, h9, _⟩ := hP; exact h9
        have HKl := Lib.hid (show K.length ≤ 2048 by have := hA.cameLen; have := Hpm.out; omega)
        obtain ⟨q, hq⟩ : ∃ q, q = m - kc.length - kf.length := ⟨_, rfl⟩
        have Hq := Lib.hid (show q + (S.length - a) + K.length = m by have h1 := hA.fly; have h2 := hA.cameLen; omega)
        have Hq2 := Lib.hid hq.symm
        clear hP hR hA hS hsum hq HEA
        rcases h37 with rfl | rfl | rfl | rfl | rfl
        · obtain ⟨r, hr⟩ : ∃ r, decide (tl.length ≤ q) = r := ⟨_, rfl⟩
          have HX := Lib.hid (fun W hk => ppsend_r (b := b) (kc := kc) (kf := kf) (m := m) (h := h) (n := n) W tl r (by rw [Hq2.out]; exact hr) Htl.out hk)
          have HY := Lib.hid (fun W hk => rpsend_r (p := p) (base := base) (m := m) (S := S) (a := a) (K := K) W tl r q Hpm.out (by have := HS.out; omega) HA.out.le Hq.out hr hk)
          clear hr
          go_wp2_with fail
          have HPd := Lib.hid (show PI wA.drew b kc kf m h n from HP.out.keep rfl)
          have HRd := Lib.hid (show RPi wA.drew p base m S a K from HR.out)
          have HDd := Lib.hid (show Row wA.drew dB 29 [.int .u8 (kd : Int), .int .i64 nn, .string (strOf tl)] from HD.out)
          have HBd := Lib.hid (show Below w.heap.size w wA.drew from ⟨HBA.out.os, HBA.out.tape, HBA.out.output, HBA.out.size, HBA.out.block⟩)
          go_region_held3 (fun W : World => W.cell? ⟨dB, 2, none⟩ = some (.string (strOf tl))) (first | exact e2 | exact cX | exact cY | exact cZ) (first
            | (go_at_call 9; first | ((with_reducible refine (HX.out _ HPd.out).mono ?_); rintro e wX ⟨rfl, hpX, hgX⟩; have HPX := Lib.hid hpX; have HRX := Lib.hid (HRd.out.grown hgX Hbp.out); have HDX := Lib.hid (HDd.out.keep (hgX.block dB HDd.out.lt (fun e => by injection e with e; have := Hbd.out.1; omega))); have HBX := Lib.hid (HBd.out.trans (below_grown hgX Hb.out HBd.out.size)); have cX := HDX.out.cell 2; simp only [List.getElem?_cons_zero, List.getElem?_cons_succ] at cX; clear hpX hgX) | ((with_reducible refine (HX.out _ HPY.out).mono ?_); rintro e wZ ⟨rfl, hpX, hgX⟩; have HPZ := Lib.hid hpX; have HRZ := Lib.hid (HRY.out.grown hgX Hbp.out); have HDZ := Lib.hid (HDY.out.keep (hgX.block dB HDY.out.lt (fun e => by injection e with e; have := Hbd.out.1; omega))); have HBZ := Lib.hid (HBY.out.trans (below_grown hgX Hb.out HBY.out.size)); have cZ := HDZ.out.cell 2; simp only [List.getElem?_cons_zero, List.getElem?_cons_succ] at cZ; clear hpX hgX))
            | (go_at_call 10; first | ((with_reducible refine (HY.out _ HRd.out).mono ?_); rintro e wY ⟨rfl, hrY, hkY⟩; have HRY := Lib.hid hrY; have HPY := Lib.hid (HPd.out.kept hkY Hbp.out Hbs.out); have HDY := Lib.hid (hkY.row HDd.out (by have := Hbd.out.2.1; omega) (by decide)); have HBY := Lib.hid (HBd.out.trans ((hkY.below Hbs.out (Nat.le_of_lt HRd.out.lt.1)).mono Hp.out)); have cY := HDY.out.cell 2; simp only [List.getElem?_cons_zero, List.getElem?_cons_succ] at cY; clear hrY hkY) | ((with_reducible refine (HY.out _ HRX.out).mono ?_); rintro e wZ ⟨rfl, hrY, hkY⟩; have HRZ := Lib.hid hrY; have HPZ := Lib.hid (HPX.out.kept hkY Hbp.out Hbs.out); have HDZ := Lib.hid (hkY.row HDX.out (by have := Hbd.out.2.1; omega) (by decide)); have HBZ := Lib.hid (HBX.out.trans ((hkY.below Hbs.out (Nat.le_of_lt HRX.out.lt.1)).mono Hp.out)); have cZ := HDZ.out.cell 2; simp only [List.getElem?_cons_zero, List.getElem?_cons_succ] at cZ; clear hrY hkY)))
          all_goals
            have HJZ : Hid (PJ wZ b p base m (k + 1)) := Lib.hid ⟨_, _, _, t, _, _, h, n, HPZ.out, HRZ.out, (by cases r with | true => exact HA.out.send tl Htl.out | false => exact HA.out), (by have := HS40.out; have := Htx.out; cases r with | true => (show (S ++ tl).length ≤ _; rw [List.length_append]; omega) | false => (show S.length ≤ _; omega))⟩
            clear HX HY HPd HRd HDd HBd HPZ HRZ HDZ
            go_wp2
            go_meet
            exact ⟨by simp, HJZ, HBZ⟩
        · obtain ⟨r, hr⟩ : ∃ r, Bm.comeN nn kf.length = r := ⟨_, rfl⟩
          have hrk := (Bm.come_le nn kf.length).1
          rw [hr] at hrk
          have Hrk := Lib.hid hrk
          have HX := Lib.hid (fun W hk => ppdel_any b kc kf m h n nn r W hr hk)
          have HY := Lib.hid (fun W hk => rpdel_any p base m S a K nn r W (by rw [← HA.out.fly]; exact hr) HA.out.le (by have := HS.out; omega) (by have := HKl.out; omega) hk)
          clear hr hrk
          go_wp2_with fail
          have HPd := Lib.hid (show PI wA.drew b kc kf m h n from HP.out.keep rfl)
          have HRd := Lib.hid (show RPi wA.drew p base m S a K from HR.out)
          have HDd := Lib.hid (show Row wA.drew dB 29 [.int .u8 (kd : Int), .int .i64 nn, .string (strOf tl)] from HD.out)
          have HBd := Lib.hid (show Below w.heap.size w wA.drew from ⟨HBA.out.os, HBA.out.tape, HBA.out.output, HBA.out.size, HBA.out.block⟩)
          go_region_held3 (fun W : World => W.cell? ⟨dB, 1, none⟩ = some (.int .i64 nn)) (first | exact e1 | exact cX | exact cY | exact cZ) (first
            | (go_at_call 11; first | ((with_reducible refine (HX.out _ HPd.out).mono ?_); rintro e wX ⟨rfl, hpX, hgX⟩; have HPX := Lib.hid hpX; have HRX := Lib.hid (HRd.out.grown hgX Hbp.out); have HDX := Lib.hid (HDd.out.keep (hgX.block dB HDd.out.lt (fun e => by injection e with e; have := Hbd.out.1; omega))); have HBX := Lib.hid (HBd.out.trans (below_grown hgX Hb.out HBd.out.size)); have cX := HDX.out.cell 1; simp only [List.getElem?_cons_zero, List.getElem?_cons_succ] at cX; clear hpX hgX) | ((with_reducible refine (HX.out _ HPY.out).mono ?_); rintro e wZ ⟨rfl, hpX, hgX⟩; have HPZ := Lib.hid hpX; have HRZ := Lib.hid (HRY.out.grown hgX Hbp.out); have HDZ := Lib.hid (HDY.out.keep (hgX.block dB HDY.out.lt (fun e => by injection e with e; have := Hbd.out.1; omega))); have HBZ := Lib.hid (HBY.out.trans (below_grown hgX Hb.out HBY.out.size)); have cZ := HDZ.out.cell 1; simp only [List.getElem?_cons_zero, List.getElem?_cons_succ] at cZ; clear hpX hgX))
            | (go_at_call 12; first | ((with_reducible refine (HY.out _ HRd.out).mono ?_); rintro e wY ⟨rfl, hrY, hkY⟩; have HRY := Lib.hid hrY; have HPY := Lib.hid (HPd.out.kept hkY Hbp.out Hbs.out); have HDY := Lib.hid (hkY.row HDd.out (by have := Hbd.out.2.1; omega) (by decide)); have HBY := Lib.hid (HBd.out.trans ((hkY.below Hbs.out (Nat.le_of_lt HRd.out.lt.1)).mono Hp.out)); have cY := HDY.out.cell 1; simp only [List.getElem?_cons_zero, List.getElem?_cons_succ] at cY; clear hrY hkY) | ((with_reducible refine (HY.out _ HRX.out).mono ?_); rintro e wZ ⟨rfl, hrY, hkY⟩; have HRZ := Lib.hid hrY; have HPZ := Lib.hid (HPX.out.kept hkY Hbp.out Hbs.out); have HDZ := Lib.hid (hkY.row HDX.out (by have := Hbd.out.2.1; omega) (by decide)); have HBZ := Lib.hid (HBX.out.trans ((hkY.below Hbs.out (Nat.le_of_lt HRX.out.lt.1)).mono Hp.out)); have cZ := HDZ.out.cell 1; simp only [List.getElem?_cons_zero, List.getElem?_cons_succ] at cZ; clear hrY hkY)))
          all_goals
            have HJZ : Hid (PJ wZ b p base m (k + 1)) := Lib.hid ⟨_, _, _, t, _, _, h, n, HPZ.out, HRZ.out, HA.out.deliver r Hrk.out, (by have := HS40.out; omega)⟩
            clear HX HY HPd HRd HDd HBd HPZ HRZ HDZ
            go_wp2
            go_meet
            exact ⟨by simp, HJZ, HBZ⟩
        · obtain ⟨r, hr⟩ : ∃ r, decide (tl.length ≤ q) = r := ⟨_, rfl⟩
          have HX := Lib.hid (fun W hk => ppinj_r (b := b) (kc := kc) (kf := kf) (m := m) (h := h) (n := n) W tl r (by rw [Hq2.out]; exact hr) Htl.out hk)
          have HY := Lib.hid (fun W hk => rpinj_r (p := p) (base := base) (m := m) (S := S) (a := a) (K := K) W tl r q Hpm.out (by have := HS.out; omega) HA.out.le Hq.out hr Htl.out hk)
          clear hr
          go_wp2_with fail
          have HPd := Lib.hid (show PI wA.drew b kc kf m h n from HP.out.keep rfl)
          have HRd := Lib.hid (show RPi wA.drew p base m S a K from HR.out)
          have HDd := Lib.hid (show Row wA.drew dB 29 [.int .u8 (kd : Int), .int .i64 nn, .string (strOf tl)] from HD.out)
          have HBd := Lib.hid (show Below w.heap.size w wA.drew from ⟨HBA.out.os, HBA.out.tape, HBA.out.output, HBA.out.size, HBA.out.block⟩)
          go_region_held3 (fun W : World => W.cell? ⟨dB, 2, none⟩ = some (.string (strOf tl))) (first | exact e2 | exact cX | exact cY | exact cZ) (first
            | (go_at_call 13; first | ((with_reducible refine (HX.out _ HPd.out).mono ?_); rintro e wX ⟨rfl, hpX, hgX⟩; have HPX := Lib.hid hpX; have HRX := Lib.hid (HRd.out.grown hgX Hbp.out); have HDX := Lib.hid (HDd.out.keep (hgX.block dB HDd.out.lt (fun e => by injection e with e; have := Hbd.out.1; omega))); have HBX := Lib.hid (HBd.out.trans (below_grown hgX Hb.out HBd.out.size)); have cX := HDX.out.cell 2; simp only [List.getElem?_cons_zero, List.getElem?_cons_succ] at cX; clear hpX hgX) | ((with_reducible refine (HX.out _ HPY.out).mono ?_); rintro e wZ ⟨rfl, hpX, hgX⟩; have HPZ := Lib.hid hpX; have HRZ := Lib.hid (HRY.out.grown hgX Hbp.out); have HDZ := Lib.hid (HDY.out.keep (hgX.block dB HDY.out.lt (fun e => by injection e with e; have := Hbd.out.1; omega))); have HBZ := Lib.hid (HBY.out.trans (below_grown hgX Hb.out HBY.out.size)); have cZ := HDZ.out.cell 2; simp only [List.getElem?_cons_zero, List.getElem?_cons_succ] at cZ; clear hpX hgX))
            | (go_at_call 14; first | ((with_reducible refine (HY.out _ HRd.out).mono ?_); rintro e wY ⟨rfl, hrY, hkY⟩; have HRY := Lib.hid hrY; have HPY := Lib.hid (HPd.out.kept hkY Hbp.out Hbs.out); have HDY := Lib.hid (hkY.row HDd.out (by have := Hbd.out.2.1; omega) (by decide)); have HBY := Lib.hid (HBd.out.trans ((hkY.below Hbs.out (Nat.le_of_lt HRd.out.lt.1)).mono Hp.out)); have cY := HDY.out.cell 2; simp only [List.getElem?_cons_zero, List.getElem?_cons_succ] at cY; clear hrY hkY) | ((with_reducible refine (HY.out _ HRX.out).mono ?_); rintro e wZ ⟨rfl, hrY, hkY⟩; have HRZ := Lib.hid hrY; have HPZ := Lib.hid (HPX.out.kept hkY Hbp.out Hbs.out); have HDZ := Lib.hid (hkY.row HDX.out (by have := Hbd.out.2.1; omega) (by decide)); have HBZ := Lib.hid (HBX.out.trans ((hkY.below Hbs.out (Nat.le_of_lt HRX.out.lt.1)).mono Hp.out)); have cZ := HDZ.out.cell 2; simp only [List.getElem?_cons_zero, List.getElem?_cons_succ] at cZ; clear hrY hkY)))
          all_goals
            have HJZ : Hid (PJ wZ b p base m (k + 1)) := Lib.hid ⟨_, _, _, t, _, _, h, n, HPZ.out, HRZ.out, (by cases r with | true => exact HA.out.inject tl Htl.out | false => exact HA.out), (by have := HS40.out; omega)⟩
            clear HX HY HPd HRd HDd HBd HPZ HRZ HDZ
            go_wp2
            go_meet
            exact ⟨by simp, HJZ, HBZ⟩
        · obtain ⟨x1, v1, sd, has, K', t', kc', h', n', hX, hY, hA'⟩ := take_both (p := p) (base := base) (m := m) wA (by have := HS.out; omega) (by have := HKl.out; omega) HP.out HA.out
          have HX := Lib.hid hX
          have HY := Lib.hid hY
          have HA' := Lib.hid hA'
          have hst := ppb_stood
          have hgu := ppb_guard
          clear hX hY hA'
          go_wp2_with fail
          refine HX.out.mono ?_
          rintro e wX ⟨rfl, hpX, hgX⟩
          unfold ppB
          have HPX := Lib.hid hpX
          have HRX := Lib.hid (HR.out.grown hgX Hbp.out)
          have HBX := Lib.hid (HBA.out.trans (below_grown hgX Hb.out HBA.out.size))
          clear hpX hgX HX
          go_upto_region 21 with fail
          have hda : Below wX.heap.size wX (wX.alloc (.cells #[.int .u8 (x1 : Int), .int .u64 (v1 : Int), .bool sd] 34)) := (Below.refl _ _).alloc (Nat.le_refl _) _
          have HPY := Lib.hid (HPX.out.below hda)
          have HRY := Lib.hid (HRX.out.below hda)
          have HBY := Lib.hid (HBX.out.trans (hda.mono HBX.out.size))
          have HIY := Lib.hid (Row.new wX 34 [.int .u8 (x1 : Int), .int .u64 (v1 : Int), .bool sd])
          have Hib := Lib.hid (show p < wX.heap.size from HRX.out.lt.1)
          clear hda HPX HRX HBX
          generalize wX.alloc (.cells #[.int .u8 (x1 : Int), .int .u64 (v1 : Int), .bool sd] 34) = wY at *
          generalize wX.heap.size = ib at *
          go_wp2_with fail
          refine (HY.out wY HRY.out).mono ?_
          rintro e wZ ⟨rfl, hrZ, hkZ⟩
          have HIZ := Lib.hid (hkZ.row HIY.out (by have := Hib.out; omega) (by decide))
          have j0 := HIZ.out.cell 0
          have j1 := HIZ.out.cell 1
          have j2 := HIZ.out.cell 2
          simp only [List.getElem?_cons_zero, List.getElem?_cons_succ] at j0 j1 j2
          have HBZ := Lib.hid (HBY.out.trans ((hkZ.below Hbs.out (Nat.le_of_lt HRY.out.lt.1)).mono Hp.out))
          have HJZ : Hid (PJ wZ b p base m (k + 1)) := Lib.hid ⟨S, a, K', t', kc', kf, h', n', HPY.out.kept hkZ Hbp.out Hbs.out, hrZ, HA'.out, by have := HS40.out; omega⟩
          clear hrZ hkZ HY HPY HRY HBY HIY HIZ
          go_wp2
          go_meet
          exact ⟨by first | rfl | simp, HJZ, HBZ⟩
        · by_cases h4 : nn.tmod 4 = 0
          · have d4 : (nn.tmod 4 == 0) = true := by rw [h4]; rfl
            have Hcl := Lib.hid (ppclear_any b kc kf m h n wA HP.out)
            go_wp2_with fail
            refine Hcl.out.mono ?_
            rintro e wX ⟨rfl, hpX, hgX⟩
            have HPX := Lib.hid hpX
            have HRX := Lib.hid (HR.out.grown hgX Hbp.out)
            have HBX := Lib.hid (HBA.out.trans (below_grown hgX Hb.out HBA.out.size))
            have Hrc := Lib.hid (rpclear_any p base m S a K wX HRX.out)
            clear hpX hgX Hcl
            go_wp2_with fail
            refine Hrc.out.mono ?_
            rintro e wZ ⟨rfl, hrZ, hgZ⟩
            have hkZ : KeptQ base p wX wZ := KeptQ.ofp hgZ
            have HBZ := Lib.hid (HBX.out.trans ((hkZ.below Hbs.out (Nat.le_of_lt HRX.out.lt.1)).mono Hp.out))
            have HJZ : Hid (PJ wZ b p base m (k + 1)) := Lib.hid ⟨[], 0, [], 0, [], [], Bm.H0, 0, HPX.out.kept hkZ Hbp.out Hbs.out, hrZ, Bm.Agr.new, Nat.zero_le _⟩
            clear hrZ hgZ hkZ Hrc HPX HRX HBX
            go_wp2
            go_meet
            exact ⟨by first | rfl | simp, HJZ, HBZ⟩
          · have d4 : (nn.tmod 4 == 0) = false := by rw [beq_eq_false_iff_ne]; exact h4
            have HJZ : Hid (PJ wA b p base m (k + 1)) := Lib.hid ⟨S, a, K, t, kc, kf, h, n, HP.out, HR.out, HA.out, by have := HS40.out; omega⟩
            go_wp2
            go_meet
            exact ⟨by first | rfl | simp, HJZ, HBA⟩
      case rest =>
        obtain ⟨rfl, hex, HB2⟩ := hcut
        obtain ⟨S, a, K, t, kc, kf, h, n, hP, hR, hA, hS⟩ := hex.out
        have hm2 : m ≤ 2048 := Hm.out.2.1
        have hfl := hA.fly
        have hcl := hA.cameLen
        have hsum : kc.length + kf.length ≤ m := by obtain ⟨_, _, _, _, h9, _⟩ := hP; exact h9
        have hale := hA.le
        have hS5 : S.length ≤ 4040 := by have := Hk100.out; omega
        have hcP : wc.cell? ⟨b, 4097, none⟩ = some (.int .i64 (kc.length : Int)) ∧ wc.cell? ⟨b, 4098, none⟩ = some (.int .i64 (kf.length : Int)) ∧ wc.cell? ⟨b, 4099, none⟩ = some (.int .i64 (m : Int)) := by
          obtain ⟨f, G, hpw, _⟩ := hP
          exact ⟨hpw.cells.2.1, hpw.cells.2.2.1, hpw.cells.2.2.2.1⟩
        have HF := Lib.hid (fun d => ppflies_at b kf.length (wc.drewN d) hcP.2.1)
        have HC := Lib.hid (fun d => ppcame_at b kc.length (wc.drewN d) hcP.1)
        have HM := Lib.hid (fun d => pproom_at b kc.length kf.length m (wc.drewN d) hm2 hsum hcP.1 hcP.2.1 hcP.2.2)
        have HN := Lib.hid (fun d => rproom_any p base m S a K (m - kc.length - kf.length) (wc.drewN d) hm2 (by omega) hale (by omega) (hR.drewN d))
        obtain ⟨c0, c1, c2, ⟨A9, c9, c3⟩, _⟩ := hR.cells
        have hsz := strOf_size S
        rw [hcl] at HC HM HN
        rw [hfl] at HF HM HN
        have s1 : (S.length : Int) - (a : Int) = ((S.length - a : Nat) : Int) := by omega
        have b1 : S.length - a ≤ 4040 := by omega
        have b2 : K.length ≤ 2048 := by omega
        have b3 : m - K.length - (S.length - a) ≤ 2048 := by omega
        have b4 : a ≤ 4040 := by omega
        have g1 : (((S.length - a : Nat) : Int) == ((S.length - a : Nat) : Int)) = true := beq_self_eq_true _
        have g2 : ((K.length : Int) == (K.length : Int)) = true := beq_self_eq_true _
        have g3 : (((m - K.length - (S.length - a) : Nat) : Int) == ((m - K.length - (S.length - a) : Nat) : Int)) = true := beq_self_eq_true _
        have HJ9 := Lib.hid hex.out
        clear hP hR hA hS hex hcP hm2 hfl hcl hsum hale hS5
        generalize m - K.length - (S.length - a) = x3 at *
        generalize S.length - a = x1 at *
        generalize S.length = sn at *
        generalize K.length = kn at *
        generalize strOf S = ss at *
        go_wp2_with fail
        go_quiet ((first
          | (go_at_call 19; exact quiet_leftP (HF.out _))
          | (go_at_call 20; exact quiet_leftP (HC.out _))
          | (go_at_call 21; exact quiet_drew (HM.out _))
          | (go_at_call 22; exact quiet_drew (HN.out _))))
        clear HF HC HM HN c0 c1 c2 c3 hsz
        have HJ8 := Lib.hid (show PJ (wc.drewN nq) b p base m (k + 1) from HJ9.out)
        have HB8 := Lib.hid (show Below w.heap.size w (wc.drewN nq) from ⟨HB2.out.os, HB2.out.tape, HB2.out.output, HB2.out.size, HB2.out.block⟩)
        clear HJ9 HB2
        go_wp2
        go_roundw
        case rel => exact ⟨k + 1, by omega, by go_num, HJ8, HB8⟩
        case measure => simp [intOf]; omega
    · obtain rfl : k = xs.length := by omega
      go_wp2
      go_ret
      exact ⟨rfl, hbel.out⟩
end Go.Proofs.Ytholenecikkijaa
