/-
  Layer 23 (link): the law's deed, by its walk: a Pipe in a Link and the reference's Pipe answer the same. Conditions: as the theorem's premises say.
-/
import Derived.Test.YtecelklpeealaaaWh
import Derived.ChangeAlike
import Derived.Deep.RegionHeld3
import Derived.Deep.DeepCutAuto
namespace Go.Proofs.Ytecelklpeealaaa
open Go.RowKit

theorem ppb_stood : Try.prog.stoodInHeld 47 = false := by kernel_rfl
theorem ppb_guard : Try.prog.eqGuardType Try.prog.depth 47 = false := by kernel_rfl
set_option maxHeartbeats 2000000 in
set_option maxRecDepth 100000 in
theorem lkdeed_any (kd : Nat) (fr : Bool) (nn : Int) (tl : List Nat) (b o : Nat) (E : PEnv) (p base : Nat) (qo : Option Nat) (B0 m L : Nat) (s : PSt) (w : World) (htl : tl.length ≤ 30) (hlt : ∀ x ∈ tl, x < 256) (hkd : kd < 256) (hL : L ≤ 4000) (hbp : b < p) (hJ : PJ w b o E p base qo B0 m L s) :
    Calls Try.prog 32 #[.agg #[.int .u8 (kd : Int), .bool fr, .int .i64 nn, .string (strOf tl)], .pointer (some ⟨b, o, none⟩), .pointer (some ⟨p, 0, none⟩)] w fun e w' =>
      e = .returned (.bool true) ∧ (∃ s', PJ w' b o E p base qo B0 m (L + 30) s') ∧ KeptD b p qo B0 w w' := by
  have Hlt := Lib.hid hlt
  have Htl := Lib.hid htl
  obtain ⟨S, a, K, t, hP, hR, hA, hS⟩ := hJ
  obtain ⟨kc, kf, h, n⟩ := s
  simp only at hP hA
  have hdA : Below w.heap.size w (w.alloc (.cells #[.int .u8 (kd : Int), .bool fr, .int .i64 nn, .string (strOf tl)] 29)) := (Below.refl _ _).alloc (Nat.le_refl _) _
  have HD := Lib.hid (Row.new w 29 [.int .u8 (kd : Int), .bool fr, .int .i64 nn, .string (strOf tl)])
  have HPA := Lib.hid (hP.below hdA)
  have hRA := hR.below hdA
  have HKA := Lib.hid (show KeptD b p qo B0 w (w.alloc (.cells #[.int .u8 (kd : Int), .bool fr, .int .i64 nn, .string (strOf tl)] 29)) from KeptD.of_below hdA hR.lt.2.2.2)
  have Hbw := Lib.hid (show b < w.heap.size ∧ p < w.heap.size ∧ p < base from ⟨hP.lt, hR.lt.1, hR.lt.2.1⟩)
  have HB0 := Lib.hid (show B0 ≤ w.heap.size from hR.lt.2.2.2)
  go_enter Try.func32, Try.ntmps32
  go_upto_region 1 with fail
  obtain ⟨q1, hR1, hq1⟩ := hRA.now
  have HR1 := Lib.hid hR1
  have Hqw : Hid (∀ k, q1 = some k → qo = some k ∨ B0 ≤ k) := Lib.hid fun k hk => (hq1 k hk).2.2.1
  have Hqw2 : Hid (B0 ≤ (w.alloc (.cells #[.int .u8 (kd : Int), .bool fr, .int .i64 nn, .string (strOf tl)] 29)).heap.size) := Lib.hid hRA.lt.2.2.2
  have Hqb : Hid (q1 ≠ some b) := Lib.hid fun e => by have := (hq1 b e).1; have := Hbw.out.2.2; omega
  have Hqd : Hid (q1 ≠ some w.heap.size) := Lib.hid fun e => by have := (hq1 _ e).2.2.2 _ _ HD.out; revert this; decide
  have Hdn := Lib.hid (show b ≠ w.heap.size ∧ w.heap.size ≠ p ∧ w.heap.size < (w.alloc (.cells #[.int .u8 (kd : Int), .bool fr, .int .i64 nn, .string (strOf tl)] 29)).heap.size ∧ p < w.heap.size ∧ b < (w.alloc (.cells #[.int .u8 (kd : Int), .bool fr, .int .i64 nn, .string (strOf tl)] 29)).heap.size from
    ⟨by have := Hbw.out.1; omega, by have := Hbw.out.2.1; omega, HD.out.lt, Hbw.out.2.1, Nat.lt_trans Hbw.out.1 HD.out.lt⟩)
  have HB1 := Lib.hid (Nat.le_refl (w.alloc (.cells #[.int .u8 (kd : Int), .bool fr, .int .i64 nn, .string (strOf tl)] 29)).heap.size)
  have Hbp := Lib.hid hbp
  clear hR hP hdA hRA hR1 hq1 hlt htl hbp
  generalize w.alloc (.cells #[.int .u8 (kd : Int), .bool fr, .int .i64 nn, .string (strOf tl)] 29) = wA at *
  generalize hdB : w.heap.size = dB at *
  clear hdB
  generalize hB1 : wA.heap.size = B1 at *
  clear hB1 HB1
  have e0 := HD.out.cell 0
  have e1 := HD.out.cell 1
  have e2 := HD.out.cell 2
  have e3 := HD.out.cell 3
  simp only [List.getElem?_cons_zero, List.getElem?_cons_succ] at e0 e1 e2 e3
  have Hpm := Lib.hid (show m ≤ 2048 from by obtain ⟨_, _, _, _, _, _, h9, _⟩ := HPA.out; exact h9)
  have hsum : kc.length + kf.length ≤ m := by obtain ⟨_, _, _, _, h9, _⟩ := HPA.out; exact h9
  have HA := Lib.hid hA
  have HS := Lib.hid hS
  have HL := Lib.hid hL
  have HKl := Lib.hid (show K.length ≤ 2048 by have := hA.cameLen; have := Hpm.out; omega)
  obtain ⟨q, hq⟩ : ∃ q, q = m - kc.length - kf.length := ⟨_, rfl⟩
  have Hq := Lib.hid (show q + (S.length - a) + K.length = m by have h1 := hA.fly; have h2 := hA.cameLen; omega)
  have Hq2 := Lib.hid hq.symm
  clear hsum hq hA hS hL
  go_cut [15] from 13 to 15 (fun s15 wx => wx = wA ∧ s15 = .int .u8 ((kd % 6 : Nat) : Int))
  case first =>
    go_wp2
    go_meet
    exact ⟨rfl, by first | rfl | simp⟩
  case rest =>
  obtain ⟨hwc, rfl⟩ := hcut
  have hwc2 := hwc.symm
  subst hwc2
  apply_assumption
  have hr6 : kd % 6 < 6 := by omega
  generalize kd % 6 = r6 at *
  by_cases h2 : r6 = 2
  · subst h2
    obtain ⟨r, hr⟩ : ∃ r, decide (tl.length ≤ q) = r := ⟨_, rfl⟩
    have HX := Lib.hid (fun W hk => ppsend_r (b := b) (o := o) (E := E) (kc := kc) (kf := kf) (m := m) (h := h) (n := n) W tl r (by rw [Hq2.out]; exact hr) Hlt.out hk)
    have HY := Lib.hid (fun W hk => rpsend_r (p := p) (base := base) (qo := q1) (B0 := B1) (m := m) (S := S) (a := a) (K := K) W tl r q Hpm.out (by have := HS.out; have := HL.out; omega) HA.out.le Hq.out hr hk)
    clear hr
    go_wp2_with fail
    have HPd := Lib.hid (show PI wA.drew b o E kc kf m h n from HPA.out.keep rfl)
    have HRd := Lib.hid (show RPi wA.drew p base q1 B1 m S a K from HR1.out)
    have HDd := Lib.hid (show Row wA.drew dB 29 [.int .u8 (kd : Int), .bool fr, .int .i64 nn, .string (strOf tl)] from HD.out)
    have HBd := Lib.hid (show KeptD b p q1 B1 wA wA.drew from ⟨rfl, rfl, rfl, Nat.le_refl _, fun _ _ _ _ _ => rfl⟩)
    go_region_held3 (fun W : World => W.cell? ⟨dB, 3, none⟩ = some (.string (strOf tl))) (first | exact e3 | exact cX | exact cY | exact cZ) (first
      | (go_at_call 19; first | ((with_reducible refine (HX.out _ HPd.out).mono ?_); rintro e wX ⟨rfl, hpX, hgX⟩; have HPX := Lib.hid hpX; have HRX := Lib.hid (HRd.out.grown hgX Hbp.out); have HDX := Lib.hid (HDd.out.keep (hgX.block dB HDd.out.lt (fun e => by injection e with e; exact Hdn.out.1 (by omega)))); have HBX := Lib.hid (HBd.out.trans (KeptD.of_grown hgX HRd.out.lt.2.2.2)); have cX := HDX.out.cell 3; simp only [List.getElem?_cons_zero, List.getElem?_cons_succ] at cX; clear hpX hgX) | ((with_reducible refine (HX.out _ HPY.out).mono ?_); rintro e wZ ⟨rfl, hpX, hgX⟩; have HPZ := Lib.hid hpX; have HRZ := Lib.hid (HRY.out.grown hgX Hbp.out); have HDZ := Lib.hid (HDY.out.keep (hgX.block dB HDY.out.lt (fun e => by injection e with e; exact Hdn.out.1 (by omega)))); have HBZ := Lib.hid (HBY.out.trans (KeptD.of_grown hgX HRY.out.lt.2.2.2)); have cZ := HDZ.out.cell 3; simp only [List.getElem?_cons_zero, List.getElem?_cons_succ] at cZ; clear hpX hgX))
      | (go_at_call 25; first | ((with_reducible refine (HY.out _ HRd.out).mono ?_); rintro e wY ⟨rfl, hrY, hkY⟩; have HRY := Lib.hid hrY; have HPY := Lib.hid (HPd.out.kept hkY Hdn.out.2.2.2.2 (Nat.ne_of_lt Hbp.out) Hqb.out); have HDY := Lib.hid (hkY.row HDd.out Hdn.out.2.2.1 Hdn.out.2.1 Hqd.out); have HBY := Lib.hid (HBd.out.trans (KeptD.of_kept hkY)); have cY := HDY.out.cell 3; simp only [List.getElem?_cons_zero, List.getElem?_cons_succ] at cY; clear hrY hkY) | ((with_reducible refine (HY.out _ HRX.out).mono ?_); rintro e wZ ⟨rfl, hrY, hkY⟩; have HRZ := Lib.hid hrY; have HPZ := Lib.hid (HPX.out.kept hkY Hdn.out.2.2.2.2 (Nat.ne_of_lt Hbp.out) Hqb.out); have HDZ := Lib.hid (hkY.row HDX.out Hdn.out.2.2.1 Hdn.out.2.1 Hqd.out); have HBZ := Lib.hid (HBX.out.trans (KeptD.of_kept hkY)); have cZ := HDZ.out.cell 3; simp only [List.getElem?_cons_zero, List.getElem?_cons_succ] at cZ; clear hrY hkY)))
    all_goals
      have HJZ : Hid (PJ wZ b o E p base qo B0 m (L + 30) ⟨kc, if r = true then kf ++ Bm.itms true tl else kf, h, n⟩) := Lib.hid ⟨_, _, _, t, HPZ.out, HRZ.out.weak Hqw.out Hqw2.out, (by cases r with | true => exact HA.out.send tl Hlt.out | false => exact HA.out), (by have := HS.out; have := Htl.out; cases r with | true => (show (S ++ tl).length ≤ _; rw [List.length_append]; omega) | false => (show S.length ≤ _; omega))⟩
      have HKZ := Lib.hid (HKA.out.trans (HBZ.out.weak Hqw.out Hqw2.out))
      clear HX HY HPd HRd HDd HBd HPZ HRZ HDZ HBZ
      go_wp2
      go_ret
      exact ⟨by first | rfl | simp, ⟨_, HJZ.out⟩, HKZ.out⟩
  · have d2 : ((r6 : Int) == 2) = false := by rw [beq_eq_false_iff_ne]; omega
    by_cases h3 : r6 = 3
    · subst h3
      obtain ⟨r, hr⟩ : ∃ r, Bm.comeN nn kf.length = r := ⟨_, rfl⟩
      have hrk := (Bm.come_le nn kf.length).1
      rw [hr] at hrk
      have Hrk := Lib.hid hrk
      have HX := Lib.hid (fun W hk => ppdel_any b o E kc kf m h n nn r W hr hk)
      have HY := Lib.hid (fun W hk => rpdel_any p base q1 B1 m S a K nn r W (by rw [← HA.out.fly]; exact hr) HA.out.le (by have := HS.out; have := HL.out; omega) (by have := HKl.out; omega) hk)
      clear hr hrk
      go_wp2_with fail
      have HPd := Lib.hid (show PI wA.drew b o E kc kf m h n from HPA.out.keep rfl)
      have HRd := Lib.hid (show RPi wA.drew p base q1 B1 m S a K from HR1.out)
      have HDd := Lib.hid (show Row wA.drew dB 29 [.int .u8 (kd : Int), .bool fr, .int .i64 nn, .string (strOf tl)] from HD.out)
      have HBd := Lib.hid (show KeptD b p q1 B1 wA wA.drew from ⟨rfl, rfl, rfl, Nat.le_refl _, fun _ _ _ _ _ => rfl⟩)
      go_region_held3 (fun W : World => W.cell? ⟨dB, 2, none⟩ = some (.int .i64 nn)) (first | exact e2 | exact cX | exact cY | exact cZ) (first
        | (go_at_call 20; first | ((with_reducible refine (HX.out _ HPd.out).mono ?_); rintro e wX ⟨rfl, hpX, hgX⟩; have HPX := Lib.hid hpX; have HRX := Lib.hid (HRd.out.grown hgX Hbp.out); have HDX := Lib.hid (HDd.out.keep (hgX.block dB HDd.out.lt (fun e => by injection e with e; exact Hdn.out.1 (by omega)))); have HBX := Lib.hid (HBd.out.trans (KeptD.of_grown hgX HRd.out.lt.2.2.2)); have cX := HDX.out.cell 2; simp only [List.getElem?_cons_zero, List.getElem?_cons_succ] at cX; clear hpX hgX) | ((with_reducible refine (HX.out _ HPY.out).mono ?_); rintro e wZ ⟨rfl, hpX, hgX⟩; have HPZ := Lib.hid hpX; have HRZ := Lib.hid (HRY.out.grown hgX Hbp.out); have HDZ := Lib.hid (HDY.out.keep (hgX.block dB HDY.out.lt (fun e => by injection e with e; exact Hdn.out.1 (by omega)))); have HBZ := Lib.hid (HBY.out.trans (KeptD.of_grown hgX HRY.out.lt.2.2.2)); have cZ := HDZ.out.cell 2; simp only [List.getElem?_cons_zero, List.getElem?_cons_succ] at cZ; clear hpX hgX))
        | (go_at_call 26; first | ((with_reducible refine (HY.out _ HRd.out).mono ?_); rintro e wY ⟨rfl, hrY, hkY⟩; have HRY := Lib.hid hrY; have HPY := Lib.hid (HPd.out.kept hkY Hdn.out.2.2.2.2 (Nat.ne_of_lt Hbp.out) Hqb.out); have HDY := Lib.hid (hkY.row HDd.out Hdn.out.2.2.1 Hdn.out.2.1 Hqd.out); have HBY := Lib.hid (HBd.out.trans (KeptD.of_kept hkY)); have cY := HDY.out.cell 2; simp only [List.getElem?_cons_zero, List.getElem?_cons_succ] at cY; clear hrY hkY) | ((with_reducible refine (HY.out _ HRX.out).mono ?_); rintro e wZ ⟨rfl, hrY, hkY⟩; have HRZ := Lib.hid hrY; have HPZ := Lib.hid (HPX.out.kept hkY Hdn.out.2.2.2.2 (Nat.ne_of_lt Hbp.out) Hqb.out); have HDZ := Lib.hid (hkY.row HDX.out Hdn.out.2.2.1 Hdn.out.2.1 Hqd.out); have HBZ := Lib.hid (HBX.out.trans (KeptD.of_kept hkY)); have cZ := HDZ.out.cell 2; simp only [List.getElem?_cons_zero, List.getElem?_cons_succ] at cZ; clear hrY hkY)))
      all_goals
        have HJZ : Hid (PJ wZ b o E p base qo B0 m (L + 30) ⟨kc ++ kf.take r, kf.drop r, h, n⟩) := Lib.hid ⟨_, _, _, t, HPZ.out, HRZ.out.weak Hqw.out Hqw2.out, HA.out.deliver r Hrk.out, (by have := HS.out; omega)⟩
        have HKZ := Lib.hid (HKA.out.trans (HBZ.out.weak Hqw.out Hqw2.out))
        clear HX HY HPd HRd HDd HBd HPZ HRZ HDZ HBZ
        go_wp2
        go_ret
        exact ⟨by first | rfl | simp, ⟨_, HJZ.out⟩, HKZ.out⟩
    · have d3 : ((r6 : Int) == 3) = false := by rw [beq_eq_false_iff_ne]; omega
      by_cases h4 : r6 = 4
      · subst h4
        obtain ⟨x1, v1, sd, has, K', t', kc', h', n', hX, hY, hA'⟩ := take_both (p := p) (base := base) (m := m) (S := S) (a := a) (K := K) (t := t) wA (by have := HS.out; have := HL.out; omega) (by have := HKl.out; omega) HPA.out HA.out
        have HX := Lib.hid hX
        have HY := Lib.hid hY
        have HA' := Lib.hid hA'
        have hst := ppb_stood
        have hgu := ppb_guard
        clear hX hY hA'
        go_wp2_with fail
        refine HX.out.mono ?_
        rintro e wX ⟨rfl, hpX, hgX⟩
        unfold ppB
        have HPX := Lib.hid hpX
        have HRX := Lib.hid (HR1.out.grown hgX Hbp.out)
        have HBX := Lib.hid (show KeptD b p q1 B1 wA wX from KeptD.of_grown hgX HR1.out.lt.2.2.2)
        clear hpX hgX HX
        go_upto_region 8 with fail
        have hda : Below wX.heap.size wX (wX.alloc (.cells #[.int .u8 (x1 : Int), .int .u64 (v1 : Int), .bool sd] 47)) := (Below.refl _ _).alloc (Nat.le_refl _) _
        have HPY := Lib.hid (HPX.out.below hda)
        have hRY := HRX.out.below hda
        have HIY := Lib.hid (Row.new wX 47 [.int .u8 (x1 : Int), .int .u64 (v1 : Int), .bool sd])
        have HBY := Lib.hid (HBX.out.trans (KeptD.of_below hda HRX.out.lt.2.2.2))
        obtain ⟨q2, hR2, hq2⟩ := hRY.now
        have HR2 := Lib.hid hR2
        have Hib := Lib.hid (show wX.heap.size ≠ p ∧ wX.heap.size < (wX.alloc (.cells #[.int .u8 (x1 : Int), .int .u64 (v1 : Int), .bool sd] 47)).heap.size ∧ b < (wX.alloc (.cells #[.int .u8 (x1 : Int), .int .u64 (v1 : Int), .bool sd] 47)).heap.size from
          ⟨by have := HRX.out.lt.1; omega, HIY.out.lt, HPY.out.lt⟩)
        have Hq2i : Hid (q2 ≠ some wX.heap.size) := Lib.hid fun e => by have := (hq2 _ e).2.2.2 _ _ HIY.out; revert this; decide
        have Hq2b : Hid (q2 ≠ some b) := Lib.hid fun e => by have := (hq2 b e).1; have := Hbw.out.2.2; have := Hbp.out; omega
        have Hq2w : Hid (∀ k, q2 = some k → q1 = some k ∨ B1 ≤ k) := Lib.hid fun k hk => (hq2 k hk).2.2.1
        have Hq2w2 : Hid (B1 ≤ (wX.alloc (.cells #[.int .u8 (x1 : Int), .int .u64 (v1 : Int), .bool sd] 47)).heap.size) := Lib.hid hRY.lt.2.2.2
        clear hda hR2 hq2 hRY HPX HRX HBX
        generalize wX.alloc (.cells #[.int .u8 (x1 : Int), .int .u64 (v1 : Int), .bool sd] 47) = wY at *
        generalize wX.heap.size = ib at *
        have HYY := Lib.hid (HY.out wY q2 wY.heap.size HR2.out)
        clear HY
        go_wp2_with fail
        refine HYY.out.mono ?_
        rintro e wZ ⟨rfl, hrZ, hkZ⟩
        have HIZ := Lib.hid (hkZ.row HIY.out Hib.out.2.1 Hib.out.1 Hq2i.out)
        have j0 := HIZ.out.cell 0
        have j1 := HIZ.out.cell 1
        have j2 := HIZ.out.cell 2
        simp only [List.getElem?_cons_zero, List.getElem?_cons_succ] at j0 j1 j2
        have HJZ : Hid (PJ wZ b o E p base qo B0 m (L + 30) ⟨kc', kf, h', n'⟩) := Lib.hid ⟨S, a, K', t', HPY.out.kept hkZ Hib.out.2.2 (Nat.ne_of_lt Hbp.out) Hq2b.out, (hrZ.weak Hq2w.out Hq2w2.out).weak Hqw.out Hqw2.out, HA'.out, by have := HS.out; omega⟩
        have HKZ := Lib.hid (HKA.out.trans ((HBY.out.trans ((KeptD.of_kept hkZ).weak Hq2w.out Hq2w2.out)).weak Hqw.out Hqw2.out))
        clear hrZ hkZ HYY HPY HBY HIY HIZ HR2
        go_wp2
        go_ret
        exact ⟨by first | rfl | simp, ⟨_, HJZ.out⟩, HKZ.out⟩
      · have d4 : ((r6 : Int) == 4) = false := by rw [beq_eq_false_iff_ne]; omega
        obtain ⟨r, hr⟩ : ∃ r, decide (tl.length ≤ q) = r := ⟨_, rfl⟩
        have HX := Lib.hid (fun W hk => ppinj_r (b := b) (o := o) (E := E) (kc := kc) (kf := kf) (m := m) (h := h) (n := n) W tl r (by rw [Hq2.out]; exact hr) Hlt.out hk)
        have HY := Lib.hid (fun W hk => rpinj_r (p := p) (base := base) (qo := q1) (B0 := B1) (m := m) (S := S) (a := a) (K := K) W tl r q Hpm.out (by have := HS.out; have := HL.out; omega) HA.out.le Hq.out hr Hlt.out hk)
        clear hr
        go_wp2_with fail
        have HPd := Lib.hid (show PI wA.drew b o E kc kf m h n from HPA.out.keep rfl)
        have HRd := Lib.hid (show RPi wA.drew p base q1 B1 m S a K from HR1.out)
        have HDd := Lib.hid (show Row wA.drew dB 29 [.int .u8 (kd : Int), .bool fr, .int .i64 nn, .string (strOf tl)] from HD.out)
        have HBd := Lib.hid (show KeptD b p q1 B1 wA wA.drew from ⟨rfl, rfl, rfl, Nat.le_refl _, fun _ _ _ _ _ => rfl⟩)
        go_region_held3 (fun W : World => W.cell? ⟨dB, 3, none⟩ = some (.string (strOf tl))) (first | exact e3 | exact cX | exact cY | exact cZ) (first
          | (go_at_call 21; first | ((with_reducible refine (HX.out _ HPd.out).mono ?_); rintro e wX ⟨rfl, hpX, hgX⟩; have HPX := Lib.hid hpX; have HRX := Lib.hid (HRd.out.grown hgX Hbp.out); have HDX := Lib.hid (HDd.out.keep (hgX.block dB HDd.out.lt (fun e => by injection e with e; exact Hdn.out.1 (by omega)))); have HBX := Lib.hid (HBd.out.trans (KeptD.of_grown hgX HRd.out.lt.2.2.2)); have cX := HDX.out.cell 3; simp only [List.getElem?_cons_zero, List.getElem?_cons_succ] at cX; clear hpX hgX) | ((with_reducible refine (HX.out _ HPY.out).mono ?_); rintro e wZ ⟨rfl, hpX, hgX⟩; have HPZ := Lib.hid hpX; have HRZ := Lib.hid (HRY.out.grown hgX Hbp.out); have HDZ := Lib.hid (HDY.out.keep (hgX.block dB HDY.out.lt (fun e => by injection e with e; exact Hdn.out.1 (by omega)))); have HBZ := Lib.hid (HBY.out.trans (KeptD.of_grown hgX HRY.out.lt.2.2.2)); have cZ := HDZ.out.cell 3; simp only [List.getElem?_cons_zero, List.getElem?_cons_succ] at cZ; clear hpX hgX))
          | (go_at_call 43; first | ((with_reducible refine (HY.out _ HRd.out).mono ?_); rintro e wY ⟨rfl, hrY, hkY⟩; have HRY := Lib.hid hrY; have HPY := Lib.hid (HPd.out.kept hkY Hdn.out.2.2.2.2 (Nat.ne_of_lt Hbp.out) Hqb.out); have HDY := Lib.hid (hkY.row HDd.out Hdn.out.2.2.1 Hdn.out.2.1 Hqd.out); have HBY := Lib.hid (HBd.out.trans (KeptD.of_kept hkY)); have cY := HDY.out.cell 3; simp only [List.getElem?_cons_zero, List.getElem?_cons_succ] at cY; clear hrY hkY) | ((with_reducible refine (HY.out _ HRX.out).mono ?_); rintro e wZ ⟨rfl, hrY, hkY⟩; have HRZ := Lib.hid hrY; have HPZ := Lib.hid (HPX.out.kept hkY Hdn.out.2.2.2.2 (Nat.ne_of_lt Hbp.out) Hqb.out); have HDZ := Lib.hid (hkY.row HDX.out Hdn.out.2.2.1 Hdn.out.2.1 Hqd.out); have HBZ := Lib.hid (HBX.out.trans (KeptD.of_kept hkY)); have cZ := HDZ.out.cell 3; simp only [List.getElem?_cons_zero, List.getElem?_cons_succ] at cZ; clear hrY hkY)))
        all_goals
          have HJZ : Hid (PJ wZ b o E p base qo B0 m (L + 30) ⟨if r = true then kc ++ Bm.itms false tl else kc, kf, h, n⟩) := Lib.hid ⟨_, _, _, t, HPZ.out, HRZ.out.weak Hqw.out Hqw2.out, (by cases r with | true => exact HA.out.inject tl Hlt.out | false => exact HA.out), (by have := HS.out; omega)⟩
          have HKZ := Lib.hid (HKA.out.trans (HBZ.out.weak Hqw.out Hqw2.out))
          clear HX HY HPd HRd HDd HBd HPZ HRZ HDZ HBZ
          go_wp2
          go_ret
          exact ⟨by first | rfl | simp, ⟨_, HJZ.out⟩, HKZ.out⟩
end Go.Proofs.Ytecelklpeealaaa
