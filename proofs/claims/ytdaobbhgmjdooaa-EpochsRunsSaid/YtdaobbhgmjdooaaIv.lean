/-
  The reference of layer 21 (epochs), by its walk: Add. Conditions: as the theorem's premises say.
-/
import Derived.Test.YtdaobbhgmjdooaaIu
namespace Go.Proofs.Ytdaobbhgmjdooaa
open Go.RowKit

/-- The first one from place q on that may go, or -1. -/
def IdxR (R : List Bm.Rc) (q : Nat) (r : Int) : Prop := (r = -1 ∧ ∀ j (hj : j < R.length), q ≤ j → j + 1 < R.length → ¬ (R[j].th = true ∧ R[j].h = 0)) ∨
  ∃ (j : Nat) (hj : j < R.length), r = (j : Int) ∧ q ≤ j ∧ j + 1 < R.length ∧ (R[j].th = true ∧ R[j].h = 0) ∧ ∀ i (hi : i < R.length), q ≤ i → i < j → ¬ (R[i].th = true ∧ R[i].h = 0)
theorem IdxR.start (R : List Bm.Rc) (q : Nat) (hq : R.length ≤ q + 1) : IdxR R q (-1) := Or.inl ⟨rfl, fun j hj h1 h2 => by omega⟩
theorem IdxR.yes {R : List Bm.Rc} {q : Nat} (hq : q + 1 < R.length) (hy : R[q].th = true ∧ R[q].h = 0) : IdxR R q (q : Int) :=
  Or.inr ⟨q, by omega, rfl, Nat.le_refl _, hq, hy, fun i hi h1 h2 => by omega⟩
theorem IdxR.no {R : List Bm.Rc} {q : Nat} {r : Int} (h : IdxR R (q + 1) r) (hq : q < R.length) (hy : ¬ (R[q].th = true ∧ R[q].h = 0)) : IdxR R q r := by
  rcases h with ⟨h1, h2⟩ | ⟨j, hj, h1, h2, h3, h4, h5⟩
  · refine Or.inl ⟨h1, fun j hj hqj hj1 => ?_⟩
    by_cases e : j = q
    · subst e; exact hy
    · exact h2 j hj (by omega) hj1
  · refine Or.inr ⟨j, hj, h1, by omega, h3, h4, fun i hi hqi hij => ?_⟩
    by_cases e : i = q
    · subst e; exact hy
    · exact h5 i hi (by omega) hij
theorem IdxR.fin {R : List Bm.Rc} {r : Int} (h : IdxR R 0 r) : (r = -1 ∧ Bm.dropR R = none) ∨ ∃ (j : Nat) (hj : j < R.length), r = (j : Int) ∧ Bm.dropR R = some (R.set j ⟨R[j].t, false, R[j].h⟩) := by
  rcases h with ⟨h1, h2⟩ | ⟨j, hj, h1, h2, h3, h4, h5⟩
  · exact Or.inl ⟨h1, Bm.dropR_no R (fun j hj hj1 => h2 j hj (Nat.zero_le _) hj1)⟩
  · exact Or.inr ⟨j, hj, h1, Bm.dropR_at R j h3 h4 (fun i hi hij => h5 i hi (Nat.zero_le _) hij)⟩
theorem RS.setTh {w : World} {p base g n cap j : Nat} {vT vH : Value} {R : List Bm.Rc} (hj : j < R.length) (hn : R.length = n) (h : RV w p base vT (.slice (some ⟨g, 0, none⟩) n cap) vH (R.map (·.t)) (R.map (·.th)) (R.map (·.h))) :
    RS (w.setCell ⟨g, j, none⟩ (.bool false)) p base (R.set j ⟨R[j].t, false, R[j].h⟩) ∧ KeptE base p w (w.setCell ⟨g, j, none⟩ (.bool false)) := by
  obtain ⟨h1, h2⟩ := RV.setB (t := false) (j := j) (by rw [List.length_map]; exact hn) h
  refine ⟨⟨vT, .slice (some ⟨g, 0, none⟩) n cap, vH, ?_⟩, h2⟩
  have e1 : (R.set j ⟨R[j].t, false, R[j].h⟩).map (·.t) = R.map (·.t) := by
    rw [List.map_set]
    have : R[j].t = (R.map (·.t))[j]'(by rw [List.length_map]; exact hj) := by rw [List.getElem_map]
    show (R.map (·.t)).set j R[j].t = _
    rw [this, List.set_getElem_self]
  have e2 : (R.set j ⟨R[j].t, false, R[j].h⟩).map (·.h) = R.map (·.h) := by
    rw [List.map_set]
    have : R[j].h = (R.map (·.h))[j]'(by rw [List.length_map]; exact hj) := by rw [List.getElem_map]
    show (R.map (·.h)).set j R[j].h = _
    rw [this, List.set_getElem_self]
  have e3 : (R.set j ⟨R[j].t, false, R[j].h⟩).map (·.th) = (R.map (·.th)).set j false := by rw [List.map_set]
  rw [e1, e2, e3]
  exact h1
set_option maxHeartbeats 2000000 in
set_option maxRecDepth 100000 in
theorem eradd_any (p base : Nat) (R : List Bm.Rc) (t : ByteArray) (w : World) (hR : R.length ≤ 100000) (h : RS w p base R) :
    Calls Try.prog 10 #[.pointer (some ⟨p, 0, none⟩), .string t] w fun e w' => e = .returned (.tuple #[.int .i64 ((Bm.addR t R).1 : Int), .int .i64 ((Bm.addR t R).2.1 : Int)]) ∧ RS w' p base (Bm.addR t R).2.2 ∧ KeptE base p w w' := by
  have H := Lib.hid h
  by_cases ht : 256 < t.size
  · have Hadd : Hid (Bm.addR t R = (0, 5, R)) := Lib.hid (by unfold Bm.addR; rw [if_pos ht])
    have hd : decide (256 < (t.size : Int)) = true := decide_eq_true (by omega)
    clear h
    go_enter Try.func10, Try.ntmps10
    go_wp2
    go_ret2
    rw [Hadd.out]
    exact ⟨rfl, H.out, KeptE.refl _ _ _⟩
  have Ht : Hid (¬ 256 < t.size) := Lib.hid ht
  have hd : decide (256 < (t.size : Int)) = false := decide_eq_false (by omega)
  have Hcn := Lib.hid (ercount_any p base R w (by omega) h)
  clear h ht
  go_enter Try.func10, Try.ntmps10
  go_wp2_with fail
  refine Hcn.out.mono ?_
  rintro e w' ⟨rfl, rfl⟩
  go_upto_if 13 with fail
  go_cut [] from 12 to 49 (fun wx => ∃ R2, R2.length = R.length ∧ Hid (Bm.addR t R = (R2.length + 1, 0, R2 ++ [⟨t, true, 0⟩])) ∧ Hid (RS wx p base R2) ∧ Hid (KeptE base p w wx))
  case first =>
    by_cases h8 : cnR R = 8
    · have h8' : (Bm.dlF 0 R).length = 8 := h8
      have hc8 := cnR_le R R.length
      rw [List.take_length, h8] at hc8
      rw [h8]
      obtain ⟨vT, vB, vH, h1⟩ := H.out
      obtain ⟨AT, cT, AB, cB, AH, cH, rfl, rfl, rfl, r1, r2, r3, c0, c1, c2⟩ := h1.reads
      have hlB : (R.map (·.th)).length = R.length := List.length_map ..
      have hlH : (R.map (·.h)).length = R.length := List.length_map ..
      obtain ⟨gB, capB, eB, _, _⟩ := own_form h1.oB (by omega)
      injection eB with eA _ eC
      subst eA eC
      have H1 := Lib.hid h1
      rw [hlB] at c1 H1
      rw [hlH] at c2 H1
      have Hrb := Lib.hid r2
      have Hrh := Lib.hid r3
      have Hl1 := Lib.hid h8'
      clear h1 r1 r2 r3 c0 h8 hlB hlH h8'
      have hq2 : (R.length : Int) - 2 = ((R.length - 1 : Nat) : Int) - 1 := by omega
      have Hq2 := Lib.hid hq2
      clear hq2
      go_wp2
      go_loop [6, 7] (fun kv iv => ∃ (q : Nat) (r : Int), q + 1 ≤ R.length ∧ iv = .int .i64 ((q : Int) - 1) ∧ kv = .int .i64 r ∧ Hid (IdxR R q r)) (fun _ iv => (intOf iv + 1).toNat)
      case atStart => exact ⟨R.length - 1, -1, by omega, by rw [Hq2.out], rfl, Lib.hid (IdxR.start R _ (by omega))⟩
      case round =>
        obtain ⟨q, r, hq, rfl, rfl, hix⟩ := hrel
        cases q with
        | zero =>
          rcases hix.out.fin with ⟨rfl, hnone⟩ | ⟨j, hj, rfl, hsome⟩
          · have Hadd : Hid (Bm.addR t R = (0, 2, R)) := Lib.hid (by unfold Bm.addR; rw [if_neg Ht.out, if_pos Hl1.out, hnone])
            clear hnone hix Hl1
            go_wp2
            go_ret2
            rw [Hadd.out]
            exact ⟨rfl, H.out, KeptE.refl _ _ _⟩
          · have Hadd : Hid (Bm.addR t R = ((R.set j ⟨R[j].t, false, R[j].h⟩).length + 1, 0, R.set j ⟨R[j].t, false, R[j].h⟩ ++ [⟨t, true, 0⟩])) := Lib.hid (by unfold Bm.addR; rw [if_neg Ht.out, if_pos Hl1.out, hsome])
            have Hset := Lib.hid (RS.setTh hj rfl H1.out)
            have hoB := H1.out.oB
            rw [List.length_map] at hoB
            have hcj := hoB.cellAt j (by omega)
            have hfj := hoB.frozenAt j
            rw [booC_get? _ j (by rw [List.length_map]; exact hj)] at hcj
            have hjI : (j : Int) < (R.length : Int) := by omega
            clear hsome hix Hl1 hoB
            generalize (R.map (·.th))[j]'_ = bj at hcj
            go_wp2
            go_meet
            exact ⟨_, List.length_set .., Hadd, Lib.hid Hset.out.1, Lib.hid Hset.out.2⟩
        | succ y =>
          have hyI : ((y + 1 : Nat) : Int) - 1 = (y : Int) := by omega
          rw [hyI]
          obtain ⟨g, off, eg, hc⟩ := reads_boo Hrb.out (by rw [List.length_map]; omega)
          injection eg with eg
          injection eg with e1 e2
          subst e1 e2
          have k0 := hc y (by rw [List.length_map]; omega)
          rw [List.getElem_map, Nat.zero_add] at k0
          obtain ⟨g2, off2, rfl, hc2⟩ := reads_i6 Hrh.out (by rw [List.length_map]; omega)
          have k1 := hc2 y (by rw [List.length_map]; omega)
          rw [List.getElem_map] at k1
          have hkI : (y : Int) < (R.length : Int) := by omega
          have hy0 : decide ((0 : Int) ≤ (y : Int)) = true := decide_eq_true (by omega)
          by_cases hyes : R[y].th = true ∧ R[y].h = 0
          · have Hix := Lib.hid (IdxR.yes (by omega) hyes)
            rw [hyes.1] at k0
            rw [hyes.2] at k1
            clear hix hyes hc hc2 hyI
            go_wp2
            go_round
            case rel => exact ⟨y, _, by omega, by go_num, rfl, Hix⟩
            case measure => simp [intOf]
          · have Hix := Lib.hid (hix.out.no (by omega) hyes)
            cases hth : R[y].th with
            | false =>
              rw [hth] at k0
              clear hix hyes hc hc2 hyI hth
              go_wp2
              go_round
              case rel => exact ⟨y, _, by omega, by go_num, rfl, Hix⟩
              case measure => simp [intOf]
            | true =>
              have hd0 : ((R[y].h : Int) == 0) = false := by rw [beq_eq_false_iff_ne]; intro e; exact hyes ⟨hth, by omega⟩
              have hd1 : (R[y].h == 0) = false := by rw [beq_eq_false_iff_ne]; intro e; exact hyes ⟨hth, e⟩
              rw [hth] at k0
              clear hix hyes hc hc2 hyI hth
              generalize R[y].h = z at *
              go_wp2
              go_round
              case rel => exact ⟨y, _, by omega, by go_num, rfl, Hix⟩
              case measure => simp [intOf]
    · have hd8 : ((cnR R : Int) == 8) = false := by rw [beq_eq_false_iff_ne]; omega
      have hd9 : (cnR R == 8) = false := by rw [beq_eq_false_iff_ne]; exact h8
      have h8' : ¬ (Bm.dlF 0 R).length = 8 := h8
      have Hadd : Hid (Bm.addR t R = (R.length + 1, 0, R ++ [⟨t, true, 0⟩])) := Lib.hid (by unfold Bm.addR; rw [if_neg Ht.out, if_neg h8'])
      clear h8 h8'
      generalize cnR R = n at *
      go_wp2
      go_meet
      exact ⟨R, rfl, Hadd, H, Lib.hid (KeptE.refl _ _ _)⟩
  case rest =>
    obtain ⟨R2, hlen2, Hadd, HS, HK⟩ := hcut
    obtain ⟨vT, vB, vH, hV⟩ := HS.out
    obtain ⟨iT, siT, zT0, zT1, zT2⟩ := info_parts info_str1
    obtain ⟨iB, siB, zB0, zB1, zB2⟩ := info_parts info_boo1
    obtain ⟨iH, siH, zH0, zH1, zH2⟩ := info_parts info_int1
    obtain ⟨T, hT⟩ : ∃ T, T = R2.map (·.t) := ⟨_, rfl⟩
    obtain ⟨B, hB⟩ : ∃ B, B = R2.map (·.th) := ⟨_, rfl⟩
    obtain ⟨L, hL⟩ : ∃ L, L = R2.map (·.h) := ⟨_, rfl⟩
    rw [← hT, ← hB, ← hL] at hV
    have hlT : T.length ≤ 100000 := by rw [hT, List.length_map]; omega
    have hlB : B.length ≤ 100000 := by rw [hB, List.length_map]; omega
    have hlL : L.length ≤ 100000 := by rw [hL, List.length_map]; omega
    have HT := Lib.hid hT
    have HB := Lib.hid hB
    have HL := Lib.hid hL
    have Hlen := Lib.hid (show R2.length = T.length by rw [hT, List.length_map])
    have HV := Lib.hid hV
    have c0 := hV.row.cell 0
    have hws := hV.le
    clear hV hT hB hL HS H Hcn Ht hd hlen2 hR
    go_wp2_with (at_builtin; refine wpList_append_lies _ rfl _ _ 27 rfl base 9 iT (.string ⟨#[]⟩) 1 16 Try.underlying27 siT zT0 zT1 zT2 rfl (by decide) _ _ _ rfl (HV.out.oT.alloc _) ⟨wc.heap.size, 0, none⟩ 1 1 [.string t] rfl rfl ?d1 ?d2 (by decide) ?d3 ?d4 ?d5 _ rfl ?_)
    case d1 =>
      intro j u hj
      match j, hj with
      | 0, hj => simp at hj; subst hj; simp [Addr.add]
    case d2 => intro u hu; simp at hu; subst hu; rfl
    case d3 => unfold maxLen; omega
    case d4 => omega
    case d5 => simp; omega
    intro g1 cap1 w1 hown1 hgr1 _ _
    obtain ⟨hrow1, hV1, hK1⟩ := HV.out.appT _ t hown1 hgr1
    have d0 := hrow1.cell 0
    have f0 := hrow1.free 0
    simp only [List.getElem?_cons_zero] at d0
    have HV1 := Lib.hid hV1
    have HK1 := Lib.hid (HK.out.trans hK1)
    clear hrow1 hV1 hK1 hown1 hgr1 c0 hws HV HK
    go_upto_region 14 with fail
    generalize w1.setCell ⟨p, 0, none⟩ (.slice (some ⟨g1, 0, none⟩) (T.length + 1) cap1) = w2 at *
    have c1 := HV1.out.row.cell 1
    have hws := HV1.out.le
    simp only [List.getElem?_cons_zero, List.getElem?_cons_succ] at c1
    clear d0 f0
    go_wp2_with (at_builtin; refine wpList_append_lies _ rfl _ _ 28 rfl base 4 iB (.bool false) 1 1 Try.underlying28 siB zB0 zB1 zB2 rfl (by decide) _ _ _ rfl (HV1.out.oB.alloc _) ⟨w2.heap.size, 0, none⟩ 1 1 [.bool true] rfl rfl ?d1 ?d2 (by decide) ?d3 ?d4 ?d5 _ rfl ?_)
    case d1 =>
      intro j u hj
      match j, hj with
      | 0, hj => simp at hj; subst hj; simp [Addr.add]
    case d2 => intro u hu; simp at hu; subst hu; rfl
    case d3 => unfold maxLen; omega
    case d4 => omega
    case d5 => simp; omega
    intro g3 cap3 w3 hown3 hgr3 _ _
    obtain ⟨hrow3, hV3, hK3⟩ := HV1.out.appB _ true hown3 hgr3
    have d1 := hrow3.cell 1
    have f1 := hrow3.free 1
    simp only [List.getElem?_cons_zero, List.getElem?_cons_succ] at d1
    have HV3 := Lib.hid hV3
    have HK3 := Lib.hid (HK1.out.trans hK3)
    clear hrow3 hV3 hK3 hown3 hgr3 c1 hws HV1 HK1
    go_upto_region 15 with fail
    generalize w3.setCell ⟨p, 1, none⟩ (.slice (some ⟨g3, 0, none⟩) (B.length + 1) cap3) = w4 at *
    have c2 := HV3.out.row.cell 2
    have hws := HV3.out.le
    simp only [List.getElem?_cons_zero, List.getElem?_cons_succ] at c2
    clear d1 f1
    go_wp2_with (at_builtin; refine wpList_append_lies _ rfl _ _ 29 rfl base 3 iH (.int .i64 0) 1 8 Try.underlying29 siH zH0 zH1 zH2 rfl (by decide) _ _ _ rfl (HV3.out.oH.alloc _) ⟨w4.heap.size, 0, none⟩ 1 1 [.int .i64 0] rfl rfl ?d1 ?d2 (by decide) ?d3 ?d4 ?d5 _ rfl ?_)
    case d1 =>
      intro j u hj
      match j, hj with
      | 0, hj => simp at hj; subst hj; simp [Addr.add]
    case d2 => intro u hu; simp at hu; subst hu; rfl
    case d3 => unfold maxLen; omega
    case d4 => omega
    case d5 => simp; omega
    intro g5 cap5 w5 hown5 hgr5 _ _
    obtain ⟨hrow5, hV5, hK5⟩ := HV3.out.appH _ 0 hown5 hgr5
    have d2 := hrow5.cell 2
    have f2 := hrow5.free 2
    simp only [List.getElem?_cons_zero, List.getElem?_cons_succ] at d2
    have HV5 := Lib.hid hV5
    have HK5 := Lib.hid (HK3.out.trans hK5)
    clear hrow5 hV5 hK5 hown5 hgr5 c2 hws HV3 HK3
    go_upto_region 16 with fail
    generalize w5.setCell ⟨p, 2, none⟩ (.slice (some ⟨g5, 0, none⟩) (L.length + 1) cap5) = w6 at *
    have c0 := HV5.out.row.cell 0
    simp only [List.getElem?_cons_zero] at c0
    clear d2 f2
    have HR6 : Hid (RS w6 p base (R2 ++ [⟨t, true, 0⟩])) := Lib.hid ⟨_, _, _, by
      have h6 := HV5.out
      rw [HT.out, HB.out, HL.out] at h6
      rw [List.map_append, List.map_append, List.map_append]
      exact h6⟩
    clear HV5
    go_wp2
    go_ret2
    rw [Hadd.out]
    exact ⟨by rw [Hlen.out]; rfl, HR6.out, HK5.out⟩
end Go.Proofs.Ytdaobbhgmjdooaa
