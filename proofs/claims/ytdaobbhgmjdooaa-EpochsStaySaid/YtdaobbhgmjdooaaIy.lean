/-
  EpochsStay (layer 21): the law's function by its walk: true for any slice of strings and any slice of bools. No condition beyond each theorem's premises.
-/
import Derived.Test.YtdaobbhgmjdooaaIk
import Derived.Test.YtdaobbhgmjdooaaIj
import Derived.Test.YtdaobbhgmjdooaaIi
import Derived.Maps.StringElems
import Derived.Deep.DeepCutAuto
namespace Go.Proofs.Ytdaobbhgmjdooaa
open Go.RowKit Go.Maps

theorem ikey : Keyed Try.prog 3 := int_keyed Try.underlying3
theorem draws_belowS {P : Program} {f : FuncId} {args : Array Value} {w : World} {v : Value} (h : Calls P f args w fun e w' => e = .returned v ∧ ∃ q, w' = w.drewN q) : Calls P f args w fun e w' => e = .returned v ∧ Below w.heap.size w w' :=
  h.mono fun e w' ⟨h1, q, h2⟩ => ⟨h1, by subst h2; exact ⟨rfl, rfl, rfl, Nat.le_refl _, fun _ _ => rfl⟩⟩
theorem quiet_d {P : Program} {f : FuncId} {args : Array Value} {w : World} {n : Nat} {v : Value}
    (h : Calls P f args (w.drewN n) fun e w' => e = .returned v ∧ ∃ q, w' = (w.drewN n).drewN q) : Calls P f args (w.drewN n) fun e w'' => e = .returned v ∧ ∃ m, w'' = w.drewN m :=
  h.mono fun _ _ ⟨he, q, hq⟩ => ⟨he, n + q, by rw [hq, World.drewN_drewN]⟩
theorem SP.sgS {w : World} {b m : Nat} {l : List Bm.Dic} (h : SP w (some ⟨b, 0, none⟩) m l) : SG w b m l := by
  rcases h with ⟨h1, _⟩ | ⟨b2, h1, h2⟩
  · cases h1
  · injection h1 with h1
    injection h1 with h1
    subst h1
    exact h2
/-- What the law holds after k texts. -/
structure ST (w : World) (b mB k : Nat) (l : List Bm.Dic) (D : DataW Unit) : Prop where
  sg : SG w b (2 * k) l
  om : w.ownsMap Try.prog 3 (plainElem Try.prog 9) mB k D
  hj : HJ l D
theorem ST.below {w w' : World} {b mB k : Nat} {l : List Bm.Dic} {D : DataW Unit} (h : ST w b mB k l D) (hb : Below w.heap.size w w') : ST w' b mB k l D :=
  ⟨h.sg.below hb, h.om.kept (grown_below hb none) (by simp), h.hj⟩
/-- What Text answers of what is noted. -/
theorem etext_noted (b m : Nat) (l : List Bm.Dic) (D : DataW Unit) (x : Int) (c : ByteArray) (w : World) (h : SG w b m l) (hj : HJ l D) (ha : ∀ zd, D.atKey (.int .i64 x) zd = .lit (.string c.data.toList)) :
    Calls Try.prog 13 #[.pointer (some ⟨b, 0, none⟩), .int .i64 x] w fun e w' => e = .returned (.tuple #[.string c, .bool true]) ∧ Below w.heap.size w w' := by
  obtain ⟨d, hd, rfl, h2, _⟩ := hj.at_ x _ ha
  have hg := hj.so.get hd
  have hc : d.t = c := ByteArray.ext (Array.toList_inj.1 h2)
  have h3 := draws_belowS (etext_any _ m l (d.e : Int) w h.toP)
  rw [show txD (d.e : Int) l = c by unfold txD; rw [hg]; exact hc, show isD (d.e : Int) l = true by unfold isD; rw [hg]; rfl] at h3
  exact h3
set_option maxHeartbeats 400000 in
set_option maxRecDepth 100000 in
theorem estay_out (A : Option Addr) (L c : Nat) (A2 : Option Addr) (L2 c2 : Nat) (w : World) (hl : 60 < L) (hL : L ≤ 9223372036854775807) :
    Calls Try.prog 4 #[.slice A L c, .slice A2 L2 c2] w fun e w' => e = .returned (.bool true) ∧ Below w.heap.size w w' := by
  have Haw := Lib.hid (epawake_any w)
  have hd : decide (60 < (L : Int)) = true := decide_eq_true (by omega)
  go_enter Try.func4, Try.ntmps4
  go_wp2_with fail
  refine Haw.out.mono ?_
  rintro e w1 ⟨rfl, hb1⟩
  have HB1 := Lib.hid hb1
  clear hb1
  go_wp2
  go_ret
  exact ⟨rfl, HB1.out⟩
set_option maxHeartbeats 2000000 in
set_option maxRecDepth 100000 in
theorem estay_in (A : Option Addr) (c : Nat) (ts : List ByteArray) (A2 : Option Addr) (c2 : Nat) (hs : List Bool) (w : World) (hl : ts.length ≤ 60) (hr : Reads w A (strC ts)) (hh : ArgBo w A2 hs.length c2 hs) (hsl : hs.length ≤ 9223372036854775807) :
    Calls Try.prog 4 #[.slice A ts.length c, .slice A2 hs.length c2] w fun e w' => e = .returned (.bool true) ∧ Below w.heap.size w w' := by
  have Haw := Lib.hid (epawake_any w)
  have hd : decide (60 < (ts.length : Int)) = false := decide_eq_false (by omega)
  have Hr := Lib.hid hr
  have Hcell := Lib.hid hh.2.1
  have hmm := @run_makeMap Try.prog
  clear hr hh
  go_enter Try.func4, Try.ntmps4
  go_wp2_with fail
  refine Haw.out.mono ?_
  rintro e w1 ⟨rfl, hb1⟩
  have HB1 := Lib.hid hb1
  have Hnew := Lib.hid (enew_any w1)
  clear hb1 Haw
  go_wp2_with fail
  refine Hnew.out.mono ?_
  rintro e w2 ⟨b, rfl, hS2, hb, hb2⟩
  have HB2 := Lib.hid (HB1.out.trans (hb2.mono HB1.out.size))
  have Hb := Lib.hid (Nat.le_trans HB1.out.size hb)
  have HS2 := Lib.hid hS2
  clear hS2 hb2 hb Hnew HB1
  go_upto_region 7 with fail
  have HE3 : Hid (ST (w2.alloc (.map #[] 0)) b w2.heap.size 0 [] (.map [])) := Lib.hid ⟨HS2.out.below ((Below.refl _ _).alloc (Nat.le_refl _) _), World.ownsMap_made _ _ _ _, HJ.start⟩
  have HB3 : Hid (Below w.heap.size w (w2.alloc (.map #[] 0))) := Lib.hid (HB2.out.alloc HB2.out.size _)
  have Hm : Hid (w.heap.size ≤ w2.heap.size ∧ b < w2.heap.size) := Lib.hid ⟨HB2.out.size, HS2.out.lt⟩
  clear HS2 HB2 hmm
  generalize w2.alloc (.map #[] 0) = w3 at *
  generalize w2.heap.size = mB at *
  clear hd
  go_wp2
  go_loopw [7, 8, 9, 10, 11, 12, 13, 14, 15, 25] (fun _ _ _ _ _ _ _ _ _ i wr => ∃ k : Nat, k ≤ ts.length ∧ i = .int .i64 (k : Int) ∧ Hid (∃ l D, ST wr b mB k l D) ∧ Hid (Below w.heap.size w wr)) (fun _ _ _ _ _ _ _ _ _ i _ => ts.length - (intOf i).toNat)
  case atStart => exact ⟨0, Nat.zero_le _, rfl, Lib.hid ⟨[], _, HE3.out⟩, HB3⟩
  case round =>
    obtain ⟨k, hk, rfl, hex, hbel⟩ := hrel
    obtain ⟨l, D, hE⟩ := hex.out
    have HE := Lib.hid hE
    clear HE3 HB3 hex hE
    by_cases hkl : k < ts.length
    · obtain ⟨g, off, rfl, hc⟩ := reads_str (reads_on Hr.out hbel.out) (by omega)
      have c0 := hc k hkl
      have hkI : (k : Int) < (ts.length : Int) := by omega
      have Hk60 : Hid (k ≤ 60) := Lib.hid (by omega)
      have hk60 : k ≤ 60 := by omega
      clear hc
      generalize ts[k] = t at *
      by_cases ht : 20 < t.size
      · have hdt : decide (20 < (t.size : Int)) = true := decide_eq_true (by omega)
        go_wp2
        go_ret
        exact ⟨rfl, hbel.out⟩
      have hdt : decide (20 < (t.size : Int)) = false := decide_eq_false (by omega)
      have Ht : Hid (t.size ≤ 20) := Lib.hid (by omega)
      have hadd := eadd_any b (2 * k) l t wr (by omega) HE.out.sg
      rcases addD_cases t l (by omega) HE.out.hj.so with ⟨ha, h7⟩ | ⟨l0, ha, hs0, hc0, hm0⟩
      · rw [ha] at hadd
        have Hadd := Lib.hid hadd
        have hz7 : 7 ≤ Maps.size D := by rw [HE.out.hj.size]; exact h7
        clear ha h7 hadd ht
        go_wp2_with fail
        refine Hadd.out.mono ?_
        rintro e w4 ⟨rfl, hS4, hg4⟩
        have HB4 := Lib.hid (hbel.out.trans (below_grown hg4 Hb.out hbel.out.size))
        have hom : w4.ownsMap Try.prog 3 (plainElem Try.prog 9) mB k D := HE.out.om.kept hg4 (fun e => by injection e with e; have := Hm.out.2; omega)
        have HE4 : Hid (ST w4 b mB (k + 1) l D) := Lib.hid ⟨hS4.mono (by omega), hom.mono (Nat.le_succ k), HE.out.hj⟩
        have hlen := fun ty => hom.len Try.underlying47 ty
        generalize Maps.size D = z at *
        have d7 : decide ((z : Int) < 7) = false := decide_eq_false (by omega)
        have d8 : decide (z < 7) = false := decide_eq_false (by omega)
        clear hS4 hg4 Hadd hom HE c0 hbel hdt
        go_wp2
        go_roundw
        case rel => exact ⟨k + 1, by omega, by go_num, Lib.hid ⟨l, D, HE4.out⟩, HB4⟩
        case measure => simp [intOf]; omega
      · rw [ha] at hadd
        have Hadd := Lib.hid hadd
        have hJ := HE.out.hj.add t hs0 hc0 hm0
        have HJ4 := Lib.hid hJ
        clear ha hs0 hc0 hm0 hadd ht hJ
        generalize hn : Bm.lastD l0 + 1 = n at *
        have hn1 : 1 ≤ n := by omega
        have Hn1 := Lib.hid hn1
        clear hn
        go_wp2_with fail
        refine Hadd.out.mono ?_
        rintro e w4 ⟨rfl, hS4, hg4⟩
        have HS4 := Lib.hid hS4
        have HB4 := Lib.hid (hbel.out.trans (below_grown hg4 Hb.out hbel.out.size))
        have HM4 : Hid (w4.ownsMap Try.prog 3 (plainElem Try.prog 9) mB k D) := Lib.hid (HE.out.om.kept hg4 (fun e => by injection e with e; have := Hm.out.2; omega))
        have hn2 : n ≤ 1000 := by
          have h5 := hS4.small.2 ⟨n, t, 0⟩ (List.mem_append_right _ (List.mem_singleton.2 rfl))
          have h6 : n ≤ 2 * k + 1 := h5.1
          omega
        clear hS4 hg4 Hadd HE c0 hbel hdt
        go_upto_region 18 with fail
        go_cut [64] from 50 to 64 (fun s64 wx => wx = w4 ∧ (s64 = .bool true ∨ s64 = .bool false))
        case first =>
          have hlen := fun ty => HM4.out.len Try.underlying47 ty
          generalize Maps.size D = z at *
          by_cases hkh : k < hs.length
          · obtain ⟨g2, off2, rfl, hg2, hc2⟩ := Hcell.out (by omega)
            have b0 := (HB4.out.cell (p := ⟨g2, off2 + k, none⟩) hg2).trans (hc2 k hkh)
            have hkhI : decide ((k : Int) < (hs.length : Int)) = true := decide_eq_true (by omega)
            have hkhI2 : (k : Int) < (hs.length : Int) := by omega
            clear hc2
            cases hb : hs[k] with
            | false =>
              rw [hb] at b0
              go_wp2
              go_meet
              exact ⟨rfl, Or.inr rfl⟩
            | true =>
              rw [hb] at b0
              by_cases hz8 : z < 8
              · have d8 : decide ((z : Int) < 8) = true := decide_eq_true (by omega)
                have d9 : decide (z < 8) = true := decide_eq_true hz8
                go_wp2
                go_meet
                exact ⟨rfl, Or.inl rfl⟩
              · have d8 : decide ((z : Int) < 8) = false := decide_eq_false (by omega)
                have d9 : decide (z < 8) = false := decide_eq_false hz8
                go_wp2
                go_meet
                exact ⟨rfl, Or.inr rfl⟩
          · have hkhI : decide ((k : Int) < (hs.length : Int)) = false := decide_eq_false (by omega)
            have hkhN : decide (k < hs.length) = false := decide_eq_false hkh
            go_wp2
            go_meet
            exact ⟨rfl, Or.inr rfl⟩
        case rest =>
        obtain ⟨hwc, h64⟩ := hcut
        have hwc2 := hwc.symm
        subst hwc2
        apply_assumption
        go_cut [64] (fun _ wx => Hid (∃ l2 D2, ST wx b mB (k + 1) l2 D2 ∧ l2 ≠ []) ∧ Hid (Below w.heap.size w wx))
        case first =>
          rcases h64 with rfl | rfl
          · have hwf : (Lit.int .i64 (n : Int)).wf = true := WalkArith.wf_i64 (by omega)
            obtain ⟨hu, hJ2⟩ := HJ4.out.hold (HM4.out.tidy ikey)
            have HJ2 := Lib.hid hJ2
            have Hu := Lib.hid hu
            clear hu hJ2
            go_wp2_with (first
              | (at_mapUpdate; refine wpList_mapUpdate_own _ rfl _ _ _ 47 rfl 3 9 ikey Try.underlying47 _ mB k D rfl HM4.out (by unfold maxLen; omega) _ _ (kE (n : Int)) rfl rfl (keyOf_int_mk Try.underlying3 hwf) _ [] (plainElem_string Try.underlying9 (by have := Ht.out; unfold maxLen; omega)) ?_; intro w5 hom5 hg5)
              | fail)
            have HM5 := Lib.hid hom5
            have HS5 := Lib.hid (HS4.out.keep (hg5.block b HS4.out.lt (fun e => by injection e with e; have := Hm.out.2; omega)))
            have HB5 := Lib.hid (HB4.out.trans (below_grown hg5 Hm.out.1 HB4.out.size))
            have Hho := Lib.hid (ehold_any (some ⟨b, 0, none⟩) (2 * k + 1) (l0 ++ [⟨n, t, 0⟩]) (n : Int) w5 (by omega) HS5.out.toP)
            rw [Hu.out] at Hho
            clear hom5 hg5 HS4 HB4 HM4 HJ4 Hu hwf
            go_wp2_with fail
            refine Hho.out.mono ?_
            rintro e w6 ⟨rfl, hS6, hg6⟩
            have HM6 : Hid (w6.ownsMap Try.prog 3 (plainElem Try.prog 9) mB (k + 1) (D.put (kE (n : Int)) (.lit (.string t.data.toList)))) := Lib.hid (HM5.out.kept (row := some b) hg6 (fun e => by injection e with e; have := Hm.out.2; omega))
            have HE6 : Hid (ST w6 b mB (k + 1) (l0 ++ [⟨n, t, 1⟩]) (D.put (kE (n : Int)) (.lit (.string t.data.toList)))) := Lib.hid ⟨hS6.sgS, HM6.out, HJ2.out⟩
            have HB6 := Lib.hid (HB5.out.trans (below_grown (b := b) hg6 Hb.out HB5.out.size))
            clear hS6 hg6 Hho HM5 HS5 HB5 HM6 HJ2
            go_wp2
            go_meet
            exact ⟨Lib.hid ⟨_, _, HE6.out, by simp⟩, HB6⟩
          · have HE6 : Hid (ST w4 b mB (k + 1) (l0 ++ [⟨n, t, 0⟩]) D) := Lib.hid ⟨HS4.out.mono (by omega), HM4.out.mono (Nat.le_succ k), HJ4.out⟩
            go_wp2
            go_meet
            exact ⟨Lib.hid ⟨_, _, HE6.out, by simp⟩, HB4⟩
        case rest =>
        obtain ⟨hex6, HB6⟩ := hcut
        obtain ⟨l2, D2, hE6, hne⟩ := hex6.out
        have HE6 := Lib.hid hE6
        obtain ⟨q, hq⟩ : ∃ q, q + 1 = l2.length := ⟨l2.length - 1, by have := List.length_pos_iff.2 hne; omega⟩
        have Hq := Lib.hid hq
        obtain ⟨r, hrr⟩ : ∃ r, r = wc.heap.size := ⟨_, rfl⟩
        have Hrr := Lib.hid hrr
        have hl28 := hE6.sg.small.1
        clear hex6 hE6 hne hq hrr HS4 HB4 HM4 HJ4 h64
        go_wp2_with (first
          | (at_range; refine wpList_range_own _ rfl _ 47 rfl 3 9 ikey Try.underlying47 _ mB (k + 1) D2 rfl HE6.out.om ?_; intro w7 hrg7 hg7 hs7)
          | fail)
        rw [← Hrr.out] at hrg7
        rw [← Hrr.out]
        have HR7 := Lib.hid hrg7
        have HB7 : Hid (Below wc.heap.size wc w7) := Lib.hid (below_of_grown hg7)
        clear hrg7 hg7 hs7
        go_loopw [11, 12, 13, 14] (fun _ _ _ _ wz => ∃ left cnt, Hid (wz.ranges Try.prog 3 (plainElem Try.prog 9) mB r (k + 1) D2 left cnt) ∧ Hid (Below wc.heap.size wc wz)) (fun _ _ _ _ wz => wz.rangeLeft mB r)
        case atStart => exact ⟨_, _, HR7, HB7⟩
        case round =>
          obtain ⟨left, cnt, hrg, hbz⟩ := hrel
          clear HR7 HB7
          have HEz := Lib.hid (HE6.out.below hbz.out)
          go_wp2_with (first
            | (at_next; refine wpList_next_ranges_is _ rfl _ rfl 3 9 .i64 ikey Try.underlying3 Try.underlying9 mB r (k + 1) D2 left cnt rfl hrg.out ?_ ?_)
            | fail)
          · intro _ _
            have Hall := Lib.hid (eall_any (some ⟨b, 0, none⟩) (2 * (k + 1)) l2 wr HEz.out.sg.toP)
            have Hz := Lib.hid (Bm.lastD_get l2 q Hq.out)
            go_wp2_with fail
            refine Hall.out.mono ?_
            rintro e w9 ⟨gA, rfl, _, hrow9, hb9⟩
            have HE9 := Lib.hid (HEz.out.below hb9)
            have HB9 := Lib.hid (HB6.out.trans ((hbz.out.trans (hb9.mono hbz.out.size)).mono HB6.out.size))
            have cq : w9.cell? ⟨gA, q, none⟩ = some (.int .i64 (Bm.lastD l2 : Int)) := by
              have hql : q < l2.length := by have := Hq.out; omega
              rw [hrow9.cell q, i64s_get? _ q (by rw [List.length_map]; exact hql), List.getElem_map, ← Hz.out]
            have Hla := Lib.hid (fun n => elast_any (some ⟨b, 0, none⟩) (2 * (k + 1)) l2 (w9.drewN n) (show SP (w9.drewN n) _ _ _ from HE9.out.sg.toP))
            have hq1 : (l2.length : Int) - 1 = (q : Int) := by have := Hq.out; omega
            have dA : decide (8 < (l2.length : Int)) = false := decide_eq_false (by omega)
            have dA2 : decide (8 < l2.length) = false := decide_eq_false (by omega)
            have dB : ((l2.length : Int) == 0) = false := by rw [beq_eq_false_iff_ne]; have := Hq.out; omega
            have dB2 : (l2.length == 0) = false := by rw [beq_eq_false_iff_ne]; have := Hq.out; omega
            have hql : (q : Int) < (l2.length : Int) := by have := Hq.out; omega
            have hzz : ((Bm.lastD l2 : Int) == (Bm.lastD l2 : Int)) = true := beq_self_eq_true _
            have hzl : Bm.lastD l2 ≤ 1000 := by
              have h5 := Bm.lastD_le l2 (2 * (k + 1)) (fun d hd => (HE9.out.sg.small.2 d hd).1)
              omega
            clear hrow9 hb9 Hall hrg hbz HEz HB6 HE6 Hz
            generalize Bm.lastD l2 = z at *
            go_wp2_with fail
            go_quiet ((go_at_call 15; exact quiet_d (Hla.out _)))
            go_wp2
            go_roundw
            case rel => exact ⟨k + 1, by omega, by go_num, Lib.hid ⟨l2, D2, HE9.out.sg.keep rfl, HE9.out.om, HE9.out.hj⟩, Lib.hid ⟨HB9.out.os, HB9.out.tape, HB9.out.output, HB9.out.size, HB9.out.block⟩⟩
            case measure => simp [intOf]; omega
          · intro x cs w8 cnt8 hwx hwc hlx hat hrg8 hlt8 hg8 hs8 hen
            have hbr : b ≠ r := by have := HE6.out.sg.lt; have := Hrr.out; omega
            have HT := Lib.hid (etext_noted b (2 * (k + 1)) l2 D2 x cs w8 (HEz.out.sg.keep (hg8.block b HEz.out.sg.lt (fun e => by injection e with e; exact hbr e))) HEz.out.hj hat)
            have Hrg8 := Lib.hid hrg8
            have HB8 := Lib.hid (hbz.out.grown hg8 hbz.out.size (fun j e => by injection e with e; rw [← e, Hrr.out]; exact Nat.le_refl _))
            have Hlt := Lib.hid hlt8
            have hse : (cs.toList == cs.toList) = true := beq_self_eq_true _
            clear hat hrg8 hlt8 hg8 hs8 hlx hwx hwc hbr
            go_wp2_with fail
            refine HT.out.mono ?_
            rintro e w9 ⟨rfl, hb9⟩
            have Hrg9 := Lib.hid (Hrg8.out.kept (grown_below hb9 none) (by simp) (by simp))
            have HB9 := Lib.hid (HB8.out.trans (hb9.mono HB8.out.size))
            clear hb9 HT Hrg8 HB8 hen
            go_wp2
            go_roundw
            case rel => exact ⟨_, cnt8, Hrg9, HB9⟩
            case measure => rw [Hrg9.out.left_eq, hrg.out.left_eq]; exact Hlt.out
    · obtain rfl : k = ts.length := by omega
      go_wp2
      go_ret
      exact ⟨rfl, hbel.out⟩
end Go.Proofs.Ytdaobbhgmjdooaa
