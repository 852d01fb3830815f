/-
  LinkRuns (layer 23): the law's function by its walk: true for any slice of deeds and any number. Conditions: as each theorem's premises say.
-/
import Derived.Test.YtecelklpeealaaaWy
import Derived.Test.YtecelklpeealaaaWe
import Derived.Test.YtecelklpeealaaaLb
import Derived.Test.YtecelklpeealaaaQl
import Derived.Deep.DeepCutAuto
namespace Go.Proofs.Ytecelklpeealaaa
open Go.RowKit

set_option maxHeartbeats 400000 in
set_option maxRecDepth 100000 in
theorem lkruns_out (A : Option Addr) (L c : Nat) (x : Int) (w : World) (hl : 100 < L) (hL : L ≤ 9223372036854775807) :
    Calls Try.prog 3 #[.slice A L c, .int .i64 x] w fun e w' => e = .returned (.bool true) ∧ Below w.heap.size w w' := by
  have Haw := Lib.hid (lkawake_any w)
  have hd : decide (100 < (L : Int)) = true := decide_eq_true (by omega)
  go_enter Try.func3, Try.ntmps3
  go_wp2_with fail
  refine Haw.out.mono ?_
  rintro e w1 ⟨rfl, hb1⟩
  have HB1 := Lib.hid hb1
  clear hb1
  go_wp2
  go_ret
  exact ⟨rfl, HB1.out⟩
/-- The loop's state behind k deeds. -/
def RI (w : World) (b c p1 p2 base m k : Nat) : Prop := ∃ up g x, g ≤ k ∧ RS w b c p1 p2 base m (30 * k) up g x
theorem RI.below {w w' : World} {b c p1 p2 base m k : Nat} (h : RI w b c p1 p2 base m k) (hb : Below w.heap.size w w') : RI w' b c p1 p2 base m k := by
  obtain ⟨up, g, x, h1, h2⟩ := h
  exact ⟨up, g, x, h1, h2.below hb⟩
/-- Set, behind the program's own Join or Cut. -/
theorem RS.set {w w1 : World} {b c p1 p2 base m L : Nat} {up u : Bool} {g g' : Nat} {x : RSt} (k : RS w b c p1 p2 base m L up g x) (hg : w.grownBy w1 (some b)) (hk : LK w1 b u g' m PSt.new PSt.new) (hu : up ≠ u) (hgg : g < 1000000000000) (h' : (if u = true then g + 1 else g) = g')
    (hb : b < p1) (h12 : p1 < p2) (h2c : p2 < c) (hcb : c < base) :
    Calls Try.prog 11 #[.pointer (some ⟨c, 0, none⟩), .bool u] w1 fun e w' => e = .returned (.bool true) ∧ (∃ x', RS w' b c p1 p2 base m L u g' x') ∧ ∀ B, B ≤ b → B ≤ w.heap.size → Below B w w' := by
  have hrow := k.rl.keep (hg.block c k.rl.lt (fun e => by injection e with e; omega))
  refine (rlset_yes c p1 p2 base g m x.q1 x.q2 w.heap.size x.S1 x.a1 x.K1 x.S2 x.a2 x.K2 up u w1 hu hgg h12 h2c hrow (k.r1.grown hg hb) (k.r2.grown hg (by omega))).mono ?_
  rintro e w2 ⟨rfl, h1, h2, h3, h4⟩
  rw [h'] at h1
  have hs := hg.size
  have hs2 := h4.size
  refine ⟨rfl, ⟨_, RS.ofNew (hk.keep (h4.block b (Nat.lt_of_lt_of_le k.lk.lt hs) (by omega) (by omega) (by omega))) h1 h2 h3 h12 h2c hcb (by have := k.r1.lt.2.2.1; omega)⟩, fun B h5 h6 => (below_grown hg h5 h6).trans (h4.below (by omega) (by omega) (by omega) (by omega))⟩
set_option maxHeartbeats 4000000 in
set_option maxRecDepth 100000 in
theorem lkruns_in (A : Option Addr) (cap : Nat) (xs : List Led) (x : Int) (w : World) (hl : xs.length ≤ 100) (hx : ArgLd w A xs.length cap xs) :
    Calls Try.prog 3 #[.slice A xs.length cap, .int .i64 x] w fun e w' => e = .returned (.bool true) ∧ Below w.heap.size w w' := by
  have Haw := Lib.hid (lkawake_any w)
  have hd : decide (100 < (xs.length : Int)) = false := decide_eq_false (by omega)
  have Hm := Lib.hid (Bm.most_le x)
  have Hok := Lib.hid hx.2.1
  have Hcell := Lib.hid hx.2.2.1
  clear hx
  go_enter Try.func3, Try.ntmps3
  go_wp2_with fail
  refine Haw.out.mono ?_
  rintro e w1 ⟨rfl, hb1⟩
  have HB1 := Lib.hid hb1
  have Hnew := Lib.hid (lknew_any x w1)
  clear hb1 Haw
  go_wp2_with fail
  refine Hnew.out.mono ?_
  rintro e w2 ⟨b, rfl, hk2, hb, hb2⟩
  have HB2 := Lib.hid (HB1.out.trans (hb2.mono HB1.out.size))
  have Hb := Lib.hid (Nat.le_trans HB1.out.size hb)
  have HK2 := Lib.hid hk2
  have Hrn := Lib.hid (rlnew_any x w2)
  clear hk2 hb2 hb Hnew HB1
  go_wp2_with fail
  refine Hrn.out.mono ?_
  rintro e w3 ⟨p1, p2, c, rfl, hr, hr1, hr2, hp1, h12, h2c, hcs, hb3⟩
  have Hord := Lib.hid (show b < p1 ∧ p1 < p2 ∧ p2 < c ∧ c < c + 1 from ⟨Nat.lt_of_lt_of_le HK2.out.lt hp1, h12, h2c, Nat.lt_succ_self _⟩)
  have HJ3 : Hid (RI w3 b c p1 p2 (c + 1) (Bm.mostN x) 0) := Lib.hid ⟨false, 0, _, Nat.le_refl _, RS.ofNew (HK2.out.below hb3) hr hr1 hr2 h12 h2c (Nat.lt_succ_self _) hcs⟩
  have HB3 := Lib.hid (HB2.out.trans (hb3.mono HB2.out.size))
  clear hr hr1 hr2 hp1 h12 h2c hcs hb3 HK2 HB2 Hrn
  generalize c + 1 = base at *
  generalize Bm.mostN x = m at *
  clear hd
  go_wp2
  go_loopw [8, 9, 10, 22] (fun _ _ _ i wr => ∃ k : Nat, k ≤ xs.length ∧ i = .int .i64 (k : Int) ∧ Hid (RI wr b c p1 p2 base m k) ∧ Hid (Below w.heap.size w wr)) (fun _ _ _ i _ => xs.length - (intOf i).toNat)
  case atStart => exact ⟨0, Nat.zero_le _, rfl, HJ3, HB3⟩
  case round =>
    obtain ⟨k, hk, rfl, hE, hbel⟩ := hrel
    have HE := Lib.hid hE.out
    clear HJ3 HB3 hE
    by_cases hkl : k < xs.length
    · obtain ⟨g, off, rfl, hg, hc⟩ := Hcell.out (by omega)
      obtain ⟨q0, q1, q2, q3⟩ := (hc k hkl).below hbel.out hg
      obtain ⟨o0, o1⟩ := Hok.out xs[k] (List.getElem_mem hkl)
      have hkI : (k : Int) < (xs.length : Int) := by omega
      have Hk100 : Hid (k < 100) := Lib.hid (by omega)
      clear hc
      generalize xs[k] = dd at *
      obtain ⟨kd, fr, nn, tx⟩ := dd
      simp only at q0 q1 q2 q3 o0 o1
      go_upto_region 9 with fail
      have hdr := Row.new wr 29 [.int .u8 (kd : Int), .bool fr, .int .i64 nn, .string tx]
      have hda : Below wr.heap.size wr (wr.alloc (.cells #[.int .u8 (kd : Int), .bool fr, .int .i64 nn, .string tx] 29)) := (Below.refl _ _).alloc (Nat.le_refl _) _
      have HEA := Lib.hid (HE.out.below hda)
      have HBA := Lib.hid (hbel.out.trans (hda.mono hbel.out.size))
      have HD := Lib.hid (show Row (wr.alloc (.cells #[.int .u8 (kd : Int), .bool fr, .int .i64 nn, .string tx] 29)) wr.heap.size 29 [.int .u8 (kd : Int), .bool fr, .int .i64 nn, .string tx] from hdr)
      clear hdr hda HE hbel q0 q1 q2 q3 hg Hcell Hok
      generalize wr.alloc (.cells #[.int .u8 (kd : Int), .bool fr, .int .i64 nn, .string tx] 29) = wA at *
      generalize wr.heap.size = dB at *
      have e0 := HD.out.cell 0
      have e1 := HD.out.cell 1
      have e2 := HD.out.cell 2
      have e3 := HD.out.cell 3
      simp only [List.getElem?_cons_zero, List.getElem?_cons_succ] at e0 e1 e2 e3
      clear HD
      by_cases ht : 30 < tx.size
      · have hdt : decide (30 < (tx.size : Int)) = true := decide_eq_true (by omega)
        go_wp2
        go_ret
        exact ⟨rfl, HBA.out⟩
      have hdt : decide (30 < (tx.size : Int)) = false := decide_eq_false (by omega)
      have Htx : Hid (tx.size ≤ 30) := Lib.hid (by omega)
      clear ht
      go_upto_region 11 with fail
      go_cut [9] from 30 to 32 (fun s9 wx => wx = wA ∧ s9 = .int .u8 ((kd % 6 : Nat) : Int))
      case first =>
        go_wp2
        go_meet
        exact ⟨rfl, by first | rfl | simp⟩
      case rest =>
      obtain ⟨hwc, rfl⟩ := hcut
      have hwc2 := hwc.symm
      subst hwc2
      apply_assumption
      obtain ⟨tl, rfl, hlt⟩ := of_string tx
      rw [strOf_size tl] at Htx hdt
      have Hlt := Lib.hid hlt
      have hr6 : kd % 6 < 6 := Nat.mod_lt _ (by decide)
      clear hdt hlt
      go_cut [10] (fun _ wx => Hid (RI wx b c p1 p2 base m (k + 1)) ∧ Hid (Below w.heap.size w wx))
      case first =>
        obtain ⟨up, gg, y, hgk, hRS⟩ := HEA.out
        have HRS := Lib.hid hRS
        have Hgk := Lib.hid hgk
        have hbB := Hb.out
        clear hRS HEA hgk
        have HO := Lib.hid (fun (W : World) (kw : RS W b c p1 p2 base m (30 * k) up gg y) => lkone_any kd fr nn tl b c p1 p2 base m (30 * k) gg up y W Htx.out Hlt.out o0 (by have := Hk100.out; omega) Hord.out.1 Hord.out.2.1 Hord.out.2.2.1 Hord.out.2.2.2 kw)
        generalize kd % 6 = r6 at *
        by_cases h0 : r6 = 0
        · subst h0
          have HNo := Lib.hid (show RI wA b c p1 p2 base m (k + 1) from ⟨up, gg, y, by have := Hgk.out; omega, HRS.out.more (by omega)⟩)
          clear HO
          cases up with
          | true =>
            have H1 := Lib.hid (lkjoin_no b wA HRS.out.lk.cells.1)
            have H2 := Lib.hid (rlset_no c p1 p2 gg true wA HRS.out.rl)
            clear HRS
            go_wp2_with fail
            refine H1.out.mono ?_
            rintro e w' ⟨rfl, rfl⟩
            go_wp2_with fail
            refine H2.out.mono ?_
            rintro e w' ⟨rfl, rfl⟩
            go_wp2
            go_meet
            exact ⟨HNo, HBA⟩
          | false =>
            have H1 := Lib.hid (lkjoin_yes b gg m y.s y.t wA (by have := Hk100.out; have := Hgk.out; omega) HRS.out.lk)
            clear HNo
            go_wp2_with fail
            refine H1.out.mono ?_
            rintro e wB ⟨rfl, hkB, hgB⟩
            have H2 := Lib.hid (RS.set HRS.out hgB hkB (by decide) (by have := Hk100.out; have := Hgk.out; omega) rfl Hord.out.1 Hord.out.2.1 Hord.out.2.2.1 Hord.out.2.2.2)
            have HwA := Lib.hid (show w.heap.size ≤ wA.heap.size from HBA.out.size)
            clear H1 hkB hgB HRS
            go_wp2_with fail
            refine H2.out.mono ?_
            rintro e wC ⟨rfl, ⟨y', hRC⟩, hBC⟩
            have HRC : Hid (RI wC b c p1 p2 base m (k + 1)) := Lib.hid ⟨true, gg + 1, y', by have := Hgk.out; omega, hRC.more (by omega)⟩
            have HBC := Lib.hid (HBA.out.trans (hBC _ hbB HwA.out))
            clear hRC hBC H2
            go_wp2
            go_meet
            exact ⟨HRC, HBC⟩
        · have d0 : ((r6 : Int) == 0) = false := by rw [beq_eq_false_iff_ne]; omega
          by_cases h1 : r6 = 1
          · subst h1
            have HNo := Lib.hid (show RI wA b c p1 p2 base m (k + 1) from ⟨up, gg, y, by have := Hgk.out; omega, HRS.out.more (by omega)⟩)
            clear HO
            cases up with
            | false =>
              have H1 := Lib.hid (lkcut_no b wA HRS.out.lk.cells.1)
              have H2 := Lib.hid (rlset_no c p1 p2 gg false wA HRS.out.rl)
              clear HRS
              go_wp2_with fail
              refine H1.out.mono ?_
              rintro e w' ⟨rfl, rfl⟩
              go_wp2_with fail
              refine H2.out.mono ?_
              rintro e w' ⟨rfl, rfl⟩
              go_wp2
              go_meet
              exact ⟨HNo, HBA⟩
            | true =>
              have H1 := Lib.hid (lkcut_yes b gg m y.s y.t wA HRS.out.lk)
              clear HNo
              go_wp2_with fail
              refine H1.out.mono ?_
              rintro e wB ⟨rfl, hkB, hgB⟩
              have H2 := Lib.hid (RS.set HRS.out hgB hkB (by decide) (by have := Hk100.out; have := Hgk.out; omega) rfl Hord.out.1 Hord.out.2.1 Hord.out.2.2.1 Hord.out.2.2.2)
              have HwA := Lib.hid (show w.heap.size ≤ wA.heap.size from HBA.out.size)
              clear H1 hkB hgB HRS
              go_wp2_with fail
              refine H2.out.mono ?_
              rintro e wC ⟨rfl, ⟨y', hRC⟩, hBC⟩
              have HRC : Hid (RI wC b c p1 p2 base m (k + 1)) := Lib.hid ⟨false, gg, y', by have := Hgk.out; omega, hRC.more (by omega)⟩
              have HBC := Lib.hid (HBA.out.trans (hBC _ hbB HwA.out))
              clear hRC hBC H2
              go_wp2
              go_meet
              exact ⟨HRC, HBC⟩
          · have d2 : decide ((r6 : Int) < 2) = false := decide_eq_false (by omega)
            have H1 := Lib.hid (HO.out wA HRS.out)
            clear HO HRS
            generalize strOf tl = ts at *
            go_wp2_with fail
            refine H1.out.mono ?_
            rintro e wC ⟨rfl, ⟨y', hRC⟩, hBC⟩
            have HRC : Hid (RI wC b c p1 p2 base m (k + 1)) := Lib.hid ⟨up, gg, y', by have := Hgk.out; omega, hRC.more (by omega)⟩
            have HBC := Lib.hid (HBA.out.trans (hBC _ hbB))
            clear hRC hBC H1
            go_wp2
            go_meet
            exact ⟨HRC, HBC⟩
      case rest =>
        obtain ⟨hRI, HB2⟩ := hcut
        obtain ⟨up, gg, y, hgk, hRS⟩ := hRI.out
        have HJ := Lib.hid hRI.out
        have HU := Lib.hid (fun d => lkup_at b up (wc.drewN d) hRS.lk.cells.1)
        have HG := Lib.hid (fun d => lkgen_at b gg (wc.drewN d) hRS.lk.cells.2.1)
        have HT := Lib.hid (fun d => lkto_at b up (wc.drewN d) hRS.lk.cells.1)
        have HF := Lib.hid (fun d => lkfrom_at b up (wc.drewN d) hRS.lk.cells.1)
        have c0 := hRS.rl.cell 0
        have c1 := hRS.rl.cell 1
        have c2 := hRS.rl.cell 2
        have c3 := hRS.rl.cell 3
        simp only [rlC, List.getElem?_cons_zero, List.getElem?_cons_succ] at c0 c1 c2 c3
        have hgb : gg ≤ 1000 := by have := Hk100.out; omega
        have g0 : ((gg : Int) == (gg : Int)) = true := beq_self_eq_true _
        cases up with
        | false =>
          have HI := Lib.hid (fun d => lkidle_down b (wc.drewN d) hRS.lk.cells.1)
          unfold pipeV at HT HF
          rw [if_neg (by decide)] at HT HF
          clear hRS hRI
          go_wp2_with fail
          go_quiet ((first
            | (go_at_call 13; exact quiet_leftP (HU.out _))
            | (go_at_call 14; exact quiet_leftP (HG.out _))
            | (go_at_call 15; exact quiet_leftP (HT.out _))
            | (go_at_call 16; exact quiet_leftP (HF.out _))
            | (go_at_call 17; exact quiet_leftP (HI.out _))))
          have HJ8 := Lib.hid (HJ.out.below (show Below wc.heap.size wc (wc.drewN nq) from ⟨rfl, rfl, rfl, Nat.le_refl _, fun _ _ => rfl⟩))
          have HB8 := Lib.hid (show Below w.heap.size w (wc.drewN nq) from ⟨HB2.out.os, HB2.out.tape, HB2.out.output, HB2.out.size, HB2.out.block⟩)
          clear HU HG HT HF HI c0 c1 c2 c3 HJ HB2
          go_wp2
          go_roundw
          case rel => exact ⟨k + 1, by omega, by go_num, HJ8, HB8⟩
          case measure => simp [intOf]; omega
        | true =>
          have hP1 : y.s.kc.length + y.s.kf.length ≤ m := by
            obtain ⟨E, hp, _⟩ := hRS.lk.to
            obtain ⟨_, _, _, _, h9, _⟩ := hp
            exact h9
          have hP2 : y.t.kc.length + y.t.kf.length ≤ m := by
            obtain ⟨E, hp, _⟩ := hRS.lk.from_
            obtain ⟨_, _, _, _, h9, _⟩ := hp
            exact h9
          have hm2 : m ≤ 2048 := Hm.out.2.1
          have f1 := hRS.g1.fly
          have f2 := hRS.g2.fly
          have l1 := hRS.g1.cameLen
          have l2 := hRS.g2.cameLen
          have s1 := hRS.l1
          have s2 := hRS.l2
          obtain ⟨r1, hr1⟩ : ∃ r1, r1 = m - y.s.kc.length - y.s.kf.length := ⟨_, rfl⟩
          obtain ⟨r2, hr2⟩ : ∃ r2, r2 = m - y.t.kc.length - y.t.kf.length := ⟨_, rfl⟩
          have HR1 := Lib.hid (fun d => rproom_any p1 base y.q1 _ m y.S1 y.a1 y.K1 r1 (wc.drewN d) hm2 (by have := Hk100.out; omega) hRS.g1.le (by omega) hRS.r1)
          have HR2 := Lib.hid (fun d => rproom_any p2 base y.q2 _ m y.S2 y.a2 y.K2 r2 (wc.drewN d) hm2 (by have := Hk100.out; omega) hRS.g2.le (by omega) hRS.r2)
          have HI := Lib.hid (fun d => lkidle_up b gg m y.s y.t (wc.drewN d) (hRS.lk.keep rfl))
          have d0 := hRS.r1.cells.1
          have d1 := hRS.r2.cells.1
          have hid : (((r1 + r2 : Nat) : Int) == ((m + m : Nat) : Int)) = (y.s.idle && y.t.idle) := by
            unfold PSt.idle
            rw [Bool.eq_iff_iff]
            simp only [beq_iff_eq, Bool.and_eq_true]
            omega
          have hs1 : (r1 : Int) + (r2 : Int) = ((r1 + r2 : Nat) : Int) := by omega
          have hs2 : (m : Int) + (m : Int) = ((m + m : Nat) : Int) := by omega
          have hb1 : r1 + r2 ≤ 4096 := by omega
          have hb2 : m + m ≤ 4096 := by omega
          have hb3 : r1 ≤ 2048 := by omega
          have hb4 : r2 ≤ 2048 := by omega
          unfold pipeV at HT HF
          rw [if_pos rfl] at HT HF
          clear hRS hRI hP1 hP2 f1 f2 l1 l2 s1 s2 hr1 hr2
          generalize (y.s.idle && y.t.idle) = idl at *
          generalize r1 + r2 = rr at *
          generalize m + m = mm at *
          go_wp2_with fail
          go_quiet ((first
            | (go_at_call 13; exact quiet_leftP (HU.out _))
            | (go_at_call 14; exact quiet_leftP (HG.out _))
            | (go_at_call 15; exact quiet_leftP (HT.out _))
            | (go_at_call 16; exact quiet_leftP (HF.out _))
            | (go_at_call 17; exact quiet_leftP (HI.out _))
            | (go_at_call 18; first | with_reducible exact quiet_drew (HR1.out _) | with_reducible exact quiet_drew (HR2.out _))))
          have HJ8 := Lib.hid (HJ.out.below (show Below wc.heap.size wc (wc.drewN nq) from ⟨rfl, rfl, rfl, Nat.le_refl _, fun _ _ => rfl⟩))
          have HB8 := Lib.hid (show Below w.heap.size w (wc.drewN nq) from ⟨HB2.out.os, HB2.out.tape, HB2.out.output, HB2.out.size, HB2.out.block⟩)
          clear HU HG HT HF HI HR1 HR2 c0 c1 c2 c3 d0 d1 HJ HB2
          go_wp2
          go_roundw
          case rel => exact ⟨k + 1, by omega, by go_num, HJ8, HB8⟩
          case measure => simp [intOf]; omega
    · obtain rfl : k = xs.length := by omega
      go_wp2
      go_ret
      exact ⟨rfl, hbel.out⟩
end Go.Proofs.Ytecelklpeealaaa
