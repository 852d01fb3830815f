/-
  LinkForgets (layer 23): the law's function by its walk: true for any texts and any number. Conditions: as each theorem's premises say.
-/
import Derived.Test.YtecelklpeealaaaWs
import Derived.Test.YtecelklpeealaaaWe
import Derived.Deep.DeepCutAuto
namespace Go.Proofs.Ytecelklpeealaaa
open Go.RowKit

/-- Send, Deliver, Inject, of a Pipe in a Link: whatever it answers. -/
theorem LK.sendTo {w : World} {b : Nat} {up : Bool} {g m : Nat} {s t : PSt} (l : List Nat) (hl : ∀ x ∈ l, x < 256) (k : LK w b up g m s t) :
    Calls Try.prog 19 #[.pointer (some ⟨b, 0, none⟩), .string (strOf l)] w fun e w' => (∃ r, e = .returned (.bool r)) ∧ (∃ s', LK w' b up g m s' t) ∧ w.grownBy w' (some b) := by
  obtain ⟨E, hp, hof⟩ := k.to
  exact (ppsend_r (m := m) w l _ rfl hl hp).mono fun e w' ⟨h1, h2, h3⟩ => ⟨⟨_, h1⟩, ⟨_, hof w' ⟨s.kc, if decide (l.length ≤ m - s.kc.length - s.kf.length) = true then s.kf ++ Bm.itms true l else s.kf, s.h, s.n⟩ h2⟩, h3⟩
theorem LK.sendFrom {w : World} {b : Nat} {up : Bool} {g m : Nat} {s t : PSt} (l : List Nat) (hl : ∀ x ∈ l, x < 256) (k : LK w b up g m s t) :
    Calls Try.prog 19 #[.pointer (some ⟨b, 4102, none⟩), .string (strOf l)] w fun e w' => (∃ r, e = .returned (.bool r)) ∧ (∃ t', LK w' b up g m s t') ∧ w.grownBy w' (some b) := by
  obtain ⟨E, hp, hof⟩ := k.from_
  exact (ppsend_r (m := m) w l _ rfl hl hp).mono fun e w' ⟨h1, h2, h3⟩ => ⟨⟨_, h1⟩, ⟨_, hof w' ⟨t.kc, if decide (l.length ≤ m - t.kc.length - t.kf.length) = true then t.kf ++ Bm.itms true l else t.kf, t.h, t.n⟩ h2⟩, h3⟩
theorem LK.delTo {w : World} {b : Nat} {up : Bool} {g m : Nat} {s t : PSt} (n : Int) (k : LK w b up g m s t) :
    Calls Try.prog 20 #[.pointer (some ⟨b, 0, none⟩), .int .i64 n] w fun e w' => (∃ r : Nat, e = .returned (.int .i64 (r : Int))) ∧ (∃ s', LK w' b up g m s' t) ∧ w.grownBy w' (some b) := by
  obtain ⟨E, hp, hof⟩ := k.to
  exact (ppdel_any b 0 E _ _ m _ _ n _ w rfl hp).mono fun e w' ⟨h1, h2, h3⟩ => ⟨⟨_, h1⟩, ⟨_, hof w' ⟨_, _, _, _⟩ h2⟩, h3⟩
theorem LK.injTo {w : World} {b : Nat} {up : Bool} {g m : Nat} {s t : PSt} (l : List Nat) (hl : ∀ x ∈ l, x < 256) (k : LK w b up g m s t) :
    Calls Try.prog 21 #[.pointer (some ⟨b, 0, none⟩), .string (strOf l)] w fun e w' => (∃ r, e = .returned (.bool r)) ∧ (∃ s', LK w' b up g m s' t) ∧ w.grownBy w' (some b) := by
  obtain ⟨E, hp, hof⟩ := k.to
  exact (ppinj_r (m := m) w l _ rfl hl hp).mono fun e w' ⟨h1, h2, h3⟩ => ⟨⟨_, h1⟩, ⟨_, hof w' ⟨_, _, _, _⟩ h2⟩, h3⟩
theorem LK.counts {w : World} {b : Nat} {up : Bool} {g m : Nat} {s t : PSt} (k : LK w b up g m s t) : w.cell? ⟨b, 0 + 4097, none⟩ = some (.int .i64 (s.kc.length : Int)) ∧ w.cell? ⟨b, 0 + 4098, none⟩ = some (.int .i64 (s.kf.length : Int)) := by
  obtain ⟨E, hp, _⟩ := k.to
  obtain ⟨f, G, hpw, _⟩ := hp
  exact ⟨hpw.cells.2.1, hpw.cells.2.2.1⟩
/-- The loop's state: a Link of the second generation, and the reference's Pipe. -/
def FJ (w : World) (b p : Nat) : Prop := ∃ s S a K t, LK w b true 2 300 s PSt.new ∧ RPi w p (p + 1) none 0 300 S a K ∧ Bm.Agr S a K t s.kc s.kf s.h s.n ∧ S.length ≤ 100
set_option maxHeartbeats 400000 in
set_option maxRecDepth 100000 in
theorem lkforget_out (s0 s1 : ByteArray) (n : Int) (w : World) (hl : 100 < s0.size ∨ 100 < s1.size) :
    Calls Try.prog 4 #[.string s0, .string s1, .int .u8 n] w fun e w' => e = .returned (.bool true) ∧ Below w.heap.size w w' := by
  have Haw := Lib.hid (lkawake_any w)
  by_cases h1 : 100 < s0.size
  · have hd : decide (100 < (s0.size : Int)) = true := decide_eq_true (by omega)
    go_enter Try.func4, Try.ntmps4
    go_wp2_with fail
    refine Haw.out.mono ?_
    rintro e w1 ⟨rfl, hb1⟩
    have HB1 := Lib.hid hb1
    clear hb1
    go_wp2
    go_ret
    exact ⟨rfl, HB1.out⟩
  · have hd : decide (100 < (s0.size : Int)) = false := decide_eq_false (by omega)
    have hd2 : decide (100 < (s1.size : Int)) = true := decide_eq_true (by omega)
    go_enter Try.func4, Try.ntmps4
    go_wp2_with fail
    refine Haw.out.mono ?_
    rintro e w1 ⟨rfl, hb1⟩
    have HB1 := Lib.hid hb1
    clear hb1
    go_wp2
    go_ret
    exact ⟨rfl, HB1.out⟩
set_option maxHeartbeats 2000000 in
set_option maxRecDepth 100000 in
theorem lkforget_in (la lb : List Nat) (n : Int) (w : World) (hla : la.length ≤ 100) (hlb : lb.length ≤ 100) (hla2 : ∀ x ∈ la, x < 256) (hlb2 : ∀ x ∈ lb, x < 256) (hn : 0 ≤ n ∧ n < 256) :
    Calls Try.prog 4 #[.string (strOf la), .string (strOf lb), .int .u8 n] w fun e w' => e = .returned (.bool true) ∧ Below w.heap.size w w' := by
  have Haw := Lib.hid (lkawake_any w)
  have hsa := strOf_size la
  have hsb := strOf_size lb
  have hda : decide (100 < (la.length : Int)) = false := decide_eq_false (by omega)
  have hdb : decide (100 < (lb.length : Int)) = false := decide_eq_false (by omega)
  have Hnew := Lib.hid (fun W => lknew_any 300 W)
  rw [show Bm.mostN 300 = 300 by decide] at Hnew
  have Hla := Lib.hid hla2
  have Hlb := Lib.hid hlb2
  have Hn := Lib.hid hn
  clear hla2 hlb2
  go_enter Try.func4, Try.ntmps4
  go_wp2_with fail
  refine Haw.out.mono ?_
  rintro e w1 ⟨rfl, hb1⟩
  have HB1 := Lib.hid hb1
  clear hb1 Haw
  go_wp2_with fail
  refine (Hnew.out w1).mono ?_
  rintro e w2 ⟨b, rfl, hk2, hb, hb2⟩
  have HB2 := Lib.hid (HB1.out.trans (hb2.mono HB1.out.size))
  have Hb := Lib.hid (Nat.le_trans HB1.out.size hb)
  have H3 := Lib.hid (lkjoin_yes b 0 300 _ _ w2 (by decide) hk2)
  clear hk2 hb2 hb Hnew HB1 hda hdb
  go_wp2_with fail
  refine H3.out.mono ?_
  rintro e w3 ⟨rfl, hk3, hg3⟩
  have HB3 := Lib.hid (HB2.out.trans (below_grown hg3 Hb.out HB2.out.size))
  have H4 := Lib.hid (lkto_at b true w3 hk3.cells.1)
  have H5 := Lib.hid (LK.sendTo la Hla.out hk3)
  unfold pipeV at H4
  rw [if_pos rfl] at H4
  clear hk3 hg3 HB2 H3
  go_wp2_with fail
  refine H4.out.mono ?_
  rintro e w' ⟨rfl, rfl⟩
  go_wp2_with fail
  refine H5.out.mono ?_
  rintro e w4 ⟨⟨r4, rfl⟩, ⟨s4, hk4⟩, hg4⟩
  have HB4 := Lib.hid (HB3.out.trans (below_grown hg4 Hb.out HB3.out.size))
  have H6 := Lib.hid (lkfrom_at b true w4 hk4.cells.1)
  have H7 := Lib.hid (LK.sendFrom lb Hlb.out hk4)
  unfold pipeV at H6
  rw [if_pos rfl] at H6
  clear hk4 hg4 HB3 H4 H5
  go_wp2_with fail
  refine H6.out.mono ?_
  rintro e w' ⟨rfl, rfl⟩
  go_wp2_with fail
  refine H7.out.mono ?_
  rintro e w5 ⟨⟨r5, rfl⟩, ⟨s5, hk5⟩, hg5⟩
  have HB5 := Lib.hid (HB4.out.trans (below_grown hg5 Hb.out HB4.out.size))
  have H8 := Lib.hid (lkto_at b true w5 hk5.cells.1)
  have H9 := Lib.hid (LK.delTo n hk5)
  unfold pipeV at H8
  rw [if_pos rfl] at H8
  clear hk5 hg5 HB4 H6 H7
  go_wp2_with fail
  refine H8.out.mono ?_
  rintro e w' ⟨rfl, rfl⟩
  go_wp2_with fail
  refine H9.out.mono ?_
  rintro e w6 ⟨⟨r6, rfl⟩, ⟨s6, hk6⟩, hg6⟩
  have HB6 := Lib.hid (HB5.out.trans (below_grown hg6 Hb.out HB5.out.size))
  have H10 := Lib.hid (lkto_at b true w6 hk6.cells.1)
  have H11 := Lib.hid (LK.injTo [120] (by decide) hk6)
  rw [show strOf [120] = ⟨#[120]⟩ from rfl] at H11
  unfold pipeV at H10
  rw [if_pos rfl] at H10
  clear hk6 hg6 HB5 H8 H9
  go_wp2_with fail
  refine H10.out.mono ?_
  rintro e w' ⟨rfl, rfl⟩
  go_wp2_with fail
  refine H11.out.mono ?_
  rintro e w7 ⟨⟨r7, rfl⟩, ⟨s7, hk7⟩, hg7⟩
  have HB7 := Lib.hid (HB6.out.trans (below_grown hg7 Hb.out HB6.out.size))
  have H12 := Lib.hid (lkto_at b true w7 hk7.cells.1)
  have H13 := Lib.hid (lkcut_yes b 1 300 _ _ w7 hk7)
  unfold pipeV at H12
  rw [if_pos rfl] at H12
  clear hk7 hg7 HB6 H10 H11
  go_wp2_with fail
  refine H12.out.mono ?_
  rintro e w' ⟨rfl, rfl⟩
  go_wp2_with fail
  refine H13.out.mono ?_
  rintro e w8 ⟨rfl, hk8, hg8⟩
  have HB8 := Lib.hid (HB7.out.trans (below_grown hg8 Hb.out HB7.out.size))
  have H14 := Lib.hid (ppflies_at b 0 0 w8 hk8.counts.2)
  have H15 := Lib.hid (ppcame_at b 0 0 w8 hk8.counts.1)
  have H16 := Lib.hid (lkidle_down b w8 hk8.cells.1)
  have H17 := Lib.hid (lkjoin_yes b 1 300 _ _ w8 (by decide) hk8)
  clear hk8 hg8 HB7 H12 H13
  go_wp2_with fail
  refine H14.out.mono ?_
  rintro e w' ⟨rfl, rfl⟩
  go_wp2_with fail
  refine H15.out.mono ?_
  rintro e w' ⟨rfl, rfl⟩
  go_wp2_with fail
  refine H16.out.mono ?_
  rintro e w' ⟨rfl, rfl⟩
  go_wp2_with fail
  refine H17.out.mono ?_
  rintro e w9 ⟨rfl, hk9, hg9⟩
  have HB9 := Lib.hid (HB8.out.trans (below_grown hg9 Hb.out HB8.out.size))
  have H18 := Lib.hid (lkidle_up b 2 300 _ _ w9 hk9)
  rw [show (PSt.idle PSt.new && PSt.idle PSt.new) = true from rfl] at H18
  have H19 := Lib.hid (lkgen_at b 2 w9 hk9.cells.2.1)
  have H20 := Lib.hid (lkto_at b true w9 hk9.cells.1)
  unfold pipeV at H20
  rw [if_pos rfl] at H20
  obtain ⟨E, hp9, hof9⟩ := hk9.to
  have H21 := Lib.hid (ppsend_yes b 0 E [] [] 300 Bm.H0 0 lb w9 (by show lb.length ≤ 300; omega) Hlb.out hp9)
  have Hof := Lib.hid hof9
  clear hk9 hg9 HB8 H14 H15 H16 H17 hp9 hof9
  go_wp2_with fail
  refine H18.out.mono ?_
  rintro e w' ⟨rfl, rfl⟩
  go_wp2_with fail
  refine H19.out.mono ?_
  rintro e w' ⟨rfl, rfl⟩
  go_wp2_with fail
  refine H20.out.mono ?_
  rintro e w' ⟨rfl, rfl⟩
  go_wp2_with fail
  refine H21.out.mono ?_
  rintro e w10 ⟨rfl, hp10, hg10⟩
  have HB10 := Lib.hid (HB9.out.trans (below_grown hg10 Hb.out HB9.out.size))
  have hk10 := Hof.out w10 ⟨_, _, _, _⟩ hp10
  have H22 := Lib.hid (lkto_at b true w10 hk10.cells.1)
  unfold pipeV at H22
  rw [if_pos rfl] at H22
  have hcm : Bm.comeN 300 ([] ++ Bm.itms true lb).length = lb.length := by rw [List.nil_append, Bm.itms_length]; unfold Bm.comeN; omega
  have H23 := Lib.hid (ppdel_any b 0 E [] ([] ++ Bm.itms true lb) 300 Bm.H0 0 300 lb.length w10 hcm hp10)
  clear hg10 HB9 H18 H19 H20 H21 hp10 hk10 hcm
  go_wp2_with fail
  refine H22.out.mono ?_
  rintro e w' ⟨rfl, rfl⟩
  go_wp2_with fail
  refine H23.out.mono ?_
  rintro e w11 ⟨rfl, hp11, hg11⟩
  have HB11 := Lib.hid (HB10.out.trans (below_grown hg11 Hb.out HB10.out.size))
  have HK11 := Lib.hid (Hof.out w11 ⟨_, _, _, _⟩ hp11)
  have H24 := Lib.hid (rpnew_any 300 w11)
  rw [show Bm.mostN 300 = 300 by decide] at H24
  clear hg11 HB10 H22 H23 hp11 Hof
  go_wp2_with fail
  refine H24.out.mono ?_
  rintro e w12 ⟨rfl, hr12, hb12⟩
  have Hbp := Lib.hid HK11.out.lt
  have HB12 := Lib.hid (HB11.out.trans (hb12.mono HB11.out.size))
  have HK12 := Lib.hid (HK11.out.below hb12)
  have Hwp := Lib.hid (show w.heap.size ≤ w11.heap.size from HB11.out.size)
  have hR12 : RPi w12 w11.heap.size (w11.heap.size + 1) none 0 300 [] 0 [] := RPi.ofNew hr12 (Nat.lt_succ_self _) hr12.lt (Nat.zero_le _)
  have H25 := Lib.hid (rpsend_yes w11.heap.size _ none 0 300 [] 0 [] 300 lb w12 (by decide) (by decide) (Nat.le_refl _) rfl (by omega) hR12)
  clear hr12 hb12 HB11 HK11 H24 hR12
  generalize w11.heap.size = p at *
  go_wp2_with fail
  refine H25.out.mono ?_
  rintro e w13 ⟨rfl, hr13, hg13⟩
  have HB13 := Lib.hid (HB12.out.trans (below_grown hg13 Hwp.out HB12.out.size))
  have HK13 := Lib.hid (HK12.out.keep (hg13.block b HK12.out.lt (fun e => by injection e with e; have := Hbp.out; omega)))
  obtain ⟨q, hR13, hq13⟩ := hr13.now
  have hcm : Bm.comeN 300 ([] ++ lb : List Nat).length = lb.length := by rw [List.nil_append]; unfold Bm.comeN; omega
  have H26 := Lib.hid (rpdel_any p (p + 1) q w13.heap.size 300 ([] ++ lb) 0 [] 300 lb.length w13 hcm (Nat.zero_le _) (by rw [List.nil_append]; omega) (by decide) hR13)
  have Hqb : Hid (∀ k, q = some k → p < k) := Lib.hid fun k hk => (hq13 k hk).1
  clear hr13 hg13 HB12 HK12 H25 hR13 hq13 hcm
  go_wp2_with fail
  refine H26.out.mono ?_
  rintro e w14 ⟨rfl, hr14, hk14⟩
  have HB14 := Lib.hid (HB13.out.trans (hk14.below (B := w.heap.size) HB13.out.size Hwp.out (fun k hk => by have := Hqb.out k hk; have := Hwp.out; omega)))
  have HK14 := Lib.hid (HK13.out.keep (hk14.block b HK13.out.lt (by have := Hbp.out; omega) (fun e => by have := Hqb.out b e; have := Hbp.out; omega)))
  have HJ14 : Hid (FJ w14 b p) := Lib.hid ⟨_, _, _, _, 0, HK14.out, hr14.weak (fun k _ => Or.inr (Nat.zero_le _)) (Nat.zero_le _), (Bm.Agr.new.send lb Hlb.out).deliver lb.length (by rw [List.nil_append, Bm.itms_length]; exact Nat.le_refl _), by rw [List.nil_append]; exact hlb⟩
  clear HK13 HK14 hr14 hk14 HB13 H26
  have hbl : (lb.length : Int) + 1 = ((lb.length + 1 : Nat) : Int) := by omega
  have hbl2 : lb.length + 1 ≤ 101 := by omega
  generalize lb.length + 1 = bl at *
  generalize strOf lb = sb at *
  generalize strOf la = sa at *
  generalize lb.length = lbl at *
  have hst := ppb_stood
  have hgu := ppb_guard
  go_wp2
  go_loopw [10, 11, 12, 13, 14, 15, 91] (fun _ _ _ _ _ _ i wr => ∃ k : Nat, k ≤ bl ∧ i = .int .i64 (k : Int) ∧ Hid (FJ wr b p) ∧ Hid (Below w.heap.size w wr)) (fun _ _ _ _ _ _ i _ => bl - (intOf i).toNat)
  case atStart => exact ⟨0, Nat.zero_le _, rfl, HJ14, HB14⟩
  case round =>
    obtain ⟨k, hk, rfl, hE, hbel⟩ := hrel
    obtain ⟨s, S, a, K, t, hk1, hR, hA, hS⟩ := hE.out
    have HE := Lib.hid hE.out
    have HB := Lib.hid hbel.out
    clear HJ14 HB14 hE hbel
    have H1 := Lib.hid (lkto_at b true wr hk1.cells.1)
    unfold pipeV at H1
    rw [if_pos rfl] at H1
    by_cases hkl : k < bl
    · have hkI : decide ((k : Int) < (bl : Int)) = true := decide_eq_true (by omega)
      obtain ⟨E, hp, hof⟩ := hk1.to
      have hle : s.kc.length + s.kf.length ≤ 300 := by obtain ⟨_, _, _, _, h9, _⟩ := hp; exact h9
      have hcl := hA.cameLen
      obtain ⟨x1, v1, sd, has, K', t', kc', h', n', hX, hY, hA'⟩ := take_both (p := p) (base := p + 1) (m := 300) (S := S) (a := a) (K := K) (t := t) wr (by omega) (by omega) hp hA
      have HX := Lib.hid hX
      have HY := Lib.hid hY
      have HA' := Lib.hid hA'
      have Hof := Lib.hid hof
      have HR := Lib.hid hR
      have HS := Lib.hid hS
      clear hX hY hA' hof hp hk1 hR hA hS HE hle hcl
      go_wp2_with fail
      refine H1.out.mono ?_
      rintro e w' ⟨rfl, rfl⟩
      go_wp2_with fail
      refine HX.out.mono ?_
      rintro e wX ⟨rfl, hpX, hgX⟩
      unfold ppB
      have HKX := Lib.hid (Hof.out wX ⟨kc', s.kf, h', n'⟩ hpX)
      have HRX := Lib.hid (HR.out.grown hgX Hbp.out)
      have HBX := Lib.hid (HB.out.trans (below_grown hgX Hb.out HB.out.size))
      clear hpX hgX HX H1 Hof HR HB
      go_upto_region 23 with fail
      have hda : Below wX.heap.size wX (wX.alloc (.cells #[.int .u8 (x1 : Int), .int .u64 (v1 : Int), .bool sd] 47)) := (Below.refl _ _).alloc (Nat.le_refl _) _
      have HKY := Lib.hid (HKX.out.below hda)
      have hRY := HRX.out.below hda
      have HIY := Lib.hid (Row.new wX 47 [.int .u8 (x1 : Int), .int .u64 (v1 : Int), .bool sd])
      have HBY := Lib.hid (HBX.out.trans (hda.mono HBX.out.size))
      obtain ⟨q2, hR2, hq2⟩ := hRY.now
      have HR2 := Lib.hid hR2
      have Hib := Lib.hid (show wX.heap.size ≠ p ∧ wX.heap.size < (wX.alloc (.cells #[.int .u8 (x1 : Int), .int .u64 (v1 : Int), .bool sd] 47)).heap.size ∧ b < (wX.alloc (.cells #[.int .u8 (x1 : Int), .int .u64 (v1 : Int), .bool sd] 47)).heap.size from
        ⟨by have := HRX.out.lt.1; omega, HIY.out.lt, HKY.out.lt⟩)
      have Hq2i : Hid (q2 ≠ some wX.heap.size) := Lib.hid fun e => by have := (hq2 _ e).2.2.2 _ _ HIY.out; revert this; decide
      have Hq2b : Hid (∀ k, q2 = some k → p < k) := Lib.hid fun k hk => (hq2 k hk).1
      clear hda hR2 hq2 hRY HKX HRX HBX
      generalize wX.alloc (.cells #[.int .u8 (x1 : Int), .int .u64 (v1 : Int), .bool sd] 47) = wY at *
      generalize wX.heap.size = ib at *
      have HYY := Lib.hid (HY.out wY q2 wY.heap.size HR2.out)
      clear HY
      go_wp2_with fail
      refine HYY.out.mono ?_
      rintro e wZ ⟨rfl, hrZ, hkZ⟩
      have HIZ := Lib.hid (hkZ.row HIY.out Hib.out.2.1 Hib.out.1 Hq2i.out)
      have j0 := HIZ.out.cell 0
      have j1 := HIZ.out.cell 1
      have j2 := HIZ.out.cell 2
      simp only [List.getElem?_cons_zero, List.getElem?_cons_succ] at j0 j1 j2
      have HJZ : Hid (FJ wZ b p) := Lib.hid ⟨⟨kc', s.kf, h', n'⟩, S, a, K', t', HKY.out.keep (hkZ.block b Hib.out.2.2 (Nat.ne_of_lt Hbp.out) (fun e => by have := Hq2b.out b e; have := Hbp.out; omega)), hrZ.weak (fun k _ => Or.inr (Nat.zero_le _)) (Nat.zero_le _), HA'.out, HS.out⟩
      have HBZ := Lib.hid (HBY.out.trans (hkZ.below (B := w.heap.size) HBY.out.size Hwp.out (fun k hk => by have := Hq2b.out k hk; have := Hwp.out; omega)))
      clear hrZ hkZ HYY HKY HBY HIY HIZ HR2
      go_wp2
      go_roundw
      case rel => exact ⟨k + 1, by omega, by go_num, HJZ, HBZ⟩
      case measure => simp [intOf]; omega
    · have hkI : decide ((k : Int) < (bl : Int)) = false := decide_eq_false (by omega)
      have H2 := Lib.hid (lkfrom_at b true wr hk1.cells.1)
      unfold pipeV at H2
      rw [if_pos rfl] at H2
      obtain ⟨E, hp, hof⟩ := hk1.from_
      have H3 := Lib.hid (ppdel_any b 4102 E [] [] 300 Bm.H0 0 9 0 wr (by decide) hp)
      clear hk1 hR hA hS hof hp HE H1
      go_wp2_with fail
      refine H2.out.mono ?_
      rintro e w' ⟨rfl, rfl⟩
      go_wp2_with fail
      refine H3.out.mono ?_
      rintro e wZ ⟨rfl, _, hgZ⟩
      have HBZ := Lib.hid (HB.out.trans (below_grown hgZ Hb.out HB.out.size))
      clear hgZ
      go_wp2
      go_ret
      exact ⟨rfl, HBZ.out⟩
end Go.Proofs.Ytecelklpeealaaa
