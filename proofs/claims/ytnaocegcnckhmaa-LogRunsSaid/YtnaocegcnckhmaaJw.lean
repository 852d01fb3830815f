/-
  LogRuns (layer 26): the law's function by its walk: true for any slice of deeds. No condition beyond each theorem's premises.
-/
import Derived.Test.YtnaocegcnckhmaaJq
import Derived.Test.YtnaocegcnckhmaaJp
import Derived.Test.YtnaocegcnckhmaaJv
import Derived.Test.YtnaocegcnckhmaaQf
import Derived.Test.YtnaocegcnckhmaaQl
import Derived.Deep.DeepCutAuto
namespace Go.Proofs.Ytnaocegcnckhmaa
open Go.RowKit

/-- A contract that only draws, as one of Below. -/
theorem drew_belowR {P : Program} {f : FuncId} {args : Array Value} {w : World} {v : Value} (h : Calls P f args w fun e w' => e = .returned v ∧ ∃ q, w' = w.drewN q) : Calls P f args w fun e w' => e = .returned v ∧ Below w.heap.size w w' :=
  h.mono fun e w' ⟨he, q, hq⟩ => ⟨he, by rw [hq]; exact ⟨rfl, rfl, rfl, Nat.le_refl _, fun _ _ => rfl⟩⟩
theorem lgall_rdR (p : Option Addr) (l : List ByteArray) (k : Nat) (w : World) (h : LP w p l k) :
    Calls Try.prog 19 #[.pointer p] w fun e w' => ∃ A c, e = .returned (.slice A l.length c) ∧ Reads w' A (strC l) ∧ Below w.heap.size w w' :=
  (lgall_any p l k w h).mono fun e w' ⟨u, he, ho, hb⟩ => by
    obtain ⟨A, c, rfl, _, _, hr⟩ := ho.reads
    exact ⟨A, c, he, hr, hb⟩
theorem lgold_rdR (p : Option Addr) (l : List ByteArray) (k : Nat) (w : World) (h : LP w p l k) :
    Calls Try.prog 20 #[.pointer p] w fun e w' => ∃ A c, e = .returned (.slice A k c) ∧ Reads w' A (strC (l.take k)) ∧ Below w.heap.size w w' :=
  (lgold_any p l k w h).mono fun e w' ⟨u, he, ho, hb⟩ => by
    obtain ⟨A, c, rfl, _, _, hr⟩ := ho.reads
    have hk := h.small.2.1
    rw [List.length_take, Nat.min_eq_left hk] at he
    exact ⟨A, c, he, hr, hb⟩
/-- The program's Log changes: the reference's stays. -/
theorem RL.prog {w w' : World} {p base b k m : Nat} {K L : List ByteArray} (h : RL w p base K k) (hg : w.grownBy w' (some b)) (hL : LG w b L m) (hb : b < p) : RL w' p base K k := by
  obtain ⟨C, hrow, _⟩ := hL
  exact h.grown hg hrow (by omega) (by decide)
/-- The reference's Log changes: the program's stays. -/
theorem LG.ref {w w' : World} {p base b k : Nat} {K : List ByteArray} (h : LG w b K k) (hk : KeptL base p w w') (hb : b < p) : LG w' b K k := by
  obtain ⟨C, hrow, h2⟩ := h
  exact ⟨C, hk.row hrow (by omega) (by decide), h2⟩
/-- What is held between two deeds: both Logs have these records. -/
structure LJ (w : World) (b p base : Nat) (K : List ByteArray) (k : Nat) : Prop where
  lg : LG w b K k
  rl : RL w p base K k
theorem LJ.below {w w' : World} {b p base k : Nat} {K : List ByteArray} (h : LJ w b p base K k) (hb : Below w.heap.size w w') : LJ w' b p base K k := ⟨h.lg.below hb, h.rl.below hb⟩
theorem LJ.drewN {w : World} {b p base k : Nat} {K : List ByteArray} (h : LJ w b p base K k) (q : Nat) : LJ (w.drewN q) b p base K k := ⟨h.lg.keep rfl, h.rl.drewN q⟩
set_option maxHeartbeats 400000 in
set_option maxRecDepth 100000 in
theorem lgruns_out (A : Option Addr) (L c : Nat) (w : World) (hl : 100 < L) (hL : L ≤ 9223372036854775807) :
    Calls Try.prog 3 #[.slice A L c] w fun e w' => e = .returned (.bool true) ∧ Below w.heap.size w w' := by
  have Haw := Lib.hid (lgawake_any w)
  have hd : decide (100 < (L : Int)) = true := decide_eq_true (by omega)
  go_enter Try.func3, Try.ntmps3
  go_wp2_with fail
  refine Haw.out.mono ?_
  rintro e w1 ⟨rfl, hb1⟩
  have HB1 := Lib.hid hb1
  clear hb1
  go_wp2
  go_ret
  exact ⟨rfl, HB1.out⟩
set_option maxHeartbeats 2000000 in
set_option maxRecDepth 100000 in
theorem lgruns_in (A : Option Addr) (c : Nat) (xs : List LgD) (w : World) (hl : xs.length ≤ 100) (hx : ArgLg w A xs.length c xs) :
    Calls Try.prog 3 #[.slice A xs.length c] w fun e w' => e = .returned (.bool true) ∧ Below w.heap.size w w' := by
  have Haw := Lib.hid (lgawake_any w)
  have hd : decide (100 < (xs.length : Int)) = false := decide_eq_false (by omega)
  have Hok := Lib.hid hx.2.1
  have Hcell := Lib.hid hx.2.2.1
  clear hx
  go_enter Try.func3, Try.ntmps3
  go_wp2_with fail
  refine Haw.out.mono ?_
  rintro e w1 ⟨rfl, hb1⟩
  have HB1 := Lib.hid hb1
  have Hnew := Lib.hid (lgnew_any w1)
  clear hb1 Haw
  go_wp2_with fail
  refine Hnew.out.mono ?_
  rintro e w2 ⟨b, rfl, hS2, hb, hb2⟩
  have HB2 := Lib.hid (HB1.out.trans (hb2.mono HB1.out.size))
  have Hb := Lib.hid (Nat.le_trans HB1.out.size hb)
  have HS2 := Lib.hid hS2
  clear hS2 hb2 hb Hnew HB1
  go_upto_region 6 with fail
  have HE3 : Hid (LJ (w2.alloc (.cells #[.slice none 0 0, .int .i64 0] 29)) b w2.heap.size (w2.heap.size + 1) [] 0) := Lib.hid ⟨HS2.out.below ((Below.refl _ _).alloc (Nat.le_refl _) _), RL.new w2⟩
  have HB3 : Hid (Below w.heap.size w (w2.alloc (.cells #[.slice none 0 0, .int .i64 0] 29))) := Lib.hid (HB2.out.alloc HB2.out.size _)
  have Hp : Hid (w.heap.size ≤ w2.heap.size) := Lib.hid HB2.out.size
  have Hbp := Lib.hid HS2.out.lt
  clear HS2 HB2
  generalize w2.alloc (.cells #[.slice none 0 0, .int .i64 0] 29) = w3 at *
  generalize hbs : w2.heap.size + 1 = base at *
  generalize w2.heap.size = p at *
  have Hbs := Lib.hid hbs
  clear hbs hd
  go_wp2
  go_loopw [6, 7, 8, 9, 10, 11, 12, 13, 14, 25] (fun _ _ _ _ _ _ _ _ _ i wr => ∃ k : Nat, k ≤ xs.length ∧ i = .int .i64 (k : Int) ∧ Hid (∃ K q, LJ wr b p base K q) ∧ Hid (Below w.heap.size w wr)) (fun _ _ _ _ _ _ _ _ _ i _ => xs.length - (intOf i).toNat)
  case atStart => exact ⟨0, Nat.zero_le _, rfl, Lib.hid ⟨[], 0, HE3.out⟩, HB3⟩
  case round =>
    obtain ⟨k, hk, rfl, hex, hbel⟩ := hrel
    obtain ⟨K, q, hE⟩ := hex.out
    have HE := Lib.hid hE
    clear HE3 HB3 hex hE
    by_cases hkl : k < xs.length
    · obtain ⟨g, off, rfl, hg, hc⟩ := Hcell.out (by omega)
      obtain ⟨q0, q1, q2⟩ := (hc k hkl).below hbel.out hg
      obtain ⟨o0, o1⟩ := Hok.out xs[k] (List.getElem_mem hkl)
      have hkI : (k : Int) < (xs.length : Int) := by omega
      clear hc
      generalize xs[k] = dd at *
      obtain ⟨kd, nn, tx⟩ := dd
      simp only at q0 q1 q2 o0 o1
      go_upto_region 9 with fail
      have hdr := Row.new wr 31 [.int .u8 (kd : Int), .int .i64 nn, .string tx]
      have hda : Below wr.heap.size wr (wr.alloc (.cells #[.int .u8 (kd : Int), .int .i64 nn, .string tx] 31)) := (Below.refl _ _).alloc (Nat.le_refl _) _
      have HEA := Lib.hid (HE.out.below hda)
      have HBA := Lib.hid (hbel.out.trans (hda.mono hbel.out.size))
      have HD := Lib.hid (show Row (wr.alloc (.cells #[.int .u8 (kd : Int), .int .i64 nn, .string tx] 31)) wr.heap.size 31 [.int .u8 (kd : Int), .int .i64 nn, .string tx] from hdr)
      have Hbd := Lib.hid (show b < wr.heap.size ∧ p < wr.heap.size from ⟨HE.out.lg.lt, HE.out.rl.lt_⟩)
      clear hdr hda HE hbel q0 q1 q2 hg Hcell Hok
      generalize wr.alloc (.cells #[.int .u8 (kd : Int), .int .i64 nn, .string tx] 31) = wA at *
      generalize wr.heap.size = dB at *
      have e0 := HD.out.cell 0
      have e1 := HD.out.cell 1
      have e2 := HD.out.cell 2
      simp only [List.getElem?_cons_zero, List.getElem?_cons_succ] at e0 e1 e2
      by_cases ht : 600 < tx.size
      · have hdt : decide (600 < (tx.size : Int)) = true := decide_eq_true (by omega)
        go_wp2
        go_ret
        exact ⟨rfl, HBA.out⟩
      have hdt : decide (600 < (tx.size : Int)) = false := decide_eq_false (by omega)
      clear ht
      go_upto_region 11 with fail
      clear hdt
      go_cut [35] from 33 to 35 (fun s35 wx => wx = wA ∧ (s35 = .int .u8 0 ∨ s35 = .int .u8 1 ∨ s35 = .int .u8 2))
      case first =>
        have hm : (kd : Int) % 3 = 0 ∨ (kd : Int) % 3 = 1 ∨ (kd : Int) % 3 = 2 := by omega
        go_wp2
        go_meet
        rcases hm with h | h | h
        · exact ⟨rfl, Or.inl (by rw [← h])⟩
        · exact ⟨rfl, Or.inr (Or.inl (by rw [← h]))⟩
        · exact ⟨rfl, Or.inr (Or.inr (by rw [← h]))⟩
      case rest =>
      obtain ⟨hwc, h35⟩ := hcut
      have hwc2 := hwc.symm
      subst hwc2
      apply_assumption
      go_cut [7, 8, 9, 10, 11, 12, 13, 14] (fun _ _ _ _ _ _ _ _ wx => Hid (∃ K2 q2, LJ wx b p base K2 q2) ∧ Hid (Below w.heap.size w wx))
      case first =>
        rcases h35 with rfl | rfl | rfl
        · have Happ := Lib.hid (lgappend_any b K q tx wA HEA.out.lg)
          have Href := Lib.hid (fun W h => rlgappend_any p base K q tx W h)
          generalize Bm.lgApp K tx = X at *
          obtain ⟨n, er, K3⟩ := X
          simp only at Happ Href
          go_wp2_with fail
          refine Happ.out.mono ?_
          rintro e w4 ⟨rfl, hL4, hg4⟩
          have HL4 := Lib.hid hL4
          have HR4 := Lib.hid (HEA.out.rl.prog hg4 HEA.out.lg Hbp.out)
          have HD4 := Lib.hid (HD.out.keep (hg4.block dB HD.out.lt (fun e => by injection e with e; have := Hbd.out.1; omega)))
          have HB4 := Lib.hid (HBA.out.trans (below_grown hg4 Hb.out HBA.out.size))
          have k2 := HD4.out.cell 2
          simp only [List.getElem?_cons_zero, List.getElem?_cons_succ] at k2
          clear hL4 hg4 Happ e0 e1 e2
          go_wp2_with fail
          refine (Href.out w4 HR4.out).mono ?_
          rintro e w5 ⟨rfl, hR5, hK5⟩
          have HE5 := Lib.hid (show LJ w5 b p base K3 q from ⟨HL4.out.ref hK5 Hbp.out, hR5⟩)
          have HB5 := Lib.hid (HB4.out.trans (hK5.below w.heap.size Hp.out (by have := Hbs.out; have := Hp.out; omega) HB4.out.size))
          have hn1 : ((n : Int) == (n : Int)) = true := beq_self_eq_true _
          have hn2 : ((er : Int) == (er : Int)) = true := beq_self_eq_true _
          clear hR5 hK5 Href k2 HL4 HR4 HD4 HB4
          go_wp2
          go_meet
          exact ⟨Lib.hid ⟨K3, q, HE5.out⟩, HB5⟩
        · have HX := Lib.hid (fun W h => lgtrunc_any b K q nn W h)
          have HY := Lib.hid (fun W h => rlgtrunc_any p base K q nn W h)
          generalize Bm.lgTr K q nn = X at *
          obtain ⟨r, q3⟩ := X
          simp only at HX HY
          have hbb : (r == r) = true := beq_self_eq_true _
          go_wp2_with fail
          have HLd := Lib.hid (show LG wA.drew b K q from HEA.out.lg.keep rfl)
          have HRd := Lib.hid (show RL wA.drew p base K q from HEA.out.rl.drewN 1)
          have HDd := Lib.hid (show Row wA.drew dB 31 [.int .u8 (kd : Int), .int .i64 nn, .string tx] from HD.out)
          have HBd := Lib.hid (show Below w.heap.size w wA.drew from ⟨HBA.out.os, HBA.out.tape, HBA.out.output, HBA.out.size, HBA.out.block⟩)
          have Hws := Lib.hid (show w.heap.size ≤ base by have := Hbs.out; have := Hp.out; omega)
          go_region_held3 (fun W : World => W.cell? ⟨dB, 1, none⟩ = some (.int .i64 nn)) (first | exact e1 | exact cX | exact cY | exact cZ) (first
            | (go_at_call 10; first | ((with_reducible refine (HX.out _ HLd.out).mono ?_); rintro e wX ⟨rfl, hpX, hgX⟩; have HLX := Lib.hid hpX; have HRX := Lib.hid (HRd.out.prog hgX HLd.out Hbp.out); have HDX := Lib.hid (HDd.out.keep (hgX.block dB HDd.out.lt (fun e => by injection e with e; have := Hbd.out.1; omega))); have HBX := Lib.hid (HBd.out.trans (below_grown hgX Hb.out HBd.out.size)); have cX := HDX.out.cell 1; simp only [List.getElem?_cons_zero, List.getElem?_cons_succ] at cX; clear hpX hgX) | ((with_reducible refine (HX.out _ HLY.out).mono ?_); rintro e wZ ⟨rfl, hpX, hgX⟩; have HLZ := Lib.hid hpX; have HRZ := Lib.hid (HRY.out.prog hgX HLY.out Hbp.out); have HDZ := Lib.hid (HDY.out.keep (hgX.block dB HDY.out.lt (fun e => by injection e with e; have := Hbd.out.1; omega))); have HBZ := Lib.hid (HBY.out.trans (below_grown hgX Hb.out HBY.out.size)); have cZ := HDZ.out.cell 1; simp only [List.getElem?_cons_zero, List.getElem?_cons_succ] at cZ; clear hpX hgX))
            | (go_at_call 11; first | ((with_reducible refine (HY.out _ HRd.out).mono ?_); rintro e wY ⟨rfl, hrY, hkY⟩; have HRY := Lib.hid hrY; have HLY := Lib.hid (HLd.out.ref hkY Hbp.out); have HDY := Lib.hid (hkY.row HDd.out (by have := Hbd.out.2; omega) (by decide)); have HBY := Lib.hid (HBd.out.trans (hkY.below w.heap.size Hp.out Hws.out HBd.out.size)); have cY := HDY.out.cell 1; simp only [List.getElem?_cons_zero, List.getElem?_cons_succ] at cY; clear hrY hkY) | ((with_reducible refine (HY.out _ HRX.out).mono ?_); rintro e wZ ⟨rfl, hrY, hkY⟩; have HRZ := Lib.hid hrY; have HLZ := Lib.hid (HLX.out.ref hkY Hbp.out); have HDZ := Lib.hid (hkY.row HDX.out (by have := Hbd.out.2; omega) (by decide)); have HBZ := Lib.hid (HBX.out.trans (hkY.below w.heap.size Hp.out Hws.out HBX.out.size)); have cZ := HDZ.out.cell 1; simp only [List.getElem?_cons_zero, List.getElem?_cons_succ] at cZ; clear hrY hkY)))
          all_goals
            have HJZ : Hid (∃ K2 q2, LJ wZ b p base K2 q2) := Lib.hid ⟨K, q3, HLZ.out, HRZ.out⟩
            clear HX HY HLd HRd HDd HBd HLZ HRZ HDZ
            go_wp2
            go_meet
            exact ⟨HJZ, HBZ⟩
        · have Hat := Lib.hid (lgat_any (some ⟨b, 0, none⟩) K q nn wA HEA.out.lg.some_)
          have Hrat := Lib.hid (fun W h => rlgat_any p base K q nn W h)
          generalize Bm.lgAt K q nn = X at *
          obtain ⟨s, er⟩ := X
          simp only at Hat Hrat
          go_wp2_with fail
          refine Hat.out.mono ?_
          rintro e w4 ⟨rfl, q4, rfl⟩
          have HE4 := Lib.hid (HEA.out.drewN q4)
          have HB4 := Lib.hid (show Below w.heap.size w (wA.drewN q4) from ⟨HBA.out.os, HBA.out.tape, HBA.out.output, HBA.out.size, HBA.out.block⟩)
          have HD4 := Lib.hid (show Row (wA.drewN q4) dB 31 [.int .u8 (kd : Int), .int .i64 nn, .string tx] from HD.out)
          have k1 := HD4.out.cell 1
          simp only [List.getElem?_cons_zero, List.getElem?_cons_succ] at k1
          clear Hat e0 e1 e2 HD HD4 HEA HBA
          generalize wA.drewN q4 = w4 at *
          go_wp2_with fail
          refine (Hrat.out w4 HE4.out.rl).mono ?_
          rintro e w5 ⟨rfl, rfl⟩
          have hn1 : (s.toList == s.toList) = true := beq_self_eq_true _
          have hn2 : ((er : Int) == (er : Int)) = true := beq_self_eq_true _
          clear Hrat k1
          go_wp2
          go_meet
          exact ⟨Lib.hid ⟨K, q, HE4.out⟩, HB4⟩
      case rest =>
        obtain ⟨hex, HB2⟩ := hcut
        obtain ⟨K2, q2, hJ⟩ := hex.out
        obtain ⟨AR, cR, c0, c1, hc1, hc2, hrd, h400, hq2⟩ := hJ.rl.reads
        have Hlen := Lib.hid (fun n => lglen_any (some ⟨b, 0, none⟩) K2 q2 (wc.drewN n) (hJ.lg.some_.keep rfl))
        have Hbase := Lib.hid (fun n => lgbase_any (some ⟨b, 0, none⟩) K2 q2 (wc.drewN n) (hJ.lg.some_.keep rfl))
        have Hby := Lib.hid (fun n => lgbytes_any (some ⟨b, 0, none⟩) K2 q2 (wc.drewN n) (hJ.lg.some_.keep rfl))
        have Hrb := Lib.hid (fun n => ringrbytes_any AR cR K2 (wc.drewN n) hrd (by omega) (fun s hs => Nat.le_trans (hJ.lg.small.2.2 s hs) (by decide)))
        have HJ2 := Lib.hid hJ
        clear hex hJ hrd hc1 hc2 HEA HBA HD e0 e1 e2 h35
        have g1 : ((K2.length : Int) == (K2.length : Int)) = true := beq_self_eq_true _
        have g2 : ((q2 : Int) == (q2 : Int)) = true := beq_self_eq_true _
        have g3 : ((Bm.sizeS K2 : Int) == (Bm.sizeS K2 : Int)) = true := beq_self_eq_true _
        apply_assumption
        go_wp2_with fail
        go_quiet ((first
          | (go_at_call 14; exact quiet_drew (Hlen.out _))
          | (go_at_call 15; exact quiet_drew (Hbase.out _))
          | (go_at_call 16; exact quiet_drew (Hby.out _))
          | (go_at_call 17; exact quiet_at (Hrb.out _))))
        clear Hlen Hbase Hby Hrb c0 c1
        have HJ8 := Lib.hid (HJ2.out.drewN nq)
        have HB8 := Lib.hid (show Below w.heap.size w (wc.drewN nq) from ⟨HB2.out.os, HB2.out.tape, HB2.out.output, HB2.out.size, HB2.out.block⟩)
        clear HJ2 HB2
        go_wp2
        go_roundw
        case rel => exact ⟨k + 1, by omega, by go_num, Lib.hid ⟨K2, q2, HJ8.out⟩, HB8⟩
        case measure => simp [intOf]; omega
    · obtain rfl : k = xs.length := by omega
      clear hkl hk
      obtain ⟨AR, cR, c0, c1, hc1, hc2, hrd, h400, hq2⟩ := HE.out.rl.reads
      have hpl := HE.out.rl.lt_
      have hqt : (K.take q).length = q := by rw [List.length_take]; omega
      have Hal := Lib.hid (fun W (hW : Below wr.heap.size wr W) => lgall_rdR (some ⟨b, 0, none⟩) K q W (HE.out.lg.below hW).some_)
      have Hol := Lib.hid (fun W (hW : Below wr.heap.size wr W) => lgold_rdR (some ⟨b, 0, none⟩) K q W (HE.out.lg.below hW).some_)
      have Hs1 := Lib.hid (fun W A c (hA : Reads W A (strC K)) (hW : Below wr.heap.size wr W) => drew_belowR (lgsame_any A AR c cR K W (by omega) hA (reads_on hrd hW)))
      have Hs2 := Lib.hid (fun W A c (hA : Reads W A (strC (K.take q))) (hW : Below wr.heap.size wr W) => drew_belowR (lgsame_any A AR c cR (K.take q) W (by omega) hA (sreads_take (reads_on hrd hW))))
      rw [hqt] at Hs2
      have d0 : ∀ W, Below wr.heap.size wr W → W.cell? ⟨p, 0, none⟩ = some (.slice AR K.length cR) := fun W hW => (hW.cell (p := ⟨p, 0, none⟩) hpl).trans c0
      have d1 : ∀ W, Below wr.heap.size wr W → W.cell? ⟨p, 1, none⟩ = some (.int .i64 (q : Int)) := fun W hW => (hW.cell (p := ⟨p, 1, none⟩) hpl).trans c1
      have hcut := fun W => scut_to AR K.length cR q W hq2 hc1
      have hwm : IntKind.i64.wrap (q : Int) = (q : Int) := IntWalk.i64_in _ (by omega)
      clear c0 c1 hqt hrd hc2
      go_wp2_with fail
      go_region_held3 (fun W => Below wr.heap.size wr W) (first | with_reducible assumption | exact (Below.refl wr.heap.size wr).drew) (first
        | (go_at_call 19; (with_reducible refine (Hal.out _ (by with_reducible assumption)).mono ?_); rintro e wX ⟨AX, cX, rfl, hrX, hbX⟩; have HX : Below wr.heap.size wr wX := Below.trans (by with_reducible assumption) (hbX.mono (Below.size (by with_reducible assumption))); have HrX := Lib.hid hrX; clear hbX hrX)
        | (go_at_call 20; (with_reducible refine (Hol.out _ (by with_reducible assumption)).mono ?_); rintro e wY ⟨AY, cY, rfl, hrY, hbY⟩; have HY : Below wr.heap.size wr wY := Below.trans (by with_reducible assumption) (hbY.mono (Below.size (by with_reducible assumption))); have HrY := Lib.hid hrY; clear hbY hrY)
        | (go_at_call 18; first
            | ((with_reducible refine (Hs1.out _ _ _ HrX.out (by with_reducible assumption)).mono ?_); rintro e wS ⟨rfl, hbS⟩; have HS : Below wr.heap.size wr wS := Below.trans (by with_reducible assumption) (hbS.mono (Below.size (by with_reducible assumption))); clear hbS)
            | ((with_reducible refine (Hs2.out _ _ _ HrY.out (by with_reducible assumption)).mono ?_); rintro e wR ⟨rfl, hbR⟩; have HR : Below wr.heap.size wr wR := Below.trans (by with_reducible assumption) (hbR.mono (Below.size (by with_reducible assumption))); clear hbR)))
      have HF := Lib.hid (hbel.out.trans (HR.mono hbel.out.size))
      clear HR
      go_wp2
      go_ret
      exact ⟨rfl, HF.out⟩
end Go.Proofs.Ytnaocegcnckhmaa
