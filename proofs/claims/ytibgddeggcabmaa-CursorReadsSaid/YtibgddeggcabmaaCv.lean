/-
  CursorReads (layer 3): the law's function by its walk: true for any text and any slice of items. No condition.
-/
import Derived.Test.YtibgddeggcabmaaCj
import Derived.Deep.RegionHeld3
import Derived.Deep.DeepCutAuto
import Derived.Deep.LoopGhost
import Derived.BigQuiet
import Derived.Deep.QuietTactic
namespace Go.Proofs.Ytibgddeggcabmaa
open Go.RowKit

theorem JJ.drewN {w W : World} {r ps pb pg : Nat} {st1 st2 : Left} (h : JJ w r ps pb pg W st1 st2) (k : Nat) : JJ w r ps pb pg (W.drewN k) st1 st2 := h.reader (CR.drewN h.2.1 k) (grown_drewN (grown_refl _ _) k)
theorem ii_raw_text {w W : World} {r ps pb pg x : Nat} {it : Itm} {st1 st2 : Left} (most : Int) (h : II w r ps pb pg x it W (intS most st1).2 st2) :
    Calls Try.prog 24 #[.int .i64 ((intS most st1).1 : Int), .pointer (some ⟨pb, 0, none⟩), .pointer (some ⟨ps, 0, none⟩)] W fun e w' => e = .returned (.string (strOf (textS most st1).1)) ∧ II w r ps pb pg x it w' (textS most st1).2 st2 :=
  ii_raw (intS most st1).1 h
theorem quiet_left {P : Program} {f : FuncId} {args : Array Value} {w : World} {n : Nat} {v : Value}
    (h : Calls P f args (w.drewN n) fun e w' => e = .returned v ∧ w.drewN n = w') : Calls P f args (w.drewN n) fun e w'' => e = .returned v ∧ ∃ m, w'' = w.drewN m :=
  h.mono fun _ _ ⟨he, hm⟩ => ⟨he, n, hm.symm⟩

set_option maxHeartbeats 1000000 in
theorem creads_long (A : Option Addr) (n c : Nat) (s0 : ByteArray) (m : Nat) (w : World) (h : 60 < m ∨ 20 < n) (hn : n ≤ 9223372036854775807) (hm : m ≤ 9223372036854775807) (hsz : s0.size = m) :
    Calls Try.prog 4 #[.string s0, .slice A n c] w fun e w' => e = .returned (.bool true) ∧ Below w.heap.size w w' := by
  have h20 : 60 < m ∨ (m ≤ 60 ∧ 20 < n) := by omega
  clear h
  rcases h20 with h60 | ⟨h60, h20⟩
  all_goals
    go_enter Try.func4, Try.ntmps4
    go_wp2_with fail
    refine (cawake_any _).mono ?_
    rintro e w1 ⟨rfl, hb1⟩
    obtain ⟨ps, hps⟩ : ∃ p, p = w.heap.size := ⟨_, rfl⟩
    rw [← hps]
    have hrow : Row (w.alloc (.cells #[.string s0] 9)) w.heap.size 9 [.string s0] := Row.new w _ _
    rw [← hps] at hrow
    have hbw1 : Below w.heap.size w w1 := ((Below.refl w.heap.size w).alloc (Nat.le_refl _) _).trans (hb1.mono (by simp))
    have hrow1 : Row w1 ps 9 [.string s0] := hrow.keep (hb1.block ps (by rw [hps]; simp))
    have c0 := hrow1.cell 0
    have Hbw1 := Lib.hid hbw1
    clear hb1 hrow hps hrow1 hbw1
    go_wp2
    go_ret
    exact ⟨rfl, Hbw1.out⟩

set_option maxHeartbeats 4000000 in
set_option maxRecDepth 100000 in
theorem creads_short (A : Option Addr) (n c : Nat) (l0 : List Nat) (xs : List Itm) (w : World) (hn : n ≤ 20) (hl : l0.length ≤ 60) (hlt : ∀ x ∈ l0, x < 256) (ha : ArgT w A n c xs) :
    Calls Try.prog 4 #[.string (strOf l0), .slice A n c] w fun e w' => e = .returned (.bool true) ∧ Below w.heap.size w w' := by
  obtain ⟨hlen, hok, hcell, hnc, hcm⟩ := ha
  have Hlen := Lib.hid hlen
  have Hok := Lib.hid hok
  have Hcell := Lib.hid hcell
  have hsz := strOf_size l0
  have Hnew := Lib.hid (fun w => cnew_any l0 w)
  have Hlt := Lib.hid hlt
  clear hlen hok hcell hnc hcm hlt
  generalize hs0 : strOf l0 = s0 at hsz Hnew ⊢
  have Hs0 := Lib.hid hs0
  clear hs0
  go_enter Try.func4, Try.ntmps4
  go_wp2_with fail
  refine (cawake_any _).mono ?_
  rintro e w1 ⟨rfl, hb1⟩
  obtain ⟨ps, hps⟩ : ∃ p, p = w.heap.size := ⟨_, rfl⟩
  rw [← hps]
  have hrow : Row (w.alloc (.cells #[.string s0] 9)) w.heap.size 9 [.string s0] := Row.new w _ _
  rw [← hps] at hrow
  have hbw1 : Below w.heap.size w w1 := ((Below.refl w.heap.size w).alloc (Nat.le_refl _) _).trans (hb1.mono (by simp))
  have hrow1 : Row w1 ps 9 [.string s0] := hrow.keep (hb1.block ps (by rw [hps]; simp))
  have c0 := hrow1.cell 0
  have Hrow1 := Lib.hid hrow1
  have Hbw1 := Lib.hid hbw1
  have Hwp : Hid (w.heap.size = ps) := hps.symm
  clear hb1 hrow hps hrow1 hbw1
  go_wp2_with fail
  refine (Hnew.out w1).mono ?_
  rintro e w2 ⟨rfl, hcr, hb2⟩
  obtain ⟨r, hr⟩ : ∃ p, p = w1.heap.size := ⟨_, rfl⟩
  rw [← hr] at hcr ⊢
  have Hrow2 := Lib.hid (Hrow1.out.keep (hb2.block ps Hrow1.out.lt))
  have Hbw2 := Lib.hid (Hbw1.out.trans (hb2.mono Hbw1.out.size))
  have Hcr := Lib.hid hcr
  have Hpr : Hid (ps < r) := by unfold Hid; rw [hr]; exact Hrow1.out.lt
  clear hcr hb2 hr Hrow1 Hbw1 c0
  go_upto_region 8 with fail
  obtain ⟨w3, hw3⟩ : ∃ W, W = w2.alloc (.cells #[.bool false] 4) := ⟨_, rfl⟩
  have hrow3 : Row w3 w2.heap.size 4 [.bool false] := by rw [hw3]; exact Row.new w2 _ _
  have hb23 : Below w2.heap.size w2 w3 := by rw [hw3]; exact (Below.refl _ _).alloc (Nat.le_refl _) _
  obtain ⟨pb, hpb⟩ : ∃ p, p = w2.heap.size := ⟨_, rfl⟩
  rw [← hw3, ← hpb]
  rw [← hpb] at hrow3
  have Hrow3 := Lib.hid hrow3
  have Hs3 := Lib.hid (Hrow2.out.keep (hb23.block ps Hrow2.out.lt))
  have Hcr3 := Lib.hid (Hcr.out.below hb23)
  have Hb3 := Lib.hid (Hbw2.out.trans (hb23.mono Hbw2.out.size))
  have Hrb : Hid (r < pb) := by unfold Hid; rw [hpb]; exact Hcr.out.lt
  clear hw3 hrow3 hb23 hpb Hrow2 Hbw2 Hcr
  go_wp2
  obtain ⟨w4, hw4⟩ : ∃ W, W = w3.alloc (.cells #[gfun ps pb] 42) := ⟨_, rfl⟩
  have hrow4 : Row w4 w3.heap.size 42 [gfun ps pb] := by rw [hw4]; exact Row.new w3 _ _
  have hb34 : Below w3.heap.size w3 w4 := by rw [hw4]; exact (Below.refl _ _).alloc (Nat.le_refl _) _
  obtain ⟨pg, hpg⟩ : ∃ p, p = w3.heap.size := ⟨_, rfl⟩
  rw [← hw4, ← hpg]
  rw [← hpg] at hrow4
  have hjj : JJ w r ps pb pg w4 (some l0) (some l0) := by
    refine ⟨⟨l0, false, ?_, Hrow3.out.keep (hb34.block pb Hrow3.out.lt), by have := Hpr.out; have := Hrb.out; omega, Hlt.out, hl, rfl⟩, Hcr3.out.below hb34, hrow4, Hb3.out.trans (hb34.mono Hb3.out.size), Nat.le_of_eq Hwp.out, Hpr.out, Hrb.out, by rw [hpg]; exact Hrow3.out.lt⟩
    have h1 := Hs3.out.keep (hb34.block ps Hs3.out.lt)
    rw [← Hs0.out] at h1
    exact h1
  have Hjj := Lib.hid hjj
  clear hjj hrow4 hb34 hw4 hpg Hrow3 Hs3 Hcr3 Hb3 Hwp Hpr Hrb Hnew Hlt Hs0 hl
  clear hsz
  go_loopw [36] (fun i wr => ∃ (k : Nat) (st : Left), k ≤ n ∧ i = .int .i64 (k : Int) ∧ Hid (JJ w r ps pb pg wr st st)) (fun i _ => n - (intOf i).toNat)
  case atStart => exact ⟨0, some l0, by omega, rfl, Hjj⟩
  case round =>
    obtain ⟨k, st, hk, rfl, hj⟩ := hrel
    clear Hjj
    by_cases hlt : k < n
    · obtain ⟨g, off, rfl, hg, hcs⟩ := Hcell.out (by omega)
      have hkl : k < xs.length := by rw [Hlen.out]; exact hlt
      obtain ⟨c0, c1, c2, c3⟩ := (hcs k hkl).below hj.out.2.2.2.1 hg
      have hoki := Hok.out xs[k] (List.getElem_mem hkl)
      have hii := II.new xs[k] hj.out
      have Hoki := Lib.hid hoki
      have Hokst := Lib.hid hj.out.1.ok
      have Hi := Lib.hid hii
      clear hoki hcs hii hj
      generalize xs[k] = it at c0 c1 c2 c3 Hi Hoki
      obtain ⟨kd, v, z, s⟩ := it
      dsimp only at c0 c1 c2 c3 Hi
      have hkd : kd < 256 := Hoki.out.1
      obtain ⟨hz0, hz1⟩ : -9223372036854775808 ≤ z ∧ z ≤ 9223372036854775807 := Hoki.out.2.2.1
      have Hz : Hid (-9223372036854775808 ≤ z ∧ z ≤ 9223372036854775807) := ⟨hz0, hz1⟩
      clear Hoki
      have hgc := Hi.out.1.2.2.1.cell 0
      simp only [List.getElem?_cons_zero] at hgc
      rcases (show kd % 6 = 0 ∨ kd % 6 = 1 ∨ kd % 6 = 2 ∨ kd % 6 = 3 ∨ kd % 6 = 4 ∨ kd % 6 = 5 by omega) with h6 | h6 | h6 | h6 | h6 | h6
      · have h6i : (kd : Int) % 6 = 0 := by omega
        clear h6
        have hfx : min (max z 0) 8 = (fx z : Int) := by unfold fx; omega
        have hr8 := ok_raw (n := fx z) Hokst.out
        have hr8l : (rawS (fx z) st).1.length ≤ 8 := Nat.le_trans hr8.2.2 (fx_le z)
        have Hr8 := Lib.hid hr8
        have Hr8l := Lib.hid hr8l
        clear hr8 hr8l
        go_wp2_with fail
        refine (ii_raw (fx z) Hi.out).mono ?_
        rintro e wa ⟨rfl, h1⟩
        obtain ⟨_, i1, i2, i3⟩ := h1.2.1
        dsimp only [Nat.zero_add] at i1 i2 i3
        have H1 := Lib.hid h1
        clear h1
        clear hfx
        go_wp2_with fail
        refine (fvalue_any _ wa Hr8l.out Hr8.out.2.1).mono ?_
        rintro e w' ⟨rfl, rfl⟩
        go_wp2_with fail
        refine (ii_rfixed z Hz.out Hokst.out H1.out).mono ?_
        rintro e wf ⟨rfl, hf⟩
        obtain ⟨_, i1, i2, i3⟩ := hf.2.1
        dsimp only [Nat.zero_add] at i1 i2 i3
        have Hf := Lib.hid hf
        clear hf
        obtain ⟨sf, hsf⟩ : ∃ t, t = (rawS (fx z) st).2 := ⟨_, rfl⟩
        rw [← hsf] at Hf
        clear hsf
        rcases sf with _ | lf
        · have Hb := Lib.hid (fun q => rbad_any r none (wf.drewN q) (CR.drewN Hf.out.1.2.1 q))
          have Hd := Lib.hid (fun q => rdone_any r none (wf.drewN q) (CR.drewN Hf.out.1.2.1 q))
          obtain ⟨lz, d0, d1, g0, g1, _, _⟩ := Hf.out.1.1.none_
          generalize strOf lz = sz at d0
          go_wp2_with fail
          go_quiet ((first | (go_at_call 21; exact quiet_left (Hb.out _)) | (go_at_call 22; exact quiet_left (Hd.out _))))
          go_wp2
          go_roundw
          case rel => exact ⟨k + 1, none, by omega, by go_num, by first | exact (Hf.out.1.strike).drewN _ | exact (Hf.out.1.drewN _).strike⟩
          case measure => simp [intOf]; omega
        · have Hb := Lib.hid (fun q => rbad_any r (some lf) (wf.drewN q) (CR.drewN Hf.out.1.2.1 q))
          have Hd := Lib.hid (fun q => rdone_any r (some lf) (wf.drewN q) (CR.drewN Hf.out.1.2.1 q))
          obtain ⟨d0, d1, g0, g1, _, _⟩ := Hf.out.1.1.some_
          have he := emptyB lf
          have hD : decide (some lf = some ([] : List Nat)) = decide (lf = []) := by simp
          rw [hD] at Hd
          clear hD
          generalize strOf lf = sz at d0 he
          generalize decide (lf = []) = D at he Hd
          go_wp2_with fail
          go_quiet ((first | (go_at_call 21; exact quiet_left (Hb.out _)) | (go_at_call 22; exact quiet_left (Hd.out _))))
          go_wp2
          go_roundw
          case rel => exact ⟨k + 1, some lf, by omega, by go_num, Hf.out.1.drewN _⟩
          case measure => simp [intOf]; omega
      · have h6i : (kd : Int) % 6 = 1 := by omega
        clear h6
        go_wp2_with fail
        refine (ii_group Hi.out).mono ?_
        rintro e wa ⟨rfl, h1⟩
        obtain ⟨_, i1, i2, i3⟩ := h1.2.1
        dsimp only [Nat.zero_add] at i1 i2 i3
        have H1 := Lib.hid h1
        clear h1
        go_wp2_with fail
        refine (ii_rgroup Hokst.out H1.out).mono ?_
        rintro e wf ⟨rfl, hf⟩
        obtain ⟨_, i1, i2, i3⟩ := hf.2.1
        dsimp only [Nat.zero_add] at i1 i2 i3
        have Hf := Lib.hid hf
        clear hf
        obtain ⟨sf, hsf⟩ : ∃ t, t = (groupS st).2 := ⟨_, rfl⟩
        rw [← hsf] at Hf
        clear hsf
        rcases sf with _ | lf
        · have Hb := Lib.hid (fun q => rbad_any r none (wf.drewN q) (CR.drewN Hf.out.1.2.1 q))
          have Hd := Lib.hid (fun q => rdone_any r none (wf.drewN q) (CR.drewN Hf.out.1.2.1 q))
          obtain ⟨lz, d0, d1, g0, g1, _, _⟩ := Hf.out.1.1.none_
          generalize strOf lz = sz at d0
          go_wp2_with fail
          go_quiet ((first | (go_at_call 21; exact quiet_left (Hb.out _)) | (go_at_call 22; exact quiet_left (Hd.out _))))
          go_wp2
          go_roundw
          case rel => exact ⟨k + 1, none, by omega, by go_num, by first | exact (Hf.out.1.strike).drewN _ | exact (Hf.out.1.drewN _).strike⟩
          case measure => simp [intOf]; omega
        · have Hb := Lib.hid (fun q => rbad_any r (some lf) (wf.drewN q) (CR.drewN Hf.out.1.2.1 q))
          have Hd := Lib.hid (fun q => rdone_any r (some lf) (wf.drewN q) (CR.drewN Hf.out.1.2.1 q))
          obtain ⟨d0, d1, g0, g1, _, _⟩ := Hf.out.1.1.some_
          have he := emptyB lf
          have hD : decide (some lf = some ([] : List Nat)) = decide (lf = []) := by simp
          rw [hD] at Hd
          clear hD
          generalize strOf lf = sz at d0 he
          generalize decide (lf = []) = D at he Hd
          go_wp2_with fail
          go_quiet ((first | (go_at_call 21; exact quiet_left (Hb.out _)) | (go_at_call 22; exact quiet_left (Hd.out _))))
          go_wp2
          go_roundw
          case rel => exact ⟨k + 1, some lf, by omega, by go_num, Hf.out.1.drewN _⟩
          case measure => simp [intOf]; omega
      · have h6i : (kd : Int) % 6 = 2 := by omega
        clear h6
        obtain ⟨m, hm⟩ : ∃ m, m = z.toNat := ⟨_, rfl⟩
        have hmx : max z 0 = (m : Int) := by omega
        have Hm := Lib.hid hm
        clear hm
        go_wp2_with fail
        refine (ii_raw m Hi.out).mono ?_
        rintro e wa ⟨rfl, h1⟩
        obtain ⟨_, i1, i2, i3⟩ := h1.2.1
        dsimp only [Nat.zero_add] at i1 i2 i3
        have H1 := Lib.hid h1
        clear h1
        have Hrr := Lib.hid (ii_rraw z H1.out)
        rw [← Hm.out] at Hrr
        clear hmx
        go_wp2_with fail
        refine (Hrr.out).mono ?_
        rintro e wf ⟨rfl, hf⟩
        obtain ⟨_, i1, i2, i3⟩ := hf.2.1
        dsimp only [Nat.zero_add] at i1 i2 i3
        have Hf := Lib.hid hf
        clear hf
        obtain ⟨sf, hsf⟩ : ∃ t, t = (rawS m st).2 := ⟨_, rfl⟩
        rw [← hsf] at Hf
        clear hsf
        rcases sf with _ | lf
        · have Hb := Lib.hid (fun q => rbad_any r none (wf.drewN q) (CR.drewN Hf.out.1.2.1 q))
          have Hd := Lib.hid (fun q => rdone_any r none (wf.drewN q) (CR.drewN Hf.out.1.2.1 q))
          obtain ⟨lz, d0, d1, g0, g1, _, _⟩ := Hf.out.1.1.none_
          generalize strOf lz = sz at d0
          go_wp2_with fail
          go_quiet ((first | (go_at_call 21; exact quiet_left (Hb.out _)) | (go_at_call 22; exact quiet_left (Hd.out _))))
          go_wp2
          go_roundw
          case rel => exact ⟨k + 1, none, by omega, by go_num, by first | exact (Hf.out.1.strike).drewN _ | exact (Hf.out.1.drewN _).strike⟩
          case measure => simp [intOf]; omega
        · have Hb := Lib.hid (fun q => rbad_any r (some lf) (wf.drewN q) (CR.drewN Hf.out.1.2.1 q))
          have Hd := Lib.hid (fun q => rdone_any r (some lf) (wf.drewN q) (CR.drewN Hf.out.1.2.1 q))
          obtain ⟨d0, d1, g0, g1, _, _⟩ := Hf.out.1.1.some_
          have he := emptyB lf
          have hD : decide (some lf = some ([] : List Nat)) = decide (lf = []) := by simp
          rw [hD] at Hd
          clear hD
          generalize strOf lf = sz at d0 he
          generalize decide (lf = []) = D at he Hd
          go_wp2_with fail
          go_quiet ((first | (go_at_call 21; exact quiet_left (Hb.out _)) | (go_at_call 22; exact quiet_left (Hd.out _))))
          go_wp2
          go_roundw
          case rel => exact ⟨k + 1, some lf, by omega, by go_num, Hf.out.1.drewN _⟩
          case measure => simp [intOf]; omega
      · have h6i : (kd : Int) % 6 = 3 := by omega
        clear h6
        go_wp2_with fail
        refine (ii_whole z Hz.out Hi.out).mono ?_
        rintro e wz ⟨rfl, h0⟩
        obtain ⟨_, i1, i2, i3⟩ := h0.2.1
        dsimp only [Nat.zero_add] at i1 i2 i3
        have H0 := Lib.hid h0
        clear h0
        go_wp2_with fail
        refine (ii_raw_text z H0.out).mono ?_
        rintro e wa ⟨rfl, h1⟩
        obtain ⟨_, i1, i2, i3⟩ := h1.2.1
        dsimp only [Nat.zero_add] at i1 i2 i3
        have H1 := Lib.hid h1
        clear h1
        go_wp2_with fail
        refine (ii_rtext z Hz.out Hokst.out H1.out).mono ?_
        rintro e wf ⟨rfl, hf⟩
        obtain ⟨_, i1, i2, i3⟩ := hf.2.1
        dsimp only [Nat.zero_add] at i1 i2 i3
        have Hf := Lib.hid hf
        clear hf
        obtain ⟨sf, hsf⟩ : ∃ t, t = (textS z st).2 := ⟨_, rfl⟩
        rw [← hsf] at Hf
        clear hsf
        rcases sf with _ | lf
        · have Hb := Lib.hid (fun q => rbad_any r none (wf.drewN q) (CR.drewN Hf.out.1.2.1 q))
          have Hd := Lib.hid (fun q => rdone_any r none (wf.drewN q) (CR.drewN Hf.out.1.2.1 q))
          obtain ⟨lz, d0, d1, g0, g1, _, _⟩ := Hf.out.1.1.none_
          generalize strOf lz = sz at d0
          go_wp2_with fail
          go_quiet ((first | (go_at_call 21; exact quiet_left (Hb.out _)) | (go_at_call 22; exact quiet_left (Hd.out _))))
          go_wp2
          go_roundw
          case rel => exact ⟨k + 1, none, by omega, by go_num, by first | exact (Hf.out.1.strike).drewN _ | exact (Hf.out.1.drewN _).strike⟩
          case measure => simp [intOf]; omega
        · have Hb := Lib.hid (fun q => rbad_any r (some lf) (wf.drewN q) (CR.drewN Hf.out.1.2.1 q))
          have Hd := Lib.hid (fun q => rdone_any r (some lf) (wf.drewN q) (CR.drewN Hf.out.1.2.1 q))
          obtain ⟨d0, d1, g0, g1, _, _⟩ := Hf.out.1.1.some_
          have he := emptyB lf
          have hD : decide (some lf = some ([] : List Nat)) = decide (lf = []) := by simp
          rw [hD] at Hd
          clear hD
          generalize strOf lf = sz at d0 he
          generalize decide (lf = []) = D at he Hd
          go_wp2_with fail
          go_quiet ((first | (go_at_call 21; exact quiet_left (Hb.out _)) | (go_at_call 22; exact quiet_left (Hd.out _))))
          go_wp2
          go_roundw
          case rel => exact ⟨k + 1, some lf, by omega, by go_num, Hf.out.1.drewN _⟩
          case measure => simp [intOf]; omega
      · have h6i : (kd : Int) % 6 = 4 := by omega
        clear h6
        go_wp2_with fail
        refine (ii_whole z Hz.out Hi.out).mono ?_
        rintro e wa ⟨rfl, h1⟩
        obtain ⟨_, i1, i2, i3⟩ := h1.2.1
        dsimp only [Nat.zero_add] at i1 i2 i3
        have H1 := Lib.hid h1
        clear h1
        go_wp2_with fail
        refine (ii_rint z Hz.out Hokst.out H1.out).mono ?_
        rintro e wf ⟨rfl, hf⟩
        obtain ⟨_, i1, i2, i3⟩ := hf.2.1
        dsimp only [Nat.zero_add] at i1 i2 i3
        have Hf := Lib.hid hf
        clear hf
        obtain ⟨sf, hsf⟩ : ∃ t, t = (intS z st).2 := ⟨_, rfl⟩
        rw [← hsf] at Hf
        clear hsf
        rcases sf with _ | lf
        · have Hb := Lib.hid (fun q => rbad_any r none (wf.drewN q) (CR.drewN Hf.out.1.2.1 q))
          have Hd := Lib.hid (fun q => rdone_any r none (wf.drewN q) (CR.drewN Hf.out.1.2.1 q))
          obtain ⟨lz, d0, d1, g0, g1, _, _⟩ := Hf.out.1.1.none_
          generalize strOf lz = sz at d0
          go_wp2_with fail
          go_quiet ((first | (go_at_call 21; exact quiet_left (Hb.out _)) | (go_at_call 22; exact quiet_left (Hd.out _))))
          go_wp2
          go_roundw
          case rel => exact ⟨k + 1, none, by omega, by go_num, by first | exact (Hf.out.1.strike).drewN _ | exact (Hf.out.1.drewN _).strike⟩
          case measure => simp [intOf]; omega
        · have Hb := Lib.hid (fun q => rbad_any r (some lf) (wf.drewN q) (CR.drewN Hf.out.1.2.1 q))
          have Hd := Lib.hid (fun q => rdone_any r (some lf) (wf.drewN q) (CR.drewN Hf.out.1.2.1 q))
          obtain ⟨d0, d1, g0, g1, _, _⟩ := Hf.out.1.1.some_
          have he := emptyB lf
          have hD : decide (some lf = some ([] : List Nat)) = decide (lf = []) := by simp
          rw [hD] at Hd
          clear hD
          generalize strOf lf = sz at d0 he
          generalize decide (lf = []) = D at he Hd
          go_wp2_with fail
          go_quiet ((first | (go_at_call 21; exact quiet_left (Hb.out _)) | (go_at_call 22; exact quiet_left (Hd.out _))))
          go_wp2
          go_roundw
          case rel => exact ⟨k + 1, some lf, by omega, by go_num, Hf.out.1.drewN _⟩
          case measure => simp [intOf]; omega
      · have h6i : (kd : Int) % 6 = 5 := by omega
        clear h6
        obtain ⟨t, m, hct, hts, hm60, hrest⟩ := Hi.out.1.1.cur
        have Hraw := Lib.hid (ii_raw m Hi.out)
        rw [hrest] at Hraw
        clear hrest
        go_wp2_with fail
        refine (Hraw.out).mono ?_
        rintro e wa ⟨rfl, h1⟩
        obtain ⟨_, i1, i2, i3⟩ := h1.2.1
        dsimp only [Nat.zero_add] at i1 i2 i3
        have H1 := Lib.hid h1
        clear h1
        clear hct hts
        go_wp2_with fail
        refine (ii_rrest H1.out).mono ?_
        rintro e wf ⟨rfl, hf⟩
        obtain ⟨_, i1, i2, i3⟩ := hf.2.1
        dsimp only [Nat.zero_add] at i1 i2 i3
        have Hf := Lib.hid hf
        clear hf
        obtain ⟨sf, hsf⟩ : ∃ t, t = (restS st).2 := ⟨_, rfl⟩
        rw [← hsf] at Hf
        clear hsf
        rcases sf with _ | lf
        · have Hb := Lib.hid (fun q => rbad_any r none (wf.drewN q) (CR.drewN Hf.out.1.2.1 q))
          have Hd := Lib.hid (fun q => rdone_any r none (wf.drewN q) (CR.drewN Hf.out.1.2.1 q))
          obtain ⟨lz, d0, d1, g0, g1, _, _⟩ := Hf.out.1.1.none_
          generalize strOf lz = sz at d0
          go_wp2_with fail
          go_quiet ((first | (go_at_call 21; exact quiet_left (Hb.out _)) | (go_at_call 22; exact quiet_left (Hd.out _))))
          go_wp2
          go_roundw
          case rel => exact ⟨k + 1, none, by omega, by go_num, by first | exact (Hf.out.1.strike).drewN _ | exact (Hf.out.1.drewN _).strike⟩
          case measure => simp [intOf]; omega
        · have Hb := Lib.hid (fun q => rbad_any r (some lf) (wf.drewN q) (CR.drewN Hf.out.1.2.1 q))
          have Hd := Lib.hid (fun q => rdone_any r (some lf) (wf.drewN q) (CR.drewN Hf.out.1.2.1 q))
          obtain ⟨d0, d1, g0, g1, _, _⟩ := Hf.out.1.1.some_
          have he := emptyB lf
          have hD : decide (some lf = some ([] : List Nat)) = decide (lf = []) := by simp
          rw [hD] at Hd
          clear hD
          generalize strOf lf = sz at d0 he
          generalize decide (lf = []) = D at he Hd
          go_wp2_with fail
          go_quiet ((first | (go_at_call 21; exact quiet_left (Hb.out _)) | (go_at_call 22; exact quiet_left (Hd.out _))))
          go_wp2
          go_roundw
          case rel => exact ⟨k + 1, some lf, by omega, by go_num, Hf.out.1.drewN _⟩
          case measure => simp [intOf]; omega
    · clear Hcell
      have Hb := Lib.hid hj.out.2.2.2.1
      clear hj
      go_wp2
      go_ret
      exact ⟨rfl, Hb.out⟩
end Go.Proofs.Ytibgddeggcabmaa
