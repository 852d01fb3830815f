/-
  Layer 24 (frame): FrameBack, by its walk: true for every slice of frames and every slice of bytes. Conditions: none.
-/
import Derived.Test.YtckmdeiahpijcaaRs
namespace Go.Proofs.Ytckmdeiahpijcaa
open Go.RowKit

theorem itms_take (s : Bool) (l : List Nat) (k : Nat) : (Bm.itms s l).take k = Bm.itms s (l.take k) := by unfold Bm.itms; rw [List.map_take]
theorem itms_drp (s : Bool) (l : List Nat) (k : Nat) : (Bm.itms s l).drop k = Bm.itms s (l.drop k) := by unfold Bm.itms; rw [List.map_drop]
theorem itms_len (s : Bool) (l : List Nat) : (Bm.itms s l).length = l.length := by simp [Bm.itms]
theorem flat_len (F : List Bm.Frm) (n : Nat) (h : ∀ f ∈ F, f.2.length ≤ n) : (Bm.flatF F).length ≤ (n + 11) * F.length := by
  induction F with
  | nil => simp [Bm.flatF]
  | cons f F ih =>
    rw [Bm.flatF_cons, List.length_append, Bm.bytesF_length, List.length_cons, Nat.mul_succ]
    have h1 := ih (fun g hg => h g (List.mem_cons_of_mem _ hg))
    have h2 := h f (List.mem_cons_self ..)
    omega
theorem FrR.twn {w w' : World} {A : Option Addr} {T : List Bm.Frm} {p c : Nat} (h : FrR w A T) (ht : Twn w w' p c) (hA : ∀ g off, A = some ⟨g, off, none⟩ → g ≠ p ∧ g ≠ c) : FrR w' A T := fun h0 => by
  obtain ⟨g, off, e, hg, hc⟩ := h h0
  have hb := ht.block g hg (hA g off e).1 (hA g off e).2
  exact ⟨g, off, e, Nat.lt_of_lt_of_le hg ht.size, fun j hj => ⟨(World.cell?_of_block (a := ⟨g, off + j * 2, none⟩) hb).trans (hc j hj).1, (World.cell?_of_block (a := ⟨g, off + j * 2 + 1, none⟩) hb).trans (hc j hj).2⟩⟩
/-- The way through what was sent: so many bytes were taken. -/
structure BkI (w7 : World) (p c : Nat) (F : List Bm.Frm) (T : List Nat) (wz : World) (v : Value) (g : Nat) : Prop where
  le : g ≤ T.length
  pipe : PI wz p [] (Bm.itms true (T.drop g)) 2048 (Bm.fromH Bm.H0 (T.take g)) g
  ex : ∃ F1 F2 rest, F = F1 ++ F2 ∧ FrO wz w7.heap.size v F1 ∧ CuI wz c (T.take g) rest ∧ Bm.Cutting F2 rest (T.drop g)
  two : Twn w7 wz p c
/-- What a Deliver and a Take leave. -/
theorem BkI.next {w7 wz wD w' w8 : World} {p c : Nat} {F : List Bm.Frm} {T : List Nat} {v v8 : Value} {g r : Nat} (hr : g + r ≤ T.length)
    {F1 F2 : List Bm.Frm} (hF : F = F1 ++ F2) (ht : Twn w7 wz p c) (hg : wz.grownBy wD (some p)) (hfo : FrO wz w7.heap.size v F1) {CP : List Value} (hrp : Row wz p 69 CP)
    {G1 G2 : List Bm.Frm} {rest' : List Nat} (hG : F2 = G1 ++ G2) (hci : CuI w' c (T.take g ++ ((T.drop g).take r).take ((T.drop g).take r).length) rest') (hcut : Bm.Cutting G2 rest' (((T.drop g).take r).drop ((T.drop g).take r).length ++ T.drop (g + r)))
    (hpi : PI w' p (Bm.itms true (((T.drop g).take r).drop ((T.drop g).take r).length)) (Bm.itms true (T.drop (g + r))) 2048 (Bm.fromH Bm.H0 (T.take g ++ ((T.drop g).take r).take ((T.drop g).take r).length)) (T.take g ++ ((T.drop g).take r).take ((T.drop g).take r).length).length) (htw : Twn wD w' p c)
    (h8 : FrO w8 w7.heap.size v8 (F1 ++ G1)) (h8b : w'.grownBy w8 v.ownBlock) (hrc : ∃ CC, Row wD c 72 CC) : BkI w7 p c F T w8 v8 (g + r) := by
  have hxl : ((T.drop g).take r).length = r := by rw [List.length_take, List.length_drop]; omega
  have htk : (T.drop g).take r = (T.take (g + r)).drop g := by rw [List.drop_take, Nat.add_sub_cancel_left]
  have hall : T.take g ++ (T.drop g).take r = T.take (g + r) := by
    rw [List.take_add]
  rw [List.take_length, hall] at hci hpi
  rw [List.drop_length, List.nil_append] at hcut
  rw [List.drop_length] at hpi
  have hTl : (T.take (g + r)).length = g + r := by rw [List.length_take]; omega
  rw [hTl] at hpi
  obtain ⟨CC, hrc⟩ := hrc
  have hrpD := hrp
  have hfoD : FrO wD w7.heap.size v F1 := hfo.grown hg hrp (by decide)
  obtain ⟨CP2, hrp2⟩ := hpi.row
  obtain ⟨CC2, hrc2⟩ := hci.row
  have hplt : p < wD.heap.size := Nat.lt_of_lt_of_le hrp.lt hg.size
  have hnp : v.ownBlock ≠ some p := hfo.ne hrp (by decide)
  have hnc : v.ownBlock ≠ some c := hfoD.ne hrc (by decide)
  have hfo' : FrO w' w7.heap.size v F1 := hfoD.keepB fun q hq => htw.block q (hfoD.lt q hq).2 (fun e => hnp (by rw [← e]; exact hq)) (fun e => hnc (by rw [← e]; exact hq))
  have hkp : w8.heap[p]? = w'.heap[p]? := h8b.block p hpi.lt (fun e => hnp e.symm)
  have hkc : w8.heap[c]? = w'.heap[c]? := h8b.block c hci.lt (fun e => hnc e.symm)
  refine ⟨hr, hpi.keep hkp, ⟨F1 ++ G1, G2, rest', by rw [hF, hG, List.append_assoc], h8, hci.keep hkc, hcut⟩, ?_⟩
  have h1 := ht.trans ((Twn.one hg).trans htw)
  exact ⟨h8b.os.trans h1.os, h8b.tape.trans h1.tape, h8b.output.trans h1.output, Nat.le_trans h1.size h8b.size, fun i hi hp hc => (h8b.block i (Nat.lt_of_lt_of_le hi h1.size) (fun e => by have := (hfo'.lt i e.symm).1; omega)).trans (h1.block i hi hp hc)⟩
set_option linter.unusedSimpArgs false in
set_option maxHeartbeats 4000000 in
set_option maxRecDepth 100000 in
theorem frback_in (A B : Option Addr) (cap d : Nat) (xs : List Bm.Frm) (bs : List Nat) (w : World) (hl : xs.length ≤ 5) (hl2 : bs.length ≤ 60) (hx : ArgFr w A xs.length cap xs) (hy : ArgB w B bs.length d bs) (hB : B = none → d = 0) :
    Calls Try.prog 3 #[.slice A xs.length cap, .slice B bs.length d] w fun e w' => e = .returned (.bool true) ∧ Below w.heap.size w w' := by
  have Haw := Lib.hid (frawake_any w)
  have hd : decide (5 < (xs.length : Int)) = false := decide_eq_false (by omega)
  have hd2 : decide (60 < (bs.length : Int)) = false := decide_eq_false (by omega)
  obtain ⟨_, hok, hcell, _, _⟩ := hx
  have Hok := Lib.hid hok
  have Hcell := Lib.hid hcell
  have Hby := Lib.hid hy
  have HBn := Lib.hid hB
  clear hok hcell hy hB
  go_enter Try.func3, Try.ntmps3
  go_wp2_with fail
  refine Haw.out.mono ?_
  rintro e w1 ⟨rfl, hb1⟩
  have HB1 := Lib.hid hb1
  have Hnew := Lib.hid (ppnew_any 2048 w1)
  rw [show Bm.mostN 2048 = 2048 by decide] at Hnew
  clear hb1 Haw
  go_wp2_with fail
  refine Hnew.out.mono ?_
  rintro e w2 ⟨p, rfl, hP2, hp, hb2⟩
  have HB2 := Lib.hid (HB1.out.trans (hb2.mono HB1.out.size))
  have Hp := Lib.hid (Nat.le_trans HB1.out.size hp)
  have HP2 := Lib.hid hP2
  clear hP2 hb2 hp Hnew HB1 hd hd2
  go_wp2_with fail
  refine (frnew_any w2).mono ?_
  rintro e w3 ⟨c, rfl, hc3, hcl, hb3⟩
  have HB3 := Lib.hid (HB2.out.trans (hb3.mono HB2.out.size))
  have Hc : Hid (w.heap.size ≤ c) := Lib.hid (Nat.le_trans HB2.out.size hcl)
  have HP3 := Lib.hid (HP2.out.below hb3)
  have hpc : p ≠ c := by have := HP2.out.lt; omega
  have HC3 := Lib.hid hc3
  have HB3s : Hid (w.heap.size ≤ w3.heap.size) := Lib.hid HB3.out.size
  clear hc3 hcl hb3 HB2 HP2
  go_wp2
  go_loopw [7, 10, 11, 12, 13, 32] (fun v _ _ _ _ i wr => ∃ (j : Nat) (F : List Bm.Frm), j ≤ xs.length ∧ i = .int .i64 (j : Int) ∧ Hid (F.length ≤ j ∧ ∀ f ∈ F, Bm.FrOk f ∧ f.2.length ≤ 300) ∧ Hid (FrO wr w3.heap.size v F) ∧ Hid (PI wr p [] (Bm.itms true (Bm.flatF F)) 2048 Bm.H0 0) ∧ Hid (CuI wr c [] []) ∧ Hid (Below w.heap.size w wr) ∧ Hid (w3.heap.size ≤ wr.heap.size)) (fun _ _ _ _ _ i _ => xs.length - (intOf i).toNat)
  case atStart => exact ⟨0, [], Nat.zero_le _, rfl, Lib.hid ⟨Nat.le_refl _, fun f hf => by cases hf⟩, Lib.hid (frO_nil _ _), HP3, HC3, HB3, Lib.hid (Nat.le_refl _)⟩
  case round =>
    obtain ⟨j, F, hj, rfl, HF, HFo, HP, HC, HBr, Hs3⟩ := hrel
    clear HP3 HC3 HB3
    by_cases hjl : j < xs.length
    · have hjI : (j : Int) < (xs.length : Int) := by omega
      obtain ⟨g, off, rfl, hg, hc⟩ := Hcell.out (by omega)
      obtain ⟨q0, q1⟩ := hc j hjl
      have q0 := (HBr.out.cell (p := ⟨g, off + j * 2, none⟩) hg).trans q0
      have q1 := (HBr.out.cell (p := ⟨g, off + j * 2 + 1, none⟩) hg).trans q1
      obtain ⟨⟨o0, o00⟩, o1, o2⟩ := Hok.out xs[j] (List.getElem_mem hjl)
      clear hc
      generalize xs[j] = ff at *
      obtain ⟨k, l⟩ := ff
      dsimp only at q0 q1 o0 o00 o1 o2
      have hsz := strOf_size l
      have Hlt := Lib.hid o1
      clear o1 o2
      go_upto_region 10 with fail
      have hda : Below wr.heap.size wr (wr.alloc (.cells #[.int .i64 k, .string (strOf l)] 30)) := (Below.refl _ _).alloc (Nat.le_refl _) _
      have HR1 : Hid (Row (wr.alloc (.cells #[.int .i64 k, .string (strOf l)] 30)) wr.heap.size 30 [.int .i64 k, .string (strOf l)]) := Lib.hid (Row.new wr _ _)
      have HFo1 := Lib.hid (HFo.out.below hda)
      have HP1 := Lib.hid (HP.out.below hda)
      have HC1 := Lib.hid (HC.out.keep (hda.block c HC.out.lt))
      have HB1 := Lib.hid (HBr.out.trans (hda.mono HBr.out.size))
      have Hs1 : Hid (w3.heap.size ≤ (wr.alloc (.cells #[.int .i64 k, .string (strOf l)] 30)).heap.size) := Lib.hid (Nat.le_trans Hs3.out hda.size)
      clear hda HFo HP HC HBr Hs3 q0 q1 hg
      generalize wr.alloc (.cells #[.int .i64 k, .string (strOf l)] 30) = wA at *
      generalize wr.heap.size = fB at *
      have e0 := HR1.out.cell 0
      have e1 := HR1.out.cell 1
      simp only [List.getElem?_cons_zero, List.getElem?_cons_succ] at e0 e1
      by_cases h300 : 300 < l.length
      · have h300I : (300 : Int) < (l.length : Int) := by omega
        generalize strOf l = tl at *
        generalize l.length = L at *
        go_wp2
        go_ret
        exact ⟨rfl, HB1.out⟩
      · have h300I : ¬ (300 : Int) < (l.length : Int) := by omega
        by_cases hk : k < 1 ∨ 10 < k
        · have Henc := Lib.hid (fun W => frenc_kind k (strOf l) W hk)
          have Hrt := Lib.hid (fun W => rfright_any k (strOf l) W)
          rw [show rightN k (strOf l).size = 6 by unfold rightN; rw [if_pos hk]] at Hrt
          clear hk
          generalize strOf l = tl at *
          generalize l.length = L at *
          go_wp2_with fail
          refine (Henc.out wA).mono ?_
          rintro e w5 ⟨rfl, hb5⟩
          have HR5 := Lib.hid (row_below HR1.out hb5)
          have HFo5 := Lib.hid (HFo1.out.below hb5)
          have HP5 := Lib.hid (HP1.out.below hb5)
          have HC5 := Lib.hid (HC1.out.keep (hb5.block c HC1.out.lt))
          have HB5 := Lib.hid (HB1.out.trans (hb5.mono HB1.out.size))
          have Hs5 : Hid (w3.heap.size ≤ w5.heap.size) := Lib.hid (Nat.le_trans Hs1.out hb5.size)
          clear hb5 e0 e1 HR1 HFo1 HP1 HC1 HB1 Hs1
          have e0 := HR5.out.cell 0
          have e1 := HR5.out.cell 1
          simp only [List.getElem?_cons_zero, List.getElem?_cons_succ] at e0 e1
          go_wp2_with fail
          refine (Hrt.out w5).mono ?_
          rintro e w6 ⟨rfl, hb6⟩
          have HFo6 := Lib.hid (HFo5.out.below hb6)
          have HP6 := Lib.hid (HP5.out.below hb6)
          have HC6 := Lib.hid (HC5.out.keep (hb6.block c HC5.out.lt))
          have HB6 := Lib.hid (HB5.out.trans (hb6.mono HB5.out.size))
          have Hs6 : Hid (w3.heap.size ≤ w6.heap.size) := Lib.hid (Nat.le_trans Hs5.out hb6.size)
          clear hb6 e0 e1 HFo5 HP5 HC5 HB5 Hs5 Hrt Henc
          go_wp2
          go_roundw
          case rel => exact ⟨j + 1, F, by omega, by go_num, Lib.hid ⟨by have := HF.out.1; omega, HF.out.2⟩, HFo6, HP6, HC6, HB6, Hs6⟩
          case measure => simp [intOf]; omega
        · have hfk : Bm.FrOk (k, l) := ⟨by dsimp only; omega, by dsimp only; omega, by dsimp only; omega, Hlt.out⟩
          have Hfk := Lib.hid hfk
          have Henc := Lib.hid (fun W => frenc_yes (k, l) W hfk)
          have Hrt := Lib.hid (fun W => rfright_any k (strOf l) W)
          rw [show rightN k (strOf l).size = 0 by unfold rightN; rw [if_neg hk, if_neg (by rw [hsz]; omega)]] at Hrt
          have Hby2 := Lib.hid (fun W => rfbytes_any (k, l) W hfk)
          have hfl := flat_len F 300 (fun f hf => (HF.out.2 f hf).2)
          have hbl : (Bm.bytesF (k, l)).length = l.length + 11 := Bm.bytesF_length _
          have hblt := Bm.bytesF_lt hfk
          have HF2 : Hid ((F ++ [(k, l)]).length ≤ j + 1 ∧ ∀ f ∈ F ++ [(k, l)], Bm.FrOk f ∧ f.2.length ≤ 300) := Lib.hid ⟨by have := HF.out.1; rw [List.length_append, List.length_singleton]; omega, fun f hf => by
            rcases List.mem_append.1 hf with h1 | h1
            · exact HF.out.2 f h1
            · rw [List.mem_singleton.1 h1]; exact ⟨Hfk.out, by dsimp only; omega⟩⟩
          have Hsend := Lib.hid (fun W hW => ppsend_yes p [] (Bm.itms true (Bm.flatF F)) 2048 Bm.H0 0 (Bm.bytesF (k, l)) W (by rw [itms_len, List.length_nil, hbl]; have := HF.out.1; omega) hblt hW)
          rw [← Bm.itms_append, show Bm.flatF F ++ Bm.bytesF (k, l) = Bm.flatF (F ++ [(k, l)]) by rw [Bm.flatF_append]; simp [Bm.flatF]] at Hsend
          have hF1 : F.length ≤ 1000000 := by have := HF.out.1; omega
          have hseq : ((strOf (Bm.bytesF (k, l))).toList == (strOf (Bm.bytesF (k, l))).toList) = true := by simp
          clear hk hfl hbl hblt hfk
          unfold frV at Henc Hby2
          dsimp only at Henc Hby2
          generalize strOf (Bm.bytesF (k, l)) = tb at *
          generalize htl : strOf l = tl at *
          have Htl := Lib.hid htl
          clear htl
          generalize l.length = L at *
          go_wp2_with fail
          refine (Henc.out wA).mono ?_
          rintro e w5 ⟨rfl, hb5⟩
          have HR5 := Lib.hid (row_below HR1.out hb5)
          have HFo5 := Lib.hid (HFo1.out.below hb5)
          have HP5 := Lib.hid (HP1.out.below hb5)
          have HC5 := Lib.hid (HC1.out.keep (hb5.block c HC1.out.lt))
          have HB5 := Lib.hid (HB1.out.trans (hb5.mono HB1.out.size))
          have Hs5 : Hid (w3.heap.size ≤ w5.heap.size) := Lib.hid (Nat.le_trans Hs1.out hb5.size)
          clear hb5 e0 e1 HR1 HFo1 HP1 HC1 HB1 Hs1
          have e0 := HR5.out.cell 0
          have e1 := HR5.out.cell 1
          simp only [List.getElem?_cons_zero, List.getElem?_cons_succ] at e0 e1
          go_wp2_with fail
          refine (Hrt.out w5).mono ?_
          rintro e w6 ⟨rfl, hb6⟩
          have HR6 := Lib.hid (row_below HR5.out hb6)
          have HFo6 := Lib.hid (HFo5.out.below hb6)
          have HP6 := Lib.hid (HP5.out.below hb6)
          have HC6 := Lib.hid (HC5.out.keep (hb6.block c HC5.out.lt))
          have HB6 := Lib.hid (HB5.out.trans (hb6.mono HB5.out.size))
          have Hs6 : Hid (w3.heap.size ≤ w6.heap.size) := Lib.hid (Nat.le_trans Hs5.out hb6.size)
          clear hb6 e0 e1 HR5 HFo5 HP5 HC5 HB5 Hs5 Hrt Henc
          have e0 := HR6.out.cell 0
          have e1 := HR6.out.cell 1
          simp only [List.getElem?_cons_zero, List.getElem?_cons_succ] at e0 e1
          go_wp2_with fail
          refine (Hby2.out w6).mono ?_
          rintro e w7 ⟨rfl, hb7⟩
          have HR7 := Lib.hid (row_below HR6.out hb7)
          have HFo7 := Lib.hid (HFo6.out.below hb7)
          have HP7 := Lib.hid (HP6.out.below hb7)
          have HC7 := Lib.hid (HC6.out.keep (hb7.block c HC6.out.lt))
          have HB7 := Lib.hid (HB6.out.trans (hb7.mono HB6.out.size))
          have Hs7 : Hid (w3.heap.size ≤ w7.heap.size) := Lib.hid (Nat.le_trans Hs6.out hb7.size)
          clear hb7 e0 e1 HR6 HFo6 HP6 HC6 HB6 Hs6 Hby2
          go_wp2_with fail
          refine (Hsend.out w7 HP7.out).mono ?_
          rintro e w8 ⟨rfl, hp8, hg8⟩
          obtain ⟨CP, hrp⟩ := HP7.out.row
          have hne : fB ≠ p := fun e => by
            have h1 := HR7.out
            rw [e] at h1
            unfold Row at h1 hrp
            rw [hrp] at h1
            injection h1 with h1
            injection h1 with _ h1
            exact absurd h1 (by decide)
          have HR8 := Lib.hid (HR7.out.keep (hg8.block fB HR7.out.lt (by intro e; injection e with e; exact hne e)))
          have HFo8 := Lib.hid (HFo7.out.grown hg8 hrp (by decide))
          have HP8 := Lib.hid hp8
          have HC8 := Lib.hid (HC7.out.keep (hg8.block c HC7.out.lt (by intro e; injection e with e; exact hpc e.symm)))
          have HB8 := Lib.hid (HB7.out.trans (below_grown hg8 Hp.out HB7.out.size))
          have Hs8 : Hid (w3.heap.size ≤ w8.heap.size) := Lib.hid (Nat.le_trans Hs7.out hg8.size)
          clear hp8 hg8 hrp hne HR7 HFo7 HP7 HC7 HB7 Hs7 Hsend
          have e0 := HR8.out.cell 0
          have e1 := HR8.out.cell 1
          simp only [List.getElem?_cons_zero, List.getElem?_cons_succ] at e0 e1
          have htl := Htl.out
          subst htl
          go_wp2_with (at_builtin; refine wpFr_append (k, l) rfl _ _ rfl w3.heap.size _ F rfl HFo8.out w8.heap.size rfl rfl hF1 Hs8.out ?_)
          intro v9 w9 hfo9 hb9 hk9 hs9
          obtain ⟨CP, hrp⟩ := HP8.out.row
          obtain ⟨CC, hrc⟩ := HC8.out.row
          have HFo9 := Lib.hid hfo9
          have HP9 := Lib.hid (HP8.out.keep (hk9 p HP8.out.lt (HFo8.out.ne hrp (by decide))))
          have HC9 := Lib.hid (HC8.out.keep (hk9 c HC8.out.lt (HFo8.out.ne hrc (by decide))))
          have HB9 := Lib.hid (HB8.out.trans (hb9.mono (Nat.le_trans HB3s.out (Nat.le_refl _))))
          have Hs9 : Hid (w3.heap.size ≤ w9.heap.size) := Lib.hid (Nat.le_trans Hs8.out hs9)
          clear hfo9 hb9 hk9 hs9 hrp hrc HFo8 HP8 HC8 HB8 Hs8 e0 e1 HR8
          go_wp2
          go_roundw
          case rel => exact ⟨j + 1, F ++ [(k, l)], by omega, by go_num, HF2, HFo9, HP9, HC9, HB9, Hs9⟩
          case measure => simp [intOf]; omega
    · obtain rfl : j = xs.length := by omega
      have hfl := flat_len F 300 (fun f hf => (HF.out.2 f hf).2)
      have hflt := Bm.flatF_lt F (fun f hf => (HF.out.2 f hf).1)
      have hcut := Bm.Cutting.new F (fun f hf => (HF.out.2 f hf).1)
      have Hbf : Hid (∀ f ∈ F, ∀ x ∈ f.2, x < 256) := Lib.hid (fun f hf => (HF.out.2 f hf).1.2.2.2)
      obtain ⟨T, hT⟩ : ∃ T, T = Bm.flatF F := ⟨_, rfl⟩
      rw [← hT] at HP hfl hflt hcut
      have hTl : T.length ≤ 1555 := by have := HF.out.1; omega
      have hFl : F.length ≤ 5 := by have := HF.out.1; omega
      have Hcut := Lib.hid hcut
      have Hflt := Lib.hid hflt
      clear hfl hflt hcut hT HF Hcell Hok
      obtain ⟨i0, hi, hz0, hz1, hz2⟩ := info_parts info_u8F
      have Hown0 := Lib.hid (World.ownsRow_made (e := 5) (size := 1) wr #[] 0 (Nat.le_refl wr.heap.size) (Nat.zero_le _) rfl)
      go_upto_region 21 with fail
      have Hba : Hid (Below wr.heap.size wr (wr.alloc (.cells #[] 5))) := Lib.hid ((Below.refl _ _).alloc (Nat.le_refl _) _)
      have HBa := Lib.hid (HBr.out.trans (Hba.out.mono HBr.out.size))
      go_wp2_with (at_builtin; refine wpList_append_inF rfl _ _ 23 rfl wr.heap.size 5 i0 (.int .u8 0) 1 1 Try.underlying23 hi hz0 hz1 hz2 rfl (by decide) _ _ _ rfl Hown0.out B bs.length d (u8s bs) rfl ?d1 (by rw [u8s_length, Nat.mul_one]) (argb_cellsF Hby.out HBa.out) (u8s_oneF bs) ?d3 ?d4 ?d5 ?_)
      case d1 => exact argb_nilF Hby.out HBn.out
      case d3 => unfold maxLen; omega
      case d4 => omega
      case d5 => exact Hba.out.size
      intro v5 w5 hown5 hg5
      have HQ5 := Lib.hid (Hba.out.grown hg5 Hba.out.size (fun q hq => (Hown0.out.lt q hq).1))
      have Hown5 := Lib.hid hown5
      obtain ⟨es, hes⟩ : ∃ es : List Nat, es = [255, 255, 255, 255, 255, 255, 255, 255] := ⟨_, rfl⟩
      have H255 := Lib.hid (Row.new w5 5 (u8s [255, 255, 255, 255, 255, 255, 255, 255]))
      have HQ6 : Hid (Below wr.heap.size wr (w5.alloc (.cells (u8s [255, 255, 255, 255, 255, 255, 255, 255]).toArray 5))) := Lib.hid (HQ5.out.alloc HQ5.out.size _)
      have Hown6 := Lib.hid (own_below Hown5.out ((Below.refl w5.heap.size w5).alloc (Nat.le_refl _) (.cells (u8s [255, 255, 255, 255, 255, 255, 255, 255]).toArray 5)))
      clear hown5 hg5 Hba HBa Hown0
      rw [show (u8s [255, 255, 255, 255, 255, 255, 255, 255]).toArray = #[.int .u8 255, .int .u8 255, .int .u8 255, .int .u8 255, .int .u8 255, .int .u8 255, .int .u8 255, .int .u8 255] from rfl] at HQ6 Hown6
      have H255' := Lib.hid (show Row (w5.alloc (.cells #[.int .u8 255, .int .u8 255, .int .u8 255, .int .u8 255, .int .u8 255, .int .u8 255, .int .u8 255, .int .u8 255] 5)) w5.heap.size 5 (u8s [255, 255, 255, 255, 255, 255, 255, 255]) from H255.out)
      clear H255 HQ5 Hown5
      go_wp2_with (at_builtin; refine wpList_append_inF rfl _ _ 23 rfl wr.heap.size 5 i0 (.int .u8 0) 1 1 Try.underlying23 hi hz0 hz1 hz2 rfl (by decide) _ _ _ rfl Hown6.out (some ⟨w5.heap.size, 0, none⟩) 8 8 (u8s [255, 255, 255, 255, 255, 255, 255, 255]) rfl ?d1 rfl ?d2 (u8s_oneF _) ?d3 ?d4 ?d5 ?_)
      case d1 => exact fun e => by cases e
      case d2 =>
        intro ad e j u hj
        injection e with e
        subst e
        rw [show ((⟨w5.heap.size, 0, none⟩ : Addr).add j) = ⟨w5.heap.size, j, none⟩ by unfold Addr.add; split <;> simp_all, H255'.out.cell j]
        exact hj
      case d3 => unfold maxLen; omega
      case d4 => omega
      case d5 => exact HQ6.out.size
      intro v7 w7 hown7 hg7
      obtain ⟨g7, c7, rfl, hgl, hglt⟩ := own_form hown7 (by omega)
      have Hrd7 := Lib.hid (own_place hown7)
      have HQ7 := Lib.hid (HQ6.out.grown hg7 HQ6.out.size (fun q hq => (Hown6.out.lt q hq).1))
      have HB7 := Lib.hid (HBr.out.trans (HQ7.out.mono HBr.out.size))
      have HP7 := Lib.hid (HP.out.below HQ7.out)
      have HC7 := Lib.hid (HC.out.keep (HQ7.out.block c HC.out.lt))
      have HFo7 := Lib.hid (HFo.out.below HQ7.out)
      have Hne7 : Hid (∀ q, Value.ownBlock u7 = some q → q ≠ p ∧ q ≠ c) := Lib.hid (fun q hq => by
        obtain ⟨CP, hrp⟩ := HP7.out.row
        obtain ⟨CC, hrc⟩ := HC7.out.row
        exact ⟨fun e => HFo7.out.ne hrp (by decide) (by rw [← e]; exact hq), fun e => HFo7.out.ne hrc (by decide) (by rw [← e]; exact hq)⟩)
      have Hgb := Lib.hid (show g7 ≠ p ∧ g7 ≠ c from ⟨by have := HP.out.lt; omega, by have := HC.out.lt; omega⟩)
      have Hg7 := Lib.hid hglt
      have Hblt := Lib.hid Hby.out.2.1
      clear hown7 hg7 hgl hglt Hown6 HQ6 H255' HBr HP HC HFo HQ7 Hby HBn hz0 hz1 hz2 hi hes
      obtain ⟨ks, hks⟩ : ∃ ks, ks = bs ++ [255, 255, 255, 255, 255, 255, 255, 255] := ⟨_, rfl⟩
      have hksl : bs.length + 8 = ks.length := by rw [hks, List.length_append]; rfl
      have Hk256 := Lib.hid (show ∀ j (h : j < ks.length), ks[j] < 256 from fun j h => by
        subst hks
        rcases List.mem_append.1 (List.getElem_mem h) with h1 | h1
        · exact Hblt.out _ h1
        · simp only [List.mem_cons, List.not_mem_nil, or_false, or_self] at h1
          rw [h1]; decide)
      have Hk255 := Lib.hid (show ∀ j (h : j < ks.length), bs.length ≤ j → ks[j] = 255 from fun j h hj => by
        subst hks
        rw [List.getElem_append_right hj]
        have hm := List.getElem_mem (l := [255, 255, 255, 255, 255, 255, 255, 255]) (n := j - bs.length) (by rw [List.length_append] at h; simp only [List.length_cons, List.length_nil] at h ⊢; omega)
        simp only [List.mem_cons, List.not_mem_nil, or_false, or_self] at hm
        exact hm)
      have Hkc := Lib.hid (show ∀ j (h : j < ks.length), w7.cell? ⟨g7, j, none⟩ = some (.int .u8 (ks[j] : Int)) from fun j h => by
        have hr := Hrd7.out.2.2.2.2
        rw [show u8s bs ++ u8s [255, 255, 255, 255, 255, 255, 255, 255] = u8s ks by rw [hks]; unfold u8s; rw [List.map_append]] at hr
        obtain ⟨g9, o9, e9, hc9⟩ := hr (by intro e; have := congrArg List.length e; rw [u8s_length, List.length_nil] at this; omega)
        injection e9 with e9
        injection e9 with e9 e10
        subst e9 e10
        have h5 := hc9 j (by rw [u8s_length]; exact h)
        rw [Nat.zero_add, u8s_get? ks j h] at h5
        exact h5)
      have Hkl := Lib.hid hksl
      clear hks Hrd7 Hblt
      rw [hksl]
      clear hksl
      have hkb : ks.length ≤ 68 := by have := Hkl.out; omega
      have HBk0 : Hid (BkI w7 p c F T w7 (.slice none 0 0) 0) := Lib.hid ⟨Nat.zero_le _, by rw [List.drop_zero, List.take_zero]; exact HP7.out, ⟨[], F, [], rfl, frO_nil _ _, by rw [List.take_zero]; exact HC7.out, by rw [List.drop_zero]; exact Hcut.out⟩, Twn.refl _ _ _⟩
      clear HP7 HC7 Hcut
      go_wp2
      go_loopw [8, 15, 16, 17, 81] (fun v _ _ _ i wz => ∃ (j g : Nat), j ≤ ks.length ∧ i = .int .i64 (j : Int) ∧ Hid (min T.length (255 * (j - bs.length)) ≤ g) ∧ Hid (BkI w7 p c F T wz v g)) (fun _ _ _ _ i _ => ks.length - (intOf i).toNat)
      case atStart => exact ⟨0, 0, Nat.zero_le _, rfl, Lib.hid (by rw [Nat.zero_sub]; omega), HBk0⟩
      case round =>
        obtain ⟨j, g, hj2, rfl, Hgm, HBk⟩ := hrel
        clear HBk0
        by_cases hjk : j < ks.length
        · have hjI : (j : Int) < (ks.length : Int) := by omega
          have hk2 := Hk256.out j hjk
          have Hk3 := Lib.hid (Hk255.out j hjk)
          have q0 := (World.cell?_of_block (a := ⟨g7, j, none⟩) (HBk.out.two.block g7 Hg7.out Hgb.out.1 Hgb.out.2)).trans (Hkc.out j hjk)
          generalize ks[j] = kk at *
          have hwk : IntKind.i64.wrap (kk : Int) = (kk : Int) := by rw [IntKind.wrap_i64]; omega
          obtain ⟨r, hr⟩ : ∃ r, Bm.comeN (kk : Int) (Bm.itms true (T.drop g)).length = r := ⟨_, rfl⟩
          have hr2 := Bm.come_le (kk : Int) (Bm.itms true (T.drop g)).length
          rw [hr, itms_len, List.length_drop] at hr2
          have hgle := HBk.out.le
          have Hr2 := Lib.hid (show r = min kk (T.length - g) by omega)
          have hrT : g + r ≤ T.length := by have := Hr2.out; omega
          have Hde := Lib.hid (ppdel_any p [] (Bm.itms true (T.drop g)) 2048 _ g (kk : Int) r _ hr HBk.out.pipe)
          rw [List.nil_append, itms_take, itms_drp, List.drop_drop] at Hde
          obtain ⟨F1, F2, rest, hF, hfo, hci, hcut⟩ := HBk.out.ex
          have Hfo := Lib.hid hfo
          have Hci := Lib.hid hci
          have Hcut := Lib.hid hcut
          have HF := Lib.hid hF
          obtain ⟨CP, hrp⟩ := HBk.out.pipe.row
          have Hrp := Lib.hid hrp
          have Hprog : Hid (min T.length (255 * (j + 1 - bs.length)) ≤ g + r) := Lib.hid (by
            have h1 := Hr2.out
            have h2 := Hgm.out
            by_cases h4 : bs.length ≤ j
            · have := Hk3.out h4; omega
            · omega)
          clear hr hr2 hk2 hfo hci hcut hF hrp
          go_wp2_with fail
          refine Hde.out.mono ?_
          rintro e wD ⟨rfl, hPD, hgD⟩
          have HPD := Lib.hid hPD
          have HgD := Lib.hid hgD
          have HciD := Lib.hid (Hci.out.keep (hgD.block c Hci.out.lt (by intro e; injection e with e; exact hpc e.symm)))
          clear hPD hgD Hde q0 hwk Hr2 Hk3
          have htg : (T.take g).length = g := by rw [List.length_take]; omega
          have Htk := Lib.hid (frtake_any p c 2048 (Bm.itms true (T.drop (g + r))) (T.take g) rest ((T.drop g).take r) (T.drop (g + r)) F2 wD hpc (take_lt (drop_lt Hflt.out _) _) (by rw [htg, List.length_take, List.length_drop]; omega) (by have h1 := HF.out; rw [h1, List.length_append] at hFl; omega) (by rw [htg]; exact HPD.out) HciD.out (by rw [← List.drop_drop, List.take_append_drop]; exact Hcut.out))
          obtain ⟨CPD, hrpD⟩ := HPD.out.row
          have HrpD := Lib.hid hrpD
          clear htg HPD Hci Hcut hrpD
          go_wp2_with fail
          refine Htk.out.mono ?_
          rintro e wT ⟨v2, rfl, hT⟩
          obtain ⟨⟨G1, G2, rest', hG, hfo2, hciT, hcutT⟩, hpiT, htwT⟩ := hT
          have hfoD := Hfo.out.grown HgD.out Hrp.out (by decide)
          obtain ⟨CC, hrc⟩ := HciD.out.row
          have HfoT := Lib.hid (hfoD.twn htwT HrpD.out (by decide) hrc (by decide))
          have Hfo2 := Lib.hid hfo2
          have HG := Lib.hid hG
          have HciT := Lib.hid hciT
          have HcutT := Lib.hid hcutT
          have HpiT := Lib.hid hpiT
          have HtwT := Lib.hid htwT
          have hGl : F1.length + G1.length ≤ 1000000 := by
            have h1 := HF.out
            rw [hG] at h1
            rw [h1, List.length_append, List.length_append] at hFl
            omega
          have Hsz : Hid (w7.heap.size ≤ wT.heap.size) := Lib.hid (Nat.le_trans (Nat.le_trans HBk.out.two.size HgD.out.size) htwT.size)
          clear Htk hfoD hG hfo2 hciT hcutT hpiT htwT hrc
          go_wp2_with (at_builtin; refine wpFr_appends rfl _ _ rfl w7.heap.size wD.heap.size _ _ F1 G1 rfl rfl HfoT.out Hfo2.out hGl Hsz.out ?_)
          intro v8 w8 hfo8 hg8
          have HBk8 := Lib.hid (BkI.next hrT HF.out HBk.out.two HgD.out Hfo.out Hrp.out HG.out HciT.out HcutT.out HpiT.out HtwT.out hfo8 hg8 HciD.out.row)
          clear hfo8 hg8 HfoT Hfo2 HG HciT HcutT HpiT HtwT HF Hrp HgD HrpD HciD Hfo HBk
          go_wp2
          go_roundw
          case rel => exact ⟨j + 1, g + r, by omega, by go_num, Hprog, HBk8⟩
          case measure => simp [intOf]; omega
        · have hjk2 : j = ks.length := by omega
          have hjI : ¬ (j : Int) < (ks.length : Int) := by omega
          obtain ⟨F1, F2, rest, hF, hfo, hci, hcut⟩ := HBk.out.ex
          have hg : g = T.length := by have h1 := Hgm.out; have h2 := HBk.out.le; have h3 := Hkl.out; omega
          rw [hg, List.drop_length] at hcut
          have hF2 := hcut.done
          rw [hF2, List.append_nil] at hF
          subst hF
          obtain ⟨A1, c1, rfl, _, _, hr1, _⟩ := hfo.reads
          obtain ⟨A2, c2, rfl, _, _, hr2, hA2⟩ := HFo7.out.reads
          have hr2' := hr2.twn HBk.out.two (fun g off e => Hne7.out g (hA2 g off e).2.2)
          have Hsame := Lib.hid (frsame_any A1 A2 c1 c2 F F _ Hbf.out Hbf.out (by omega) hr1 hr2')
          rw [show decide (F = F) = true from decide_eq_true rfl] at Hsame
          have HBz := Lib.hid (HBk.out.two.toBelow HB7.out Hp.out Hc.out HB7.out.size)
          clear hfo hci hcut hr1 hr2 hr2' hA2 hg Hgm HBk
          go_wp2_with fail
          refine Hsame.out.mono ?_
          rintro e w9 ⟨rfl, hb9⟩
          have HB9 := Lib.hid (HBz.out.trans (hb9.mono HBz.out.size))
          clear hb9 Hsame
          go_wp2
          go_ret
          exact ⟨rfl, HB9.out⟩
set_option maxHeartbeats 1000000 in
set_option maxRecDepth 100000 in
theorem frback_out (A B : Option Addr) (L c M d : Nat) (w : World) (hl : 5 < L ∨ 60 < M) : Calls Try.prog 3 #[.slice A L c, .slice B M d] w fun e w' => e = .returned (.bool true) ∧ Below w.heap.size w w' := by
  have Haw := Lib.hid (frawake_any w)
  by_cases h1 : 5 < L
  · have hd : decide (5 < (L : Int)) = true := decide_eq_true (by omega)
    go_enter Try.func3, Try.ntmps3
    go_wp2_with fail
    refine Haw.out.mono ?_
    rintro e w1 ⟨rfl, hb1⟩
    have HB1 := Lib.hid hb1
    clear hb1
    go_wp2
    go_ret
    exact ⟨rfl, HB1.out⟩
  · have hd : decide (5 < (L : Int)) = false := decide_eq_false (by omega)
    have hd2 : decide (60 < (M : Int)) = true := decide_eq_true (by omega)
    go_enter Try.func3, Try.ntmps3
    go_wp2_with fail
    refine Haw.out.mono ?_
    rintro e w1 ⟨rfl, hb1⟩
    have HB1 := Lib.hid hb1
    clear hb1
    go_wp2
    go_ret
    exact ⟨rfl, HB1.out⟩
end Go.Proofs.Ytckmdeiahpijcaa
