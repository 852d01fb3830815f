/-
  Layer 24 (frame): FrameSealed, by its walk: true for every slice of frames, of texts, of bytes. Conditions: none.
-/
import Derived.Test.YtckmdeiahpijcaaRu
import Derived.Test.YtckmdeiahpijcaaRq
namespace Go.Proofs.Ytckmdeiahpijcaa
open Go.RowKit

set_option linter.unusedSimpArgs false in
set_option maxHeartbeats 4000000 in
set_option maxRecDepth 100000 in
theorem frsealed_in (A B D : Option Addr) (ca cb cd : Nat) (xs : List Bm.Frm) (os : List ByteArray) (bs : List Nat) (w : World) (hl : xs.length ≤ 4) (hl2 : os.length ≤ 4) (hl3 : bs.length = os.length) (hx : ArgFr w A xs.length ca xs) (ho : ArgStr w B os.length cb os) (hy : ArgB w D bs.length cd bs) :
    Calls Try.prog 6 #[.slice A xs.length ca, .slice B os.length cb, .slice D bs.length cd] w fun e w' => e = .returned (.bool true) ∧ Below w.heap.size w w' := by
  have Haw := Lib.hid (frawake_any w)
  have hd : decide (4 < (xs.length : Int)) = false := decide_eq_false (by omega)
  have hd2 : decide (4 < (os.length : Int)) = false := decide_eq_false (by omega)
  have hd3 : ((bs.length : Int) != (os.length : Int)) = false := by rw [hl3]; simp
  obtain ⟨_, hok, hcell, _, _⟩ := hx
  have Hok := Lib.hid hok
  have Hcell := Lib.hid hcell
  have Hos : Hid (∀ j (h : j < os.length), ∃ g off, B = some ⟨g, off, none⟩ ∧ g < w.heap.size ∧ w.cell? ⟨g, off + j, none⟩ = some (.string os[j])) := Lib.hid (fun j h => by
    obtain ⟨g, off, e1, e2⟩ := reads_str ho.2.2.1 (by omega)
    exact ⟨g, off, e1, World.block_lt_of_cell? w _ (e2 j h), e2 j h⟩)
  have Hbs : Hid (∀ j (h : j < bs.length), bs[j] < 256 ∧ ∃ g off, D = some ⟨g, off, none⟩ ∧ g < w.heap.size ∧ w.cell? ⟨g, off + j, none⟩ = some (.int .u8 (bs[j] : Int))) := Lib.hid (fun j h => by
    refine ⟨hy.2.1 _ (List.getElem_mem h), ?_⟩
    obtain ⟨g, off, e1, e2⟩ := hy.2.2.1 (fun e => by have := congrArg List.length e; rw [u8s_length, List.length_nil] at this; omega)
    have e3 := e2 j (by rw [u8s_length]; exact h)
    rw [u8s_get? bs j h] at e3
    exact ⟨g, off, e1, World.block_lt_of_cell? w _ e3, e3⟩)
  clear hok hcell ho hy
  go_enter Try.func6, Try.ntmps6
  go_wp2_with fail
  refine Haw.out.mono ?_
  rintro e w1 ⟨rfl, hb1⟩
  have HB1 := Lib.hid hb1
  have Hnew := Lib.hid (ppnew_any 2048 w1)
  rw [show Bm.mostN 2048 = 2048 by decide] at Hnew
  clear hb1 Haw
  go_wp2_with fail
  refine Hnew.out.mono ?_
  rintro e w2 ⟨p, rfl, hP2, hp, hb2⟩
  have HB2 := Lib.hid (HB1.out.trans (hb2.mono HB1.out.size))
  have Hp := Lib.hid (Nat.le_trans HB1.out.size hp)
  have HP2 := Lib.hid hP2
  have HB2s : Hid (w.heap.size ≤ w2.heap.size) := Lib.hid HB2.out.size
  clear hP2 hb2 hp Hnew HB1 hd hd2 hd3
  go_wp2
  go_loopw [8, 9, 45] (fun s8 v i wr => ∃ (j : Nat) (F : List Bm.Frm), j ≤ xs.length ∧ i = .int .i64 (j : Int) ∧ s8 = .string (strOf (Bm.flatF F)) ∧ Hid (F.length ≤ j ∧ ∀ f ∈ F, Bm.FrOk f ∧ f.2.length ≤ 60) ∧ Hid (FrO wr w2.heap.size v F) ∧ Hid (PI wr p [] (Bm.itms true (Bm.flatF F)) 2048 Bm.H0 0) ∧ Hid (Below w.heap.size w wr) ∧ Hid (w2.heap.size ≤ wr.heap.size)) (fun _ _ i _ => xs.length - (intOf i).toNat)
  case atStart => exact ⟨0, [], Nat.zero_le _, rfl, rfl, Lib.hid ⟨Nat.le_refl _, fun f hf => by cases hf⟩, Lib.hid (frO_nil _ _), HP2, HB2, Lib.hid (Nat.le_refl _)⟩
  case round =>
    obtain ⟨j, F, hj, rfl, rfl, HF, HFo, HP, HBr, Hs3⟩ := hrel
    clear HP2 HB2
    by_cases hjl : j < xs.length
    · have hjI : (j : Int) < (xs.length : Int) := by omega
      obtain ⟨g, off, rfl, hg, hc⟩ := Hcell.out (by omega)
      obtain ⟨q0, q1⟩ := hc j hjl
      have q0 := (HBr.out.cell (p := ⟨g, off + j * 2, none⟩) hg).trans q0
      have q1 := (HBr.out.cell (p := ⟨g, off + j * 2 + 1, none⟩) hg).trans q1
      obtain ⟨⟨o0, o00⟩, o1, o2⟩ := Hok.out xs[j] (List.getElem_mem hjl)
      clear hc
      generalize xs[j] = ff at *
      obtain ⟨k, l⟩ := ff
      dsimp only at q0 q1 o0 o00 o1 o2
      have hsz := strOf_size l
      have Hlt := Lib.hid o1
      clear o1 o2
      go_upto_region 11 with fail
      have hda : Below wr.heap.size wr (wr.alloc (.cells #[.int .i64 k, .string (strOf l)] 30)) := (Below.refl _ _).alloc (Nat.le_refl _) _
      have HR1 : Hid (Row (wr.alloc (.cells #[.int .i64 k, .string (strOf l)] 30)) wr.heap.size 30 [.int .i64 k, .string (strOf l)]) := Lib.hid (Row.new wr _ _)
      have HFo1 := Lib.hid (HFo.out.below hda)
      have HP1 := Lib.hid (HP.out.below hda)
      have HB1 := Lib.hid (HBr.out.trans (hda.mono HBr.out.size))
      have Hs1 : Hid (w2.heap.size ≤ (wr.alloc (.cells #[.int .i64 k, .string (strOf l)] 30)).heap.size) := Lib.hid (Nat.le_trans Hs3.out hda.size)
      clear hda HFo HP HBr Hs3 q0 q1 hg
      generalize wr.alloc (.cells #[.int .i64 k, .string (strOf l)] 30) = wA at *
      generalize wr.heap.size = fB at *
      have e0 := HR1.out.cell 0
      have e1 := HR1.out.cell 1
      simp only [List.getElem?_cons_zero, List.getElem?_cons_succ] at e0 e1
      by_cases h300 : 60 < l.length
      · have h300I : (60 : Int) < (l.length : Int) := by omega
        generalize strOf l = tl at *
        generalize l.length = L at *
        go_wp2
        go_ret
        exact ⟨rfl, HB1.out⟩
      · have h300I : ¬ (60 : Int) < (l.length : Int) := by omega
        by_cases hk : k < 1 ∨ 10 < k
        · have Henc := Lib.hid (fun W => frenc_kind k (strOf l) W hk)
          clear hk
          generalize strOf l = tl at *
          generalize l.length = L at *
          go_wp2_with fail
          refine (Henc.out wA).mono ?_
          rintro e w5 ⟨rfl, hb5⟩
          have HFo5 := Lib.hid (HFo1.out.below hb5)
          have HP5 := Lib.hid (HP1.out.below hb5)
          have HB5 := Lib.hid (HB1.out.trans (hb5.mono HB1.out.size))
          have Hs5 : Hid (w2.heap.size ≤ w5.heap.size) := Lib.hid (Nat.le_trans Hs1.out hb5.size)
          clear hb5 e0 e1 HR1 HFo1 HP1 HB1 Hs1 Henc
          go_wp2
          go_roundw
          case rel => exact ⟨j + 1, F, by omega, by go_num, rfl, Lib.hid ⟨by have := HF.out.1; omega, HF.out.2⟩, HFo5, HP5, HB5, Hs5⟩
          case measure => simp [intOf]; omega
        · have hfk : Bm.FrOk (k, l) := ⟨by dsimp only; omega, by dsimp only; omega, by dsimp only; omega, Hlt.out⟩
          have Hfk := Lib.hid hfk
          have Henc := Lib.hid (fun W => frenc_yes (k, l) W hfk)
          have hfl := flat_len F 60 (fun f hf => (HF.out.2 f hf).2)
          have hbl : (Bm.bytesF (k, l)).length = l.length + 11 := Bm.bytesF_length _
          have hblt := Bm.bytesF_lt hfk
          have HF2 : Hid ((F ++ [(k, l)]).length ≤ j + 1 ∧ ∀ f ∈ F ++ [(k, l)], Bm.FrOk f ∧ f.2.length ≤ 60) := Lib.hid ⟨by have := HF.out.1; rw [List.length_append, List.length_singleton]; omega, fun f hf => by
            rcases List.mem_append.1 hf with h1 | h1
            · exact HF.out.2 f h1
            · rw [List.mem_singleton.1 h1]; exact ⟨Hfk.out, by dsimp only; omega⟩⟩
          have hfe : Bm.flatF F ++ Bm.bytesF (k, l) = Bm.flatF (F ++ [(k, l)]) := by rw [Bm.flatF_append]; simp [Bm.flatF]
          have Hsend := Lib.hid (fun W hW => ppsend_yes p [] (Bm.itms true (Bm.flatF F)) 2048 Bm.H0 0 (Bm.bytesF (k, l)) W (by rw [itms_len, List.length_nil, hbl]; have := HF.out.1; omega) hblt hW)
          rw [← Bm.itms_append, hfe] at Hsend
          have hadd := fun W => str_add (Bm.flatF F) (Bm.bytesF (k, l)) (by rw [hbl]; have := HF.out.1; omega) W
          rw [hfe] at hadd
          have hF1 : F.length ≤ 1000000 := by have := HF.out.1; omega
          clear hk hfl hbl hblt hfk hfe
          unfold frV at Henc
          dsimp only at Henc
          generalize strOf (Bm.bytesF (k, l)) = tb at *
          generalize hsf : strOf (Bm.flatF (F ++ [(k, l)])) = sf at *
          have Hsf := Lib.hid hsf
          clear hsf
          generalize strOf (Bm.flatF F) = s0 at *
          generalize htl : strOf l = tl at *
          have Htl := Lib.hid htl
          clear htl
          generalize l.length = L at *
          go_wp2_with fail
          refine (Henc.out wA).mono ?_
          rintro e w5 ⟨rfl, hb5⟩
          have HR5 := Lib.hid (row_below HR1.out hb5)
          have HFo5 := Lib.hid (HFo1.out.below hb5)
          have HP5 := Lib.hid (HP1.out.below hb5)
          have HB5 := Lib.hid (HB1.out.trans (hb5.mono HB1.out.size))
          have Hs5 : Hid (w2.heap.size ≤ w5.heap.size) := Lib.hid (Nat.le_trans Hs1.out hb5.size)
          clear hb5 e0 e1 HR1 HFo1 HP1 HB1 Hs1
          go_wp2_with fail
          refine (Hsend.out w5 HP5.out).mono ?_
          rintro e w8 ⟨rfl, hp8, hg8⟩
          obtain ⟨CP, hrp⟩ := HP5.out.row
          have hne : fB ≠ p := fun e => by
            have h1 := HR5.out
            rw [e] at h1
            unfold Row at h1 hrp
            rw [hrp] at h1
            injection h1 with h1
            injection h1 with _ h1
            exact absurd h1 (by decide)
          have HR8 := Lib.hid (HR5.out.keep (hg8.block fB HR5.out.lt (by intro e; injection e with e; exact hne e)))
          have HFo8 := Lib.hid (HFo5.out.grown hg8 hrp (by decide))
          have HP8 := Lib.hid hp8
          have HB8 := Lib.hid (HB5.out.trans (below_grown hg8 Hp.out HB5.out.size))
          have Hs8 : Hid (w2.heap.size ≤ w8.heap.size) := Lib.hid (Nat.le_trans Hs5.out hg8.size)
          clear hp8 hg8 hrp hne HR5 HFo5 HP5 HB5 Hs5 Hsend
          have e0 := HR8.out.cell 0
          have e1 := HR8.out.cell 1
          simp only [List.getElem?_cons_zero, List.getElem?_cons_succ] at e0 e1
          have htl := Htl.out
          subst htl
          go_wp2_with (at_builtin; refine wpFr_append (k, l) rfl _ _ rfl w2.heap.size _ F rfl HFo8.out w8.heap.size rfl rfl hF1 Hs8.out ?_)
          intro v9 w9 hfo9 hb9 hk9 hs9
          obtain ⟨CP, hrp⟩ := HP8.out.row
          have HFo9 := Lib.hid hfo9
          have HP9 := Lib.hid (HP8.out.keep (hk9 p HP8.out.lt (HFo8.out.ne hrp (by decide))))
          have HB9 := Lib.hid (HB8.out.trans (hb9.mono HB2s.out))
          have Hs9 : Hid (w2.heap.size ≤ w9.heap.size) := Lib.hid (Nat.le_trans Hs8.out hs9)
          clear hfo9 hb9 hk9 hs9 hrp HFo8 HP8 HB8 Hs8 e0 e1 HR8
          go_wp2
          go_roundw
          case rel => exact ⟨j + 1, F ++ [(k, l)], by omega, by go_num, by rw [Hsf.out], HF2, HFo9, HP9, HB9, Hs9⟩
          case measure => simp [intOf]; omega
    · have hjI : ¬ (j : Int) < (xs.length : Int) := by omega
      have hfl := flat_len F 60 (fun f hf => (HF.out.2 f hf).2)
      have HFk : Hid (∀ f ∈ F, Bm.FrOk f) := Lib.hid (fun f hf => (HF.out.2 f hf).1)
      have hFl : F.length ≤ 4 := by have := HF.out.1; omega
      obtain ⟨S, hS⟩ : ∃ S, S = Bm.flatF F := ⟨_, rfl⟩
      rw [← hS] at HP hfl ⊢
      have hSl : S.length ≤ 284 := by omega
      have HS := Lib.hid hS
      have Hne0 : Hid (∀ q, Value.ownBlock u9 = some q → q ≠ p) := Lib.hid (fun q hq => by
        obtain ⟨CP, hrp⟩ := HP.out.row
        exact fun e => HFo.out.ne hrp (by decide) (by rw [← e]; exact hq))
      have Hlo0 : Hid (∀ q, Value.ownBlock u9 = some q → q < wr.heap.size) := Lib.hid (fun q hq => (HFo.out.lt q hq).2)
      clear hfl HF Hcell Hok hS
      have HP0 : Hid (∃ kc kf, PI wr p kc kf 2048 Bm.H0 0 ∧ sealedOf (kc ++ kf) = S ∧ (kc ++ kf).length ≤ 284 + 100 * 0) := Lib.hid ⟨[], _, HP.out, by rw [List.nil_append]; exact sealedOf_sent S, by rw [List.nil_append, itms_len]; omega⟩
      obtain ⟨wB, hwB⟩ : ∃ wB, wB = wr := ⟨_, rfl⟩
      have HFoB : Hid (FrO wB w2.heap.size u9 F) := Lib.hid (by rw [hwB]; exact HFo.out)
      have HloB : Hid (∀ q, Value.ownBlock u9 = some q → q < wB.heap.size) := Lib.hid (by rw [hwB]; exact Hlo0.out)
      have HgB : Hid (wB.grownBy wr (some p)) := Lib.hid (by rw [hwB]; exact grown_refl _ _)
      clear HP HFo Hlo0 hwB Hs3
      go_wp2
      go_loopw [73] (fun i wx => ∃ j : Nat, j ≤ os.length ∧ i = .int .i64 (j : Int) ∧ Hid (∃ kc kf, PI wx p kc kf 2048 Bm.H0 0 ∧ sealedOf (kc ++ kf) = S ∧ (kc ++ kf).length ≤ 284 + 100 * j) ∧ Hid (wB.grownBy wx (some p)) ∧ Hid (Below w.heap.size w wx)) (fun i _ => os.length - (intOf i).toNat)
      case atStart => exact ⟨0, Nat.zero_le _, rfl, HP0, HgB, HBr⟩
      case round =>
        obtain ⟨j, hj2, rfl, HPx, Hgx, HBx⟩ := hrel
        clear HP0 HgB HBr
        by_cases hjl2 : j < os.length
        · have hjI2 : (j : Int) < (os.length : Int) := by omega
          obtain ⟨g, off, rfl, hg, hc⟩ := Hos.out j hjl2
          obtain ⟨hb8, g2, off2, rfl, hg2, hc2⟩ := Hbs.out j (by omega)
          have q0 := (HBx.out.cell (p := ⟨g, off + j, none⟩) hg).trans hc
          have q1 := (HBx.out.cell (p := ⟨g2, off2 + j, none⟩) hg2).trans hc2
          have hjb : (j : Int) < (bs.length : Int) := by omega
          generalize os[j] = tx at *
          generalize bs[j] = kk at *
          have hwk : IntKind.i64.wrap (kk : Int) = (kk : Int) := by rw [IntKind.wrap_i64]; omega
          by_cases h100 : 100 < tx.size
          · have h100I : (100 : Int) < (tx.size : Int) := by omega
            go_wp2
            go_ret
            exact ⟨rfl, HBx.out⟩
          · have h100I : ¬ (100 : Int) < (tx.size : Int) := by omega
            obtain ⟨tl, rfl, htl⟩ := of_string tx
            rw [strOf_size] at h100 h100I
            have hsz2 := strOf_size tl
            obtain ⟨kc, kf, hpi, hse, hln⟩ := HPx.out
            have Hde := Lib.hid (ppdel_any p kc kf 2048 Bm.H0 0 (kk : Int) _ _ rfl hpi)
            generalize Bm.comeN (kk : Int) kf.length = r at *
            have hse2 : sealedOf ((kc ++ kf.take r) ++ kf.drop r) = S := by rw [List.append_assoc, List.take_append_drop]; exact hse
            have hln2 : (kc ++ kf.take r).length + (kf.drop r).length ≤ 284 + 100 * j := by rw [← List.length_append, List.append_assoc, List.take_append_drop]; exact hln
            have Hinj := Lib.hid (fun W hW => ppinj_yes p (kc ++ kf.take r) (kf.drop r) 2048 Bm.H0 0 tl W (by omega) htl hW)
            have HPn : Hid (sealedOf (((kc ++ kf.take r) ++ Bm.itms false tl) ++ kf.drop r) = S ∧ (((kc ++ kf.take r) ++ Bm.itms false tl) ++ kf.drop r).length ≤ 284 + 100 * (j + 1)) := Lib.hid ⟨by
              rw [sealedOf_append, sealedOf_append, sealedOf_put, List.append_nil, ← sealedOf_append]; exact hse2, by
              rw [List.length_append, List.length_append (bs := Bm.itms false tl), itms_len]; omega⟩
            clear hpi hse hln hse2 hln2 HPx htl h100
            generalize strOf tl = ts at *
            generalize tl.length = L at *
            go_wp2_with fail
            refine Hde.out.mono ?_
            rintro e wD ⟨rfl, hpD, hgD⟩
            have HinD := Lib.hid (Hinj.out wD hpD)
            have HgD := Lib.hid (Hgx.out.trans hgD)
            have HBD := Lib.hid (HBx.out.trans (below_grown hgD Hp.out HBx.out.size))
            clear hpD hgD Hgx HBx Hde Hinj q0 q1
            go_wp2_with fail
            refine HinD.out.mono ?_
            rintro e wI ⟨rfl, hpI, hgI⟩
            have HPI : Hid (∃ kc kf, PI wI p kc kf 2048 Bm.H0 0 ∧ sealedOf (kc ++ kf) = S ∧ (kc ++ kf).length ≤ 284 + 100 * (j + 1)) := Lib.hid ⟨_, _, hpI, HPn.out.1, HPn.out.2⟩
            have HgI := Lib.hid (HgD.out.trans hgI)
            have HBI := Lib.hid (HBD.out.trans (below_grown hgI Hp.out HBD.out.size))
            clear hpI hgI HgD HBD HinD
            go_wp2
            go_roundw
            case rel => exact ⟨j + 1, by omega, by go_num, HPI, HgI, HBI⟩
            case measure => simp [intOf]; omega
        · have hjI2 : ¬ (j : Int) < (os.length : Int) := by omega
          obtain ⟨kc, kf, hpi, hse, hln⟩ := HPx.out
          have hcome : Bm.comeN 2048 kf.length = kf.length := by
            have h1 := Bm.come_le 2048 kf.length
            rw [List.length_append] at hln
            omega
          have Hde := Lib.hid (ppdel_any p kc kf 2048 Bm.H0 0 2048 _ _ hcome hpi)
          rw [List.take_length, List.drop_length] at Hde
          have Hse := Lib.hid hse
          have Hln : Hid ((kc ++ kf).length ≤ 684) := Lib.hid (by omega)
          clear hpi hse hln hcome HPx Hos Hbs
          generalize kc ++ kf = kq at *
          generalize kf.length = kn at *
          go_wp2_with fail
          refine Hde.out.mono ?_
          rintro e wD ⟨rfl, hpD, hgD⟩
          have HPD := Lib.hid hpD
          have HgD := Lib.hid (Hgx.out.trans hgD)
          have HBD := Lib.hid (HBx.out.trans (below_grown hgD Hp.out HBx.out.size))
          clear hpD hgD Hgx HBx Hde
          go_wp2_with fail
          refine (frnew_any wD).mono ?_
          rintro e w7 ⟨c, rfl, hc7, hcl, hb7⟩
          have hpc : p ≠ c := by have := HPD.out.lt; omega
          have HP7 := Lib.hid (HPD.out.below hb7)
          have HB7 := Lib.hid (HBD.out.trans (hb7.mono HBD.out.size))
          have Hc : Hid (w.heap.size ≤ c) := Lib.hid (Nat.le_trans HBD.out.size hcl)
          have hfoD : FrO wD w2.heap.size u9 F := HFoB.out.keepB fun q hq => HgD.out.block q (HloB.out q hq) (fun e => by injection e with e; exact Hne0.out q hq e)
          have HFo7 := Lib.hid (hfoD.below hb7)
          have HSl : Hid (SlI w7 p c F S w7 [] 0 0) := Lib.hid ⟨Nat.zero_le _, Nat.zero_le _, (fun x hx => by cases hx), ⟨kq, [], by rw [List.take_zero]; exact HP7.out, by rw [List.drop_zero]; exact Hse.out, hc7, rfl, by rw [List.length_nil]; have := Hln.out; omega⟩, Twn.refl _ _ _⟩
          have Hnec : Hid (∀ q, Value.ownBlock u9 = some q → q ≠ c) := Lib.hid (fun q hq e => by
            obtain ⟨CC, hrc⟩ := hc7.row
            exact HFo7.out.ne hrc (by decide) (by rw [← e]; exact hq))
          obtain ⟨A2, c2, hv2, _, _, hr2, hA2⟩ := HFo7.out.reads
          have Hr2 := Lib.hid hr2
          have HA2 : Hid (∀ g off, A2 = some ⟨g, off, none⟩ → g ≠ p ∧ g ≠ c) := Lib.hid (fun g off e => ⟨Hne0.out g (hA2 g off e).2.2, Hnec.out g (hA2 g off e).2.2⟩)
          subst hv2
          clear hfoD hc7 hcl hb7 HPD HgD HBD HP7 hr2 hA2 HFo7 HFoB HloB Hne0 Hnec Hse Hln
          go_wp2
          go_loopw [17, 18, 19] (fun s17 s18 s19 wz => ∃ (all : List Nat) (taken seals : Nat), s17 = .string (strOf all) ∧ s18 = .int .i64 (taken : Int) ∧ s19 = .int .i64 (seals : Int) ∧ Hid (SlI w7 p c F S wz all taken seals)) (fun _ _ _ wz => (intOf ((wz.cell? ⟨p, 4097, none⟩).getD (.bool false))).toNat)
          case atStart => exact ⟨[], 0, 0, rfl, rfl, rfl, HSl⟩
          case round =>
            obtain ⟨all, taken, seals, rfl, rfl, rfl, HI⟩ := hrel
            clear HSl
            obtain ⟨htk, hslz, hlta, ⟨kc, rest, hpi, hse, hci, hall, hln⟩, htw⟩ := HI.out
            have hm0 := PI.came hpi
            have HBw := Lib.hid (htw.toBelow HB7.out Hp.out Hc.out HB7.out.size)
            rcases kc with _ | ⟨⟨x, sd⟩, kc⟩
            · have Htake := Lib.hid (pptake_none p [] 2048 _ _ _ hpi)
              clear hpi hse hci hall hln htw hm0 HI
              go_wp2_with fail
              refine Htake.out.mono ?_
              rintro e w8 ⟨rfl, hb8⟩
              have HB8 := Lib.hid (HBw.out.trans (hb8.mono HBw.out.size))
              clear hb8 Htake
              unfold ppB
              go_wp2
              go_ret
              exact ⟨rfl, HB8.out.alloc HB8.out.size _⟩
            · have hx : x < 256 := by
                obtain ⟨_, _, _, _, _, _, _, h1, _⟩ := hpi
                exact h1 (x, sd) (by simp)
              rw [List.length_cons] at hln
              obtain ⟨sl, seals', htake, hse', hsl', hseq, hsum⟩ := take_sealed _ p x sd kc S seals hpi hse hslz (by omega)
              have Htake := Lib.hid htake
              have hop : Bm.OpenR rest := by
                obtain ⟨_, _, h1, _⟩ := hci
                exact h1
              have hrlt : ∀ y ∈ rest ++ [x], y < 256 := by
                obtain ⟨_, _, _, _, h1, _⟩ := hci
                exact append_lt h1 (by simp; omega)
              have halt : ∀ y ∈ all ++ [x], y < 256 := append_lt hlta (by simp; omega)
              have hal1 : (all ++ [x]).length = all.length + 1 := by rw [List.length_append, List.length_singleton]
              obtain ⟨O, hO⟩ : ∃ O, O = feedO (rest ++ [x]) (all ++ [x]) sd sl := ⟨_, rfl⟩
              have Hfd := Lib.hid (fun W hW => frfeed_any c x sl sd all rest W hx (by omega) (hci.keep hW))
              rw [← hO] at Hfd
              obtain ⟨⟨fk, fb⟩, n, er, hF⟩ : ∃ f n er, (f, n, er) = Bm.firstF (rest ++ [x]) := ⟨_, _, _, rfl⟩
              have Hcase : Hid ((∃ e', e' ≠ 0 ∧ O = (Bm.zfr, false, e')) ∨ O = (Bm.zfr, false, 0) ∨ (O = ((fk, fb), true, 0) ∧ sd = true ∧ sl = Bm.sumOf (all ++ [x]) ∧ er = 0 ∧ n ≠ 0)) := Lib.hid (by
                by_cases her : er = 0
                · by_cases hn : n = 0
                  · exact .inr (.inl (hO.trans (feedO_more hF her hn)))
                  · by_cases hs : sd = true ∧ sl = Bm.sumOf (all ++ [x])
                    · exact .inr (.inr ⟨hO.trans (feedO_yes hF her hn hs), hs.1, hs.2, her, hn⟩)
                    · exact .inl ⟨4, by decide, hO.trans (feedO_no hF her hn hs)⟩
                · exact .inl ⟨er, her, hO.trans (feedO_bad hF her)⟩)
              have hadd := fun W => str_add all [x] (by simp; omega) W
              have Hhall : Hid (all ++ [x] = Bm.flatF (F.take taken) ++ rest ++ [x]) := Lib.hid (by rw [hall])
              have Hhop := Lib.hid hop
              have Hrlt := Lib.hid hrlt
              have Halt := Lib.hid halt
              have Hci := Lib.hid hci
              have Htw := Lib.hid htw
              have Hse' := Lib.hid hse'
              have Hsum := Lib.hid hsum
              have Hm0 := Lib.hid hm0
              have HF := Lib.hid hF
              have Hseq := Lib.hid hseq
              have Hal1 := Lib.hid hal1
              have Hpl := Lib.hid hpi.lt
              have Hflt : Hid (∀ y ∈ fb, y < 256) := Lib.hid (by
                have h1 := firstF_lt (rest ++ [x]) hrlt
                rw [← hF] at h1
                exact h1)
              clear htake hop hrlt halt hal1 hO hci hpi hse hall htw hse' hsum hm0 hF hlta hseq HI
              generalize has : strOf (all ++ [x]) = aS at *
              have Has := Lib.hid has
              generalize hs1 : strOf [x] = s1 at *
              have Hs1 := Lib.hid hs1
              clear has hs1
              go_wp2_with fail
              refine Htake.out.mono ?_
              rintro e w1 ⟨rfl, hp1, hg1⟩
              have Hp1 := Lib.hid hp1
              have Hg1 := Lib.hid hg1
              clear hp1 hg1 Htake
              unfold ppB
              go_upto_region 33 with fail
              have hga : _ := grown_alloc Hg1.out (.cells #[.int .u8 (x : Int), .int .u64 (sl : Int), .bool sd] 47)
              have Hga := Lib.hid hga
              have Hpa := Lib.hid (Hp1.out.keep (Below.heap_alloc w1 (.cells #[.int .u8 (x : Int), .int .u64 (sl : Int), .bool sd] 47) p Hp1.out.lt))
              have Hra : Hid (Row (w1.alloc (.cells #[.int .u8 (x : Int), .int .u64 (sl : Int), .bool sd] 47)) w1.heap.size 47 [.int .u8 (x : Int), .int .u64 (sl : Int), .bool sd]) := Lib.hid (Row.new w1 _ _)
              clear hga Hp1 Hg1
              generalize w1.alloc (.cells #[.int .u8 (x : Int), .int .u64 (sl : Int), .bool sd] 47) = wa at *
              generalize w1.heap.size = BB at *
              have r0 := Hra.out.cell 0
              have r2 := Hra.out.cell 2
              simp only [List.getElem?_cons_zero, List.getElem?_cons_succ] at r0 r2
              have hconv := conv_new wa x hx
              rw [Hs1.out] at hconv
              go_upto_region 34 with fail
              have Hgb := Lib.hid (grown_alloc Hga.out (.cells #[.int .u8 (x : Int)] 5))
              have Hpb := Lib.hid (Hpa.out.keep (Below.heap_alloc wa (.cells #[.int .u8 (x : Int)] 5) p Hpa.out.lt))
              have Hrb := Lib.hid (Hra.out.alloc (.cells #[.int .u8 (x : Int)] 5))
              clear Hga Hpa Hra r0 r2 hconv
              generalize wa.alloc (.cells #[.int .u8 (x : Int)] 5) = wb at *
              have r2 := Hrb.out.cell 2
              simp only [List.getElem?_cons_zero, List.getElem?_cons_succ] at r2
              obtain ⟨wq, hwq⟩ : ∃ wq, wq = wb := ⟨_, rfl⟩
              go_upto_if 109 with fail
              go_cut [19] (fun s19 wx => s19 = .int .i64 (seals' : Int) ∧ wx = wq)
              case first =>
                cases sd with
                | false =>
                  go_wp2
                  go_meet
                  exact ⟨congrArg (Value.int .i64) (by have := Hseq.out; simp at this; omega), hwq.symm⟩
                | true =>
                  have h64 : IntKind.i64.wrap ((seals : Int) + 1) = (seals : Int) + 1 := by rw [IntKind.wrap_i64]; omega
                  go_wp2
                  go_meet
                  exact ⟨congrArg (Value.int .i64) (by have := Hseq.out; simp at this; omega), hwq.symm⟩
              case rest =>
              obtain ⟨rfl, hwc⟩ := hcut
              subst hwc
              subst hwq
              clear r2
              have r0 := Hrb.out.cell 0
              have r1 := Hrb.out.cell 1
              have r2 := Hrb.out.cell 2
              simp only [List.getElem?_cons_zero, List.getElem?_cons_succ] at r0 r1 r2
              have hcl : c < _ := Hci.out.lt
              have hcb := Hgb.out.block c hcl (by intro e; injection e with e; exact hpc e.symm)
              have Hfd2 := Lib.hid (Hfd.out _ hcb)
              have Htw2 := Lib.hid (Htw.out.trans (Twn.one Hgb.out))
              clear Hfd hcl hcb
              unfold ppB at Hfd2
              go_wp2_with fail
              refine Hfd2.out.mono ?_
              rintro e w3 ⟨rfl, hfw, hg3⟩
              have Hp3 := Lib.hid (Hpb.out.keep (hg3.block p Hpb.out.lt (by intro e; injection e with e; exact hpc e)))
              have Htw3 := Lib.hid (Htw2.out.trans (Twn.other hg3))
              have Hfw := Lib.hid hfw
              clear hfw hg3 Hfd2 Htw2 Hpb Hgb Hrb Htw Hci r0 r1 r2
              have HB3 := Lib.hid (Htw3.out.toBelow HB7.out Hp.out Hc.out HB7.out.size)
              rcases Hcase.out with ⟨e', he', rfl⟩ | rfl | ⟨rfl, hsd, hsl2, her, hn⟩
              · have heI : ((e' : Int) != 0) = true := by simp; omega
                unfold feedV frV Bm.zfr
                dsimp only
                clear Hcase Hfw he'
                go_wp2
                go_ret
                exact ⟨rfl, HB3.out.alloc HB3.out.size _⟩
              · have Hc3 := Lib.hid (feedW_part Hfw.out)
                unfold feedV frV Bm.zfr
                dsimp only
                clear Hcase Hfw
                have hb4 : Below w3.heap.size w3 (w3.alloc (.cells #[.int .i64 0, .string (strOf [])] 30)) := (Below.refl _ _).alloc (Nat.le_refl _) _
                have hI : SlI w7 p c F S (w3.alloc (.cells #[.int .i64 0, .string (strOf [])] 30)) (all ++ [x]) taken seals' := ⟨htk, hsl', Halt.out, ⟨kc, rest ++ [x], Hp3.out.below hb4, Hse'.out, Hc3.out.keep (hb4.block c Hc3.out.lt), by rw [Hhall.out, List.append_assoc], by rw [Hal1.out]; omega⟩, Htw3.out.trans (Twn.below hb4)⟩
                go_wp2
                go_roundw
                case rel => exact ⟨all ++ [x], taken, seals', by rw [Has.out], rfl, rfl, Lib.hid hI⟩
                case measure =>
                  obtain ⟨kc2, rest2, hpi2, hse2, _⟩ := hI.ex
                  have h1 := PI.came (Hp3.out.below hb4)
                  rw [h1, Hm0.out]
                  first | (simp [intOf]; done) | (simp [intOf]; omega)
              · have Hc3 := Lib.hid (feedW_frame Hfw.out)
                have Hsum2 : Hid (sl = Bm.sumOf (S.take seals')) := Lib.hid (Hsum.out hsd)
                subst hsd
                unfold feedV frV
                dsimp only
                clear Hcase Hfw
                go_upto_region 37 with fail
                have hb4 : Below w3.heap.size w3 (w3.alloc (.cells #[.int .i64 fk, .string (strOf fb)] 30)) := (Below.refl _ _).alloc (Nat.le_refl _) _
                have Hp5 := Lib.hid (Hp3.out.below hb4)
                have Hc5 := Lib.hid (Hc3.out.keep (hb4.block c Hc3.out.lt))
                have Htw5 := Lib.hid (Htw3.out.trans (Twn.below hb4))
                have HB5 := Lib.hid (HB3.out.trans (hb4.mono HB3.out.size))
                have HR5 : Hid (Row (w3.alloc (.cells #[.int .i64 fk, .string (strOf fb)] 30)) w3.heap.size 30 [.int .i64 fk, .string (strOf fb)]) := Lib.hid (Row.new w3 _ _)
                clear hb4 Hp3 Hc3 Htw3 HB3
                generalize w3.alloc (.cells #[.int .i64 fk, .string (strOf fb)] 30) = w5 at *
                generalize w3.heap.size = FB at *
                have hcut := fun W => str_to S seals' hsl' W
                have HSlt : Hid (∀ y ∈ S, y < 256) := Lib.hid (by rw [HS.out]; exact Bm.flatF_lt F HFk.out)
                have hbeq := strOf_beq (all ++ [x]) (S.take seals') Halt.out (take_lt HSlt.out _)
                rw [Has.out] at hbeq
                by_cases heq : all ++ [x] = S.take seals'
                · rw [decide_eq_true heq] at hbeq
                  obtain ⟨htl, hfe, hnx⟩ := sealed_next F HFk.out taken seals' rest x htk Hhop.out Hrlt.out HF.out her hn (by rw [← HS.out, ← Hhall.out]; exact heq)
                  have hr5 := Hr2.out.twn Htw5.out HA2.out
                  obtain ⟨g, off, hA, hg, hce⟩ := hr5 (by omega)
                  subst hA
                  obtain ⟨d0, d1⟩ := hce taken htl
                  rw [← hfe] at d0 d1
                  dsimp only at d0 d1
                  have z0 := HR5.out.cell 0
                  have z1 := HR5.out.cell 1
                  simp only [List.getElem?_cons_zero, List.getElem?_cons_succ] at z0 z1
                  have hguard := fr_guard
                  have hq2 : ∀ W, (binOp .neq 30 (.agg #[.int .i64 fk, .string (strOf fb)]) (.agg #[.int .i64 fk, .string (strOf fb)])).run Try.prog W = .ok (.bool false) W := fun W => by
                    have h1 := fr_neq (fk, fb) (fk, fb) W Hflt.out Hflt.out
                    rw [decide_eq_true rfl] at h1
                    exact h1
                  have hltI : decide ((F.length : Int) ≤ (taken : Int)) = false := decide_eq_false (by omega)
                  have hltI2 : (taken : Int) < (F.length : Int) := by omega
                  have hltN : ¬ F.length ≤ taken := by omega
                  have h64 : IntKind.i64.wrap ((taken : Int) + 1) = (taken : Int) + 1 := by rw [IntKind.wrap_i64]; omega
                  have Hnx := Lib.hid hnx
                  clear hnx hfe heq hce hr5 her hn
                  generalize strOf (S.take seals') = ts at *
                  go_wp2_with fail
                  go_quiet (fail)
                  have hI : SlI w7 p c F S (w5.drewN nq) (all ++ [x]) (taken + 1) seals' := ⟨by omega, hsl', Halt.out, ⟨kc, [], Hp5.out.keep rfl, Hse'.out, Hc5.out.keep rfl, by rw [Hhall.out]; exact Hnx.out, by rw [Hal1.out]; omega⟩, Htw5.out.trans ⟨rfl, rfl, rfl, Nat.le_refl _, fun _ _ _ _ => rfl⟩⟩
                  go_wp2
                  go_roundw
                  case rel => exact ⟨all ++ [x], taken + 1, seals', by rw [Has.out], by go_num, rfl, Lib.hid hI⟩
                  case measure =>
                    have h1 := PI.came Hp5.out
                    rw [World.cell?_drewN, h1, Hm0.out]
                    first | (simp [intOf]; done) | (simp [intOf]; omega)
                · rw [decide_eq_false heq] at hbeq
                  have Hs1' := Lib.hid (fun W => sof_any (all ++ [x]) W (by rw [Hal1.out]; omega) Halt.out)
                  have Hs2' := Lib.hid (fun W => sof_any (S.take seals') W (by rw [List.length_take]; omega) (take_lt HSlt.out _))
                  rw [← hsl2, Has.out] at Hs1'
                  rw [← Hsum2.out] at Hs2'
                  have hss : ((sl : Int) == (sl : Int)) = true := by simp
                  clear heq her hn
                  generalize strOf (S.take seals') = ts at *
                  go_wp2_with fail
                  refine wp_region_held_drew (S := (fun _ : World => True)) (by kernel_rfl) (by trivial) (fun hHeld => ?_)
                  refine wpAnyH_take (i := 0) (oi := { dst := some 128, op := Go.Op.move (Go.Operand.tmp 17), type := 9, pos := "law.go:210", after := #[], guard := none }) (v := ?_) rfl (by kernel_rfl) (by kernel_rfl) (by kernel_rfl) (fun _ _ _ h => h) (Or.inl ⟨by rfl, ?_⟩) (by assumption) ?_
                  rotate_left
                  · (intro w hSw; (try dsimp only at hSw); go_simp; (try with_reducible rfl))
                  try simp only [Act.put, List.setIfInBounds_toArray, List.set_cons_zero, List.set_cons_succ]
                  refine wpAnyH_take (i := 2) (oi := { dst := some 130, op := Go.Op.move (Go.Operand.tmp 8), type := 9, pos := "law.go:210", after := #[], guard := none }) (v := ?_) rfl (by kernel_rfl) (by kernel_rfl) (by kernel_rfl) (fun _ _ _ h => h) (Or.inl ⟨by rfl, ?_⟩) (by assumption) ?_
                  rotate_left
                  · (intro w hSw; (try dsimp only at hSw); go_simp; (try with_reducible rfl))
                  try simp only [Act.put, List.setIfInBounds_toArray, List.set_cons_zero, List.set_cons_succ]
                  refine wpAnyH_take (i := 3) (oi := { dst := some 131, op := Go.Op.move (Go.Operand.tmp 19), type := 3, pos := "law.go:210", after := #[], guard := none }) (v := ?_) rfl (by kernel_rfl) (by kernel_rfl) (by kernel_rfl) (fun _ _ _ h => h) (Or.inl ⟨by rfl, ?_⟩) (by assumption) ?_
                  rotate_left
                  · (intro w hSw; (try dsimp only at hSw); go_simp; (try with_reducible rfl))
                  try simp only [Act.put, List.setIfInBounds_toArray, List.set_cons_zero, List.set_cons_succ]
                  refine wpAnyH_take (i := 4) (oi := { dst := some 132, op := Go.Op.slice 9 (Go.Operand.tmp 130) none (some (Go.Operand.tmp 131)) none, type := 9, pos := "law.go:210", after := #[{ on := 2, ground := Go.Ground.data }, { on := 3, ground := Go.Ground.data }], guard := none }) (v := ?_) rfl (by kernel_rfl) (by kernel_rfl) (by kernel_rfl) (fun _ _ _ h => h) (Or.inl ⟨by rfl, ?_⟩) (by assumption) ?_
                  rotate_left
                  · (intro w hSw; (try dsimp only at hSw); go_simp; (try with_reducible rfl))
                  try simp only [Act.put, List.setIfInBounds_toArray, List.set_cons_zero, List.set_cons_succ]
                  refine wpAnyH_ready (rs := [1]) (by kernel_rfl) (by simp) ?_
                  refine AllReadyH.cons (o := { dst := some 129, op := Go.Op.call { callee := Go.Callee.value (Go.Operand.func 25), args := #[Go.Operand.tmp 128], argTypes := #[9] }, type := 45, pos := "law.go:210", after := #[{ on := 0, ground := Go.Ground.data }], guard := none }) rfl (fun K hK => ?_) AllReadyH.nil
                  go_simp
                  (go_at_call 25; refine (Hs1'.out _).mono ?_; rintro e w6 ⟨rfl, hb6⟩; have HB6 := Lib.hid (HB5.out.trans (show Below w.heap.size w5 w6 from (show Below w5.heap.size w5 w6 from ⟨hb6.os, hb6.tape, hb6.output, hb6.size, hb6.block⟩).mono HB5.out.size)); clear hb6)
                  go_simp
                  refine hK.out _ _ (by trivial) (fun hHeld => ?_)
                  clear hK K
                  try simp only [Act.put, List.setIfInBounds_toArray, List.set_cons_zero, List.set_cons_succ]
                  refine wpAnyH_ready (rs := [5]) (by kernel_rfl) (by simp) ?_
                  refine AllReadyH.cons (o := { dst := some 133, op := Go.Op.call { callee := Go.Callee.value (Go.Operand.func 25), args := #[Go.Operand.tmp 132], argTypes := #[9] }, type := 45, pos := "law.go:210", after := #[{ on := 4, ground := Go.Ground.data }, { on := 1, ground := Go.Ground.chain }], guard := none }) rfl (fun K hK => ?_) AllReadyH.nil
                  go_simp
                  (go_at_call 25; refine (Hs2'.out _).mono ?_; rintro e w8 ⟨rfl, hb8⟩; have HB8 := Lib.hid (HB6.out.trans (hb8.mono HB6.out.size)); clear hb8)
                  go_simp
                  refine hK.out _ _ (by trivial) (fun hHeld => ?_)
                  clear hK K
                  try simp only [Act.put, List.setIfInBounds_toArray, List.set_cons_zero, List.set_cons_succ]
                  refine wpAnyH_take (i := 6) (oi := { dst := some 134, op := Go.Op.binOp Go.BinOp.eql 45 (Go.Operand.tmp 129) (Go.Operand.tmp 133) 45, type := 4, pos := "law.go:210", after := #[{ on := 1, ground := Go.Ground.data }, { on := 5, ground := Go.Ground.data }], guard := none }) (v := ?_) rfl (by kernel_rfl) (by kernel_rfl) (by kernel_rfl) (fun _ _ _ h => h) (Or.inl ⟨by rfl, ?_⟩) (by assumption) ?_
                  rotate_left
                  · (intro w hSw; (try dsimp only at hSw); go_simp; (try with_reducible rfl))
                  try simp only [Act.put, List.setIfInBounds_toArray, List.set_cons_zero, List.set_cons_succ]
                  refine wpAnyH_take (i := 7) (oi := { dst := some 6, op := Go.Op.assign (Go.Operand.tmp 134), type := 4, pos := "law.go:210", after := #[{ on := 6, ground := Go.Ground.data }, { on := 5, ground := Go.Ground.chain }, { on := 0, ground := Go.Ground.phase }, { on := 1, ground := Go.Ground.phase }, { on := 2, ground := Go.Ground.phase }, { on := 3, ground := Go.Ground.phase }, { on := 4, ground := Go.Ground.phase }, { on := 5, ground := Go.Ground.phase }, { on := 6, ground := Go.Ground.phase }], guard := none }) (v := ?_) rfl (by kernel_rfl) (by kernel_rfl) (by kernel_rfl) (fun _ _ _ h => h) (Or.inl ⟨by rfl, ?_⟩) (by assumption) ?_
                  rotate_left
                  · (intro w hSw; (try dsimp only at hSw); go_simp; (try with_reducible rfl))
                  try simp only [Act.put, List.setIfInBounds_toArray, List.set_cons_zero, List.set_cons_succ]
                  refine wpAnyH_done (by kernel_rfl) ?_ _
                  go_wp2
                  go_ret
                  exact ⟨rfl, HB8.out⟩
set_option maxHeartbeats 1000000 in
set_option maxRecDepth 100000 in
theorem frsealed_out (A B D : Option Addr) (L c M d N f : Nat) (w : World) (hl : 4 < L ∨ 4 < M ∨ N ≠ M) : Calls Try.prog 6 #[.slice A L c, .slice B M d, .slice D N f] w fun e w' => e = .returned (.bool true) ∧ Below w.heap.size w w' := by
  have Haw := Lib.hid (frawake_any w)
  by_cases h1 : 4 < L
  · have hd : decide (4 < (L : Int)) = true := decide_eq_true (by omega)
    go_enter Try.func6, Try.ntmps6
    go_wp2_with fail
    refine Haw.out.mono ?_
    rintro e w1 ⟨rfl, hb1⟩
    have HB1 := Lib.hid hb1
    clear hb1
    go_wp2
    go_ret
    exact ⟨rfl, HB1.out⟩
  · have hd : decide (4 < (L : Int)) = false := decide_eq_false (by omega)
    by_cases h2 : 4 < M
    · have hd2 : decide (4 < (M : Int)) = true := decide_eq_true (by omega)
      go_enter Try.func6, Try.ntmps6
      go_wp2_with fail
      refine Haw.out.mono ?_
      rintro e w1 ⟨rfl, hb1⟩
      have HB1 := Lib.hid hb1
      clear hb1
      go_wp2
      go_ret
      exact ⟨rfl, HB1.out⟩
    · have hd2 : decide (4 < (M : Int)) = false := decide_eq_false (by omega)
      have hd3 : ((N : Int) != (M : Int)) = true := by simp; omega
      go_enter Try.func6, Try.ntmps6
      go_wp2_with fail
      refine Haw.out.mono ?_
      rintro e w1 ⟨rfl, hb1⟩
      have HB1 := Lib.hid hb1
      clear hb1
      go_wp2
      go_ret
      exact ⟨rfl, HB1.out⟩
end Go.Proofs.Ytckmdeiahpijcaa
