/-
  The program's layer 16 (seqs): outOfCode, read, Unstream, by their walks. Conditions: as each theorem's premises say (a Reader of up to a hundred million bytes, up to 4096 codes).
-/
import Derived.Test.YtbdciiiimdbmkaaGreatGbd
import Derived.Test.YtbdciiiimdbmkaaGreatGbk
import Derived.Test.YtbdciiiimdbmkaaGreatGam
namespace Go.Proofs.YtbdciiiimdbmkaaGreat
open Go.RowKit

/-- Bytes and true with what is left, or none and false. -/
def CodP (w' : World) (b : Nat) (bs : List Nat) (e : Ending) : Option (List Nat × Nat) → Prop
  | none => ∃ A c, e = .returned (.tuple #[.slice A 0 c, .bool false])
  | some t => (∃ A c, e = .returned (.tuple #[.slice A t.1.length c, .bool true]) ∧ Reads w' A (u8s t.1)) ∧ CR w' b (some (bs.drop t.2))
set_option maxHeartbeats 1000000 in
set_option maxRecDepth 100000 in
/-- One of the two texts isn't there. -/
theorem qout_bad (b n : Nat) (t : List Nat) (st : Left) (s1 s2 : ByteArray) (w : World)
    (h1 : Calls Tryz.prog 32 #[.pointer (some ⟨b, 0, none⟩), .int .i64 4096] w fun e w' => e = .returned (.string s1) ∧ CR w' b st ∧ w.grownBy w' (some b))
    (h2 : ∀ W, CR W b st → Calls Tryz.prog 32 #[.pointer (some ⟨b, 0, none⟩), .int .i64 4096] W fun e W' => e = .returned (.string s2) ∧ CR W' b none ∧ W.grownBy W' (some b)) :
    Calls Tryz.prog 72 #[.pointer (some ⟨b, 0, none⟩), .int .i64 (n : Int)] w fun e w' => CodP w' b t e none ∧ w.grownBy w' (some b) := by
  have H1 := Lib.hid h1
  have H2 := Lib.hid h2
  clear h1 h2
  go_enter Tryz.func72, Tryz.ntmps72
  go_wp2_with fail
  refine H1.out.mono ?_
  rintro e w1 ⟨rfl, hc1, hg1⟩
  have H3 := Lib.hid (H2.out w1 hc1)
  have Hg1 := Lib.hid hg1
  clear hc1 hg1 H1 H2
  go_wp2_with fail
  refine H3.out.mono ?_
  rintro e w2 ⟨rfl, hc2, hg2⟩
  have Hb := Lib.hid (rbad_any b none w2 hc2)
  have Hg2 := Lib.hid (grown_trans Hg1.out hg2)
  clear hc2 hg2 Hg1 H3
  go_wp2_with fail
  refine Hb.out.mono ?_
  rintro e w3 ⟨rfl, rfl⟩
  clear Hb
  go_wp2
  go_ret2
  exact ⟨⟨_, _, rfl⟩, Hg2.out⟩
set_option maxHeartbeats 2000000 in
set_option maxRecDepth 100000 in
theorem qout_any (b n : Nat) (t : List Nat) (w : World) (ht : t.length ≤ 100000000) (hlt : ∀ x ∈ t, x < 256) (h : CR w b (some t)) :
    Calls Tryz.prog 72 #[.pointer (some ⟨b, 0, none⟩), .int .i64 (n : Int)] w fun e w' => CodP w' b t e (Bm.sharedD t n) ∧ w.grownBy w' (some b) := by
  have h1 := rtext_any b (some t) 4096 w (by omega) (by omega) ⟨hlt, ht⟩ h
  unfold Bm.sharedD
  cases hp : Bm.txtD t with
  | none =>
    rw [txt_none t hp] at h1
    exact qout_bad b n t none _ (strOf []) w h1 (fun W hc => rtext_any b none 4096 W (by omega) (by omega) trivial hc)
  | some p =>
    obtain ⟨hd, k⟩ := p
    obtain ⟨e1, hl1⟩ := txt_some t _ hp
    have hm1 := txt_mem t _ hp hlt
    rw [e1] at h1
    dsimp only at h1 hl1 hm1 ⊢
    have hdl : (t.drop k).length ≤ 100000000 := by rw [List.length_drop]; omega
    have hdt : ∀ x ∈ t.drop k, x < 256 := drop_lt hlt k
    have h2 := fun W (hc : CR W b (some (t.drop k))) => rtext_any b (some (t.drop k)) 4096 W (by omega) (by omega) ⟨hdt, hdl⟩ hc
    cases hq : Bm.txtD (t.drop k) with
    | none =>
      rw [txt_none _ hq] at h2
      exact qout_bad b n t _ _ _ w h1 h2
    | some q =>
      obtain ⟨bd, m⟩ := q
      obtain ⟨e2, hl2⟩ := txt_some _ _ hq
      have hm2 := txt_mem _ _ hq hdt
      rw [e2] at h2
      dsimp only at h2 hl2 hm2 ⊢
      rw [List.drop_drop] at h2
      have H1 := Lib.hid h1
      have H2 := Lib.hid h2
      have Htab := Lib.hid (fun W => qtab_any hd W hl1 hm1)
      have hfair := Bm.headD_fair hd
      obtain ⟨r, hr⟩ : ∃ r, r = Bm.headD hd := ⟨_, rfl⟩
      rw [← hr] at Htab hfair ⊢
      have Hconv := Lib.hid (fun W => conv_back W bd hm2)
      clear hr h1 h2 e1 e2 hp hq hdl hdt hm1
      cases r with
      | none =>
        dsimp only
        clear hfair Hconv
        generalize strOf hd = s1 at *
        generalize strOf bd = s2 at *
        go_enter Tryz.func72, Tryz.ntmps72
        go_wp2_with fail
        refine H1.out.mono ?_
        rintro e w1 ⟨rfl, hc1, hg1⟩
        have H3 := Lib.hid (H2.out w1 hc1)
        have Hg1 := Lib.hid hg1
        clear hc1 hg1 H1 H2
        go_wp2_with fail
        refine H3.out.mono ?_
        rintro e w2 ⟨rfl, hc2, hg2⟩
        have Hb := Lib.hid (rbad_any b _ w2 hc2)
        have Hg2 := Lib.hid (grown_trans Hg1.out hg2)
        clear hc2 hg2 Hg1 H3
        go_wp2_with fail
        refine Hb.out.mono ?_
        rintro e w3 ⟨rfl, rfl⟩
        have Ht2 := Lib.hid (Htab.out w2)
        clear Hb Htab
        go_wp2_with fail
        refine Ht2.out.mono ?_
        rintro e w4 ⟨rfl, hb4⟩
        have Hg4 := Lib.hid (grown_trans Hg2.out (grown_below hb4 _))
        clear hb4 Ht2 Hg2
        go_wp2
        go_ret2
        exact ⟨⟨_, _, rfl⟩, Hg4.out⟩
      | some tb =>
        obtain ⟨ls, lg⟩ := tb
        have hf := hfair _ rfl
        dsimp only at hf ⊢
        have Hdec : Hid (∀ W p A c, STab W p ls lg → Reads W A (u8s bd) → Calls Tryz.prog 96 #[.pointer (some p), .slice A bd.length c, .int .i64 (n : Int)] W fun e w' => BytesP w' e (Bm.decB ls lg bd (n : Int)) ∧ Below W.heap.size W w') := Lib.hid (fun W p A c hst hrd => edec_any W p ls lg A c bd (n : Int) hf hst (by omega) hm2 hrd)
        clear hfair hf
        obtain ⟨rr, hrr⟩ : ∃ rr, rr = Bm.decB ls lg bd (n : Int) := ⟨_, rfl⟩
        rw [← hrr] at Hdec ⊢
        clear hrr
        generalize strOf hd = s1 at *
        have hx := Hconv.out
        clear Hconv
        generalize strOf bd = s2 at *
        have Hconv := Lib.hid hx
        clear hx
        go_enter Tryz.func72, Tryz.ntmps72
        go_wp2_with fail
        refine H1.out.mono ?_
        rintro e w1 ⟨rfl, hc1, hg1⟩
        have H3 := Lib.hid (H2.out w1 hc1)
        have Hg1 := Lib.hid hg1
        clear hc1 hg1 H1 H2
        go_wp2_with fail
        refine H3.out.mono ?_
        rintro e w2 ⟨rfl, hc2, hg2⟩
        have Hb := Lib.hid (rbad_any b _ w2 hc2)
        have Hg2 := Lib.hid (grown_trans Hg1.out hg2)
        have Hc2 := Lib.hid hc2
        clear hc2 hg2 Hg1 H3
        go_wp2_with fail
        refine Hb.out.mono ?_
        rintro e w3 ⟨rfl, rfl⟩
        have Ht2 := Lib.hid (Htab.out w2)
        clear Hb Htab
        go_wp2_with fail
        refine Ht2.out.mono ?_
        rintro e w4 ⟨⟨p, rfl, hst⟩, hb4⟩
        have Hg4 := Lib.hid (grown_trans Hg2.out (grown_below hb4 _))
        have Hc4 := Lib.hid (Hc2.out.below hb4)
        obtain ⟨w5, cap, hconv, hcell, hb5⟩ := Hconv.out w4
        have hrs : Reads w5 (some ⟨w4.heap.size, 0, none⟩) (u8s bd) := fun _ => ⟨_, _, rfl, fun j hj => by
          rw [u8s_length] at hj
          rw [Nat.zero_add, hcell j hj, u8s_get? bd j hj]⟩
        have Hd5 := Lib.hid (Hdec.out w5 p _ cap (stab_keep _ _ _ _ _ hst hb5) hrs)
        have Hg5 := Lib.hid (grown_trans Hg4.out (grown_below hb5 _))
        have Hc5 := Lib.hid (Hc4.out.below hb5)
        clear hst hb4 hcell hrs hb5 Ht2 Hg2 Hc2 Hg4 Hc4 Hdec Hconv
        go_wp2_with fail
        refine Hd5.out.mono ?_
        rintro e w6 ⟨hbp, hb6⟩
        have Hg6 := Lib.hid (grown_trans Hg5.out (grown_below hb6 _))
        have Hc6 := Lib.hid (Hc5.out.below hb6)
        clear Hd5 hb6 Hg5 Hc5 hconv
        cases rr with
        | none =>
          obtain ⟨A, c, rfl⟩ := hbp
          go_wp2
          go_ret2
          exact ⟨⟨_, _, rfl⟩, Hg6.out⟩
        | some l =>
          obtain ⟨A, c, rfl, hrd⟩ := hbp
          have Hrd := Lib.hid hrd
          clear hrd
          go_wp2
          go_ret2
          exact ⟨⟨⟨_, _, rfl, Hrd.out⟩, Hc6.out⟩, Hg6.out⟩

/-! read -/
set_option maxHeartbeats 1000000 in
set_option maxRecDepth 100000 in
theorem qread_any (b n : Nat) (bs : List Nat) (w : World) (hl : bs.length ≤ 100000000) (hlt : ∀ x ∈ bs, x < 256) (h1 : 1 ≤ n) (hn : n ≤ 4096) (h : CR w b (some bs)) :
    Calls Tryz.prog 50 #[.pointer (some ⟨b, 0, none⟩), .int .i64 (n : Int)] w fun e w' => CodP w' b bs e (Bm.readD bs n) ∧ w.grownBy w' (some b) := by
  have hfx := rfixed_any b (some bs) 1 w (by omega) (by omega) ⟨hlt, hl⟩ h
  cases bs with
  | nil =>
    have e1 : rawS (fx 1) (some []) = ([], none) := rfl
    rw [e1] at hfx
    have Hfx := Lib.hid hfx
    clear hfx h hlt e1
    show Calls Tryz.prog 50 #[.pointer (some ⟨b, 0, none⟩), .int .i64 (n : Int)] w fun e w' => CodP w' b [] e none ∧ w.grownBy w' (some b)
    generalize hv : (Bm.valB ([], (none : Left)).1) = v at *
    go_enter Tryz.func50, Tryz.ntmps50
    go_wp2_with fail
    refine Hfx.out.mono ?_
    rintro e w1 ⟨rfl, hc1, hg1⟩
    have Hb := Lib.hid (rbad_any b _ w1 hc1)
    have Hg1 := Lib.hid hg1
    clear hc1 hg1 Hfx
    go_wp2_with fail
    refine Hb.out.mono ?_
    rintro e w3 ⟨rfl, rfl⟩
    clear Hb
    go_wp2
    go_ret2
    exact ⟨⟨_, _, rfl⟩, Hg1.out⟩
  | cons k t =>
    rw [fix_read k t] at hfx
    have hk := hlt k List.mem_cons_self
    have htl : t.length ≤ 100000000 := by rw [List.length_cons] at hl; omega
    have htt : ∀ x ∈ t, x < 256 := fun x hx => hlt x (List.mem_cons_of_mem _ hx)
    have hv : Bm.valB ([k], some t).1 = k := by simp [Bm.valB]
    rw [hv] at hfx
    have Hfx := Lib.hid hfx
    have hdrop : ∀ m, (k :: t).drop (1 + m) = t.drop m := fun m => by rw [Nat.add_comm, List.drop_succ_cons]
    clear hfx h hlt hl hv
    have hbadF := Lib.hid (fun W (hc : CR W b (some t)) => rbad_any b (some t) W hc)
    by_cases hk0 : k = 0
    · subst hk0
      rw [Bm.read_0]
      have Hraw := Lib.hid (fun W (hc : CR W b (some t)) => rraw_any b (some t) (n : Int) W hc)
      rw [Int.toNat_natCast] at Hraw
      by_cases hc : n ≤ t.length
      · rw [if_pos hc]
        rw [raw_yes n t hc] at Hraw
        have hln : (t.take n).length = n := by rw [List.length_take]; omega
        have Hconv := Lib.hid (fun W => conv_back W (t.take n) (take_lt htt n))
        have Hdr := Lib.hid (hdrop n)
        dsimp only at Hraw
        unfold CodP
        dsimp only
        rw [Hdr.out]
        clear Hdr hdrop htt hc
        generalize t.take n = tn at *
        generalize t.drop n = td at *
        generalize hstr : strOf tn = st at *
        clear hstr
        go_enter Tryz.func50, Tryz.ntmps50
        go_wp2_with fail
        refine Hfx.out.mono ?_
        rintro e w1 ⟨rfl, hc1, hg1⟩
        have Hb := Lib.hid (hbadF.out w1 hc1)
        have Hr1 := Lib.hid (Hraw.out w1 hc1)
        have Hg1 := Lib.hid hg1
        clear hc1 hg1 Hfx hbadF Hraw
        go_wp2_with fail
        refine Hb.out.mono ?_
        rintro e w3 ⟨rfl, rfl⟩
        clear Hb
        go_wp2_with fail
        refine Hr1.out.mono ?_
        rintro e w2 ⟨rfl, hc2, hg2⟩
        obtain ⟨w5, cap, hconv, hcell, hb5⟩ := Hconv.out w2
        have Hrs : Hid (Reads w5 (some ⟨w2.heap.size, 0, none⟩) (u8s tn)) := Lib.hid (fun _ => ⟨_, _, rfl, fun j hj => by
          rw [u8s_length] at hj
          rw [Nat.zero_add, hcell j hj, u8s_get? tn j hj]⟩)
        have Hg5 := Lib.hid (grown_trans (grown_trans Hg1.out hg2) (grown_below hb5 _))
        have hc5 := hc2.below hb5
        have Hb5 := Lib.hid (rbad_any b _ w5 hc5)
        have Hc5 := Lib.hid hc5
        clear hg2 hcell hb5 hc2 Hg1 Hconv hc5 Hr1
        go_wp2_with fail
        refine Hb5.out.mono ?_
        rintro e w6 ⟨rfl, rfl⟩
        clear hconv Hb5
        go_wp2
        go_ret2
        refine ⟨⟨⟨some ⟨w2.heap.size, 0, none⟩, cap, ?_, Hrs.out⟩, Hc5.out⟩, Hg5.out⟩
        rw [hln]
        rfl
      · rw [if_neg hc]
        rw [raw_no n t hc] at Hraw
        have Hconv := Lib.hid (fun W => conv_back W [] (by simp))
        dsimp only at Hraw
        clear hdrop htt hc
        generalize hstr : strOf [] = st at *
        clear hstr
        go_enter Tryz.func50, Tryz.ntmps50
        go_wp2_with fail
        refine Hfx.out.mono ?_
        rintro e w1 ⟨rfl, hc1, hg1⟩
        have Hb := Lib.hid (hbadF.out w1 hc1)
        have Hr1 := Lib.hid (Hraw.out w1 hc1)
        have Hg1 := Lib.hid hg1
        clear hc1 hg1 Hfx hbadF Hraw
        go_wp2_with fail
        refine Hb.out.mono ?_
        rintro e w3 ⟨rfl, rfl⟩
        clear Hb
        go_wp2_with fail
        refine Hr1.out.mono ?_
        rintro e w2 ⟨rfl, hc2, hg2⟩
        obtain ⟨w5, cap, hconv, hcell, hb5⟩ := Hconv.out w2
        have Hg5 := Lib.hid (grown_trans (grown_trans Hg1.out hg2) (grown_below hb5 _))
        have Hb5 := Lib.hid (rbad_any b _ w5 (hc2.below hb5))
        clear hg2 hcell hb5 hc2 Hg1 Hconv Hr1
        go_wp2_with fail
        refine Hb5.out.mono ?_
        rintro e w6 ⟨rfl, rfl⟩
        clear hconv Hb5
        go_wp2
        go_ret2
        exact ⟨⟨_, _, rfl⟩, Hg5.out⟩
    · by_cases hk1 : k = 1
      · subst hk1
        rw [Bm.read_1]
        have Hraw := Lib.hid (fun W (hc : CR W b (some t)) => rraw_any b (some t) 1 W hc)
        cases t with
        | nil =>
          have e1 : rawS (1 : Int).toNat (some ([] : List Nat)) = ([], none) := rfl
          rw [e1] at Hraw
          rw [if_neg (by simp)]
          have Hconv := Lib.hid (fun W => conv_back W [] (by simp))
          have Hrep := Lib.hid (fun A c W => qrep_nil A c n W h1 hn)
          dsimp only at Hraw
          clear hdrop htt e1 hk0
          generalize hstr : strOf [] = st at *
          clear hstr
          go_enter Tryz.func50, Tryz.ntmps50
          go_wp2_with fail
          refine Hfx.out.mono ?_
          rintro e w1 ⟨rfl, hc1, hg1⟩
          have Hb := Lib.hid (hbadF.out w1 hc1)
          have Hr1 := Lib.hid (Hraw.out w1 hc1)
          have Hg1 := Lib.hid hg1
          clear hc1 hg1 Hfx hbadF Hraw
          go_wp2_with fail
          refine Hb.out.mono ?_
          rintro e w3 ⟨rfl, rfl⟩
          clear Hb
          go_wp2_with fail
          refine Hr1.out.mono ?_
          rintro e w2 ⟨rfl, hc2, hg2⟩
          obtain ⟨w5, cap, hconv, hcell, hb5⟩ := Hconv.out w2
          have Hg5 := Lib.hid (grown_trans (grown_trans Hg1.out hg2) (grown_below hb5 _))
          have Hc5 := Lib.hid (hc2.below hb5)
          have Hr5 := Lib.hid (Hrep.out (some ⟨w2.heap.size, 0, none⟩) cap w5)
          clear hg2 hcell hb5 hc2 Hg1 Hconv Hr1 Hrep
          go_wp2_with fail
          refine Hr5.out.mono ?_
          rintro e w6 ⟨⟨A6, c6, rfl⟩, hb6⟩
          have Hg6 := Lib.hid (grown_trans Hg5.out (grown_below hb6 _))
          have Hb6 := Lib.hid (rbad_any b _ w6 (Hc5.out.below hb6))
          clear hb6 Hg5 Hc5 Hr5 hconv
          go_wp2_with fail
          refine Hb6.out.mono ?_
          rintro e w7 ⟨rfl, rfl⟩
          clear Hb6
          go_wp2
          go_ret2
          exact ⟨⟨_, _, rfl⟩, Hg6.out⟩
        | cons x t =>
          have e1 : rawS (1 : Int).toNat (some (x :: t)) = ([x], some t) := rfl
          have hx := htt x List.mem_cons_self
          rw [e1] at Hraw
          rw [if_pos (by simp)]
          simp only [List.getElem?_cons_zero, Option.getD_some]
          have Hconv := Lib.hid (fun W => conv_back W [x] (by simpa using hx))
          have Hrep := Lib.hid (fun A c W hr => qrep_one A c x n W hx h1 hn hr)
          dsimp only at Hraw
          have Hdr : Hid ((1 :: x :: t).drop 2 = t) := Lib.hid rfl
          unfold CodP
          dsimp only
          rw [Hdr.out, List.length_replicate]
          clear hdrop htt e1 hk0 Hdr
          generalize hstr : strOf [x] = st at *
          clear hstr
          go_enter Tryz.func50, Tryz.ntmps50
          go_wp2_with fail
          refine Hfx.out.mono ?_
          rintro e w1 ⟨rfl, hc1, hg1⟩
          have Hb := Lib.hid (hbadF.out w1 hc1)
          have Hr1 := Lib.hid (Hraw.out w1 hc1)
          have Hg1 := Lib.hid hg1
          clear hc1 hg1 Hfx hbadF Hraw
          go_wp2_with fail
          refine Hb.out.mono ?_
          rintro e w3 ⟨rfl, rfl⟩
          clear Hb
          go_wp2_with fail
          refine Hr1.out.mono ?_
          rintro e w2 ⟨rfl, hc2, hg2⟩
          obtain ⟨w5, cap, hconv, hcell, hb5⟩ := Hconv.out w2
          have hrs : Reads w5 (some ⟨w2.heap.size, 0, none⟩) (u8s [x]) := fun _ => ⟨_, _, rfl, fun j hj => by
            rw [u8s_length] at hj
            rw [Nat.zero_add, hcell j hj, u8s_get? [x] j hj]⟩
          have Hg5 := Lib.hid (grown_trans (grown_trans Hg1.out hg2) (grown_below hb5 _))
          have Hc5 := Lib.hid (hc2.below hb5)
          have Hr5 := Lib.hid (Hrep.out (some ⟨w2.heap.size, 0, none⟩) cap w5 hrs)
          clear hg2 hcell hb5 hc2 Hg1 Hconv Hr1 Hrep hrs
          go_wp2_with fail
          refine Hr5.out.mono ?_
          rintro e w6 ⟨⟨A6, c6, rfl, hrd6⟩, hb6⟩
          have Hg6 := Lib.hid (grown_trans Hg5.out (grown_below hb6 _))
          have hc6 := Hc5.out.below hb6
          have Hb6 := Lib.hid (rbad_any b _ w6 hc6)
          have Hc6 := Lib.hid hc6
          have Hrd6 := Lib.hid hrd6
          clear hb6 Hg5 Hc5 Hr5 hconv hc6 hrd6
          go_wp2_with fail
          refine Hb6.out.mono ?_
          rintro e w7 ⟨rfl, rfl⟩
          clear Hb6
          go_wp2
          go_ret2
          exact ⟨⟨⟨_, _, rfl, Hrd6.out⟩, Hc6.out⟩, Hg6.out⟩
      · by_cases hk2 : k = 2
        · subst hk2
          rw [Bm.read_2]
          have Hout := Lib.hid (fun W (hc : CR W b (some t)) => qout_any b n t W htl htt hc)
          generalize Bm.sharedD t n = r at *
          clear htt hk0 hk1 htl
          go_enter Tryz.func50, Tryz.ntmps50
          go_wp2_with fail
          refine Hfx.out.mono ?_
          rintro e w1 ⟨rfl, hc1, hg1⟩
          have Hb := Lib.hid (hbadF.out w1 hc1)
          have Hr1 := Lib.hid (Hout.out w1 hc1)
          have Hg1 := Lib.hid hg1
          clear hc1 hg1 Hfx hbadF Hout
          go_wp2_with fail
          refine Hb.out.mono ?_
          rintro e w3 ⟨rfl, rfl⟩
          clear Hb
          go_wp2_with fail
          refine Hr1.out.mono ?_
          rintro e w2 ⟨hcp, hg2⟩
          have Hg2 := Lib.hid (grown_trans Hg1.out hg2)
          clear hg2 Hg1 Hr1
          cases r with
          | none =>
            obtain ⟨A, c, rfl⟩ := hcp
            go_wp2
            go_ret2
            exact ⟨⟨_, _, rfl⟩, Hg2.out⟩
          | some q =>
            obtain ⟨⟨A, c, rfl, hrd⟩, hc2⟩ := hcp
            have Hrd := Lib.hid hrd
            have Hc2 := Lib.hid hc2
            clear hrd hc2
            go_wp2
            go_ret2
            exact ⟨⟨⟨_, _, rfl, Hrd.out⟩, by show CR w2 b (some ((2 :: t).drop (1 + q.2))); rw [hdrop]; exact Hc2.out⟩, Hg2.out⟩
        · rw [Bm.read_3 k t n (by omega)]
          have d0 : ((k : Int) == 0) = false := by rw [beq_eq_false_iff_ne]; omega
          have d1 : ((k : Int) == 1) = false := by rw [beq_eq_false_iff_ne]; omega
          have d2 : ((k : Int) == 2) = false := by rw [beq_eq_false_iff_ne]; omega
          clear hk0 hk1 hk2 hdrop htt
          go_enter Tryz.func50, Tryz.ntmps50
          go_wp2_with fail
          refine Hfx.out.mono ?_
          rintro e w1 ⟨rfl, hc1, hg1⟩
          have Hb := Lib.hid (hbadF.out w1 hc1)
          have Hg1 := Lib.hid hg1
          clear hc1 hg1 Hfx hbadF
          go_wp2_with fail
          refine Hb.out.mono ?_
          rintro e w3 ⟨rfl, rfl⟩
          clear Hb
          go_wp2
          go_ret2
          exact ⟨⟨_, _, rfl⟩, Hg1.out⟩
set_option maxHeartbeats 1000000 in
set_option maxRecDepth 100000 in
/-- What Unstream answers: the codes of the stream that comes next, or none. -/
theorem qunstr_any (b n : Nat) (bs : List Nat) (w : World) (hl : bs.length ≤ 100000000) (hlt : ∀ x ∈ bs, x < 256) (h1 : 1 ≤ n) (hn : n ≤ 4096) (h : CR w b (some bs)) :
    Calls Tryz.prog 31 #[.pointer (some ⟨b, 0, none⟩), .int .i64 (n : Int)] w fun e w' => CodP w' b bs e (Bm.strD bs n) ∧ w.grownBy w' (some b) := by
  have Hrd := Lib.hid (qread_any b n bs w hl hlt h1 hn h)
  have d0 : decide ((n : Int) < 0) = false := decide_eq_false (by omega)
  have d1 : decide ((4096 : Int) < (n : Int)) = false := decide_eq_false (by omega)
  have hmem := Bm.read_mem bs n hlt
  unfold Bm.strD
  generalize Bm.readD bs n = r at *
  clear hlt h
  cases r with
  | none =>
    dsimp only
    go_enter Tryz.func31, Tryz.ntmps31
    go_wp2_with fail
    refine Hrd.out.mono ?_
    rintro e w1 ⟨⟨A, c, rfl⟩, hg1⟩
    have Hg1 := Lib.hid hg1
    clear hg1 Hrd
    go_wp2
    go_ret2
    exact ⟨⟨_, _, rfl⟩, Hg1.out⟩
  | some q =>
    obtain ⟨l, k⟩ := q
    dsimp only
    obtain ⟨hl2, hlt2⟩ := hmem l k rfl
    have Hok := Lib.hid (fun A c W hr => qright_any A c l W (by omega) hlt2 hr)
    clear hl2
    by_cases h28 : ∀ x ∈ l, x < 28
    · rw [if_pos h28]
      rw [decide_eq_true h28] at Hok
      clear h28 hlt2 hmem
      go_enter Tryz.func31, Tryz.ntmps31
      go_wp2_with fail
      refine Hrd.out.mono ?_
      rintro e w1 ⟨⟨⟨A, c, rfl, hrd⟩, hc1⟩, hg1⟩
      have Hg1 := Lib.hid hg1
      have Hok1 := Lib.hid (Hok.out A c w1 hrd)
      have Hrd1 := Lib.hid hrd
      have Hc1 := Lib.hid hc1
      clear hg1 Hrd hrd hc1 Hok
      go_wp2_with fail
      refine Hok1.out.mono ?_
      rintro e w2 ⟨rfl, rfl⟩
      clear Hok1
      go_wp2
      go_ret2
      exact ⟨⟨⟨_, _, rfl, Hrd1.out⟩, Hc1.out⟩, Hg1.out⟩
    · rw [if_neg h28]
      rw [decide_eq_false h28] at Hok
      clear h28 hlt2 hmem
      go_enter Tryz.func31, Tryz.ntmps31
      go_wp2_with fail
      refine Hrd.out.mono ?_
      rintro e w1 ⟨⟨⟨A, c, rfl, hrd⟩, hc1⟩, hg1⟩
      have Hg1 := Lib.hid hg1
      have Hok1 := Lib.hid (Hok.out A c w1 hrd)
      clear hg1 Hrd hrd hc1 Hok
      go_wp2_with fail
      refine Hok1.out.mono ?_
      rintro e w2 ⟨rfl, rfl⟩
      clear Hok1
      go_wp2
      go_ret2
      exact ⟨⟨_, _, rfl⟩, Hg1.out⟩
end Go.Proofs.YtbdciiiimdbmkaaGreat
