/-
  The program's layer 25 (message): Encode, Bytes, by their walks. Conditions: as each theorem's premises say.
-/
import Derived.Test.YtfopnbfaaikghaaMe
import Derived.Test.YtfopnbfaaikghaaXy
import Derived.Deep.DeepCutAuto
namespace Go.Proofs.Ytfopnbfaaikghaa
open Go.RowKit

theorem mgput_int (s : Sp) (b : Nat) (n : Int) (bs : List Nat) (w : World) (h0 : 0 ≤ n) (h1 : n ≤ 1073741824) (hl : bs.length ≤ 100000000) (h : CW w b bs) :
    Calls Try.prog 16 #[spV s, .pointer (some ⟨b, 0, none⟩), .int .i64 n] w fun e w' => e = .returned (.tuple #[]) ∧ CW w' b (bs ++ putS s n) ∧ w.grownBy w' (some b) := by
  obtain ⟨k, rfl⟩ : ∃ k : Nat, n = (k : Int) := ⟨n.toNat, by omega⟩
  exact mgput_any s b k bs w (by omega) hl h
theorem has_most {s : Sp} (hs : s.Ok) {n : Int} (h : s.has n = true) : n ≤ 1073741824 := by
  have h2 := (has_iff s n).1 h
  have h3 := hs.2.2
  omega
/-- What Encode holds: the message, its kind's body, the frame that it answers, the Writer. -/
structure EnS (w : World) (g r h q : Nat) (m : Msg) (b : Bdy) (bs : List Nat) (W : World) : Prop where
  ms : Row W g 24 (msL m)
  fr : Row W r 28 [.int .i64 0, .string ⟨#[]⟩]
  bd : Row W h 44 (bdL b)
  cw : CW W q bs
  below : Below w.heap.size w W
  own : w.heap.size ≤ q ∧ g ≠ q ∧ r ≠ q ∧ h ≠ q
theorem EnS.put {w W W' : World} {g r h q : Nat} {m : Msg} {b : Bdy} {bs bs' : List Nat} (H : EnS w g r h q m b bs W) (hc : CW W' q bs') (hg : W.grownBy W' (some q)) : EnS w g r h q m b bs' W' :=
  ⟨H.ms.keep (hg.block g H.ms.lt (fun e => H.own.2.1 (by injection e))), H.fr.keep (hg.block r H.fr.lt (fun e => H.own.2.2.1 (by injection e))), H.bd.keep (hg.block h H.bd.lt (fun e => H.own.2.2.2 (by injection e))), hc,
    H.below.trans (below_grown hg H.own.1 H.below.size), H.own⟩
theorem EnS.quiet {w W W' : World} {g r h q : Nat} {m : Msg} {b : Bdy} {bs : List Nat} (H : EnS w g r h q m b bs W) (hb : Below W.heap.size W W') : EnS w g r h q m b bs W' :=
  ⟨kept H.ms hb, kept H.fr hb, kept H.bd hb, H.cw.below hb, H.below.trans (hb.mono H.below.size), H.own⟩

set_option maxHeartbeats 1000000 in
set_option maxRecDepth 100000 in
theorem mgenc_no (m : Msg) (w : World) (h : rightM m = false) :
    Calls Try.prog 8 #[msV m] w fun e w' => e = .returned (.tuple #[frV Bm.zfr, .int .i64 3]) ∧ Below w.heap.size w w' := by
  have HR := Lib.hid (fun W => mgright_any m W)
  rw [h] at HR
  have hm0 : Row ((w.alloc (.cells (msL m).toArray 24)).alloc (.cells #[.int .i64 0, .string ⟨#[]⟩] 28)) w.heap.size 24 (msL m) := (Row.new w _ _).alloc _
  have hf0 : Row ((w.alloc (.cells (msL m).toArray 24)).alloc (.cells #[.int .i64 0, .string ⟨#[]⟩] 28)) (w.heap.size + 1) 28 [.int .i64 0, .string ⟨#[]⟩] := by
    have h1 := Row.new (w.alloc (.cells (msL m).toArray 24)) 28 [.int .i64 0, .string ⟨#[]⟩]
    rw [show (w.alloc (.cells (msL m).toArray 24)).heap.size = w.heap.size + 1 by simp] at h1
    exact h1
  have hb0 : Below w.heap.size w ((w.alloc (.cells (msL m).toArray 24)).alloc (.cells #[.int .i64 0, .string ⟨#[]⟩] 28)) := ((Below.refl _ _).alloc (Nat.le_refl _) _).alloc (by simp) _
  obtain ⟨W0, hW0⟩ : ∃ W0, W0 = (w.alloc (.cells (msL m).toArray 24)).alloc (.cells #[.int .i64 0, .string ⟨#[]⟩] 28) := ⟨_, rfl⟩
  rw [← hW0] at hm0 hf0 hb0
  have Hf0 := Lib.hid hf0
  have Hb0 := Lib.hid hb0
  have hc0 := MsRow.cells hm0
  rw [hW0] at hc0
  obtain ⟨c0, c1, c2, c3, c4, c5⟩ := hc0
  clear hm0 hf0 hb0
  unfold msV at *
  dsimp only [msL] at *
  go_enter Try.func8, Try.ntmps8
  go_wp2_with fail
  rw [← hW0]
  refine (HR.out W0).mono ?_
  rintro e w1 ⟨rfl, g1⟩
  have hf1 := kept Hf0.out g1
  have hb1 := Hb0.out.trans (g1.mono Hb0.out.size)
  have hr7 := fr_row hf1 rfl 0 ⟨#[]⟩
  have s0 := hr7.cell 0
  have s1 := hr7.cell 1
  simp only [List.getElem?_cons_zero, List.getElem?_cons_succ] at s0 s1
  have S0 := Lib.hid s0
  have S1 := Lib.hid s1
  have e0 := hf1.cell 0
  have e1 := hf1.cell 1
  simp only [List.getElem?_cons_zero, List.getElem?_cons_succ] at e0 e1
  have f0 := hf1.free 0
  have f1 := hf1.free 1
  have Hb1 := Lib.hid hb1
  clear s0 s1 hr7 c0 c1 c2 c3 c4 c5 hf1 hb1 g1
  go_wp2
  have s0 := S0.out
  have s1 := S1.out
  refine bodyPost_ret (v := .tuple #[.agg #[.int .i64 0, .string ⟨#[]⟩], .int .i64 3]) (by simp [results, Try.results8, go_sem, s0, s1]) rfl ⟨rfl, fr_set_below Hb1.out (by omega) _ _⟩

set_option maxHeartbeats 4000000 in
set_option maxRecDepth 100000 in
theorem mgenc_yes (m : Msg) (w : World) (hm : m.Ok) (h : rightM m = true) :
    Calls Try.prog 8 #[msV m] w fun e w' => e = .returned (.tuple #[frV (m.kind, bytesM m), .int .i64 0]) ∧ Below w.heap.size w w' := by
  have HR := Lib.hid (fun W => mgright_any m W)
  rw [h] at HR
  have HB := Lib.hid (fun W => mgbody_any m.kind W)
  have hFok := frame_ok hm h
  obtain ⟨b, hb, hr⟩ := right_some h
  rw [hb, Option.getD_some, Option.isSome_some] at HB
  have hbo := body_ok hb
  obtain ⟨h1, h2, h3, h4, h5⟩ := (b.right_iff m).1 hr
  have hdl := (has_iff _ _).1 h5
  have hd6 := hbo.2.2.2.2
  have hlen := Bdy.bytes_len hbo m hr
  have hB : b.bytes m = [] ++ putS b.next m.next ++ putS b.epoch m.epoch ++ putS b.size m.size ++ sumS b.sum m.sum ++ dataS b.data m.data := by
    unfold Bdy.bytes
    simp [List.append_assoc]
  rw [bytes_of hb] at hFok ⊢
  have hlt : ∀ x ∈ b.bytes m, x < 256 := hFok.2.2.2
  have l1 : (putS b.next m.next).length ≤ 700 := by rw [hB] at hlen; simp only [List.length_append] at hlen; omega
  have hl5 := hlen
  rw [hB] at hl5
  simp only [List.length_append, List.length_nil] at hl5
  have HP1 := Lib.hid (fun W q => mgput_int b.next q m.next [] W (has_pos hbo.1 h1) (has_most hbo.1 h1) (by simp))
  have HP2 := Lib.hid (fun W q => mgput_int b.epoch q m.epoch ([] ++ putS b.next m.next) W (has_pos hbo.2.1 h2) (has_most hbo.2.1 h2) (by simp; omega))
  have HP3 := Lib.hid (fun W q => mgput_int b.size q m.size ([] ++ putS b.next m.next ++ putS b.epoch m.epoch) W (has_pos hbo.2.2.1 h3) (has_most hbo.2.2.1 h3) (by simp; omega))
  have hs1 : b.sum = true → sumS b.sum m.sum = Bm.bytesOf m.sum 8 := fun e => by unfold sumS; rw [if_pos e]
  have hs0 : b.sum = false → sumS b.sum m.sum = [] := fun e => by unfold sumS; rw [if_neg (by rw [e]; simp)]
  have hd1 : b.data.there = true → dataS b.data m.data = Bm.grp m.data.length ++ m.data := fun e => by unfold dataS; rw [if_pos e]
  have hd0 : b.data.there = false → dataS b.data m.data = [] := fun e => by unfold dataS; rw [if_neg (by rw [e]; simp)]
  have HP4 := Lib.hid (fun W q => wfixed_any q m.sum 8 ([] ++ putS b.next m.next ++ putS b.epoch m.epoch ++ putS b.size m.size) W (by decide) (by decide) hm.1 (by simp; omega))
  rw [show fx 8 = 8 from rfl] at HP4
  have HT := Lib.hid (fun W => mgthere_any b.data W)
  have HP5 := Lib.hid (fun W q => wtext_any q ([] ++ putS b.next m.next ++ putS b.epoch m.epoch ++ putS b.size m.size ++ sumS b.sum m.sum) m.data W (by simp; omega) (by omega))
  have HP6 := Lib.hid (fun W q => wstr_any q (b.bytes m) W (by omega) hlt)
  rw [hB] at HP6 ⊢
  generalize dataS b.data m.data = a5 at *
  generalize sumS b.sum m.sum = a4 at *
  generalize ([] ++ putS b.next m.next ++ putS b.epoch m.epoch ++ putS b.size m.size : List Nat) = x3 at *
  generalize ([] ++ putS b.next m.next ++ putS b.epoch m.epoch : List Nat) = x2 at *
  generalize ([] ++ putS b.next m.next : List Nat) = x1 at *
  generalize b.data.there = dt at *
  obtain ⟨xs, hxs⟩ : ∃ xs, xs = x3 ++ a4 ++ a5 := ⟨_, rfl⟩
  rw [← hxs] at HP6 ⊢
  have Hxs := Lib.hid hxs
  clear hxs
  have Hs1 := Lib.hid hs1
  have Hs0 := Lib.hid hs0
  have Hd1 := Lib.hid hd1
  have Hd0 := Lib.hid hd0
  clear hs1 hs0 hd1 hd0 h1 h2 h3 h4 h5 hdl hd6 hlen hl5 hlt hFok hr hb hbo l1 h hm hB
  have hm0 : Row ((w.alloc (.cells (msL m).toArray 24)).alloc (.cells #[.int .i64 0, .string ⟨#[]⟩] 28)) w.heap.size 24 (msL m) := (Row.new w _ _).alloc _
  have hf0 : Row ((w.alloc (.cells (msL m).toArray 24)).alloc (.cells #[.int .i64 0, .string ⟨#[]⟩] 28)) (w.heap.size + 1) 28 [.int .i64 0, .string ⟨#[]⟩] := by
    have h1 := Row.new (w.alloc (.cells (msL m).toArray 24)) 28 [.int .i64 0, .string ⟨#[]⟩]
    rw [show (w.alloc (.cells (msL m).toArray 24)).heap.size = w.heap.size + 1 by simp] at h1
    exact h1
  have hb0 : Below w.heap.size w ((w.alloc (.cells (msL m).toArray 24)).alloc (.cells #[.int .i64 0, .string ⟨#[]⟩] 28)) := ((Below.refl _ _).alloc (Nat.le_refl _) _).alloc (by simp) _
  obtain ⟨W0, hW0⟩ : ∃ W0, W0 = (w.alloc (.cells (msL m).toArray 24)).alloc (.cells #[.int .i64 0, .string ⟨#[]⟩] 28) := ⟨_, rfl⟩
  rw [← hW0] at hm0 hf0 hb0
  have Hm0 := Lib.hid hm0
  have Hf0 := Lib.hid hf0
  have Hb0 := Lib.hid hb0
  have hc0 := MsRow.cells hm0
  rw [hW0] at hc0
  obtain ⟨c0, c1, c2, c3, c4, c5⟩ := hc0
  clear hm0 hf0 hb0
  unfold msV bdV spV at *
  dsimp only [msL, bdL] at *
  go_enter Try.func8, Try.ntmps8
  go_wp2_with fail
  rw [← hW0]
  refine (HR.out W0).mono ?_
  rintro e w1 ⟨rfl, g1⟩
  have Hm1 := Lib.hid (kept Hm0.out g1)
  have Hf1 := Lib.hid (kept Hf0.out g1)
  have Hb1 := Lib.hid (Hb0.out.trans (g1.mono Hb0.out.size))
  clear c0 c1 c2 c3 c4 c5 g1 Hm0 Hf0 Hb0 hW0
  obtain ⟨c0, c1, c2, c3, c4, c5⟩ := MsRow.cells Hm1.out
  go_wp2_with fail
  refine (HB.out w1).mono ?_
  rintro e w2 ⟨rfl, g2⟩
  have Hm2 := Lib.hid (kept Hm1.out g2)
  have Hf2 := Lib.hid (kept Hf1.out g2)
  have Hb2 := Lib.hid (Hb1.out.trans (g2.mono Hb1.out.size))
  clear c0 c1 c2 c3 c4 c5 g2 Hm1 Hf1 Hb1
  obtain ⟨W3, hW3⟩ : ∃ W3, W3 = (w2.alloc (.cells (bdL b).toArray 44)).alloc (.cells #[.pointer none, .int .i64 0] 49) := ⟨_, rfl⟩
  have hsz2 : (w2.alloc (.cells (bdL b).toArray 44)).heap.size = w2.heap.size + 1 := by simp
  have hlt2 : w.heap.size + 1 < w2.heap.size := Hf2.out.lt
  have H3 : Hid (EnS w w.heap.size (w.heap.size + 1) w2.heap.size (w2.heap.size + 1) m b [] W3) := Lib.hid (by
    have hcw := CW.new (w2.alloc (.cells (bdL b).toArray 44))
    rw [hsz2] at hcw
    rw [hW3]
    exact ⟨(Hm2.out.alloc _).alloc _, (Hf2.out.alloc _).alloc _, (Row.new w2 _ _).alloc _, hcw, (Hb2.out.alloc Hb2.out.size _).alloc (by rw [hsz2]; omega) _, ⟨by omega, by omega, by omega, by omega⟩⟩)
  clear Hm2 Hf2 Hb2 hsz2
  dsimp only [bdL] at hW3
  have hc3 := MsRow.cells H3.out.ms
  have hd3 := BdRow.cells H3.out.bd
  rw [hW3] at hc3 hd3
  obtain ⟨c0, c1, c2, c3, c4, c5⟩ := hc3
  obtain ⟨d0, d1, d2, d3, d4, d5, d6, d7, d8⟩ := hd3
  go_wp2_with fail
  rw [← hW3]
  generalize w2.heap.size = u at *
  clear c0 c1 c2 c3 c4 c5 d0 d1 d2 d3 d4 d5 d6 d7 d8 hW3
  refine (HP1.out W3 (u + 1) H3.out.cw).mono ?_
  rintro e w4 ⟨rfl, hc4, g4⟩
  have H4 := Lib.hid (H3.out.put hc4 g4)
  clear hc4 g4 H3
  obtain ⟨c0, c1, c2, c3, c4, c5⟩ := MsRow.cells H4.out.ms
  obtain ⟨d0, d1, d2, d3, d4, d5, d6, d7, d8⟩ := BdRow.cells H4.out.bd
  go_wp2_with fail
  clear c0 c1 c2 c3 c4 c5 d0 d1 d2 d3 d4 d5 d6 d7 d8
  refine (HP2.out w4 (u + 1) H4.out.cw).mono ?_
  rintro e w5 ⟨rfl, hc5, g5⟩
  have H5 := Lib.hid (H4.out.put hc5 g5)
  clear hc5 g5 H4
  obtain ⟨c0, c1, c2, c3, c4, c5⟩ := MsRow.cells H5.out.ms
  obtain ⟨d0, d1, d2, d3, d4, d5, d6, d7, d8⟩ := BdRow.cells H5.out.bd
  go_wp2_with fail
  clear c0 c1 c2 c3 c4 c5 d0 d1 d2 d3 d4 d5 d6 d7 d8
  refine (HP3.out w5 (u + 1) H5.out.cw).mono ?_
  rintro e w6 ⟨rfl, hc6, g6⟩
  have H6 := Lib.hid (H5.out.put hc6 g6)
  clear hc6 g6 H5
  obtain ⟨c0, c1, c2, c3, c4, c5⟩ := MsRow.cells H6.out.ms
  obtain ⟨d0, d1, d2, d3, d4, d5, d6, d7, d8⟩ := BdRow.cells H6.out.bd
  clear c0 c1 c2 c3 c5 d0 d1 d2 d3 d4 d5 d7 d8
  go_upto_if 33 with fail
  go_cut [] (fun wx => Hid (EnS w w.heap.size (w.heap.size + 1) u (u + 1) m b (x3 ++ a4) wx))
  case first =>
    rcases hsm : b.sum with _ | _
    · go_wp2_with fail
      go_meet
      rw [Hs0.out hsm, List.append_nil]
      exact H6
    · have HP4' := HP4.out w6 (u + 1) H6.out.cw
      rw [← Hs1.out hsm] at HP4'
      go_wp2_with fail
      refine HP4'.mono ?_
      rintro e w7 ⟨rfl, hc7, g7⟩
      have H7 := Lib.hid (H6.out.put hc7 g7)
      go_wp2_with fail
      go_meet
      exact H7
  case rest =>
    have H7 := hcut
    clear hcut c4 d6 H6 HP1 HP2 HP3 HP4 Hs0 Hs1
    obtain ⟨d0, d1, d2, d3, d4, d5, d6, d7, d8⟩ := BdRow.cells H7.out.bd
    clear d0 d1 d2 d3 d4 d5 d6
    go_wp2_with fail
    clear d7 d8
    refine (HT.out wc).mono ?_
    rintro e w8 ⟨rfl, g8⟩
    have H8 := Lib.hid (H7.out.quiet g8)
    clear g8 H7 HT
    go_upto_if 39 with fail
    go_cut [] (fun wx => Hid (EnS w w.heap.size (w.heap.size + 1) u (u + 1) m b xs wx))
    case first =>
      rcases hsm : dt with _ | _
      · go_wp2_with fail
        go_meet
        rw [show xs = x3 ++ a4 by rw [Hxs.out, Hd0.out hsm, List.append_nil]]
        exact H8
      · have HP5' := HP5.out w8 (u + 1) H8.out.cw
        rw [← Hd1.out hsm, ← Hxs.out] at HP5'
        obtain ⟨c0, c1, c2, c3, c4, c5⟩ := MsRow.cells H8.out.ms
        go_wp2_with fail
        refine HP5'.mono ?_
        rintro e w9 ⟨rfl, hc9, g9⟩
        have H9 := Lib.hid (H8.out.put hc9 g9)
        go_wp2_with fail
        go_meet
        exact H9
    case rest =>
      have H9 := hcut
      clear hcut H8 HP5 Hd0 Hd1 Hxs
      have HP6a := Lib.hid (HP6.out wc.drew (u + 1) (H9.out.cw.keep (row := none) (grown_drew (grown_refl _ _)) (by simp) (by simp)))
      have c0 := (MsRow.cells H9.out.ms).1
      go_upto_region 12 with fail
      refine wp_region_held_drew (S := (fun W : World => W.cell? ⟨w.heap.size, 0, none⟩ = some (.int .i64 m.kind))) (by kernel_rfl) (by exact c0) (fun hHeld => ?_)
      refine wpAnyH_take (i := 0) (oi := { dst := some 43, op := Go.Op.fieldAddr 24 (Go.Operand.tmp 1) 0, type := 0, pos := "message.go:56", after := #[], guard := none }) (v := ?_) rfl (by kernel_rfl) (by kernel_rfl) (by kernel_rfl) (fun _ _ _ h => h) (Or.inl ⟨by rfl, ?_⟩) (by assumption) ?_
      rotate_left
      · (intro w hSw; (try dsimp only at hSw); go_simp; (try with_reducible rfl))
      try simp only [Act.put, List.setIfInBounds_toArray, List.set_cons_zero, List.set_cons_succ]
      refine wpAnyH_take (i := 1) (oi := { dst := some 44, op := Go.Op.load 3 (Go.Operand.tmp 43), type := 3, pos := "message.go:56", after := #[{ on := 0, ground := Go.Ground.data }], guard := none }) (v := ?_) rfl (by kernel_rfl) (by kernel_rfl) (by kernel_rfl) (fun _ _ _ h => h) (Or.inl ⟨by rfl, ?_⟩) (by assumption) ?_
      rotate_left
      · (intro w hSw; (try dsimp only at hSw); go_simp; (try with_reducible rfl))
      try simp only [Act.put, List.setIfInBounds_toArray, List.set_cons_zero, List.set_cons_succ]
      refine wpAnyH_ready (rs := [2]) (by kernel_rfl) (by simp) ?_
      refine AllReadyH.cons (o := { dst := some 45, op := Go.Op.call { callee := Go.Callee.value (Go.Operand.func 20), args := #[Go.Operand.tmp 6], argTypes := #[49] }, type := 9, pos := "message.go:56", after := #[], guard := none }) rfl (fun K hK => ?_) AllReadyH.nil
      go_simp
      (go_at_call 20; refine HP6a.out.mono ?_; rintro e w10 ⟨rfl, hb10⟩; have H10 := Lib.hid (H9.out.quiet (show Below wc.heap.size wc w10 from ⟨hb10.os, hb10.tape, hb10.output, hb10.size, hb10.block⟩)); clear hb10; have e0 := H10.out.fr.cell 0; have e1 := H10.out.fr.cell 1; simp only [List.getElem?_cons_zero, List.getElem?_cons_succ] at e0 e1; have f0 := H10.out.fr.free 0; have f1 := H10.out.fr.free 1)
      go_simp
      refine hK.out _ _ (by exact (MsRow.cells H10.out.ms).1) (fun hHeld => ?_)
      clear hK K
      try simp only [Act.put, List.setIfInBounds_toArray, List.set_cons_zero, List.set_cons_succ]
      refine wpAnyH_take (i := 3) (oi := { dst := some 46, op := Go.Op.build 28 #[(0, Go.Operand.tmp 44), (1, Go.Operand.tmp 45)], type := 28, pos := "message.go:56", after := #[{ on := 1, ground := Go.Ground.data }, { on := 2, ground := Go.Ground.data }], guard := none }) (v := ?_) rfl (by kernel_rfl) (by kernel_rfl) (by kernel_rfl) (fun _ _ _ h => h) (Or.inl ⟨by rfl, ?_⟩) (by assumption) ?_
      rotate_left
      · (intro w hSw; (try dsimp only at hSw); go_simp; (try with_reducible rfl))
      try simp only [Act.put, List.setIfInBounds_toArray, List.set_cons_zero, List.set_cons_succ]
      refine wpAnyH_ready (rs := [4]) (by kernel_rfl) (by simp) ?_
      refine AllReadyH.cons (o := { dst := none, op := Go.Op.store 28 (Go.Operand.tmp 2) (Go.Operand.tmp 46), type := 0, pos := "message.go:56", after := #[{ on := 3, ground := Go.Ground.data }, { on := 2, ground := Go.Ground.chain }, { on := 0, ground := Go.Ground.phase }, { on := 1, ground := Go.Ground.phase }, { on := 2, ground := Go.Ground.phase }, { on := 3, ground := Go.Ground.phase }], guard := none }) rfl (fun K hK => ?_) AllReadyH.nil
      go_simp
      refine hK.out _ _ (by exact (MsRow.cells ((H10.out.ms.far (p := ⟨w.heap.size + 1, 0, none⟩) (by simp) _).far (p := ⟨w.heap.size + 1, 1, none⟩) (by simp) _)).1) (fun hHeld => ?_)
      clear hK K
      try simp only [Act.put, List.setIfInBounds_toArray, List.set_cons_zero, List.set_cons_succ]
      refine wpAnyH_take (i := 5) (oi := { dst := some 3, op := Go.Op.assign (Go.Operand.const (Go.Value.int Go.IntKind.i64 0)), type := 29, pos := "message.go:56", after := #[{ on := 4, ground := Go.Ground.chain }, { on := 0, ground := Go.Ground.phase }, { on := 1, ground := Go.Ground.phase }, { on := 2, ground := Go.Ground.phase }, { on := 3, ground := Go.Ground.phase }, { on := 4, ground := Go.Ground.phase }], guard := none }) (v := ?_) rfl (by kernel_rfl) (by kernel_rfl) (by kernel_rfl) (fun _ _ _ h => h) (Or.inl ⟨by rfl, ?_⟩) (by assumption) ?_
      rotate_left
      · (intro w hSw; (try dsimp only at hSw); go_simp; (try with_reducible rfl))
      try simp only [Act.put, List.setIfInBounds_toArray, List.set_cons_zero, List.set_cons_succ]
      refine wpAnyH_done (by kernel_rfl) ?_ _
      have hr7 := fr_row H10.out.fr rfl m.kind (strOf xs)
      have s0 := hr7.cell 0
      have s1 := hr7.cell 1
      simp only [List.getElem?_cons_zero, List.getElem?_cons_succ] at s0 s1
      have S0 := Lib.hid s0
      have S1 := Lib.hid s1
      clear s0 s1 hr7 e0 e1 f0 f1
      go_wp2
      have s0 := S0.out
      have s1 := S1.out
      refine bodyPost_ret (v := .tuple #[.agg #[.int .i64 m.kind, .string (strOf xs)], .int .i64 0]) (by simp [results, Try.results8, go_sem, s0, s1]) rfl ⟨rfl, fr_set_below H10.out.below (by omega) _ _⟩
end Go.Proofs.Ytfopnbfaaikghaa
