/-
  The program's layer 9 (huff), by its walk: join. Conditions: as each theorem's premises say.
-/
import Derived.Test.YtmcobnbahkoopaaVj
namespace Go.Proofs.Ytmcobnbahkoopaa
open Go.RowKit
def slLen : Value → Nat
  | .slice _ n _ => n
  | _ => 0
theorem slLen_slice (A : Option Addr) (n c : Nat) : slLen (.slice A n c) = n := rfl
theorem Seg.kept {w w' : World} {base b0 g off cap : Nat} {l : List Nat} (h : Seg w base g off cap l) (hk : KeptP b0 w w') : Seg w' base g off cap l := by
  obtain ⟨h1, h2, pre, post, h3, h4, h5⟩ := h
  exact ⟨h1, h2, pre, post, h3, h4, hk.rows _ _ _ (by decide) (by decide) h5⟩
theorem Seg.own {w : World} {base g cap : Nat} {l : List Nat} (h : Seg w base g 0 cap l) : w.ownsRow base 3 1 (.slice (some ⟨g, 0, none⟩) l.length cap) l.length (i64s l) := by
  obtain ⟨h1, h2, pre, post, h3, h4, h5⟩ := h
  obtain rfl : pre = [] := List.eq_nil_of_length_eq_zero h3
  have hl := i64s_length l
  refine ⟨by omega, .inr ⟨g, cap, (i64s l ++ post).toArray, rfl, h1, h5, by omega, h2, ?_, ?_⟩⟩
  · rw [List.size_toArray, List.length_append]
    omega
  · rw [List.toList_toArray, List.take_left' (by omega)]
theorem Seg.reads {w : World} {base g cap : Nat} {l : List Nat} (h : Seg w base g 0 cap l) : Reads w (some ⟨g, 0, none⟩) (i64s l) := fun _ =>
  ⟨g, 0, rfl, fun j hj => by
    rw [i64s_length] at hj
    have h1 := h.cell j hj
    rw [i64s_get? l j hj]
    exact h1⟩
/-- What join keeps of the world: what each node is joined to, and the pile. -/
structure JoinW (base : Nat) (w wr : World) (p g cap : Nat) (cs A : List Nat) (L : List Nod) (C : Nat) : Prop where
  seg : Seg wr base g 0 cap A
  pile : PileH wr base p L
  sums : Bm.JoinN cs A L C
  bel : Below base w wr
theorem join_bounds {cs A : List Nat} {L R : List Nod} {C wa a wb b : Nat} (h : Bm.JoinN cs A L C) (hp : L.Perm ((wa, a) :: (wb, b) :: R)) (hm : (Bm.posC cs).sum ≤ 1000000000) : a < A.length ∧ b < A.length ∧ wa + wb ≤ 1000000000 := by
  refine ⟨(h.free (wa, a) (hp.mem_iff.2 (by simp))).1, (h.free (wb, b) (hp.mem_iff.2 (by simp))).1, ?_⟩
  have := h.total
  rw [(hp.map _).sum_nat] at this
  simp only [List.map_cons, List.sum_cons] at this
  omega
theorem join_size {cs A : List Nat} {L : List Nod} {C : Nat} (h : Bm.JoinN cs A L C) (hl : cs.length ≤ 256) (hL : 1 ≤ L.length) : A.length ≤ 511 ∧ L.length ≤ 256 := by
  have h1 := h.count
  have h2 := Bm.lvsTo_len cs cs.length
  have h3 := h.len
  unfold Bm.lvs at h1
  omega
theorem PileH.far {w w' : World} {base p g : Nat} {L : List Nod} {cs : List Value} (h : PileH w base p L) (hr : Row w g 3 cs) (hg : w.grownBy w' (some g)) : PileH w' base p L := by
  obtain ⟨hh, g', cap', hpl⟩ := h
  obtain ⟨post, hl, hrow⟩ := hpl.row
  refine ⟨hh, g', cap', hpl.keepb (hg.block p hpl.var.lt (fun e => ?_)) (hg.block g' hrow.lt (fun e => ?_))⟩
  · injection e with e
    subst e
    have hv := hpl.var
    unfold Row at hv hr
    rw [hr] at hv
    injection hv with hv
    injection hv with _ e
    exact absurd e (by decide)
  · injection e with e
    subst e
    unfold Row at hrow hr
    rw [hr] at hrow
    injection hrow with hrow
    injection hrow with _ e
    exact absurd e (by decide)
theorem Seg.row {w : World} {base g off cap : Nat} {l : List Nat} (h : Seg w base g off cap l) : ∃ cs, Row w g 3 cs ∧ base ≤ g := by
  obtain ⟨h1, _, pre, post, _, _, h5⟩ := h
  exact ⟨_, h5, h1⟩
set_option maxHeartbeats 4000000 in
set_option maxRecDepth 100000 in
theorem ujoin_any (base p : Nat) (cs : List Nat) (L : List Nod) (w : World) (hb : base ≤ w.heap.size) (hl : cs.length ≤ 256) (hm : (Bm.posC cs).sum ≤ 1000000000) (hL : L.Perm (Bm.lvs cs)) (h2 : 2 ≤ L.length) (hp : PileH w base p L) :
    Calls Try.prog 33 #[.pointer (some ⟨p, 0, none⟩), .int .i64 (cs.length : Int)] w fun e w' => ∃ g A c t C, e = .returned (.slice (some ⟨g, 0, none⟩) A.length c) ∧ Reads w' (some ⟨g, 0, none⟩) (i64s A) ∧ Bm.JoinN cs A [t] C ∧ A.length ≤ 512 ∧ Below base w w' := by
  obtain ⟨i0, hi, hz0, hz1, hz2⟩ := info_parts info_in
  have hn2 : 2 ≤ cs.length := by
    have := hL.length_eq
    have h3 := Bm.lvsTo_len cs cs.length
    unfold Bm.lvs at this
    omega
  have HL := Lib.hid hL
  have Hp := Lib.hid hp
  clear hL hp
  go_enter Try.func33, Try.ntmps33
  go_wp2_with (at_make; refine wpList_make_full _ rfl _ _ 22 rfl w.heap.size 3 i0 (.int .i64 0) 1 Try.underlying22 hi hz0 hz1 .i64 .i64 _ _ cs.length rfl rfl ?c1 ?c1 ?c2 ?c3 ?c4 ?_)
  case c1 => omega
  case c2 => first | omega | (rw [hz2]; omega)
  case c3 => unfold maxLen; omega
  try case c4 => exact Nat.le_refl _
  intro w1 hown1 hg1
  have hb1 := below_of_grown hg1
  have hrow1 := row_of_ownI hown1
  have hstart : JoinW base w w1 p w.heap.size cs.length cs (List.replicate cs.length 0) L 0 := by
    obtain ⟨hh, g, cap, hpl⟩ := Hp.out
    exact ⟨⟨hb, by unfold maxLen; omega, [], [], rfl, by simp, by simpa using hrow1⟩, ⟨hh, g, cap, hpl.below hb1⟩, Bm.join_start cs L HL.out, hb1.mono hb⟩
  have Hstart := Lib.hid hstart
  clear hown1 hg1 hb1 hrow1 hstart
  go_wp2
  go_loopw [5] (fun av wr => ∃ (A : List Nat) (L : List Nod) (C g cap : Nat), av = .slice (some ⟨g, 0, none⟩) A.length cap ∧ 1 ≤ L.length ∧ Hid (JoinW base w wr p g cap cs A L C)) (fun av _ => 600 - slLen av)
  case atStart => exact ⟨_, L, 0, w.heap.size, cs.length, by simp, by omega, Hstart⟩
  case round =>
    obtain ⟨A, L, C, g, cap, rfl, hL1, hj⟩ := hrel
    clear Hstart Hp HL
    obtain ⟨hsz, hsz2⟩ := join_size hj.out.sums hl hL1
    have hAc : cs.length ≤ A.length := hj.out.sums.len
    obtain ⟨c0, hc0⟩ : ∃ v, wr.cell? ⟨p, 0, none⟩ = some v ∧ ∃ g' cap', v = .slice (some ⟨g', 0, none⟩) L.length cap' := by
      obtain ⟨hh, g', cap', hpl⟩ := hj.out.pile
      exact ⟨_, hpl.cell, g', cap', rfl⟩
    obtain ⟨hc0, gP, capP, rfl⟩ := hc0
    have Hlen := Lib.hid (fun W => uplen_any (some ⟨gP, 0, none⟩) L.length capP W)
    by_cases h1 : L.length = 1
    · obtain ⟨t, rfl⟩ := List.length_eq_one_iff.1 h1
      have hfin : Reads wr (some ⟨g, 0, none⟩) (i64s A) ∧ Bm.JoinN cs A [t] C ∧ Below base w wr := ⟨hj.out.seg.reads, hj.out.sums, hj.out.bel⟩
      have Hf := Lib.hid hfin
      clear hfin hj hL1 h1
      go_wp2_with fail
      refine (Hlen.out _).mono ?_
      rintro e w2 ⟨rfl, rfl⟩
      go_wp2
      go_ret
      exact ⟨g, A, cap, t, C, rfl, Hf.out.1, Hf.out.2.1, by omega, Hf.out.2.2⟩
    · obtain ⟨n, hn⟩ : ∃ n, L.length = n + 1 + 1 := ⟨L.length - 2, by omega⟩
      have hbr := Nat.le_trans hb hj.out.bel.size
      have Hli := Lib.hid (ulight_any base p (n + 1) L wr hbr (by omega) hn hj.out.pile)
      obtain ⟨wa, hwa⟩ : ∃ x, x = (Bm.at2 L 0).1 := ⟨_, rfl⟩
      obtain ⟨a, ha⟩ : ∃ x, x = (Bm.at2 L 0).2 := ⟨_, rfl⟩
      rw [← hwa, ← ha] at Hli
      clear hwa ha
      have Hlen2 : Hid (∀ W, Calls Try.prog 30 #[.slice (some ⟨gP, 0, none⟩) (n + 1 + 1) capP] W fun e w' => e = .returned (.int .i64 ((n : Int) + 1 + 1)) ∧ W = w') := Lib.hid (fun W => by
        have h5 := Hlen.out W
        rw [hn] at h5
        exact h5)
      rw [hn] at hc0 hsz2
      have Hn : Hid (L.length = n + 1 + 1) := Lib.hid hn
      clear hn h1 hL1 Hlen
      go_wp2_with fail
      refine (Hlen2.out _).mono ?_
      rintro e w2 ⟨rfl, rfl⟩
      clear Hlen2 hc0
      go_wp2_with fail
      refine Hli.out.mono ?_
      rintro e w1 ⟨rfl, L1, hpm1, hle1, hph1, hk1⟩
      have hn1 : L1.length = n + 1 := by have := hpm1.length_eq; rw [Hn.out, List.length_cons] at this; omega
      have Hli2 := Lib.hid (ulight_any base p n L1 w1 (Nat.le_trans hbr hk1.bel.size) (by omega) hn1 hph1)
      have hmem0 : Bm.at2 L1 0 ∈ L1 := by
        unfold Bm.at2
        rw [List.getElem?_eq_getElem (by omega), Option.getD_some]
        exact List.getElem_mem _
      have hab0 := hle1 _ hmem0
      have Hle1 := Lib.hid hle1
      have Hpm1 := Lib.hid hpm1
      have Hk1 := Lib.hid hk1
      obtain ⟨wb, hwb⟩ : ∃ x, x = (Bm.at2 L1 0).1 := ⟨_, rfl⟩
      obtain ⟨b, hb'⟩ : ∃ x, x = (Bm.at2 L1 0).2 := ⟨_, rfl⟩
      have hab : wa ≤ wb := by
        rw [Bm.lt2_iff, ← hwb] at hab0
        simp only at hab0
        omega
      rw [← hwb, ← hb'] at Hli2
      clear hle1 hpm1 hk1 hph1 hmem0 hab0 hwb hb' Hli
      go_wp2_with fail
      refine Hli2.out.mono ?_
      rintro e w2 ⟨rfl, R, hpm2, hle2, hph2, hk2⟩
      have Hpm : Hid (L.Perm ((wa, a) :: (wb, b) :: R)) := Lib.hid (Hpm1.out.trans (hpm2.cons _))
      have HleR : Hid (∀ y ∈ R, wb ≤ y.1) := Lib.hid (fun y hy => by
        have := hle2 y hy
        rw [Bm.lt2_iff] at this
        simp only at this
        omega)
      have Hk2 := Lib.hid (Hk1.out.trans hk2)
      have Hph2 := Lib.hid hph2
      obtain ⟨ba, bb, bw⟩ := join_bounds hj.out.sums Hpm.out hm
      have HR : Hid (R.length = n) := Lib.hid (by have := hpm2.length_eq; rw [hn1, List.length_cons] at this; omega)
      clear hpm2 hle2 hph2 hk2 Hli2 Hle1 Hpm1 Hk1 hn1
      have hseg2 := hj.out.seg.kept Hk2.out
      have Hseg2 := Lib.hid hseg2
      have hbw2 : base ≤ w2.heap.size := Nat.le_trans hbr Hk2.out.bel.size
      clear hseg2
      go_wp2_with fail
      obtain ⟨w3, hw3⟩ : ∃ w3, w3 = (w2.alloc (.cells #[.int .i64 (wa : Int), .int .i64 (a : Int)] 41)).alloc (.cells #[.int .i64 (wb : Int), .int .i64 (b : Int)] 41) := ⟨_, rfl⟩
      have hb3 : Below w2.heap.size w2 w3 := by
        rw [hw3]
        exact ((Below.refl _ _).alloc (Nat.le_refl _) _).alloc (by simp) _
      have hr6 : Row w3 w2.heap.size 41 [.int .i64 (wa : Int), .int .i64 (a : Int)] := by
        rw [hw3]
        exact (Row.new w2 41 [.int .i64 (wa : Int), .int .i64 (a : Int)]).alloc _
      have hr7 : Row w3 (w2.heap.size + 1) 41 [.int .i64 (wb : Int), .int .i64 (b : Int)] := by
        have h5 := Row.new (w2.alloc (.cells #[.int .i64 (wa : Int), .int .i64 (a : Int)] 41)) 41 [.int .i64 (wb : Int), .int .i64 (b : Int)]
        rw [show (w2.alloc (.cells #[.int .i64 (wa : Int), .int .i64 (a : Int)] 41)).heap.size = w2.heap.size + 1 by simp, ← hw3] at h5
        exact h5
      have hseg3 := Hseg2.out.below hb3
      have hph3 : PileH w3 base p R := by
        obtain ⟨hh, g', cap', hpl⟩ := Hph2.out
        exact ⟨hh, g', cap', hpl.below hb3⟩
      have Hk3 := Lib.hid (Hk2.out.trans (KeptP.below hb3 hbw2))
      rw [← hw3]
      have hgl : g < w2.heap.size := Hseg2.out.lt
      generalize w2.heap.size = q6 at *
      have e0 := hr6.cell 0
      have e1 := hr6.cell 1
      have e2 := hr7.cell 0
      have e3 := hr7.cell 1
      simp only [List.getElem?_cons_zero, List.getElem?_cons_succ] at e0 e1 e2 e3
      have k0 := hseg3.cell a ba
      have k1 := hseg3.cell b bb
      rw [Nat.zero_add] at k0 k1
      have f0 := hseg3.free a
      have f1 := hseg3.free b
      obtain ⟨v1, hy1⟩ := cell?_setCell_some (w := w3) (p := ⟨g, a, none⟩) (x := .int .i64 (A.length : Int)) (q := ⟨g, b, none⟩) k1
      have hseg4 := (hseg3.set a ba A.length).set b (by simpa using bb) A.length
      rw [Nat.zero_add, Nat.zero_add] at hseg4
      obtain ⟨w4, hw4⟩ : ∃ w4, w4 = ((w3.setCell ⟨g, a, none⟩ (.int .i64 (A.length : Int))).setCell ⟨g, b, none⟩ (.int .i64 (A.length : Int))).drew := ⟨_, rfl⟩
      have hg4 : w3.grownBy w4 (some g) := by
        rw [hw4]
        exact grown_drew (grown_set (grown_set (grown_refl w3 (some g)) _ _) _ _)
      have hseg4' : Seg w4 base g 0 cap ((A.set a A.length).set b A.length) := by rw [hw4]; exact hseg4
      have Hseg4 := Lib.hid hseg4'
      have Hg4 := Lib.hid hg4
      have Hr6 := Lib.hid hr6
      have Hr7 := Lib.hid hr7
      have Hph3 := Lib.hid hph3
      have Hseg3 := Lib.hid hseg3
      have Hw4 := Lib.hid hw4
      clear hw3 hb3 hr6 hr7 hseg3 hph3 hseg4 hseg4' hg4 hw4 Hseg2 Hph2 Hk2
      go_region
      all_goals rw [show ((w3.setCell ⟨g, a, none⟩ (.int .i64 (A.length : Int))).setCell ⟨g, b, none⟩ (.int .i64 (A.length : Int))).drew = w4 from Hw4.out.symm]
      all_goals clear Hw4 e0 e1 e2 e3 k0 k1 f0 f1 hy1
      have hown4 : w4.ownsRow base 3 1 (.slice (some ⟨g, 0, none⟩) A.length cap) A.length (i64s ((A.set a A.length).set b A.length)) := by
        have h5 := Hseg4.out.own
        rw [List.length_set, List.length_set] at h5
        exact h5
      have Hown4 := Lib.hid hown4
      have hb4 : base ≤ w4.heap.size := Nat.le_trans hbr (Nat.le_trans Hk3.out.bel.size Hg4.out.size)
      clear hown4
      go_wp2_with (at_builtin; refine wpList_append_own _ rfl _ _ 22 rfl base 3 i0 (.int .i64 0) 1 8 Try.underlying22 hi hz0 hz1 hz2 rfl (by decide) _ _ _ rfl (Hown4.out.alloc _) ⟨w4.heap.size, 0, none⟩ 1 1 [.int .i64 0] rfl rfl ?d1 ?d2 ?d3 ?d4 ?d5 ?_)
      case d1 =>
        intro j u hj
        match j, hj with
        | 0, hj => simp at hj; subst hj; simp [Addr.add]
      case d2 => intro u hu; simp at hu; subst hu; rfl
      case d3 => unfold maxLen; omega
      case d4 => omega
      case d5 => simp; omega
      intro u' w7 hown7 hgr7 _
      obtain ⟨_, gN, capN, rfl, hseg7⟩ := seg_of_own (l := (A.set a A.length).set b A.length ++ [0]) (by rw [← i64s_append]; exact hown7) (by omega)
      have hga : w4.grownBy (w4.alloc (.cells #[.int .i64 0] 3)) (some g) := grown_alloc (grown_refl _ _) _
      have hg37 : w3.grownBy w7 (some g) := (Hg4.out.trans hga).trans hgr7
      have Hg37 := Lib.hid hg37
      have Hseg7 := Lib.hid hseg7
      clear hown7 hgr7 hga hg37 hseg7 Hown4 Hseg4 Hg4
      obtain ⟨ics, hrowg, hbg⟩ := Hseg3.out.row
      have hph7 := Hph3.out.far hrowg Hg37.out
      have hr6 : Row w7 q6 41 [.int .i64 (wa : Int), .int .i64 (a : Int)] := Hr6.out.keep (Hg37.out.block _ Hr6.out.lt (fun e => by injection e with e; omega))
      have hr7 : Row w7 (q6 + 1) 41 [.int .i64 (wb : Int), .int .i64 (b : Int)] := Hr7.out.keep (Hg37.out.block _ Hr7.out.lt (fun e => by injection e with e; omega))
      have e0 := hr6.cell 0
      have e1 := hr7.cell 0
      simp only [List.getElem?_cons_zero] at e0 e1
      have hb7 : base ≤ w7.heap.size := Nat.le_trans hbr (Nat.le_trans Hk3.out.bel.size Hg37.out.size)
      have hpush := hppush_any base p (wa + wb) A.length R w7 hb7 (by rw [HR.out]; omega) hph7
      rw [Int.natCast_add] at hpush
      have Hpush := Lib.hid hpush
      have Hbel7 := Lib.hid ((hj.out.bel.trans Hk3.out.bel).trans (below_grown Hg37.out hbg (Nat.le_trans hbr Hk3.out.bel.size)))
      clear hrowg hph7 hr6 hr7 hpush hbg hb4
      go_wp2_with fail
      refine Hpush.out.mono ?_
      rintro e w8 ⟨rfl, L', hpm', hph8, hk8⟩
      have hfin : JoinW base w w8 p gN capN cs ((A.set a A.length).set b A.length ++ [0]) L' (C + (wa + wb)) :=
        ⟨Hseg7.out.kept hk8, hph8, Bm.join_step hj.out.sums Hpm.out hab HleR.out (by omega) hpm', Hbel7.out.trans hk8.bel⟩
      have Hfin := Lib.hid hfin
      have hL'1 : 1 ≤ L'.length := by rw [hpm'.length_eq, List.length_cons]; omega
      clear hfin hpm' hph8 hk8 Hpush e0 e1
      go_wp2
      go_roundw
      case rel => exact ⟨_, L', _, gN, capN, by simp, hL'1, Hfin⟩
      case measure => simp [slLen]; omega
end Go.Proofs.Ytmcobnbahkoopaa
