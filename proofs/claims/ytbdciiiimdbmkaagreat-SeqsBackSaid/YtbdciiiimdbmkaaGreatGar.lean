/-
  Of (layer 5): its counts lie in a new block. Condition: up to a million bytes.
  The program's layer 5 (count), by its walk: Fair, Log. Conditions: as each theorem's premises say.
  Layer 16's laws: same (two slices of steps), by its walk. Conditions: as each theorem's premises say.
-/
import Derived.Test.YtbdciiiimdbmkaaGreatGap
import Derived.BigQuiet
import Derived.WalkSmall
import Derived.Deep.QuietTactic
namespace Go.Proofs.YtbdciiiimdbmkaaGreat
open Go.RowKit

set_option maxHeartbeats 1000000 in
set_option maxRecDepth 100000 in
theorem nof_far (A : Option Addr) (c : Nat) (bs : List Nat) (w : World) (hl : bs.length ≤ 1000000) (hlt : ∀ x ∈ bs, x < 256) (hr : Reads w A (u8s bs)) :
    Calls Tryz.prog 61 #[.slice A bs.length c] w fun e w' => ∃ A' c', e = .returned (.slice A' (Bm.topB bs) c') ∧ (Reads w' A' (i64s (Bm.countsOf bs)) ∧ ∀ a, A' = some a → w.heap.size ≤ a.block) ∧ Below w.heap.size w w' := by
  rcases Nat.eq_zero_or_pos bs.length with h0 | h0
  · have hb : bs = [] := List.eq_nil_of_length_eq_zero h0
    subst hb
    go_enter Tryz.func61, Tryz.ntmps61
    go_wp2
    go_ret
    exact ⟨none, 0, rfl, ⟨fun h => absurd rfl h, fun a h => by cases h⟩, Below.refl _ _⟩
  have hz : ((bs.length : Int) == 0) = false := by rw [beq_eq_false_iff_ne]; omega
  obtain ⟨i0, hi, hz0, hz1, hz2⟩ := info_parts info_in
  have Hr := Lib.hid hr
  have Hlt := Lib.hid hlt
  have hT := Bm.topB_le bs hlt
  have hT0 := Bm.topB_pos bs (by intro e; rw [e] at h0; simp at h0)
  have Hmx := Lib.hid (nmax_any A c bs w (by omega) h0 hlt hr)
  clear hr hlt
  obtain ⟨g0, hg0⟩ : ∃ g, g = w.heap.size := ⟨_, rfl⟩
  have Hg0 := Lib.hid hg0
  obtain ⟨T, hTe⟩ : ∃ T, T = Bm.topB bs := ⟨_, rfl⟩
  have HTe := Lib.hid hTe
  have Hmx2 : Hid (Calls Tryz.prog 84 #[.slice A bs.length c] w fun e w' => e = .returned (.int .u8 ((T : Int) - 1)) ∧ w = w') := Lib.hid (by rw [hTe]; exact Hmx.out)
  rw [← hTe] at hT hT0 ⊢
  clear hg0 hTe Hmx
  go_enter Tryz.func61, Tryz.ntmps61
  go_wp2_with fail
  refine Hmx2.out.mono ?_
  rintro e w' ⟨rfl, rfl⟩
  clear Hmx2
  have e1 : ((T : Int) - 1) + 1 = (T : Int) := by omega
  go_wp2_with (at_make; refine wpList_make_full _ rfl _ _ 57 rfl w.heap.size 3 i0 (.int .i64 0) 1 Tryz.underlying57 hi hz0 hz1 .i64 .i64 _ _ T rfl rfl ?c1 ?c1 ?c2 ?c3 ?c4 ?_)
  case c1 => omega
  case c2 => first | omega | (rw [hz2]; omega)
  case c3 => unfold maxLen; omega
  try case c4 => exact Nat.le_refl _
  intro w1 hown1 hg1
  have hb1 := below_of_grown hg1
  have hr1 := row_of_ownI hown1
  rw [← Hg0.out] at hr1 ⊢
  have Hb1 := Lib.hid hb1
  rw [HTe.out, ← Bm.countsTo_zero] at hr1
  have Hr1 := Lib.hid hr1
  clear hown1 hg1 hb1 hr1 hi hz0 hz1 hz2 e1 hz
  go_wp2
  go_loopw [16] (fun i wr => ∃ k : Nat, k ≤ bs.length ∧ i = .int .i64 (k : Int) ∧ Hid (Row wr g0 3 (i64s (Bm.countsTo bs k))) ∧ Hid (Below w.heap.size w wr)) (fun i _ => bs.length - (intOf i).toNat)
  case atStart => exact ⟨0, by omega, rfl, Hr1, Hb1⟩
  case round =>
    obtain ⟨k, hk, rfl, hrow, hbel⟩ := hrel
    clear Hr1 Hb1
    by_cases hkl : k < bs.length
    · have hne : bs ≠ [] := by intro e; rw [e] at hkl; simp at hkl
      obtain ⟨g, off, rfl, hc⟩ := reads_u8 (reads_on Hr.out hbel.out) hne
      have c0 := hc k hkl
      have hb := Hlt.out bs[k] (List.getElem_mem hkl)
      have hbT : bs[k] < T := by rw [HTe.out]; exact Bm.topB_mem bs _ (List.getElem_mem hkl)
      have hcb : (bs.take k).count bs[k] ≤ bs.length := Nat.le_trans List.count_le_length (by rw [List.length_take]; omega)
      have hcell := hrow.out.cell bs[k]
      have hgt := Bm.countsTo_get bs k bs[k] (by rw [← HTe.out]; exact hbT)
      simp only [i64s, List.getElem?_map, hgt, Option.map_some] at hcell
      have hfree := hrow.out.free bs[k]
      have Hn := Lib.hid (Bm.countsTo_next bs k hkl)
      clear hc hgt
      generalize (bs.take k).count bs[k] = q at hcb hcell Hn
      generalize bs[k] = b at c0 hb hbT hcell hfree Hn
      go_wp2
      go_roundw
      case rel =>
        refine ⟨k + 1, by omega, by go_num, Lib.hid ?_, Lib.hid (hbel.out.setCell (by rw [Hg0.out]; exact Nat.le_refl _) _)⟩
        rw [Hn.out]
        have h1 := hrow.out.set_ b (.int .i64 ((q : Int) + 1))
        rw [show i64s ((Bm.countsTo bs k).set b (q + 1)) = (i64s (Bm.countsTo bs k)).set b (.int .i64 ((q : Int) + 1)) by simp [i64s, List.map_set]]
        exact h1
      case measure => simp [intOf]; omega
    · obtain rfl : k = bs.length := by omega
      rw [Bm.countsTo_all] at hrow
      go_wp2
      go_ret
      exact ⟨some ⟨g0, 0, none⟩, T, rfl, ⟨row_reads hrow.out, fun a e => by injection e with e; rw [← e]; exact Nat.le_of_eq Hg0.out.symm⟩, hbel.out⟩
end Go.Proofs.YtbdciiiimdbmkaaGreat

namespace Go.Proofs.YtbdciiiimdbmkaaGreat
open Go.RowKit
theorem nfair_is : CFair := nfair_any
namespace Bm
theorem right_nat (l : List Int) (h : Right l) : ∃ cs : List Nat, l = cs.map (fun n : Nat => (n : Int)) ∧ l.map Int.toNat = cs ∧ cs.length = l.length ∧ (∀ x ∈ cs, x ≤ 1048576) ∧ cs.length ≤ 256 ∧ posN cs = symN l ∧ 0 < cs.sum := by
  have hl : l = (l.map Int.toNat).map (fun n : Nat => (n : Int)) := by
    rw [List.map_map]
    conv => lhs; rw [← List.map_id l]
    apply List.map_congr_left
    intro x hx
    have := h.2.1 x hx
    simp only [Function.comp_apply, id]
    omega
  refine ⟨l.map Int.toNat, hl, rfl, by simp, ?_, by simpa using h.1, ?_, ?_⟩
  · intro x hx
    obtain ⟨y, hy, rfl⟩ := List.mem_map.1 hx
    have := h.2.1 y hy
    omega
  · unfold posN symN
    rw [List.countP_map]
    apply List.countP_congr
    intro x _
    simp
  · obtain ⟨x, hx, h0⟩ := h.2.2
    have h1 := mem_le_sum (l.map Int.toNat) x.toNat (List.mem_map_of_mem hx)
    omega
theorem sum_cast (cs : List Nat) : (cs.map (fun n : Nat => (n : Int))).sum = ((cs.sum : Nat) : Int) := by
  induction cs with
  | nil => simp
  | cons a l ih => rw [List.map_cons, List.sum_cons, ih, List.sum_cons]; omega
theorem logM_max (sym q : Nat) : logM sym q = if max (4 * sym) q ≤ 32 then 5 else if max (4 * sym) q ≤ 64 then 6 else if max (4 * sym) q ≤ 128 then 7 else if max (4 * sym) q ≤ 256 then 8 else 9 := by
  unfold logM
  simp only [Nat.max_le]
theorem logM_next (sym q b : Nat) (h5 : 5 ≤ b) (h : b ≤ logM sym q) : b < logM sym q ↔ b < 9 ∧ 2 ^ b < max (4 * sym) q := by
  rw [logM_max] at h ⊢
  generalize max (4 * sym) q = M at h ⊢
  have h9 : b ≤ 9 := by
    by_cases h1 : M ≤ 32
    · rw [if_pos h1] at h; omega
    rw [if_neg h1] at h
    by_cases h2 : M ≤ 64
    · rw [if_pos h2] at h; omega
    rw [if_neg h2] at h
    by_cases h3 : M ≤ 128
    · rw [if_pos h3] at h; omega
    rw [if_neg h3] at h
    by_cases h4 : M ≤ 256
    · rw [if_pos h4] at h; omega
    rw [if_neg h4] at h; omega
  have hb : b = 5 ∧ 2 ^ b = 32 ∨ b = 6 ∧ 2 ^ b = 64 ∨ b = 7 ∧ 2 ^ b = 128 ∨ b = 8 ∧ 2 ^ b = 256 ∨ b = 9 ∧ 2 ^ b = 512 := by
    have hb : b = 5 ∨ b = 6 ∨ b = 7 ∨ b = 8 ∨ b = 9 := by omega
    rcases hb with rfl | rfl | rfl | rfl | rfl <;> decide
  generalize 2 ^ b = P at hb ⊢
  by_cases h1 : M ≤ 32
  · rw [if_pos h1] at h ⊢; omega
  rw [if_neg h1] at h ⊢
  by_cases h2 : M ≤ 64
  · rw [if_pos h2] at h ⊢; omega
  rw [if_neg h2] at h ⊢
  by_cases h3 : M ≤ 128
  · rw [if_pos h3] at h ⊢; omega
  rw [if_neg h3] at h ⊢
  by_cases h4 : M ≤ 256
  · rw [if_pos h4] at h ⊢; omega
  rw [if_neg h4] at h ⊢; omega
end Bm

set_option maxHeartbeats 1000000 in
set_option maxRecDepth 100000 in
theorem nlog_is : CLog := by
  intro A c l w hl hok hr
  have Hri := Lib.hid (nright_any A c l w (by omega) hr)
  by_cases h : Bm.Right l
  · have hB : Bm.rightB l = true := decide_eq_true h
    rw [hB] at Hri
    obtain ⟨cs, hcs, hcs2, hlen, hm, hlen2, hpos, h0⟩ := Bm.right_nat l h
    have hsum := Bm.sum_le cs 1048576 hm
    have Hsy := Lib.hid (nsymbols_any A c l w (by omega) hr)
    have hr2 : Reads w A (i64s cs) := by rw [← i64z_nat, ← hcs]; exact hr
    have htt := ntotal_any A c cs w (by omega) (by omega) hr2
    rw [hlen] at htt
    have Htt := Lib.hid htt
    have hlog : Bm.logA l = Bm.logM (Bm.symN l) (cs.sum / 8) := by
      unfold Bm.logA
      rw [if_pos h]
      congr 2
      rw [hcs, Bm.sum_cast, Int.toNat_natCast]
    have hsl := Bm.symN_le l
    rw [hlog]
    clear hlog htt hr2 hpos hcs2 hm hB h hr hok
    generalize Bm.symN l = sy at hsl Hsy ⊢
    generalize cs.sum = S at hsum Htt h0 ⊢
    have hmx : max (4 * (sy : Int)) ((S : Int) / 8) = ((max (4 * sy) (S / 8) : Nat) : Int) := by omega
    have hMb : max (4 * sy) (S / 8) ≤ 1000000000 := by omega
    have Hnx := Lib.hid (fun b h5 hb => Bm.logM_next sy (S / 8) b h5 hb)
    have hLo := Bm.logM_ok sy (S / 8) (by omega)
    obtain ⟨h5, h9, _⟩ := hLo
    generalize Bm.logM sy (S / 8) = L at Hnx h5 h9 ⊢
    generalize max (4 * sy) (S / 8) = M at hmx hMb Hnx
    clear hcs
    go_enter Tryz.func85, Tryz.ntmps85
    go_wp2_with fail
    refine Hri.out.mono ?_
    rintro e w' ⟨rfl, rfl⟩
    go_wp2_with fail
    refine Hsy.out.mono ?_
    rintro e w' ⟨rfl, rfl⟩
    go_wp2_with fail
    refine Htt.out.mono ?_
    rintro e w' ⟨rfl, rfl⟩
    clear Hri Hsy Htt
    go_wp2
    clear hmx
    go_loop [4] (fun i => ∃ b : Nat, 5 ≤ b ∧ b ≤ L ∧ i = .int .i64 (b : Int)) (fun i => 9 - (intOf i).toNat)
    case atStart => exact ⟨5, by omega, by omega, rfl⟩
    case round =>
      obtain ⟨b, hb5, hbL, rfl⟩ := hrel
      have hnx := Hnx.out b hb5 hbL
      have hP := Bm.pow_log b (by omega) (by omega)
      have Hpd : Hid ((2 : Int) ^ b = ((2 ^ b : Nat) : Int)) := Lib.hid (by simp)
      generalize 2 ^ b = P at hP Hpd hnx
      have hw : wrap64 (P : Int) = (P : Int) := wrap_in _ (by omega) (by omega)
      by_cases hlt : b < L
      · have hn := hnx.1 hlt
        have d1 : decide ((b : Int) < 9) = true := decide_eq_true (by omega)
        have d2 : decide (P < M) = true := decide_eq_true (by omega)
        have hpd := Hpd.out
        clear hnx hn
        go_wp2
        go_round
        case rel => exact ⟨b + 1, by omega, by omega, by go_num⟩
        case measure => simp [intOf]; omega
      · obtain rfl : b = L := by omega
        have hn : ¬ (b < 9 ∧ P < M) := fun h => hlt (hnx.2 h)
        clear hnx
        by_cases h9b : b < 9
        · have d1 : decide ((b : Int) < 9) = true := decide_eq_true (by omega)
          have d2 : decide (P < M) = false := decide_eq_false (fun h => hn ⟨h9b, h⟩)
          have hpd := Hpd.out
          clear hn
          go_wp2
          go_ret
          exact ⟨rfl, Below.refl _ _⟩
        · have d1 : decide ((b : Int) < 9) = false := decide_eq_false (by omega)
          clear hn
          go_wp2
          go_ret
          exact ⟨rfl, Below.refl _ _⟩
  · have hB : Bm.rightB l = false := decide_eq_false h
    have hL : Bm.logA l = 0 := by unfold Bm.logA; rw [if_neg h]
    rw [hB] at Hri
    rw [hL]
    clear h hB hL
    go_enter Tryz.func85, Tryz.ntmps85
    go_wp2_with fail
    refine Hri.out.mono ?_
    rintro e w' ⟨rfl, rfl⟩
    go_wp2
    go_ret
    exact ⟨rfl, Below.refl _ _⟩
end Go.Proofs.YtbdciiiimdbmkaaGreat

namespace Go.Proofs.YtbdciiiimdbmkaaGreat
open Go.RowKit

theorem seq_stood : Tryz.prog.stoodInHeld 38 = false := by kernel_rfl
theorem seq_guard : Tryz.prog.eqGuardType Tryz.prog.depth 38 = false := by kernel_rfl
set_option maxHeartbeats 400000 in
set_option maxRecDepth 100000 in
theorem qsame_any (A B : Option Addr) (c d : Nat) (a b : List Bm.StZ) (w : World) (ha : a.length ≤ 1000000000) (hb : b.length ≤ 1000000000) (hra : StzR w A a) (hrb : StzR w B b) :
    Calls Tryz.prog 11 #[.slice A a.length c, .slice B b.length d] w fun e w' => e = .returned (.bool (decide (a = b))) ∧ Below w.heap.size w w' := by
  have Ha := Lib.hid hra
  have Hb := Lib.hid hrb
  have hst := seq_stood
  have hgu := seq_guard
  clear hra hrb
  obtain ⟨r, hres⟩ : ∃ r, r = decide (a = b) := ⟨_, rfl⟩
  rw [← hres]
  by_cases hlen : a.length = b.length
  · have Hres := Lib.hid hres
    have hl : ((a.length : Int) != (b.length : Int)) = false := by rw [hlen]; simp
    have Hlen := Lib.hid hlen
    clear hres hlen
    go_enter Tryz.func11, Tryz.ntmps11
    go_wp2
    clear hl
    go_loopw [5, 13] (fun _ i wr => ∃ k : Nat, k ≤ a.length ∧ i = .int .i64 (k : Int) ∧ Hid (a.take k = b.take k) ∧ Hid (Below w.heap.size w wr)) (fun _ i _ => a.length - (intOf i).toNat)
    case atStart => exact ⟨0, by omega, rfl, Lib.hid (by simp), Lib.hid (Below.refl _ _)⟩
    case round =>
      obtain ⟨k, hk, rfl, Htk, hbel⟩ := hrel
      by_cases hkl : k < a.length
      · have hkb : k < b.length := by have := Hlen.out; omega
        obtain ⟨g, off, rfl, hg, hc⟩ := (Ha.out.below hbel.out) (by omega)
        obtain ⟨g2, off2, rfl, hg2, hc2⟩ := (Hb.out.below hbel.out) (by omega)
        obtain ⟨c0, c1, c2⟩ := hc k hkl
        obtain ⟨e0, e1, e2⟩ := hc2 k hkb
        have hn : a.take k = b.take k → a[k] = b[k] → a.take (k + 1) = b.take (k + 1) := fun h1 h2 => by
          rw [List.take_succ_eq_append_getElem hkl, List.take_succ_eq_append_getElem hkb, h1, h2]
        have hd : a[k] ≠ b[k] → false = r := fun h => by
          rw [Hres.out]; symm; exact decide_eq_false (fun e => h (by subst e; rfl))
        have Hn := Lib.hid hn
        have Hd := Lib.hid hd
        clear hc hc2 hn hd
        generalize a[k] = x at c0 c1 c2 Hn Hd
        generalize b[k] = y at e0 e1 e2 Hn Hd
        obtain ⟨x0, x1, x2⟩ := x
        obtain ⟨y0, y1, y2⟩ := y
        dsimp only at c0 c1 c2 e0 e1 e2
        by_cases hxy : ((x0, x1, x2) : Bm.StZ) = (y0, y1, y2)
        · injection hxy with q0 q1
          injection q1 with q1 q2
          subst q0 q1 q2
          go_wp2_with fail
          go_quiet (fail)
          go_wp2
          go_roundw
          case rel =>
            exact ⟨k + 1, by omega, by go_num, Lib.hid (Hn.out Htk.out (by trivial)), Lib.hid (below_drewN hbel.out _)⟩
          case measure => simp [intOf]; omega
        · have hf := Lib.hid (Hd.out hxy)
          have hne : ¬ (x0 = y0 ∧ x1 = y1 ∧ x2 = y2) := fun h => hxy (by rw [h.1, h.2.1, h.2.2])
          clear Hn Hd Htk hxy
          have key : (x0 == y0) = false ∨ ((x0 == y0) = true ∧ (x1 == y1) = false) ∨ ((x0 == y0) = true ∧ (x1 == y1) = true ∧ (x2 == y2) = false) := by
            simp only [beq_eq_false_iff_ne, beq_iff_eq]
            omega
          rcases key with h1 | ⟨h1, h2⟩ | ⟨h1, h2, h3⟩
          all_goals
            go_wp2_with fail
            go_quiet (fail)
            go_wp2
            go_ret
            exact ⟨congrArg (fun x => Ending.returned (Value.bool x)) hf.out, below_drewN hbel.out _⟩
      · obtain rfl : k = a.length := by omega
        have hf : true = r := by
          have h1 := Htk.out
          rw [List.take_length, Hlen.out, List.take_length] at h1
          rw [Hres.out, decide_eq_true h1]
        have Hf := Lib.hid hf
        clear hf Htk
        go_wp2
        go_ret
        exact ⟨congrArg (fun x => Ending.returned (Value.bool x)) Hf.out, hbel.out⟩
  · have hf : decide (a = b) = false := decide_eq_false (fun e => hlen (by rw [e]))
    have hl : ((a.length : Int) != (b.length : Int)) = true := by rw [bne_iff_ne]; omega
    rw [hf] at hres
    subst hres
    clear hlen hf
    go_enter Tryz.func11, Tryz.ntmps11
    go_wp2
    go_ret
    exact ⟨rfl, Below.refl _ _⟩
end Go.Proofs.YtbdciiiimdbmkaaGreat
