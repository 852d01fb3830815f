/-
  The program's layer 5 (count), by its walk: Share. Conditions: as each theorem's premises say.
-/
import Derived.Test.YtbdciiiimdbmkaaGreatGar
import Derived.StillTailTactics
namespace Go.Proofs.YtbdciiiimdbmkaaGreat
open Go.RowKit
namespace Bm
/-- One less at the first greatest, where the sum is still above the size. -/
theorem decs_step (size k : Nat) (p : List Nat) (hp : posN p ≤ size) (hs : p.sum = size + (k + 1)) :
    firstMax p < p.length ∧ 2 ≤ maxL p ∧ (p.modify (firstMax p) (· - 1)).sum = size + k ∧ posN (p.modify (firstMax p) (· - 1)) ≤ size := by
  have hne : p ≠ [] := by rintro rfl; simp at hs
  have hlt := firstMax_lt p hne
  have hget := firstMax_get p hlt
  have h2 : 2 ≤ maxL p := by
    rcases Nat.lt_or_ge (maxL p) 2 with h1 | h1
    · have := sum_le_posN p (fun x hx => by have := maxL_le p x hx; omega)
      omega
    · exact h1
  have hsum := sum_modify p (firstMax p) (· - 1) hlt
  rw [hget] at hsum
  have hsame : SamePos (p.modify (firstMax p) (· - 1)) p := by
    refine ⟨by simp, fun i => ?_⟩
    rw [get_modify]
    split
    · next e =>
      subst e
      rw [List.getElem?_eq_getElem hlt, hget]
      simp
      omega
    · exact Iff.rfl
  exact ⟨hlt, h2, by omega, by rw [hsame.posN]; exact hp⟩
theorem modify_set (p : List Nat) (k : Nat) (f : Nat → Nat) (h : k < p.length) : p.modify k f = p.set k (f p[k]) := by
  apply List.ext_getElem?
  intro i
  rw [get_modify, List.getElem?_set]
  split
  · next e => subst e; simp [h]
  · rfl
theorem shareA_no (l : List Int) (log : Int) (h : ¬ ShareOk l log) : shareA l log = [] := by unfold shareA; rw [if_neg h]
end Bm
theorem i64s_set' (l : List Nat) (i b : Nat) : (i64s l).set i (.int .i64 (b : Int)) = i64s (l.set i b) := by simp [i64s, List.map_set]

set_option maxHeartbeats 2000000 in
set_option maxRecDepth 100000 in
theorem nshare_is : CShare := by
  intro A c l log w hl hok hlog hr
  have Hri := Lib.hid (nright_any A c l w (by omega) hr)
  have Hsz := Lib.hid (nsized_any log w)
  by_cases h : Bm.Right l
  case neg =>
    have hB : Bm.rightB l = false := decide_eq_false h
    have hno : ¬ Bm.ShareOk l log := fun h1 => h h1.1
    rw [hB] at Hri
    rw [Bm.shareA_no l log hno, decide_eq_false hno]
    clear h hB hno Hsz
    go_enter Tryz.func86, Tryz.ntmps86
    go_wp2_with fail
    refine Hri.out.mono ?_
    rintro e w' ⟨rfl, rfl⟩
    go_wp2
    go_ret2
    exact ⟨none, 0, rfl, fun h => absurd rfl h, Below.refl _ _⟩
  have hB : Bm.rightB l = true := decide_eq_true h
  rw [hB] at Hri
  by_cases hs : Bm.sizedB log = true
  case neg =>
    have hs0 : Bm.sizedB log = false := by simpa using hs
    have hno : ¬ Bm.ShareOk l log := fun h1 => hs (decide_eq_true ⟨h1.2.1, h1.2.2.1⟩)
    rw [hs0] at Hsz
    rw [Bm.shareA_no l log hno, decide_eq_false hno]
    clear h hB hno hs hs0
    go_enter Tryz.func86, Tryz.ntmps86
    go_wp2_with fail
    refine Hri.out.mono ?_
    rintro e w' ⟨rfl, rfl⟩
    go_wp2_with fail
    refine Hsz.out.mono ?_
    rintro e w' ⟨rfl, rfl⟩
    go_wp2
    go_ret2
    exact ⟨none, 0, rfl, fun h => absurd rfl h, Below.refl _ _⟩
  obtain ⟨h5, h9⟩ : 5 ≤ log ∧ log ≤ 9 := of_decide_eq_true hs
  rw [hs] at Hsz
  have Hsy := Lib.hid (nsymbols_any A c l w (by omega) hr)
  obtain ⟨b, rfl⟩ := Int.eq_ofNat_of_zero_le (show 0 ≤ log by omega)
  have hP := Bm.pow_log b (by omega) (by omega)
  have hsO : Bm.ShareOk l (b : Int) ↔ Bm.symN l ≤ 2 ^ b := ⟨fun h1 => by have := h1.2.2.2; rwa [Int.toNat_natCast] at this, fun h1 => ⟨h, h5, h9, by rwa [Int.toNat_natCast]⟩⟩
  have hsA : Bm.ShareOk l (b : Int) → Bm.shareA l (b : Int) = (Bm.shareM (l.map Int.toNat) (2 ^ b)).map (fun n : Nat => (n : Int)) := fun h1 => by unfold Bm.shareA; rw [if_pos h1, Int.toNat_natCast]
  have Hpd : Hid ((2 : Int) ^ b = ((2 ^ b : Nat) : Int)) := Lib.hid (by simp)
  generalize 2 ^ b = P at hP hsO hsA Hpd
  have hw : wrap64 (P : Int) = (P : Int) := wrap_in _ (by omega) (by omega)
  have hsl := Bm.symN_le l
  have hl256 := h.1
  by_cases hle : Bm.symN l ≤ P
  case neg =>
    have hno : ¬ Bm.ShareOk l (b : Int) := fun h1 => hle (hsO.1 h1)
    rw [Bm.shareA_no l _ hno, decide_eq_false hno]
    have hd : decide (P < Bm.symN l) = true := decide_eq_true (by omega)
    have hpd := Hpd.out
    clear h hB hno hs hsO hsA
    generalize Bm.symN l = sy at hd hsl Hsy hle
    go_enter Tryz.func86, Tryz.ntmps86
    go_wp2_with fail
    refine Hri.out.mono ?_
    rintro e w' ⟨rfl, rfl⟩
    go_wp2_with fail
    refine Hsz.out.mono ?_
    rintro e w' ⟨rfl, rfl⟩
    go_wp2_with fail
    refine Hsy.out.mono ?_
    rintro e w' ⟨rfl, rfl⟩
    go_wp2
    go_ret2
    exact ⟨none, 0, rfl, fun h => absurd rfl h, Below.refl _ _⟩
  have hyes := hsO.2 hle
  rw [hsA hyes, decide_eq_true hyes, i64z_nat]
  obtain ⟨cs, hcs, hcs2, hlen, hm, hlen2, hpos, h0⟩ := Bm.right_nat l h
  rw [hcs2]
  have hr2 : Reads w A (i64s cs) := by rw [← i64z_nat, ← hcs]; exact hr
  have Hr2 := Lib.hid hr2
  have Hparts : Hid (Calls Tryz.prog 101 #[.slice A l.length c, .int .i64 (P : Int)] w fun e w' => ∃ g, e = .returned (.slice (some ⟨g, 0, none⟩) l.length l.length) ∧ w.heap.size ≤ g ∧ Row w' g 3 (i64s (Bm.parts cs P)) ∧ Below w.heap.size w w') := Lib.hid (by
    have h1 := nparts_any A c cs P w hlen2 hm (by omega) hr2
    rw [hlen] at h1
    exact h1)
  have Hgr : Hid (∀ W, Below w.heap.size w W → Calls Tryz.prog 102 #[.slice A l.length c] W fun e w' => e = .returned (.int .i64 (Bm.firstMax cs : Int)) ∧ W = w') := Lib.hid (fun W hb => by
    have h1 := ngreatest_any A c cs W (by omega) (fun x hx => by have := hm x hx; omega) (reads_on hr2 hb)
    rw [hlen] at h1
    exact h1)
  have hspec := Bm.share_spec cs P h0 (by rw [hpos]; exact hle)
  have hplen : (Bm.parts cs P).length = l.length := by simp [Bm.parts, hlen]
  have hpsame := Bm.parts_same cs P
  have hppos : Bm.posN (Bm.parts cs P) ≤ P := by rw [hpsame.posN, hpos]; exact hle
  have hpb : ∀ x ∈ Bm.parts cs P, x ≤ 1000000000 := fun x hx => by
    unfold Bm.parts at hx
    obtain ⟨y, hy, rfl⟩ := List.mem_map.1 hx
    have h1 := hm y hy
    unfold Bm.partN
    split
    · omega
    · have h2 : y * P / cs.sum ≤ y * P := Nat.div_le_self _ _
      have h3 : y * P ≤ 1048576 * 512 := Nat.mul_le_mul h1 hP.2
      omega
  have hpsum := Bm.sum_le (Bm.parts cs P) 1000000000 hpb
  rw [hplen] at hpsum
  have hfl : Bm.firstMax cs < l.length := by rw [← hlen]; exact Bm.firstMax_lt cs (by rintro rfl; simp at h0)
  have hsh : Bm.shareM cs P = if (Bm.parts cs P).sum < P then (Bm.parts cs P).modify (Bm.firstMax cs) (· + (P - (Bm.parts cs P).sum)) else Bm.decs ((Bm.parts cs P).sum - P) (Bm.parts cs P) := rfl
  have hRlen : (Bm.shareM cs P).length = l.length := by rw [hspec.2.1, hlen]
  rw [List.length_map, hRlen]
  have Htot : Hid (∀ W B d, Reads W B (i64s (Bm.parts cs P)) → Calls Tryz.prog 99 #[.slice B l.length d] W fun e w' => e = .returned (.int .i64 ((Bm.parts cs P).sum : Int)) ∧ W = w') := Lib.hid (fun W B d h1 => by
    have h2 := ntotal_any B d (Bm.parts cs P) W (by rw [hplen]; omega) (by omega) h1
    rw [hplen] at h2
    exact h2)
  generalize Bm.shareM cs P = R at hsh hRlen ⊢
  generalize Bm.parts cs P = p0 at hplen hppos hpb hpsum hsh Htot Hparts
  have HR := Lib.hid hsh
  have Hpb := Lib.hid hpb
  have Hplen := Lib.hid hplen
  obtain ⟨S0, hS0⟩ : ∃ S, S = p0.sum := ⟨_, rfl⟩
  have Hps := Lib.hid hS0
  rw [← hS0] at hpsum HR Htot
  clear hS0
  clear hsh hpb hplen hspec hpsame hpos hm hcs2 hr2 hcs hsO hsA hyes hB hs h hr hok hlog hlen hlen2 hRlen h0
  generalize Bm.symN l = sy at hle Hsy hsl
  generalize Bm.firstMax cs = f at Hgr hfl HR
  have hd : decide (P < sy) = false := decide_eq_false (by omega)
  have hpd := Hpd.out
  clear Hr2
  clear cs
  generalize l.length = n at *
  clear l
  go_enter Tryz.func86, Tryz.ntmps86
  go_wp2_with fail
  refine Hri.out.mono ?_
  rintro e w' ⟨rfl, rfl⟩
  go_wp2_with fail
  refine Hsz.out.mono ?_
  rintro e w' ⟨rfl, rfl⟩
  go_wp2_with fail
  refine Hsy.out.mono ?_
  rintro e w' ⟨rfl, rfl⟩
  go_wp2_with fail
  refine Hparts.out.mono ?_
  rintro e w1 ⟨g, rfl, hg, hrow, hb1⟩
  have Hrow := Lib.hid hrow
  have Hb1 := Lib.hid hb1
  clear hrow hb1 Hri Hsz Hsy Hparts hd hpd hw
  go_wp2_with fail
  refine (Htot.out w1 _ _ (row_reads Hrow.out)).mono ?_
  rintro e w' ⟨rfl, rfl⟩
  clear Htot
  by_cases hlt : S0 < P
  · have hd1 : decide ((0 : Int) < (P : Int) - (S0 : Int)) = true := decide_eq_true (by omega)
    go_wp2_with fail
    refine (Hgr.out w1 Hb1.out).mono ?_
    rintro e w' ⟨rfl, rfl⟩
    clear Hgr
    rw [if_pos hlt] at HR
    have hfp : f < p0.length := by rw [Hplen.out]; exact hfl
    have hc0 := Hrow.out.cell f
    rw [i64s_get? p0 f hfp] at hc0
    have hf0 := Hrow.out.free f
    have hx := Hpb.out p0[f] (List.getElem_mem hfp)
    have HR2 : Hid (R = p0.set f (p0[f] + (P - S0))) := Lib.hid (by rw [HR.out, Bm.modify_set p0 f _ hfp])
    clear HR
    generalize p0[f] = x at hc0 hx HR2
    have hxs : (x : Int) + ((P : Int) - (S0 : Int)) = ((x + (P - S0) : Nat) : Int) := by omega
    have Hxs := Lib.hid hxs
    clear hxs hfp
    go_wp2
    go_loop [8] (fun m => m = .int .i64 ((P : Int) - (S0 : Int))) (fun _ => 0)
    case atStart => rfl
    case round =>
      subst hrel
      have hd2 : decide ((P : Int) - (S0 : Int) < 0) = false := decide_eq_false (by omega)
      go_wp2
      go_ret2
      refine ⟨some ⟨g, 0, none⟩, ⟨n, rfl⟩, ?_, Hb1.out.setCell (p := ⟨g, f, none⟩) hg _⟩
      rw [HR2.out, ← i64s_set']
      have h1 := Hrow.out.set_ f (.int .i64 ((x : Int) + ((P : Int) - (S0 : Int))))
      rw [Hxs.out] at h1 ⊢
      exact row_reads h1
  · have hd1 : decide ((0 : Int) < (P : Int) - (S0 : Int)) = false := decide_eq_false (by omega)
    rw [if_neg hlt] at HR
    go_wp2
    clear hd1
    go_loopw [8] (fun m wr => ∃ (j : Nat) (p : List Nat), m = .int .i64 (-(j : Int)) ∧ j ≤ 1000000000000 ∧ Hid (R = Bm.decs j p) ∧ Hid (p.length = n) ∧ Hid (Bm.posN p ≤ P ∧ p.sum = P + j) ∧ Hid (∀ x ∈ p, x ≤ 1000000000) ∧ Hid (Row wr g 3 (i64s p)) ∧ Hid (Below w.heap.size w wr)) (fun m _ => (-(intOf m)).toNat)
    case atStart => exact ⟨S0 - P, p0, by go_num, by omega, HR, Hplen, Lib.hid ⟨hppos, by have := Hps.out; omega⟩, Hpb, Hrow, Hb1⟩
    case round =>
      obtain ⟨j, p, rfl, hj, HRj, Hpl, Hpp, Hpx, Hr, Hbel⟩ := hrel
      rcases j with _ | j
      · go_wp2
        go_ret2
        refine ⟨some ⟨g, 0, none⟩, n, rfl, ?_, Hbel.out⟩
        rw [HRj.out]
        exact row_reads Hr.out
      · obtain ⟨hfl2, h2, hsm, hps⟩ := Bm.decs_step P j p Hpp.out.1 Hpp.out.2
        have hg1 := Bm.firstMax_get p hfl2
        have hpn := Hpl.out
        have Hgp : Hid (Calls Tryz.prog 102 #[.slice (some ⟨g, 0, none⟩) n n] wr fun e w' => e = .returned (.int .i64 (Bm.firstMax p : Int)) ∧ wr = w') := Lib.hid (by
          have h1 := ngreatest_any (some ⟨g, 0, none⟩) n p wr (by omega) (fun x hx => by have := Hpx.out x hx; omega) (row_reads Hr.out)
          rw [hpn] at h1
          exact h1)
        have hc0 := Hr.out.cell (Bm.firstMax p)
        rw [i64s_get? p _ hfl2, hg1] at hc0
        have hf0 := Hr.out.free (Bm.firstMax p)
        have hmx := Hpx.out _ (Bm.maxL_mem p (by rintro rfl; simp at hfl2))
        have Hmod : Hid (p.modify (Bm.firstMax p) (· - 1) = p.set (Bm.firstMax p) (Bm.maxL p - 1)) := Lib.hid (by rw [Bm.modify_set p _ _ hfl2, hg1])
        have Hd : Hid (R = Bm.decs j (p.modify (Bm.firstMax p) (· - 1))) := HRj
        have Hsm : Hid (Bm.posN (p.modify (Bm.firstMax p) (· - 1)) ≤ P ∧ (p.modify (Bm.firstMax p) (· - 1)).sum = P + j) := Lib.hid ⟨hps, hsm⟩
        rw [Hmod.out] at Hd Hsm
        clear HRj hg1 hsm hps Hmod Hpp
        have hflp : Bm.firstMax p < n := by omega
        generalize Bm.firstMax p = q at *
        generalize Bm.maxL p = y at *
        have hn0 : decide (-((j : Int) + 1) < 0) = true := decide_eq_true (by omega)
        clear hpn
        go_wp2_with fail
        refine Hgp.out.mono ?_
        rintro e w' ⟨rfl, rfl⟩
        go_wp2
        go_roundw
        case rel =>
          refine ⟨j, p.set q (y - 1), by go_num, by omega, Hd, Lib.hid (by rw [List.length_set, Hpl.out]), Hsm, Lib.hid ?_, Lib.hid ?_, Lib.hid (Hbel.out.setCell (by exact hg) _)⟩
          · intro x hx
            rcases List.mem_or_eq_of_mem_set hx with h1 | h1
            · exact Hpx.out x h1
            · omega
          · have h1 := Hr.out.set_ q (.int .i64 ((y : Int) - 1))
            rw [show ((y : Int) - 1) = ((y - 1 : Nat) : Int) by omega, i64s_set'] at h1
            rw [show ((y : Int) - 1) = ((y - 1 : Nat) : Int) by omega]
            exact h1
        case measure => simp [intOf]; omega
end Go.Proofs.YtbdciiiimdbmkaaGreat
