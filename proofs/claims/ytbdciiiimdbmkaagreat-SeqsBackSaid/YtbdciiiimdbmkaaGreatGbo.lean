/-
  The program's layer 16 (seqs): Encode, by its walk. Conditions: as the theorem's premises say (up to 700 steps of any ints).
  Layer 16's laws: awake (one step), by its walk. Conditions: none.
  SeqsAny (layer 16): the law's function by its walk: true for any string and any int. No condition.
  SeqsBack (layer 16): the law's function by its walk: true for any slice of steps and any string. No condition.
-/
import Derived.Test.YtbdciiiimdbmkaaGreatGbl
import Derived.Test.YtbdciiiimdbmkaaGreatGbj
import Derived.Test.YtbdciiiimdbmkaaGreatGbn
import Derived.Test.YtbdciiiimdbmkaaGreatGae
import Derived.Test.YtbdciiiimdbmkaaGreatGal
import Derived.Test.YtbdciiiimdbmkaaGreatGar
import Derived.Test.YtbdciiiimdbmkaaGreatGaw
import Derived.Deep.RegionHeld3
namespace Go.Proofs.YtbdciiiimdbmkaaGreat
open Go.RowKit

namespace Bm
theorem part_lt (l : List StZ) (r : Int × Int × Int) (h : ∀ s ∈ l, MayZ s) (j : Nat) : ∀ x ∈ partE j (numsE r l), x < 28 := by
  have hle := nums_le l r h
  intro x hx
  unfold partE at hx
  obtain ⟨vs, hvs, rfl⟩ := List.mem_map.1 hx
  refine (ex_code _ ?_).2
  rcases Nat.lt_or_ge j vs.length with h1 | h1
  · rw [List.getElem?_eq_getElem h1, Option.getD_some]
    exact hle _ (List.mem_flatten.2 ⟨vs, hvs, List.getElem_mem h1⟩)
  · rw [List.getElem?_eq_none h1, Option.getD_none]
    omega
end Bm
theorem cw_notB {w w' : World} {A : Option Addr} {l : List Nat} {b : Nat} {bs : List Nat} (h : CW w b bs) (hr : Reads w A (u8s l)) (hg : w.grownBy w' (some b)) : Reads w' A (u8s l) := by
  obtain ⟨p, ts, hrow, _, _⟩ := h
  refine reads_notB hrow (fun m z hx => ?_) hr hg
  match m, hx with
  | 0, hx => simp at hx
  | 1, hx => simp at hx
  | m + 2, hx => simp at hx
/-- A section and true, or an empty text and false. -/
def EncP (e : Ending) (l : List Bm.StZ) : Prop :=
  if ∀ s ∈ l, Bm.MayZ s then ∃ S, Bm.SecQ l S ∧ e = .returned (.tuple #[.string (strOf S), .bool true]) else e = .returned (.tuple #[.string (strOf []), .bool false])
set_option maxHeartbeats 1000000 in
set_option maxRecDepth 100000 in
theorem qenc_nil (A : Option Addr) (c : Nat) (w : World) : Calls Tryz.prog 6 #[.slice A 0 c] w fun e w' => EncP e [] ∧ Below w.heap.size w w' := by
  have hq := Bm.sec_none [] rfl
  have hpost : ∀ e, e = .returned (.tuple #[.string (strOf [0]), .bool true]) → EncP e [] := fun e he => by
    unfold EncP
    rw [if_pos (by simp)]
    exact ⟨[0], hq, he⟩
  have Hpost := Lib.hid hpost
  obtain ⟨Pst, hPst⟩ : ∃ Pst : Ending → Prop, Pst = fun e => EncP e [] := ⟨_, rfl⟩
  have HPst := Lib.hid hPst
  have hgoal : (fun (e : Ending) (w' : World) => EncP e [] ∧ Below w.heap.size w w') = fun e w' => Pst e ∧ Below w.heap.size w w' := by rw [hPst]
  rw [hgoal]
  have e0 : ([] : List Nat) ++ Bm.grp 0 = [0] := by rw [Bm.grp_small 0 (by omega)]; rfl
  have hgr := wgroup_any w.heap.size 0 [] _ (by omega) (by simp) (CW.new w)
  rw [e0] at hgr
  have Hgr := Lib.hid hgr
  have Hbal := Lib.hid ((Below.refl w.heap.size w).alloc (Nat.le_refl _) (.cells #[.pointer none, .int .i64 0] 41))
  have Hstr := Lib.hid (fun W (h : CW W w.heap.size [0]) => wstr_any w.heap.size [0] W (by simp) (by simp) h)
  clear hq hpost hgoal hPst e0 hgr
  go_enter Tryz.func6, Tryz.ntmps6
  go_wp2_with fail
  refine Hgr.out.mono ?_
  rintro e w1 ⟨rfl, hc1, hg1⟩
  have Hs1 := Lib.hid (Hstr.out w1 hc1)
  have Hb1 := Lib.hid (Hbal.out.trans (below_grown hg1 (Nat.le_refl _) Hbal.out.size))
  clear hc1 hg1 Hgr Hbal Hstr
  go_wp2_with fail
  refine Hs1.out.mono ?_
  rintro e w2 ⟨rfl, hb2⟩
  have Hb2 := Lib.hid (Hb1.out.trans (hb2.mono Hb1.out.size))
  clear hb2 Hb1 Hs1
  generalize hsx : strOf [0] = sx at *
  have Hsx := Lib.hid hsx
  clear hsx
  go_wp2
  go_ret2
  refine ⟨?_, Hb2.out⟩
  rw [HPst.out]
  exact Hpost.out _ rfl
set_option maxHeartbeats 2000000 in
set_option maxRecDepth 100000 in
theorem qenc_some (A : Option Addr) (c : Nat) (l : List Bm.StZ) (w : World) (h0 : 0 < l.length) (hl : l.length ≤ 700) (hok : ZOk l) (hr : StzR w A l) :
    Calls Tryz.prog 6 #[.slice A l.length c] w fun e w' => EncP e l ∧ Below w.heap.size w w' := by
  obtain ⟨Pst, hPst⟩ : ∃ Pst : Ending → Prop, Pst = fun e => EncP e l := ⟨_, rfl⟩
  have HPst := Lib.hid hPst
  have hgoal : (fun (e : Ending) (w' : World) => EncP e l ∧ Below w.heap.size w w') = fun e w' => Pst e ∧ Below w.heap.size w w' := by rw [hPst]
  rw [hgoal]
  clear hgoal hPst
  obtain ⟨bw, hbw⟩ : ∃ bw, w.heap.size = bw := ⟨_, rfl⟩
  have hcw := CW.new w
  rw [hbw] at hcw
  have hgr := wgroup_any bw l.length [] _ (by omega) (by simp) hcw
  rw [List.nil_append] at hgr
  have Hgr := Lib.hid hgr
  have Hbal := Lib.hid ((Below.refl w.heap.size w).alloc (Nat.le_refl _) (.cells #[.pointer none, .int .i64 0] 41))
  have Hco := Lib.hid (fun W (hb : Below w.heap.size w W) => qcodes_any A c l W hl hok (hr.below hb))
  have Hbw := Lib.hid hbw
  have hwrap : IntKind.u64.wrap (l.length : Int) = (l.length : Int) := by rw [IntKind.wrap_u64]; omega
  have dn : ((l.length : Int) == 0) = false := by rw [beq_eq_false_iff_ne]; omega
  have dn2 : decide ((1000 : Int) < (l.length : Int)) = false := decide_eq_false (by omega)
  clear hcw hgr hbw hok hr
  go_enter Tryz.func6, Tryz.ntmps6
  go_wp2_with fail
  rw [Hbw.out]
  refine Hgr.out.mono ?_
  rintro e w1 ⟨rfl, hc1, hg1⟩
  have hb1 := Hbal.out.trans (below_grown hg1 (Nat.le_of_eq Hbw.out) Hbal.out.size)
  have Hb1 := Lib.hid hb1
  have Hc1 := Lib.hid hc1
  have Hco1 := Lib.hid (Hco.out w1 hb1)
  clear hc1 hg1 hb1 Hgr Hbal Hco
  by_cases hall : ∀ s ∈ l, Bm.MayZ s
  · unfold CodesP at Hco1
    simp only [if_pos hall] at Hco1
    have Hall := Lib.hid hall
    clear hall
    go_wp2_with fail
    refine Hco1.out.mono ?_
    rintro e w2 ⟨⟨A0, k0, A1, k1, A2, k2, B, kb, rfl, hk0, hk1, hk2, hr0, hr1, hr2, hrb⟩, hb2⟩
    have hb2' := Hb1.out.trans (hb2.mono Hb1.out.size)
    have hc2 := Hc1.out.below hb2
    obtain ⟨ba, hba⟩ : ∃ ba, w2.heap.size = ba := ⟨_, rfl⟩
    have hal := (Below.refl w2.heap.size w2).alloc (Nat.le_refl _) (.cells #[.slice A0 l.length k0, .slice A1 l.length k1, .slice A2 l.length k2] 46)
    have hra := Row.new w2 46 [.slice A0 l.length k0, .slice A1 l.length k1, .slice A2 l.length k2]
    obtain ⟨a0, a1, a2⟩ := row3 hra
    have Hb3 := Lib.hid (hb2'.trans (hal.mono hb2'.size))
    have Hc3 := Lib.hid (hc2.below hal)
    have HR3 := Lib.hid (⟨reads_on hr0 hal, reads_on hr1 hal, reads_on hr2 hal, reads_on hrb hal⟩ : _ ∧ _ ∧ _ ∧ _)
    have hpl : ∀ j, (Bm.partE j (Bm.numsE (1, 2, 4) l)).length = l.length := fun j => by rw [Bm.partE, List.length_map, Bm.numsE_length]
    have Hst : Hid (∀ j A k W, l.length ≤ k → Reads W A (u8s (Bm.partE j (Bm.numsE (1, 2, 4) l))) → Calls Tryz.prog 17 #[.slice A l.length k] W fun e w' => (∃ S, Bm.StrP (Bm.partE j (Bm.numsE (1, 2, 4) l)) S ∧ e = .returned (.string (strOf S))) ∧ Below W.heap.size W w') := Lib.hid (fun j A k W hk hr => by
      have h1 := qstr_any A k (Bm.partE j (Bm.numsE (1, 2, 4) l)) W (by rw [hpl]; exact h0) (by rw [hpl]; exact hl) (by rw [hpl]; exact hk) (Bm.part_lt l _ Hall.out j) hr
      rw [hpl] at h1
      exact h1)
    have hten := Bm.grp_ten l.length (by omega)
    have hbE : (Bm.bytesE (Bm.numsE (1, 2, 4) l)).length ≤ 5000 := by
      have h1 := Bm.bitsE_le _ (Bm.nums_le l (1, 2, 4) Hall.out)
      rw [Bm.flat_length] at h1
      rw [Bm.bytesE, Bm.bytesOf_length]
      omega
    have Hraw := Lib.hid (fun W (X S : List Nat) (hX : X.length + S.length ≤ 100000) (h : CW W bw X) => wraw_any bw X S W (by omega) h)
    have hb256 : ∀ x ∈ Bm.bytesE (Bm.numsE (1, 2, 4) l), x < 256 := Bm.bytesOf_lt _ _
    have Hcv := Lib.hid (fun W A c (h : Reads W A (u8s (Bm.bytesE (Bm.numsE (1, 2, 4) l)))) => conv_bytes W A c _ hb256 h)
    have Htx := Lib.hid (fun W (X : List Nat) (hX : X.length ≤ 100000) (h : CW W bw X) => wtext_any bw X (Bm.bytesE (Bm.numsE (1, 2, 4) l)) W (by omega) (by omega) h)
    have Hstr := Lib.hid (fun W (X : List Nat) (hX : X.length ≤ 100000) (hx : ∀ x ∈ X, x < 256) (h : CW W bw X) => wstr_any bw X W (by omega) hx h)
    have Hfin := Lib.hid (fun S0 S1 S2 h1 h2 h3 => Bm.sec_yes l h0 hl Hall.out S0 S1 S2 h1 h2 h3)
    have HK := Lib.hid (⟨hk0, hk1, hk2⟩ : _ ∧ _ ∧ _)
    have hbwn : w.heap.size ≤ bw := Nat.le_of_eq Hbw.out
    have Hlen := Lib.hid hpl
    clear hb2 hb2' hc2 hr0 hr1 hr2 hrb hk0 hk1 hk2 hal hra hpl hb256 Hco1 Hb1 Hc1 Hbw
    generalize hbx : Bm.bytesE (Bm.numsE (1, 2, 4) l) = bE at *
    have Hbx := Lib.hid hbx
    clear hbx
    generalize hnl : l.length = n at *
    have Hnl := Lib.hid hnl
    clear hnl
    go_wp2
    rw [hba] at *
    generalize w2.alloc (.cells #[.slice A0 n k0, .slice A1 n k1, .slice A2 n k2] 46) = wA at *
    clear a0 a1 a2
    go_loopw [9, 30] (fun _ i wr => ∃ (j : Nat) (Ss : List (List Nat)), i = .int .i64 (j : Int) ∧ j ≤ 3 ∧ Hid (Ss.length = j) ∧ Hid (∀ q S, Ss[q]? = some S → Bm.StrP (Bm.partE q (Bm.numsE (1, 2, 4) l)) S) ∧ Hid (CW wr bw (Bm.grp n ++ Ss.flatten)) ∧ Hid (Ss.flatten.length ≤ j * 701) ∧
      Hid (Below w.heap.size w wr) ∧ Hid (Reads wr A0 (u8s (Bm.partE 0 (Bm.numsE (1, 2, 4) l))) ∧ Reads wr A1 (u8s (Bm.partE 1 (Bm.numsE (1, 2, 4) l))) ∧ Reads wr A2 (u8s (Bm.partE 2 (Bm.numsE (1, 2, 4) l))) ∧ Reads wr B (u8s bE))) (fun _ i _ => 3 - (intOf i).toNat)
    case atStart => exact ⟨0, [], rfl, by omega, Lib.hid rfl, Lib.hid (fun q S h => by simp at h), by rw [List.flatten_nil, List.append_nil]; exact Hc3, Lib.hid (by simp), Hb3, HR3⟩
    case round =>
      obtain ⟨j, Ss, rfl, hj, hSl, hSp, hcw, hfl, hbel, hrr⟩ := hrel
      clear Hc3 Hb3 HR3
      by_cases hj3 : j < 3
      · have dj : (j : Int) < 3 := by omega
        have key : ∃ (A : Option Addr) (kk : Nat), Hid ([Value.slice A0 n k0, .slice A1 n k1, .slice A2 n k2][j]? = some (.slice A n kk)) ∧ n ≤ kk ∧ Hid (Reads wr A (u8s (Bm.partE j (Bm.numsE (1, 2, 4) l)))) := by
          obtain ⟨r0, r1, r2, _⟩ := hrr.out
          obtain ⟨q0, q1, q2⟩ := HK.out
          rcases (by omega : j = 0 ∨ j = 1 ∨ j = 2) with rfl | rfl | rfl
          · exact ⟨A0, k0, rfl, q0, r0⟩
          · exact ⟨A1, k1, rfl, q1, r1⟩
          · exact ⟨A2, k2, rfl, q2, r2⟩
        obtain ⟨A, kk, hidx, hkk, hrj⟩ := key
        have hidx2 : ∀ W, (Instr.index 46 (.agg #[.slice A0 n k0, .slice A1 n k1, .slice A2 n k2]) (.int .i64 (j : Int))).run Tryz.prog W = .ok (.slice A n kk) W := fun W => by
          have h := hidx.out
          rcases (by omega : j = 0 ∨ j = 1 ∨ j = 2) with rfl | rfl | rfl
          all_goals
            simp only [List.getElem?_cons_zero, List.getElem?_cons_succ, Option.some.injEq] at h
            rw [h]
            simp [Instr.index, run_underlying Tryz.underlying46, asIntOf, go_sem]
        have Hcall := Lib.hid (Hst.out j A kk wr hkk hrj.out)
        clear hidx hrj
        go_wp2_with fail
        refine Hcall.out.mono ?_
        rintro e w4 ⟨⟨S, hS, rfl⟩, hb4⟩
        have hSl2 := hS.len
        have hln := Hlen.out j
        rw [hln] at hSl2
        have Hs := Lib.hid hS
        have hcw4 := hcw.out.below hb4
        have hbel4 := hbel.out.trans (hb4.mono hbel.out.size)
        have hfl' := hfl.out
        have Hr4 := Lib.hid (Hraw.out w4 (Bm.grp n ++ Ss.flatten) S (by rw [List.length_append]; omega) hcw4)
        have HR4 := Lib.hid (⟨reads_on hrr.out.1 hb4, reads_on hrr.out.2.1 hb4, reads_on hrr.out.2.2.1 hb4, reads_on hrr.out.2.2.2 hb4⟩ : _ ∧ _ ∧ _ ∧ _)
        have Hcw4 := Lib.hid hcw4
        have Hb4 := Lib.hid hbel4
        have Hfl4 : Hid ((Ss ++ [S]).flatten.length ≤ (j + 1) * 701) := Lib.hid (by rw [List.flatten_append, List.length_append, List.flatten_singleton]; omega)
        clear hb4 hS hln hcw4 hbel4 hfl' Hcall hbel hrr hcw hfl hSl2
        go_wp2_with fail
        refine Hr4.out.mono ?_
        rintro e w5 ⟨rfl, hc5, hg5⟩
        have Hc5 : Hid (CW w5 bw (Bm.grp n ++ (Ss ++ [S]).flatten)) := Lib.hid (by rw [List.flatten_append, List.flatten_singleton, ← List.append_assoc]; exact hc5)
        have HR5 := Lib.hid (⟨cw_notB Hcw4.out HR4.out.1 hg5, cw_notB Hcw4.out HR4.out.2.1 hg5, cw_notB Hcw4.out HR4.out.2.2.1 hg5, cw_notB Hcw4.out HR4.out.2.2.2 hg5⟩ : _ ∧ _ ∧ _ ∧ _)
        have Hb5 := Lib.hid (Hb4.out.trans (below_grown hg5 hbwn Hb4.out.size))
        clear hc5 hg5 Hr4 HR4 Hcw4 Hb4
        go_wp2
        go_roundw
        case rel =>
          refine ⟨j + 1, Ss ++ [S], by go_num, by omega, Lib.hid (by rw [List.length_append, hSl.out]; rfl), Lib.hid (fun q S' h => ?_), Hc5, Hfl4, Hb5, HR5⟩
          rcases Nat.lt_or_ge q Ss.length with hq | hq
          · rw [List.getElem?_append_left hq] at h
            exact hSp.out q S' h
          · rw [List.getElem?_append_right hq, List.getElem?_singleton] at h
            split at h
            · next h0 =>
              injection h with h
              have : q = j := by rw [← hSl.out]; omega
              rw [this, ← h]
              exact Hs.out
            · cases h
        case measure => simp [intOf]; omega
      · have hj3e : j = 3 := by omega
        subst hj3e
        obtain ⟨S0, S1, S2, hS3⟩ : ∃ S0 S1 S2, Ss = [S0, S1, S2] := by
          match Ss, hSl.out with
          | [x, y, z], _ => exact ⟨x, y, z, rfl⟩
        subst hS3
        have hQ := Hfin.out S0 S1 S2 (hSp.out 0 S0 rfl) (hSp.out 1 S1 rfl) (hSp.out 2 S2 rfl)
        have e0 : (Bm.grp n ++ [S0, S1, S2].flatten) ++ (Bm.grp bE.length ++ bE) = Bm.secE n S0 S1 S2 bE := by
          simp [Bm.secE]
        have hcv := Hcv.out wr B kb hrr.out.2.2.2
        have hfl' := hfl.out
        have ht1 := Htx.out wr _ (by rw [List.length_append]; omega) hcw.out
        rw [e0] at ht1
        have Ht1 := Lib.hid ht1
        have Hs1 := Lib.hid (fun W (h : CW W bw (Bm.secE n S0 S1 S2 bE)) => Hstr.out W _ (by have := hQ.len; omega) hQ.lt h)
        have Hpost : Hid (∀ e, e = .returned (.tuple #[.string (strOf (Bm.secE n S0 S1 S2 bE)), .bool true]) → EncP e l) := Lib.hid (fun e he => by
          unfold EncP
          rw [if_pos Hall.out]
          exact ⟨_, hQ, he⟩)
        have Hbel := Lib.hid hbel.out
        clear hQ e0 hfl' ht1 hbel hrr hcw hfl hSp hSl Htx Hstr Hraw Hst Hfin Hcv HK Hlen
        generalize Bm.secE n S0 S1 S2 bE = E at *
        go_wp2_with fail
        refine Ht1.out.mono ?_
        rintro e w5 ⟨rfl, hc5, hg5⟩
        have Hb5 := Lib.hid (Hbel.out.trans (below_grown hg5 hbwn Hbel.out.size))
        have Hs5 := Lib.hid (Hs1.out w5 hc5)
        clear hc5 hg5 Hbel Ht1 Hs1 hcv
        go_wp2_with fail
        refine Hs5.out.mono ?_
        rintro e w6 ⟨rfl, hb6⟩
        have Hb6 := Lib.hid (Hb5.out.trans (hb6.mono Hb5.out.size))
        clear hb6 Hb5 Hs5
        generalize strOf E = sE at *
        go_wp2
        go_ret2
        refine ⟨?_, Hb6.out⟩
        rw [HPst.out]
        exact Hpost.out _ rfl
  · unfold CodesP at Hco1
    simp only [if_neg hall] at Hco1
    have Hpost : Hid (∀ e, e = .returned (.tuple #[.string (strOf []), .bool false]) → EncP e l) := Lib.hid (fun e he => by
      unfold EncP
      rw [if_neg hall]
      exact he)
    clear hall
    go_wp2_with fail
    refine Hco1.out.mono ?_
    rintro e w2 ⟨rfl, hb2⟩
    have Hb2 := Lib.hid ((Hb1.out.trans (hb2.mono Hb1.out.size)).alloc (Hb1.out.trans (hb2.mono Hb1.out.size)).size (.cells #[.slice none 0 0, .slice none 0 0, .slice none 0 0] 46))
    clear hb2 Hb1 Hco1 Hc1
    go_wp2
    go_ret2
    refine ⟨?_, Hb2.out⟩
    rw [HPst.out]
    exact Hpost.out _ rfl
/-- What Encode answers. -/
theorem qenc_any (A : Option Addr) (c : Nat) (l : List Bm.StZ) (w : World) (hl : l.length ≤ 700) (hok : ZOk l) (hr : StzR w A l) :
    Calls Tryz.prog 6 #[.slice A l.length c] w fun e w' => EncP e l ∧ Below w.heap.size w w' := by
  cases l with
  | nil => exact qenc_nil A c w
  | cons s l => exact qenc_some A c (s :: l) w (by simp) hl hok hr
end Go.Proofs.YtbdciiiimdbmkaaGreat

namespace Go.Proofs.YtbdciiiimdbmkaaGreat
open Go.RowKit

namespace Bm
theorem awake_sec : secE 1 (0 :: partE 0 (numsE (1, 2, 4) [(2, 3, 1)])) (0 :: partE 1 (numsE (1, 2, 4) [(2, 3, 1)])) (0 :: partE 2 (numsE (1, 2, 4) [(2, 3, 1)])) (bytesE (numsE (1, 2, 4) [(2, 3, 1)])) = [1, 0, 2, 0, 0, 0, 0, 0] := by decide +kernel
theorem awake_nat : ([(2, 3, 1)] : List StZ).map natZ = [(2, 3, 1)] := by decide +kernel
end Bm
set_option maxHeartbeats 1000000 in
set_option maxRecDepth 100000 in
theorem qawake_any (w : World) : Calls Tryz.prog 5 #[] w fun e w' => e = .returned (.bool true) ∧ Below w.heap.size w w' := by
  have hst := seq_stood
  have hgu := seq_guard
  obtain ⟨S, hS⟩ : ∃ S : List Nat, S = [1, 0, 2, 0, 0, 0, 0, 0] := ⟨_, rfl⟩
  have HS := Lib.hid hS
  obtain ⟨s, hs⟩ : ∃ s, s = strOf S := ⟨_, rfl⟩
  have Hs := Lib.hid hs
  have Hsec : Hid (Bm.SecQ [(2, 3, 1)] S → Bm.secD S 1 = some ([(2, 3, 1)], S.length)) := Lib.hid (fun h => by
    have h1 := h.read []
    rw [List.append_nil, Bm.awake_nat] at h1
    exact h1)
  have Henc : Hid (∀ W, W = w.alloc (.cells #[.int .i64 2, .int .i64 3, .int .i64 1] 38) → Calls Tryz.prog 6 #[.slice (some ⟨w.heap.size, 0, none⟩) 1 1] W fun e w' => e = .returned (.tuple #[.string s, .bool true]) ∧ Bm.SecQ [(2, 3, 1)] S ∧ Below W.heap.size W w') := Lib.hid (fun W hW => by
    subst hW
    have hrow := Row.new w 38 [.int .i64 2, .int .i64 3, .int .i64 1]
    have hr : StzR (w.alloc (.cells #[.int .i64 2, .int .i64 3, .int .i64 1] 38)) (some ⟨w.heap.size, 0, none⟩) [(2, 3, 1)] := fun _ => ⟨_, 0, rfl, hrow.lt, fun j hj => by
      obtain rfl : j = 0 := by simp at hj; omega
      exact ⟨hrow.cell 0, hrow.cell 1, hrow.cell 2⟩⟩
    refine (qenc_any _ 1 [(2, 3, 1)] _ (by simp) (by intro x hx; simp at hx; subst hx; simp [Bm.IntOk]) hr).mono ?_
    rintro e w' ⟨he, hb⟩
    unfold EncP at he
    rw [if_pos (by intro x hx; simp at hx; subst hx; simp [Bm.MayZ])] at he
    obtain ⟨S', hq, he⟩ := he
    have h1 := hq.one rfl
    rw [Bm.awake_sec] at h1
    have h2 : S' = S := by rw [h1, hS]
    subst h2
    exact ⟨by rw [he, hs], hq, hb⟩)
  have Hnew : Hid (∀ W, Calls Tryz.prog 9 #[.string s] W fun e w' => e = .returned (.pointer (some ⟨W.heap.size, 0, none⟩)) ∧ CR w' W.heap.size (some S) ∧ Below W.heap.size W w') := Lib.hid (fun W => by rw [hs]; exact cnew_any S W)
  have Hdec : Hid (∀ W b, CR W b (some S) → Calls Tryz.prog 10 #[.pointer (some ⟨b, 0, none⟩), .int .i64 1] W fun e w' => SecR w' b S e (Bm.secD S 1) ∧ W.grownBy w' (some b)) := Lib.hid (fun W b h => qdec_any b S 1 W (by omega) (by omega) (by rw [hS]; simp) (by rw [hS]; intro x hx; simp at hx; omega) h)
  have hlit : s.toList = [1, 0, 2, 0, 0, 0, 0, 0] := by rw [hs, hS]; decide +kernel
  obtain ⟨w1, hw1⟩ : ∃ w1, w.alloc (.cells #[.int .i64 2, .int .i64 3, .int .i64 1] 38) = w1 := ⟨_, rfl⟩
  have Hw1 := Lib.hid hw1
  have Hb1 : Hid (Below w.heap.size w w1) := Lib.hid (by rw [← hw1]; exact (Below.refl _ _).alloc (Nat.le_refl _) _)
  have Hrow1 : Hid (Row w1 w.heap.size 38 [.int .i64 2, .int .i64 3, .int .i64 1]) := Lib.hid (by rw [← hw1]; exact Row.new w 38 [.int .i64 2, .int .i64 3, .int .i64 1])
  clear hS hs hw1
  go_enter Tryz.func5, Tryz.ntmps5
  go_wp2_with fail
  rw [Hw1.out]
  refine (Henc.out w1 Hw1.out.symm).mono ?_
  rintro e w2 ⟨rfl, hq, hb2⟩
  have Hsd := Lib.hid (Hsec.out hq)
  have Hb2 := Lib.hid (Hb1.out.trans (hb2.mono Hb1.out.size))
  have Hrow2 := Lib.hid (Hrow1.out.below hb2)
  clear hq hb2 Hb1 Hrow1 Henc Hsec Hw1
  go_wp2_with fail
  refine (Hnew.out w2).mono ?_
  rintro e w3 ⟨rfl, hc3, hb3⟩
  have Hc3 := Lib.hid hc3
  have Hb3 := Lib.hid (Hb2.out.trans (hb3.mono Hb2.out.size))
  have Hrow3 := Lib.hid (Hrow2.out.below hb3)
  have Hsz := Lib.hid (⟨Hb2.out.size, Hrow2.out.lt⟩ : _ ∧ _)
  clear hc3 hb3 Hb2 Hrow2 Hnew
  generalize w2.heap.size = br at *
  go_wp2_with fail
  refine (Hdec.out w3 br Hc3.out).mono ?_
  rintro e w4 ⟨hsr, hg4⟩
  rw [Hsd.out] at hsr
  obtain ⟨⟨A, c, rfl, hrd⟩, hc4⟩ := hsr
  have Hb4 : Hid (Below w.heap.size w w4) := Lib.hid (Hb3.out.grown hg4 Hb3.out.size (fun x e => by injection e with e; have := Hsz.out.1; omega))
  have hrow4 := Hrow3.out.keep (hg4.block w.heap.size Hrow3.out.lt (by have := Hsz.out.2; simp; omega))
  obtain ⟨g, off, rfl, hg, hcs⟩ := hrd (by simp)
  obtain ⟨c0, c1, c2⟩ := hcs 0 (by simp)
  obtain ⟨y0, y1, y2⟩ := row3 hrow4
  dsimp only [List.getElem_cons_zero] at c0 c1 c2
  simp only [Nat.zero_mul, Nat.add_zero] at c0 c1 c2
  clear hrd hc4 hg4 hrow4 hcs Hb3 Hrow3 Hdec Hc3 Hsd Hsz
  go_wp2_with fail
  go_quiet (fail)
  go_wp2
  go_ret
  exact ⟨rfl, below_drewN Hb4.out _⟩
end Go.Proofs.YtbdciiiimdbmkaaGreat

namespace Go.Proofs.YtbdciiiimdbmkaaGreat
open Go.RowKit

namespace Bm
theorem strs_le (n : Nat) (hn : 1 ≤ n) : ∀ (k : Nat) (bs : List Nat) (r : List (List Nat) × Nat), strsD k bs n = some r → r.2 ≤ bs.length
  | 0, bs, r, h => by
    injection h with h
    subst h
    exact Nat.zero_le _
  | k + 1, bs, r, h => by
    unfold strsD at h
    cases hs : strD bs n with
    | none => rw [hs] at h; cases h
    | some q =>
      rw [hs] at h
      dsimp only at h
      cases hq : strsD k (bs.drop q.2) n with
      | none => rw [hq] at h; cases h
      | some p =>
        rw [hq] at h
        injection h with h
        subst h
        have h1 := (str_le bs n hn q hs).2
        have h2 := strs_le n hn k _ p hq
        rw [List.length_drop] at h2
        show q.2 + p.2 ≤ bs.length
        omega
theorem stps_len : ∀ (l : List (List Nat)) (V L : Nat) (r : Int × Int × Int) (q : List Stp × Nat × Nat), stpsD l V L r = some q → q.1.length = l.length
  | [], V, L, r, q, h => by
    injection h with h
    subst h
    rfl
  | c :: l, V, L, r, q, h => by
    unfold stpsD at h
    cases hs : numsD c V L with
    | none => rw [hs] at h; cases h
    | some t =>
      rw [hs] at h
      dsimp only at h
      cases ho : offI r.1 r.2.1 r.2.2 ((t.1[2]?.getD 0 : Nat) : Int) with
      | none => rw [ho] at h; cases h
      | some x =>
        rw [ho] at h
        dsimp only at h
        cases hq : stpsD l t.2.1 t.2.2 (behI r.1 r.2.1 r.2.2 x) with
        | none => rw [hq] at h; cases h
        | some p =>
          rw [hq] at h
          injection h with h
          subst h
          have := stps_len l _ _ _ p hq
          simp [this]
theorem sec_le (bs : List Nat) (most : Int) (t : List Stp × Nat) (h : secD bs most = some t) : 0 < t.2 ∧ t.2 ≤ bs.length ∧ t.1.length ≤ 1000 := by
  unfold secD at h
  split at h
  · next hc =>
    have hk : (firstG bs).2 ≤ bs.length := (firstG_some bs _ _ hc.1 rfl).2.2
    generalize (firstG bs).1 = n at *
    generalize (firstG bs).2 = k at *
    split at h
    · injection h with h
      subst h
      exact ⟨hc.1, hk, Nat.zero_le _⟩
    · next hn =>
      cases hs : strsD 3 (bs.drop k) n with
      | none => rw [hs] at h; cases h
      | some p =>
        rw [hs] at h
        dsimp only at h
        cases hx : txtD ((bs.drop k).drop p.2) with
        | none => rw [hx] at h; cases h
        | some q =>
          rw [hx] at h
          dsimp only at h
          cases hl : stepsD p.1 n q.1 with
          | none => rw [hl] at h; cases h
          | some l =>
            rw [hl] at h
            injection h with h
            subst h
            have h1 := strs_le n (by omega) 3 _ p hs
            have h2 := (txt_le _ q hx).2.1
            rw [List.length_drop] at h1 h2
            rw [List.length_drop] at h2
            have h3 : l.length = n := by
              unfold stepsD finD at hl
              split at hl
              · cases hl
              · next z hz =>
                have h4 := stps_len _ _ _ _ _ hz
                split at hl
                · injection hl with hl
                  rw [← hl, h4]
                  simp [rowsD]
                · cases hl
            refine ⟨?_, ?_, ?_⟩
            · show 0 < k + p.2 + q.2
              omega
            · show k + p.2 + q.2 ≤ bs.length
              omega
            · show l.length ≤ 1000
              omega
  · cases h
end Bm
theorem same_nil (W : World) (A : Option Addr) (c : Nat) : Calls Tryz.prog 11 #[.slice A 0 c, .slice none 0 0] W fun e w' => e = .returned (.bool true) ∧ Below W.heap.size W w' :=
  (qsame_any A none c 0 [] [] W (by simp) (by simp) (fun h => absurd h (by simp)) (fun h => absurd h (by simp))).mono fun e w' h => ⟨h.1.trans (by simp), h.2⟩
theorem same_stp (x : List Bm.Stp) (hx : x.length ≤ 1000) (W : World) (A A' : Option Addr) (c c' : Nat) (h : StpR W A x) (h' : StpR W A' x) :
    Calls Tryz.prog 11 #[.slice A x.length c, .slice A' x.length c'] W fun e w' => e = .returned (.bool true) ∧ Below W.heap.size W w' := by
  have h1 := qsame_any A A' c c' (x.map Bm.stpZ) (x.map Bm.stpZ) W (by simp; omega) (by simp; omega) (stz_of h) (stz_of h')
  simp only [List.length_map, decide_true] at h1
  exact h1
set_option maxHeartbeats 1000000 in
set_option maxRecDepth 100000 in
theorem qany_out (s : List Nat) (most : Int) (w : World) (hs : s.length ≤ 9223372036854775807) (h : 100 < s.length ∨ 60 < most) :
    Calls Tryz.prog 4 #[.string (strOf s), .int .i64 most] w fun e w' => e = .returned (.bool true) ∧ Below w.heap.size w w' := by
  have Haw := Lib.hid (qawake_any w)
  have hsz := strOf_size s
  generalize strOf s = str at *
  go_enter Tryz.func4, Tryz.ntmps4
  go_wp2_with fail
  refine Haw.out.mono ?_
  rintro e w1 ⟨rfl, hb1⟩
  have Hb1 := Lib.hid hb1
  clear hb1
  by_cases h2 : 100 < s.length
  · have d2 : decide (100 < s.length) = true := decide_eq_true h2
    have d3 : decide ((100 : Int) < (s.length : Int)) = true := decide_eq_true (by omega)
    go_wp2
    go_ret
    exact ⟨rfl, Hb1.out⟩
  · have d2 : decide (100 < s.length) = false := decide_eq_false h2
    have d3 : decide ((100 : Int) < (s.length : Int)) = false := decide_eq_false (by omega)
    have d4 : decide ((60 : Int) < most) = true := decide_eq_true (by omega)
    go_wp2
    go_ret
    exact ⟨rfl, Hb1.out⟩
set_option maxHeartbeats 2000000 in
set_option maxRecDepth 100000 in
theorem qany_none (s : List Nat) (most : Int) (w : World) (hs : s.length ≤ 100) (hm : most ≤ 60) (hm0 : Bm.IntOk most) (hlt : ∀ x ∈ s, x < 256) (hn : Bm.secD s most = none) :
    Calls Tryz.prog 4 #[.string (strOf s), .int .i64 most] w fun e w' => e = .returned (.bool true) ∧ Below w.heap.size w w' := by
  have Haw := Lib.hid (qawake_any w)
  have hsz := strOf_size s
  have d3 : decide ((100 : Int) < (s.length : Int)) = false := decide_eq_false (by omega)
  have d3n : decide (100 < s.length) = false := decide_eq_false (by omega)
  have d4 : decide ((60 : Int) < most) = false := decide_eq_false (by omega)
  have Hnew := Lib.hid (fun W => cnew_any s W)
  have hd := fun W b h => qdec_any b s most W hm0.1 hm0.2 (by omega) hlt h
  have hr := fun W => qrdec_any s most W (by omega) hlt hm0
  rw [hn] at hd hr
  unfold SecR at hd
  unfold RdP at hr
  dsimp only at hd hr
  have Hd := Lib.hid hd
  have Hr := Lib.hid hr
  have Hsame := Lib.hid same_nil
  clear hn hd hr hlt hm0
  generalize strOf s = str at *
  go_enter Tryz.func4, Tryz.ntmps4
  go_wp2_with fail
  refine Haw.out.mono ?_
  rintro e w1 ⟨rfl, hb1⟩
  have Hb1 := Lib.hid hb1
  clear hb1 Haw
  go_wp2_with fail
  refine (Hnew.out _).mono ?_
  rintro e w2 ⟨rfl, hc2, hb2⟩
  have Hb2 := Lib.hid (Hb1.out.trans (hb2.mono Hb1.out.size))
  have Hle := Lib.hid Hb1.out.size
  have Hd2 := Lib.hid (Hd.out w2 _ hc2)
  clear hc2 hb2 Hb1 Hnew Hd
  generalize w1.heap.size = b at *
  go_wp2_with fail
  refine Hd2.out.mono ?_
  rintro e w3 ⟨⟨A, c, rfl⟩, hg3⟩
  have Hb3 := Lib.hid (Hb2.out.trans (below_grown hg3 Hle.out Hb2.out.size))
  clear hg3 Hb2 Hd2 Hle
  go_wp2_with fail
  refine (Hr.out _).mono ?_
  rintro e w4 ⟨rfl, hb4⟩
  have Hb4 := Lib.hid (Hb3.out.trans (hb4.mono Hb3.out.size))
  clear hb4 Hb3 Hr
  go_wp2_with fail
  refine (Hsame.out w4 A c).mono ?_
  rintro e w5 ⟨rfl, hb5⟩
  have Hb5 := Lib.hid (Hb4.out.trans (hb5.mono Hb4.out.size))
  clear hb5 Hb4 Hsame
  go_upto_region 10 with fail
  refine wp_region_held_drew (S := (fun _ : World => True)) (by kernel_rfl) (by trivial) (fun hHeld => ?_)
  refine wpAnyH_take (i := 0) (oi := { dst := some 43, op := Go.Op.move (Go.Operand.tmp 7), type := 4, pos := "law.go:67", after := #[], guard := none }) (v := ?_) rfl (by kernel_rfl) (by kernel_rfl) (by kernel_rfl) (fun _ _ _ h => h) (Or.inl ⟨by rfl, ?_⟩) (by assumption) ?_
  rotate_left
  · (intro w hSw; (try dsimp only at hSw); go_simp; (try with_reducible rfl))
  try simp only [Act.put, List.setIfInBounds_toArray, List.set_cons_zero, List.set_cons_succ]
  refine wpAnyH_take (i := 1) (oi := { dst := some 44, op := Go.Op.unOp Go.UnOp.not 4 (Go.Operand.tmp 43), type := 4, pos := "law.go:67", after := #[{ on := 0, ground := Go.Ground.data }], guard := none }) (v := ?_) rfl (by kernel_rfl) (by kernel_rfl) (by kernel_rfl) (fun _ _ _ h => h) (Or.inl ⟨by rfl, ?_⟩) (by assumption) ?_
  rotate_left
  · (intro w hSw; (try dsimp only at hSw); go_simp; (try with_reducible rfl))
  try simp only [Act.put, List.setIfInBounds_toArray, List.set_cons_zero, List.set_cons_succ]
  refine wpAnyH_take (i := 2) (oi := { dst := some 45, op := Go.Op.move (Go.Operand.tmp 44), type := 4, pos := "law.go:67", after := #[{ on := 1, ground := Go.Ground.data }], guard := none }) (v := ?_) rfl (by kernel_rfl) (by kernel_rfl) (by kernel_rfl) (fun _ _ _ h => h) (Or.inl ⟨by rfl, ?_⟩) (by assumption) ?_
  rotate_left
  · (intro w hSw; (try dsimp only at hSw); go_simp; (try with_reducible rfl))
  try simp only [Act.put, List.setIfInBounds_toArray, List.set_cons_zero, List.set_cons_succ]
  refine wpAnyH_take (i := 3) (oi := { dst := some 46, op := Go.Op.move (Go.Operand.tmp 5), type := 29, pos := "law.go:67", after := #[{ on := 2, ground := Go.Ground.guard }], guard := some (2, false) }) (v := undef) rfl (by kernel_rfl) (by kernel_rfl) (by kernel_rfl) (fun _ _ _ h => h) (Or.inr ⟨by rfl, rfl⟩) (by assumption) ?_
  try simp only [Act.put, List.setIfInBounds_toArray, List.set_cons_zero, List.set_cons_succ]
  refine wpAnyH_take (i := 4) (oi := { dst := some 47, op := Go.Op.call { callee := Go.Callee.value (Go.Operand.func 12), args := #[Go.Operand.tmp 46], argTypes := #[29] }, type := 9, pos := "law.go:67", after := #[{ on := 3, ground := Go.Ground.data }, { on := 2, ground := Go.Ground.chain }, { on := 2, ground := Go.Ground.guard }], guard := some (2, false) }) (v := undef) rfl (by kernel_rfl) (by kernel_rfl) (by kernel_rfl) (fun _ _ _ h => h) (Or.inr ⟨by rfl, rfl⟩) (by assumption) ?_
  try simp only [Act.put, List.setIfInBounds_toArray, List.set_cons_zero, List.set_cons_succ]
  refine wpAnyH_take (i := 5) (oi := { dst := some 48, op := Go.Op.move (Go.Operand.tmp 0), type := 9, pos := "law.go:67", after := #[{ on := 2, ground := Go.Ground.guard }], guard := some (2, false) }) (v := undef) rfl (by kernel_rfl) (by kernel_rfl) (by kernel_rfl) (fun _ _ _ h => h) (Or.inr ⟨by rfl, rfl⟩) (by assumption) ?_
  try simp only [Act.put, List.setIfInBounds_toArray, List.set_cons_zero, List.set_cons_succ]
  refine wpAnyH_take (i := 6) (oi := { dst := some 49, op := Go.Op.move (Go.Operand.tmp 9), type := 3, pos := "law.go:67", after := #[{ on := 2, ground := Go.Ground.guard }], guard := some (2, false) }) (v := undef) rfl (by kernel_rfl) (by kernel_rfl) (by kernel_rfl) (fun _ _ _ h => h) (Or.inr ⟨by rfl, rfl⟩) (by assumption) ?_
  try simp only [Act.put, List.setIfInBounds_toArray, List.set_cons_zero, List.set_cons_succ]
  refine wpAnyH_take (i := 7) (oi := { dst := some 50, op := Go.Op.slice 9 (Go.Operand.tmp 48) (some (Go.Operand.tmp 49)) none none, type := 9, pos := "law.go:67", after := #[{ on := 5, ground := Go.Ground.data }, { on := 6, ground := Go.Ground.data }, { on := 2, ground := Go.Ground.guard }], guard := some (2, false) }) (v := undef) rfl (by kernel_rfl) (by kernel_rfl) (by kernel_rfl) (fun _ _ _ h => h) (Or.inr ⟨by rfl, rfl⟩) (by assumption) ?_
  try simp only [Act.put, List.setIfInBounds_toArray, List.set_cons_zero, List.set_cons_succ]
  refine wpAnyH_take (i := 8) (oi := { dst := some 51, op := Go.Op.binOp Go.BinOp.eql 9 (Go.Operand.tmp 47) (Go.Operand.tmp 50) 9, type := 4, pos := "law.go:67", after := #[{ on := 4, ground := Go.Ground.data }, { on := 7, ground := Go.Ground.data }, { on := 2, ground := Go.Ground.guard }], guard := some (2, false) }) (v := undef) rfl (by kernel_rfl) (by kernel_rfl) (by kernel_rfl) (fun _ _ _ h => h) (Or.inr ⟨by rfl, rfl⟩) (by assumption) ?_
  try simp only [Act.put, List.setIfInBounds_toArray, List.set_cons_zero, List.set_cons_succ]
  refine wpAnyH_take (i := 9) (oi := { dst := some 52, op := Go.Op.pick (Go.Operand.tmp 45) (Go.Operand.const (Go.Value.bool true)) (Go.Operand.tmp 51), type := 4, pos := "law.go:67", after := #[{ on := 2, ground := Go.Ground.data }, { on := 8, ground := Go.Ground.data }], guard := none }) (v := ?_) rfl (by kernel_rfl) (by kernel_rfl) (by kernel_rfl) (fun _ _ _ h => h) (Or.inl ⟨by rfl, ?_⟩) (by assumption) ?_
  rotate_left
  · (intro w hSw; (try dsimp only at hSw); go_simp; (try with_reducible rfl))
  try simp only [Act.put, List.setIfInBounds_toArray, List.set_cons_zero, List.set_cons_succ]
  refine wpAnyH_take (i := 10) (oi := { dst := some 4, op := Go.Op.assign (Go.Operand.tmp 52), type := 4, pos := "law.go:67", after := #[{ on := 9, ground := Go.Ground.data }, { on := 4, ground := Go.Ground.chain }, { on := 0, ground := Go.Ground.phase }, { on := 1, ground := Go.Ground.phase }, { on := 2, ground := Go.Ground.phase }, { on := 3, ground := Go.Ground.phase }, { on := 4, ground := Go.Ground.phase }, { on := 5, ground := Go.Ground.phase }, { on := 6, ground := Go.Ground.phase }, { on := 7, ground := Go.Ground.phase }, { on := 8, ground := Go.Ground.phase }, { on := 9, ground := Go.Ground.phase }], guard := none }) (v := ?_) rfl (by kernel_rfl) (by kernel_rfl) (by kernel_rfl) (fun _ _ _ h => h) (Or.inl ⟨by rfl, ?_⟩) (by assumption) ?_
  rotate_left
  · (intro w hSw; (try dsimp only at hSw); go_simp; (try with_reducible rfl))
  try simp only [Act.put, List.setIfInBounds_toArray, List.set_cons_zero, List.set_cons_succ]
  refine wpAnyH_done (by kernel_rfl) ?_ _
  go_wp2
  go_ret
  exact ⟨rfl, Hb5.out.drew⟩
set_option maxHeartbeats 2000000 in
set_option maxRecDepth 100000 in
theorem qany_some (s : List Nat) (x : List Bm.Stp) (n : Nat) (most : Int) (w : World) (hs : s.length ≤ 100) (hm : most ≤ 60) (hm0 : Bm.IntOk most) (hlt : ∀ x ∈ s, x < 256) (hn : Bm.secD s most = some (x, n)) :
    Calls Tryz.prog 4 #[.string (strOf s), .int .i64 most] w fun e w' => e = .returned (.bool true) ∧ Below w.heap.size w w' := by
  have Haw := Lib.hid (qawake_any w)
  have hsz := strOf_size s
  have d3 : decide ((100 : Int) < (s.length : Int)) = false := decide_eq_false (by omega)
  have d3n : decide (100 < s.length) = false := decide_eq_false (by omega)
  have d4 : decide ((60 : Int) < most) = false := decide_eq_false (by omega)
  have Hnew := Lib.hid (fun W => cnew_any s W)
  have hd := fun W b h => qdec_any b s most W hm0.1 hm0.2 (by omega) hlt h
  have hr := fun W => qrdec_any s most W (by omega) hlt hm0
  obtain ⟨hn0, hnl, hx⟩ := Bm.sec_le s most (x, n) hn
  rw [hn] at hd hr
  unfold SecR at hd
  unfold RdP at hr
  dsimp only at hd hr hx hn0 hnl
  have Hd := Lib.hid hd
  have Hr := Lib.hid hr
  have Hrest := Lib.hid (fun W b (h : CR W b (some (s.drop n))) => rrest_any b _ W h)
  simp only [restS] at Hrest
  have Hsame := Lib.hid (same_stp x hx)
  have hsd : ((strOf (s.drop n)).toList == (strOf (s.drop n)).toList) = true := by simp
  have hcut := fun W : World => str_from s n hnl W
  have d5 : decide ((0 : Int) < (n : Int)) = true := decide_eq_true (by omega)
  have d5n : decide (0 < n) = true := decide_eq_true hn0
  clear hn hd hr hlt hm0 hx
  generalize strOf (s.drop n) = sD at *
  generalize strOf s = str at *
  generalize x.length = lx at *
  go_enter Tryz.func4, Tryz.ntmps4
  go_wp2_with fail
  refine Haw.out.mono ?_
  rintro e w1 ⟨rfl, hb1⟩
  have Hb1 := Lib.hid hb1
  clear hb1 Haw
  go_wp2_with fail
  refine (Hnew.out _).mono ?_
  rintro e w2 ⟨rfl, hc2, hb2⟩
  have Hb2 := Lib.hid (Hb1.out.trans (hb2.mono Hb1.out.size))
  have Hle := Lib.hid Hb1.out.size
  have Hd2 := Lib.hid (Hd.out w2 _ hc2)
  clear hc2 hb2 Hb1 Hnew Hd
  generalize w1.heap.size = b at *
  go_wp2_with fail
  refine Hd2.out.mono ?_
  rintro e w3 ⟨⟨⟨A, c, rfl, hst3⟩, hc3⟩, hg3⟩
  have Hb3 := Lib.hid (Hb2.out.trans (below_grown hg3 Hle.out Hb2.out.size))
  have Hc3 := Lib.hid hc3
  have Hst3 := Lib.hid hst3
  clear hg3 Hb2 Hd2 hc3 hst3
  go_wp2_with fail
  refine (Hr.out _).mono ?_
  rintro e w4 ⟨⟨A', c', rfl, hst4⟩, hb4⟩
  have Hb4 := Lib.hid (Hb3.out.trans (hb4.mono Hb3.out.size))
  have Hc4 := Lib.hid (Hc3.out.below hb4)
  have Hs4 := Lib.hid (Hsame.out w4 A A' c c' (Hst3.out.below hb4) hst4)
  clear hb4 Hb3 Hr Hc3 Hst3 hst4 Hsame
  go_wp2_with fail
  refine Hs4.out.mono ?_
  rintro e w5 ⟨rfl, hb5⟩
  have Hb5 := Lib.hid (Hb4.out.trans (hb5.mono Hb4.out.size))
  have Hr5 := Lib.hid (Hrest.out w5.drew b (Hc4.out.below hb5).drew)
  clear hb5 Hb4 Hc4 Hrest Hs4
  go_upto_region 10 with fail
  refine wp_region_held_drew (S := (fun _ : World => True)) (by kernel_rfl) (by trivial) (fun hHeld => ?_)
  refine wpAnyH_take (i := 0) (oi := { dst := some 43, op := Go.Op.move (Go.Operand.tmp 7), type := 4, pos := "law.go:67", after := #[], guard := none }) (v := ?_) rfl (by kernel_rfl) (by kernel_rfl) (by kernel_rfl) (fun _ _ _ h => h) (Or.inl ⟨by rfl, ?_⟩) (by assumption) ?_
  rotate_left
  · (intro w hSw; (try dsimp only at hSw); go_simp; (try with_reducible rfl))
  try simp only [Act.put, List.setIfInBounds_toArray, List.set_cons_zero, List.set_cons_succ]
  refine wpAnyH_take (i := 1) (oi := { dst := some 44, op := Go.Op.unOp Go.UnOp.not 4 (Go.Operand.tmp 43), type := 4, pos := "law.go:67", after := #[{ on := 0, ground := Go.Ground.data }], guard := none }) (v := ?_) rfl (by kernel_rfl) (by kernel_rfl) (by kernel_rfl) (fun _ _ _ h => h) (Or.inl ⟨by rfl, ?_⟩) (by assumption) ?_
  rotate_left
  · (intro w hSw; (try dsimp only at hSw); go_simp; (try with_reducible rfl))
  try simp only [Act.put, List.setIfInBounds_toArray, List.set_cons_zero, List.set_cons_succ]
  refine wpAnyH_take (i := 2) (oi := { dst := some 45, op := Go.Op.move (Go.Operand.tmp 44), type := 4, pos := "law.go:67", after := #[{ on := 1, ground := Go.Ground.data }], guard := none }) (v := ?_) rfl (by kernel_rfl) (by kernel_rfl) (by kernel_rfl) (fun _ _ _ h => h) (Or.inl ⟨by rfl, ?_⟩) (by assumption) ?_
  rotate_left
  · (intro w hSw; (try dsimp only at hSw); go_simp; (try with_reducible rfl))
  try simp only [Act.put, List.setIfInBounds_toArray, List.set_cons_zero, List.set_cons_succ]
  refine wpAnyH_take (i := 3) (oi := { dst := some 46, op := Go.Op.move (Go.Operand.tmp 5), type := 29, pos := "law.go:67", after := #[{ on := 2, ground := Go.Ground.guard }], guard := some (2, false) }) (v := ?_) rfl (by kernel_rfl) (by kernel_rfl) (by kernel_rfl) (fun _ _ _ h => h) (Or.inl ⟨by rfl, ?_⟩) (by assumption) ?_
  rotate_left
  · (intro w hSw; (try dsimp only at hSw); go_simp; (try with_reducible rfl))
  try simp only [Act.put, List.setIfInBounds_toArray, List.set_cons_zero, List.set_cons_succ]
  refine wpAnyH_take (i := 5) (oi := { dst := some 48, op := Go.Op.move (Go.Operand.tmp 0), type := 9, pos := "law.go:67", after := #[{ on := 2, ground := Go.Ground.guard }], guard := some (2, false) }) (v := ?_) rfl (by kernel_rfl) (by kernel_rfl) (by kernel_rfl) (fun _ _ _ h => h) (Or.inl ⟨by rfl, ?_⟩) (by assumption) ?_
  rotate_left
  · (intro w hSw; (try dsimp only at hSw); go_simp; (try with_reducible rfl))
  try simp only [Act.put, List.setIfInBounds_toArray, List.set_cons_zero, List.set_cons_succ]
  refine wpAnyH_take (i := 6) (oi := { dst := some 49, op := Go.Op.move (Go.Operand.tmp 9), type := 3, pos := "law.go:67", after := #[{ on := 2, ground := Go.Ground.guard }], guard := some (2, false) }) (v := ?_) rfl (by kernel_rfl) (by kernel_rfl) (by kernel_rfl) (fun _ _ _ h => h) (Or.inl ⟨by rfl, ?_⟩) (by assumption) ?_
  rotate_left
  · (intro w hSw; (try dsimp only at hSw); go_simp; (try with_reducible rfl))
  try simp only [Act.put, List.setIfInBounds_toArray, List.set_cons_zero, List.set_cons_succ]
  refine wpAnyH_take (i := 7) (oi := { dst := some 50, op := Go.Op.slice 9 (Go.Operand.tmp 48) (some (Go.Operand.tmp 49)) none none, type := 9, pos := "law.go:67", after := #[{ on := 5, ground := Go.Ground.data }, { on := 6, ground := Go.Ground.data }, { on := 2, ground := Go.Ground.guard }], guard := some (2, false) }) (v := ?_) rfl (by kernel_rfl) (by kernel_rfl) (by kernel_rfl) (fun _ _ _ h => h) (Or.inl ⟨by rfl, ?_⟩) (by assumption) ?_
  rotate_left
  · (intro w hSw; (try dsimp only at hSw); go_simp; (try with_reducible rfl))
  try simp only [Act.put, List.setIfInBounds_toArray, List.set_cons_zero, List.set_cons_succ]
  refine wpAnyH_ready (rs := [4]) (by kernel_rfl) (by simp) ?_
  refine AllReadyH.cons (o := { dst := some 47, op := Go.Op.call { callee := Go.Callee.value (Go.Operand.func 12), args := #[Go.Operand.tmp 46], argTypes := #[29] }, type := 9, pos := "law.go:67", after := #[{ on := 3, ground := Go.Ground.data }, { on := 2, ground := Go.Ground.chain }, { on := 2, ground := Go.Ground.guard }], guard := some (2, false) }) rfl (fun K hK => ?_) AllReadyH.nil
  go_simp
  (go_at_call 12; refine Hr5.out.mono ?_; rintro e w6 ⟨rfl, hc6, hg6⟩; have HZ := Lib.hid (Hb5.out.drew.trans (below_grown hg6 Hle.out Hb5.out.drew.size)); clear hc6 hg6)
  go_simp
  refine hK.out _ _ (by trivial) (fun hHeld => ?_)
  clear hK K
  try simp only [Act.put, List.setIfInBounds_toArray, List.set_cons_zero, List.set_cons_succ]
  refine wpAnyH_take (i := 8) (oi := { dst := some 51, op := Go.Op.binOp Go.BinOp.eql 9 (Go.Operand.tmp 47) (Go.Operand.tmp 50) 9, type := 4, pos := "law.go:67", after := #[{ on := 4, ground := Go.Ground.data }, { on := 7, ground := Go.Ground.data }, { on := 2, ground := Go.Ground.guard }], guard := some (2, false) }) (v := ?_) rfl (by kernel_rfl) (by kernel_rfl) (by kernel_rfl) (fun _ _ _ h => h) (Or.inl ⟨by rfl, ?_⟩) (by assumption) ?_
  rotate_left
  · (intro w hSw; (try dsimp only at hSw); go_simp; (try with_reducible rfl))
  try simp only [Act.put, List.setIfInBounds_toArray, List.set_cons_zero, List.set_cons_succ]
  refine wpAnyH_take (i := 9) (oi := { dst := some 52, op := Go.Op.pick (Go.Operand.tmp 45) (Go.Operand.const (Go.Value.bool true)) (Go.Operand.tmp 51), type := 4, pos := "law.go:67", after := #[{ on := 2, ground := Go.Ground.data }, { on := 8, ground := Go.Ground.data }], guard := none }) (v := ?_) rfl (by kernel_rfl) (by kernel_rfl) (by kernel_rfl) (fun _ _ _ h => h) (Or.inl ⟨by rfl, ?_⟩) (by assumption) ?_
  rotate_left
  · (intro w hSw; (try dsimp only at hSw); go_simp; (try with_reducible rfl))
  try simp only [Act.put, List.setIfInBounds_toArray, List.set_cons_zero, List.set_cons_succ]
  refine wpAnyH_take (i := 10) (oi := { dst := some 4, op := Go.Op.assign (Go.Operand.tmp 52), type := 4, pos := "law.go:67", after := #[{ on := 9, ground := Go.Ground.data }, { on := 4, ground := Go.Ground.chain }, { on := 0, ground := Go.Ground.phase }, { on := 1, ground := Go.Ground.phase }, { on := 2, ground := Go.Ground.phase }, { on := 3, ground := Go.Ground.phase }, { on := 4, ground := Go.Ground.phase }, { on := 5, ground := Go.Ground.phase }, { on := 6, ground := Go.Ground.phase }, { on := 7, ground := Go.Ground.phase }, { on := 8, ground := Go.Ground.phase }, { on := 9, ground := Go.Ground.phase }], guard := none }) (v := ?_) rfl (by kernel_rfl) (by kernel_rfl) (by kernel_rfl) (fun _ _ _ h => h) (Or.inl ⟨by rfl, ?_⟩) (by assumption) ?_
  rotate_left
  · (intro w hSw; (try dsimp only at hSw); go_simp; (try with_reducible rfl))
  try simp only [Act.put, List.setIfInBounds_toArray, List.set_cons_zero, List.set_cons_succ]
  refine wpAnyH_done (by kernel_rfl) ?_ _
  go_wp2
  go_ret
  exact ⟨rfl, HZ.out⟩
end Go.Proofs.YtbdciiiimdbmkaaGreat

namespace Go.Proofs.YtbdciiiimdbmkaaGreat
open Go.RowKit

namespace Bm
theorem nat_stp : ∀ (l : List StZ), (∀ s ∈ l, MayZ s) → (l.map natZ).map stpZ = l
  | [], _ => rfl
  | s :: l, h => by
    obtain ⟨h0, _, h1, _, h2, _⟩ := h s List.mem_cons_self
    rw [List.map_cons, List.map_cons, nat_stp l (fun x hx => h x (List.mem_cons_of_mem _ hx))]
    have e : stpZ (natZ s) = s := by
      unfold stpZ natZ
      obtain ⟨a, b, c⟩ := s
      dsimp only at h0 h1 h2 ⊢
      rw [Int.toNat_of_nonneg h0, Int.toNat_of_nonneg (by omega), Int.toNat_of_nonneg (by omega)]
    rw [e]
end Bm
theorem str_noQ : strOf [] = ⟨#[]⟩ := by decide
theorem same_stz (l : List Bm.StZ) (hl : l.length ≤ 1000) (W : World) (A A' : Option Addr) (c c' : Nat) (h : StzR W A l) (h' : StzR W A' l) :
    Calls Tryz.prog 11 #[.slice A l.length c, .slice A' l.length c'] W fun e w' => e = .returned (.bool true) ∧ Below W.heap.size W w' := by
  have h1 := qsame_any A A' c c' l l W (by omega) (by omega) h h'
  simp only [decide_true] at h1
  exact h1
set_option maxHeartbeats 1000000 in
set_option maxRecDepth 100000 in
theorem qback_out (A : Option Addr) (c m : Nat) (u : List Nat) (w : World) (hm : m ≤ 9223372036854775807) (hu : u.length ≤ 9223372036854775807) (h : 60 < m ∨ 20 < u.length) :
    Calls Tryz.prog 3 #[.slice A m c, .string (strOf u)] w fun e w' => e = .returned (.bool true) ∧ Below w.heap.size w w' := by
  have Haw := Lib.hid (qawake_any w)
  have huz := strOf_size u
  generalize strOf u = stu at *
  go_enter Tryz.func3, Tryz.ntmps3
  go_wp2_with fail
  refine Haw.out.mono ?_
  rintro e w1 ⟨rfl, hb1⟩
  have Hb1 := Lib.hid hb1
  clear hb1
  by_cases h2 : 60 < m
  · have d2 : decide (60 < m) = true := decide_eq_true h2
    have d3 : decide ((60 : Int) < (m : Int)) = true := decide_eq_true (by omega)
    go_wp2
    go_ret
    exact ⟨rfl, Hb1.out⟩
  · have d2 : decide (60 < m) = false := decide_eq_false h2
    have d3 : decide ((60 : Int) < (m : Int)) = false := decide_eq_false (by omega)
    have h4 : 20 < u.length := by omega
    have d4 : decide (20 < u.length) = true := decide_eq_true h4
    have d5 : decide ((20 : Int) < (u.length : Int)) = true := decide_eq_true (by omega)
    go_wp2
    go_ret
    exact ⟨rfl, Hb1.out⟩
set_option maxHeartbeats 2000000 in
set_option maxRecDepth 100000 in
theorem qback_no (A : Option Addr) (c : Nat) (l : List Bm.StZ) (u : List Nat) (w : World) (hl : l.length ≤ 60) (hu : u.length ≤ 20) (hok : ZOk l) (hr : StzR w A l) (hno : ¬ ∀ s ∈ l, Bm.MayZ s) :
    Calls Tryz.prog 3 #[.slice A l.length c, .string (strOf u)] w fun e w' => e = .returned (.bool true) ∧ Below w.heap.size w w' := by
  have Haw := Lib.hid (qawake_any w)
  have huz := strOf_size u
  have d3 : decide ((60 : Int) < (l.length : Int)) = false := decide_eq_false (by omega)
  have d3n : decide (60 < l.length) = false := decide_eq_false (by omega)
  have d4 : decide ((20 : Int) < (u.length : Int)) = false := decide_eq_false (by omega)
  have d4n : decide (20 < u.length) = false := decide_eq_false (by omega)
  have henc := fun W (h : StzR W A l) => qenc_any A c l W (by omega) hok h
  have hri := fun W (h : StzR W A l) => qrright_any A c l W (by omega) h
  have hf : decide ((∀ s ∈ l, Bm.MayZ s) ∧ l.length ≤ 1000) = false := decide_eq_false (fun h => hno h.1)
  unfold EncP at henc
  simp only [if_neg hno, str_noQ] at henc
  simp only [hf] at hri
  have Henc := Lib.hid henc
  have Hri := Lib.hid hri
  have Hr := Lib.hid hr
  have hse : ((⟨#[]⟩ : ByteArray).toList == (⟨#[]⟩ : ByteArray).toList) = true := by simp
  clear henc hri hr hf hno hok
  generalize strOf u = stu at *
  go_enter Tryz.func3, Tryz.ntmps3
  go_wp2_with fail
  refine Haw.out.mono ?_
  rintro e w1 ⟨rfl, hb1⟩
  have Hb1 := Lib.hid hb1
  have Hr1 := Lib.hid (Hr.out.below hb1)
  have He1 := Lib.hid (Henc.out w1 Hr1.out)
  clear hb1 Haw Hr Henc
  go_wp2_with fail
  refine He1.out.mono ?_
  rintro e w2 ⟨rfl, hb2⟩
  have Hb2 := Lib.hid (Hb1.out.trans (hb2.mono Hb1.out.size))
  have Hr2 := Lib.hid (Hri.out w2 (Hr1.out.below hb2))
  clear hb2 Hb1 He1 Hri Hr1
  go_wp2_with fail
  refine Hr2.out.mono ?_
  rintro e w3 ⟨rfl, rfl⟩
  clear Hr2
  go_wp2
  go_ret
  exact ⟨rfl, Hb2.out⟩
set_option maxHeartbeats 2000000 in
set_option maxRecDepth 100000 in
theorem qback_yes (A : Option Addr) (c : Nat) (l : List Bm.StZ) (u : List Nat) (w : World) (hl : l.length ≤ 60) (hu : u.length ≤ 20) (hult : ∀ x ∈ u, x < 256) (hok : ZOk l) (hr : StzR w A l) (hy : ∀ s ∈ l, Bm.MayZ s) :
    Calls Tryz.prog 3 #[.slice A l.length c, .string (strOf u)] w fun e w' => e = .returned (.bool true) ∧ Below w.heap.size w w' := by
  have Haw := Lib.hid (qawake_any w)
  have huz := strOf_size u
  have d3 : decide ((60 : Int) < (l.length : Int)) = false := decide_eq_false (by omega)
  have d3n : decide (60 < l.length) = false := decide_eq_false (by omega)
  have d4 : decide ((20 : Int) < (u.length : Int)) = false := decide_eq_false (by omega)
  have d4n : decide (20 < u.length) = false := decide_eq_false (by omega)
  have henc := fun W (h : StzR W A l) => qenc_any A c l W (by omega) hok h
  have hri := fun W (h : StzR W A l) => qrright_any A c l W (by omega) h
  have hf : decide ((∀ s ∈ l, Bm.MayZ s) ∧ l.length ≤ 1000) = true := decide_eq_true ⟨hy, by omega⟩
  unfold EncP at henc
  simp only [if_pos hy] at henc
  simp only [hf] at hri
  have hns := Bm.nat_stp l hy
  have Hz : Hid (∀ W B, StpR W B (l.map Bm.natZ) → StzR W B l) := Lib.hid (fun W B h => by
    have h1 := stz_of h
    rw [hns] at h1
    exact h1)
  have Hsame := Lib.hid (same_stz l (by omega))
  have Henc := Lib.hid henc
  have Hri := Lib.hid hri
  have Hr := Lib.hid hr
  have Hl := Lib.hid hl
  have Hu := Lib.hid hu
  have Hult := Lib.hid hult
  have huu : ((strOf u).toList == (strOf u).toList) = true := by simp
  clear henc hri hr hf hy hok hns hult
  go_enter Tryz.func3, Tryz.ntmps3
  go_wp2_with fail
  refine Haw.out.mono ?_
  rintro e w1 ⟨rfl, hb1⟩
  have Hb1 := Lib.hid hb1
  have Hr1 := Lib.hid (Hr.out.below hb1)
  have He1 := Lib.hid (Henc.out w1 Hr1.out)
  clear hb1 Haw Hr Henc
  go_wp2_with fail
  refine He1.out.mono ?_
  rintro e w2 ⟨⟨S, hS, rfl⟩, hb2⟩
  have Hb2 := Lib.hid (Hb1.out.trans (hb2.mono Hb1.out.size))
  have Hr2 := Lib.hid (Hr1.out.below hb2)
  have Hi2 := Lib.hid (Hri.out w2 Hr2.out)
  clear hb2 Hb1 He1 Hri Hr1
  have hSl := hS.len
  have hread := hS.read u
  have hSu : (S ++ u).length ≤ 20000 := by rw [List.length_append]; have := Hu.out; omega
  have hSlt : ∀ x ∈ S ++ u, x < 256 := append_lt hS.lt Hult.out
  have hadd := fun W : World => str_add S u (by have := Hu.out; omega) W
  have hrf := fun W => qrdec_any (S ++ u) (l.length : Int) W (by omega) hSlt (by have := Hl.out; constructor <;> omega)
  have hdc := fun W b h => qdec_any b (S ++ u) (l.length : Int) W (by omega) (by have := Hl.out; omega) (by omega) hSlt h
  rw [hread] at hrf hdc
  unfold SecR at hdc
  unfold RdP at hrf
  dsimp only at hdc hrf
  rw [List.drop_left, List.length_map] at hdc
  rw [List.length_map] at hrf
  have Hrf := Lib.hid hrf
  have Hdc := Lib.hid hdc
  have Hnew := Lib.hid (fun W => cnew_any (S ++ u) W)
  have Hrest := Lib.hid (fun W b (h : CR W b (some u)) => rrest_any b _ W h)
  simp only [restS] at Hrest
  have hsS := strOf_size S
  have hee : ((S.length : Int) == (S.length : Int)) = true := by simp
  clear hS hread hSu hSlt hrf hdc Hult
  generalize strOf (S ++ u) = sSu at *
  generalize strOf S = sS at *
  generalize S.length = lS at *
  generalize strOf u = stu at *
  go_wp2_with fail
  refine Hi2.out.mono ?_
  rintro e w3 ⟨rfl, rfl⟩
  clear Hi2
  go_wp2_with fail
  refine (Hrf.out _).mono ?_
  rintro e w3 ⟨⟨A3, c3, rfl, hst3⟩, hb3⟩
  have Hb3 := Lib.hid (Hb2.out.trans (hb3.mono Hb2.out.size))
  have Hr3 := Lib.hid (Hr2.out.below hb3)
  have Hz3 := Lib.hid (Hz.out _ _ hst3)
  clear hb3 Hb2 Hrf Hr2 hst3
  go_wp2_with fail
  refine (Hnew.out _).mono ?_
  rintro e w4 ⟨rfl, hc4, hb4⟩
  have Hb4 := Lib.hid (Hb3.out.trans (hb4.mono Hb3.out.size))
  have Hle := Lib.hid Hb3.out.size
  have Hd4 := Lib.hid (Hdc.out w4 _ hc4)
  have Hk : Hid (∀ w5, w4.grownBy w5 (some w3.heap.size) → StzR w5 A l ∧ StzR w5 A3 l) := Lib.hid (fun w5 hg => by
    have hb := hb4.trans (below_grown hg (Nat.le_refl _) hb4.size)
    exact ⟨Hr3.out.below hb, Hz3.out.below hb⟩)
  clear hc4 hb4 Hb3 Hnew Hdc Hr3 Hz3
  generalize w3.heap.size = b at *
  go_wp2_with fail
  refine Hd4.out.mono ?_
  rintro e w5 ⟨⟨⟨A5, c5, rfl, hst5⟩, hc5⟩, hg5⟩
  have Hb5 := Lib.hid (Hb4.out.trans (below_grown hg5 Hle.out Hb4.out.size))
  have Hc5 := Lib.hid hc5
  have Hr5 := Lib.hid (Hk.out _ hg5).1
  have Hy5 := Lib.hid (Hz.out _ _ hst5)
  have Hs5 := Lib.hid (Hsame.out w5 A3 A c3 c (Hk.out _ hg5).2 Hr5.out)
  clear hc5 hst5 hg5 Hb4 Hd4 Hk Hz
  go_wp2_with fail
  refine Hs5.out.mono ?_
  rintro e w6 ⟨rfl, hb6⟩
  have Hb6 := Lib.hid (Hb5.out.trans (hb6.mono Hb5.out.size))
  have Hc6 := Lib.hid (Hc5.out.below hb6)
  have Hs6 := Lib.hid (Hsame.out w6 A5 A c5 c (Hy5.out.below hb6) (Hr5.out.below hb6))
  clear hb6 Hb5 Hc5 Hr5 Hy5 Hs5 Hsame
  go_wp2_with fail
  refine Hs6.out.mono ?_
  rintro e w7 ⟨rfl, hb7⟩
  have Hb7 := Lib.hid (Hb6.out.trans (hb7.mono Hb6.out.size))
  have Hr7 := Lib.hid (Hrest.out w7 b (Hc6.out.below hb7))
  clear hb7 Hb6 Hc6 Hs6 Hrest
  go_wp2_with fail
  refine Hr7.out.mono ?_
  rintro e w8 ⟨rfl, hc8, hg8⟩
  have Hb8 := Lib.hid (Hb7.out.trans (below_grown hg8 Hle.out Hb7.out.size))
  clear hc8 hg8 Hb7 Hr7
  go_wp2
  go_ret
  exact ⟨rfl, Hb8.out⟩
end Go.Proofs.YtbdciiiimdbmkaaGreat
