/-
  The program's layer 9 (huff), by its walk: singles. Conditions: as each theorem's premises say.
  The program's layer 9 (huff), by its walk: bounded, over what pairs is to answer. Conditions: as each theorem's premises say.
-/
import Derived.Test.YtgcfdjgfnagmjaaGreatGan
import Derived.Test.YtgcfdjgfnagmjaaGreatGam
namespace Go.Proofs.YtgcfdjgfnagmjaaGreat
open Go.RowKit
/-- Each parcel's symbols lie in its block. -/
def SymsM (w : World) (T : List Pcl) : Prop := ∀ t ∈ T, ∃ post, Row w t.2.1.1 3 (i64s t.2.2 ++ post)
theorem SymsM.below {w w' : World} {T : List Pcl} (h : SymsM w T) (hb : Below w.heap.size w w') : SymsM w' T := fun t ht => by
  obtain ⟨post, hr⟩ := h t ht
  exact ⟨post, row_below hr hb⟩
theorem SymsM.grown {w w' : World} {T : List Pcl} {row : Option Nat} (h : SymsM w T) (hg : w.grownBy w' row) (hr : ∀ b, row = some b → ∃ cs, Row w b 122 cs) : SymsM w' T := fun t ht => by
  obtain ⟨post, hrow⟩ := h t ht
  refine ⟨post, hrow.keep (hg.block _ hrow.lt (fun e => ?_))⟩
  obtain ⟨cs, hc⟩ := hr _ e.symm
  unfold Row at hrow hc
  rw [hc] at hrow
  injection hrow with hrow
  injection hrow with _ e2
  exact absurd e2 (by decide)
theorem prow_of_own {w : World} {base n : Nat} {v : Value} {T : List Pcl} (h : w.ownsRow base 122 2 v n (p2 T)) (hn : 0 < n) : T.length = n ∧ ∃ g cap post, v = .slice (some ⟨g, 0, none⟩) n cap ∧ base ≤ g ∧ n ≤ cap ∧ cap ≤ maxLen ∧ PRow w g T post := by
  have hl : T.length = n := by have := h.1; rw [p2_length] at this; omega
  rcases h.2 with ⟨_, h0⟩ | ⟨g, cap, cur, rfl, hb, hg, hnc, hcm, hcs, ht⟩
  · omega
  · refine ⟨hl, g, cap, cur.toList.drop (n * 2), rfl, hb, hnc, hcm, ?_⟩
    unfold PRow Row
    rw [← ht, List.take_append_drop, Array.toArray_toList]
    exact hg
theorem grown_trans9 {a b c : World} {row : Option Nat} (h : a.grownBy b row) (k : b.grownBy c row) : a.grownBy c row :=
  ⟨k.os.trans h.os, k.tape.trans h.tape, k.output.trans h.output, Nat.le_trans h.size k.size, fun i hi hn => (k.block i (Nat.lt_of_lt_of_le hi h.size) hn).trans (h.block i hi hn)⟩
/-- What singles has made of the first k symbols. -/
def SingTo (cs : List Nat) (k : Nat) (T : List Pcl) : Prop := T.map (fun t => (t.1, t.2.2)) = (Bm.lvsTo cs k).map fun u => (u.1, [u.2])
theorem sing_fin {cs : List Nat} {T S : List Pcl} (h : SingTo cs cs.length T) (hs : Bm.Srt S) (hst : Bm.Stb T S) : Bm.SingN cs S ∧ (S.map (·.1)).Perm (Bm.posC cs) ∧ S.length = (Bm.lvs cs).length := by
  have h1 : T.map (·.1) = (Bm.lvs cs).map (·.1) := by
    have := congrArg (List.map (fun p : Nat × List Nat => p.1)) h
    rw [List.map_map, List.map_map] at this
    exact this
  have h2 : Bm.syms T = (Bm.lvs cs).map (·.2) := by
    have := congrArg (List.flatMap (fun p : Nat × List Nat => p.2)) h
    rw [List.flatMap_map, List.flatMap_map] at this
    unfold Bm.syms Bm.lvs
    rw [this]
    generalize Bm.lvsTo cs cs.length = L
    induction L with
    | nil => rfl
    | cons a L ih => rw [List.flatMap_cons, ih, List.map_cons]; rfl
  have hsy := Bm.syms_perm hst.1
  refine ⟨⟨hs, fun t ht => ?_, ?_, fun i hi h0 => ?_⟩, ?_, ?_⟩
  · have hT := hst.1.mem_iff.2 ht
    have hm : (t.1, t.2.2) ∈ (Bm.lvsTo cs cs.length).map (fun u => (u.1, [u.2])) := by
      rw [← h]
      exact List.mem_map.2 ⟨t, hT, rfl⟩
    obtain ⟨u, hu, e⟩ := List.mem_map.1 hm
    obtain ⟨u1, u2, u3⟩ := (Bm.lvsTo_mem cs cs.length u).1 hu
    injection e with e1 e2
    exact ⟨u.2, e2.symm, by rw [← e1, u2], by unfold Bm.nat1; omega, u1⟩
  · refine (hsy.nodup_iff).1 ?_
    rw [h2]
    exact Bm.nodup_lvs cs _
  · refine hsy.mem_iff.1 ?_
    rw [h2]
    exact List.mem_map.2 ⟨(Bm.nat1 cs i, i), (Bm.lvsTo_mem cs _ _).2 ⟨hi, rfl, h0⟩, rfl⟩
  · refine (hst.1.symm.map _).trans ?_
    rw [h1, Bm.lvs_fst]
  · rw [← hst.1.length_eq, ← List.length_map (f := (·.1)), h1, List.length_map]
set_option maxHeartbeats 2000000 in
set_option maxRecDepth 100000 in
theorem using_any (A : Option Addr) (c : Nat) (cs : List Nat) (w : World) (hl : cs.length ≤ 256) (hm : ∀ x ∈ cs, x ≤ 1048576) (hex : ∃ x ∈ cs, 0 < x) (hr : Reads w A (i64s cs)) :
    Calls Tryz.prog 84 #[.slice A cs.length c] w fun e w' => ∃ g cap post S, e = .returned (.slice (some ⟨g, 0, none⟩) S.length cap) ∧ S.length ≤ cap ∧ cap ≤ maxLen ∧ PRow w' g S post ∧ SymsM w' S ∧ Bm.SingN cs S ∧ (S.map (·.1)).Perm (Bm.posC cs) ∧ S.length = (Bm.lvs cs).length ∧ Below w.heap.size w w' := by
  obtain ⟨i0, hi, hz0, hz1, hz2⟩ := info_parts info_pcl
  have Hr := Lib.hid hr
  have Hm := Lib.hid hm
  have Hex := Lib.hid hex
  clear hr hm hex
  go_enter Tryz.func84, Tryz.ntmps84
  go_wp2
  go_loopw [3, 8] (fun vv iv wr => ∃ k : Nat, k ≤ cs.length ∧ iv = .int .i64 (k : Int) ∧ Hid (∃ T, T.length ≤ k ∧ SingTo cs k T ∧ wr.ownsRow w.heap.size 122 2 vv T.length (p2 T) ∧ SymsM wr T) ∧ Hid (Below w.heap.size w wr)) (fun _ iv _ => cs.length - (intOf iv).toNat)
  case atStart => exact ⟨0, by omega, rfl, Lib.hid ⟨[], by simp, by simp [SingTo, Bm.lvsTo], World.ownsRow_nil _ _ _ _, fun t ht => by simp at ht⟩, Lib.hid (Below.refl _ _)⟩
  case round =>
    obtain ⟨k, hk, rfl, hst, hbel⟩ := hrel
    by_cases hkl : k < cs.length
    · obtain ⟨g, off, rfl, hc⟩ := reads_i9 (reads_on Hr.out hbel.out) (by omega)
      have c0 := hc k hkl
      have Hlv := Lib.hid (Bm.lvsTo_succ cs k)
      rw [List.getElem?_eq_getElem hkl, Option.getD_some] at Hlv
      have hx := Hm.out cs[k] (List.getElem_mem hkl)
      clear hc
      generalize cs[k] = x at *
      by_cases h0 : 0 < x
      · rw [if_pos h0] at Hlv
        obtain ⟨T, hTl, hT, hown, hsm⟩ := hst.out
        obtain ⟨n, hn⟩ : ∃ n, n = T.length := ⟨_, rfl⟩
        rw [← hn] at hown hTl
        have Hn := Lib.hid hn
        have HT := Lib.hid hT
        have Hsm := Lib.hid hsm
        have Hown := Lib.hid hown
        have hws := hbel.out.size
        clear hst hT hown hsm hn
        go_wp2_with (at_builtin; refine wpList_append_own _ rfl _ _ 117 rfl w.heap.size 122 i0 (.agg #[.int .i64 0, .slice none 0 0]) 2 32 Tryz.underlying117 hi hz0 hz1 hz2 rfl (by decide) _ _ _ rfl ((Hown.out.alloc _).alloc _) ⟨wr.heap.size + 1, 0, none⟩ 1 1 [.int .i64 (x : Int), .slice (some ⟨wr.heap.size, 0, none⟩) 1 1] rfl rfl ?d1 ?d2 ?d3 ?d4 ?d5 ?_)
        case d1 =>
          intro j u hj
          match j, hj with
          | 0, hj => simp at hj; subst hj; simp [Addr.add]
          | 1, hj => simp at hj; subst hj; simp [Addr.add]
        case d2 =>
          intro u hu
          simp at hu
          rcases hu with rfl | rfl <;> rfl
        case d3 => unfold maxLen; omega
        case d4 => omega
        case d5 => simp; omega
        intro u' w7 hown7 hgr7 _
        have hb2 : Below wr.heap.size wr ((wr.alloc (.cells #[.int .i64 (k : Int)] 3)).alloc (.cells #[.int .i64 (x : Int), .slice (some ⟨wr.heap.size, 0, none⟩) 1 1] 122)) := ((Below.refl _ _).alloc (Nat.le_refl _) _).alloc (by simp) _
        have hnew := (Row.new wr 3 [.int .i64 (k : Int)]).alloc (.cells #[.int .i64 (x : Int), .slice (some ⟨wr.heap.size, 0, none⟩) 1 1] 122)
        have hfin : ∃ T', T'.length ≤ k + 1 ∧ SingTo cs (k + 1) T' ∧ w7.ownsRow w.heap.size 122 2 u' T'.length (p2 T') ∧ SymsM w7 T' := by
          have hkind : ∀ b, u3.ownBlock = some b → ∃ cs, Row ((wr.alloc (.cells #[.int .i64 (k : Int)] 3)).alloc (.cells #[.int .i64 (x : Int), .slice (some ⟨wr.heap.size, 0, none⟩) 1 1] 122)) b 122 cs := fun b hb => by
            rcases Hown.out.2 with ⟨rfl, _⟩ | ⟨g', cap', cur, rfl, _, hg', _⟩
            · cases hb
            · simp only [Value.ownBlock, Option.some.injEq] at hb
              subst hb
              have hr' : Row wr g' 122 cur.toList := by unfold Row; rw [Array.toArray_toList]; exact hg'
              exact ⟨_, (hr'.alloc _).alloc _⟩
          refine ⟨T ++ [(x, (wr.heap.size, 1), [k])], by rw [List.length_append, ← Hn.out]; simp; omega, ?_, ?_, fun t ht => ?_⟩
          · have h2 := HT.out
            unfold SingTo at h2 ⊢
            rw [Hlv.out, List.map_append, List.map_append, h2]
            rfl
          · rw [List.length_append, ← Hn.out, p2_append]
            exact hown7
          · rcases List.mem_append.1 ht with ht | ht
            · exact (((Hsm.out.below hb2)).grown hgr7 hkind) t ht
            · simp only [List.mem_singleton] at ht
              subst ht
              refine ⟨[], hnew.keep (hgr7.block _ hnew.lt (fun e => ?_))⟩
              have := (Hown.out.lt _ e.symm).2
              omega
        have Hfin := Lib.hid hfin
        have Hb7 := Lib.hid ((hbel.out.trans (hb2.mono hws)).grown hgr7 (Nat.le_trans hws hb2.size) (fun q hq => (Hown.out.lt q hq).1))
        clear hfin hb2 hnew hown7 hgr7 Hown Hsm HT hbel c0
        go_wp2
        go_roundw
        case rel => exact ⟨k + 1, by omega, by go_num, Hfin, Hb7⟩
        case measure => simp [intOf]; omega
      · rw [if_neg h0, List.append_nil] at Hlv
        go_wp2
        go_roundw
        case rel => exact ⟨k + 1, by omega, by go_num, Lib.hid (by
          obtain ⟨T, h1, h2, h3, h4⟩ := hst.out
          exact ⟨T, by omega, by unfold SingTo at h2 ⊢; rw [Hlv.out]; exact h2, h3, h4⟩), hbel⟩
        case measure => simp [intOf]; omega
    · obtain rfl : k = cs.length := by omega
      obtain ⟨T, hTl, hT, hown, hsm⟩ := hst.out
      have hTn : T.length = (Bm.lvs cs).length := by
        have := congrArg List.length hT
        rw [List.length_map, List.length_map] at this
        exact this
      have h1 := Bm.lvs_some cs Hex.out
      obtain ⟨_, g, cap, post, hv, hbg, hnc, hcm, hprow⟩ := prow_of_own hown (by omega)
      subst hv
      have hlight : Light T := fun t ht => by
        have hm : (t.1, t.2.2) ∈ (Bm.lvsTo cs cs.length).map (fun u => (u.1, [u.2])) := by
          rw [← hT]
          exact List.mem_map.2 ⟨t, ht, rfl⟩
        obtain ⟨u, hu, e⟩ := List.mem_map.1 hm
        obtain ⟨u1, u2, u3⟩ := (Bm.lvsTo_mem cs cs.length u).1 hu
        injection e with e1 _
        rw [← e1, u2, List.getElem?_eq_getElem u1, Option.getD_some]
        have := Hm.out _ (List.getElem_mem u1)
        omega
      have Hli := Lib.hid (ulighter_any g cap T post wr (by omega) hlight hprow)
      have Hrow := Lib.hid hprow
      have Hsm := Lib.hid hsm
      have HT := Lib.hid hT
      have HTn := Lib.hid hTn
      clear hst hown hsm hT hprow hlight hTn
      go_wp2_with fail
      refine Hli.out.mono ?_
      rintro e w2 ⟨rfl, S, k1, k2, k3, k4⟩
      obtain ⟨z1, z2, z3⟩ := sing_fin HT.out k2 k3
      have hsl := k3.1.length_eq
      have hsm2 : SymsM w2 S := fun t ht => (Hsm.out.grown k4 (fun b hb => by injection hb with hb; subst hb; exact ⟨_, Hrow.out⟩)) t (k3.1.mem_iff.2 ht)
      have hfin : S.length ≤ cap ∧ cap ≤ maxLen ∧ PRow w2 g S post ∧ SymsM w2 S ∧ Bm.SingN cs S ∧ (S.map (·.1)).Perm (Bm.posC cs) ∧ S.length = (Bm.lvs cs).length ∧ Below w.heap.size w w2 :=
        ⟨by omega, hcm, k1, hsm2, z1, z2, z3, below_grown (grown_trans9 (grown_below hbel.out (some g)) k4) hbg (Nat.le_refl _)⟩
      have Hf := Lib.hid hfin
      rw [hsl]
      clear hfin k1 k2 k3 k4 hsm2 z1 z2 z3 hsl Hli
      go_wp2
      go_ret
      exact ⟨g, cap, post, S, rfl, Hf.out⟩
end Go.Proofs.YtgcfdjgfnagmjaaGreat

namespace Go.Proofs.YtgcfdjgfnagmjaaGreat
open Go.RowKit
/-- What pairs is to answer. -/
def PairsC : Prop := ∀ (W : World) (g cap : Nat) (T : List Pcl) (post : List Value), 2 ≤ T.length → T.length ≤ 1000 → T.length ≤ cap → cap ≤ maxLen → (∀ t ∈ T, t.1 ≤ 1100000000 ∧ 1 ≤ t.2.2.length ∧ t.2.2.length ≤ 2000) → PRow W g T post → SymsM W T →
  Calls Tryz.prog 87 #[.slice (some ⟨g, 0, none⟩) T.length cap] W fun e w' => ∃ v P, e = .returned v ∧ Bm.PairsOf T P ∧ w'.ownsRow W.heap.size 122 2 v P.length (p2 P) ∧ SymsM w' P ∧ Below W.heap.size W w'
/-- A list of bounded's in memory. -/
structure LevM (w wr : World) (g cap : Nat) (S T : List Pcl) (t : Nat) : Prop where
  lev : Bm.Lev S t T
  fits : T.length ≤ cap
  most : cap ≤ maxLen
  row : ∃ post, PRow wr g T post
  sy : SymsM wr T
theorem cells_of {w : World} {g : Nat} {L : List Pcl} {post : List Value} (h : PRow w g L post) : ∀ W, Below w.heap.size w W → ∀ j u, (p2 L)[j]? = some u → W.cell? ((⟨g, 0, none⟩ : Addr).add j) = some u := fun W hW j u hu => by
  have h1 := h.below hW
  have e : ((⟨g, 0, none⟩ : Addr).add j) = ⟨g, j, none⟩ := by
    unfold Addr.add
    split <;> simp_all
  have hj : j < (p2 L).length := (List.getElem?_eq_some_iff.1 hu).1
  rw [e, Row.cell h1, List.getElem?_append_left hj]
  exact hu
set_option maxHeartbeats 400000 in
set_option maxRecDepth 100000 in
theorem ubnd_any (hP : PairsC) (A : Option Addr) (c : Nat) (cs : List Nat) (w : World) (hl : cs.length ≤ 256) (hm : ∀ x ∈ cs, x ≤ 1048576) (hex : ∃ x ∈ cs, 0 < x) (h2 : 2 ≤ (Bm.lvs cs).length) (hr : Reads w A (i64s cs)) :
    Calls Tryz.prog 56 #[.slice A cs.length c] w fun e w' => ∃ v, e = .returned v ∧ LensP w w' cs v := by
  obtain ⟨i0, hi, hz0, hz1, hz2⟩ := info_parts info_in
  have Hsi := Lib.hid (using_any A c cs w hl hm hex hr)
  have hlv : (Bm.lvs cs).length ≤ 256 := Nat.le_trans (Bm.lvsTo_len cs cs.length) hl
  have Hm := Lib.hid hm
  have HP := Lib.hid hP
  clear hr hm hex hP
  go_enter Tryz.func56, Tryz.ntmps56
  go_wp2_with fail
  refine Hsi.out.mono ?_
  rintro e w1 ⟨gS, capS, postS, S, rfl, hSc, hScm, hSrow, hSsy, hSN, hSperm, hSlen, hb1⟩
  obtain ⟨n, hn⟩ : ∃ n, n = S.length := ⟨_, rfl⟩
  have hn2 : 2 ≤ n := by omega
  have hn256 : n ≤ 256 := by omega
  have Hn := Lib.hid hn
  have Hb1 := Lib.hid hb1
  have HSN := Lib.hid hSN
  have HSrow := Lib.hid hSrow
  have HSsy := Lib.hid hSsy
  have HSperm := Lib.hid hSperm
  have HSlen := Lib.hid hSlen
  have hst : LevM w w1 gS capS S S 0 := ⟨.zero, hSc, hScm, ⟨postS, hSrow⟩, hSsy⟩
  have Hst := Lib.hid hst
  rw [← hn] at hSc ⊢
  clear hst hSN hSrow hSsy hSperm hSlen hb1 hn Hsi
  go_wp2
  go_loopw [4, 13] (fun lv iv wr => ∃ (t g cap m : Nat) (T : List Pcl), iv = .int .i64 (t : Int) ∧ t ≤ 10 ∧ lv = .slice (some ⟨g, 0, none⟩) m cap ∧ m = T.length ∧ Hid (LevM w wr g cap S T t) ∧ Hid (Below w1.heap.size w1 wr)) (fun _ iv _ => 10 - (intOf iv).toNat)
  case atStart => exact ⟨0, gS, capS, n, S, rfl, by omega, rfl, Hn.out, Hst, Lib.hid (Below.refl _ _)⟩
  case round =>
    obtain ⟨t, g, cap, m, T, rfl, ht, rfl, hmT, hlev, hb⟩ := hrel
    clear Hst
    obtain ⟨z1, z2, z3⟩ := Bm.lev_size HSN.out Hm.out hlev.out.lev
    have hp10 : 2 ^ t ≤ 1024 := by
      have : 2 ^ t ≤ 2 ^ 10 := Nat.pow_le_pow_right (by omega) ht
      have h3 : (2 : Nat) ^ 10 = 1024 := by decide
      omega
    rw [← hmT, ← Hn.out] at z1 z2
    have HmT := Lib.hid hmT
    clear hmT
    by_cases htl : t < 10
    · have hpc : Calls Tryz.prog 87 #[.slice (some ⟨g, 0, none⟩) m cap] wr fun e w' => ∃ v P, e = .returned v ∧ Hid (Bm.PairsOf T P ∧ w'.ownsRow wr.heap.size 122 2 v P.length (p2 P) ∧ SymsM w' P ∧ Below wr.heap.size wr w') := by
        have hmT := HmT.out
        obtain ⟨post, hrow⟩ := hlev.out.row
        have h := HP.out wr g cap T post (by omega) (by omega) hlev.out.fits hlev.out.most (fun u hu => by
          have h3 := z3 u hu
          have h4 := ((Bm.lev_ok HSN.out hlev.out.lev).2 u hu).2.1
          have : 2 ^ t * 1048576 ≤ 1024 * 1048576 := Nat.mul_le_mul_right _ hp10
          omega) hrow hlev.out.sy
        rw [← hmT] at h
        exact h.mono fun e w' ⟨v, P, h1, h2, h3, h4, h5⟩ => ⟨v, P, h1, Lib.hid ⟨h2, h3, h4, h5⟩⟩
      have Hpc := Lib.hid hpc
      clear hpc
      go_wp2_with fail
      refine Hpc.out.mono ?_
      rintro e w2 ⟨v, P, rfl, hp⟩
      obtain ⟨hpo, hown, hsyP, hb2⟩ := hp.out
      have hPl := hpo.len
      rw [← HmT.out] at hPl
      obtain ⟨_, gP, capP, postP, hv, hgP, hPc, hPcm, hProw⟩ := prow_of_own hown (by omega)
      subst hv
      have Hpo := Lib.hid hpo
      have HPsy := Lib.hid hsyP
      have HProw := Lib.hid hProw
      have Hb2 := Lib.hid (hb.out.trans (hb2.mono hb.out.size))
      obtain ⟨pl, hpl⟩ : ∃ pl, pl = P.length := ⟨_, rfl⟩
      rw [← hpl] at hPl hPc ⊢
      have Hpl := Lib.hid hpl
      have hpl1 : 1 ≤ pl := by omega
      have hpl2 : pl ≤ 1000 := by omega
      have hPsz : ∀ u ∈ P, u.1 ≤ 4000000000 := fun u hu => by
        obtain ⟨x, hx, rfl⟩ := List.mem_iff_getElem.1 hu
        have a1 := hpo.wt x hx
        have hl2 := hpo.len
        have hmT := HmT.out
        unfold Bm.wt at a1
        rw [List.getElem?_eq_getElem hx, Option.getD_some] at a1
        have b1 := z3 _ (Bm.mem_getD (show 2 * x < T.length by omega))
        have b2 := z3 _ (Bm.mem_getD (show 2 * x + 1 < T.length by omega))
        have : 2 ^ t * 1048576 ≤ 1024 * 1048576 := Nat.mul_le_mul_right _ hp10
        omega
      have HPsz := Lib.hid hPsz
      have HPl := Lib.hid hPl
      have hw12 := hb.out.size
      clear hp hown hsyP hProw hb2 hpo hpl Hpc hPsz hb hPl
      have hcon : ∀ o, o = Obj.cells #[.slice (some ⟨gS, 0, none⟩) n capS, .slice (some ⟨gP, 0, none⟩) pl capP] 117 → Calls Tryz.prog 86 #[.slice (some ⟨w2.heap.size, 0, none⟩) 2 2] (w2.alloc o) fun e w' => ∃ g2 cap2, e = .returned (.slice (some ⟨g2, 0, none⟩) (n + pl) cap2) ∧ Hid (w1.heap.size ≤ g2 ∧ n + pl ≤ cap2 ∧ cap2 ≤ maxLen ∧ (∃ post, PRow w' g2 (S ++ P) post) ∧ SymsM w' (S ++ P) ∧ Below w1.heap.size w1 w') := by
        rintro o rfl
        have hal := (Below.refl w2.heap.size w2).alloc (Nat.le_refl _) (.cells #[.slice (some ⟨gS, 0, none⟩) n capS, .slice (some ⟨gP, 0, none⟩) pl capP] 117)
        have hw3 := Hb2.out.trans (hal.mono Hb2.out.size)
        have h := uconp_any w2.heap.size gS n capS gP pl capP S P _ (by omega) Hn.out.symm Hpl.out.symm (by omega) (by omega) (Row.new w2 117 [.slice (some ⟨gS, 0, none⟩) n capS, .slice (some ⟨gP, 0, none⟩) pl capP]) (cells_of (HSrow.out.below hw3)) (cells_of (HProw.out.below hal))
        refine h.mono ?_
        rintro e w' ⟨v, he, hown, hb⟩
        obtain ⟨hlen, g2, cap2, post2, hv, hg2, hc2, hm2, hrow2⟩ := prow_of_own hown (by omega)
        refine ⟨g2, cap2, by rw [he, hv], Lib.hid ⟨Nat.le_trans hw3.size hg2, hc2, hm2, ⟨post2, hrow2⟩, fun t ht => ?_, hw3.trans (hb.mono hw3.size)⟩⟩
        rcases List.mem_append.1 ht with ht | ht
        · exact (HSsy.out.below (hw3.trans (hb.mono hw3.size))) t ht
        · exact ((HPsy.out.below hal).below hb) t ht
      have Hcon := Lib.hid (hcon _ rfl)
      clear hcon
      go_wp2_with fail
      refine Hcon.out.mono ?_
      rintro e w4 ⟨g2, cap2, rfl, hh⟩
      obtain ⟨hg2, hc2, hm2, ⟨post2, hrow2⟩, hsy2, hb4⟩ := hh.out
      have hSlight : ∀ u ∈ S, u.1 ≤ 4000000000 := fun u hu => by
        obtain ⟨i, e1, e2, _, e4⟩ := HSN.out.one u hu
        rw [e2]
        unfold Bm.nat1
        rw [List.getElem?_eq_getElem e4, Option.getD_some]
        have := Hm.out _ (List.getElem_mem e4)
        omega
      have hSP : (S ++ P).length = n + pl := by rw [List.length_append, ← Hn.out, ← Hpl.out]
      have hli := ulighter_any g2 cap2 (S ++ P) post2 w4 (by omega) (fun u hu => by
        rcases List.mem_append.1 hu with hu | hu
        · exact hSlight u hu
        · exact HPsz.out u hu) hrow2
      rw [hSP] at hli
      have Hli := Lib.hid hli
      have Hrow2 := Lib.hid hrow2
      have Hsy2 := Lib.hid hsy2
      have Hb4 := Lib.hid hb4
      have HSP := Lib.hid hSP
      clear hh hrow2 hsy2 hb4 hSlight hli hSP Hcon
      go_wp2_with fail
      refine Hli.out.mono ?_
      rintro e w5 ⟨rfl, T', k1, k2, k3, k4⟩
      have hT' : n + pl = T'.length := by rw [← k3.1.length_eq, HSP.out]
      have hlev2 : LevM w w5 g2 cap2 S T' (t + 1) := ⟨.succ hlev.out.lev Hpo.out k3 k2, by omega, hm2, ⟨post2, k1⟩, fun u hu => (Hsy2.out.grown k4 (fun b hb => by injection hb with hb; subst hb; exact ⟨_, Hrow2.out⟩)) u (k3.1.mem_iff.2 hu)⟩
      have Hlev2 := Lib.hid hlev2
      have Hb5 : Hid (Below w1.heap.size w1 w5) := Lib.hid (below_grown (grown_trans9 (grown_below Hb4.out (some g2)) k4) hg2 (Nat.le_refl _))
      have HT' := Lib.hid hT'
      clear k1 k2 k3 k4 hlev2 hT' Hli hlev
      go_wp2
      go_roundw
      case rel => exact ⟨t + 1, g2, cap2, n + pl, T', by go_num, by omega, rfl, HT'.out, Hlev2, Hb5⟩
      case measure => simp [intOf]; omega
    · obtain rfl : t = 10 := by omega
      obtain ⟨b1, b2⟩ := Bm.bound_good HSN.out hl (by rw [← Hn.out]; exact hn2) (by rw [HSlen.out, ← Bm.lvs_fst, List.length_map]) HSperm.out hlev.out.lev
      rw [← Hn.out] at b1 b2
      have Hgood := Lib.hid b2
      obtain ⟨K, hK⟩ : ∃ K, K = 2 * n - 2 := ⟨_, rfl⟩
      have hKm : K ≤ m := by rw [HmT.out, hK]; exact b1
      have hKi : 2 * (n : Int) - 2 = (K : Int) := by omega
      have hcm := hlev.out.fits
      rw [← HmT.out] at hcm
      have hKc : K ≤ cap := by omega
      have hok := (Bm.lev_ok HSN.out hlev.out.lev).2
      have hcl := hlev.out.most
      unfold maxLen at hcl
      rw [← hK] at Hgood
      have Hok := Lib.hid hok
      have Hlev := Lib.hid hlev.out
      have hK512 : K ≤ 512 := by omega
      have Hsz := Lib.hid z3
      have Hbw : Hid (Below w.heap.size w wr) := Lib.hid (Hb1.out.trans (hb.out.mono Hb1.out.size))
      obtain ⟨wt, hwt⟩ : ∃ wt : World, wt = wr := ⟨_, rfl⟩
      subst hwt
      clear b1 b2 hok hlev hb z1 z2 z3 hK HSN HSrow HSsy HSperm HSlen Hb1
      go_wp2_with (at_make; refine wpList_make_full _ rfl _ _ 33 rfl wt.heap.size 3 i0 (.int .i64 0) 1 Tryz.underlying33 hi hz0 hz1 .i64 .i64 _ _ cs.length rfl rfl ?c1 ?c1 ?c2 ?c3 ?c4 ?_)
      case c1 => omega
      case c2 => first | omega | (rw [hz2]; omega)
      case c3 => unfold maxLen; omega
      try case c4 => exact Nat.le_refl _
      intro w7 hown7 hg7
      obtain ⟨g0, hg0⟩ : ∃ g0, g0 = wt.heap.size := ⟨_, rfl⟩
      have hrow0 := row_of_ownI hown7
      rw [← Bm.lensOf_nil, ← hg0] at hrow0
      have Hg0 := Lib.hid hg0
      have Hrow0 : Hid (Row w7 g0 3 (i64s (Bm.lensOf cs (Bm.syms (T.take 0))))) := Lib.hid (by simpa [Bm.syms] using hrow0)
      have Hb7 := Lib.hid (below_of_grown hg7)
      have hsyl : ∀ L : List Pcl, (∀ u ∈ L, u ∈ T) → (Bm.syms L).length ≤ 1024 * L.length := fun L => by
        induction L with
        | nil => intro _; simp [Bm.syms]
        | cons u L ih =>
          intro hL
          have h3 := ih (fun v hv => hL v (List.mem_cons_of_mem _ hv))
          have h4 := (Hsz.out u (hL u List.mem_cons_self)).1
          have e2 : Bm.syms (u :: L) = u.2.2 ++ Bm.syms L := by simp [Bm.syms]
          have h5 : (2 : Nat) ^ 10 = 1024 := by decide
          rw [e2, List.length_append, List.length_cons]
          omega
      have Hsyl := Lib.hid hsyl
      rw [← hg0]
      clear hown7 hg7 hrow0 hg0 hsyl hp10 Hsz
      go_wp2
      go_loopw [32] (fun kv wr => ∃ (k : Nat), kv = .int .i64 (k : Int) ∧ k ≤ K ∧ Hid (Row wr g0 3 (i64s (Bm.lensOf cs (Bm.syms (T.take k))))) ∧ Hid (Below wt.heap.size wt wr)) (fun kv _ => K - (intOf kv).toNat)
      case atStart => exact ⟨0, rfl, by omega, Hrow0, Hb7⟩
      case round =>
        obtain ⟨k, rfl, hk, hrow, hb⟩ := hrel
        clear Hrow0 Hb7
        by_cases hkK : k < K
        · obtain ⟨postT, hTrow⟩ := Hlev.out.row
          have hkT : k < T.length := by have := HmT.out; omega
          obtain ⟨u, hu⟩ : ∃ u, u = T[k] := ⟨_, rfl⟩
          have huT : u ∈ T := by rw [hu]; exact List.getElem_mem hkT
          have hTk : T[k]? = some u := by rw [hu]; exact List.getElem?_eq_getElem hkT
          obtain ⟨c0, c1⟩ := prow_at (hTrow.below hb.out) hTk
          have hsy := (Hlev.out.sy.below hb.out) u huT
          obtain ⟨postU, hUrow⟩ := Hlev.out.sy u huT
          have HU := Lib.hid hUrow
          have hnext : Bm.syms (T.take (k + 1)) = Bm.syms (T.take k) ++ u.2.2 := by
            rw [List.take_succ_eq_append_getElem hkT, Bm.syms_append, ← hu]
            simp [Bm.syms]
          have Hnext := Lib.hid hnext
          have huk := fun y (hy : y ∈ u.2.2) => ((Hok.out u huT).2.2 y hy).2
          have Huk := Lib.hid huk
          have hul : u.2.2.length ≤ 1048576 * 1024 := by
            have h3 := Hsyl.out [u] (fun v hv => by simp only [List.mem_singleton] at hv; subst hv; exact huT)
            simp [Bm.syms] at h3
            omega
          have hYl := Hsyl.out (T.take k) (fun v hv => List.mem_of_mem_take hv)
          rw [List.length_take] at hYl
          have HYl : Hid ((Bm.syms (T.take k)).length ≤ 1024 * 1024) := Lib.hid (by omega)
          simp only [pclV] at c1
          obtain ⟨us, hus⟩ : ∃ us, us = u.2.2 := ⟨_, rfl⟩
          obtain ⟨ub, hub⟩ : ∃ ub, ub = u.2.1.1 := ⟨_, rfl⟩
          obtain ⟨uc, huc⟩ : ∃ uc, uc = u.2.1.2 := ⟨_, rfl⟩
          rw [← hus, ← hub, ← huc] at c1
          rw [← hus, ← hub] at HU
          rw [← hus] at Hnext Huk hul
          have hkc : (k : Int) < (K : Int) := by omega
          have hwrt := hb.out.size
          clear hTrow hu huT hTk hsy hUrow hnext huk hYl hus hub huc hkT
          generalize u.1 = uw at c0
          go_wp2
          rename World => wx
          have Hst : Hid (Row (wx.alloc (.cells #[.int .i64 (uw : Int), .slice (some ⟨ub, 0, none⟩) us.length uc] 122)) g0 3 (i64s (Bm.lensOf cs (Bm.syms (T.take k) ++ us.take 0)))) := Lib.hid (by simpa using hrow.out.alloc _)
          have Hb8 : Hid (Below wt.heap.size wt (wx.alloc (.cells #[.int .i64 (uw : Int), .slice (some ⟨ub, 0, none⟩) us.length uc] 122))) := Lib.hid (hb.out.alloc hwrt _)
          clear hrow hb c0 c1
          go_loopw [39] (fun jv wr => ∃ (j : Nat), jv = .int .i64 (j : Int) ∧ j ≤ us.length ∧ Hid (Row wr g0 3 (i64s (Bm.lensOf cs (Bm.syms (T.take k) ++ us.take j)))) ∧ Hid (Below wt.heap.size wt wr)) (fun jv _ => us.length - (intOf jv).toNat)
          case atStart => exact ⟨0, rfl, by omega, Hst, Hb8⟩
          case round =>
            obtain ⟨j, rfl, hj, hrow, hb⟩ := hrel
            clear Hst Hb8
            by_cases hjl : j < us.length
            · have hUr := row_below HU.out hb.out
              have c0 : wr.cell? ⟨ub, j, none⟩ = some (.int .i64 (us[j] : Int)) := by
                rw [hUr.cell, List.getElem?_append_left (by rw [i64s_length]; exact hjl), i64s_get? us j hjl]
              have hy := Huk.out us[j] (List.getElem_mem hjl)
              obtain ⟨y, hyy⟩ : ∃ y, y = us[j] := ⟨_, rfl⟩
              rw [← hyy] at c0 hy
              obtain ⟨Y, hYY⟩ : ∃ Y, Y = Bm.syms (T.take k) ++ us.take j := ⟨_, rfl⟩
              have hstep := Bm.lensOf_step cs Y y
              have hY2 : Bm.syms (T.take k) ++ us.take (j + 1) = Y ++ [y] := by rw [List.take_succ_eq_append_getElem hjl, ← List.append_assoc, ← hYY, ← hyy]
              have hcl2 : Y.count y ≤ 1048576 * 2048 := by
                have h3 := List.count_le_length (a := y) (l := Y)
                have h4 : Y.length = (Bm.syms (T.take k)).length + min j us.length := by rw [hYY, List.length_append, List.length_take]
                have := HYl.out
                omega
              rw [← hYY] at hrow
              have hll : (Bm.lensOf cs Y).length = cs.length := by simp [Bm.lensOf]
              have c1 : wr.cell? ⟨g0, y, none⟩ = some (.int .i64 ((Y.count y : Nat) : Int)) := by
                rw [hrow.out.cell, i64s_get? _ y (by omega)]
                simp [Bm.lensOf]
              have f1 : wr.frozen? ⟨g0, y, none⟩ = false := hrow.out.free y
              have hrow2 : Row (wr.setCell ⟨g0, y, none⟩ (.int .i64 ((Y.count y : Int) + 1))) g0 3 (i64s (Bm.lensOf cs (Bm.syms (T.take k) ++ us.take (j + 1)))) := by
                rw [hY2, hstep]
                have h1 := hrow.out.set_ y (.int .i64 ((Y.count y : Int) + 1))
                rw [show i64s ((Bm.lensOf cs Y).set y (Y.count y + 1)) = (i64s (Bm.lensOf cs Y)).set y (.int .i64 ((Y.count y : Int) + 1)) by simp [i64s, List.map_set]]
                exact h1
              have Hrow2 := Lib.hid hrow2
              have Hb2 := Lib.hid (hb.out.setCell (p := ⟨g0, y, none⟩) (by rw [Hg0.out]; exact Nat.le_refl _) (.int .i64 ((Y.count y : Int) + 1)))
              clear hUr hyy hYY hstep hY2 hll hrow2 hrow hb
              generalize Y.count y = cn at *
              go_wp2
              go_roundw
              case rel => exact ⟨j + 1, by go_num, by omega, Hrow2, Hb2⟩
              case measure => simp [intOf]; omega
            · obtain rfl : j = us.length := by omega
              have Hrow2 : Hid (Row wr g0 3 (i64s (Bm.lensOf cs (Bm.syms (T.take (k + 1)))))) := Lib.hid (by
                rw [Hnext.out]
                have h1 := hrow.out
                rw [List.take_length] at h1
                exact h1)
              clear hrow
              go_wp2
              go_roundw
              case rel => exact ⟨k + 1, by go_num, by omega, Hrow2, hb⟩
              case measure => simp [intOf]; omega
        · obtain rfl : k = K := by omega
          have hfin : LensP w wr cs (.slice (some ⟨g0, 0, none⟩) cs.length cs.length) := ⟨_, _, _, rfl, Nat.le_refl _, fun _ => ⟨g0, 0, rfl, fun j _ => by rw [Nat.zero_add]; exact hrow.out.cell j⟩, Hgood.out, Hbw.out.trans (hb.out.mono Hbw.out.size)⟩
          have Hf := Lib.hid hfin
          clear hfin hrow hb
          go_wp2
          go_ret
          exact ⟨_, rfl, Hf.out⟩
end Go.Proofs.YtgcfdjgfnagmjaaGreat
