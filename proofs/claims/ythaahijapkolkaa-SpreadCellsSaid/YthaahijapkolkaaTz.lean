/-
  SpreadOnce (layer 6): the law's function by its walk: true for any numbers and log. Premises: what the calls of layers 5, 6 answer.
-/
import Derived.Test.YthaahijapkolkaaTk
import Derived.Deep.DeepCutAuto
import Derived.StillTailTactics
namespace Go.Proofs.Ythaahijapkolkaa
open Go.RowKit
namespace Bm
/-- How often each symbol was met, what each reached, behind i states. -/
def metL (ls : List Nat) (log i : Nat) : List Nat := (List.range ls.length).map fun s => ((tab ls log).take i).count s
def reachL (ls : List Nat) (log i : Nat) : List Nat := (List.range ls.length).map fun s => reachTo ls log i s
theorem metL_zero (ls : List Nat) (log : Nat) : metL ls log 0 = List.replicate ls.length 0 := by
  unfold metL
  rw [List.take_zero]
  simp only [List.count_nil]
  rw [List.map_const', List.length_range]
theorem reachL_zero (ls : List Nat) (log : Nat) : reachL ls log 0 = List.replicate ls.length 0 := by
  unfold reachL
  simp only [reach_zero]
  rw [List.map_const', List.length_range]
theorem metL_get (ls : List Nat) (log i s : Nat) (h : s < ls.length) : (metL ls log i)[s]? = some (((tab ls log).take i).count s) := by simp [metL, h]
theorem reachL_get (ls : List Nat) (log i s : Nat) (h : s < ls.length) : (reachL ls log i)[s]? = some (reachTo ls log i s) := by simp [reachL, h]
theorem metL_next (ls : List Nat) (log i : Nat) (hi : i < 2 ^ log) : metL ls log (i + 1) = (metL ls log i).set (symAt ls log i) (((tab ls log).take i).count (symAt ls log i) + 1) := by
  have hl : i < (tab ls log).length := by rw [tab_length]; exact hi
  have g := tab_get ls log i hi
  rw [List.getElem?_eq_getElem hl] at g
  injection g with g
  apply List.ext_getElem
  · simp [metL]
  · intro s h1 h2
    rw [List.getElem_set]
    simp only [metL, List.getElem_map, List.getElem_range]
    have h3 := count_take_succ (tab ls log) i s hl
    rw [g] at h3
    rw [h3]
    by_cases e : symAt ls log i = s
    · subst e; simp
    · simp [e]
theorem reachL_next (ls : List Nat) (log i : Nat) (hi : i < 2 ^ log) : reachL ls log (i + 1) = (reachL ls log i).set (symAt ls log i) (reachTo ls log i (symAt ls log i) + 2 ^ bitsAt ls log i) := by
  apply List.ext_getElem
  · simp [reachL]
  · intro s h1 h2
    rw [List.getElem_set]
    simp only [reachL, List.getElem_map, List.getElem_range]
    by_cases e : symAt ls log i = s
    · subst e; rw [if_pos rfl]; exact reach_same ls log i hi
    · rw [if_neg e]; exact reach_other ls log i s hi e
theorem reach_bound (ls : List Nat) (log i s : Nat) : reachTo ls log i s ≤ ((tab ls log).take i).count s * 2 ^ (log + 1) := by
  have key : ∀ (f : Nat → Nat) (B k : Nat), (∀ r, f r ≤ B) → ((List.range k).map f).sum ≤ k * B := fun f B k hf => by
    induction k with
    | zero => simp
    | succ k ih =>
      rw [List.range_succ, List.map_append, List.sum_append_nat, Nat.add_mul]
      have := hf k
      simp
      omega
  unfold reachTo
  refine key _ _ _ (fun r => Nat.pow_le_pow_right (by omega) ?_)
  unfold bitsX
  omega
theorem met_all (ls : List Nat) (log s : Nat) (h : FairN ls log) : ((tab ls log).take (2 ^ log)).count s = ls[s]?.getD 0 := by
  rw [← tab_length ls log, List.take_length, tab_count ls log s h]
end Bm

theorem wrap_small (x : Int) (h0 : -9223372036854775808 ≤ x) (h1 : x ≤ 9223372036854775807) : wrap64 x = x := by unfold wrap64; omega
theorem quiet_any {P : Program} {f : FuncId} {args : Array Value} {w : World} {n : Nat} {v : Value}
    (h : Calls P f args (w.drewN n) fun e w' => e = .returned v ∧ ∃ m, w' = (w.drewN n).drewN m) : Calls P f args (w.drewN n) fun e w'' => e = .returned v ∧ ∃ m, w'' = w.drewN m :=
  h.mono fun _ _ ⟨he, m, hm⟩ => ⟨he, n + m, by rw [hm]; simp⟩
set_option maxHeartbeats 1000000 in
set_option maxRecDepth 100000 in
theorem tonce_long {TB : World → Addr → List Nat → Nat → Prop} (hT : TabOk TB) (A : Option Addr) (n c : Nat) (log : Int) (w : World) (h : 300 < n) (hm : n ≤ 9223372036854775807) :
    Calls Try.prog 5 #[.slice A n c, .int .i64 log] w fun e w' => e = .returned (.bool true) ∧ Below w.heap.size w w' := by
  have Haw := Lib.hid (tawake_of hT)
  clear hT
  go_enter Try.func5, Try.ntmps5
  go_wp2_with fail
  refine (Haw.out w).mono ?_
  rintro e w1 ⟨rfl, hb1⟩
  have Hb1 := Lib.hid hb1
  clear hb1
  go_wp2
  go_ret
  exact ⟨rfl, Hb1.out⟩

set_option maxHeartbeats 1000000 in
set_option maxRecDepth 100000 in
theorem tonce_none {TB : World → Addr → List Nat → Nat → Prop} (hT : TabOk TB) (A : Option Addr) (c : Nat) (l : List Int) (log : Int) (w : World) (h : l.length ≤ 300) (hr : Reads w A (i64z l)) (hf : ¬ Bm.Fair l log) :
    Calls Try.prog 5 #[.slice A l.length c, .int .i64 log] w fun e w' => e = .returned (.bool true) ∧ Below w.heap.size w w' := by
  have Haw := Lib.hid (tawake_of hT)
  have hfb : Bm.fairB l log = false := decide_eq_false hf
  have H2 : Hid (∀ W, Below w.heap.size w W → Calls Try.prog 8 #[.slice A l.length c, .int .i64 log] W fun e w' => e = .returned (.bool false) ∧ W = w') := Lib.hid (fun W hb => by
    have h1 := hfair_any A c l log W (by omega) (reads_on hr hb)
    rw [hfb] at h1
    exact h1)
  clear hT hr hf hfb
  go_enter Try.func5, Try.ntmps5
  go_wp2_with fail
  refine (Haw.out w).mono ?_
  rintro e w1 ⟨rfl, hb1⟩
  have Hb1 := Lib.hid hb1
  clear hb1
  go_wp2_with fail
  refine (H2.out w1 Hb1.out).mono ?_
  rintro e w' ⟨rfl, rfl⟩
  go_wp2
  go_ret
  exact ⟨rfl, Hb1.out⟩

set_option maxHeartbeats 4000000 in
set_option maxRecDepth 100000 in
theorem tonce_fair {TB : World → Addr → List Nat → Nat → Prop} (hT : TabOk TB) (A : Option Addr) (c : Nat) (l : List Int) (log : Int) (w : World) (h : l.length ≤ 300) (hok : ∀ x ∈ l, Bm.IntOk x) (hlog : Bm.IntOk log) (hr : Reads w A (i64z l)) (hf : Bm.Fair l log) :
    Calls Try.prog 5 #[.slice A l.length c, .int .i64 log] w fun e w' => e = .returned (.bool true) ∧ Below w.heap.size w w' := by
  have Haw := Lib.hid (tawake_of hT)
  have hfn := Bm.fair_n l log hf
  have hls : i64s (l.map Int.toNat) = i64z l := by rw [← i64z_nat, Bm.fair_map l log hf]
  have hlen : (l.map Int.toNat).length = l.length := by simp
  have hl9 : (log.toNat : Int) = log := by have := hf.1; omega
  have H1 : Hid (∀ W, Below w.heap.size w W → Calls Try.prog 7 #[.slice A l.length c, .int .i64 log] W fun e w' => ∃ p, e = .returned (.tuple #[.pointer (some p), .bool true]) ∧ TB w' p (l.map Int.toNat) log.toNat ∧ Below W.heap.size W w') := Lib.hid (fun W hb => hT.build A c l log W (by omega) hok hlog (reads_on hr hb) hf)
  have hfb : Bm.fairB l log = true := decide_eq_true hf
  have H2 : Hid (∀ W, Below w.heap.size w W → Calls Try.prog 8 #[.slice A l.length c, .int .i64 log] W fun e w' => e = .returned (.bool true) ∧ W = w') := Lib.hid (fun W hb => by
    have h1 := hfair_any A c l log W (by omega) (reads_on hr hb)
    rw [hfb] at h1
    exact h1)
  rw [← hls] at hr
  generalize hlsn : l.map Int.toNat = ls at hfn hls hlen H1 hr
  generalize hlgn : log.toNat = lg at hfn hl9 H1
  clear hlsn hlgn hls hok hlog hf hfb
  rw [← hlen] at h H1 H2 ⊢
  clear hlen
  subst hl9
  obtain ⟨S, hS⟩ : ∃ S, S = 2 ^ lg := ⟨_, rfl⟩
  have hS32 : 32 ≤ S := by rw [hS]; exact Nat.pow_le_pow_right (n := 2) (by omega) hfn.low
  have hS512 : S ≤ 512 := by rw [hS]; exact Nat.pow_le_pow_right (n := 2) (by omega) hfn.high
  have H4 : Hid (∀ W p, TB W p ls lg → Calls Try.prog 10 #[.pointer (some p)] W fun e w' => e = .returned (.int .i64 (S : Int)) ∧ ∃ m, w' = W.drewN m) := Lib.hid (fun W p ht => by
    have h1 := hT.size W p ls lg hfn ht
    rw [← hS] at h1
    exact h1)
  have H6 : Hid (∀ W p i, i < S → TB W p ls lg → Calls Try.prog 9 #[.pointer (some p), .int .i64 (i : Int)] W fun e w' => e = .returned (.tuple #[.agg #[.int .u8 (Bm.symAt ls lg i : Int), .int .i64 (Bm.bitsAt ls lg i : Int), .int .i64 (Bm.baseAt ls lg i : Int)], .bool true]) ∧ Below W.heap.size W w') := Lib.hid (fun W p i hi ht => by
    have h1 := hT.cell W p ls lg (i : Int) hfn ht (by unfold Bm.IntOk; omega)
    have hin : 0 ≤ (i : Int) ∧ (i : Int) < ((2 ^ lg : Nat) : Int) := by rw [← hS]; omega
    rw [decide_eq_true hin] at h1
    unfold Bm.cellA at h1
    rw [if_pos hin, Int.toNat_natCast] at h1
    exact h1)
  have hkeep := Lib.hid (fun w W p => hT.keep w W p ls lg)
  obtain ⟨i0, hi, hz0, hz1, hz2⟩ := info_parts info_in
  have Hr := Lib.hid hr
  have Hfn := Lib.hid hfn
  have HS := Lib.hid hS
  have hlg9 := hfn.high
  clear hT hr hfn hS
  go_enter Try.func5, Try.ntmps5
  go_wp2_with fail
  refine (Haw.out w).mono ?_
  rintro e w1 ⟨rfl, hb1⟩
  have Hb1 := Lib.hid hb1
  clear hb1 Haw
  go_wp2_with fail
  refine (H2.out w1 Hb1.out).mono ?_
  rintro e w' ⟨rfl, rfl⟩
  go_wp2_with fail
  refine (H1.out w1 Hb1.out).mono ?_
  rintro e w2 ⟨p, rfl, ht2, hb2⟩
  have Ht2 := Lib.hid ht2
  have Hb2 := Lib.hid (Hb1.out.trans (hb2.mono Hb1.out.size))
  obtain ⟨gm, hgm⟩ : ∃ g, g = w2.heap.size := ⟨_, rfl⟩
  have Hgm := Lib.hid hgm
  clear hb2 Hb1 ht2 hgm H1 H2
  go_wp2_with (at_make; refine wpList_make_full _ rfl _ _ 22 rfl w2.heap.size 3 i0 (.int .i64 0) 1 Try.underlying22 hi hz0 hz1 .i64 .i64 _ _ ls.length rfl rfl ?c1 ?c1 ?c2 ?c3 ?c4 ?_)
  case c1 => rfl
  case c2 => first | omega | (rw [hz2]; omega)
  case c3 => unfold maxLen; omega
  try case c4 => exact Nat.le_refl _
  intro w3 hown3 hg3
  have hb3 := below_of_grown hg3
  have hr3 := row_of_ownI hown3
  rw [← Hgm.out] at hr3 ⊢
  have Hb3 := Lib.hid hb3
  have Hm3 := Lib.hid hr3
  have Hgmw := Lib.hid (show w2.heap.size ≤ gm by rw [Hgm.out]; exact Nat.le_refl _)
  obtain ⟨gr, hgr⟩ : ∃ g, g = w3.heap.size := ⟨_, rfl⟩
  have hne : gm < gr := by rw [hgr]; exact Hm3.out.lt
  have Hgr := Lib.hid hgr
  clear hown3 hg3 hb3 hr3 hgr Hgm
  go_wp2_with (at_make; refine wpList_make_full _ rfl _ _ 22 rfl w3.heap.size 3 i0 (.int .i64 0) 1 Try.underlying22 hi hz0 hz1 .i64 .i64 _ _ ls.length rfl rfl ?c1 ?c1 ?c2 ?c3 ?c4 ?_)
  case c1 => rfl
  case c2 => first | omega | (rw [hz2]; omega)
  case c3 => unfold maxLen; omega
  try case c4 => exact Nat.le_refl _
  intro w4 hown4 hg4
  have hb4 := below_of_grown hg4
  have hr4 := row_of_ownI hown4
  rw [← Hgr.out] at hr4 ⊢
  have Hb4 := Lib.hid (Hb3.out.trans (hb4.mono Hb3.out.size))
  have hm4 := row_below Hm3.out hb4
  rw [← Bm.metL_zero ls lg] at hm4
  rw [← Bm.reachL_zero ls lg] at hr4
  have Hm4 := Lib.hid hm4
  have Hr4 := Lib.hid hr4
  have Hgrw := Lib.hid (show w2.heap.size ≤ gr from Nat.le_of_lt (Nat.lt_of_le_of_lt Hgmw.out hne))
  have Hte : Hid (∀ W, Below w2.heap.size w2 W → TB W p ls lg) := Lib.hid (fun W hb => hkeep.out _ _ _ Ht2.out hb)
  clear hown4 hg4 hb4 hr4 hm4 Hb3 Hm3 Hgr hi hz0 hz1 hz2 Ht2
  go_wp2_with fail
  refine (H4.out w4 p (Hte.out _ Hb4.out)).mono ?_
  rintro e w5 ⟨rfl, hm5⟩
  have hb5 := below_of_drewN hm5
  have Hm5 := Lib.hid (row_below Hm4.out hb5)
  have Hr5 := Lib.hid (row_below Hr4.out hb5)
  have Hb5 := Lib.hid (Hb4.out.trans (hb5.mono Hb4.out.size))
  clear hb5 hm5 Hm4 Hr4 Hb4
  go_wp2
  go_loopw [4, 9, 10, 11, 41] (fun _ _ _ _ i wr => ∃ k : Nat, k ≤ S ∧ i = .int .i64 (k : Int) ∧ Hid (Row wr gm 3 (i64s (Bm.metL ls lg k))) ∧ Hid (Row wr gr 3 (i64s (Bm.reachL ls lg k))) ∧ Hid (Below w2.heap.size w2 wr)) (fun _ _ _ _ i _ => S - (intOf i).toNat)
  case atStart => exact ⟨0, by omega, rfl, Hm5, Hr5, Hb5⟩
  case round =>
    obtain ⟨k, hk, rfl, hmr, hrr, hbel⟩ := hrel
    clear Hm5 Hr5 Hb5
    by_cases hkS : k < S
    · have hk2 : k < 2 ^ lg := by rw [← HS.out]; exact hkS
      have Hc := Lib.hid (H6.out wr p k hkS (Hte.out _ hbel.out))
      go_wp2_with fail
      refine Hc.out.mono ?_
      rintro e wa ⟨rfl, hba⟩
      have hma := row_below hmr.out hba
      have hra := row_below hrr.out hba
      have Hbela := Lib.hid (hbel.out.trans (hba.mono hbel.out.size))
      have hal := (Below.refl wa.heap.size wa).alloc (Nat.le_refl _) (.cells #[.int .u8 (Bm.symAt ls lg k : Int), .int .i64 (Bm.bitsAt ls lg k : Int), .int .i64 (Bm.baseAt ls lg k : Int)] 29)
      have Hmb := Lib.hid (row_below hma hal)
      have Hrb := Lib.hid (row_below hra hal)
      have Hbelb := Lib.hid (Hbela.out.trans (hal.mono Hbela.out.size))
      obtain ⟨bc, hbc⟩ : ∃ b, b = wa.heap.size := ⟨_, rfl⟩
      have hcr : Row (wa.alloc (.cells #[.int .u8 (Bm.symAt ls lg k : Int), .int .i64 (Bm.bitsAt ls lg k : Int), .int .i64 (Bm.baseAt ls lg k : Int)] 29)) bc 29 (cel3 (Bm.symAt ls lg k, Bm.bitsAt ls lg k, Bm.baseAt ls lg k)) := by rw [hbc]; exact Row.new wa 29 (cel3 (Bm.symAt ls lg k, Bm.bitsAt ls lg k, Bm.baseAt ls lg k))
      have hmbc : gm < bc := by rw [hbc]; exact hma.lt
      have hrbc : gr < bc := by rw [hbc]; exact hra.lt
      have Hcr := Lib.hid hcr
      have Hbc := Lib.hid hbc
      obtain ⟨hsy, _⟩ := Bm.tab_sym ls lg k Hfn.out hk2
      have hbl := Bm.bits_at ls lg k Hfn.out hk2
      have hzl := Bm.base_at ls lg k Hfn.out hk2
      rw [← HS.out] at hzl
      have hmn := Lib.hid (Bm.metL_next ls lg k hk2)
      have hrn := Lib.hid (Bm.reachL_next ls lg k hk2)
      have hmg := Lib.hid (Bm.metL_get ls lg k _ hsy)
      have hrg := Lib.hid (Bm.reachL_get ls lg k _ hsy)
      have hrbd := Bm.reach_bound ls lg k (Bm.symAt ls lg k)
      have hqle : ((Bm.tab ls lg).take k).count (Bm.symAt ls lg k) ≤ 512 := by
        have h1 := List.count_le_length (a := Bm.symAt ls lg k) (l := (Bm.tab ls lg).take k)
        rw [List.length_take, Bm.tab_length, ← HS.out] at h1
        omega
      have hp10 : 2 ^ (lg + 1) ≤ 2 ^ 10 := Nat.pow_le_pow_right (by omega) (by omega)
      have hrr5 : Bm.reachTo ls lg k (Bm.symAt ls lg k) ≤ 512 * 2 ^ 10 := Nat.le_trans hrbd (Nat.mul_le_mul hqle hp10)
      have e10 : 512 * 2 ^ 10 = 524288 := by decide
      rw [e10] at hrr5
      clear hba hma hra hal hmr hrr hbel Hbela hcr hbc hrbd hp10 e10 hk2 Hc
      generalize Bm.symAt ls lg k = sy at *
      generalize Bm.bitsAt ls lg k = b at *
      generalize Bm.baseAt ls lg k = z at *
      generalize ((Bm.tab ls lg).take k).count sy = q at *
      generalize Bm.reachTo ls lg k sy = rr at *
      have hPd : Hid ((2 : Int) ^ b = ((2 ^ b : Nat) : Int)) := Lib.hid (by simp)
      generalize 2 ^ b = P at hzl hrn hPd
      go_upto_region 14 with fail
      rw [← Hbc.out]
      generalize (wa.alloc (.cells #[.int .u8 (sy : Int), .int .i64 (b : Int), .int .i64 (z : Int)] 29)) = wb at Hmb Hrb Hbelb Hcr ⊢
      have d0 := Hcr.out.cell 0
      have d1 := Hcr.out.cell 1
      have d2 := Hcr.out.cell 2
      simp only [cel3, List.getElem?_cons_zero, List.getElem?_cons_succ] at d0 d1 d2
      have hd0 : decide (ls.length ≤ sy) = false := decide_eq_false (by omega)
      have hd1 : decide ((b : Int) < 0) = false := decide_eq_false (by omega)
      have hd2 : decide (lg < b) = false := decide_eq_false (by omega)
      have hd3 : decide ((z : Int) < 0) = false := decide_eq_false (by omega)
      clear Hbc
      go_cut [82] (fun s82 wx => s82 = .bool false ∧ ∃ m, wx = wb.drewN m)
      case first =>
        have Hsz := Lib.hid (fun m => H4.out (wb.drewN m) p (Hte.out _ (below_drewN Hbelb.out m)))
        go_quiet ((go_at_call 10; exact quiet_any (Hsz.out _)))
        go_wp2_with fail
        go_meet
        refine ⟨?_, nq, rfl⟩
        rw [hPd.out, wrap_small (P : Int) (by omega) (by omega), wrap_small ((z : Int) + (P : Int)) (by omega) (by omega), decide_eq_false (by omega)]
      case rest =>
        obtain ⟨rfl, m, rfl⟩ := hcut
        clear hd0 hd1 hd2 hd3
        have m0 : (wb.drewN m).cell? ⟨gm, sy, none⟩ = some (.int .i64 (q : Int)) := by
          have h1 := Hmb.out.cell sy
          simp only [i64s, List.getElem?_map, hmg.out, Option.map_some] at h1
          exact h1
        have r0 : (wb.drewN m).cell? ⟨gr, sy, none⟩ = some (.int .i64 (rr : Int)) := by
          have h1 := Hrb.out.cell sy
          simp only [i64s, List.getElem?_map, hrg.out, Option.map_some] at h1
          exact h1
        have fm : (wb.drewN m).frozen? ⟨gm, sy, none⟩ = false := Hmb.out.free sy
        have fr : (wb.drewN m).frozen? ⟨gr, sy, none⟩ = false := Hrb.out.free sy
        have d0 : (wb.drewN m).cell? ⟨bc, 0, none⟩ = some (.int .u8 (sy : Int)) := d0
        have d1 : (wb.drewN m).cell? ⟨bc, 1, none⟩ = some (.int .i64 (b : Int)) := d1
        have Hmm : Hid (Row (wb.drewN m) gm 3 (i64s (Bm.metL ls lg k))) := Hmb
        have Hrm : Hid (Row (wb.drewN m) gr 3 (i64s (Bm.reachL ls lg k))) := Hrb
        have Hbm := Lib.hid (below_drewN Hbelb.out m)
        clear Hmb Hrb Hbelb Hcr hmg hrg
        generalize (wb.drewN m) = wd at m0 r0 fm fr d0 d1 Hmm Hrm Hbm ⊢
        have hbcr : wd.cell? ⟨bc, 0, none⟩ = some (.int .u8 (sy : Int)) ∧ wd.cell? ⟨bc, 1, none⟩ = some (.int .i64 (b : Int)) := ⟨d0, d1⟩
        go_upto_region 17 with fail
        have Hme : Hid (Row (wd.setCell ⟨gm, sy, none⟩ (.int .i64 ((q : Int) + 1))) gm 3 (i64s (Bm.metL ls lg (k + 1)))) := Lib.hid (by
          have h1 := Hmm.out.set_ sy (.int .i64 ((q : Int) + 1))
          rw [hmn.out, show i64s ((Bm.metL ls lg k).set sy (q + 1)) = (i64s (Bm.metL ls lg k)).set sy (.int .i64 ((q : Int) + 1)) by simp [i64s, List.map_set]]
          exact h1)
        have Hre : Hid (Row (wd.setCell ⟨gm, sy, none⟩ (.int .i64 ((q : Int) + 1))) gr 3 (i64s (Bm.reachL ls lg k))) := Lib.hid (Hrm.out.far (by simp; omega) _)
        have Hbe : Hid (Below w2.heap.size w2 (wd.setCell ⟨gm, sy, none⟩ (.int .i64 ((q : Int) + 1)))) := Lib.hid (Hbm.out.setCell Hgmw.out _)
        have d0e : (wd.setCell ⟨gm, sy, none⟩ (.int .i64 ((q : Int) + 1))).cell? ⟨bc, 0, none⟩ = some (.int .u8 (sy : Int)) := by rw [← hbcr.1]; exact World.cell?_of_block (w := wd) (Below.heap_setCell wd ⟨gm, sy, none⟩ _ bc (by simp; omega))
        have d1e : (wd.setCell ⟨gm, sy, none⟩ (.int .i64 ((q : Int) + 1))).cell? ⟨bc, 1, none⟩ = some (.int .i64 (b : Int)) := by rw [← hbcr.2]; exact World.cell?_of_block (w := wd) (Below.heap_setCell wd ⟨gm, sy, none⟩ _ bc (by simp; omega))
        have r0e := Hre.out.cell sy
        rw [show (i64s (Bm.reachL ls lg k))[sy]? = some (.int .i64 (rr : Int)) by
          have h1 := Hrm.out.cell sy
          rw [← h1]; exact r0] at r0e
        have fre := Hre.out.free sy
        clear m0 r0 fm fr d0 d1 hbcr Hmm Hrm Hbm
        generalize (wd.setCell ⟨gm, sy, none⟩ (.int .i64 ((q : Int) + 1))) = we at Hme Hre Hbe d0e d1e r0e fre ⊢
        have hp1 := hPd.out
        have hsum : wrap64 ((rr : Int) + (P : Int)) = (rr : Int) + (P : Int) := wrap_small _ (by omega) (by omega)
        have hpw : wrap64 (P : Int) = (P : Int) := wrap_small _ (by omega) (by omega)
        go_still_tail 10, (by kernel_rfl)
        change wpList _ _ _ _ _ we.drew
        have Hrf : Hid (Row (we.drew.setCell ⟨gr, sy, none⟩ (.int .i64 ((rr : Int) + (P : Int)))) gr 3 (i64s (Bm.reachL ls lg (k + 1)))) := Lib.hid (by
          have h0 : Row we.drew gr 3 (i64s (Bm.reachL ls lg k)) := Hre.out
          have h1 := h0.set_ sy (.int .i64 ((rr : Int) + (P : Int)))
          rw [hrn.out, show i64s ((Bm.reachL ls lg k).set sy (rr + P)) = (i64s (Bm.reachL ls lg k)).set sy (.int .i64 ((rr : Int) + (P : Int))) by simp [i64s, List.map_set]]
          exact h1)
        have Hmf : Hid (Row (we.drew.setCell ⟨gr, sy, none⟩ (.int .i64 ((rr : Int) + (P : Int)))) gm 3 (i64s (Bm.metL ls lg (k + 1)))) := Lib.hid (by
          have h0 : Row we.drew gm 3 (i64s (Bm.metL ls lg (k + 1))) := Hme.out
          exact h0.far (by simp; omega) _)
        have Hbf := Lib.hid (Hbe.out.drew.setCell (p := ⟨gr, sy, none⟩) Hgrw.out (.int .i64 ((rr : Int) + (P : Int))))
        have frf : we.drew.frozen? ⟨gr, sy, none⟩ = false := fre
        have r0f : we.drew.cell? ⟨gr, sy, none⟩ = some (.int .i64 (rr : Int)) := r0e
        clear Hre Hme Hbe
        go_wp2
        go_roundw
        case rel => exact ⟨k + 1, by omega, by go_num, Hmf, Hrf, Hbf⟩
        case measure => simp [intOf]; omega
    · obtain rfl : k = S := by omega
      clear H6
      go_wp2
      go_loopw [4, 12, 13, 103] (fun _ _ _ i wr => ∃ j : Nat, j ≤ ls.length ∧ i = .int .i64 (j : Int) ∧ Hid (Row wr gm 3 (i64s (Bm.metL ls lg k))) ∧ Hid (Row wr gr 3 (i64s (Bm.reachL ls lg k))) ∧ Hid (Below w2.heap.size w2 wr)) (fun _ _ _ i _ => ls.length - (intOf i).toNat)
      case atStart => exact ⟨0, by omega, rfl, hmr, hrr, hbel⟩
      case round =>
        obtain ⟨j, hj, rfl, hmr, hrr, hbel⟩ := hrel
        by_cases hjl : j < ls.length
        · have hrd := reads_on Hr.out (Hb2.out.trans (hbel.out.mono Hb2.out.size))
          obtain ⟨g, off, rfl, hc⟩ := hrd (by intro e; have := congrArg List.length e; rw [i64s_length, List.length_nil] at this; omega)
          have c0 := hc j (by rw [i64s_length]; exact hjl)
          rw [i64s_get? ls j hjl] at c0
          have hmg := Bm.metL_get ls lg k j hjl
          have hrg := Bm.reachL_get ls lg k j hjl
          have hma := Bm.met_all ls lg j Hfn.out
          rw [← HS.out, List.getElem?_eq_getElem hjl, Option.getD_some] at hma
          rw [hma] at hmg
          have hra := fun h0 : 0 < ls[j] => Bm.reach_all ls lg j ls[j] Hfn.out (List.getElem?_eq_getElem hjl) h0
          rw [← HS.out] at hra
          have m0 := hmr.out.cell j
          simp only [i64s, List.getElem?_map, hmg, Option.map_some] at m0
          have r0 := hrr.out.cell j
          simp only [i64s, List.getElem?_map, hrg, Option.map_some] at r0
          have Hsz := Lib.hid (fun m => H4.out (wr.drewN m) p (Hte.out _ (below_drewN hbel.out m)))
          clear hrd hc hmg hrg hma
          generalize ls[j] = n at c0 m0 hra
          generalize Bm.reachTo ls lg k j = rr at r0 hra
          have hnn : ((n : Int) != (n : Int)) = false := by simp
          by_cases hn0 : 0 < n
          · obtain rfl := hra hn0
            have hd0 : decide (0 < n) = true := decide_eq_true hn0
            have hss : ((rr : Int) != (rr : Int)) = false := by simp
            go_wp2_with fail
            go_quiet ((go_at_call 10; exact quiet_any (Hsz.out _)))
            go_wp2
            go_roundw
            case rel => exact ⟨j + 1, by omega, by go_num, hmr, hrr, Lib.hid (below_drewN hbel.out _)⟩
            case measure => simp [intOf]; omega
          · have hd0 : decide (0 < n) = false := decide_eq_false hn0
            clear hra
            go_wp2_with fail
            go_quiet (fail)
            go_wp2
            go_roundw
            case rel => exact ⟨j + 1, by omega, by go_num, hmr, hrr, Lib.hid (below_drewN hbel.out _)⟩
            case measure => simp [intOf]; omega
        · obtain rfl : j = ls.length := by omega
          go_wp2
          go_ret
          exact ⟨rfl, Hb2.out.trans (hbel.out.mono Hb2.out.size)⟩
end Go.Proofs.Ythaahijapkolkaa
