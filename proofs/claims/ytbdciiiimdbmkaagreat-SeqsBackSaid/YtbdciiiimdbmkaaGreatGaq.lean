/-
  The program's layer 6 (spread), by its walk: spread (each state's symbol), cell. Conditions: as each theorem's premises say.
  The program's layer 6 (spread): a table in memory; Size, Log, has, Cell, Next, by their walks. Conditions: as each theorem's premises say.
  The program's layer 6 (spread), by its walk: Back. Conditions: as each theorem's premises say.
-/
import Derived.Test.YtbdciiiimdbmkaaGreatGap
import Derived.Test.YtbdciiiimdbmkaaGreatGah
import Derived.Test.YtbdciiiimdbmkaaGreatGae
import Derived.Test.YtbdciiiimdbmkaaGreatGaa
import Derived.StillTailTactics
import Derived.BigQuiet
import Derived.WalkSmall
import Derived.Deep.QuietTactic
import Derived.Laws.BitsAllLaws
import Derived.Laws.BitsLemmas
namespace Go.Proofs.YtbdciiiimdbmkaaGreat
open Go.RowKit
namespace Bm
/-- The symbols behind K steps. -/
def syms (ls : List Nat) (log K : Nat) : List Nat := (ph1 ls log K).map (·.1)
theorem syms_length (ls : List Nat) (log K : Nat) : (syms ls log K).length = 2 ^ log := by simp [syms, ph1_length]
theorem syms_zero (ls : List Nat) (log : Nat) : syms ls log 0 = List.replicate (2 ^ log) 0 := by simp [syms, ph1_zero]
theorem syms_next (ls : List Nat) (log K s : Nat) (h5 : 5 ≤ log) (h9 : log ≤ 9) (hK : K < 2 ^ log) (hs : (symsFrom 0 ls)[K]? = some s) : syms ls log (K + 1) = (syms ls log K).set (posL log K) s := by
  obtain ⟨h, e⟩ := ph1_next ls log K s h5 h9 hK hs
  unfold syms
  rw [e, List.map_set]
theorem syms_all (ls : List Nat) (log : Nat) : syms ls log (2 ^ log) = tab ls log := by
  unfold syms tab ph1
  rw [List.map_map]
  apply List.map_congr_left
  intro p _
  simp [inv_lt]
theorem step_int2 (a S : Nat) : ((a : Int) + ((S : Int) / 2 + (S : Int) / 8 + 3)) % (S : Int) = (((a + (S / 2 + S / 8 + 3)) % S : Nat) : Int) := by
  rw [Int.natCast_emod]
  congr 1
end Bm
theorem info_b8 : (Tryz.prog.info? 5).map (fun i => (i.zero, i.size, i.bytes)) = some (some (.int .u8 0), 1, 1) := by kernel_rfl
set_option maxHeartbeats 2000000 in
set_option maxRecDepth 100000 in
theorem tspread_any (A : Option Addr) (c : Nat) (ls : List Nat) (log : Nat) (w : World) (hf : Bm.FairN ls log) (hr : Reads w A (i64s ls)) :
    Calls Tryz.prog 105 #[.slice A ls.length c, .int .i64 ((2 ^ log : Nat) : Int)] w fun e w' => ∃ g, e = .returned (.slice (some ⟨g, 0, none⟩) (2 ^ log) (2 ^ log)) ∧ w.heap.size ≤ g ∧ Row w' g 5 (u8s (Bm.tab ls log)) ∧ Below w.heap.size w w' := by
  obtain ⟨i0, hi, hz0, hz1, hz2⟩ := info_parts info_b8
  have hlog5 := hf.low
  have hlog9 := hf.high
  have hlen := hf.len
  obtain ⟨S, hS⟩ : ∃ S, S = 2 ^ log := ⟨_, rfl⟩
  have hS32 : 32 ≤ S := by rw [hS]; exact Nat.pow_le_pow_right (n := 2) (by omega) hlog5
  have hS512 : S ≤ 512 := by rw [hS]; exact Nat.pow_le_pow_right (n := 2) (by omega) hlog9
  have hsum : ls.sum = S := by rw [hS]; exact hf.sum
  have hls : ∀ s (h : s < ls.length), ∃ g off, A = some ⟨g, off, none⟩ ∧ w.cell? ⟨g, off + s, none⟩ = some (.int .i64 (ls[s] : Int)) ∧ g < w.heap.size := fun s h => by
    obtain ⟨g, off, e, hc⟩ := hr (by intro e; have := congrArg List.length e; rw [i64s_length, List.length_nil] at this; omega)
    have h1 := hc s (by rw [i64s_length]; exact h)
    rw [i64s_get? ls s h] at h1
    exact ⟨g, off, e, h1, World.block_lt_of_cell? w _ h1⟩
  have Hls := Lib.hid hls
  have HS := Lib.hid hS
  have Hsum := Lib.hid hsum
  clear hf hr hls hS hsum
  obtain ⟨g0, hg0⟩ : ∃ g, g = w.heap.size := ⟨_, rfl⟩
  have Hg0 := Lib.hid hg0
  clear hg0
  rw [← HS.out]
  go_enter Tryz.func105, Tryz.ntmps105
  go_wp2_with (at_make; refine wpList_make_full _ rfl _ _ 45 rfl w.heap.size 5 i0 (.int .u8 0) 1 Tryz.underlying45 hi hz0 hz1 .i64 .i64 _ _ S rfl rfl ?c1 ?c1 ?c2 ?c3 ?c4 ?_)
  case c1 => rfl
  case c2 => first | omega | (rw [hz2]; omega)
  case c3 => unfold maxLen; omega
  try case c4 => exact Nat.le_refl _
  intro w1 hown1 hg1
  have hb1 := below_of_grown hg1
  have hr0 := row_of_own hown1
  rw [← Hg0.out] at hr0 ⊢
  have hr1 : Row w1 g0 5 (u8s (Bm.syms ls log 0)) := by rw [Bm.syms_zero, ← HS.out]; exact hr0
  have Hb1 := Lib.hid hb1
  have Hr1 := Lib.hid hr1
  clear hown1 hg1 hr0 hb1 hr1 hi hz0 hz1 hz2
  go_wp2
  go_loopw [7, 20] (fun a s wr => ∃ si : Nat, si ≤ ls.length ∧ a = .int .i64 (Bm.posL log (ls.take si).sum : Int) ∧ s = .int .i64 (si : Int) ∧ Hid (Row wr g0 5 (u8s (Bm.syms ls log (ls.take si).sum))) ∧ Hid (Below w.heap.size w wr)) (fun _ s _ => ls.length - (intOf s).toNat)
  case atStart => exact ⟨0, by omega, by simp [Bm.posL], rfl, Lib.hid (by rw [List.take_zero, List.sum_nil]; exact Hr1.out), Hb1⟩
  case round =>
    obtain ⟨si, hsi, rfl, rfl, hrow, hbel⟩ := hrel
    clear Hr1 Hb1
    by_cases hlt : si < ls.length
    · obtain ⟨g, off, rfl, hcell, hgl⟩ := Hls.out si hlt
      obtain ⟨K, hK⟩ : ∃ K, K = (ls.take si).sum := ⟨_, rfl⟩
      have hK1 : (ls.take (si + 1)).sum = K + ls[si] := by rw [List.take_succ_eq_append_getElem hlt, List.sum_append_nat, hK]; simp
      have hKS : K + ls[si] ≤ S := by
        rw [← hK1, ← Hsum.out, ← List.take_append_drop (si + 1) ls, List.sum_append_nat]
        simp
      have hsy : ∀ k, k < ls[si] → (Bm.symsFrom 0 ls)[K + k]? = some si := fun k hk => by
        have h1 := Bm.symsFrom_get ls 0 si k hlt hk
        rw [Nat.zero_add, ← hK] at h1
        exact h1
      rw [← hK] at hrow ⊢
      have Hsy := Lib.hid hsy
      have HK1 := Lib.hid hK1
      have c0 := (hbel.out.cell (p := ⟨g, off + si, none⟩) hgl).trans hcell
      clear hsy hK1 hK hcell
      generalize ls[si] = n at Hsy HK1 hKS c0
      have hn512 : n ≤ 512 := by omega
      go_wp2
      clear c0
      go_loopw [7, 26] (fun a k wr => ∃ ki : Nat, ki ≤ n ∧ a = .int .i64 (Bm.posL log (K + ki) : Int) ∧ k = .int .i64 (ki : Int) ∧ Hid (Row wr g0 5 (u8s (Bm.syms ls log (K + ki)))) ∧ Hid (Below w.heap.size w wr)) (fun _ k _ => n - (intOf k).toNat)
      case atStart => exact ⟨0, by omega, rfl, rfl, hrow, hbel⟩
      case round =>
        obtain ⟨ki, hki, rfl, rfl, hrow2, hbel2⟩ := hrel
        clear hrow hbel
        by_cases hkn : ki < n
        · have hpl : Bm.posL log (K + ki) < S := by rw [HS.out]; exact Bm.pos_lt log _
          have hnx := Bm.syms_next ls log (K + ki) si hlog5 hlog9 (by rw [← HS.out]; omega) (Hsy.out ki hkn)
          have hps := Bm.pos_succ log (K + ki)
          rw [← HS.out] at hps
          have hst : Bm.stepL log = S / 2 + S / 8 + 3 := by unfold Bm.stepL; rw [← HS.out]
          rw [hst, show K + ki + 1 = K + (ki + 1) by omega] at hps
          rw [show K + ki + 1 = K + (ki + 1) by omega] at hnx
          have hcs := u8s_set (Bm.syms ls log (K + ki)) (Bm.posL log (K + ki)) si
          rw [← hnx] at hcs
          have hsl : Bm.posL log (K + ki) < (Bm.syms ls log (K + ki)).length := by rw [Bm.syms_length, ← HS.out]; exact hpl
          have hget := u8s_get? (Bm.syms ls log (K + ki)) (Bm.posL log (K + ki)) hsl
          have c1 := (hrow2.out.cell (Bm.posL log (K + ki))).trans hget
          have f1 := hrow2.out.free (Bm.posL log (K + ki))
          have Hset := Lib.hid (hrow2.out.set_ (Bm.posL log (K + ki)) (.int .u8 (si : Int)))
          rw [hcs] at Hset
          generalize (Bm.syms ls log (K + ki))[Bm.posL log (K + ki)] = old at c1
          have Hps := Lib.hid hps
          clear hnx hps hst hcs hget hsl hrow2 HK1 Hsy
          generalize Bm.posL log (K + ki) = a at hpl c1 f1 Hset Hps ⊢
          go_wp2
          go_roundw
          case rel =>
            refine ⟨ki + 1, by omega, ?_, by go_num, Hset, Lib.hid (hbel2.out.setCell (by rw [Hg0.out]; exact Nat.le_refl _) _)⟩
            rw [Hps.out, Bm.step_int2]
          case measure => simp [intOf]; omega
        · obtain rfl : ki = n := by omega
          rw [← HK1.out] at hrow2 ⊢
          clear Hsy
          go_wp2
          go_roundw
          case rel => exact ⟨si + 1, by omega, rfl, by go_num, hrow2, hbel2⟩
          case measure => simp [intOf]; omega
    · obtain rfl : si = ls.length := by omega
      rw [List.take_length, Hsum.out, HS.out, Bm.syms_all] at hrow
      generalize Bm.posL log (ls.take ls.length).sum = alast
      go_wp2
      go_ret
      exact ⟨g0, rfl, by rw [Hg0.out]; exact Nat.le_refl _, hrow.out, hbel.out⟩

set_option maxHeartbeats 1000000 in
set_option maxRecDepth 100000 in
theorem tcellf_any (s x log : Nat) (w : World) (h0 : 0 < x) (hx : x < 2 ^ (log + 1)) (hlog : log ≤ 9) :
    Calls Tryz.prog 106 #[.int .u8 (s : Int), .int .i64 (x : Int), .int .i64 (log : Int)] w fun e w' => e = .returned (.agg #[.int .u8 (s : Int), .int .i64 (Bm.bitsX log x : Int), .int .i64 (Bm.baseX log x : Int)]) ∧ Below w.heap.size w w' := by
  have hx10 : 2 ^ (log + 1) ≤ 2 ^ 10 := Nat.pow_le_pow_right (n := 2) (by omega) (by omega)
  have hS9 : 2 ^ log ≤ 2 ^ 9 := Nat.pow_le_pow_right (n := 2) (by omega) (by omega)
  have hle := Bm.wid_le_of _ _ hx
  have hge := Bm.wid_one x h0
  have hlo := Bm.base_low log _ h0 hx
  have hhi := Bm.base_high log _ h0 hx
  have hBe : (log : Int) + 1 - (Bm.wid x : Int) = (Bm.bitsX log x : Int) := by unfold Bm.bitsX; omega
  have hB9 : Bm.bitsX log x ≤ 9 := by unfold Bm.bitsX; omega
  have hZe : Bm.baseX log x = x * 2 ^ Bm.bitsX log x - 2 ^ log := rfl
  have hxl : x < 4294967296 := by omega
  have Hwd := Lib.hid (fun W => width_wid x W hxl)
  have hMi : (x : Int) * 2 ^ Bm.bitsX log x = ((x * 2 ^ Bm.bitsX log x : Nat) : Int) := by simp
  have hSi : (2 : Int) ^ log = ((2 ^ log : Nat) : Int) := by simp
  have hM : x * 2 ^ Bm.bitsX log x ≤ 1024 := by
    rw [Nat.add_mul, Nat.one_mul] at hhi
    exact Nat.le_trans (Nat.le_trans (Nat.le_add_right _ _) hhi) hx10
  rw [hZe]
  generalize Bm.wid x = wX at *
  generalize Bm.bitsX log x = B at *
  generalize x * 2 ^ B = M at *
  generalize 2 ^ log = S at *
  have hw1 : IntKind.i64.wrap (M : Int) = (M : Int) := IntWalk.i64_in _ (by omega)
  have hw2 : IntKind.i64.wrap (S : Int) = (S : Int) := IntWalk.i64_in _ (by omega)
  obtain ⟨Z, hZ⟩ : ∃ Z, Z = M - S := ⟨_, rfl⟩
  have hZi : (M : Int) - (S : Int) = (Z : Int) := by omega
  rw [← hZ]
  clear hZ hhi hx hx10 hle hZe
  go_enter Tryz.func106, Tryz.ntmps106
  go_wp2_with fail
  refine (Hwd.out _).mono ?_
  rintro e w' ⟨rfl, rfl⟩
  go_wp2
  go_still_tail 9, (by kernel_rfl)
  change wpList _ _ _ _ _ (w.alloc (.cells #[.int .u8 0, .int .i64 0, .int .i64 0] 144)).drew
  go_wp2
  refine bodyPost_ret (v := .agg #[.int .u8 (s : Int), .int .i64 (B : Int), .int .i64 (Z : Int)]) (by simp [results, Tryz.results106, go_sem]) rfl ⟨rfl, ?_⟩
  exact ((Below.refl _ _).alloc (Nat.le_refl _) _).drew
end Go.Proofs.YtbdciiiimdbmkaaGreat

namespace Go.Proofs.YtbdciiiimdbmkaaGreat
open Go.RowKit
/-- A table of states lies at a place: its log, its cells, each symbol's states. -/
def STab (w : World) (p : Addr) (ls : List Nat) (log : Nat) : Prop := ∃ b gc gs : Nat, p = ⟨b, 0, none⟩ ∧
  Row w b 155 [.int .i64 (log : Int), .slice (some ⟨gc, 0, none⟩) (2 ^ log) (2 ^ log), .slice (some ⟨gs, 0, none⟩) ls.length ls.length] ∧
  Row w gc 144 (c3 (Bm.cellsM ls log)) ∧ ∃ vs : List Value, Row w gs 57 vs ∧ vs.length = ls.length ∧
    ∀ s, s < ls.length → ∃ A c, vs[s]? = some (.slice A (ls[s]?.getD 0) c) ∧ Reads w A (i64s (Bm.statesTo ls log (2 ^ log) s))
theorem stab_keep (w W : World) (p : Addr) (ls : List Nat) (log : Nat) (h : STab w p ls log) (hb : Below w.heap.size w W) : STab W p ls log := by
  obtain ⟨b, gc, gs, e, h1, h2, vs, h3, h4, h5⟩ := h
  refine ⟨b, gc, gs, e, row_below h1 hb, row_below h2 hb, vs, row_below h3 hb, h4, fun s hs => ?_⟩
  obtain ⟨A, c, h6, h7⟩ := h5 s hs
  exact ⟨A, c, h6, reads_on h7 hb⟩
theorem pow_fair (log : Nat) (h5 : 5 ≤ log) (h9 : log ≤ 9) : 32 ≤ 2 ^ log ∧ 2 ^ log ≤ 512 :=
  ⟨Nat.pow_le_pow_right (n := 2) (i := 5) (by omega) h5, Nat.pow_le_pow_right (n := 2) (j := 9) (by omega) h9⟩

set_option maxRecDepth 100000 in
theorem tsize_any (w : World) (p : Addr) (ls : List Nat) (log : Nat) (h : STab w p ls log) : Calls Tryz.prog 113 #[.pointer (some p)] w fun e w' => e = .returned (.int .i64 ((2 ^ log : Nat) : Int)) ∧ w = w' := by
  obtain ⟨b, gc, gs, rfl, h1, _⟩ := h
  have c1 := h1.cell 1
  simp only [List.getElem?_cons_succ, List.getElem?_cons_zero] at c1
  clear h1
  generalize 2 ^ log = S at *
  go_enter Tryz.func113, Tryz.ntmps113
  go_wp2
  go_ret
  exact ⟨rfl, rfl⟩
set_option maxRecDepth 100000 in
theorem tsize_nil (w : World) : Calls Tryz.prog 113 #[.pointer none] w fun e w' => e = .returned (.int .i64 0) ∧ w = w' := by
  go_enter Tryz.func113, Tryz.ntmps113
  go_wp2
  go_ret
  exact ⟨rfl, rfl⟩
set_option maxRecDepth 100000 in
theorem tlog_any (w : World) (p : Addr) (ls : List Nat) (log : Nat) (h : STab w p ls log) : Calls Tryz.prog 116 #[.pointer (some p)] w fun e w' => e = .returned (.int .i64 (log : Int)) ∧ w = w' := by
  obtain ⟨b, gc, gs, rfl, h1, _⟩ := h
  have c1 := h1.cell 0
  simp only [List.getElem?_cons_zero] at c1
  clear h1
  go_enter Tryz.func116, Tryz.ntmps116
  go_wp2
  go_ret
  exact ⟨rfl, rfl⟩
set_option maxRecDepth 100000 in
theorem tlog_nil (w : World) : Calls Tryz.prog 116 #[.pointer none] w fun e w' => e = .returned (.int .i64 0) ∧ w = w' := by
  go_enter Tryz.func116, Tryz.ntmps116
  go_wp2
  go_ret
  exact ⟨rfl, rfl⟩
set_option maxHeartbeats 400000 in
set_option maxRecDepth 100000 in
theorem thas_of (v : Value) (S : Nat) (st : Int) (w : World) (hsz : Calls Tryz.prog 113 #[v] w fun e w' => e = .returned (.int .i64 (S : Int)) ∧ w = w') :
    Calls Tryz.prog 127 #[v, .int .i64 st] w fun e w' => e = .returned (.bool (decide (0 ≤ st ∧ st < (S : Int)))) ∧ w = w' := by
  have Hsz := Lib.hid hsz
  clear hsz
  by_cases h0 : 0 ≤ st
  · have d0 : decide (0 ≤ st) = true := decide_eq_true h0
    have hd : decide (st < (S : Int)) = decide (0 ≤ st ∧ st < (S : Int)) := by simp [h0]
    have Hd := Lib.hid hd
    clear hd h0
    go_enter Tryz.func127, Tryz.ntmps127
    go_wp2_with fail
    refine Hsz.out.mono ?_
    rintro e w' ⟨rfl, rfl⟩
    go_wp2
    go_ret
    exact ⟨congrArg (fun x => Ending.returned (Value.bool x)) Hd.out, rfl⟩
  · have d0 : decide (0 ≤ st) = false := decide_eq_false h0
    rw [show decide (0 ≤ st ∧ st < (S : Int)) = false from decide_eq_false (fun h => h0 h.1)]
    clear Hsz
    go_enter Tryz.func127, Tryz.ntmps127
    go_wp2
    go_ret
    exact ⟨rfl, rfl⟩
set_option maxHeartbeats 400000 in
set_option maxRecDepth 100000 in
theorem tcell_nil (w : World) (st : Int) : Calls Tryz.prog 124 #[.pointer none, .int .i64 st] w fun e w' => e = .returned (.tuple #[.agg #[.int .u8 0, .int .i64 0, .int .i64 0], .bool false]) ∧ Below w.heap.size w w' := by
  have hh : ∀ W, Calls Tryz.prog 127 #[.pointer none, .int .i64 st] W fun e w' => e = .returned (.bool false) ∧ W = w' := fun W => by
    have h1 := thas_of (.pointer none) 0 st W (tsize_nil W)
    rw [decide_eq_false (by omega)] at h1
    exact h1
  have Hh := Lib.hid hh
  clear hh
  go_enter Tryz.func124, Tryz.ntmps124
  go_wp2_with fail
  refine (Hh.out _).mono ?_
  rintro e w' ⟨rfl, rfl⟩
  go_wp2
  refine bodyPost_ret (v := .tuple #[.agg #[.int .u8 0, .int .i64 0, .int .i64 0], .bool false]) (by simp [results, Tryz.results124, go_sem]) rfl ⟨rfl, ?_⟩
  exact (Below.refl _ _).alloc (Nat.le_refl _) _
set_option maxHeartbeats 1000000 in
set_option maxRecDepth 100000 in
theorem tcell_any (w : World) (p : Addr) (ls : List Nat) (log : Nat) (st : Int) (hf : Bm.FairN ls log) (h : STab w p ls log) :
    Calls Tryz.prog 124 #[.pointer (some p), .int .i64 st] w fun e w' => e = .returned (.tuple #[celV (Bm.cellA ls log st), .bool (decide (0 ≤ st ∧ st < ((2 ^ log : Nat) : Int)))]) ∧ Below w.heap.size w w' := by
  have hh := fun W (hW : STab W p ls log) => thas_of (.pointer (some p)) (2 ^ log) st W (tsize_any W p ls log hW)
  have Hh := Lib.hid (hh _ (stab_keep _ _ _ _ _ h ((Below.refl _ _).alloc (Nat.le_refl w.heap.size) (.cells #[.int .u8 0, .int .i64 0, .int .i64 0] 144))))
  have hP := pow_fair log hf.low hf.high
  clear hh
  obtain ⟨b, gc, gs, rfl, h1, h2, _⟩ := h
  have c1 := h1.cell 1
  simp only [List.getElem?_cons_succ, List.getElem?_cons_zero] at c1
  have hlt := h1.lt
  have hlt2 := h2.lt
  by_cases hst : 0 ≤ st ∧ st < ((2 ^ log : Nat) : Int)
  · obtain ⟨i, rfl⟩ := Int.eq_ofNat_of_zero_le hst.1
    have hi : i < 2 ^ log := by omega
    have hil : i < (Bm.cellsM ls log).length := by rw [Bm.cellsM_length]; exact hi
    obtain ⟨e0, e1, e2⟩ := c3_get (Bm.cellsM ls log) i hil
    rw [Bm.cellsM_get] at e0 e1 e2
    have k0 := (h2.cell (i * 3)).trans e0
    have k1 := (h2.cell (i * 3 + 1)).trans e1
    have k2 := (h2.cell (i * 3 + 2)).trans e2
    dsimp only at k0 k1 k2
    have hA : celV (Bm.cellA ls log (i : Int)) = .agg #[.int .u8 (Bm.symAt ls log i : Int), .int .i64 (Bm.bitsAt ls log i : Int), .int .i64 (Bm.baseAt ls log i : Int)] := by
      unfold Bm.cellA celV
      rw [if_pos hst, Int.toNat_natCast]
    rw [decide_eq_true hst] at Hh ⊢
    rw [hA]
    clear hA e0 e1 e2 hil h1 h2 hst hf
    generalize Bm.symAt ls log i = x at *
    generalize Bm.bitsAt ls log i = y at *
    generalize Bm.baseAt ls log i = z at *
    generalize 2 ^ log = S at *
    go_enter Tryz.func124, Tryz.ntmps124
    go_wp2_with fail
    refine Hh.out.mono ?_
    rintro e w' ⟨rfl, rfl⟩
    go_wp2
    refine bodyPost_ret (v := .tuple #[.agg #[.int .u8 (x : Int), .int .i64 (y : Int), .int .i64 (z : Int)], .bool true]) (by simp [results, Tryz.results124, go_sem]) rfl ⟨rfl, ?_⟩
    exact (Below.refl _ _).alloc (Nat.le_refl _) _
  · have hA : celV (Bm.cellA ls log st) = .agg #[.int .u8 0, .int .i64 0, .int .i64 0] := by
      unfold Bm.cellA celV
      rw [if_neg hst]
      rfl
    rw [decide_eq_false hst] at Hh ⊢
    rw [hA]
    clear hA h1 h2 hst hf c1
    go_enter Tryz.func124, Tryz.ntmps124
    go_wp2_with fail
    refine Hh.out.mono ?_
    rintro e w' ⟨rfl, rfl⟩
    go_wp2
    refine bodyPost_ret (v := .tuple #[.agg #[.int .u8 0, .int .i64 0, .int .i64 0], .bool false]) (by simp [results, Tryz.results124, go_sem]) rfl ⟨rfl, ?_⟩
    exact (Below.refl _ _).alloc (Nat.le_refl _) _

set_option maxHeartbeats 1000000 in
set_option maxRecDepth 100000 in
theorem tnext_any (w : World) (p : Addr) (ls : List Nat) (log : Nat) (st more : Int) (hf : Bm.FairN ls log) (h : STab w p ls log) :
    Calls Tryz.prog 125 #[.pointer (some p), .int .i64 st, .int .i64 more] w fun e w' => e = .returned (.tuple #[.int .i64 (Bm.nextA ls log st more), .bool (Bm.nextB ls log st more)]) ∧ Below w.heap.size w w' := by
  have Hc := Lib.hid (tcell_any w p ls log st hf h)
  have hP := pow_fair log hf.low hf.high
  by_cases hst : 0 ≤ st ∧ st < ((2 ^ log : Nat) : Int)
  · have hA : celV (Bm.cellA ls log st) = .agg #[.int .u8 (Bm.symAt ls log st.toNat : Int), .int .i64 (Bm.bitsAt ls log st.toNat : Int), .int .i64 (Bm.baseAt ls log st.toNat : Int)] := by
      unfold Bm.cellA celV
      rw [if_pos hst]
    have hi : st.toNat < 2 ^ log := by omega
    have hbs := Bm.base_at ls log st.toNat hf hi
    have hb9 := Bm.bits_at ls log st.toNat hf hi
    have hl9 := hf.high
    have hnB : Bm.nextB ls log st more = decide (0 ≤ more ∧ more < ((2 ^ Bm.bitsAt ls log st.toNat : Nat) : Int)) := by
      unfold Bm.nextB
      rw [decide_eq_decide]
      exact ⟨fun h => h.2.2, fun h => ⟨hst.1, hst.2, h⟩⟩
    have hnA : Bm.nextA ls log st more = if 0 ≤ more ∧ more < ((2 ^ Bm.bitsAt ls log st.toNat : Nat) : Int) then (Bm.baseAt ls log st.toNat : Int) + more else 0 := by
      unfold Bm.nextA
      rw [hnB]
      simp only [decide_eq_true_eq]
    rw [hA, decide_eq_true hst] at Hc
    rw [hnA, hnB]
    clear hA hnA hnB hst hi hf h
    have hS : (2 : Int) ^ Bm.bitsAt ls log st.toNat = ((2 ^ Bm.bitsAt ls log st.toNat : Nat) : Int) := by simp
    have hpos : 0 < 2 ^ Bm.bitsAt ls log st.toNat := Nat.pow_pos (by omega)
    generalize Bm.symAt ls log st.toNat = x at *
    generalize Bm.bitsAt ls log st.toNat = y at *
    generalize Bm.baseAt ls log st.toNat = z at *
    generalize 2 ^ y = Y at *
    have hz512 : z ≤ 512 := Nat.le_trans (Nat.le_trans (Nat.le_add_right _ _) hbs) hP.2
    have hY512 : Y ≤ 512 := Nat.le_trans (Nat.le_trans (Nat.le_add_left _ _) hbs) hP.2
    have hw : IntKind.i64.wrap (Y : Int) = (Y : Int) := IntWalk.i64_in _ (by omega)
    clear hbs
    by_cases h0 : more < 0
    · have d0 : decide (more < 0) = true := decide_eq_true h0
      rw [if_neg (fun h => by omega), decide_eq_false (fun h => by omega)]
      go_enter Tryz.func125, Tryz.ntmps125
      go_wp2_with fail
      refine Hc.out.mono ?_
      rintro e w1 ⟨rfl, hb⟩
      go_wp2
      go_ret2
      exact ⟨rfl, hb.alloc hb.size _⟩
    · have d0 : decide (more < 0) = false := decide_eq_false h0
      by_cases h1 : (Y : Int) ≤ more
      · have d1 : decide ((Y : Int) ≤ more) = true := decide_eq_true h1
        rw [if_neg (fun h => by omega), decide_eq_false (fun h => by omega)]
        go_enter Tryz.func125, Tryz.ntmps125
        go_wp2_with fail
        refine Hc.out.mono ?_
        rintro e w1 ⟨rfl, hb⟩
        go_wp2
        go_ret2
        exact ⟨rfl, hb.alloc hb.size _⟩
      · have d1 : decide ((Y : Int) ≤ more) = false := decide_eq_false h1
        rw [if_pos ⟨by omega, by omega⟩, decide_eq_true ⟨by omega, by omega⟩]
        go_enter Tryz.func125, Tryz.ntmps125
        go_wp2_with fail
        refine Hc.out.mono ?_
        rintro e w1 ⟨rfl, hb⟩
        go_wp2
        go_ret2
        exact ⟨rfl, hb.alloc hb.size _⟩
  · have hA : celV (Bm.cellA ls log st) = .agg #[.int .u8 0, .int .i64 0, .int .i64 0] := by
      unfold Bm.cellA celV
      rw [if_neg hst]
      rfl
    have hnB : Bm.nextB ls log st more = false := decide_eq_false (fun h => hst ⟨h.1, h.2.1⟩)
    have hnA : Bm.nextA ls log st more = 0 := by
      unfold Bm.nextA
      rw [hnB]
      rfl
    rw [hA, decide_eq_false hst] at Hc
    rw [hnA, hnB]
    clear hA hnA hnB hst hf h
    go_enter Tryz.func125, Tryz.ntmps125
    go_wp2_with fail
    refine Hc.out.mono ?_
    rintro e w1 ⟨rfl, hb⟩
    go_wp2
    go_ret2
    exact ⟨rfl, hb.alloc hb.size _⟩
end Go.Proofs.YtbdciiiimdbmkaaGreat

namespace Go.Proofs.YtbdciiiimdbmkaaGreat
open Go.RowKit
theorem and_low (W b : Nat) (hW : W < 4294967296) (hb : b < 32) : bits .and .i64 (W : Int) (((2 ^ b : Nat) : Int) - 1) = ((W % 2 ^ b : Nat) : Int) := by
  have hp : 2 ^ b < 2 ^ 32 := Nat.pow_lt_pow_right (by omega) hb
  have hpos := Nat.two_pow_pos b
  have h1 : ∀ a : Nat, a < 4294967296 → (BitVec.ofInt 64 (a : Int)).toNat = a := fun a ha => by
    rw [BitVec.ofInt_natCast, BitVec.toNat_ofNat]; exact Nat.mod_eq_of_lt (by omega)
  rw [show ((2 ^ b : Nat) : Int) - 1 = ((2 ^ b - 1 : Nat) : Int) by omega]
  show IntKind.i64.wrap ((BitVec.ofInt 64 (W : Int) &&& BitVec.ofInt 64 ((2 ^ b - 1 : Nat) : Int)).toNat : Int) = _
  rw [BitVec.toNat_and, h1 W hW, h1 _ (by omega), Nat.and_two_pow_sub_one_eq_mod, IntKind.wrap_i64]
  have h2 := Nat.mod_lt W hpos
  omega

set_option maxHeartbeats 1000000 in
set_option maxRecDepth 100000 in
theorem tback_out (w : World) (p : Addr) (ls : List Nat) (log : Nat) (st : Int) (s : Nat) (h : STab w p ls log) (hst : ¬ (0 ≤ st ∧ st < ((2 ^ log : Nat) : Int))) :
    Calls Tryz.prog 120 #[.pointer (some p), .int .i64 st, .int .u8 (s : Int)] w fun e w' => e = .returned (.tuple #[.int .i64 0, .int .i64 0, .int .i64 0, .bool false]) ∧ w = w' := by
  have Hh := Lib.hid (thas_of (.pointer (some p)) (2 ^ log) st w (tsize_any w p ls log h))
  rw [decide_eq_false hst] at Hh
  clear hst h
  go_enter Tryz.func120, Tryz.ntmps120
  go_wp2_with fail
  refine Hh.out.mono ?_
  rintro e w' ⟨rfl, rfl⟩
  go_wp2
  refine bodyPost_ret (v := .tuple #[.int .i64 0, .int .i64 0, .int .i64 0, .bool false]) (by simp [results, Tryz.results120, go_sem]) rfl ⟨rfl, rfl⟩

set_option maxHeartbeats 1000000 in
set_option maxRecDepth 100000 in
theorem tback_none (w : World) (p : Addr) (ls : List Nat) (log : Nat) (st : Int) (s : Nat) (hf : Bm.FairN ls log) (h : STab w p ls log) (hst : 0 ≤ st ∧ st < ((2 ^ log : Nat) : Int)) (hs : ls[s]?.getD 0 = 0) (hs256 : s < 256) :
    Calls Tryz.prog 120 #[.pointer (some p), .int .i64 st, .int .u8 (s : Int)] w fun e w' => e = .returned (.tuple #[.int .i64 0, .int .i64 0, .int .i64 0, .bool false]) ∧ w = w' := by
  have Hh := Lib.hid (thas_of (.pointer (some p)) (2 ^ log) st w (tsize_any w p ls log h))
  rw [decide_eq_true hst] at Hh
  have hlen := hf.len
  obtain ⟨b, gc, gs, rfl, h1, h2, vs, h3, h4, h5⟩ := h
  have c1 := h1.cell 2
  simp only [List.getElem?_cons_succ, List.getElem?_cons_zero] at c1
  by_cases hsl : s < ls.length
  · obtain ⟨A, c, h6, h7⟩ := h5 s hsl
    have c2 := (h3.cell s).trans h6
    rw [hs] at c2
    have d1 : decide (ls.length ≤ s) = false := decide_eq_false (by omega)
    clear h1 h2 h3 h4 h5 h6 h7 hst hs hf
    go_enter Tryz.func120, Tryz.ntmps120
    go_wp2_with fail
    refine Hh.out.mono ?_
    rintro e w' ⟨rfl, rfl⟩
    go_wp2
    refine bodyPost_ret (v := .tuple #[.int .i64 0, .int .i64 0, .int .i64 0, .bool false]) (by simp [results, Tryz.results120, go_sem]) rfl ⟨rfl, rfl⟩
  · have d1 : decide (ls.length ≤ s) = true := decide_eq_true (by omega)
    clear h1 h2 h3 h4 h5 hst hs hf
    go_enter Tryz.func120, Tryz.ntmps120
    go_wp2_with fail
    refine Hh.out.mono ?_
    rintro e w' ⟨rfl, rfl⟩
    go_wp2
    refine bodyPost_ret (v := .tuple #[.int .i64 0, .int .i64 0, .int .i64 0, .bool false]) (by simp [results, Tryz.results120, go_sem]) rfl ⟨rfl, rfl⟩

set_option maxHeartbeats 2000000 in
set_option maxRecDepth 100000 in
/-- The walk, over letters: the widths, the shifts. -/
theorem tback_walk (w : World) (b gs g off S i W N cap s L1 wN B x x2 q v m cc : Nat) (n0 : Nat) (hh : ∀ W', W' = w → Calls Tryz.prog 127 #[.pointer (some ⟨b, 0, none⟩), .int .i64 (i : Int)] W' fun e w' => e = .returned (.bool true) ∧ W' = w')
    (hsz : Calls Tryz.prog 113 #[.pointer (some ⟨b, 0, none⟩)] w fun e w' => e = .returned (.int .i64 (S : Int)) ∧ w = w')
    (c1 : w.cell? ⟨b, 2, none⟩ = some (.slice (some ⟨gs, 0, none⟩) n0 n0)) (hs : s < n0) (hn0 : n0 ≤ 256) (c2 : w.cell? ⟨gs, s, none⟩ = some (.slice (some ⟨g, off, none⟩) N cap))
    (hN0 : 0 < N) (hN : N ≤ 512) (hW : W = i + S) (hWb : W < 1024) (hw1 : Bm.wid W = L1) (hw2 : Bm.wid N = wN) (hB : L1 = B + wN) (hB9 : B ≤ 20) (hx : x = W / 2 ^ B)
    (hlo : x < N → 1 ≤ B ∧ m = B - 1 ∧ x2 = W / 2 ^ m) (hhi : N ≤ x → m = B ∧ x2 = x) (hq : x2 = N + q) (hqN : q < N) (c3 : w.cell? ⟨g, off + q, none⟩ = some (.int .i64 (v : Int))) (hcc : cc = W % 2 ^ m) :
    Calls Tryz.prog 120 #[.pointer (some ⟨b, 0, none⟩), .int .i64 (i : Int), .int .u8 (s : Int)] w fun e w' => e = .returned (.tuple #[.int .i64 (v : Int), .int .i64 (cc : Int), .int .i64 (m : Int), .bool true]) ∧ Below w.heap.size w w' := by
  have Hh := Lib.hid (hh w rfl)
  have Hsz := Lib.hid hsz
  have Hwd1 := Lib.hid (fun V => width_wid W V (by omega))
  have Hwd2 := Lib.hid (fun V => width_wid N V (by omega))
  rw [hw1] at Hwd1
  rw [hw2] at Hwd2
  have d1 : decide (n0 ≤ s) = false := decide_eq_false (by omega)
  have d2 : ((N : Int) == 0) = false := by rw [beq_eq_false_iff_ne]; omega
  have e1 : (S : Int) + (i : Int) = (W : Int) := by omega
  have e2 : (L1 : Int) - (wN : Int) = (B : Int) := by omega
  have e3 : (W : Int) / 2 ^ B = (x : Int) := by rw [hx]; simp
  have hm : m ≤ B := by
    rcases Nat.lt_or_ge x N with h | h
    · have := hlo h; omega
    · have := hhi h; omega
  have hP : 2 ^ m ≤ 1048576 := by
    have h2 : 2 ^ m ≤ 2 ^ 20 := Nat.pow_le_pow_right (by omega) (by omega)
    have h3 : (2 : Nat) ^ 20 = 1048576 := by decide
    omega
  have e4 : (2 : Int) ^ m = ((2 ^ m : Nat) : Int) := by simp
  have e5 := and_low W m (by omega) (by omega)
  rw [← hcc] at e5
  have hx2 : x2 = W / 2 ^ m := by
    rcases Nat.lt_or_ge x N with h | h
    · exact (hlo h).2.2
    · obtain ⟨h1, h2⟩ := hhi h; rw [h2, h1, hx]
  have e6 : (W : Int) / ((2 ^ m : Nat) : Int) = (x2 : Int) := by rw [hx2]; simp
  have e7 : (x2 : Int) - (N : Int) = (q : Int) := by omega
  have hx2l : x2 ≤ 1023 := by omega
  have hp0 : 0 < 2 ^ m := Nat.two_pow_pos m
  have hxN : x ≤ 1023 := by
    have := Nat.div_le_self W (2 ^ B)
    omega
  have hSW : S ≤ W := by omega
  have hiW : i ≤ W := by omega
  clear hh hsz hw1 hw2 hcc hx2 hx hW
  have Hq := Lib.hid hq
  clear hq
  generalize 2 ^ m = P at *
  have hwP : IntKind.i64.wrap (P : Int) = (P : Int) := IntWalk.i64_in _ (by omega)
  have hwP1 : IntKind.i64.wrap ((P : Int) - 1) = (P : Int) - 1 := IntWalk.i64_in _ (by omega)
  by_cases hlt : x < N
  · obtain ⟨k1, k2, k3⟩ := hlo hlt
    have d3 : decide (x < N) = true := decide_eq_true hlt
    have e8 : (B : Int) - 1 = (m : Int) := by omega
    clear hlo hhi hB k2 k3
    have E4 := Lib.hid e4
    have E5 := Lib.hid e5
    have E6 := Lib.hid e6
    have E7 := Lib.hid e7
    have E8 := Lib.hid e8
    have HwP := Lib.hid hwP
    have HwP1 := Lib.hid hwP1
    clear e4 e5 e6 e7 e8 hwP hwP1
    go_enter Tryz.func120, Tryz.ntmps120
    go_wp2_with fail
    refine Hh.out.mono ?_
    rintro e w' ⟨rfl, rfl⟩
    go_wp2_with fail
    refine Hsz.out.mono ?_
    rintro e w' ⟨rfl, rfl⟩
    go_wp2_with fail
    refine (Hwd1.out _).mono ?_
    rintro e w' ⟨rfl, rfl⟩
    go_wp2_with fail
    refine (Hwd2.out _).mono ?_
    rintro e w' ⟨rfl, rfl⟩
    go_wp2_with fail
    rw [E8.out]
    clear e3
    have e4 := E4.out
    have e5 := E5.out
    have e6 := E6.out
    have e7 := E7.out
    have e7b : (0 : Int) ≤ (q : Int) := by omega
    have e7c : (q : Int) < (N : Int) := by omega
    have hwP := HwP.out
    have hwP1 := HwP1.out
    go_quiet (fail)
    go_wp2
    refine bodyPost_ret (v := .tuple #[.int .i64 (v : Int), .int .i64 (cc : Int), .int .i64 (m : Int), .bool true]) (by simp [results, Tryz.results120, go_sem]) rfl ⟨rfl, below_drewN (Below.refl _ _) _⟩
  · obtain ⟨rfl, rfl⟩ := hhi (by omega)
    have d3 : decide (x2 < N) = false := decide_eq_false hlt
    clear hlo hhi hB
    have E4 := Lib.hid e4
    have E5 := Lib.hid e5
    have E6 := Lib.hid e6
    have E7 := Lib.hid e7
    have HwP := Lib.hid hwP
    have HwP1 := Lib.hid hwP1
    clear e4 e5 e6 e7 hwP hwP1
    go_enter Tryz.func120, Tryz.ntmps120
    go_wp2_with fail
    refine Hh.out.mono ?_
    rintro e w' ⟨rfl, rfl⟩
    go_wp2_with fail
    refine Hsz.out.mono ?_
    rintro e w' ⟨rfl, rfl⟩
    go_wp2_with fail
    refine (Hwd1.out _).mono ?_
    rintro e w' ⟨rfl, rfl⟩
    go_wp2_with fail
    refine (Hwd2.out _).mono ?_
    rintro e w' ⟨rfl, rfl⟩
    go_wp2_with fail
    clear e3
    have e4 := E4.out
    have e5 := E5.out
    have e6 := E6.out
    have e7 := E7.out
    have e7b : (0 : Int) ≤ (q : Int) := by omega
    have e7c : (q : Int) < (N : Int) := by omega
    have hwP := HwP.out
    have hwP1 := HwP1.out
    go_quiet (fail)
    go_wp2
    refine bodyPost_ret (v := .tuple #[.int .i64 (v : Int), .int .i64 (cc : Int), .int .i64 (m : Int), .bool true]) (by simp [results, Tryz.results120, go_sem]) rfl ⟨rfl, below_drewN (Below.refl _ _) _⟩

set_option maxRecDepth 100000 in
theorem tback_any (w : World) (p : Addr) (ls : List Nat) (log : Nat) (st : Int) (s : Nat) (hf : Bm.FairN ls log) (h : STab w p ls log) (hs256 : s < 256) :
    Calls Tryz.prog 120 #[.pointer (some p), .int .i64 st, .int .u8 (s : Int)] w fun e w' => e = .returned (backT (Bm.backA ls log st s)) ∧ Below w.heap.size w w' := by
  by_cases hst : 0 ≤ st ∧ st < ((2 ^ log : Nat) : Int)
  · have hA : Bm.backA ls log st s = (Bm.backP ls log st.toNat s).map fun p => (p, st.toNat - Bm.baseAt ls log p, Bm.bitsAt ls log p) := by
      unfold Bm.backA
      rw [if_pos hst]
    rw [hA]
    by_cases h0 : ls[s]?.getD 0 = 0
    · rw [Bm.back_none ls log st.toNat s hf h0]
      exact (tback_none w p ls log st s hf h hst h0 hs256).mono fun e w' ⟨he, hw⟩ => ⟨he, by subst hw; exact Below.refl _ _⟩
    · have hsl : s < ls.length := by
        rcases Nat.lt_or_ge s ls.length with h1 | h1
        · exact h1
        · exact absurd (by rw [List.getElem?_eq_none h1]; rfl) h0
      have hg : ls[s]? = some ls[s] := List.getElem?_eq_getElem hsl
      rw [hg, Option.getD_some] at h0
      obtain ⟨i, rfl⟩ := Int.eq_ofNat_of_zero_le hst.1
      rw [Int.toNat_natCast]
      have hi : i < 2 ^ log := by omega
      have hn := Bm.states_share ls log s _ hf hg
      have hP := pow_fair log hf.low hf.high
      have hall := Bm.states_all ls log s hf
      rw [hg, Option.getD_some] at hall
      have hlen := hf.len
      have hl9 := hf.high
      have hsz := tsize_any w p ls log h
      have hh : ∀ W', W' = w → Calls Tryz.prog 127 #[.pointer (some p), .int .i64 (i : Int)] W' fun e w' => e = .returned (.bool true) ∧ W' = w' := fun W' e => by
        subst e
        have h1 := thas_of (.pointer (some p)) (2 ^ log) (i : Int) W' (tsize_any W' p ls log h)
        rw [decide_eq_true hst] at h1
        exact h1
      obtain ⟨b, gc, gs, rfl, h1, h2, vs, h3, h4, h5⟩ := h
      have c1 := h1.cell 2
      simp only [List.getElem?_cons_succ, List.getElem?_cons_zero] at c1
      obtain ⟨A, c, h6, h7⟩ := h5 s hsl
      rw [hg, Option.getD_some] at h6
      have c2 := (h3.cell s).trans h6
      have hne : 0 < (Bm.statesTo ls log (2 ^ log) s).length := by omega
      obtain ⟨g, off, rfl, hc⟩ := h7 (fun e => by have := congrArg List.length e; rw [i64s_length, List.length_nil] at this; omega)
      have key : ∀ m, ls[s] ≤ (i + 2 ^ log) / 2 ^ m → (i + 2 ^ log) / 2 ^ m < 2 * ls[s] → ∃ q v : Nat, (i + 2 ^ log) / 2 ^ m = ls[s] + q ∧ q < ls[s] ∧ w.cell? ⟨g, off + q, none⟩ = some (.int .i64 (v : Int)) ∧
          (Bm.backP ls log i s).map (fun p => (p, i - Bm.baseAt ls log p, Bm.bitsAt ls log p)) = some (v, (i + 2 ^ log) % 2 ^ m, m) := fun m k1 k2 => by
        obtain ⟨v, e1, e2, e3, e4⟩ := Bm.back_shift ls log i s ls[s] m hf hg (by omega) hi k1 k2
        refine ⟨(i + 2 ^ log) / 2 ^ m - ls[s], v, by omega, by omega, ?_, by rw [e2, Option.map_some, e3, e4]⟩
        have hql : (i + 2 ^ log) / 2 ^ m - ls[s] < (Bm.statesTo ls log (2 ^ log) s).length := by omega
        rw [hc _ (by rw [i64s_length]; exact hql), i64s_get? _ _ hql]
        rw [List.getElem?_eq_getElem hql] at e1
        injection e1 with e1
        rw [e1]
      have hw2 := Bm.wid_le_of ls[s] (log + 1) (by have : 2 ^ (log + 1) = 2 ^ log * 2 := Nat.pow_succ 2 log; omega)
      have hw3 := Bm.wid_one ls[s] (by omega)
      have hwW : Bm.wid (i + 2 ^ log) = log + 1 := Bm.wid_eq _ log (by omega) (by have : 2 ^ (log + 1) = 2 ^ log * 2 := Nat.pow_succ 2 log; omega)
      rcases Nat.lt_or_ge ((i + 2 ^ log) / 2 ^ (log + 1 - Bm.wid ls[s])) ls[s] with hlt | hge
      · obtain ⟨k1, k2, k3⟩ := Bm.shift_lo log i ls[s] (by omega) hn hlt
        obtain ⟨q, v, q1, q2, q3, q4⟩ := key _ k2 k3
        rw [q4]
        exact tback_walk w b gs g off (2 ^ log) i (i + 2 ^ log) ls[s] c s (log + 1) (Bm.wid ls[s]) (log + 1 - Bm.wid ls[s]) ((i + 2 ^ log) / 2 ^ (log + 1 - Bm.wid ls[s])) ((i + 2 ^ log) / 2 ^ (log + 1 - Bm.wid ls[s] - 1)) q v (log + 1 - Bm.wid ls[s] - 1) _ ls.length hh hsz c1 hsl hlen c2 (by omega) (by omega) rfl (by omega) hwW rfl (by omega) (by omega) rfl (fun _ => ⟨k1, rfl, rfl⟩) (fun h => absurd hlt (by omega)) q1 q2 q3 rfl
      · have k3 := Bm.shift_hi log i ls[s] (by omega) hn hi
        obtain ⟨q, v, q1, q2, q3, q4⟩ := key _ hge k3
        rw [q4]
        exact tback_walk w b gs g off (2 ^ log) i (i + 2 ^ log) ls[s] c s (log + 1) (Bm.wid ls[s]) (log + 1 - Bm.wid ls[s]) ((i + 2 ^ log) / 2 ^ (log + 1 - Bm.wid ls[s])) ((i + 2 ^ log) / 2 ^ (log + 1 - Bm.wid ls[s])) q v (log + 1 - Bm.wid ls[s]) _ ls.length hh hsz c1 hsl hlen c2 (by omega) (by omega) rfl (by omega) hwW rfl (by omega) (by omega) rfl (fun h => absurd h (by omega)) (fun _ => ⟨rfl, rfl⟩) q1 q2 q3 rfl
  · have hA : Bm.backA ls log st s = none := by
      unfold Bm.backA
      rw [if_neg hst]
    rw [hA]
    exact (tback_out w p ls log st s h hst).mono fun e w' ⟨he, hw⟩ => ⟨he, by subst hw; exact Below.refl _ _⟩
end Go.Proofs.YtbdciiiimdbmkaaGreat
