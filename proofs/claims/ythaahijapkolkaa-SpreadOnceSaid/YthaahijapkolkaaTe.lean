/-
  The program's layer 6 (spread), by its walk: spread (each state's symbol), cell. Conditions: as each theorem's premises say.
-/
import Derived.Test.YthaahijapkolkaaTn
import Derived.Test.YthaahijapkolkaaSw
import Derived.Test.YthaahijapkolkaaGn
import Derived.StillTailTactics
namespace Go.Proofs.Ythaahijapkolkaa
open Go.RowKit
namespace Bm
/-- The symbols behind K steps. -/
def syms (ls : List Nat) (log K : Nat) : List Nat := (ph1 ls log K).map (·.1)
theorem syms_length (ls : List Nat) (log K : Nat) : (syms ls log K).length = 2 ^ log := by simp [syms, ph1_length]
theorem syms_zero (ls : List Nat) (log : Nat) : syms ls log 0 = List.replicate (2 ^ log) 0 := by simp [syms, ph1_zero]
theorem syms_next (ls : List Nat) (log K s : Nat) (h5 : 5 ≤ log) (h9 : log ≤ 9) (hK : K < 2 ^ log) (hs : (symsFrom 0 ls)[K]? = some s) : syms ls log (K + 1) = (syms ls log K).set (posL log K) s := by
  obtain ⟨h, e⟩ := ph1_next ls log K s h5 h9 hK hs
  unfold syms
  rw [e, List.map_set]
theorem syms_all (ls : List Nat) (log : Nat) : syms ls log (2 ^ log) = tab ls log := by
  unfold syms tab ph1
  rw [List.map_map]
  apply List.map_congr_left
  intro p _
  simp [inv_lt]
theorem step_int2 (a S : Nat) : ((a : Int) + ((S : Int) / 2 + (S : Int) / 8 + 3)) % (S : Int) = (((a + (S / 2 + S / 8 + 3)) % S : Nat) : Int) := by
  rw [Int.natCast_emod]
  congr 1
end Bm
theorem info_b8 : (Try.prog.info? 5).map (fun i => (i.zero, i.size, i.bytes)) = some (some (.int .u8 0), 1, 1) := by kernel_rfl
set_option maxHeartbeats 2000000 in
set_option maxRecDepth 100000 in
theorem tspread_any (A : Option Addr) (c : Nat) (ls : List Nat) (log : Nat) (w : World) (hf : Bm.FairN ls log) (hr : Reads w A (i64s ls)) :
    Calls Try.prog 18 #[.slice A ls.length c, .int .i64 ((2 ^ log : Nat) : Int)] w fun e w' => ∃ g, e = .returned (.slice (some ⟨g, 0, none⟩) (2 ^ log) (2 ^ log)) ∧ w.heap.size ≤ g ∧ Row w' g 5 (u8s (Bm.tab ls log)) ∧ Below w.heap.size w w' := by
  obtain ⟨i0, hi, hz0, hz1, hz2⟩ := info_parts info_b8
  have hlog5 := hf.low
  have hlog9 := hf.high
  have hlen := hf.len
  obtain ⟨S, hS⟩ : ∃ S, S = 2 ^ log := ⟨_, rfl⟩
  have hS32 : 32 ≤ S := by rw [hS]; exact Nat.pow_le_pow_right (n := 2) (by omega) hlog5
  have hS512 : S ≤ 512 := by rw [hS]; exact Nat.pow_le_pow_right (n := 2) (by omega) hlog9
  have hsum : ls.sum = S := by rw [hS]; exact hf.sum
  have hls : ∀ s (h : s < ls.length), ∃ g off, A = some ⟨g, off, none⟩ ∧ w.cell? ⟨g, off + s, none⟩ = some (.int .i64 (ls[s] : Int)) ∧ g < w.heap.size := fun s h => by
    obtain ⟨g, off, e, hc⟩ := hr (by intro e; have := congrArg List.length e; rw [i64s_length, List.length_nil] at this; omega)
    have h1 := hc s (by rw [i64s_length]; exact h)
    rw [i64s_get? ls s h] at h1
    exact ⟨g, off, e, h1, World.block_lt_of_cell? w _ h1⟩
  have Hls := Lib.hid hls
  have HS := Lib.hid hS
  have Hsum := Lib.hid hsum
  clear hf hr hls hS hsum
  obtain ⟨g0, hg0⟩ : ∃ g, g = w.heap.size := ⟨_, rfl⟩
  have Hg0 := Lib.hid hg0
  clear hg0
  rw [← HS.out]
  go_enter Try.func18, Try.ntmps18
  go_wp2_with (at_make; refine wpList_make_full _ rfl _ _ 48 rfl w.heap.size 5 i0 (.int .u8 0) 1 Try.underlying48 hi hz0 hz1 .i64 .i64 _ _ S rfl rfl ?c1 ?c1 ?c2 ?c3 ?c4 ?_)
  case c1 => rfl
  case c2 => first | omega | (rw [hz2]; omega)
  case c3 => unfold maxLen; omega
  try case c4 => exact Nat.le_refl _
  intro w1 hown1 hg1
  have hb1 := below_of_grown hg1
  have hr0 := row_of_own hown1
  rw [← Hg0.out] at hr0 ⊢
  have hr1 : Row w1 g0 5 (u8s (Bm.syms ls log 0)) := by rw [Bm.syms_zero, ← HS.out]; exact hr0
  have Hb1 := Lib.hid hb1
  have Hr1 := Lib.hid hr1
  clear hown1 hg1 hr0 hb1 hr1 hi hz0 hz1 hz2
  go_wp2
  go_loopw [7, 20] (fun a s wr => ∃ si : Nat, si ≤ ls.length ∧ a = .int .i64 (Bm.posL log (ls.take si).sum : Int) ∧ s = .int .i64 (si : Int) ∧ Hid (Row wr g0 5 (u8s (Bm.syms ls log (ls.take si).sum))) ∧ Hid (Below w.heap.size w wr)) (fun _ s _ => ls.length - (intOf s).toNat)
  case atStart => exact ⟨0, by omega, by simp [Bm.posL], rfl, Lib.hid (by rw [List.take_zero, List.sum_nil]; exact Hr1.out), Hb1⟩
  case round =>
    obtain ⟨si, hsi, rfl, rfl, hrow, hbel⟩ := hrel
    clear Hr1 Hb1
    by_cases hlt : si < ls.length
    · obtain ⟨g, off, rfl, hcell, hgl⟩ := Hls.out si hlt
      obtain ⟨K, hK⟩ : ∃ K, K = (ls.take si).sum := ⟨_, rfl⟩
      have hK1 : (ls.take (si + 1)).sum = K + ls[si] := by rw [List.take_succ_eq_append_getElem hlt, List.sum_append_nat, hK]; simp
      have hKS : K + ls[si] ≤ S := by
        rw [← hK1, ← Hsum.out, ← List.take_append_drop (si + 1) ls, List.sum_append_nat]
        simp
      have hsy : ∀ k, k < ls[si] → (Bm.symsFrom 0 ls)[K + k]? = some si := fun k hk => by
        have h1 := Bm.symsFrom_get ls 0 si k hlt hk
        rw [Nat.zero_add, ← hK] at h1
        exact h1
      rw [← hK] at hrow ⊢
      have Hsy := Lib.hid hsy
      have HK1 := Lib.hid hK1
      have c0 := (hbel.out.cell (p := ⟨g, off + si, none⟩) hgl).trans hcell
      clear hsy hK1 hK hcell
      generalize ls[si] = n at Hsy HK1 hKS c0
      have hn512 : n ≤ 512 := by omega
      go_wp2
      clear c0
      go_loopw [7, 26] (fun a k wr => ∃ ki : Nat, ki ≤ n ∧ a = .int .i64 (Bm.posL log (K + ki) : Int) ∧ k = .int .i64 (ki : Int) ∧ Hid (Row wr g0 5 (u8s (Bm.syms ls log (K + ki)))) ∧ Hid (Below w.heap.size w wr)) (fun _ k _ => n - (intOf k).toNat)
      case atStart => exact ⟨0, by omega, rfl, rfl, hrow, hbel⟩
      case round =>
        obtain ⟨ki, hki, rfl, rfl, hrow2, hbel2⟩ := hrel
        clear hrow hbel
        by_cases hkn : ki < n
        · have hpl : Bm.posL log (K + ki) < S := by rw [HS.out]; exact Bm.pos_lt log _
          have hnx := Bm.syms_next ls log (K + ki) si hlog5 hlog9 (by rw [← HS.out]; omega) (Hsy.out ki hkn)
          have hps := Bm.pos_succ log (K + ki)
          rw [← HS.out] at hps
          have hst : Bm.stepL log = S / 2 + S / 8 + 3 := by unfold Bm.stepL; rw [← HS.out]
          rw [hst, show K + ki + 1 = K + (ki + 1) by omega] at hps
          rw [show K + ki + 1 = K + (ki + 1) by omega] at hnx
          have hcs := u8s_set (Bm.syms ls log (K + ki)) (Bm.posL log (K + ki)) si
          rw [← hnx] at hcs
          have hsl : Bm.posL log (K + ki) < (Bm.syms ls log (K + ki)).length := by rw [Bm.syms_length, ← HS.out]; exact hpl
          have hget := u8s_get? (Bm.syms ls log (K + ki)) (Bm.posL log (K + ki)) hsl
          have c1 := (hrow2.out.cell (Bm.posL log (K + ki))).trans hget
          have f1 := hrow2.out.free (Bm.posL log (K + ki))
          have Hset := Lib.hid (hrow2.out.set_ (Bm.posL log (K + ki)) (.int .u8 (si : Int)))
          rw [hcs] at Hset
          generalize (Bm.syms ls log (K + ki))[Bm.posL log (K + ki)] = old at c1
          have Hps := Lib.hid hps
          clear hnx hps hst hcs hget hsl hrow2 HK1 Hsy
          generalize Bm.posL log (K + ki) = a at hpl c1 f1 Hset Hps ⊢
          go_wp2
          go_roundw
          case rel =>
            refine ⟨ki + 1, by omega, ?_, by go_num, Hset, Lib.hid (hbel2.out.setCell (by rw [Hg0.out]; exact Nat.le_refl _) _)⟩
            rw [Hps.out, Bm.step_int2]
          case measure => simp [intOf]; omega
        · obtain rfl : ki = n := by omega
          rw [← HK1.out] at hrow2 ⊢
          clear Hsy
          go_wp2
          go_roundw
          case rel => exact ⟨si + 1, by omega, rfl, by go_num, hrow2, hbel2⟩
          case measure => simp [intOf]; omega
    · obtain rfl : si = ls.length := by omega
      rw [List.take_length, Hsum.out, HS.out, Bm.syms_all] at hrow
      generalize Bm.posL log (ls.take ls.length).sum = alast
      go_wp2
      go_ret
      exact ⟨g0, rfl, by rw [Hg0.out]; exact Nat.le_refl _, hrow.out, hbel.out⟩

set_option maxHeartbeats 1000000 in
set_option maxRecDepth 100000 in
theorem tcellf_any (s x log : Nat) (w : World) (h0 : 0 < x) (hx : x < 2 ^ (log + 1)) (hlog : log ≤ 9) :
    Calls Try.prog 19 #[.int .u8 (s : Int), .int .i64 (x : Int), .int .i64 (log : Int)] w fun e w' => e = .returned (.agg #[.int .u8 (s : Int), .int .i64 (Bm.bitsX log x : Int), .int .i64 (Bm.baseX log x : Int)]) ∧ Below w.heap.size w w' := by
  have hx10 : 2 ^ (log + 1) ≤ 2 ^ 10 := Nat.pow_le_pow_right (n := 2) (by omega) (by omega)
  have hS9 : 2 ^ log ≤ 2 ^ 9 := Nat.pow_le_pow_right (n := 2) (by omega) (by omega)
  have hle := Bm.wid_le_of _ _ hx
  have hge := Bm.wid_one x h0
  have hlo := Bm.base_low log _ h0 hx
  have hhi := Bm.base_high log _ h0 hx
  have hBe : (log : Int) + 1 - (Bm.wid x : Int) = (Bm.bitsX log x : Int) := by unfold Bm.bitsX; omega
  have hB9 : Bm.bitsX log x ≤ 9 := by unfold Bm.bitsX; omega
  have hZe : Bm.baseX log x = x * 2 ^ Bm.bitsX log x - 2 ^ log := rfl
  have hxl : x < 4294967296 := by omega
  have Hwd := Lib.hid (fun W => width_wid x W hxl)
  have hMi : (x : Int) * 2 ^ Bm.bitsX log x = ((x * 2 ^ Bm.bitsX log x : Nat) : Int) := by simp
  have hSi : (2 : Int) ^ log = ((2 ^ log : Nat) : Int) := by simp
  have hM : x * 2 ^ Bm.bitsX log x ≤ 1024 := by
    rw [Nat.add_mul, Nat.one_mul] at hhi
    exact Nat.le_trans (Nat.le_trans (Nat.le_add_right _ _) hhi) hx10
  rw [hZe]
  generalize Bm.wid x = wX at *
  generalize Bm.bitsX log x = B at *
  generalize x * 2 ^ B = M at *
  generalize 2 ^ log = S at *
  have hw1 : IntKind.i64.wrap (M : Int) = (M : Int) := IntWalk.i64_in _ (by omega)
  have hw2 : IntKind.i64.wrap (S : Int) = (S : Int) := IntWalk.i64_in _ (by omega)
  obtain ⟨Z, hZ⟩ : ∃ Z, Z = M - S := ⟨_, rfl⟩
  have hZi : (M : Int) - (S : Int) = (Z : Int) := by omega
  rw [← hZ]
  clear hZ hhi hx hx10 hle hZe
  go_enter Try.func19, Try.ntmps19
  go_wp2_with fail
  refine (Hwd.out _).mono ?_
  rintro e w' ⟨rfl, rfl⟩
  go_wp2
  go_still_tail 9, (by kernel_rfl)
  change wpList _ _ _ _ _ (w.alloc (.cells #[.int .u8 0, .int .i64 0, .int .i64 0] 29)).drew
  go_wp2
  refine bodyPost_ret (v := .agg #[.int .u8 (s : Int), .int .i64 (B : Int), .int .i64 (Z : Int)]) (by simp [results, Try.results19, go_sem]) rfl ⟨rfl, ?_⟩
  exact ((Below.refl _ _).alloc (Nat.le_refl _) _).drew
end Go.Proofs.Ythaahijapkolkaa
