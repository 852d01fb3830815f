/-
  Layer 6 (spread): the reference's Build, by its walk. Conditions: as each theorem's premises say.
-/
import Derived.Test.YthaahijapkolkaaTn
import Derived.Test.YthaahijapkolkaaRw
import Derived.Lib.MinMax
namespace Go.Proofs.Ythaahijapkolkaa
open Go.RowKit

theorem c3_two (l : List Cel) (i s B Z : Nat) (h : i < l.length) (hl : l[i] = (s, 0, 0)) : ((c3 l).set (i * 3 + 1) (.int .i64 (B : Int))).set (i * 3 + 2) (.int .i64 (Z : Int)) = c3 (l.set i (s, B, Z)) := by
  have h1 := (c3_set l i h 0 B 0).2.1
  rw [hl] at h1
  rw [h1]
  have hl2 : i < (l.set i (s, B, 0)).length := by simpa using h
  have h2 := (c3_set (l.set i (s, B, 0)) i hl2 0 0 Z).2.2
  rw [List.getElem_set_self, List.set_set] at h2
  exact h2
theorem step_int (a S : Nat) : ((a : Int) + (S : Int) / 2 + (S : Int) / 8 + 3) % (S : Int) = (((a + (S / 2 + S / 8 + 3)) % S : Nat) : Int) := by
  rw [Int.natCast_emod]
  congr 1
  omega
set_option maxHeartbeats 2000000 in
set_option maxRecDepth 100000 in
theorem jbuild_any (A : Option Addr) (c : Nat) (ls : List Nat) (log : Nat) (w : World) (hf : Bm.FairN ls log) (hr : Reads w A (i64s ls)) :
    Calls Try.prog 12 #[.slice A ls.length c, .int .i64 (log : Int)] w fun e w' => ∃ g, e = .returned (.slice (some ⟨g, 0, none⟩) (2 ^ log) (2 ^ log)) ∧ w.heap.size ≤ g ∧ Row w' g 29 (c3 (Bm.cellsM ls log)) ∧ Below w.heap.size w w' := by
  obtain ⟨i0, hi, hz0, hz1, hz2⟩ := info_parts info_cell
  have Hf := Lib.hid hf
  have hlog5 := hf.low
  have hlog9 := hf.high
  have hlen := hf.len
  obtain ⟨S, hS⟩ : ∃ S, S = 2 ^ log := ⟨_, rfl⟩
  have hS32 : 32 ≤ S := by rw [hS]; exact Nat.pow_le_pow_right (n := 2) (by omega) hlog5
  have hS512 : S ≤ 512 := by rw [hS]; exact Nat.pow_le_pow_right (n := 2) (by omega) hlog9
  have hsum : ls.sum = S := by rw [hS]; exact hf.sum
  have hls : ∀ s (h : s < ls.length), ∃ g off, A = some ⟨g, off, none⟩ ∧ w.cell? ⟨g, off + s, none⟩ = some (.int .i64 (ls[s] : Int)) ∧ g < w.heap.size := fun s h => by
    obtain ⟨g, off, e, hc⟩ := hr (by intro e; have := congrArg List.length e; rw [i64s_length, List.length_nil] at this; omega)
    have h1 := hc s (by rw [i64s_length]; exact h)
    rw [i64s_get? ls s h] at h1
    exact ⟨g, off, e, h1, World.block_lt_of_cell? w _ h1⟩
  have hsz := Lib.hid (fun W => hsize_any (log : Int) W (by omega))
  rw [Int.toNat_natCast, ← hS] at hsz
  have Hls := Lib.hid hls
  have HS := Lib.hid hS
  have Hsum := Lib.hid hsum
  clear hf hr hls hS hsum
  obtain ⟨g0, hg0⟩ : ∃ g, g = w.heap.size := ⟨_, rfl⟩
  have Hg0 := Lib.hid hg0
  clear hg0
  rw [← HS.out]
  go_enter Try.func12, Try.ntmps12
  go_wp2_with fail
  refine (hsz.out w).mono ?_
  rintro e w' ⟨rfl, rfl⟩
  go_wp2_with (at_make; refine wpList_make_full _ rfl _ _ 33 rfl w.heap.size 29 i0 (.agg #[.int .u8 0, .int .i64 0, .int .i64 0]) 3 Try.underlying33 hi hz0 hz1 .i64 .i64 _ _ S rfl rfl ?c1 ?c1 ?c2 ?c3 ?c4 ?_)
  case c1 => rfl
  case c2 => first | omega | (rw [hz2]; omega)
  case c3 => unfold maxLen; omega
  try case c4 => exact Nat.le_refl _
  intro w1 hown1 hg1
  have hb1 := below_of_grown hg1
  have hr0 := row_of_own3 hown1
  rw [← Hg0.out] at hr0 ⊢
  have hr1 : Row w1 g0 29 (c3 (Bm.ph1 ls log 0)) := by rw [Bm.ph1_zero, ← HS.out]; exact hr0
  have Hb1 := Lib.hid hb1
  have Hr1 := Lib.hid hr1
  clear hown1 hg1 hr0 hb1 hr1 hi hz0 hz1 hz2
  go_wp2
  go_loopw [7, 8, 9] (fun a s _ wr => ∃ si : Nat, si ≤ ls.length ∧ a = .int .i64 (Bm.posL log (ls.take si).sum : Int) ∧ s = .int .i64 (si : Int) ∧ Hid (Row wr g0 29 (c3 (Bm.ph1 ls log (ls.take si).sum))) ∧ Hid (Below w.heap.size w wr)) (fun _ s _ _ => ls.length - (intOf s).toNat)
  case atStart => exact ⟨0, by omega, by simp [Bm.posL], rfl, Lib.hid (by rw [List.take_zero, List.sum_nil]; exact Hr1.out), Hb1⟩
  case round =>
    obtain ⟨si, hsi, rfl, rfl, hrow, hbel⟩ := hrel
    clear Hr1 Hb1
    by_cases hlt : si < ls.length
    · obtain ⟨g, off, rfl, hcell, hgl⟩ := Hls.out si hlt
      obtain ⟨K, hK⟩ : ∃ K, K = (ls.take si).sum := ⟨_, rfl⟩
      have hK1 : (ls.take (si + 1)).sum = K + ls[si] := by rw [List.take_succ_eq_append_getElem hlt, List.sum_append_nat, hK]; simp
      have hKS : K + ls[si] ≤ S := by
        rw [← hK1, ← Hsum.out, ← List.take_append_drop (si + 1) ls, List.sum_append_nat]
        simp
      have hsy : ∀ k, k < ls[si] → (Bm.symsFrom 0 ls)[K + k]? = some si := fun k hk => by
        have h1 := Bm.symsFrom_get ls 0 si k hlt hk
        rw [Nat.zero_add, ← hK] at h1
        exact h1
      rw [← hK] at hrow ⊢
      have Hsy := Lib.hid hsy
      have HK1 := Lib.hid hK1
      have Hcell := Lib.hid hcell
      clear hsy hK1 hK hcell
      generalize ls[si] = n at Hsy HK1 hKS Hcell
      have hn512 : n ≤ 512 := by omega
      go_wp2
      go_loopw [7, 9] (fun a k wr => ∃ ki : Nat, ki ≤ n ∧ a = .int .i64 (Bm.posL log (K + ki) : Int) ∧ k = .int .i64 (ki : Int) ∧ Hid (Row wr g0 29 (c3 (Bm.ph1 ls log (K + ki)))) ∧ Hid (Below w.heap.size w wr)) (fun _ k _ => n - (intOf k).toNat)
      case atStart => exact ⟨0, by omega, rfl, rfl, hrow, hbel⟩
      case round =>
        obtain ⟨ki, hki, rfl, rfl, hrow2, hbel2⟩ := hrel
        clear hrow hbel
        have c0 := (hbel2.out.cell (p := ⟨g, off + si, none⟩) hgl).trans Hcell.out
        by_cases hkn : ki < n
        · have hpl : Bm.posL log (K + ki) < S := by rw [HS.out]; exact Bm.pos_lt log _
          obtain ⟨hpn, hnx⟩ := Bm.ph1_next ls log (K + ki) si hlog5 hlog9 (by rw [← HS.out]; omega) (Hsy.out ki hkn)
          have hps := Bm.pos_succ log (K + ki)
          rw [← HS.out] at hps
          have hst : Bm.stepL log = S / 2 + S / 8 + 3 := by unfold Bm.stepL; rw [← HS.out]
          rw [hst, show K + ki + 1 = K + (ki + 1) by omega] at hps
          rw [show K + ki + 1 = K + (ki + 1) by omega] at hnx
          have hcs := (c3_set (Bm.ph1 ls log (K + ki)) (Bm.posL log (K + ki)) hpn si 0 0).1
          rw [← hnx] at hcs
          have hget := (c3_get (Bm.ph1 ls log (K + ki)) (Bm.posL log (K + ki)) hpn).1
          have c1 := (hrow2.out.cell (Bm.posL log (K + ki) * 3)).trans hget
          have f1 := hrow2.out.free (Bm.posL log (K + ki) * 3)
          have Hset := Lib.hid (hrow2.out.set_ (Bm.posL log (K + ki) * 3) (.int .u8 (si : Int)))
          rw [hcs] at Hset
          generalize (Bm.ph1 ls log (K + ki))[Bm.posL log (K + ki)].1 = old at c1
          have Hps := Lib.hid hps
          clear hnx hps hst hcs hget hpn hrow2 HK1 Hsy
          generalize Bm.posL log (K + ki) = a at hpl c1 f1 Hset Hps ⊢
          go_wp2
          go_roundw
          case rel =>
            refine ⟨ki + 1, by omega, ?_, by go_num, Hset, Lib.hid (hbel2.out.setCell (by rw [Hg0.out]; exact Nat.le_refl _) _)⟩
            rw [Hps.out, step_int]
          case measure => simp [intOf]; omega
        · obtain rfl : ki = n := by omega
          rw [← HK1.out] at hrow2 ⊢
          clear Hsy
          go_wp2
          go_roundw
          case rel => exact ⟨si + 1, by omega, rfl, by go_num, hrow2, hbel2⟩
          case measure => simp [intOf]; omega
    · obtain rfl : si = ls.length := by omega
      rw [List.take_length, Hsum.out, HS.out, Bm.ph1_all] at hrow
      have Hph := hrow
      clear hrow
      generalize Bm.posL log (ls.take ls.length).sum = alast
      go_wp2
      go_loopw [10, 11, 12] (fun s _ _ wr => ∃ si : Nat, si ≤ ls.length ∧ s = .int .i64 (si : Int) ∧ Hid (Row wr g0 29 (c3 (Bm.ph2 ls log si 0))) ∧ Hid (Below w.heap.size w wr)) (fun s _ _ _ => ls.length - (intOf s).toNat)
      case atStart => exact ⟨0, by omega, rfl, Hph, hbel⟩
      case round =>
        obtain ⟨si, hsi, rfl, hrow, hbel⟩ := hrel
        clear Hph
        by_cases hlt : si < ls.length
        · obtain ⟨g, off, rfl, hcell, hgl⟩ := Hls.out si hlt
          have hng : ls[si]?.getD 0 = ls[si] := by simp [hlt]
          have hnS : ls[si] ≤ 512 := by
            have h1 : (ls.take (si + 1)).sum = (ls.take si).sum + ls[si] := by rw [List.take_succ_eq_append_getElem hlt, List.sum_append_nat]; simp
            have h2 : (ls.take (si + 1)).sum + (ls.drop (si + 1)).sum = S := by rw [← List.sum_append_nat, List.take_append_drop]; exact Hsum.out
            omega
          have Hng := Lib.hid hng
          have Hcell := Lib.hid hcell
          have c0 := (hbel.out.cell (p := ⟨g, off + si, none⟩) hgl).trans hcell
          clear hcell hng
          generalize ls[si] = n at Hng hnS Hcell c0
          go_wp2
          clear c0
          go_loopw [11, 12] (fun x i wr => ∃ ii : Nat, ii ≤ S ∧ i = .int .i64 (ii : Int) ∧ x = .int .i64 ((n + ((Bm.tab ls log).take ii).count si : Nat) : Int) ∧ Hid (Row wr g0 29 (c3 (Bm.ph2 ls log si ii))) ∧ Hid (Below w.heap.size w wr)) (fun _ i _ => S - (intOf i).toNat)
          case atStart => exact ⟨0, by omega, rfl, by simp, hrow, hbel⟩
          case round =>
            obtain ⟨ii, hii, rfl, rfl, hrow2, hbel2⟩ := hrel
            clear hrow hbel
            have c0 := (hbel2.out.cell (p := ⟨g, off + si, none⟩) hgl).trans Hcell.out
            have hxc := Bm.count_take_all (Bm.tab ls log) ii si
            have htc := Bm.tab_count ls log si Hf.out
            rw [Hng.out] at htc
            rw [htc] at hxc
            by_cases hiS : ii < S
            · by_cases hn0 : 0 < n
              · have hiS2 : ii < 2 ^ log := by rw [← HS.out]; exact hiS
                have hil : ii < (Bm.ph2 ls log si ii).length := by rw [Bm.ph2_length]; exact hiS2
                have hget := (c3_get (Bm.ph2 ls log si ii) ii hil).1
                rw [Bm.ph2_sym] at hget
                have c1 := (hrow2.out.cell (ii * 3)).trans hget
                have hl : ii < (Bm.tab ls log).length := by rw [Bm.tab_length]; exact hiS2
                have hts := Bm.count_take_succ (Bm.tab ls log) ii si hl
                rw [Bm.tab_getElem ls log ii hiS2 hl] at hts
                by_cases hsm : Bm.symAt ls log ii = si
                · have hat := Bm.ph2_at ls log si ii hsm hil
                  have hsome := Bm.ph2_some ls log ii
                  obtain ⟨n', e1, e2, e3, e4, e5, e6⟩ := Bm.num_ok ls log ii Hf.out hiS2
                  have hnum : Bm.numAt ls log ii = n + ((Bm.tab ls log).take ii).count si := by
                    unfold Bm.numAt Bm.rankAt
                    rw [hsm, Hng.out]
                  have hle := Bm.wid_le_of _ _ e6
                  have hge := Bm.wid_one (Bm.numAt ls log ii) (by omega)
                  have hlo := Bm.base_low log _ (by omega) e6
                  have hhi := Bm.base_high log _ (by omega) e6
                  have hpp : 2 ^ (log + 1) = 2 ^ log * 2 := Nat.pow_succ 2 log
                  rw [hpp, ← HS.out] at e6 hhi
                  rw [← HS.out] at hlo
                  have hB9 : Bm.bitsX log (Bm.numAt ls log ii) ≤ 9 := by unfold Bm.bitsX; omega
                  have hBe : (log : Int) - (Bm.wid (Bm.numAt ls log ii) : Int) + 1 = (Bm.bitsX log (Bm.numAt ls log ii) : Int) := by unfold Bm.bitsX; omega
                  have hZe : Bm.baseAt ls log ii = Bm.numAt ls log ii * 2 ^ Bm.bitsX log (Bm.numAt ls log ii) - S := by unfold Bm.baseAt Bm.baseX; rw [HS.out]
                  have hBa : Bm.bitsAt ls log ii = Bm.bitsX log (Bm.numAt ls log ii) := rfl
                  have hsz2 := Lib.hid (fun W => hsize_any (Bm.bitsX log (Bm.numAt ls log ii) : Int) W (by omega))
                  rw [Int.toNat_natCast] at hsz2
                  have hwd := Lib.hid (fun W => rwidth_wid (Bm.numAt ls log ii) W (by omega))
                  have hXP : Bm.numAt ls log ii * 2 ^ Bm.bitsX log (Bm.numAt ls log ii) ≤ S * 2 := by
                    rw [Nat.add_mul, Nat.one_mul] at hhi
                    exact Nat.le_trans (Nat.le_add_right _ _) hhi
                  rw [hBa, hZe] at hsome
                  rw [hsm] at hsome
                  have htwo := c3_two (Bm.ph2 ls log si ii) ii si (Bm.bitsX log (Bm.numAt ls log ii)) (Bm.numAt ls log ii * 2 ^ Bm.bitsX log (Bm.numAt ls log ii) - S) hil hat
                  rw [← hsome] at htwo
                  have hset := (hrow2.out.set_ (ii * 3 + 1) (.int .i64 (Bm.bitsX log (Bm.numAt ls log ii) : Int))).set_ (ii * 3 + 2) (.int .i64 ((Bm.numAt ls log ii * 2 ^ Bm.bitsX log (Bm.numAt ls log ii) - S : Nat) : Int))
                  rw [htwo] at hset
                  have Hset := Lib.hid hset
                  obtain ⟨g0', g1, g2⟩ := c3_get (Bm.ph2 ls log si ii) ii hil
                  rw [hat] at g1 g2
                  have c2 := (hrow2.out.cell (ii * 3 + 1)).trans g1
                  have c2b := (hrow2.out.cell (ii * 3 + 2)).trans g2
                  dsimp only at c2 c2b
                  have f2 := hrow2.out.free (ii * 3 + 1)
                  have f3 := hrow2.out.free (ii * 3 + 2)
                  rw [if_pos hsm] at hts
                  rw [hsm] at c1
                  have Hts := Lib.hid hts
                  have hne : ((si : Int) != (si : Int)) = false := by simp
                  have Hnum := Lib.hid hnum
                  clear hset htwo hat hsome hZe hBa hhi hpp e1 e2 e3 e4 e5 hts hnum hsm hget hil hl hiS2 htc g0' g1 g2 hxc hrow2
                  rw [← Hnum.out]
                  generalize Bm.numAt ls log ii = X at e6 hle hge hlo hB9 hBe hsz2 hwd hXP Hset Hnum ⊢
                  generalize Bm.wid X = wX at hle hge hBe hwd
                  generalize Bm.bitsX log X = B at hlo hB9 hBe hsz2 hXP Hset
                  generalize 2 ^ B = P at hlo hsz2 hXP Hset
                  obtain ⟨M, hM⟩ : ∃ M, M = X * P := ⟨_, rfl⟩
                  have hMi : (X : Int) * (P : Int) = (M : Int) := by rw [hM, Int.natCast_mul]
                  rw [← hM] at hlo hXP Hset
                  obtain ⟨Z, hZ⟩ : ∃ Z, Z = M - S := ⟨_, rfl⟩
                  have hZi : (M : Int) - (S : Int) = (Z : Int) := by omega
                  rw [← hZ] at Hset
                  clear hM hZ
                  go_wp2_with fail
                  refine (hwd.out wr).mono ?_
                  rintro e w' ⟨rfl, rfl⟩
                  go_wp2_with fail
                  refine (hsz2.out _).mono ?_
                  rintro e w' ⟨rfl, rfl⟩
                  go_wp2
                  go_roundw
                  case rel =>
                    refine ⟨ii + 1, by omega, by go_num, ?_, Hset, Lib.hid ((hbel2.out.setCell (by rw [Hg0.out]; exact Nat.le_refl _) _).setCell (by rw [Hg0.out]; exact Nat.le_refl _) _)⟩
                    rw [Hts.out, ← Nat.add_assoc, ← Hnum.out]
                    go_num
                  case measure => simp [intOf]; omega
                · have hnone := Bm.ph2_none ls log si ii hsm
                  rw [if_neg hsm] at hts
                  have hts := hts.trans (Nat.add_zero _)
                  have hne : ((Bm.symAt ls log ii : Int) != (si : Int)) = true := by simp; omega
                  have Hts := Lib.hid hts
                  have Hnone := Lib.hid hnone
                  have hsb : Bm.symAt ls log ii < 256 := by
                    obtain ⟨h1, _⟩ := Bm.tab_sym ls log ii Hf.out hiS2
                    omega
                  clear hts hnone hsm hget hil hl hiS2 htc
                  generalize ((Bm.tab ls log).take ii).count si = q at hxc Hts ⊢
                  generalize Bm.symAt ls log ii = sy at c1 hne hsb
                  go_wp2
                  go_roundw
                  case rel => exact ⟨ii + 1, by omega, by go_num, by rw [Hts.out], by rw [Hnone.out]; exact hrow2, hbel2⟩
                  case measure => simp [intOf]; omega
              · obtain rfl : n = 0 := by omega
                have h00 : ii = 0 ∨ Hid (Row wr g0 29 (c3 (Bm.ph2 ls log (si + 1) 0))) := by
                  right
                  have hk : ∀ k, k ≤ 2 ^ log → Bm.ph2 ls log si k = Bm.ph2 ls log si 0 := fun k => by
                    induction k with
                    | zero => intro _; rfl
                    | succ k ih =>
                      intro hk1
                      rw [Bm.ph2_none ls log si k (fun e => ?_), ih (by omega)]
                      obtain ⟨h1, h2⟩ := Bm.tab_sym ls log k Hf.out (by omega)
                      have h3 := Hng.out
                      rw [← e, List.getElem?_eq_getElem h1, Option.getD_some] at h3
                      omega
                  rw [hk ii (by rw [← HS.out]; exact hii), Bm.ph2_skip ls log si Hf.out Hng.out] at hrow2
                  exact hrow2
                have hrw : Hid (Row wr g0 29 (c3 (Bm.ph2 ls log (si + 1) 0))) := by
                  rcases h00 with h | h
                  · subst h
                    rw [Bm.ph2_skip ls log si Hf.out Hng.out] at hrow2
                    exact hrow2
                  · exact h
                clear h00 hrow2 htc hxc
                generalize 0 + ((Bm.tab ls log).take ii).count si = q
                go_wp2
                go_roundw
                case rel => exact ⟨si + 1, by omega, by go_num, hrw, hbel2⟩
                case measure => simp [intOf]; omega
            · obtain rfl : ii = S := by omega
              rw [HS.out, Bm.ph2_over] at hrow2
              clear htc hxc
              generalize n + ((Bm.tab ls log).take ii).count si = q
              go_wp2
              go_roundw
              case rel => exact ⟨si + 1, by omega, by go_num, hrow2, hbel2⟩
              case measure => simp [intOf]; omega
        · obtain rfl : si = ls.length := by omega
          rw [Bm.ph2_all ls log Hf.out] at hrow
          go_wp2
          go_ret
          exact ⟨g0, rfl, by rw [Hg0.out]; exact Nat.le_refl _, hrow.out, hbel.out⟩
end Go.Proofs.Ythaahijapkolkaa
