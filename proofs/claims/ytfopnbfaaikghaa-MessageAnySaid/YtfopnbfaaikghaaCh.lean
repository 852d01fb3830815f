/-
  Layer 3 (cursor), the Reader, each by its walk: Int, Text, Rest, Fixed. Conditions: as each theorem's premises say (up to a hundred million bytes).
-/
import Derived.Test.YtfopnbfaaikghaaCg
import Derived.Test.YtfopnbfaaikghaaCb
import Derived.Test.YtfopnbfaaikghaaSg
namespace Go.Proofs.Ytfopnbfaaikghaa
open Go.RowKit

set_option maxHeartbeats 1000000 in
set_option maxRecDepth 100000 in
theorem rint_any (b : Nat) (st : Left) (most : Int) (w : World) (hm0 : -9223372036854775808 ≤ most) (hm1 : most ≤ 9223372036854775807) (hok : OkL st) (h : CR w b st) :
    Calls Try.prog 41 #[.pointer (some ⟨b, 0, none⟩), .int .i64 most] w fun e w' => e = .returned (.int .i64 ((intS most st).1 : Int)) ∧ CR w' b (intS most st).2 ∧ w.grownBy w' (some b) := by
  have Hg := Lib.hid (rgroup_any b st w hok h)
  have hok2 := ok_group hok
  unfold intS
  obtain ⟨v, st', hgs⟩ : ∃ v st', groupS st = (v, st') := ⟨_, _, rfl⟩
  rw [hgs] at Hg hok2 ⊢
  have hv := hok2.2
  clear hok2 hgs h hok
  rcases st' with _ | l
  · rw [if_pos (.inl rfl)]
    go_enter Try.func41, Try.ntmps41
    go_wp2_with fail
    refine Hg.out.mono ?_
    rintro e w1 ⟨rfl, hcr, hgr⟩
    have Hb := Lib.hid (rbad_any b none w1 hcr)
    go_wp2_with fail
    refine Hb.out.mono ?_
    rintro e w' ⟨rfl, rfl⟩
    go_wp2
    go_ret
    exact ⟨rfl, hcr, hgr⟩
  · by_cases hneg : most < 0
    · rw [if_pos (.inr (.inl hneg))]
      go_enter Try.func41, Try.ntmps41
      go_wp2_with fail
      refine Hg.out.mono ?_
      rintro e w1 ⟨rfl, hcr, hgr⟩
      have Hb := Lib.hid (rbad_any b _ w1 hcr)
      have Hf := Lib.hid (rfail_any b _ w1 hcr)
      have Hgr := Lib.hid hgr
      clear hcr hgr
      go_wp2_with fail
      refine Hb.out.mono ?_
      rintro e w' ⟨rfl, rfl⟩
      go_wp2_with fail
      refine Hf.out.mono ?_
      rintro e w2 ⟨rfl, hcr, hgr⟩
      go_wp2
      go_ret
      exact ⟨rfl, hcr, grown_trans Hgr.out hgr⟩
    · obtain ⟨m, rfl⟩ := Int.eq_ofNat_of_zero_le (show 0 ≤ most by omega)
      by_cases hgt : m < v
      · rw [if_pos (.inr (.inr (by show ((m : Nat) : Int) < ((v : Nat) : Int); omega)))]
        clear hv
        go_enter Try.func41, Try.ntmps41
        go_wp2_with fail
        refine Hg.out.mono ?_
        rintro e w1 ⟨rfl, hcr, hgr⟩
        have Hb := Lib.hid (rbad_any b _ w1 hcr)
        have Hf := Lib.hid (rfail_any b _ w1 hcr)
        have Hgr := Lib.hid hgr
        clear hcr hgr
        go_wp2_with fail
        refine Hb.out.mono ?_
        rintro e w' ⟨rfl, rfl⟩
        go_wp2_with fail
        refine Hf.out.mono ?_
        rintro e w2 ⟨rfl, hcr, hgr⟩
        go_wp2
        go_ret
        exact ⟨rfl, hcr, grown_trans Hgr.out hgr⟩
      · rw [if_neg (by show ¬ (some l = none ∨ ((m : Nat) : Int) < 0 ∨ ((m : Nat) : Int) < ((v : Nat) : Int)); simp; omega)]
        have hvm : v ≤ m := by omega
        clear hv hgt
        go_enter Try.func41, Try.ntmps41
        go_wp2_with fail
        refine Hg.out.mono ?_
        rintro e w1 ⟨rfl, hcr, hgr⟩
        have Hb := Lib.hid (rbad_any b _ w1 hcr)
        have Hcr := Lib.hid hcr
        have Hgr := Lib.hid hgr
        clear hcr hgr
        go_wp2_with fail
        refine Hb.out.mono ?_
        rintro e w' ⟨rfl, rfl⟩
        go_wp2
        go_ret
        exact ⟨rfl, Hcr.out, Hgr.out⟩

set_option maxHeartbeats 400000 in
set_option maxRecDepth 100000 in
theorem rtext_any (b : Nat) (st : Left) (most : Int) (w : World) (hm0 : -9223372036854775808 ≤ most) (hm1 : most ≤ 9223372036854775807) (hok : OkL st) (h : CR w b st) :
    Calls Try.prog 30 #[.pointer (some ⟨b, 0, none⟩), .int .i64 most] w fun e w' => e = .returned (.string (strOf (textS most st).1)) ∧ CR w' b (textS most st).2 ∧ w.grownBy w' (some b) := by
  have Hi := Lib.hid (rint_any b st most w hm0 hm1 hok h)
  unfold textS
  obtain ⟨v, st', hgs⟩ : ∃ v st', intS most st = (v, st') := ⟨_, _, rfl⟩
  rw [hgs] at Hi ⊢
  have hr : ∀ w1, CR w1 b st' → _ := fun w1 h1 => rraw_any b st' (v : Int) w1 h1
  rw [Int.toNat_natCast] at hr
  have Hr := Lib.hid hr
  clear hgs h hok hr hm0 hm1
  go_enter Try.func30, Try.ntmps30
  go_wp2_with fail
  refine Hi.out.mono ?_
  rintro e w1 ⟨rfl, hcr, hgr⟩
  have Hgr := Lib.hid hgr
  have Hcr := Lib.hid (Hr.out w1 hcr)
  clear hcr hgr
  go_wp2_with fail
  refine Hcr.out.mono ?_
  rintro e w2 ⟨rfl, hcr, hgr⟩
  go_wp2
  go_ret
  exact ⟨rfl, hcr, grown_trans Hgr.out hgr⟩

theorem or_byte (l : List Nat) (k : Nat) (hk : k < l.length) (h8 : l.length ≤ 8) (hlt : ∀ x ∈ l, x < 256) :
    bits .or .u64 ((Bm.valB (l.take k) : Nat) : Int) (IntKind.u64.wrap ((l[k] : Int) * 2 ^ (8 * k))) = ((Bm.valB (l.take (k + 1)) : Nat) : Int) := by
  have hlen : (l.take k).length = k := by rw [List.length_take]; omega
  have hv := Bm.valB_lt (l.take k) (take_lt hlt k)
  rw [hlen, Bm.p256] at hv
  have hb := hlt l[k] (List.getElem_mem hk)
  have hp : (2 : Nat) ^ (8 * k) ≤ 2 ^ 56 := Nat.pow_le_pow_right (by omega) (by omega)
  have h64 : l[k] * 2 ^ (8 * k) < 2 ^ 64 := by
    have := Nat.mul_le_mul (show l[k] ≤ 255 by omega) hp
    omega
  rw [or_val _ _ _ (by omega), Nat.mod_eq_of_lt h64, Bm.or_sum _ _ _ hv, List.take_succ_eq_append_getElem hk, Bm.valB_snoc, hlen, Bm.p256]

set_option maxHeartbeats 1000000 in
set_option maxRecDepth 100000 in
theorem rfixed_any (b : Nat) (st : Left) (n : Int) (w : World) (hn0 : -9223372036854775808 ≤ n) (hn1 : n ≤ 9223372036854775807) (hok : OkL st) (h : CR w b st) :
    Calls Try.prog 28 #[.pointer (some ⟨b, 0, none⟩), .int .i64 n] w fun e w' => e = .returned (.int .u64 (Bm.valB (rawS (fx n) st).1 : Int)) ∧ CR w' b (rawS (fx n) st).2 ∧ w.grownBy w' (some b) := by
  have hfx := fx_le n
  have Hfx := Lib.hid (cfixed_any n w hn0 hn1)
  have hr := rraw_any b st (fx n : Int) w h
  rw [Int.toNat_natCast] at hr
  have hok2 := ok_raw (n := fx n) hok
  generalize fx n = m at *
  obtain ⟨l, st', hgs⟩ : ∃ l st', rawS m st = (l, st') := ⟨_, _, rfl⟩
  rw [hgs] at hr hok2 ⊢
  have hlt := hok2.2.1
  have hl8 : l.length ≤ 8 := Nat.le_trans hok2.2.2 hfx
  have Hr := Lib.hid hr
  have Hlt := Lib.hid hlt
  obtain ⟨res, hres⟩ : ∃ r, r = Bm.valB l := ⟨_, rfl⟩
  rw [← hres]
  have Hres := Lib.hid hres
  clear hr hok2 hok h hgs hlt hn0 hn1 hfx hres
  go_enter Try.func28, Try.ntmps28
  go_wp2_with fail
  refine Hfx.out.mono ?_
  rintro e w' ⟨rfl, rfl⟩
  go_wp2_with fail
  refine Hr.out.mono ?_
  rintro e w1 ⟨rfl, hcr, hgr⟩
  obtain ⟨w2, cap, hconv, hcells, hbel⟩ := conv_back w1 l Hlt.out
  have hbw := hcr.lt
  have Hcr := Lib.hid (hcr.below hbel)
  have Hgr := Lib.hid (grown_trans hgr (grown_below hbel (some b)))
  have Hcells := Lib.hid hcells
  have Hor := Lib.hid (fun k hk => or_byte l k hk hl8 Hlt.out)
  clear hcr hgr hcells hbel
  obtain ⟨g, hg⟩ : ∃ g, g = w1.heap.size := ⟨_, rfl⟩
  rw [← hg] at hconv Hcells
  clear hg
  generalize strOf l = s at hconv ⊢
  obtain ⟨N, hN⟩ : ∃ N, N = l.length := ⟨_, rfl⟩
  rw [← hN] at hconv hl8
  have HN := Lib.hid hN
  clear hN
  go_wp2
  go_loop [5, 14] (fun v i => ∃ k V : Nat, k ≤ N ∧ i = .int .i64 (k : Int) ∧ v = .int .u64 (V : Int) ∧ Hid (V = Bm.valB (l.take k))) (fun _ i => N - (intOf i).toNat)
  case atStart => exact ⟨0, 0, by omega, rfl, rfl, rfl⟩
  case round =>
    obtain ⟨k, V, hk, rfl, rfl, hV⟩ := hrel
    by_cases hlt : k < N
    · have hk1 : k < l.length := by rw [← HN.out]; exact hlt
      have hc := Hcells.out k hk1
      have hc8 := Hlt.out l[k] (List.getElem_mem hk1)
      have hor := Hor.out k hk1
      rw [← hV.out] at hor
      have Hor1 := Lib.hid hor
      clear hor
      generalize l[k] = c at hc hc8 Hor1
      clear hk1
      go_wp2
      rw [Hor1.out]
      go_round
      case rel => exact ⟨k + 1, _, by omega, by go_num, rfl, rfl⟩
      case measure => simp [intOf]; omega
    · obtain rfl : k = N := by omega
      have hVr : V = res := by rw [hV.out, HN.out, List.take_length, Hres.out]
      subst hVr
      go_wp2
      go_ret
      exact ⟨rfl, Hcr.out, Hgr.out⟩
end Go.Proofs.Ytfopnbfaaikghaa
