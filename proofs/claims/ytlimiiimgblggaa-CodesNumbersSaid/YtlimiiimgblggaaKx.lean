/-
  CodesNumbers (layer 13): the law's function by its walk: true for any number, code and bits. Premises: what the calls of layer 13 answer.
-/
import Derived.Test.YtlimiiimgblggaaKk
import Derived.Test.YtlimiiimgblggaaKr
namespace Go.Proofs.Ytlimiiimgblggaa
open Go.RowKit

theorem cast_shift (m k : Nat) : (m : Int) / 2 ^ k = ((m / 2 ^ k : Nat) : Int) := by simp

set_option maxHeartbeats 2000000 in
set_option maxRecDepth 100000 in
theorem knumbers_of (hC : KCode) (hV : KValue) (hE : KExtra) (hF : KFirst) (v : Int) (c m : Nat) (w : World) (hv : -9223372036854775808 ≤ v ∧ v ≤ 9223372036854775807) (hc : c < 256) (hm : m < 4294967296) :
    Calls Try.prog 3 #[.int .i64 v, .int .u8 (c : Int), .int .u32 (m : Int)] w fun e w' => e = .returned (.bool true) ∧ Below w.heap.size w w' := by
  have Haw := Lib.hid (kcawake_of hC hV hF w)
  have Hre := Lib.hid (fun W => krextra_any c W hc)
  have Hex := Lib.hid (fun W => hE W c hc)
  have Hva := Lib.hid (fun W => hV W c m hc hm)
  have Hrc := Lib.hid (fun W g h => krcode_any g W h)
  have Hspec := Lib.hid (Bm.value_spec c m)
  have Hnone := Lib.hid (Bm.value_none c m)
  have Hno := Lib.hid (Bm.value_no c m)
  have hk := Bm.extra_le c
  have hcw : wrap64 (c : Int) = (c : Int) := by unfold wrap64; omega
  have hmw : wrap64 (m : Int) = (m : Int) := by unfold wrap64; omega
  go_enter Try.func3, Try.ntmps3
  go_wp2_with fail
  refine Haw.out.mono ?_
  rintro e w1 ⟨rfl, hb1⟩
  have Hb1 := Lib.hid hb1
  clear hb1 Haw
  by_cases hin : 0 ≤ v ∧ v ≤ 65535
  · obtain ⟨n, rfl⟩ := Int.eq_ofNat_of_zero_le hin.1
    have hn : n ≤ 65535 := by omega
    obtain ⟨s1, s2, s3, s4⟩ := Bm.code_spec n hn
    have Hc := Lib.hid (hC.1 w1 n hn)
    have Hr := Lib.hid (fun W => krcode_any n W hn)
    generalize Bm.codeN n = cn at *
    generalize Bm.moreN n = mn at *
    generalize Bm.bitsK n = bn at *
    have Hv1 := Lib.hid (fun W => hV W cn mn (by omega) (by omega))
    rw [s4] at Hv1
    have hcu : IntKind.u32.wrap (mn : Int) = (mn : Int) := by simp [IntKind.wrap, IntKind.bits, IntKind.signed]; omega
    clear hC hV hE hF s4 hin
    have hcnw : wrap64 (cn : Int) = (cn : Int) := by unfold wrap64; omega
    have d1 : decide ((n : Int) ≤ 65535) = true := decide_eq_true (by omega)
    go_wp2_with fail
    refine Hc.out.mono ?_
    rintro e w2 ⟨rfl, hb2⟩
    have Hb2 := Lib.hid (Hb1.out.trans (hb2.mono Hb1.out.size))
    clear hb2 Hb1 Hc
    go_wp2_with fail
    refine (Hr.out w2).mono ?_
    rintro e w3 ⟨rfl, q3, rfl⟩
    have Hb3 := Lib.hid (below_drewN Hb2.out q3)
    clear Hb2 Hr
    go_wp2_with fail
    refine (Hv1.out _).mono ?_
    rintro e w4 ⟨rfl, hb4⟩
    have Hb4 := Lib.hid (Hb3.out.trans (hb4.mono Hb3.out.size))
    clear hb4 Hb3 Hv1
    clear hn s2 s3 hcu d1
    rcases hk with hk | ⟨k, hk, hk15⟩
    · have hvn := Hno.out (by omega)
      rw [hk] at Hre Hex
      rw [hvn] at Hva
      clear hk hvn Hno Hnone Hspec Hrc
      go_wp2_with fail
      refine (Hre.out _).mono ?_
      rintro e w5 ⟨rfl, rfl⟩
      go_wp2_with fail
      refine (Hex.out _).mono ?_
      rintro e w6 ⟨rfl, hb6⟩
      have Hb6 := Lib.hid (Hb4.out.trans (hb6.mono Hb4.out.size))
      clear hb6 Hb4
      go_wp2_with fail
      refine (Hva.out _).mono ?_
      rintro e w7 ⟨rfl, hb7⟩
      have Hb7 := Lib.hid (Hb6.out.trans (hb7.mono Hb6.out.size))
      clear hb7 Hb6
      go_wp2
      go_ret
      exact ⟨rfl, Hb7.out⟩
    · rw [hk, Int.max_eq_left (by omega), decide_eq_true (by omega)] at Hex
      rw [hk] at Hre
      have hiff := Hnone.out k hk
      rcases hval : Bm.valueK c m with _ | g
      · have hne := hiff.1 hval
        have hsh : ((m : Int) / 2 ^ k != 0) = true := by rw [cast_shift, bne_iff_ne]; omega
        rw [hval] at Hva
        clear hk hiff hval Hno Hnone Hspec Hrc hne
        go_wp2_with fail
        refine (Hre.out _).mono ?_
        rintro e w5 ⟨rfl, rfl⟩
        go_wp2_with fail
        refine (Hex.out _).mono ?_
        rintro e w6 ⟨rfl, hb6⟩
        have Hb6 := Lib.hid (Hb4.out.trans (hb6.mono Hb4.out.size))
        clear hb6 Hb4
        go_wp2_with fail
        refine (Hva.out _).mono ?_
        rintro e w7 ⟨rfl, hb7⟩
        have Hb7 := Lib.hid (Hb6.out.trans (hb7.mono Hb6.out.size))
        clear hb7 Hb6
        go_wp2
        go_ret
        exact ⟨rfl, Hb7.out⟩
      · have hsh : ((m : Int) / 2 ^ k != 0) = false := by
          have h0 : ¬ m / 2 ^ k ≠ 0 := fun h => by rw [hiff.2 h] at hval; cases hval
          rw [cast_shift, bne_eq_false_iff_eq]; omega
        obtain ⟨_, hg, e1, e2⟩ := Hspec.out g hval
        have Hr2 := Lib.hid (fun W => Hrc.out W g hg)
        rw [e1, e2] at Hr2
        rw [hval] at Hva
        generalize Bm.bitsK g = bg at *
        clear hk hiff hval Hno Hnone Hspec Hrc e1 e2
        go_wp2_with fail
        refine (Hre.out _).mono ?_
        rintro e w5 ⟨rfl, rfl⟩
        go_wp2_with fail
        refine (Hex.out _).mono ?_
        rintro e w6 ⟨rfl, hb6⟩
        have Hb6 := Lib.hid (Hb4.out.trans (hb6.mono Hb4.out.size))
        clear hb6 Hb4
        go_wp2_with fail
        refine (Hva.out _).mono ?_
        rintro e w7 ⟨rfl, hb7⟩
        have Hb7 := Lib.hid (Hb6.out.trans (hb7.mono Hb6.out.size))
        clear hb7 Hb6
        go_wp2_with fail
        refine (Hr2.out _).mono ?_
        rintro e w8 ⟨rfl, q8, rfl⟩
        have Hb8 := Lib.hid (below_drewN Hb7.out q8)
        clear Hb7
        go_wp2
        go_ret
        exact ⟨rfl, Hb8.out⟩
  · have Hc := Lib.hid (hC.2 w1 v hv (by omega))
    have hcase : (decide (0 ≤ v) = false) ∨ (decide (0 ≤ v) = true ∧ decide (v ≤ 65535) = false) := by
      by_cases h0 : 0 ≤ v
      · exact .inr ⟨decide_eq_true h0, decide_eq_false (by omega)⟩
      · exact .inl (decide_eq_false h0)
    clear hC hV hE hF hin
    rcases hcase with d1 | ⟨d1, d2⟩
    all_goals
      go_wp2_with fail
      refine Hc.out.mono ?_
      rintro e w4 ⟨rfl, hb4⟩
      have Hb4 := Lib.hid (Hb1.out.trans (hb4.mono Hb1.out.size))
      clear hb4 Hb1 Hc
      rcases hk with hk | ⟨k, hk, hk15⟩
      · have hvn := Hno.out (by omega)
        rw [hk] at Hre Hex
        rw [hvn] at Hva
        clear hk hvn Hno Hnone Hspec Hrc
        go_wp2_with fail
        refine (Hre.out _).mono ?_
        rintro e w5 ⟨rfl, rfl⟩
        go_wp2_with fail
        refine (Hex.out _).mono ?_
        rintro e w6 ⟨rfl, hb6⟩
        have Hb6 := Lib.hid (Hb4.out.trans (hb6.mono Hb4.out.size))
        clear hb6 Hb4
        go_wp2_with fail
        refine (Hva.out _).mono ?_
        rintro e w7 ⟨rfl, hb7⟩
        have Hb7 := Lib.hid (Hb6.out.trans (hb7.mono Hb6.out.size))
        clear hb7 Hb6
        go_wp2
        go_ret
        exact ⟨rfl, Hb7.out⟩
      · rw [hk, Int.max_eq_left (by omega), decide_eq_true (by omega)] at Hex
        rw [hk] at Hre
        have hiff := Hnone.out k hk
        rcases hval : Bm.valueK c m with _ | g
        · have hne := hiff.1 hval
          have hsh : ((m : Int) / 2 ^ k != 0) = true := by rw [cast_shift, bne_iff_ne]; omega
          rw [hval] at Hva
          clear hk hiff hval Hno Hnone Hspec Hrc hne
          go_wp2_with fail
          refine (Hre.out _).mono ?_
          rintro e w5 ⟨rfl, rfl⟩
          go_wp2_with fail
          refine (Hex.out _).mono ?_
          rintro e w6 ⟨rfl, hb6⟩
          have Hb6 := Lib.hid (Hb4.out.trans (hb6.mono Hb4.out.size))
          clear hb6 Hb4
          go_wp2_with fail
          refine (Hva.out _).mono ?_
          rintro e w7 ⟨rfl, hb7⟩
          have Hb7 := Lib.hid (Hb6.out.trans (hb7.mono Hb6.out.size))
          clear hb7 Hb6
          go_wp2
          go_ret
          exact ⟨rfl, Hb7.out⟩
        · have hsh : ((m : Int) / 2 ^ k != 0) = false := by
            have h0 : ¬ m / 2 ^ k ≠ 0 := fun h => by rw [hiff.2 h] at hval; cases hval
            rw [cast_shift, bne_eq_false_iff_eq]; omega
          obtain ⟨_, hg, e1, e2⟩ := Hspec.out g hval
          have Hr2 := Lib.hid (fun W => Hrc.out W g hg)
          rw [e1, e2] at Hr2
          rw [hval] at Hva
          generalize Bm.bitsK g = bg at *
          clear hk hiff hval Hno Hnone Hspec Hrc e1 e2
          go_wp2_with fail
          refine (Hre.out _).mono ?_
          rintro e w5 ⟨rfl, rfl⟩
          go_wp2_with fail
          refine (Hex.out _).mono ?_
          rintro e w6 ⟨rfl, hb6⟩
          have Hb6 := Lib.hid (Hb4.out.trans (hb6.mono Hb4.out.size))
          clear hb6 Hb4
          go_wp2_with fail
          refine (Hva.out _).mono ?_
          rintro e w7 ⟨rfl, hb7⟩
          have Hb7 := Lib.hid (Hb6.out.trans (hb7.mono Hb6.out.size))
          clear hb7 Hb6
          go_wp2_with fail
          refine (Hr2.out _).mono ?_
          rintro e w8 ⟨rfl, q8, rfl⟩
          have Hb8 := Lib.hid (below_drewN Hb7.out q8)
          clear Hb7
          go_wp2
          go_ret
          exact ⟨rfl, Hb8.out⟩
end Go.Proofs.Ytlimiiimgblggaa
