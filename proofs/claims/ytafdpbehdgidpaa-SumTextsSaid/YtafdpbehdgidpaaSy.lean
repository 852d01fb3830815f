/-
  SumTexts (layer 4): the law's function by its walk: true for any text and cut. No condition.
-/
import Derived.Test.YtafdpbehdgidpaaSk
import Derived.Deep.DeepCutAuto
import Derived.Deep.RegionHeld3
namespace Go.Proofs.Ytafdpbehdgidpaa
open Go.RowKit

set_option maxHeartbeats 400000 in
theorem stexts_long (s : ByteArray) (c : Nat) (w : World) (h : 300 < s.size) (hm : s.size ≤ 9223372036854775807) : Calls Try.prog 3 #[.string s, .int .u16 (c : Int)] w fun e w' => e = .returned (.bool true) ∧ Below w.heap.size w w' := by
  obtain ⟨n, hn⟩ : ∃ n, s.size = n := ⟨_, rfl⟩
  rw [hn] at h hm
  go_enter Try.func3, Try.ntmps3
  go_wp2_with fail
  refine (sawake_any w).mono ?_
  rintro e w1 ⟨rfl, hb1⟩
  have Hb1 := Lib.hid hb1
  clear hb1
  go_wp2
  go_ret
  exact ⟨rfl, Hb1.out⟩

set_option maxHeartbeats 1000000 in
theorem stexts_walk (L c k S Sk y yk : Nat) (s a b : ByteArray) (w : World) (hsz : s.size = L) (hL : L ≤ 300) (hc : c < 65536) (hk : k = c % (L + 1))
    (hto : ∀ W, (Instr.slice 9 (.string s) none (some (.int .i64 (k : Int))) none).run Try.prog W = .ok (.string a) W)
    (hfrom : ∀ W, (Instr.slice 9 (.string s) (some (.int .i64 (k : Int))) none none).run Try.prog W = .ok (.string b) W)
    (Ha : Hid (∀ w, Calls Try.prog 8 #[.agg #[.int .u64 7640891576956012808, .int .u64 0], .string a] w fun e w' => e = .returned (.agg #[.int .u64 (yk : Int), .int .u64 (k : Int)]) ∧ Below w.heap.size w w'))
    (Hb : Hid (∀ w, Calls Try.prog 8 #[.agg #[.int .u64 (yk : Int), .int .u64 (k : Int)], .string b] w fun e w' => e = .returned (.agg #[.int .u64 (y : Int), .int .u64 (L : Int)]) ∧ Below w.heap.size w w'))
    (Hs : Hid (∀ w, Calls Try.prog 11 #[.agg #[.int .u64 (y : Int), .int .u64 (L : Int)]] w fun e w' => e = .returned (.int .u64 (S : Int)) ∧ Below w.heap.size w w'))
    (Hsk : Hid (∀ w, Calls Try.prog 11 #[.agg #[.int .u64 (yk : Int), .int .u64 (k : Int)]] w fun e w' => e = .returned (.int .u64 (Sk : Int)) ∧ Below w.heap.size w w'))
    (Ho : Hid (∀ w, Calls Try.prog 9 #[.string s] w fun e w' => e = .returned (.int .u64 (S : Int)) ∧ Below w.heap.size w w'))
    (Hg : Hid (∀ w, Calls Try.prog 10 #[.string s] w fun e w' => e = .returned (.int .u64 (S : Int)) ∧ w = w'))
    (Hgk : Hid (∀ w, Calls Try.prog 10 #[.string a] w fun e w' => e = .returned (.int .u64 (Sk : Int)) ∧ w = w')) :
    Calls Try.prog 3 #[.string s, .int .u16 (c : Int)] w fun e w' => e = .returned (.bool true) ∧ Below w.heap.size w w' := by
  have hki : (c : Int) % ((L : Int) + 1) = (k : Int) := by rw [hk]; simp
  have Hki := Lib.hid hki
  have hkl : k ≤ L := by rw [hk]; have := Nat.mod_lt c (show 0 < L + 1 by omega); omega
  have Hto := Lib.hid hto
  have Hfrom := Lib.hid hfrom
  clear hki hk hto hfrom
  go_enter Try.func3, Try.ntmps3
  go_wp2_with fail
  refine (sawake_any w).mono ?_
  rintro e w1 ⟨rfl, hb1⟩
  have Hb1 := Lib.hid hb1
  clear hb1
  go_upto_region 6 with fail
  rw [Hki.out]
  go_cut [6] (fun s6 wx => ∃ b, s6 = .pointer (some ⟨b, 0, none⟩) ∧ w.heap.size ≤ b ∧ Row wx b 26 (scells yk k) ∧ Below w.heap.size w wx)
  case first =>
    have hto := Hto.out
    clear Hfrom Hto Hb Hs Hsk Ho Hg Hgk Hki
    have hww1 : w.heap.size ≤ w1.heap.size := Hb1.out.size
    have Hww1 := Lib.hid hww1
    clear hww1
    go_region_with (first
      | (go_at_call 7
         refine (snew_any _).mono ?_
         rintro e wN ⟨rfl, hbN⟩
         first
           | (have HrA : Hid (Row wN w1.heap.size 26 (scells 0 0)) := Lib.hid ((Row.new w1.drew 26 (scells 0 0)).below hbN)
              have HbN : Hid (Below w1.heap.size w1 wN) := Lib.hid (((Below.refl w1.heap.size w1).drew.alloc (Nat.le_refl _) (.cells #[.int .u64 0, .int .u64 0] 26)).trans (hbN.mono (by simp))))
           | (have HbN : Hid (Below w1.heap.size w1 wN) := Lib.hid ((Below.refl w1.heap.size w1).drew.trans hbN))
         clear hbN)
      | (go_at_call 8
         refine (Ha.out _).mono ?_
         rintro e wA ⟨rfl, hbA⟩
         first
           | (have HrB := Lib.hid (HrA.out.below hbA)
              have HbA : Hid (Below w1.heap.size w1 wA) := Lib.hid (HbN.out.trans (hbA.mono HbN.out.size)))
           | (have HrB : Hid (Row wA wN.heap.size 26 (scells 0 0)) := Lib.hid ((Row.new wN 26 (scells 0 0)).below hbA)
              have HbA : Hid (Below w1.heap.size w1 wA) := Lib.hid ((HbN.out.alloc HbN.out.size (.cells #[.int .u64 0, .int .u64 0] 26)).trans (hbA.mono (by have := HbN.out.size; simp; omega))))
           | (have HbA : Hid (Below w1.heap.size w1 wA) := Lib.hid (HbN.out.trans (hbA.mono HbN.out.size)))
         clear hbA
         try
           (have c0 := HrB.out.cell 0
            have c1 := HrB.out.cell 1
            simp only [scells, List.getElem?_cons_zero, List.getElem?_cons_succ] at c0 c1
            have f0 := HrB.out.free 0
            have f1 := HrB.out.free 1)))
    all_goals
      go_wp2_with fail
      go_meet
      first
        | exact ⟨w1.heap.size, rfl, Hww1.out, HrB.out.state, ((Hb1.out.trans (HbA.out.mono Hww1.out)).setCell Hww1.out _).setCell Hww1.out _⟩
        | exact ⟨wN.heap.size, rfl, Nat.le_trans Hww1.out HbN.out.size, HrB.out.state, ((Hb1.out.trans (HbA.out.mono Hww1.out)).setCell (Nat.le_trans Hww1.out HbN.out.size) _).setCell (Nat.le_trans Hww1.out HbN.out.size) _⟩
        | exact ⟨wA.heap.size, rfl, Nat.le_trans Hww1.out HbA.out.size, Row.new wA 26 (scells yk k), (Hb1.out.trans (HbA.out.mono Hww1.out)).alloc (Nat.le_trans Hww1.out HbA.out.size) _⟩
  case rest =>
    obtain ⟨p, rfl, hwp, hrow, hbc⟩ := hcut
    have hc0 : ∀ W, Below wc.heap.size wc W → W.cell? ⟨p, 0, none⟩ = some (.int .u64 (yk : Int)) := fun W hW => (hrow.below hW).cell 0
    have hc1 : ∀ W, Below wc.heap.size wc W → W.cell? ⟨p, 1, none⟩ = some (.int .u64 (k : Int)) := fun W hW => (hrow.below hW).cell 1
    have Hbc := Lib.hid hbc
    have hto := Hto.out
    have hfrom := Hfrom.out
    clear hrow hbc hwp Hki Hb1 Hto Hfrom Ha
    have hkw : IntKind.u64.wrap (k : Int) = (k : Int) := u64_wrap k (by omega)
    go_upto_region 7 with fail
    go_region_held3 (fun W => Below wc.heap.size wc W) (first | with_reducible assumption | exact (Below.refl wc.heap.size wc).drew) (first
      | (go_at_call 9; (with_reducible refine (Ho.out _).mono ?_); rintro e wX ⟨rfl, hbX⟩; have HX : Below wc.heap.size wc wX := Below.trans (by with_reducible assumption) (hbX.mono (Below.size (by with_reducible assumption))); clear hbX)
      | (go_at_call 8; (with_reducible refine (Hb.out _).mono ?_); rintro e wX ⟨rfl, hbX⟩; have HX : Below wc.heap.size wc wX := Below.trans (by with_reducible assumption) (hbX.mono (Below.size (by with_reducible assumption))); clear hbX)
      | (go_at_call 11; (with_reducible refine (Hs.out _).mono ?_); rintro e wX ⟨rfl, hbX⟩; have HX : Below wc.heap.size wc wX := Below.trans (by with_reducible assumption) (hbX.mono (Below.size (by with_reducible assumption))); clear hbX)
      | (go_at_call 11; (with_reducible refine (Hsk.out _).mono ?_); rintro e wX ⟨rfl, hbX⟩; have HX : Below wc.heap.size wc wX := Below.trans (by with_reducible assumption) (hbX.mono (Below.size (by with_reducible assumption))); clear hbX)
      | (go_at_call 10; (with_reducible refine (Hg.out _).mono ?_); rintro e w' ⟨rfl, rfl⟩)
      | (go_at_call 10; (with_reducible refine (Hgk.out _).mono ?_); rintro e w' ⟨rfl, rfl⟩))
    have HXX : Hid (Below w.heap.size w wX) := Lib.hid (Hbc.out.trans (HX.mono Hbc.out.size))
    clear HX hc0 hc1 hto hfrom
    go_wp2
    go_ret
    exact ⟨rfl, HXX.out⟩

theorem stexts_short (l : List Nat) (c : Nat) (w : World) (h : l.length ≤ 300) (hlt : ∀ x ∈ l, x < 256) (hc : c < 65536) :
    Calls Try.prog 3 #[.string (strOf l), .int .u16 (c : Int)] w fun e w' => e = .returned (.bool true) ∧ Below w.heap.size w w' := by
  obtain ⟨k, hk⟩ : ∃ k, k = c % (l.length + 1) := ⟨_, rfl⟩
  have hkl : k ≤ l.length := by rw [hk]; have := Nat.mod_lt c (show 0 < l.length + 1 by omega); omega
  have hlk : (l.take k).length = k := by rw [List.length_take]; omega
  have hld : (l.drop k).length = l.length - k := List.length_drop
  refine stexts_walk l.length c k (Bm.sumOf l) (Bm.sumOf (l.take k)) (Bm.fromH Bm.H0 l) (Bm.fromH Bm.H0 (l.take k)) (strOf l) (strOf (l.take k)) (strOf (l.drop k)) w (strOf_size l) h hc hk (str_to l k hkl) (str_from l k hkl) ?_ ?_ ?_ ?_ ?_ ?_ ?_
  · refine Lib.hid fun w => ?_
    have h1 := sadd_any 7640891576956012808 0 (l.take k) w (by decide) (by decide) (by rw [hlk]; omega) (take_lt hlt k)
    rw [show (0 + (l.take k).length) % 18446744073709551616 = k by rw [hlk]; omega] at h1
    exact h1
  · refine Lib.hid fun w => ?_
    have h1 := sadd_any (Bm.fromH Bm.H0 (l.take k)) k (l.drop k) w (Bm.fromH_lt _ _ Bm.H0_lt) (by omega) (by rw [hld]; omega) (drop_lt hlt k)
    rw [show (k + (l.drop k).length) % 18446744073709551616 = l.length by rw [hld]; omega, ← Bm.fromH_append, List.take_append_drop] at h1
    exact h1
  · exact Lib.hid fun w => ssum_any (Bm.fromH Bm.H0 l) l.length w
  · refine Lib.hid fun w => ?_
    have h1 := ssum_any (Bm.fromH Bm.H0 (l.take k)) k w
    rw [show Bm.sumH (Bm.fromH Bm.H0 (l.take k)) k = Bm.sumOf (l.take k) by unfold Bm.sumOf; rw [hlk]] at h1
    exact h1
  · exact Lib.hid fun w => sof_any l w (by omega) hlt
  · exact Lib.hid fun w => gof_any l w (by omega) hlt
  · exact Lib.hid fun w => gof_any (l.take k) w (by rw [hlk]; omega) (take_lt hlt k)
end Go.Proofs.Ytafdpbehdgidpaa
