/-
  Layer 4 (sum): the laws' awake, by its walk: true. No condition.
-/
import Derived.Test.YtafdpbehdgidpaaSd
namespace Go.Proofs.Ytafdpbehdgidpaa
open Go.RowKit

theorem add_a (w : World) : Calls Try.prog 8 #[.agg #[.int .u64 7640891576956012808, .int .u64 0], .string ⟨#[97]⟩] w fun e w' => e = .returned (.agg #[.int .u64 (Bm.fromH Bm.H0 [97] : Int), .int .u64 1]) ∧ Below w.heap.size w w' :=
  sadd_any 7640891576956012808 0 [97] w (by decide) (by decide) (by decide) (by decide)
theorem add_b (w : World) : Calls Try.prog 8 #[.agg #[.int .u64 (Bm.fromH Bm.H0 [97] : Int), .int .u64 1], .string ⟨#[98]⟩] w fun e w' => e = .returned (.agg #[.int .u64 (Bm.fromH Bm.H0 [97, 98] : Int), .int .u64 2]) ∧ Below w.heap.size w w' :=
  sadd_any (Bm.fromH Bm.H0 [97]) 1 [98] w (Bm.fromH_lt _ _ Bm.H0_lt) (by decide) (by decide) (by decide)
theorem sum_ab (w : World) : Calls Try.prog 11 #[.agg #[.int .u64 (Bm.fromH Bm.H0 [97, 98] : Int), .int .u64 2]] w fun e w' => e = .returned (.int .u64 (Bm.sumOf [97, 98] : Int)) ∧ Below w.heap.size w w' :=
  ssum_any (Bm.fromH Bm.H0 [97, 98]) 2 w
theorem of_ab (w : World) : Calls Try.prog 9 #[.string ⟨#[97, 98]⟩] w fun e w' => e = .returned (.int .u64 (Bm.sumOf [97, 98] : Int)) ∧ Below w.heap.size w w' := sof_any [97, 98] w (by decide) (by decide)
theorem gof_ab (w : World) : Calls Try.prog 10 #[.string ⟨#[97, 98]⟩] w fun e w' => e = .returned (.int .u64 (Bm.sumOf [97, 98] : Int)) ∧ w = w' := gof_any [97, 98] w (by decide) (by decide)
theorem pre_ab (w : World) : Calls Try.prog 12 #[.string ⟨#[97, 98]⟩] w fun e w' => ∃ g, e = .returned (.slice (some ⟨g, 0, none⟩) 2 2) ∧ Below w.heap.size w w' :=
  (sprefixes_any [97, 98] w (by decide) (by decide)).mono fun e w' ⟨g, cs, he, _, _, _, hb⟩ => ⟨g, he, hb⟩

set_option maxHeartbeats 1000000 in
theorem sawake_any (w : World) : Calls Try.prog 6 #[] w fun e w' => e = .returned (.bool true) ∧ Below w.heap.size w w' := by
  have h1 := Lib.hid of_ab
  have h2 := Lib.hid add_a
  have h3 := Lib.hid add_b
  have h4 := Lib.hid sum_ab
  have h5 := Lib.hid gof_ab
  generalize Bm.sumOf [97, 98] = r at h1 h4 h5
  generalize Bm.fromH Bm.H0 [97, 98] = y2 at h3 h4
  generalize Bm.fromH Bm.H0 [97] = y1 at h2 h3
  go_enter Try.func6, Try.ntmps6
  go_wp2_with fail
  refine (h1.out w).mono ?_
  rintro e w1 ⟨rfl, hb1⟩
  have Hb1 := Lib.hid hb1
  clear hb1
  go_wp2_with fail
  refine (snew_any w1).mono ?_
  rintro e w2 ⟨rfl, hb2⟩
  have Hb2 := Lib.hid (Hb1.out.trans (hb2.mono Hb1.out.size))
  clear hb2 Hb1
  go_wp2_with fail
  refine (h2.out w2).mono ?_
  rintro e w3 ⟨rfl, hb3⟩
  have Hb3 := Lib.hid (Hb2.out.trans (hb3.mono Hb2.out.size))
  clear hb3 Hb2
  go_wp2_with fail
  refine (h3.out w3).mono ?_
  rintro e w4 ⟨rfl, hb4⟩
  have Hb4 := Lib.hid (Hb3.out.trans (hb4.mono Hb3.out.size))
  clear hb4 Hb3
  go_wp2_with fail
  refine (h4.out w4).mono ?_
  rintro e w5 ⟨rfl, hb5⟩
  have Hb5 := Lib.hid (Hb4.out.trans (hb5.mono Hb4.out.size))
  clear hb5 Hb4
  go_wp2_with fail
  refine (h1.out w5).mono ?_
  rintro e w6 ⟨rfl, hb6⟩
  have Hb6 := Lib.hid (Hb5.out.trans (hb6.mono Hb5.out.size))
  clear hb6 Hb5
  go_wp2_with fail
  refine (h5.out w6).mono ?_
  rintro e w' ⟨rfl, rfl⟩
  go_wp2_with fail
  refine (pre_ab w6).mono ?_
  rintro e w8 ⟨g, rfl, hb8⟩
  have Hb8 := Lib.hid (Hb6.out.trans (hb8.mono Hb6.out.size))
  clear hb8 Hb6
  go_wp2
  go_ret
  exact ⟨rfl, Hb8.out⟩
end Go.Proofs.Ytafdpbehdgidpaa
