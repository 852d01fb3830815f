/-
  Layer 23 (link): the laws' awake, by its walk: true; LinkNobody. No condition.
-/
import Derived.Test.YtecelklpeealaaaWn
namespace Go.Proofs.Ytecelklpeealaaa
open Go.RowKit

set_option maxHeartbeats 1000000 in
set_option maxRecDepth 100000 in
theorem lkawake_any (w : World) : Calls Try.prog 6 #[] w fun e w' => e = .returned (.bool true) ∧ Below w.heap.size w w' := by
  have Hnew := Lib.hid (lknew_any 9 w)
  rw [show Bm.mostN 9 = 9 by decide] at Hnew
  go_enter Try.func6, Try.ntmps6
  go_wp2_with fail
  refine Hnew.out.mono ?_
  rintro e w1 ⟨b, rfl, hk1, hb, hB1⟩
  have H1 := Lib.hid (lkjoin_yes b 0 9 _ _ w1 (by decide) hk1)
  have Hb := Lib.hid hb
  have HB1 := Lib.hid hB1
  clear hk1 hb hB1 Hnew
  go_wp2_with fail
  refine H1.out.mono ?_
  rintro e w2 ⟨rfl, hk2, hg2⟩
  have Hk2 := Lib.hid hk2
  have HB2 := Lib.hid (HB1.out.trans (below_grown hg2 Hb.out HB1.out.size))
  have H2 := Lib.hid (lkjoin_no b w2 hk2.cells.1)
  have H3 := Lib.hid (lkup_at b true w2 hk2.cells.1)
  have H4 := Lib.hid (lkgen_at b 1 w2 hk2.cells.2.1)
  have H5 := Lib.hid (lkto_at b true w2 hk2.cells.1)
  clear hk2 hg2 HB1 H1
  go_wp2_with fail
  refine H2.out.mono ?_
  rintro e w' ⟨rfl, rfl⟩
  go_wp2_with fail
  refine H3.out.mono ?_
  rintro e w' ⟨rfl, rfl⟩
  go_wp2_with fail
  refine H4.out.mono ?_
  rintro e w' ⟨rfl, rfl⟩
  go_wp2_with fail
  refine H5.out.mono ?_
  rintro e w' ⟨rfl, rfl⟩
  obtain ⟨E, hp, hof⟩ := Hk2.out.to
  have H6 := Lib.hid (ppsend_yes b 0 E [] [] 9 Bm.H0 0 [97] w2 (by decide) (by decide) hp)
  rw [show strOf [97] = ⟨#[97]⟩ from rfl] at H6
  have Hof := Lib.hid hof
  clear hp hof H2 H3 H4 H5
  unfold pipeV
  rw [if_pos rfl]
  go_wp2_with fail
  refine H6.out.mono ?_
  rintro e w3 ⟨rfl, hp3, hg3⟩
  have HB3 := Lib.hid (HB2.out.trans (below_grown hg3 Hb.out HB2.out.size))
  have H7 := Lib.hid (lkidle_up b 1 9 ⟨[], [(97, true)], Bm.H0, 0⟩ PSt.new w3 (Hof.out w3 ⟨[], [(97, true)], Bm.H0, 0⟩ hp3))
  rw [show (PSt.idle ⟨[], [(97, true)], Bm.H0, 0⟩ && PSt.idle PSt.new) = false from rfl] at H7
  clear hp3 hg3 H6 HB2 Hof Hk2
  go_wp2_with fail
  refine H7.out.mono ?_
  rintro e w' ⟨rfl, rfl⟩
  go_wp2
  go_ret
  exact ⟨rfl, HB3.out⟩
set_option maxHeartbeats 1000000 in
set_option maxRecDepth 100000 in
theorem lknobody_any (s : ByteArray) (x : Int) (w : World) : Calls Try.prog 5 #[.string s, .int .i64 x] w fun e w' => e = .returned (.bool true) ∧ Below w.heap.size w w' := by
  have Haw := Lib.hid (lkawake_any w)
  go_enter Try.func5, Try.ntmps5
  go_wp2_with fail
  refine Haw.out.mono ?_
  rintro e w1 ⟨rfl, hb1⟩
  have HB1 := Lib.hid hb1
  clear hb1 Haw
  go_wp2_with fail
  refine (lkjoin_nil w1).mono ?_
  rintro e w' ⟨rfl, rfl⟩
  go_wp2_with fail
  refine (lkcut_nil w1).mono ?_
  rintro e w' ⟨rfl, rfl⟩
  go_wp2_with fail
  refine (lkup_nil w1).mono ?_
  rintro e w' ⟨rfl, rfl⟩
  go_wp2_with fail
  refine (lkgen_nil w1).mono ?_
  rintro e w' ⟨rfl, rfl⟩
  go_wp2_with fail
  refine (lkto_nil w1).mono ?_
  rintro e w' ⟨rfl, rfl⟩
  go_wp2_with fail
  refine (lkfrom_nil w1).mono ?_
  rintro e w' ⟨rfl, rfl⟩
  go_wp2_with fail
  refine (lkidle_nil w1).mono ?_
  rintro e w' ⟨rfl, rfl⟩
  go_wp2_with fail
  refine (lkto_nil w1).mono ?_
  rintro e w' ⟨rfl, rfl⟩
  go_wp2_with fail
  refine (ppsend_nil s w1).mono ?_
  rintro e w' ⟨rfl, rfl⟩
  go_wp2_with fail
  refine (lkfrom_nil w1).mono ?_
  rintro e w' ⟨rfl, rfl⟩
  go_wp2_with fail
  refine (ppdel_nil x w1).mono ?_
  rintro e w' ⟨rfl, rfl⟩
  go_wp2
  go_ret
  exact ⟨rfl, HB1.out⟩
end Go.Proofs.Ytecelklpeealaaa
