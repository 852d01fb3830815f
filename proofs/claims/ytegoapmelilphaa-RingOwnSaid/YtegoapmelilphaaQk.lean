/-
  Layer 18 (ring): the laws' awake, by its walk: true. No condition.
-/
import Derived.Test.YtegoapmelilphaaQa
import Derived.Test.YtegoapmelilphaaQb
namespace Go.Proofs.Ytegoapmelilphaa
open Go.RowKit

set_option maxHeartbeats 1000000 in
set_option maxRecDepth 100000 in
theorem ringawake_any (w : World) : Calls Try.prog 6 #[] w fun e w' => e = .returned (.bool true) ∧ Below w.heap.size w w' := by
  have Hnew := Lib.hid (ringnew_any 2 w)
  go_enter Try.func6, Try.ntmps6
  go_wp2_with fail
  refine Hnew.out.mono ?_
  rintro e w1 ⟨b, rfl, hr1, hb, hB1⟩
  have Ha := Lib.hid (ringadd_any b 2 [] ⟨#[97]⟩ w1 (by decide) hr1)
  have Hb := Lib.hid hb
  have HB1 := Lib.hid hB1
  clear hr1 hb hB1 Hnew
  go_wp2_with fail
  refine Ha.out.mono ?_
  rintro e w2 ⟨rfl, hr2, hg2⟩
  have Hadd := Lib.hid (ringadd_any b 2 [⟨#[97]⟩] ⟨#[98]⟩ w2 (by decide) hr2)
  have HB2 := Lib.hid (HB1.out.trans (below_grown hg2 Hb.out HB1.out.size))
  clear hr2 hg2 HB1 Ha
  go_wp2_with fail
  refine Hadd.out.mono ?_
  rintro e w3 ⟨rfl, hr3, hg3⟩
  have Hc := Lib.hid (ringadd_any b 2 [⟨#[97]⟩, ⟨#[98]⟩] ⟨#[99]⟩ w3 (by decide) hr3)
  have HB3 := Lib.hid (HB2.out.trans (below_grown hg3 Hb.out HB2.out.size))
  clear hr3 hg3 HB2 Hadd
  go_wp2_with fail
  refine Hc.out.mono ?_
  rintro e w4 ⟨rfl, hr4, hg4⟩
  have hr4' : RG w4 b 2 [⟨#[98]⟩, ⟨#[99]⟩] := hr4
  have Hall := Lib.hid (ringall_any _ 2 _ w4 hr4'.some)
  have HB4 := Lib.hid (HB3.out.trans (below_grown hg4 Hb.out HB3.out.size))
  have Hr4 := Lib.hid hr4'
  clear hr4 hr4' hg4 HB3 Hc
  go_wp2_with fail
  refine Hall.out.mono ?_
  rintro e w5 ⟨g, rfl, _, hrow, hb5⟩
  have Hby := Lib.hid (ringbytes_any _ 2 _ w5 (Hr4.out.below hb5).some)
  have HB5 := Lib.hid (HB4.out.trans (hb5.mono HB4.out.size))
  have c0 : w5.cell? ⟨g, 0, none⟩ = some (.string ⟨#[98]⟩) := hrow.cell 0
  have c1 : w5.cell? ⟨g, 1, none⟩ = some (.string ⟨#[99]⟩) := hrow.cell 1
  rw [show Bm.sizeS [⟨#[98]⟩, ⟨#[99]⟩] = 2 from rfl] at Hby
  clear hrow hb5 HB4 Hall Hr4
  go_wp2_with fail
  refine Hby.out.mono ?_
  rintro e w6 ⟨rfl, hb6⟩
  have HB6 := Lib.hid (HB5.out.trans (hb6.mono HB5.out.size))
  clear hb6 HB5 Hby c0 c1
  go_wp2
  go_ret
  exact ⟨rfl, HB6.out⟩
end Go.Proofs.Ytegoapmelilphaa
