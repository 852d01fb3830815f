/-
  Layer 12 (parse): the laws' awake, by its walk: true. Premises: what the calls of layer 12 answer.
-/
import Derived.Test.YtemniimodfobnaaPh
namespace Go.Proofs.Ytemniimodfobnaa
open Go.RowKit

theorem str_abc9 : strOf [97, 98, 99, 97, 98, 99, 97, 98, 99] = ⟨#[97, 98, 99, 97, 98, 99, 97, 98, 99]⟩ := by decide
theorem str_abc3 : strOf (Bm.litS [97, 98, 99, 97, 98, 99, 97, 98, 99] 0 [(3, 6, 3)]) = ⟨#[97, 98, 99]⟩ := by decide
set_option maxHeartbeats 1000000 in
set_option maxRecDepth 100000 in
theorem pawake_of (hA : PAbc) (hL : PLits) (w : World) : Calls Try.prog 4 #[] w fun e w' => e = .returned (.bool true) ∧ Below w.heap.size w w' := by
  have HA := Lib.hid (hA w)
  have HL := Lib.hid (fun w A c h => hL w [97, 98, 99, 97, 98, 99, 97, 98, 99] A c [(3, 6, 3)] (by decide) (by decide) (by decide) (by decide) h)
  rw [str_abc9, str_abc3] at HL
  clear hA hL
  go_enter Try.func4, Try.ntmps4
  go_wp2_with fail
  refine HA.out.mono ?_
  rintro e w1 ⟨A, c, rfl, hr, hb1⟩
  have Hb1 := Lib.hid hb1
  have HL1 := Lib.hid (HL.out w1 A c hr)
  obtain ⟨g, off, rfl, hg, hc⟩ := hr (by decide)
  obtain ⟨c0, c1, c2⟩ := hc 0 (by decide)
  simp only [Nat.zero_mul, Nat.add_zero, List.getElem_cons_zero] at c0 c1 c2
  clear hc hr hb1 HA HL
  go_wp2_with fail
  refine HL1.out.mono ?_
  rintro e w2 ⟨rfl, hb2⟩
  have Hb2 := Lib.hid (Hb1.out.trans (hb2.mono Hb1.out.size))
  clear hb2 Hb1 HL1
  go_wp2
  go_ret
  exact ⟨rfl, Hb2.out⟩
end Go.Proofs.Ytemniimodfobnaa
