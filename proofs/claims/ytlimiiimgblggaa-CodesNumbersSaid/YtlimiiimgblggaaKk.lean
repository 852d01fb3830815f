/-
  Layer 13 (codes): the laws' awake, by its walk: true. Premises: what the calls of layer 13 answer.
-/
import Derived.Test.YtlimiiimgblggaaKh
import Derived.Test.YtlimiiimgblggaaAe
import Derived.Deep.RegionHeld3
import Derived.Deep.DeepCutAuto
namespace Go.Proofs.Ytlimiiimgblggaa
open Go.RowKit

theorem code_twenty : Bm.codeN 20 = 16 ∧ Bm.moreN 20 = 4 ∧ Bm.bitsK 20 = 4 ∧ Bm.valueK 16 4 = some 20 := by decide +kernel
set_option maxHeartbeats 1000000 in
set_option maxRecDepth 100000 in
theorem kcawake_of (hC : KCode) (hV : KValue) (hF : KFirst) (w : World) : Calls Try.prog 6 #[] w fun e w' => e = .returned (.bool true) ∧ Below w.heap.size w w' := by
  obtain ⟨n1, n2, n3, n4⟩ := code_twenty
  have Hc := Lib.hid (fun w => hC.1 w 20 (by omega))
  have Hv := Lib.hid (fun w => hV w 16 4 (by omega) (by omega))
  rw [n1, n2, n3] at Hc
  rw [n4] at Hv
  have Hf := Lib.hid hF
  clear hC hV hF n1 n2 n3 n4
  have hgu := rec_guard
  have hsa := rec_same
  go_enter Try.func6, Try.ntmps6
  go_wp2_with fail
  refine (Hc.out w).mono ?_
  rintro e w1 ⟨rfl, hb1⟩
  have Hb1 := Lib.hid hb1
  clear hb1
  go_wp2_with fail
  refine (Hv.out w1).mono ?_
  rintro e w2 ⟨rfl, hb2⟩
  have Hb2 := Lib.hid (Hb1.out.trans (hb2.mono Hb1.out.size))
  clear hb2 Hb1
  go_wp2_with fail
  refine (Hf.out w2).mono ?_
  rintro e w3 ⟨rfl, hb3⟩
  have Hb3 := Lib.hid (Hb2.out.trans (hb3.mono Hb2.out.size))
  clear hb3 Hb2
  go_wp2
  go_ret
  exact ⟨rfl, Hb3.out⟩
end Go.Proofs.Ytlimiiimgblggaa
