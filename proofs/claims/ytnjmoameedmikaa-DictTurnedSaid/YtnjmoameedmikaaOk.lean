/-
  Layer 20 (dict): the laws' awake, by its walk: true. No condition.
-/
import Derived.Test.YtnjmoameedmikaaOa
namespace Go.Proofs.Ytnjmoameedmikaa
open Go.RowKit

theorem dict_abc_len : (Bm.dictB [97, 98, 99]).length = 14 := by
  unfold Bm.dictB
  rw [Bm.dictN_len, Bm.grp_small _ (by decide)]; rfl
theorem str_abc3 : strOf [97, 98, 99] = ⟨#[97, 98, 99]⟩ := by decide
set_option maxHeartbeats 1000000 in
set_option maxRecDepth 100000 in
theorem dtawake_any (w : World) : Calls Try.prog 6 #[] w fun e w' => e = .returned (.bool true) ∧ Below w.heap.size w w' := by
  have Henc := Lib.hid (fun W => dtenc_some [97, 98, 99] W (by decide) (by decide))
  have hlt := Bm.dictB_lt [97, 98, 99] (by decide) (by decide)
  have hlen := dict_abc_len
  have Hdec := Lib.hid (fun W => dtdec_any (Bm.dictB [97, 98, 99]) W (by omega) hlt)
  rw [Bm.dict_back _ (by decide)] at Hdec
  dsimp only at Hdec
  have hsz := strOf_size (Bm.dictB [97, 98, 99])
  rw [hlen] at hsz
  clear hlt hlen
  generalize strOf (Bm.dictB [97, 98, 99]) = s at *
  rw [str_abc3] at Henc Hdec
  go_enter Try.func6, Try.ntmps6
  go_wp2_with fail
  refine (Henc.out _).mono ?_
  rintro e w1 ⟨rfl, hb1⟩
  have Hb1 := Lib.hid hb1
  clear hb1
  go_wp2_with fail
  refine (Hdec.out _).mono ?_
  rintro e w2 ⟨rfl, hb2⟩
  have Hb2 := Lib.hid (Hb1.out.trans (hb2.mono Hb1.out.size))
  clear hb2 Hb1
  go_wp2
  go_ret
  exact ⟨rfl, Hb2.out⟩
end Go.Proofs.Ytnjmoameedmikaa
