/-
  The statements' common head (layer 2): awake returns true and changes nothing that was there. No condition.
-/
import Derived.Test.YtllgbnolngenhaaYg
namespace Go.Proofs.Ytllgbnolngenhaa
open Go.RowKit

set_option maxHeartbeats 1000000 in
theorem kawake_any (w : World) : Calls Try.prog 6 #[] w fun e w' => e = .returned (.bool true) ∧ Below w.heap.size w w' := by
  go_enter Try.func6, Try.ntmps6
  go_wp2_with fail
  refine (put_int w.heap.size 0 0 0 5 3 _ (by omega) (by omega) (by omega) (by omega) (by omega) (WS.new w 27 notW)).mono ?_
  rintro e w1 ⟨rfl, hs1, hg1⟩
  have hs1' : WS w1 w.heap.size 0 5 3 := hs1
  clear hs1
  have hse : Calls Try.prog 9 #[.pointer (some ⟨w.heap.size, 0, none⟩)] w1 fun e w' => ∃ g cap, e = .returned (.slice (some ⟨g, 0, none⟩) 1 cap) ∧
      w'.ownsRow w1.heap.size 5 1 (.slice (some ⟨g, 0, none⟩) 1 cap) 1 (u8s [13]) ∧ Below w1.heap.size w1 w' := seal_any w.heap.size 0 5 3 w1 (by omega) (by omega) hs1'
  have hbel : Below w.heap.size w w1 := ((Below.refl _ _).alloc (Nat.le_refl _) _).trans (below_grown hg1 (Nat.le_refl _) (by simp))
  have Hse := Lib.hid hse
  have Hbel := Lib.hid hbel
  clear hse hbel hg1 hs1'
  go_wp2_with fail
  refine Hse.out.mono ?_
  rintro e w2 ⟨g, cap, rfl, hown, hb2⟩
  obtain ⟨_, hgl, _, _, hrd⟩ := own_place hown
  have hop : Calls Try.prog 10 #[.slice (some ⟨g, 0, none⟩) 1 cap] w2 fun e w' => ∃ b, e = .returned (.tuple #[.pointer (some ⟨b, 0, none⟩), .bool true]) ∧
      TS w' w2.heap.size b [13] 3 ∧ Below w2.heap.size w2 w' := open_some g 0 0 cap [13] 13 w2 (by omega) (by omega) (by omega) rfl rfl hrd hgl
  have hc : w2.cell? ⟨g, 0, none⟩ = some (.int .u8 13) := hown.cellAt 0 (by omega)
  have Hop := Lib.hid hop
  have Hb2 := Lib.hid (Hbel.out.trans (hb2.mono Hbel.out.size))
  clear hop hb2 hrd hown
  go_wp2_with fail
  refine Hop.out.mono ?_
  rintro e w3 ⟨b, rfl, hts, hb3⟩
  have hc3 := (hb3.cell (p := ⟨g, 0, none⟩) hgl).trans hc
  have Hle := Lib.hid (bleft_any _ b 3 [13] w3 hts)
  have Hb3 := Lib.hid (Hb2.out.trans (hb3.mono Hb2.out.size))
  clear hts hb3 hc
  go_wp2_with fail
  refine Hle.out.mono ?_
  rintro e w4 ⟨rfl, rfl⟩
  go_wp2
  go_ret
  exact ⟨rfl, Hb3.out⟩
end Go.Proofs.Ytllgbnolngenhaa
