/-
  The program's layer 25 (message): Bytes, by its walk. Conditions: as each theorem's premises say.
-/
import Derived.Test.YtfopnbfaaikghaaMf
namespace Go.Proofs.Ytfopnbfaaikghaa
open Go.RowKit

set_option maxHeartbeats 1000000 in
set_option maxRecDepth 100000 in
theorem mgbytes_no (m : Msg) (w : World) (h : rightM m = false) :
    Calls Try.prog 9 #[msV m] w fun e w' => e = .returned (.tuple #[.string ⟨#[]⟩, .int .i64 3]) ∧ Below w.heap.size w w' := by
  have HE := Lib.hid (fun W => mgenc_no m W h)
  have hm0 : Row (w.alloc (.cells (msL m).toArray 24)) w.heap.size 24 (msL m) := Row.new w _ _
  have hb0 : Below w.heap.size w (w.alloc (.cells (msL m).toArray 24)) := (Below.refl _ _).alloc (Nat.le_refl _) _
  obtain ⟨W0, hW0⟩ : ∃ W0, W0 = w.alloc (.cells (msL m).toArray 24) := ⟨_, rfl⟩
  rw [← hW0] at hm0 hb0
  have Hb0 := Lib.hid hb0
  have hc0 := MsRow.cells hm0
  rw [hW0] at hc0
  obtain ⟨c0, c1, c2, c3, c4, c5⟩ := hc0
  clear hm0 hb0
  unfold msV frV Bm.zfr at *
  dsimp only [msL] at *
  go_enter Try.func9, Try.ntmps9
  go_wp2_with fail
  rw [← hW0]
  refine (HE.out W0).mono ?_
  rintro e w1 ⟨rfl, g1⟩
  have Hb1 := Lib.hid (Hb0.out.trans (g1.mono Hb0.out.size))
  clear c0 c1 c2 c3 c4 c5 g1
  go_wp2
  go_ret2
  exact ⟨rfl, Hb1.out.alloc Hb1.out.size _⟩
set_option maxHeartbeats 1000000 in
set_option maxRecDepth 100000 in
theorem mgbytes_yes (m : Msg) (w : World) (hm : m.Ok) (h : rightM m = true) :
    Calls Try.prog 9 #[msV m] w fun e w' => e = .returned (.tuple #[.string (strOf (Bm.bytesF (m.kind, bytesM m))), .int .i64 0]) ∧ Below w.heap.size w w' := by
  have HE := Lib.hid (fun W => mgenc_yes m W hm h)
  have HF := Lib.hid (fun W => frenc_yes (m.kind, bytesM m) W (frame_ok hm h))
  have hm0 : Row (w.alloc (.cells (msL m).toArray 24)) w.heap.size 24 (msL m) := Row.new w _ _
  have hb0 : Below w.heap.size w (w.alloc (.cells (msL m).toArray 24)) := (Below.refl _ _).alloc (Nat.le_refl _) _
  obtain ⟨W0, hW0⟩ : ∃ W0, W0 = w.alloc (.cells (msL m).toArray 24) := ⟨_, rfl⟩
  rw [← hW0] at hm0 hb0
  have Hb0 := Lib.hid hb0
  have hc0 := MsRow.cells hm0
  rw [hW0] at hc0
  obtain ⟨c0, c1, c2, c3, c4, c5⟩ := hc0
  clear hm0 hb0
  generalize strOf (Bm.bytesF (m.kind, bytesM m)) = fs at *
  unfold msV frV at *
  dsimp only [msL] at *
  generalize strOf (bytesM m) = bs at *
  go_enter Try.func9, Try.ntmps9
  go_wp2_with fail
  rw [← hW0]
  refine (HE.out W0).mono ?_
  rintro e w1 ⟨rfl, g1⟩
  have Hb1 := Lib.hid (Hb0.out.trans (g1.mono Hb0.out.size))
  clear c0 c1 c2 c3 c4 c5 g1 hW0
  have Hb2 := Lib.hid (Hb1.out.alloc Hb1.out.size (.cells #[.int .i64 m.kind, .string bs] 28))
  go_wp2_with fail
  refine (HF.out _).mono ?_
  rintro e w3 ⟨rfl, g3⟩
  have Hb3 := Lib.hid (Hb2.out.trans (g3.mono Hb2.out.size))
  clear g3
  go_wp2
  go_ret2
  exact ⟨rfl, Hb3.out⟩
end Go.Proofs.Ytfopnbfaaikghaa
