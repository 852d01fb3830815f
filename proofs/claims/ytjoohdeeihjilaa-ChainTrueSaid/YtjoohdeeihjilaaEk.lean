/-
  Layer 11 (chain): the laws' awake, by its walk: true. Premises: what the calls of layer 11 answer.
-/
import Derived.Test.YtjoohdeeihjilaaEh
namespace Go.Proofs.Ytjoohdeeihjilaa
open Go.RowKit

theorem note_abc : Bm.noteB [97, 98, 99, 97, 98, 99, 120] [] 0 = true ∧ Bm.noteP [97, 98, 99, 97, 98, 99, 120] [] 0 = [0] ∧ Bm.findI [97, 98, 99, 97, 98, 99, 120] [0] 3 9 = (3, 3) := by decide
set_option maxHeartbeats 1000000 in
set_option maxRecDepth 100000 in
theorem zawake_of {FI : World → Addr → List Nat → List Nat → (Nat → Prop) → Prop} (hF : FindOk FI) (hL : ZLen FI) (w : World) : Calls Try.prog 6 #[] w fun e w' => e = .returned (.bool true) ∧ Below w.heap.size w w' := by
  obtain ⟨n1, n2, n3⟩ := note_abc
  have Hnew := Lib.hid (fun w => hF.new w [97, 98, 99, 97, 98, 99, 120] (by decide) (by decide))
  have Hnote := Lib.hid (fun w p S h => hF.note w p [97, 98, 99, 97, 98, 99, 120] [] S 0 (by decide) (by decide) h (by simp [Bm.IntOk]))
  have Hfind := Lib.hid (fun w p S h => hF.find w p [97, 98, 99, 97, 98, 99, 120] [0] S 3 9 (by decide) (by decide) h (by simp [Bm.IntOk]) (by simp [Bm.IntOk]))
  have Hlen := Lib.hid (fun w p S h => hL w p [97, 98, 99, 97, 98, 99, 120] [0] S (by decide) h)
  have Hkeep := Lib.hid hF.keep
  have Hlt := Lib.hid hF.lt
  rw [n1, n2] at Hnote
  rw [n3] at Hfind
  clear hF hL n1 n2 n3
  go_enter Try.func6, Try.ntmps6
  go_wp2_with fail
  refine (Hnew.out w).mono ?_
  rintro e w1 ⟨p, S, rfl, hf1, hS1, hb1⟩
  have Hn1 := Lib.hid (Hnote.out w1 p S hf1)
  have HS1 := Lib.hid hS1
  have Hb1 := Lib.hid hb1
  clear hf1 hS1 hb1 Hnew Hnote
  go_wp2_with fail
  refine Hn1.out.mono ?_
  rintro e w2 ⟨rfl, ⟨S2, hf2, hS2⟩, hsep2⟩
  have Hb2 := Lib.hid (Hb1.out.trans (hsep2.below HS1.out Hb1.out.size))
  have Hf2 := Lib.hid (Hfind.out w2 p S2 hf2)
  have Hfi2 := Lib.hid hf2
  clear hsep2 hS2 hf2 Hb1 HS1 Hn1 Hfind
  go_wp2_with fail
  refine Hf2.out.mono ?_
  rintro e w3 ⟨rfl, hb3⟩
  have Hb3 := Lib.hid (Hb2.out.trans (hb3.mono Hb2.out.size))
  have hf3 := Hkeep.out w2 w3 p _ _ S2 Hfi2.out hb3.size (fun k hk => hb3.block k (Hlt.out _ _ _ _ _ Hfi2.out k hk))
  have Hl3 := Lib.hid (Hlen.out w3 p S2 hf3)
  clear hb3 hf3 Hb2 Hf2 Hfi2 Hkeep Hlt Hlen
  go_wp2_with fail
  refine Hl3.out.mono ?_
  rintro e w4 ⟨rfl, hb4⟩
  have Hb4 := Lib.hid (Hb3.out.trans (hb4.mono Hb3.out.size))
  clear hb4 Hb3 Hl3
  go_wp2
  go_ret
  exact ⟨rfl, Hb4.out⟩
end Go.Proofs.Ytjoohdeeihjilaa
