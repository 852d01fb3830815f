/-
  Layer 6 (spread): the laws' awake, by its walk: true. Premise: what the table's calls answer.
-/
import Derived.Test.YthaahijapkolkaaTh
namespace Go.Proofs.Ythaahijapkolkaa
open Go.RowKit

theorem tab_32 : Bm.cellA [32] 5 7 = (0, 0, 7) := by decide +kernel
theorem fair_32 : Bm.Fair [32] 5 := by decide
theorem cel_stood : Try.prog.stoodInHeld 29 = false := by kernel_rfl
theorem cel_guard : Try.prog.eqGuardType Try.prog.depth 29 = false := by kernel_rfl
set_option maxHeartbeats 1000000 in
set_option maxRecDepth 100000 in
theorem tawake_of {TB : World → Addr → List Nat → Nat → Prop} (hT : TabOk TB) (w : World) : Calls Try.prog 6 #[] w fun e w' => e = .returned (.bool true) ∧ Below w.heap.size w w' := by
  have hfn : Bm.FairN [32] 5 := Bm.fair_n [32] 5 fair_32
  have h1 : Hid (∀ w, Calls Try.prog 7 #[.slice (some ⟨w.heap.size, 0, none⟩) 1 1, .int .i64 5] (w.alloc (.cells #[.int .i64 32] 3)) fun e w' => ∃ p, e = .returned (.tuple #[.pointer (some p), .bool true]) ∧ TB w' p [32] 5 ∧ Below w.heap.size w w') := Lib.hid (fun w => by
    have h := hT.build (some ⟨w.heap.size, 0, none⟩) 1 [32] 5 _ (by decide) (by simp [Bm.IntOk]) (by simp [Bm.IntOk]) (reads_new w [32]) fair_32
    exact h.mono fun e w' ⟨p, he, ht, hb⟩ => ⟨p, he, ht, ((Below.refl w.heap.size w).alloc (Nat.le_refl _) _).trans (hb.mono (by simp))⟩)
  have h2 : Hid (∀ w p, TB w p [32] 5 → Calls Try.prog 9 #[.pointer (some p), .int .i64 7] w fun e w' => e = .returned (.tuple #[.agg #[.int .u8 0, .int .i64 0, .int .i64 7], .bool true]) ∧ Below w.heap.size w w') := Lib.hid (fun w p ht => by
    have h := hT.cell w p [32] 5 7 hfn ht (by simp [Bm.IntOk])
    rw [tab_32, decide_eq_true (by decide)] at h
    exact h)
  have h3 : Hid (∀ w p, TB w p [32] 5 → Calls Try.prog 10 #[.pointer (some p)] w fun e w' => e = .returned (.int .i64 32) ∧ ∃ m, w' = w.drewN m) := Lib.hid (fun w p ht => hT.size w p [32] 5 hfn ht)
  have hkeep := Lib.hid hT.keep
  have hst := cel_stood
  have hgu := cel_guard
  clear hT hfn
  go_enter Try.func6, Try.ntmps6
  go_wp2_with fail
  refine (h1.out w).mono ?_
  rintro e w1 ⟨p, rfl, ht1, hb1⟩
  have Hb1 := Lib.hid hb1
  have Ht1 := Lib.hid ht1
  clear hb1 ht1
  go_wp2_with fail
  refine (h2.out w1 p Ht1.out).mono ?_
  rintro e w2 ⟨rfl, hb2⟩
  have Hb2 := Lib.hid (Hb1.out.trans (hb2.mono Hb1.out.size))
  have Ht2 := Lib.hid (hkeep.out _ _ _ _ _ Ht1.out hb2)
  clear hb2 Hb1 Ht1
  go_wp2_with fail
  refine (h3.out _ p (hkeep.out _ _ _ _ _ Ht2.out ((Below.refl _ _).alloc (Nat.le_refl _) _))).mono ?_
  rintro e w3 ⟨rfl, m, rfl⟩
  go_wp2
  go_ret
  exact ⟨rfl, below_drewN (Hb2.out.alloc Hb2.out.size _) m⟩
end Go.Proofs.Ythaahijapkolkaa
