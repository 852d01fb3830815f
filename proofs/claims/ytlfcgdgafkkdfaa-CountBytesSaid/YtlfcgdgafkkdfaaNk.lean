/-
  Layer 5 (count): the laws' awake, by its walk: true. Premises: what Share and Symbols answer.
-/
import Derived.Test.YtlfcgdgafkkdfaaNh
namespace Go.Proofs.Ytlfcgdgafkkdfaa
open Go.RowKit

theorem share_31 : Bm.shareA [3, 1] 5 = [24, 8] ∧ Bm.ShareOk [3, 1] 5 := by decide
theorem sym_02 : Bm.symN [0, 2] = 1 := by decide
set_option maxHeartbeats 1000000 in
theorem nawake_of (hsh : CShare) (hsy : CSymbols) (w : World) : Calls Try.prog 5 #[] w fun e w' => e = .returned (.bool true) ∧ Below w.heap.size w w' := by
  have h1 : Hid (∀ w, Calls Try.prog 11 #[.slice (some ⟨w.heap.size, 0, none⟩) 2 2, .int .i64 5] (w.alloc (.cells #[.int .i64 3, .int .i64 1] 3)) fun e w' => ∃ g off c', e = .returned (.tuple #[.slice (some ⟨g, off, none⟩) 2 c', .bool true]) ∧ w'.cell? ⟨g, off, none⟩ = some (.int .i64 24) ∧ w'.cell? ⟨g, off + 1, none⟩ = some (.int .i64 8) ∧ Below w.heap.size w w') := Lib.hid (fun w => by
    have h := hsh (some ⟨w.heap.size, 0, none⟩) 2 [3, 1] 5 _ (by decide) (by simp [Bm.IntOk]) (by simp [Bm.IntOk]) (reads_new w [3, 1])
    rw [share_31.1, decide_eq_true share_31.2] at h
    refine h.mono fun e w' ⟨A', c', he, hr, hb⟩ => ?_
    obtain ⟨g, off, rfl, hc⟩ := reads_iz hr (by decide)
    exact ⟨g, off, c', he, hc 0 (by decide), hc 1 (by decide), ((Below.refl w.heap.size w).alloc (Nat.le_refl _) _).trans (hb.mono (by simp))⟩)
  have h2 : Hid (∀ w, Calls Try.prog 9 #[.slice (some ⟨w.heap.size, 0, none⟩) 2 2] (w.alloc (.cells #[.int .i64 0, .int .i64 2] 3)) fun e w' => e = .returned (.int .i64 1) ∧ Below w.heap.size w w') := Lib.hid (fun w => by
    have h := hsy (some ⟨w.heap.size, 0, none⟩) 2 [0, 2] _ (by decide) (reads_new w [0, 2])
    rw [sym_02] at h
    exact h.mono fun e w' ⟨he, hb⟩ => ⟨he, ((Below.refl w.heap.size w).alloc (Nat.le_refl _) _).trans (hb.mono (by simp))⟩)
  clear hsh hsy
  go_enter Try.func5, Try.ntmps5
  go_wp2_with fail
  refine (h1.out w).mono ?_
  rintro e w1 ⟨g, off, c', rfl, c0, c1, hb1⟩
  have Hb1 := Lib.hid hb1
  clear hb1
  go_wp2_with fail
  refine (h2.out w1).mono ?_
  rintro e w2 ⟨rfl, hb2⟩
  have Hb2 := Lib.hid (Hb1.out.trans (hb2.mono Hb1.out.size))
  clear hb2 Hb1
  go_wp2
  go_ret
  exact ⟨rfl, Hb2.out⟩
end Go.Proofs.Ytlfcgdgafkkdfaa
