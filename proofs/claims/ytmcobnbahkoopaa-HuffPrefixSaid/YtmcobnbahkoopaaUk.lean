/-
  Layer 9 (huff): the laws' awake, by its walk: true. Premises: what the calls of layer 9 answer.
-/
import Derived.Test.YtmcobnbahkoopaaUh
namespace Go.Proofs.Ytmcobnbahkoopaa
open Go.RowKit

theorem int_ok_nat (l : List Nat) (h : ∀ x ∈ l, x ≤ 1048576) : ∀ x ∈ l.map (fun n : Nat => (n : Int)), Bm.IntOk x := fun x hx => by
  obtain ⟨y, hy, rfl⟩ := List.mem_map.1 hx
  have := h y hy
  unfold Bm.IntOk
  omega
set_option maxHeartbeats 1000000 in
set_option maxRecDepth 100000 in
theorem uawake_of {D : List Int → Prop} (hH : HuffOk D) (hD : D [5, 2, 1]) (w : World) : Calls Try.prog 7 #[] w fun e w' => e = .returned (.bool true) ∧ Below w.heap.size w w' := by
  have H1 : Hid (∀ W : World, Calls Try.prog 8 #[.slice (some ⟨W.heap.size, 0, none⟩) 3 3] (W.alloc (.cells #[.int .i64 5, .int .i64 2, .int .i64 1] 3)) fun e w' => ∃ g off d, e = .returned (.tuple #[.slice (some ⟨g, off, none⟩) 3 d, .bool true]) ∧ Reads w' (some ⟨g, off, none⟩) (i64s [1, 2, 2]) ∧ Below W.heap.size W w') := Lib.hid (fun W => by
    have hal := (Below.refl W.heap.size W).alloc (Nat.le_refl _) (.cells #[.int .i64 5, .int .i64 2, .int .i64 1] 3)
    have h := hH.lens _ (some ⟨W.heap.size, 0, none⟩) 3 [5, 2, 1] (by unfold maxLen; decide) (by simp [Bm.IntOk]) (reads_new W [5, 2, 1]) (by decide) hD
    refine h.mono ?_
    rintro e w' ⟨B, d, ls, rfl, hr, hg, hb⟩
    have hl : ls = [1, 2, 2] := Bm.good_521 ls hg
    subst hl
    obtain ⟨g, off, rfl, _⟩ := hr (by simp [i64s])
    exact ⟨g, off, d, rfl, hr, hal.trans (hb.mono hal.size)⟩)
  have H2 : Hid (∀ (W : World) g off d, Reads W (some ⟨g, off, none⟩) (i64s [1, 2, 2]) → Calls Try.prog 16 #[.slice (some ⟨g, off, none⟩) 3 d] W fun e w' => ∃ g2 off2 d2, e = .returned (.tuple #[.slice (some ⟨g2, off2, none⟩) 3 d2, .bool true]) ∧ (w'.cell? ⟨g2, off2, none⟩ = some (.int .i64 0) ∧ w'.cell? ⟨g2, off2 + 1, none⟩ = some (.int .i64 2) ∧ w'.cell? ⟨g2, off2 + 2, none⟩ = some (.int .i64 3)) ∧ Below W.heap.size W w') := Lib.hid (fun W g off d hr => by
    refine (hH.codes W (some ⟨g, off, none⟩) d [1, 2, 2] (by unfold maxLen; decide) (by simp [Bm.IntOk]) hr Bm.whole_122).mono ?_
    rintro e w' ⟨B, d2, rfl, hr2, hb⟩
    rw [show ([1, 2, 2] : List Int).map Int.toNat = [1, 2, 2] by rfl, Bm.codes_122] at hr2
    obtain ⟨g2, off2, rfl, hc⟩ := hr2 (by simp [i64s])
    exact ⟨g2, off2, d2, rfl, ⟨hc 0 (by simp [i64s]), hc 1 (by simp [i64s]), hc 2 (by simp [i64s])⟩, hb⟩)
  clear hH hD
  go_enter Try.func7, Try.ntmps7
  go_wp2_with fail
  refine (H1.out w).mono ?_
  rintro e w1 ⟨g, off, d, rfl, hr1, hb1⟩
  have Hb1 := Lib.hid hb1
  have Hr1 := Lib.hid hr1
  clear hb1 hr1
  go_wp2_with fail
  refine (H2.out w1 g off d Hr1.out).mono ?_
  rintro e w2 ⟨g2, off2, d2, rfl, ⟨c0, c1, c2⟩, hb2⟩
  have Hb2 := Lib.hid (Hb1.out.trans (hb2.mono Hb1.out.size))
  obtain ⟨k0, k1, k2⟩ : w2.cell? ⟨g, off, none⟩ = some (.int .i64 1) ∧ w2.cell? ⟨g, off + 1, none⟩ = some (.int .i64 2) ∧ w2.cell? ⟨g, off + 2, none⟩ = some (.int .i64 2) := by
    obtain ⟨g', off', e, hc⟩ := reads_on Hr1.out hb2 (by simp [i64s])
    injection e with e
    injection e with e1 e2
    subst e1 e2
    exact ⟨hc 0 (by simp [i64s]), hc 1 (by simp [i64s]), hc 2 (by simp [i64s])⟩
  clear hb2 Hb1 Hr1 H1 H2
  go_wp2
  go_ret
  exact ⟨rfl, Hb2.out⟩
end Go.Proofs.Ytmcobnbahkoopaa
