/-
  The program's layer 19 (train): container/heap's down over a heap of pieces, by its walk. Conditions: as the theorem's premises say.
-/
import Derived.Test.YtaebnkeddcbmkaaGd
namespace Go.Proofs.Ytaebnkeddcbmkaa
open Go.RowKit
/-- Some Boolean is answered. -/
def BoolEndQ (e : Ending) : Prop := ∃ b, e = .returned (.bool b)
theorem bool_endQ (b : Bool) : BoolEndQ (.returned (.bool b)) := ⟨b, rfl⟩
set_option maxHeartbeats 1000000 in
set_option maxRecDepth 100000 in
theorem hqdown_any (base p g cap n i0 : Nat) (L : List Pce) (w : World) (hb : base ≤ w.heap.size) (hL : L.length ≤ 100000) (hn : n ≤ L.length) (hi0 : i0 ≤ n) (hp : PilQ w base p g cap L) (hd : Bm.DownQ L n i0 i0) :
    Calls Try.prog 37 #[.iface 36 (.pointer (some ⟨p, 0, none⟩)), .int .i64 (i0 : Int), .int .i64 (n : Int)] w fun e w' => BoolEndQ e ∧ ∃ L', L'.Perm L ∧ Bm.HeapF L' n i0 ∧ (∀ k, n ≤ k → Bm.at3 L' k = Bm.at3 L k) ∧ PilQ w' base p g cap L' ∧ KeptW base p g w w' := by
  obtain ⟨nL, hnL⟩ : ∃ nL, nL = L.length := ⟨_, rfl⟩
  rw [← hnL] at hL hn
  have HnL := Lib.hid hnL
  have Hp := Lib.hid hp
  have Hd := Lib.hid hd
  clear hnL hp hd
  go_enter Try.func37, Try.ntmps37
  go_wp2
  go_loopw [7] (fun iv wr => ∃ (i : Nat) (L' : List Pce), iv = .int .i64 (i : Int) ∧ i0 ≤ i ∧ i ≤ n ∧ Hid (L'.Perm L) ∧ Hid (∀ k, n ≤ k → Bm.at3 L' k = Bm.at3 L k) ∧ Hid (Bm.DownQ L' n i0 i) ∧ Hid (PilQ wr base p g cap L') ∧ Hid (KeptW base p g w wr)) (fun iv _ => n - (intOf iv).toNat)
  case atStart => exact ⟨i0, L, rfl, Nat.le_refl _, hi0, Lib.hid (List.Perm.refl _), Lib.hid (fun _ _ => rfl), Hd, Hp, Lib.hid (KeptW.refl _ _ _ _)⟩
  case round =>
    obtain ⟨i, L', rfl, hii, hi, hperm, hsame, hdn, hpl, hk⟩ := hrel
    clear Hp Hd
    have hlen : L'.length = nL := by rw [hperm.out.length_eq, HnL.out]
    have Hlen := Lib.hid hlen
    have c0 := hpl.out.cell
    rw [hlen] at c0
    clear hlen
    by_cases h1 : n ≤ 2 * i + 1
    · have hfin : ∃ L', L'.Perm L ∧ Bm.HeapF L' n i0 ∧ (∀ k, n ≤ k → Bm.at3 L' k = Bm.at3 L k) ∧ PilQ wr base p g cap L' ∧ KeptW base p g w wr := ⟨L', hperm.out, Bm.downq_end _ _ _ _ hdn.out (fun k k0 kn ki => by omega), hsame.out, hpl.out, hk.out⟩
      have Hf := Lib.hid hfin
      clear hfin
      go_wp2
      go_ret
      exact ⟨bool_endQ _, Hf.out⟩
    · by_cases h2 : n ≤ 2 * i + 2
      · have Hleast : Hid (∀ k, 0 < k → k < n → (k - 1) / 2 = i → ¬ Bm.lt3 (Bm.at3 L' k) (Bm.at3 L' (2 * i + 1))) := Lib.hid (fun k k0 kn ki => by
          obtain rfl : k = 2 * i + 1 := by omega
          rw [Bm.lt3_iff]
          omega)
        have mL2 := pq_less p nL cap (some ⟨g, 0, none⟩) wr c0
        have eL2 := enq_less
        have hl2 := pq_lessC hpl.out (2 * i + 1) i (by rw [Hlen.out]; omega) (by rw [Hlen.out]; omega)
        rw [Hlen.out] at hl2
        obtain ⟨r2, hr2⟩ : ∃ r2, r2 = decide (Bm.lt3 (Bm.at3 L' (2 * i + 1)) (Bm.at3 L' i)) := ⟨_, rfl⟩
        rw [← hr2] at hl2
        have Hr2 := Lib.hid hr2
        have Hl2 := Lib.hid hl2
        clear hr2 hl2
        have hcast : Value.int IntKind.i64 (((2 * i + 1 : Nat)) : Int) = .int .i64 (2 * (i : Int) + 1) := by go_num
        rw [hcast] at Hl2
        clear hcast
        go_wp2_with fail
        refine Hl2.out.mono ?_
        rintro e w3 ⟨rfl, hb3⟩
        have hpl3 := hpl.out.below hb3
        have Hk3 := Lib.hid (hk.out.trans (KeptW.below hb3 (Nat.le_trans hb hk.out.bel.size)))
        have c3 := hpl3.cell
        rw [Hlen.out] at c3
        have Hpl3 := Lib.hid hpl3
        clear hb3 hpl3 mL2 eL2 c0 Hl2
        cases r2 with
        | false =>
          have hlt : ¬ Bm.lt3 (Bm.at3 L' (2 * i + 1)) (Bm.at3 L' i) := by have := Hr2.out; simpa using this.symm
          have hfin : ∃ L', L'.Perm L ∧ Bm.HeapF L' n i0 ∧ (∀ k, n ≤ k → Bm.at3 L' k = Bm.at3 L k) ∧ PilQ w3 base p g cap L' ∧ KeptW base p g w w3 := ⟨L', hperm.out, Bm.downq_end _ _ _ _ hdn.out (fun k k0 kn ki => by
            have h1 := Hleast.out k k0 kn ki
            rw [Bm.lt3_iff] at h1 hlt ⊢
            omega), hsame.out, Hpl3.out, Hk3.out⟩
          have Hf := Lib.hid hfin
          clear hfin hlt
          go_wp2
          go_ret
          exact ⟨bool_endQ _, Hf.out⟩
        | true =>
          have hlt : Bm.lt3 (Bm.at3 L' (2 * i + 1)) (Bm.at3 L' i) := by have := Hr2.out; simpa using this.symm
          have Hlt := Lib.hid hlt
          have mS := pq_swap p nL cap (some ⟨g, 0, none⟩) w3 c3
          have eS := enq_swap
          have hs := pq_swapC Hpl3.out i (2 * i + 1) (by rw [Hlen.out]; omega) (by rw [Hlen.out]; omega)
          rw [Hlen.out] at hs
          have Hs := Lib.hid hs
          clear hs hlt
          go_wp2_with fail
          refine Hs.out.mono ?_
          rintro e w4 ⟨rfl, hpl4, hk4⟩
          have Hdn4 := Lib.hid (Bm.downq_step L' n i0 i (2 * i + 1) (by rw [Hlen.out]; omega) (by omega) (by omega) hii (by omega) hdn.out Hlt.out Hleast.out)
          have Hpl4 := Lib.hid hpl4
          have Hk4 := Lib.hid (Hk3.out.trans hk4)
          have Hpm4 := Lib.hid ((Bm.swq_perm L' i (2 * i + 1) (by rw [Hlen.out]; omega) (by rw [Hlen.out]; omega)).trans hperm.out)
          have Hsm4 : Hid (∀ k, n ≤ k → Bm.at3 (swq pce0 L' i (2 * i + 1)) k = Bm.at3 L k) := Lib.hid (fun k hk => by
            rw [Bm.swq_at L' i (2 * i + 1) k (by rw [Hlen.out]; omega) (by rw [Hlen.out]; omega), if_neg (by omega), if_neg (by omega)]
            exact hsame.out k hk)
          clear hpl4 hk4 mS eS Hs c3
          go_wp2
          go_roundw
          case rel => exact ⟨(2 * i + 1), swq pce0 L' i (2 * i + 1), by go_num, by omega, by omega, Hpm4, Hsm4, Hdn4, Hpl4, Hk4⟩
          case measure => simp [intOf]; omega
      · have mL := pq_less p nL cap (some ⟨g, 0, none⟩) wr c0
        have eL := enq_less
        have hl := pq_lessC hpl.out (2 * i + 2) (2 * i + 1) (by rw [Hlen.out]; omega) (by rw [Hlen.out]; omega)
        rw [Hlen.out] at hl
        obtain ⟨r, hr⟩ : ∃ r, r = decide (Bm.lt3 (Bm.at3 L' (2 * i + 2)) (Bm.at3 L' (2 * i + 1))) := ⟨_, rfl⟩
        rw [← hr] at hl
        have Hr := Lib.hid hr
        rw [show ((2 * i + 2 : Nat) : Int) = 2 * (i : Int) + 1 + 1 by omega, show ((2 * i + 1 : Nat) : Int) = 2 * (i : Int) + 1 by omega] at hl
        have Hl := Lib.hid hl
        clear hr hl
        go_wp2_with fail
        refine Hl.out.mono ?_
        rintro e w1 ⟨rfl, hb1⟩
        have hpl1 := hpl.out.below hb1
        have Hk1 := Lib.hid (hk.out.trans (KeptW.below hb1 (Nat.le_trans hb hk.out.bel.size)))
        have c1 := hpl1.cell
        rw [Hlen.out] at c1
        have Hpl1 := Lib.hid hpl1
        clear hb1 hpl1 mL eL c0 hk hpl Hl
        cases r with
        | false =>
          have hlt : ¬ Bm.lt3 (Bm.at3 L' (2 * i + 2)) (Bm.at3 L' (2 * i + 1)) := by have := Hr.out; simpa using this.symm
          have Hleast : Hid (∀ k, 0 < k → k < n → (k - 1) / 2 = i → ¬ Bm.lt3 (Bm.at3 L' k) (Bm.at3 L' (2 * i + 1))) := Lib.hid (fun k k0 kn ki => by
            obtain rfl | rfl : k = 2 * i + 1 ∨ k = 2 * i + 2 := by omega
            · rw [Bm.lt3_iff]
              omega
            · exact hlt)
          clear hlt
          have mL2 := pq_less p nL cap (some ⟨g, 0, none⟩) w1 c1
          have eL2 := enq_less
          have hl2 := pq_lessC Hpl1.out (2 * i + 1) i (by rw [Hlen.out]; omega) (by rw [Hlen.out]; omega)
          rw [Hlen.out] at hl2
          obtain ⟨r2, hr2⟩ : ∃ r2, r2 = decide (Bm.lt3 (Bm.at3 L' (2 * i + 1)) (Bm.at3 L' i)) := ⟨_, rfl⟩
          rw [← hr2] at hl2
          have Hr2 := Lib.hid hr2
          have Hl2 := Lib.hid hl2
          clear hr2 hl2
          have hcast : Value.int IntKind.i64 (((2 * i + 1 : Nat)) : Int) = .int .i64 (2 * (i : Int) + 1) := by go_num
          rw [hcast] at Hl2
          clear hcast
          go_wp2_with fail
          refine Hl2.out.mono ?_
          rintro e w3 ⟨rfl, hb3⟩
          have hpl3 := Hpl1.out.below hb3
          have Hk3 := Lib.hid (Hk1.out.trans (KeptW.below hb3 (Nat.le_trans hb Hk1.out.bel.size)))
          have c3 := hpl3.cell
          rw [Hlen.out] at c3
          have Hpl3 := Lib.hid hpl3
          clear hb3 hpl3 mL2 eL2 c1 Hl2
          cases r2 with
          | false =>
            have hlt : ¬ Bm.lt3 (Bm.at3 L' (2 * i + 1)) (Bm.at3 L' i) := by have := Hr2.out; simpa using this.symm
            have hfin : ∃ L', L'.Perm L ∧ Bm.HeapF L' n i0 ∧ (∀ k, n ≤ k → Bm.at3 L' k = Bm.at3 L k) ∧ PilQ w3 base p g cap L' ∧ KeptW base p g w w3 := ⟨L', hperm.out, Bm.downq_end _ _ _ _ hdn.out (fun k k0 kn ki => by
              have h1 := Hleast.out k k0 kn ki
              rw [Bm.lt3_iff] at h1 hlt ⊢
              omega), hsame.out, Hpl3.out, Hk3.out⟩
            have Hf := Lib.hid hfin
            clear hfin hlt
            go_wp2
            go_ret
            exact ⟨bool_endQ _, Hf.out⟩
          | true =>
            have hlt : Bm.lt3 (Bm.at3 L' (2 * i + 1)) (Bm.at3 L' i) := by have := Hr2.out; simpa using this.symm
            have Hlt := Lib.hid hlt
            have mS := pq_swap p nL cap (some ⟨g, 0, none⟩) w3 c3
            have eS := enq_swap
            have hs := pq_swapC Hpl3.out i (2 * i + 1) (by rw [Hlen.out]; omega) (by rw [Hlen.out]; omega)
            rw [Hlen.out] at hs
            have Hs := Lib.hid hs
            clear hs hlt
            go_wp2_with fail
            refine Hs.out.mono ?_
            rintro e w4 ⟨rfl, hpl4, hk4⟩
            have Hdn4 := Lib.hid (Bm.downq_step L' n i0 i (2 * i + 1) (by rw [Hlen.out]; omega) (by omega) (by omega) hii (by omega) hdn.out Hlt.out Hleast.out)
            have Hpl4 := Lib.hid hpl4
            have Hk4 := Lib.hid (Hk3.out.trans hk4)
            have Hpm4 := Lib.hid ((Bm.swq_perm L' i (2 * i + 1) (by rw [Hlen.out]; omega) (by rw [Hlen.out]; omega)).trans hperm.out)
            have Hsm4 : Hid (∀ k, n ≤ k → Bm.at3 (swq pce0 L' i (2 * i + 1)) k = Bm.at3 L k) := Lib.hid (fun k hk => by
              rw [Bm.swq_at L' i (2 * i + 1) k (by rw [Hlen.out]; omega) (by rw [Hlen.out]; omega), if_neg (by omega), if_neg (by omega)]
              exact hsame.out k hk)
            clear hpl4 hk4 mS eS Hs c3
            go_wp2
            go_roundw
            case rel => exact ⟨(2 * i + 1), swq pce0 L' i (2 * i + 1), by go_num, by omega, by omega, Hpm4, Hsm4, Hdn4, Hpl4, Hk4⟩
            case measure => simp [intOf]; omega
        | true =>
          have hlt : Bm.lt3 (Bm.at3 L' (2 * i + 2)) (Bm.at3 L' (2 * i + 1)) := by have := Hr.out; simpa using this.symm
          have Hleast : Hid (∀ k, 0 < k → k < n → (k - 1) / 2 = i → ¬ Bm.lt3 (Bm.at3 L' k) (Bm.at3 L' (2 * i + 2))) := Lib.hid (fun k k0 kn ki => by
            obtain rfl | rfl : k = 2 * i + 1 ∨ k = 2 * i + 2 := by omega
            · rw [Bm.lt3_iff] at hlt ⊢
              omega
            · rw [Bm.lt3_iff]
              omega)
          clear hlt
          have mL2 := pq_less p nL cap (some ⟨g, 0, none⟩) w1 c1
          have eL2 := enq_less
          have hl2 := pq_lessC Hpl1.out (2 * i + 2) i (by rw [Hlen.out]; omega) (by rw [Hlen.out]; omega)
          rw [Hlen.out] at hl2
          obtain ⟨r2, hr2⟩ : ∃ r2, r2 = decide (Bm.lt3 (Bm.at3 L' (2 * i + 2)) (Bm.at3 L' i)) := ⟨_, rfl⟩
          rw [← hr2] at hl2
          have Hr2 := Lib.hid hr2
          have Hl2 := Lib.hid hl2
          clear hr2 hl2
          have hcast : Value.int IntKind.i64 (((2 * i + 2 : Nat)) : Int) = .int .i64 (2 * (i : Int) + 1 + 1) := by go_num
          rw [hcast] at Hl2
          clear hcast
          go_wp2_with fail
          refine Hl2.out.mono ?_
          rintro e w3 ⟨rfl, hb3⟩
          have hpl3 := Hpl1.out.below hb3
          have Hk3 := Lib.hid (Hk1.out.trans (KeptW.below hb3 (Nat.le_trans hb Hk1.out.bel.size)))
          have c3 := hpl3.cell
          rw [Hlen.out] at c3
          have Hpl3 := Lib.hid hpl3
          clear hb3 hpl3 mL2 eL2 c1 Hl2
          cases r2 with
          | false =>
            have hlt : ¬ Bm.lt3 (Bm.at3 L' (2 * i + 2)) (Bm.at3 L' i) := by have := Hr2.out; simpa using this.symm
            have hfin : ∃ L', L'.Perm L ∧ Bm.HeapF L' n i0 ∧ (∀ k, n ≤ k → Bm.at3 L' k = Bm.at3 L k) ∧ PilQ w3 base p g cap L' ∧ KeptW base p g w w3 := ⟨L', hperm.out, Bm.downq_end _ _ _ _ hdn.out (fun k k0 kn ki => by
              have h1 := Hleast.out k k0 kn ki
              rw [Bm.lt3_iff] at h1 hlt ⊢
              omega), hsame.out, Hpl3.out, Hk3.out⟩
            have Hf := Lib.hid hfin
            clear hfin hlt
            go_wp2
            go_ret
            exact ⟨bool_endQ _, Hf.out⟩
          | true =>
            have hlt : Bm.lt3 (Bm.at3 L' (2 * i + 2)) (Bm.at3 L' i) := by have := Hr2.out; simpa using this.symm
            have Hlt := Lib.hid hlt
            have mS := pq_swap p nL cap (some ⟨g, 0, none⟩) w3 c3
            have eS := enq_swap
            have hs := pq_swapC Hpl3.out i (2 * i + 2) (by rw [Hlen.out]; omega) (by rw [Hlen.out]; omega)
            rw [Hlen.out] at hs
            have Hs := Lib.hid hs
            clear hs hlt
            go_wp2_with fail
            refine Hs.out.mono ?_
            rintro e w4 ⟨rfl, hpl4, hk4⟩
            have Hdn4 := Lib.hid (Bm.downq_step L' n i0 i (2 * i + 2) (by rw [Hlen.out]; omega) (by omega) (by omega) hii (by omega) hdn.out Hlt.out Hleast.out)
            have Hpl4 := Lib.hid hpl4
            have Hk4 := Lib.hid (Hk3.out.trans hk4)
            have Hpm4 := Lib.hid ((Bm.swq_perm L' i (2 * i + 2) (by rw [Hlen.out]; omega) (by rw [Hlen.out]; omega)).trans hperm.out)
            have Hsm4 : Hid (∀ k, n ≤ k → Bm.at3 (swq pce0 L' i (2 * i + 2)) k = Bm.at3 L k) := Lib.hid (fun k hk => by
              rw [Bm.swq_at L' i (2 * i + 2) k (by rw [Hlen.out]; omega) (by rw [Hlen.out]; omega), if_neg (by omega), if_neg (by omega)]
              exact hsame.out k hk)
            clear hpl4 hk4 mS eS Hs c3
            go_wp2
            go_roundw
            case rel => exact ⟨(2 * i + 2), swq pce0 L' i (2 * i + 2), by go_num, by omega, by omega, Hpm4, Hsm4, Hdn4, Hpl4, Hk4⟩
            case measure => simp [intOf]; omega
end Go.Proofs.Ytaebnkeddcbmkaa
