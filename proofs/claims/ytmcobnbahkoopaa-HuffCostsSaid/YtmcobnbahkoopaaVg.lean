/-
  The program's layer 9 (huff): container/heap's down over a pile, by its walk. Conditions: as the theorem's premises say.
-/
import Derived.Test.YtmcobnbahkoopaaVf
namespace Go.Proofs.Ytmcobnbahkoopaa
open Go.RowKit
/-- Some Boolean is answered. -/
def BoolEnd (e : Ending) : Prop := ∃ b, e = .returned (.bool b)
theorem bool_end (b : Bool) : BoolEnd (.returned (.bool b)) := ⟨b, rfl⟩
set_option maxHeartbeats 1000000 in
set_option maxRecDepth 100000 in
theorem hpdown_any (base p g cap n : Nat) (L : List Nod) (w : World) (hb : base ≤ w.heap.size) (hL : L.length ≤ 100000) (hn : n < L.length) (hp : Pile w base p g cap L) (hd : Bm.DownN L n 0) :
    Calls Try.prog 46 #[.iface 37 (.pointer (some ⟨p, 0, none⟩)), .int .i64 0, .int .i64 (n : Int)] w fun e w' => BoolEnd e ∧ ∃ L', L'.Perm L ∧ Bm.HeapN L' n ∧ (∀ k, n ≤ k → Bm.at2 L' k = Bm.at2 L k) ∧ Pile w' base p g cap L' ∧ KeptG base p g w w' := by
  obtain ⟨nL, hnL⟩ : ∃ nL, nL = L.length := ⟨_, rfl⟩
  rw [← hnL] at hL hn
  have HnL := Lib.hid hnL
  have Hp := Lib.hid hp
  have Hd := Lib.hid hd
  clear hnL hp hd
  go_enter Try.func46, Try.ntmps46
  go_wp2
  go_loopw [7] (fun iv wr => ∃ (i : Nat) (L' : List Nod), iv = .int .i64 (i : Int) ∧ i ≤ n ∧ Hid (L'.Perm L) ∧ Hid (∀ k, n ≤ k → Bm.at2 L' k = Bm.at2 L k) ∧ Hid (Bm.DownN L' n i) ∧ Hid (Pile wr base p g cap L') ∧ Hid (KeptG base p g w wr)) (fun iv _ => n - (intOf iv).toNat)
  case atStart => exact ⟨0, L, rfl, by omega, Lib.hid (List.Perm.refl _), Lib.hid (fun _ _ => rfl), Hd, Hp, Lib.hid (KeptG.refl _ _ _ _)⟩
  case round =>
    obtain ⟨i, L', rfl, hi, hperm, hsame, hdn, hpl, hk⟩ := hrel
    clear Hp Hd
    have hlen : L'.length = nL := by rw [hperm.out.length_eq, HnL.out]
    have Hlen := Lib.hid hlen
    have c0 := hpl.out.cell
    rw [hlen] at c0
    clear hlen
    by_cases h1 : n ≤ 2 * i + 1
    · have hfin : ∃ L', L'.Perm L ∧ Bm.HeapN L' n ∧ (∀ k, n ≤ k → Bm.at2 L' k = Bm.at2 L k) ∧ Pile wr base p g cap L' ∧ KeptG base p g w wr := ⟨L', hperm.out, Bm.down_end _ _ _ hdn.out (fun k k0 kn ki => by omega), hsame.out, hpl.out, hk.out⟩
      have Hf := Lib.hid hfin
      clear hfin
      go_wp2
      go_ret
      exact ⟨bool_end _, Hf.out⟩
    · by_cases h2 : n ≤ 2 * i + 2
      · have Hleast : Hid (∀ k, 0 < k → k < n → (k - 1) / 2 = i → ¬ Bm.lt2 (Bm.at2 L' k) (Bm.at2 L' (2 * i + 1))) := Lib.hid (fun k k0 kn ki => by
          obtain rfl : k = 2 * i + 1 := by omega
          rw [Bm.lt2_iff]
          omega)
        have mL2 := pm_less p nL cap (some ⟨g, 0, none⟩) wr c0
        have eL2 := ent_less
        have hl2 := pl_less hpl.out (2 * i + 1) i (by rw [Hlen.out]; omega) (by rw [Hlen.out]; omega)
        rw [Hlen.out] at hl2
        obtain ⟨r2, hr2⟩ : ∃ r2, r2 = decide (Bm.lt2 (Bm.at2 L' (2 * i + 1)) (Bm.at2 L' i)) := ⟨_, rfl⟩
        rw [← hr2] at hl2
        have Hr2 := Lib.hid hr2
        have Hl2 := Lib.hid hl2
        clear hr2 hl2
        have hcast : Value.int IntKind.i64 (((2 * i + 1 : Nat)) : Int) = .int .i64 (2 * (i : Int) + 1) := by go_num
        rw [hcast] at Hl2
        clear hcast
        go_wp2_with fail
        refine Hl2.out.mono ?_
        rintro e w3 ⟨rfl, hb3⟩
        have hpl3 := hpl.out.below hb3
        have Hk3 := Lib.hid (hk.out.trans (KeptG.below hb3 (Nat.le_trans hb hk.out.bel.size)))
        have c3 := hpl3.cell
        rw [Hlen.out] at c3
        have Hpl3 := Lib.hid hpl3
        clear hb3 hpl3 mL2 eL2 c0 Hl2
        cases r2 with
        | false =>
          have hlt : ¬ Bm.lt2 (Bm.at2 L' (2 * i + 1)) (Bm.at2 L' i) := by have := Hr2.out; simpa using this.symm
          have hfin : ∃ L', L'.Perm L ∧ Bm.HeapN L' n ∧ (∀ k, n ≤ k → Bm.at2 L' k = Bm.at2 L k) ∧ Pile w3 base p g cap L' ∧ KeptG base p g w w3 := ⟨L', hperm.out, Bm.down_end _ _ _ hdn.out (fun k k0 kn ki => by
            have h1 := Hleast.out k k0 kn ki
            rw [Bm.lt2_iff] at h1 hlt ⊢
            omega), hsame.out, Hpl3.out, Hk3.out⟩
          have Hf := Lib.hid hfin
          clear hfin hlt
          go_wp2
          go_ret
          exact ⟨bool_end _, Hf.out⟩
        | true =>
          have hlt : Bm.lt2 (Bm.at2 L' (2 * i + 1)) (Bm.at2 L' i) := by have := Hr2.out; simpa using this.symm
          have Hlt := Lib.hid hlt
          have mS := pm_swap p nL cap (some ⟨g, 0, none⟩) w3 c3
          have eS := ent_swap
          have hs := pl_swap Hpl3.out i (2 * i + 1) (by rw [Hlen.out]; omega) (by rw [Hlen.out]; omega)
          rw [Hlen.out] at hs
          have Hs := Lib.hid hs
          clear hs hlt
          go_wp2_with fail
          refine Hs.out.mono ?_
          rintro e w4 ⟨rfl, hpl4, hk4⟩
          have Hdn4 := Lib.hid (Bm.down_step L' n i (2 * i + 1) (by rw [Hlen.out]; omega) (by omega) (by omega) (by omega) hdn.out Hlt.out Hleast.out)
          have Hpl4 := Lib.hid hpl4
          have Hk4 := Lib.hid (Hk3.out.trans hk4)
          have Hpm4 := Lib.hid ((Bm.swp_perm L' i (2 * i + 1) (by rw [Hlen.out]; omega) (by rw [Hlen.out]; omega)).trans hperm.out)
          have Hsm4 : Hid (∀ k, n ≤ k → Bm.at2 (swp (0, 0) L' i (2 * i + 1)) k = Bm.at2 L k) := Lib.hid (fun k hk => by
            rw [Bm.swp_at L' i (2 * i + 1) k (by rw [Hlen.out]; omega) (by rw [Hlen.out]; omega), if_neg (by omega), if_neg (by omega)]
            exact hsame.out k hk)
          clear hpl4 hk4 mS eS Hs c3
          go_wp2
          go_roundw
          case rel => exact ⟨(2 * i + 1), swp (0, 0) L' i (2 * i + 1), by go_num, by omega, Hpm4, Hsm4, Hdn4, Hpl4, Hk4⟩
          case measure => simp [intOf]; omega
      · have mL := pm_less p nL cap (some ⟨g, 0, none⟩) wr c0
        have eL := ent_less
        have hl := pl_less hpl.out (2 * i + 2) (2 * i + 1) (by rw [Hlen.out]; omega) (by rw [Hlen.out]; omega)
        rw [Hlen.out] at hl
        obtain ⟨r, hr⟩ : ∃ r, r = decide (Bm.lt2 (Bm.at2 L' (2 * i + 2)) (Bm.at2 L' (2 * i + 1))) := ⟨_, rfl⟩
        rw [← hr] at hl
        have Hr := Lib.hid hr
        rw [show ((2 * i + 2 : Nat) : Int) = 2 * (i : Int) + 1 + 1 by omega, show ((2 * i + 1 : Nat) : Int) = 2 * (i : Int) + 1 by omega] at hl
        have Hl := Lib.hid hl
        clear hr hl
        go_wp2_with fail
        refine Hl.out.mono ?_
        rintro e w1 ⟨rfl, hb1⟩
        have hpl1 := hpl.out.below hb1
        have Hk1 := Lib.hid (hk.out.trans (KeptG.below hb1 (Nat.le_trans hb hk.out.bel.size)))
        have c1 := hpl1.cell
        rw [Hlen.out] at c1
        have Hpl1 := Lib.hid hpl1
        clear hb1 hpl1 mL eL c0 hk hpl Hl
        cases r with
        | false =>
          have hlt : ¬ Bm.lt2 (Bm.at2 L' (2 * i + 2)) (Bm.at2 L' (2 * i + 1)) := by have := Hr.out; simpa using this.symm
          have Hleast : Hid (∀ k, 0 < k → k < n → (k - 1) / 2 = i → ¬ Bm.lt2 (Bm.at2 L' k) (Bm.at2 L' (2 * i + 1))) := Lib.hid (fun k k0 kn ki => by
            obtain rfl | rfl : k = 2 * i + 1 ∨ k = 2 * i + 2 := by omega
            · rw [Bm.lt2_iff]
              omega
            · exact hlt)
          clear hlt
          have mL2 := pm_less p nL cap (some ⟨g, 0, none⟩) w1 c1
          have eL2 := ent_less
          have hl2 := pl_less Hpl1.out (2 * i + 1) i (by rw [Hlen.out]; omega) (by rw [Hlen.out]; omega)
          rw [Hlen.out] at hl2
          obtain ⟨r2, hr2⟩ : ∃ r2, r2 = decide (Bm.lt2 (Bm.at2 L' (2 * i + 1)) (Bm.at2 L' i)) := ⟨_, rfl⟩
          rw [← hr2] at hl2
          have Hr2 := Lib.hid hr2
          have Hl2 := Lib.hid hl2
          clear hr2 hl2
          have hcast : Value.int IntKind.i64 (((2 * i + 1 : Nat)) : Int) = .int .i64 (2 * (i : Int) + 1) := by go_num
          rw [hcast] at Hl2
          clear hcast
          go_wp2_with fail
          refine Hl2.out.mono ?_
          rintro e w3 ⟨rfl, hb3⟩
          have hpl3 := Hpl1.out.below hb3
          have Hk3 := Lib.hid (Hk1.out.trans (KeptG.below hb3 (Nat.le_trans hb Hk1.out.bel.size)))
          have c3 := hpl3.cell
          rw [Hlen.out] at c3
          have Hpl3 := Lib.hid hpl3
          clear hb3 hpl3 mL2 eL2 c1 Hl2
          cases r2 with
          | false =>
            have hlt : ¬ Bm.lt2 (Bm.at2 L' (2 * i + 1)) (Bm.at2 L' i) := by have := Hr2.out; simpa using this.symm
            have hfin : ∃ L', L'.Perm L ∧ Bm.HeapN L' n ∧ (∀ k, n ≤ k → Bm.at2 L' k = Bm.at2 L k) ∧ Pile w3 base p g cap L' ∧ KeptG base p g w w3 := ⟨L', hperm.out, Bm.down_end _ _ _ hdn.out (fun k k0 kn ki => by
              have h1 := Hleast.out k k0 kn ki
              rw [Bm.lt2_iff] at h1 hlt ⊢
              omega), hsame.out, Hpl3.out, Hk3.out⟩
            have Hf := Lib.hid hfin
            clear hfin hlt
            go_wp2
            go_ret
            exact ⟨bool_end _, Hf.out⟩
          | true =>
            have hlt : Bm.lt2 (Bm.at2 L' (2 * i + 1)) (Bm.at2 L' i) := by have := Hr2.out; simpa using this.symm
            have Hlt := Lib.hid hlt
            have mS := pm_swap p nL cap (some ⟨g, 0, none⟩) w3 c3
            have eS := ent_swap
            have hs := pl_swap Hpl3.out i (2 * i + 1) (by rw [Hlen.out]; omega) (by rw [Hlen.out]; omega)
            rw [Hlen.out] at hs
            have Hs := Lib.hid hs
            clear hs hlt
            go_wp2_with fail
            refine Hs.out.mono ?_
            rintro e w4 ⟨rfl, hpl4, hk4⟩
            have Hdn4 := Lib.hid (Bm.down_step L' n i (2 * i + 1) (by rw [Hlen.out]; omega) (by omega) (by omega) (by omega) hdn.out Hlt.out Hleast.out)
            have Hpl4 := Lib.hid hpl4
            have Hk4 := Lib.hid (Hk3.out.trans hk4)
            have Hpm4 := Lib.hid ((Bm.swp_perm L' i (2 * i + 1) (by rw [Hlen.out]; omega) (by rw [Hlen.out]; omega)).trans hperm.out)
            have Hsm4 : Hid (∀ k, n ≤ k → Bm.at2 (swp (0, 0) L' i (2 * i + 1)) k = Bm.at2 L k) := Lib.hid (fun k hk => by
              rw [Bm.swp_at L' i (2 * i + 1) k (by rw [Hlen.out]; omega) (by rw [Hlen.out]; omega), if_neg (by omega), if_neg (by omega)]
              exact hsame.out k hk)
            clear hpl4 hk4 mS eS Hs c3
            go_wp2
            go_roundw
            case rel => exact ⟨(2 * i + 1), swp (0, 0) L' i (2 * i + 1), by go_num, by omega, Hpm4, Hsm4, Hdn4, Hpl4, Hk4⟩
            case measure => simp [intOf]; omega
        | true =>
          have hlt : Bm.lt2 (Bm.at2 L' (2 * i + 2)) (Bm.at2 L' (2 * i + 1)) := by have := Hr.out; simpa using this.symm
          have Hleast : Hid (∀ k, 0 < k → k < n → (k - 1) / 2 = i → ¬ Bm.lt2 (Bm.at2 L' k) (Bm.at2 L' (2 * i + 2))) := Lib.hid (fun k k0 kn ki => by
            obtain rfl | rfl : k = 2 * i + 1 ∨ k = 2 * i + 2 := by omega
            · rw [Bm.lt2_iff] at hlt ⊢
              omega
            · rw [Bm.lt2_iff]
              omega)
          clear hlt
          have mL2 := pm_less p nL cap (some ⟨g, 0, none⟩) w1 c1
          have eL2 := ent_less
          have hl2 := pl_less Hpl1.out (2 * i + 2) i (by rw [Hlen.out]; omega) (by rw [Hlen.out]; omega)
          rw [Hlen.out] at hl2
          obtain ⟨r2, hr2⟩ : ∃ r2, r2 = decide (Bm.lt2 (Bm.at2 L' (2 * i + 2)) (Bm.at2 L' i)) := ⟨_, rfl⟩
          rw [← hr2] at hl2
          have Hr2 := Lib.hid hr2
          have Hl2 := Lib.hid hl2
          clear hr2 hl2
          have hcast : Value.int IntKind.i64 (((2 * i + 2 : Nat)) : Int) = .int .i64 (2 * (i : Int) + 1 + 1) := by go_num
          rw [hcast] at Hl2
          clear hcast
          go_wp2_with fail
          refine Hl2.out.mono ?_
          rintro e w3 ⟨rfl, hb3⟩
          have hpl3 := Hpl1.out.below hb3
          have Hk3 := Lib.hid (Hk1.out.trans (KeptG.below hb3 (Nat.le_trans hb Hk1.out.bel.size)))
          have c3 := hpl3.cell
          rw [Hlen.out] at c3
          have Hpl3 := Lib.hid hpl3
          clear hb3 hpl3 mL2 eL2 c1 Hl2
          cases r2 with
          | false =>
            have hlt : ¬ Bm.lt2 (Bm.at2 L' (2 * i + 2)) (Bm.at2 L' i) := by have := Hr2.out; simpa using this.symm
            have hfin : ∃ L', L'.Perm L ∧ Bm.HeapN L' n ∧ (∀ k, n ≤ k → Bm.at2 L' k = Bm.at2 L k) ∧ Pile w3 base p g cap L' ∧ KeptG base p g w w3 := ⟨L', hperm.out, Bm.down_end _ _ _ hdn.out (fun k k0 kn ki => by
              have h1 := Hleast.out k k0 kn ki
              rw [Bm.lt2_iff] at h1 hlt ⊢
              omega), hsame.out, Hpl3.out, Hk3.out⟩
            have Hf := Lib.hid hfin
            clear hfin hlt
            go_wp2
            go_ret
            exact ⟨bool_end _, Hf.out⟩
          | true =>
            have hlt : Bm.lt2 (Bm.at2 L' (2 * i + 2)) (Bm.at2 L' i) := by have := Hr2.out; simpa using this.symm
            have Hlt := Lib.hid hlt
            have mS := pm_swap p nL cap (some ⟨g, 0, none⟩) w3 c3
            have eS := ent_swap
            have hs := pl_swap Hpl3.out i (2 * i + 2) (by rw [Hlen.out]; omega) (by rw [Hlen.out]; omega)
            rw [Hlen.out] at hs
            have Hs := Lib.hid hs
            clear hs hlt
            go_wp2_with fail
            refine Hs.out.mono ?_
            rintro e w4 ⟨rfl, hpl4, hk4⟩
            have Hdn4 := Lib.hid (Bm.down_step L' n i (2 * i + 2) (by rw [Hlen.out]; omega) (by omega) (by omega) (by omega) hdn.out Hlt.out Hleast.out)
            have Hpl4 := Lib.hid hpl4
            have Hk4 := Lib.hid (Hk3.out.trans hk4)
            have Hpm4 := Lib.hid ((Bm.swp_perm L' i (2 * i + 2) (by rw [Hlen.out]; omega) (by rw [Hlen.out]; omega)).trans hperm.out)
            have Hsm4 : Hid (∀ k, n ≤ k → Bm.at2 (swp (0, 0) L' i (2 * i + 2)) k = Bm.at2 L k) := Lib.hid (fun k hk => by
              rw [Bm.swp_at L' i (2 * i + 2) k (by rw [Hlen.out]; omega) (by rw [Hlen.out]; omega), if_neg (by omega), if_neg (by omega)]
              exact hsame.out k hk)
            clear hpl4 hk4 mS eS Hs c3
            go_wp2
            go_roundw
            case rel => exact ⟨(2 * i + 2), swp (0, 0) L' i (2 * i + 2), by go_num, by omega, Hpm4, Hsm4, Hdn4, Hpl4, Hk4⟩
            case measure => simp [intOf]; omega
end Go.Proofs.Ytmcobnbahkoopaa
