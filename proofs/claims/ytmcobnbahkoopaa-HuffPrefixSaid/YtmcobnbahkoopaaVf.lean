/-
  The program's layer 9 (huff): container/heap over a pile, by its walk: up, down, Push, Pop; lightest. Conditions: as each theorem's premises say.
-/
import Derived.Test.YtmcobnbahkoopaaVd
import Derived.Test.YtmcobnbahkoopaaVe
namespace Go.Proofs.Ytmcobnbahkoopaa
open Go.RowKit
section
variable {w : World} {base p g cap n c : Nat} {L : List Nod}
theorem pl_less (h : Pile w base p g cap L) (i j : Nat) (hi : i < L.length) (hj : j < L.length) :
    Calls Try.prog 70 #[.slice (some ⟨g, 0, none⟩) L.length cap, .int .i64 (i : Int), .int .i64 (j : Int)] w fun e w' => e = .returned (.bool (decide (Bm.lt2 (Bm.at2 L i) (Bm.at2 L j)))) ∧ Below w.heap.size w w' := by
  obtain ⟨post, _, hr⟩ := h.row
  have h1 := row2_cell (f := nodW) (h := nodP) hr i hi
  have h2 := row2_cell (f := nodW) (h := nodP) hr j hj
  unfold Bm.at2
  rw [List.getElem?_eq_getElem hi, List.getElem?_eq_getElem hj, Option.getD_some, Option.getD_some]
  exact upless_any g L.length cap i j L[i] L[j] w hi hj h1 h2
theorem pl_swap (h : Pile w base p g cap L) (i j : Nat) (hi : i < L.length) (hj : j < L.length) :
    Calls Try.prog 73 #[.slice (some ⟨g, 0, none⟩) L.length cap, .int .i64 (i : Int), .int .i64 (j : Int)] w fun e w' => e = .returned (.tuple #[]) ∧ Pile w' base p g cap (swp (0, 0) L i j) ∧ KeptG base p g w w' := by
  obtain ⟨post, hl, hr⟩ := h.row
  refine (upswap_any g cap i j L post w hi hj hr).mono ?_
  rintro e w' ⟨he, h1, h2⟩
  exact ⟨he, h.same (swp_length _ _ _ _) h2 hl h1, KeptG.grown h2 hr.lt (.inr rfl) h.lowg⟩
end
theorem ent_less : ∀ args w, (callFunc 70 args).run Try.prog w = .ok (.enter 70 args) w := enters_of Try.func70 (by kernel_rfl) rfl
theorem ent_swap : ∀ args w, (callFunc 73 args).run Try.prog w = .ok (.enter 73 args) w := enters_of Try.func73 (by kernel_rfl) rfl
theorem ent_len : ∀ args w, (callFunc 30 args).run Try.prog w = .ok (.enter 30 args) w := enters_of Try.func30 (by kernel_rfl) rfl
theorem ent_push : ∀ args w, (callFunc 72 args).run Try.prog w = .ok (.enter 72 args) w := enters_of Try.func72 (by kernel_rfl) rfl
theorem ent_pop : ∀ args w, (callFunc 71 args).run Try.prog w = .ok (.enter 71 args) w := enters_of Try.func71 (by kernel_rfl) rfl
set_option maxHeartbeats 4000000 in
set_option maxRecDepth 100000 in
theorem hpup_any (base p g cap j : Nat) (L : List Nod) (w : World) (hb : base ≤ w.heap.size) (hL : L.length ≤ 100000) (hj : j < L.length) (hp : Pile w base p g cap L) (hu : Bm.UpN L L.length j) :
    Calls Try.prog 45 #[.iface 37 (.pointer (some ⟨p, 0, none⟩)), .int .i64 (j : Int)] w fun e w' => e = .returned (.tuple #[]) ∧ ∃ L', L'.Perm L ∧ Bm.HeapN L' L'.length ∧ Pile w' base p g cap L' ∧ KeptG base p g w w' := by
  obtain ⟨n, hn⟩ : ∃ n, n = L.length := ⟨_, rfl⟩
  rw [← hn] at hL hj hu
  have Hn := Lib.hid hn
  have Hp := Lib.hid hp
  have Hu := Lib.hid hu
  clear hn hp hu
  go_enter Try.func45, Try.ntmps45
  go_wp2
  go_loopw [1] (fun jv wr => ∃ (j : Nat) (L' : List Nod), jv = .int .i64 (j : Int) ∧ j < n ∧ Hid (L'.Perm L) ∧ Hid (Bm.UpN L' n j) ∧ Hid (Pile wr base p g cap L') ∧ Hid (KeptG base p g w wr)) (fun jv _ => (intOf jv).toNat)
  case atStart => exact ⟨j, L, rfl, hj, Lib.hid (List.Perm.refl _), Hu, Hp, Lib.hid (KeptG.refl _ _ _ _)⟩
  case round =>
    obtain ⟨j, L', rfl, hj, hperm, hup, hpl, hk⟩ := hrel
    clear Hp Hu
    have hlen : L'.length = n := by rw [hperm.out.length_eq, Hn.out]
    have Hlen := Lib.hid hlen
    have c0 := hpl.out.cell
    rw [hlen] at c0
    clear hlen
    by_cases h0 : j = 0
    · subst h0
      have hfin : ∃ L', L'.Perm L ∧ Bm.HeapN L' L'.length ∧ Pile wr base p g cap L' ∧ KeptG base p g w wr := ⟨L', hperm.out, by rw [Hlen.out]; exact Bm.up_end0 _ _ hup.out, hpl.out, hk.out⟩
      have Hf := Lib.hid hfin
      clear hfin
      go_wp2
      go_end0
      exact ⟨rfl, Hf.out⟩
    · have mL := pm_less p n cap (some ⟨g, 0, none⟩) wr c0
      have eL := ent_less
      obtain ⟨i, hi⟩ : ∃ i, i = (j - 1) / 2 := ⟨_, rfl⟩
      have hq : ((j - 1 : Nat) : Int) / 2 = (i : Int) := by omega
      have hq2 : ((j : Int) - 1) / 2 = (i : Int) := by omega
      have hij : i < j := by omega
      have hl := pl_less hpl.out j i (by rw [Hlen.out]; exact hj) (by rw [Hlen.out]; omega)
      rw [Hlen.out] at hl
      have Hl := Lib.hid hl
      have Hi := Lib.hid hi
      clear hl hi
      obtain ⟨r, hr⟩ : ∃ r, r = decide (Bm.lt2 (Bm.at2 L' j) (Bm.at2 L' i)) := ⟨_, rfl⟩
      rw [← hr] at Hl
      have Hr := Lib.hid hr
      clear hr
      go_wp2_with fail
      refine Hl.out.mono ?_
      rintro e w1 ⟨rfl, hb1⟩
      clear hq hq2
      have hpl1 := hpl.out.below hb1
      have Hk1 := Lib.hid (hk.out.trans (KeptG.below hb1 (Nat.le_trans hb hk.out.bel.size)))
      have c1 := hpl1.cell
      rw [Hlen.out] at c1
      have Hpl1 := Lib.hid hpl1
      clear hb1 hpl1 mL eL c0 hk hpl Hl
      cases r with
      | false =>
        have hlt : ¬ Bm.lt2 (Bm.at2 L' j) (Bm.at2 L' i) := by have := Hr.out; simpa using this.symm
        rw [Hi.out] at hlt
        have hfin : ∃ L', L'.Perm L ∧ Bm.HeapN L' L'.length ∧ Pile w1 base p g cap L' ∧ KeptG base p g w w1 := ⟨L', hperm.out, by rw [Hlen.out]; exact Bm.up_end _ _ _ hup.out hlt, Hpl1.out, Hk1.out⟩
        have Hf := Lib.hid hfin
        clear hfin hlt
        go_wp2
        go_end0
        exact ⟨rfl, Hf.out⟩
      | true =>
        have hlt : Bm.lt2 (Bm.at2 L' j) (Bm.at2 L' i) := by have := Hr.out; simpa using this.symm
        have Hlt := Lib.hid hlt
        have mS := pm_swap p n cap (some ⟨g, 0, none⟩) w1 c1
        have eS := ent_swap
        have hs := pl_swap Hpl1.out i j (by rw [Hlen.out]; omega) (by rw [Hlen.out]; exact hj)
        rw [Hlen.out] at hs
        have Hs := Lib.hid hs
        clear hs hlt
        go_wp2_with fail
        refine Hs.out.mono ?_
        rintro e w2 ⟨rfl, hpl2, hk2⟩
        have hup2 : Bm.UpN (swp (0, 0) L' i j) n i := by
          have h1 := Bm.up_step L' n j (by rw [Hlen.out]; exact Nat.le_refl _) hj (by omega) hup.out (by rw [← Hi.out]; exact Hlt.out)
          rw [← Hi.out] at h1
          exact h1
        have Hup2 := Lib.hid hup2
        have Hpl2 := Lib.hid hpl2
        have Hk2 := Lib.hid (Hk1.out.trans hk2)
        have Hpm2 := Lib.hid ((Bm.swp_perm L' i j (by rw [Hlen.out]; omega) (by rw [Hlen.out]; exact hj)).trans hperm.out)
        clear hup2 hpl2 hk2 mS eS Hs c1
        go_wp2
        go_roundw
        case rel => exact ⟨i, swp (0, 0) L' i j, rfl, by omega, Hpm2, Hup2, Hpl2, Hk2⟩
        case measure => simp [intOf]; omega
end Go.Proofs.Ytmcobnbahkoopaa
