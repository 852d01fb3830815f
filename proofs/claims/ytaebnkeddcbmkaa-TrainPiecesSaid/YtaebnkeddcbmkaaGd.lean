/-
  The program's layer 19 (train): container/heap over a heap of pieces, by its walk: up. Conditions: as each theorem's premises say.
-/
import Derived.Test.YtaebnkeddcbmkaaGb
import Derived.Test.YtaebnkeddcbmkaaGc
namespace Go.Proofs.Ytaebnkeddcbmkaa
open Go.RowKit
section
variable {w : World} {base p g cap n c : Nat} {L : List Pce}
theorem pq_lessC (h : PilQ w base p g cap L) (i j : Nat) (hi : i < L.length) (hj : j < L.length) :
    Calls Try.prog 66 #[.slice (some ⟨g, 0, none⟩) L.length cap, .int .i64 (i : Int), .int .i64 (j : Int)] w fun e w' => e = .returned (.bool (decide (Bm.lt3 (Bm.at3 L i) (Bm.at3 L j)))) ∧ Below w.heap.size w w' := by
  obtain ⟨post, _, hr⟩ := h.row
  have h1 := row3_cell (f := pcT) (h := pcW) (k := pcO) hr i hi
  have h2 := row3_cell (f := pcT) (h := pcW) (k := pcO) hr j hj
  unfold Bm.at3
  rw [List.getElem?_eq_getElem hi, List.getElem?_eq_getElem hj, Option.getD_some, Option.getD_some]
  exact pcless_any g L.length cap i j L[i] L[j] w hi hj h1.2 h2.2
theorem pq_swapC (h : PilQ w base p g cap L) (i j : Nat) (hi : i < L.length) (hj : j < L.length) :
    Calls Try.prog 69 #[.slice (some ⟨g, 0, none⟩) L.length cap, .int .i64 (i : Int), .int .i64 (j : Int)] w fun e w' => e = .returned (.tuple #[]) ∧ PilQ w' base p g cap (swq pce0 L i j) ∧ KeptW base p g w w' := by
  obtain ⟨post, hl, hr⟩ := h.row
  refine (pcswap_any g cap i j L post w hi hj hr).mono ?_
  rintro e w' ⟨he, h1, h2⟩
  exact ⟨he, h.same (swq_length _ _ _ _) h2 hl h1, KeptW.grown h2 hr.lt (.inr rfl) h.lowg⟩
end
theorem enq_less : ∀ args w, (callFunc 66 args).run Try.prog w = .ok (.enter 66 args) w := enters_of Try.func66 (by kernel_rfl) rfl
theorem enq_swap : ∀ args w, (callFunc 69 args).run Try.prog w = .ok (.enter 69 args) w := enters_of Try.func69 (by kernel_rfl) rfl
theorem enq_len : ∀ args w, (callFunc 29 args).run Try.prog w = .ok (.enter 29 args) w := enters_of Try.func29 (by kernel_rfl) rfl
theorem enq_push : ∀ args w, (callFunc 68 args).run Try.prog w = .ok (.enter 68 args) w := enters_of Try.func68 (by kernel_rfl) rfl
theorem enq_pop : ∀ args w, (callFunc 67 args).run Try.prog w = .ok (.enter 67 args) w := enters_of Try.func67 (by kernel_rfl) rfl
set_option maxHeartbeats 4000000 in
set_option maxRecDepth 100000 in
theorem hqup_any (base p g cap j : Nat) (L : List Pce) (w : World) (hb : base ≤ w.heap.size) (hL : L.length ≤ 100000) (hj : j < L.length) (hp : PilQ w base p g cap L) (hu : Bm.UpQ L L.length j) :
    Calls Try.prog 38 #[.iface 36 (.pointer (some ⟨p, 0, none⟩)), .int .i64 (j : Int)] w fun e w' => e = .returned (.tuple #[]) ∧ ∃ L', L'.Perm L ∧ Bm.HeapQ L' L'.length ∧ PilQ w' base p g cap L' ∧ KeptW base p g w w' := by
  obtain ⟨n, hn⟩ : ∃ n, n = L.length := ⟨_, rfl⟩
  rw [← hn] at hL hj hu
  have Hn := Lib.hid hn
  have Hp := Lib.hid hp
  have Hu := Lib.hid hu
  clear hn hp hu
  go_enter Try.func38, Try.ntmps38
  go_wp2
  go_loopw [1] (fun jv wr => ∃ (j : Nat) (L' : List Pce), jv = .int .i64 (j : Int) ∧ j < n ∧ Hid (L'.Perm L) ∧ Hid (Bm.UpQ L' n j) ∧ Hid (PilQ wr base p g cap L') ∧ Hid (KeptW base p g w wr)) (fun jv _ => (intOf jv).toNat)
  case atStart => exact ⟨j, L, rfl, hj, Lib.hid (List.Perm.refl _), Hu, Hp, Lib.hid (KeptW.refl _ _ _ _)⟩
  case round =>
    obtain ⟨j, L', rfl, hj, hperm, hup, hpl, hk⟩ := hrel
    clear Hp Hu
    have hlen : L'.length = n := by rw [hperm.out.length_eq, Hn.out]
    have Hlen := Lib.hid hlen
    have c0 := hpl.out.cell
    rw [hlen] at c0
    clear hlen
    by_cases h0 : j = 0
    · subst h0
      have hfin : ∃ L', L'.Perm L ∧ Bm.HeapQ L' L'.length ∧ PilQ wr base p g cap L' ∧ KeptW base p g w wr := ⟨L', hperm.out, by rw [Hlen.out]; exact Bm.upq_end0 _ _ hup.out, hpl.out, hk.out⟩
      have Hf := Lib.hid hfin
      clear hfin
      go_wp2
      go_end0
      exact ⟨rfl, Hf.out⟩
    · have mL := pq_less p n cap (some ⟨g, 0, none⟩) wr c0
      have eL := enq_less
      obtain ⟨i, hi⟩ : ∃ i, i = (j - 1) / 2 := ⟨_, rfl⟩
      have hq : ((j - 1 : Nat) : Int) / 2 = (i : Int) := by omega
      have hq2 : ((j : Int) - 1) / 2 = (i : Int) := by omega
      have hij : i < j := by omega
      have hl := pq_lessC hpl.out j i (by rw [Hlen.out]; exact hj) (by rw [Hlen.out]; omega)
      rw [Hlen.out] at hl
      have Hl := Lib.hid hl
      have Hi := Lib.hid hi
      clear hl hi
      obtain ⟨r, hr⟩ : ∃ r, r = decide (Bm.lt3 (Bm.at3 L' j) (Bm.at3 L' i)) := ⟨_, rfl⟩
      rw [← hr] at Hl
      have Hr := Lib.hid hr
      clear hr
      go_wp2_with fail
      refine Hl.out.mono ?_
      rintro e w1 ⟨rfl, hb1⟩
      clear hq hq2
      have hpl1 := hpl.out.below hb1
      have Hk1 := Lib.hid (hk.out.trans (KeptW.below hb1 (Nat.le_trans hb hk.out.bel.size)))
      have c1 := hpl1.cell
      rw [Hlen.out] at c1
      have Hpl1 := Lib.hid hpl1
      clear hb1 hpl1 mL eL c0 hk hpl Hl
      cases r with
      | false =>
        have hlt : ¬ Bm.lt3 (Bm.at3 L' j) (Bm.at3 L' i) := by have := Hr.out; simpa using this.symm
        rw [Hi.out] at hlt
        have hfin : ∃ L', L'.Perm L ∧ Bm.HeapQ L' L'.length ∧ PilQ w1 base p g cap L' ∧ KeptW base p g w w1 := ⟨L', hperm.out, by rw [Hlen.out]; exact Bm.upq_end _ _ _ hup.out hlt, Hpl1.out, Hk1.out⟩
        have Hf := Lib.hid hfin
        clear hfin hlt
        go_wp2
        go_end0
        exact ⟨rfl, Hf.out⟩
      | true =>
        have hlt : Bm.lt3 (Bm.at3 L' j) (Bm.at3 L' i) := by have := Hr.out; simpa using this.symm
        have Hlt := Lib.hid hlt
        have mS := pq_swap p n cap (some ⟨g, 0, none⟩) w1 c1
        have eS := enq_swap
        have hs := pq_swapC Hpl1.out i j (by rw [Hlen.out]; omega) (by rw [Hlen.out]; exact hj)
        rw [Hlen.out] at hs
        have Hs := Lib.hid hs
        clear hs hlt
        go_wp2_with fail
        refine Hs.out.mono ?_
        rintro e w2 ⟨rfl, hpl2, hk2⟩
        have hup2 : Bm.UpQ (swq pce0 L' i j) n i := by
          have h1 := Bm.upq_step L' n j (by rw [Hlen.out]; exact Nat.le_refl _) hj (by omega) hup.out (by rw [← Hi.out]; exact Hlt.out)
          rw [← Hi.out] at h1
          exact h1
        have Hup2 := Lib.hid hup2
        have Hpl2 := Lib.hid hpl2
        have Hk2 := Lib.hid (Hk1.out.trans hk2)
        have Hpm2 := Lib.hid ((Bm.swq_perm L' i j (by rw [Hlen.out]; omega) (by rw [Hlen.out]; exact hj)).trans hperm.out)
        clear hup2 hpl2 hk2 mS eS Hs c1
        go_wp2
        go_roundw
        case rel => exact ⟨i, swq pce0 L' i j, rfl, by omega, Hpm2, Hup2, Hpl2, Hk2⟩
        case measure => simp [intOf]; omega
end Go.Proofs.Ytaebnkeddcbmkaa
