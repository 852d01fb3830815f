/-
  HuffCosts (layer 9): the law's function by its walk: true for any counts and lengths. Premises: what the calls of layer 9 answer.
-/
import Derived.Test.YtmcobnbahkoopaaUk
import Derived.Test.YtmcobnbahkoopaaUp
namespace Go.Proofs.Ytmcobnbahkoopaa
open Go.RowKit

set_option maxHeartbeats 400000 in
set_option maxRecDepth 100000 in
theorem ucosts_long {D : List Int → Prop} (hH : HuffOk D) (hD : D [5, 2, 1]) (A B : Option Addr) (n c m d : Nat) (w : World) (h : 260 < n) (hn : n ≤ 9223372036854775807) :
    Calls Try.prog 6 #[.slice A n c, .slice B m d] w fun e w' => e = .returned (.bool true) ∧ Below w.heap.size w w' := by
  have Haw := Lib.hid (uawake_of hH hD)
  clear hH hD
  go_enter Try.func6, Try.ntmps6
  go_wp2_with fail
  refine (Haw.out w).mono ?_
  rintro e w1 ⟨rfl, hb1⟩
  have Hb1 := Lib.hid hb1
  clear hb1
  go_wp2
  go_ret
  exact ⟨rfl, Hb1.out⟩

set_option maxHeartbeats 400000 in
set_option maxRecDepth 100000 in
theorem ucosts_long2 {D : List Int → Prop} (hH : HuffOk D) (hD : D [5, 2, 1]) (A B : Option Addr) (n c m d : Nat) (w : World) (h0 : n ≤ 260) (h : 260 < m) (hn : m ≤ 9223372036854775807) :
    Calls Try.prog 6 #[.slice A n c, .slice B m d] w fun e w' => e = .returned (.bool true) ∧ Below w.heap.size w w' := by
  have Haw := Lib.hid (uawake_of hH hD)
  clear hH hD
  go_enter Try.func6, Try.ntmps6
  go_wp2_with fail
  refine (Haw.out w).mono ?_
  rintro e w1 ⟨rfl, hb1⟩
  have Hb1 := Lib.hid hb1
  clear hb1
  go_wp2
  go_ret
  exact ⟨rfl, Hb1.out⟩

theorem right_nat (l : List Int) (h : Bm.Right l) : l = (l.map Int.toNat).map (fun n : Nat => (n : Int)) ∧ (∀ x ∈ l.map Int.toNat, x ≤ 1048576) ∧ (l.map Int.toNat).length = l.length := by
  refine ⟨?_, ?_, by simp⟩
  · rw [List.map_map]
    conv => lhs; rw [← List.map_id l]
    apply List.map_congr_left
    intro x hx
    have := h.2.1 x hx
    simp only [Function.comp_apply, id]
    omega
  · intro x hx
    obtain ⟨y, hy, rfl⟩ := List.mem_map.1 hx
    have := h.2.1 y hy
    omega

set_option maxHeartbeats 1000000 in
set_option maxRecDepth 100000 in
theorem ucosts_short {D : List Int → Prop} (hH : HuffOk D) (hD : D [5, 2, 1]) (A B : Option Addr) (c d : Nat) (cs ls : List Int) (w : World) (h1 : cs.length ≤ 260) (h2 : ls.length ≤ 260) (hcok : ∀ x ∈ cs, Bm.IntOk x) (hlok : ∀ x ∈ ls, Bm.IntOk x) (hr : Reads w A (i64z cs)) (hs : Reads w B (i64z ls)) :
    Calls Try.prog 6 #[.slice A cs.length c, .slice B ls.length d] w fun e w' => e = .returned (.bool true) ∧ Below w.heap.size w w' := by
  have Haw := Lib.hid (uawake_of hH hD)
  have hm1 : cs.length ≤ maxLen := by unfold maxLen; omega
  have hm2 : ls.length ≤ maxLen := by unfold maxLen; omega
  have H1 := Lib.hid (fun W (hb : Below w.heap.size w W) => hH.cost W A B c d cs ls hm1 hm2 hcok hlok (reads_on hr hb) (reads_on hs hb))
  have H2 : Hid (∀ W, Below w.heap.size w W → Calls Try.prog 9 #[.slice A cs.length c] W fun e w' => e = .returned (.bool (decide (Bm.Right cs))) ∧ W = w') := Lib.hid (fun W hb => hright_any A c cs _ W (by omega) decide_eq_true_iff (reads_on hr hb))
  have H3 : Hid (∀ W, Below w.heap.size w W → Calls Try.prog 20 #[.slice B ls.length d] W fun e w' => e = .returned (.bool (decide (Bm.LenR ls))) ∧ W = w') := Lib.hid (fun W hb => vright_any B d ls W (by omega) (reads_on hs hb))
  clear hH hD
  by_cases hR : Bm.Right cs
  · rw [decide_eq_true hR] at H2
    by_cases hL : cs.length ≤ ls.length
    · by_cases hq : Bm.LenR ls
      · rw [decide_eq_true hq] at H3
        rw [if_pos ⟨hR, hL, hq⟩] at H1
        obtain ⟨e1, h20, k1⟩ := right_nat cs hR
        obtain ⟨e2, h11, k2⟩ := Bm.lenR_nat ls hq
        have H4 : Hid (∀ W, Below w.heap.size w W → Calls Try.prog 12 #[.slice A cs.length c, .slice B ls.length d] W fun e w' => e = .returned (costV (cs.map Int.toNat) (ls.map Int.toNat)) ∧ Below W.heap.size W w') := Lib.hid (fun W hb => by
          have hr2 := reads_on hr hb
          have hs2 := reads_on hs hb
          rw [e1, i64z_nat] at hr2
          rw [e2, i64z_nat] at hs2
          have h3 := vcost_any A B c d (cs.map Int.toNat) (ls.map Int.toNat) W (by omega) (by omega) h20 h11 hr2 hs2
          rw [k1, k2] at h3
          exact h3.mono fun e w' ⟨he, m, hm⟩ => ⟨he, hm ▸ below_drewN (Below.refl _ _) m⟩)
        unfold costV at H1 H4
        clear hR hq hr hs e1 e2 h20 h11 k1 k2 hcok hlok hm1 hm2
        generalize decide (Bm.FitN (cs.map Int.toNat) (ls.map Int.toNat)) = q at *
        generalize (if Bm.FitN (cs.map Int.toNat) (ls.map Int.toNat) then Bm.costN (cs.map Int.toNat) (ls.map Int.toNat) else 0 : Nat) = K at *
        generalize cs.length = n at *
        generalize ls.length = m at *
        go_enter Try.func6, Try.ntmps6
        go_wp2_with fail
        refine (Haw.out w).mono ?_
        rintro e w1 ⟨rfl, hb1⟩
        have Hb1 := Lib.hid hb1
        clear hb1
        go_wp2_with fail
        refine (H1.out w1 Hb1.out).mono ?_
        rintro e w2 ⟨rfl, hb2⟩
        have Hb2 := Lib.hid (Hb1.out.trans (hb2.mono Hb1.out.size))
        clear hb2 Hb1
        go_wp2_with fail
        refine (H2.out w2 Hb2.out).mono ?_
        rintro e w' ⟨rfl, rfl⟩
        go_wp2_with fail
        refine (H3.out w2 Hb2.out).mono ?_
        rintro e w' ⟨rfl, rfl⟩
        go_wp2_with fail
        refine (H4.out w2 Hb2.out).mono ?_
        rintro e w3 ⟨rfl, hb3⟩
        have Hb3 := Lib.hid (Hb2.out.trans (hb3.mono Hb2.out.size))
        clear hb3 Hb2
        cases q
        · go_wp2
          go_ret
          exact ⟨rfl, Hb3.out⟩
        · go_wp2
          go_ret
          exact ⟨rfl, Hb3.out⟩
      · rw [decide_eq_false hq] at H3
        rw [if_neg (fun h => hq h.2.2)] at H1
        clear hR hq hr hs hcok hlok hm1 hm2
        generalize cs.length = n at *
        generalize ls.length = m at *
        go_enter Try.func6, Try.ntmps6
        go_wp2_with fail
        refine (Haw.out w).mono ?_
        rintro e w1 ⟨rfl, hb1⟩
        have Hb1 := Lib.hid hb1
        clear hb1
        go_wp2_with fail
        refine (H1.out w1 Hb1.out).mono ?_
        rintro e w2 ⟨rfl, hb2⟩
        have Hb2 := Lib.hid (Hb1.out.trans (hb2.mono Hb1.out.size))
        clear hb2 Hb1
        go_wp2_with fail
        refine (H2.out w2 Hb2.out).mono ?_
        rintro e w' ⟨rfl, rfl⟩
        go_wp2_with fail
        refine (H3.out w2 Hb2.out).mono ?_
        rintro e w' ⟨rfl, rfl⟩
        go_wp2
        go_ret
        exact ⟨rfl, Hb2.out⟩
    · rw [if_neg (fun h => hL h.2.1)] at H1
      clear hR hr hs hcok hlok hm1 hm2 H3
      generalize cs.length = n at *
      generalize ls.length = m at *
      go_enter Try.func6, Try.ntmps6
      go_wp2_with fail
      refine (Haw.out w).mono ?_
      rintro e w1 ⟨rfl, hb1⟩
      have Hb1 := Lib.hid hb1
      clear hb1
      go_wp2_with fail
      refine (H1.out w1 Hb1.out).mono ?_
      rintro e w2 ⟨rfl, hb2⟩
      have Hb2 := Lib.hid (Hb1.out.trans (hb2.mono Hb1.out.size))
      clear hb2 Hb1
      go_wp2_with fail
      refine (H2.out w2 Hb2.out).mono ?_
      rintro e w' ⟨rfl, rfl⟩
      go_wp2
      go_ret
      exact ⟨rfl, Hb2.out⟩
  · rw [decide_eq_false hR] at H2
    rw [if_neg (fun h => hR h.1)] at H1
    clear hR hr hs hcok hlok hm1 hm2 H3
    generalize cs.length = n at *
    generalize ls.length = m at *
    go_enter Try.func6, Try.ntmps6
    go_wp2_with fail
    refine (Haw.out w).mono ?_
    rintro e w1 ⟨rfl, hb1⟩
    have Hb1 := Lib.hid hb1
    clear hb1
    go_wp2_with fail
    refine (H1.out w1 Hb1.out).mono ?_
    rintro e w2 ⟨rfl, hb2⟩
    have Hb2 := Lib.hid (Hb1.out.trans (hb2.mono Hb1.out.size))
    clear hb2 Hb1
    go_wp2_with fail
    refine (H2.out w2 Hb2.out).mono ?_
    rintro e w' ⟨rfl, rfl⟩
    go_wp2
    go_ret
    exact ⟨rfl, Hb2.out⟩
end Go.Proofs.Ytmcobnbahkoopaa
