/-
  The program's calls of layer 13 (codes), by their walks: Number, Offset. Conditions: as each theorem's premises say.
-/
import Derived.Test.YtlimiiimgblggaaKd
namespace Go.Proofs.Ytlimiiimgblggaa
open Go.RowKit

theorem num_idx (a b c x : Int) (h1 : 1 ≤ x) (h2 : x ≤ 65533) : Bm.numI a b c x = (if idx3 a b c x < 0 then x + 2 else idx3 a b c x) ∧ 0 ≤ Bm.numI a b c x ∧ (idx3 a b c x = -1 ∨ ∃ k : Nat, idx3 a b c x = (k : Int) ∧ k ≤ 2) ∧ Bm.behI a b c x = ahead3 a b c x (if idx3 a b c x < 0 then 2 else (idx3 a b c x).toNat) := by
  unfold Bm.numI idx3 Bm.behI ahead3
  rw [if_neg (by omega)]
  by_cases ha : a = x
  · simp [ha]; exact ⟨0, rfl, by omega⟩
  · by_cases hb : b = x
    · simp [ha, hb]; exact ⟨1, rfl, by omega⟩
    · by_cases hc : c = x
      · simp [ha, hb, hc]; exact ⟨2, rfl, by omega⟩
      · simp [ha, hb, hc]; omega

set_option maxHeartbeats 1000000 in
set_option maxRecDepth 100000 in
theorem knum_no (w : World) (a b c x : Int) (h : x < 1 ∨ 65533 < x) : Calls Try.prog 12 #[.agg #[.int .i64 a, .int .i64 b, .int .i64 c], .int .i64 x] w fun e w' => e = .returned (.tuple #[.int .i64 0, .agg #[.int .i64 a, .int .i64 b, .int .i64 c], .bool false]) ∧ Below w.heap.size w w' := by
  obtain ⟨b0, hb0⟩ : ∃ b0, b0 = w.heap.size := ⟨_, rfl⟩
  obtain ⟨b1, hb1⟩ : ∃ b1, b1 = w.heap.size + 1 := ⟨_, rfl⟩
  have hcase : decide (x < 1) = true ∨ (decide (x < 1) = false ∧ decide (65533 < x) = true) := by
    by_cases h0 : x < 1
    · exact .inl (decide_eq_true h0)
    · exact .inr ⟨decide_eq_false h0, decide_eq_true (by omega)⟩
  have Hb0 := Lib.hid hb0
  have Hb1 := Lib.hid hb1
  clear hb0 hb1 h
  rcases hcase with d0 | ⟨d0, d1⟩
  all_goals
    go_enter Try.func12, Try.ntmps12
    go_wp2
    rw [← Hb1.out, ← Hb0.out]
    have hrow0 : Row ((w.alloc (.cells #[.int .i64 a, .int .i64 b, .int .i64 c] 34)).alloc (.cells #[.int .i64 0, .int .i64 0, .int .i64 0] 34)) b0 34 [.int .i64 a, .int .i64 b, .int .i64 c] := by rw [Hb0.out]; exact (Row.new w _ _).alloc _
    have hrow1 : Row ((w.alloc (.cells #[.int .i64 a, .int .i64 b, .int .i64 c] 34)).alloc (.cells #[.int .i64 0, .int .i64 0, .int .i64 0] 34)) b1 34 [.int .i64 0, .int .i64 0, .int .i64 0] := by
      have h := Row.new (w.alloc (.cells #[.int .i64 a, .int .i64 b, .int .i64 c] 34)) 34 [.int .i64 0, .int .i64 0, .int .i64 0]
      rw [Hb1.out]
      simpa using h
    have hbel := ((Below.refl w.heap.size w).alloc (Nat.le_refl _) (.cells #[.int .i64 a, .int .i64 b, .int .i64 c] 34)).alloc (by simp) (.cells #[.int .i64 0, .int .i64 0, .int .i64 0] 34)
    have Hbel := Lib.hid hbel
    generalize (w.alloc (.cells #[.int .i64 a, .int .i64 b, .int .i64 c] 34)).alloc (.cells #[.int .i64 0, .int .i64 0, .int .i64 0] 34) = wA at *
    have hne : b0 ≠ b1 := by rw [Hb0.out, Hb1.out]; omega
    have hne' : b1 ≠ b0 := fun e => hne e.symm
    obtain ⟨c0, c1, c2⟩ := row3 hrow0
    obtain ⟨c3, c4, c5⟩ := row3 hrow1
    have f3 := hrow1.free 0
    have f4 := hrow1.free 1
    have f5 := hrow1.free 2
    have s0 := (hrow1.set_ 0 (.int .i64 a)).cell 0
    have s1 := ((hrow1.set_ 0 (.int .i64 a)).set_ 1 (.int .i64 b)).cell 1
    have s2 := (((hrow1.set_ 0 (.int .i64 a)).set_ 1 (.int .i64 b)).set_ 2 (.int .i64 c)).cell 2
    simp only [List.set_cons_zero, List.set_cons_succ, List.getElem?_cons_zero, List.getElem?_cons_succ] at s0 s1 s2
    have S0 := Lib.hid s0
    have S1 := Lib.hid s1
    have S2 := Lib.hid s2
    have Hlt := Lib.hid (show w.heap.size ≤ b1 by rw [Hb1.out]; omega)
    clear hrow0 hrow1 hbel s0 s1 s2 Hb0 Hb1 d0
    try clear d1
    go_region
    go_wp2
    have s0 := S0.out
    have s1 := S1.out
    have s2 := S2.out
    refine bodyPost_ret (by simp [results, Try.results12, go_sem, s0, s1, s2]) rfl ⟨rfl, ?_⟩
    exact (((Hbel.out.setCell Hlt.out _).setCell Hlt.out _).setCell Hlt.out _).drew

set_option maxHeartbeats 1000000 in
set_option maxRecDepth 100000 in
theorem knum_at (w : World) (a b c x r n K : Int) (k : Nat) (p q y : Int) (h1 : 1 ≤ x) (h2 : x ≤ 65533) (hr : idx3 a b c x = r) (hk : k ≤ 2) (hq : ahead3 a b c x k = (p, q, y)) (hK : (k : Int) = K) (hcase : (r = -1 ∧ n = x + 2 ∧ K = 2) ∨ (r = K ∧ n = K)) : Calls Try.prog 12 #[.agg #[.int .i64 a, .int .i64 b, .int .i64 c], .int .i64 x] w fun e w' => e = .returned (.tuple #[.int .i64 n, .agg #[.int .i64 p, .int .i64 q, .int .i64 y], .bool true]) ∧ Below w.heap.size w w' := by
  obtain ⟨b0, hb0⟩ : ∃ b0, b0 = w.heap.size := ⟨_, rfl⟩
  obtain ⟨b1, hb1⟩ : ∃ b1, b1 = w.heap.size + 1 := ⟨_, rfl⟩
  have HA := Lib.hid (fun W => kahead_any a b c x k hk W)
  rw [hq, hK] at HA
  have hK0 : 0 ≤ K := by omega
  have HI := Lib.hid (fun W (h : Row W b0 34 [.int .i64 a, .int .i64 b, .int .i64 c]) => kindex_any b0 34 a b c x W h)
  rw [hr] at HI
  have d0 : decide (x < 1) = false := decide_eq_false (by omega)
  have d1 : decide (65533 < x) = false := decide_eq_false (by omega)
  have Hb0 := Lib.hid hb0
  have Hb1 := Lib.hid hb1
  clear hb0 hb1 hr hq hK
  rcases hcase with ⟨rfl, rfl, rfl⟩ | ⟨rfl, rfl⟩
  all_goals
    go_enter Try.func12, Try.ntmps12
    go_wp2_with fail
    rw [← Hb1.out, ← Hb0.out]
    have hrow0 : Row ((w.alloc (.cells #[.int .i64 a, .int .i64 b, .int .i64 c] 34)).alloc (.cells #[.int .i64 0, .int .i64 0, .int .i64 0] 34)) b0 34 [.int .i64 a, .int .i64 b, .int .i64 c] := by rw [Hb0.out]; exact (Row.new w _ _).alloc _
    have hrow1 : Row ((w.alloc (.cells #[.int .i64 a, .int .i64 b, .int .i64 c] 34)).alloc (.cells #[.int .i64 0, .int .i64 0, .int .i64 0] 34)) b1 34 [.int .i64 0, .int .i64 0, .int .i64 0] := by
      have h := Row.new (w.alloc (.cells #[.int .i64 a, .int .i64 b, .int .i64 c] 34)) 34 [.int .i64 0, .int .i64 0, .int .i64 0]
      rw [Hb1.out]
      simpa using h
    have hbel := ((Below.refl w.heap.size w).alloc (Nat.le_refl _) (.cells #[.int .i64 a, .int .i64 b, .int .i64 c] 34)).alloc (by simp) (.cells #[.int .i64 0, .int .i64 0, .int .i64 0] 34)
    have Hbel := Lib.hid hbel
    generalize (w.alloc (.cells #[.int .i64 a, .int .i64 b, .int .i64 c] 34)).alloc (.cells #[.int .i64 0, .int .i64 0, .int .i64 0] 34) = wA at *
    refine (HI.out wA hrow0).mono ?_
    rintro e w' ⟨rfl, rfl⟩
    obtain ⟨c0, c1, c2⟩ := row3 hrow0
    have Hrow1 := Lib.hid hrow1
    have Hlt := Lib.hid (show w.heap.size ≤ b1 by rw [Hb1.out]; omega)
    clear hrow0 hrow1 hbel Hb0 Hb1 HI d0 d1
    go_wp2_with fail
    refine (HA.out wA).mono ?_
    rintro e w2 ⟨rfl, hb2⟩
    have hrow2 := Hrow1.out.below hb2
    have Hbel2 := Lib.hid (Hbel.out.trans (hb2.mono Hbel.out.size))
    clear hb2 Hrow1 Hbel c0 c1 c2 HA
    obtain ⟨c3, c4, c5⟩ := row3 hrow2
    have f3 := hrow2.free 0
    have f4 := hrow2.free 1
    have f5 := hrow2.free 2
    have s0 := (hrow2.set_ 0 (.int .i64 p)).cell 0
    have s1 := ((hrow2.set_ 0 (.int .i64 p)).set_ 1 (.int .i64 q)).cell 1
    have s2 := (((hrow2.set_ 0 (.int .i64 p)).set_ 1 (.int .i64 q)).set_ 2 (.int .i64 y)).cell 2
    simp only [List.set_cons_zero, List.set_cons_succ, List.getElem?_cons_zero, List.getElem?_cons_succ] at s0 s1 s2
    have S0 := Lib.hid s0
    have S1 := Lib.hid s1
    have S2 := Lib.hid s2
    clear hrow2 s0 s1 s2
    go_wp2
    have s0 := S0.out
    have s1 := S1.out
    have s2 := S2.out
    refine bodyPost_ret (by simp [results, Try.results12, go_sem, s0, s1, s2]) rfl ⟨rfl, ?_⟩
    exact ((Hbel2.out.setCell Hlt.out _).setCell Hlt.out _).setCell Hlt.out _

theorem knum_is : KNum := by
  intro w a b c x ha hb hc hx
  by_cases h : x < 1 ∨ 65533 < x
  · have hn : Bm.numI a b c x = -1 := by unfold Bm.numI; rw [if_pos h]
    refine (knum_no w a b c x h).mono fun e w' ⟨he, hw⟩ => ⟨fun h0 => ?_, fun _ => he, hw⟩
    omega
  · obtain ⟨e1, e2, e3, e4⟩ := num_idx a b c x (by omega) (by omega)
    obtain ⟨p, hp⟩ : ∃ p, p = Bm.behI a b c x := ⟨_, rfl⟩
    have key : Calls Try.prog 12 #[.agg #[.int .i64 a, .int .i64 b, .int .i64 c], .int .i64 x] w fun e w' => e = .returned (.tuple #[.int .i64 (Bm.numI a b c x), .agg #[.int .i64 p.1, .int .i64 p.2.1, .int .i64 p.2.2], .bool true]) ∧ Below w.heap.size w w' := by
      rw [← hp] at e4
      rcases e3 with e3 | ⟨k, e3, hk⟩
      · rw [e3, if_pos (by omega)] at e1 e4
        exact knum_at w a b c x (-1) _ 2 2 p.1 p.2.1 p.2.2 (by omega) (by omega) e3 (by omega) e4.symm rfl (.inl ⟨rfl, e1, rfl⟩)
      · rw [e3, if_neg (by omega)] at e1 e4
        rw [Int.toNat_natCast] at e4
        exact knum_at w a b c x k _ k k p.1 p.2.1 p.2.2 (by omega) (by omega) e3 hk e4.symm rfl (.inr ⟨rfl, e1⟩)
    rw [← hp]
    exact key.mono fun e w' ⟨he, hw⟩ => ⟨fun _ => he, fun h0 => by omega, hw⟩

set_option maxHeartbeats 1000000 in
set_option maxRecDepth 100000 in
theorem koff_neg (w : World) (a b c n : Int) (h : n < 0) : Calls Try.prog 15 #[.agg #[.int .i64 a, .int .i64 b, .int .i64 c], .int .i64 n] w fun e w' => e = .returned (.tuple #[.int .i64 0, .agg #[.int .i64 a, .int .i64 b, .int .i64 c], .bool false]) ∧ Below w.heap.size w w' := by
  obtain ⟨b0, hb0⟩ : ∃ b0, b0 = w.heap.size := ⟨_, rfl⟩
  obtain ⟨b1, hb1⟩ : ∃ b1, b1 = w.heap.size + 1 := ⟨_, rfl⟩
  have d0 : decide (n < 0) = true := decide_eq_true h
  have Hb0 := Lib.hid hb0
  have Hb1 := Lib.hid hb1
  clear hb0 hb1 h
  go_enter Try.func15, Try.ntmps15
  go_wp2
  rw [← Hb1.out, ← Hb0.out]
  have hrow0 : Row ((w.alloc (.cells #[.int .i64 a, .int .i64 b, .int .i64 c] 34)).alloc (.cells #[.int .i64 0, .int .i64 0, .int .i64 0] 34)) b0 34 [.int .i64 a, .int .i64 b, .int .i64 c] := by rw [Hb0.out]; exact (Row.new w _ _).alloc _
  have hrow1 : Row ((w.alloc (.cells #[.int .i64 a, .int .i64 b, .int .i64 c] 34)).alloc (.cells #[.int .i64 0, .int .i64 0, .int .i64 0] 34)) b1 34 [.int .i64 0, .int .i64 0, .int .i64 0] := by
    have h := Row.new (w.alloc (.cells #[.int .i64 a, .int .i64 b, .int .i64 c] 34)) 34 [.int .i64 0, .int .i64 0, .int .i64 0]
    rw [Hb1.out]
    simpa using h
  have hbel := ((Below.refl w.heap.size w).alloc (Nat.le_refl _) (.cells #[.int .i64 a, .int .i64 b, .int .i64 c] 34)).alloc (by simp) (.cells #[.int .i64 0, .int .i64 0, .int .i64 0] 34)
  have Hbel := Lib.hid hbel
  generalize (w.alloc (.cells #[.int .i64 a, .int .i64 b, .int .i64 c] 34)).alloc (.cells #[.int .i64 0, .int .i64 0, .int .i64 0] 34) = wA at *
  have hne : b0 ≠ b1 := by rw [Hb0.out, Hb1.out]; omega
  have hne' : b1 ≠ b0 := fun e => hne e.symm
  obtain ⟨c0, c1, c2⟩ := row3 hrow0
  obtain ⟨c3, c4, c5⟩ := row3 hrow1
  have f3 := hrow1.free 0
  have f4 := hrow1.free 1
  have f5 := hrow1.free 2
  have s0 := (hrow1.set_ 0 (.int .i64 a)).cell 0
  have s1 := ((hrow1.set_ 0 (.int .i64 a)).set_ 1 (.int .i64 b)).cell 1
  have s2 := (((hrow1.set_ 0 (.int .i64 a)).set_ 1 (.int .i64 b)).set_ 2 (.int .i64 c)).cell 2
  simp only [List.set_cons_zero, List.set_cons_succ, List.getElem?_cons_zero, List.getElem?_cons_succ] at s0 s1 s2
  have S0 := Lib.hid s0
  have S1 := Lib.hid s1
  have S2 := Lib.hid s2
  have Hlt := Lib.hid (show w.heap.size ≤ b1 by rw [Hb1.out]; omega)
  clear hrow0 hrow1 hbel s0 s1 s2 Hb0 Hb1 d0
  go_region
  go_wp2
  have s0 := S0.out
  have s1 := S1.out
  have s2 := S2.out
  refine bodyPost_ret (by simp [results, Try.results15, go_sem, s0, s1, s2]) rfl ⟨rfl, ?_⟩
  exact (((Hbel.out.setCell Hlt.out _).setCell Hlt.out _).setCell Hlt.out _).drew

/-- What Offset looks for: the place in the recent ones, or the number less 2. -/
theorem offX_at (a b c n : Int) (h : 0 ≤ n) : (n = 0 ∧ Bm.offX a b c n = a) ∨ (n = 1 ∧ Bm.offX a b c n = b) ∨ (n = 2 ∧ Bm.offX a b c n = c) ∨ (2 < n ∧ Bm.offX a b c n = n - 2) := by
  unfold Bm.offX
  by_cases h3 : 2 < n
  · rw [if_pos h3]; exact .inr (.inr (.inr ⟨h3, rfl⟩))
  · rw [if_neg h3]
    have : n = 0 ∨ n = 1 ∨ n = 2 := by omega
    rcases this with rfl | rfl | rfl
    · exact .inl ⟨rfl, by simp⟩
    · exact .inr (.inl ⟨rfl, by simp⟩)
    · exact .inr (.inr (.inl ⟨rfl, by simp⟩))

set_option maxHeartbeats 2000000 in
set_option maxRecDepth 100000 in
theorem koff_yes (w : World) (a b c n x : Int) (m p q y : Int) (hm : m = n) (hn : 0 ≤ n) (hn2 : n ≤ 9223372036854775807) (hx : Bm.offX a b c n = x)
    (HN : ∀ W, Calls Try.prog 12 #[.agg #[.int .i64 a, .int .i64 b, .int .i64 c], .int .i64 x] W fun e w' => e = .returned (.tuple #[.int .i64 m, .agg #[.int .i64 p, .int .i64 q, .int .i64 y], .bool true]) ∧ Below W.heap.size W w') :
    Calls Try.prog 15 #[.agg #[.int .i64 a, .int .i64 b, .int .i64 c], .int .i64 n] w fun e w' => e = .returned (.tuple #[.int .i64 x, .agg #[.int .i64 p, .int .i64 q, .int .i64 y], .bool true]) ∧ Below w.heap.size w w' := by
  obtain ⟨b0, hb0⟩ : ∃ b0, b0 = w.heap.size := ⟨_, rfl⟩
  obtain ⟨b1, hb1⟩ : ∃ b1, b1 = w.heap.size + 1 := ⟨_, rfl⟩
  have Hb0 := Lib.hid hb0
  have Hb1 := Lib.hid hb1
  have hN := Lib.hid HN
  have Em := Lib.hid (show (m != n) = false by simp [hm])
  clear hm
  have hplace := offX_at a b c n hn
  rw [hx] at hplace
  clear hb0 hb1 HN hx
  rcases hplace with ⟨rfl, hx⟩ | ⟨rfl, hx⟩ | ⟨rfl, hx⟩ | ⟨h2, hx⟩
  all_goals
    replace hx := hx.symm
    subst hx
  case' inr.inr.inr =>
    have d0 : decide (n < 0) = false := decide_eq_false (by omega)
    have d3 : decide (n < 3) = false := decide_eq_false (by omega)
  all_goals
    go_enter Try.func15, Try.ntmps15
    go_wp2_with fail
    rw [← Hb1.out, ← Hb0.out]
    have hrow0 : Row ((w.alloc (.cells #[.int .i64 a, .int .i64 b, .int .i64 c] 34)).alloc (.cells #[.int .i64 0, .int .i64 0, .int .i64 0] 34)) b0 34 [.int .i64 a, .int .i64 b, .int .i64 c] := by rw [Hb0.out]; exact (Row.new w _ _).alloc _
    have hrow1 : Row ((w.alloc (.cells #[.int .i64 a, .int .i64 b, .int .i64 c] 34)).alloc (.cells #[.int .i64 0, .int .i64 0, .int .i64 0] 34)) b1 34 [.int .i64 0, .int .i64 0, .int .i64 0] := by
      have h := Row.new (w.alloc (.cells #[.int .i64 a, .int .i64 b, .int .i64 c] 34)) 34 [.int .i64 0, .int .i64 0, .int .i64 0]
      rw [Hb1.out]
      simpa using h
    have hbel := ((Below.refl w.heap.size w).alloc (Nat.le_refl _) (.cells #[.int .i64 a, .int .i64 b, .int .i64 c] 34)).alloc (by simp) (.cells #[.int .i64 0, .int .i64 0, .int .i64 0] 34)
    have Hbel := Lib.hid hbel
    generalize (w.alloc (.cells #[.int .i64 a, .int .i64 b, .int .i64 c] 34)).alloc (.cells #[.int .i64 0, .int .i64 0, .int .i64 0] 34) = wA at *
    have Hne := Lib.hid (show b0 ≠ b1 by rw [Hb0.out, Hb1.out]; omega)
    have Hlt := Lib.hid (show w.heap.size ≤ b1 by rw [Hb1.out]; omega)
    have Hrow0 := Lib.hid hrow0
    have Hrow1 := Lib.hid hrow1
    obtain ⟨c0, c1, c2⟩ := row3 hrow0
    clear hrow0 hrow1 hbel Hb0 Hb1
    refine (hN.out wA).mono ?_
    rintro e w2 ⟨rfl, hb2⟩
    have hrA := Hrow0.out.below hb2
    have hrB := Hrow1.out.below hb2
    have HbE := Lib.hid (Hbel.out.trans (hb2.mono Hbel.out.size))
    clear hb2 Hrow0 Hrow1 Hbel c0 c1 c2 hN
    obtain ⟨b2, hb2⟩ : ∃ b2, b2 = w2.heap.size := ⟨_, rfl⟩
    have Hb2 := Lib.hid hb2
    clear hb2
    have e1 := Em.out
    go_wp2
    rw [← Hb2.out]
    have hrAA : Row (w2.alloc (.cells #[.int .i64 p, .int .i64 q, .int .i64 y] 34)) b0 34 _ := hrA.alloc _
    have hrBB : Row (w2.alloc (.cells #[.int .i64 p, .int .i64 q, .int .i64 y] 34)) b1 34 _ := hrB.alloc _
    have hrCC : Row (w2.alloc (.cells #[.int .i64 p, .int .i64 q, .int .i64 y] 34)) b2 34 [.int .i64 p, .int .i64 q, .int .i64 y] := by rw [Hb2.out]; exact Row.new w2 _ _
    have hne3 : b2 ≠ b1 := fun e => by have := hrB.lt; rw [Hb2.out] at e; omega
    have hne4 : b1 ≠ b2 := fun e => hne3 e.symm
    have hne := Hne.out
    have hne' : b1 ≠ b0 := fun e => hne e.symm
    have HbF := Lib.hid (HbE.out.alloc HbE.out.size (.cells #[.int .i64 p, .int .i64 q, .int .i64 y] 34))
    generalize (w2.alloc (.cells #[.int .i64 p, .int .i64 q, .int .i64 y] 34)) = wB at *
    obtain ⟨c0, c1, c2⟩ := row3 hrCC
    obtain ⟨c3, c4, c5⟩ := row3 hrBB
    have f3 := hrBB.free 0
    have f4 := hrBB.free 1
    have f5 := hrBB.free 2
    have s0 := (hrBB.set_ 0 (.int .i64 p)).cell 0
    have s1 := ((hrBB.set_ 0 (.int .i64 p)).set_ 1 (.int .i64 q)).cell 1
    have s2 := (((hrBB.set_ 0 (.int .i64 p)).set_ 1 (.int .i64 q)).set_ 2 (.int .i64 y)).cell 2
    simp only [List.set_cons_zero, List.set_cons_succ, List.getElem?_cons_zero, List.getElem?_cons_succ] at s0 s1 s2
    have S0 := Lib.hid s0
    have S1 := Lib.hid s1
    have S2 := Lib.hid s2
    clear hrA hrB hrAA hrBB hrCC s0 s1 s2 HbE Hb2 Hne
    go_region
    go_wp2
    have s0 := S0.out
    have s1 := S1.out
    have s2 := S2.out
    refine bodyPost_ret (by simp [results, Try.results15, go_sem, s0, s1, s2]) rfl ⟨rfl, ?_⟩
    exact (((HbF.out.setCell Hlt.out _).setCell Hlt.out _).setCell Hlt.out _).drew

set_option maxHeartbeats 2000000 in
set_option maxRecDepth 100000 in
theorem koff_bad (w : World) (a b c n x : Int) (m p q y : Int) (hn : 0 ≤ n) (hn2 : n ≤ 9223372036854775807) (hx : Bm.offX a b c n = x)
    (HN : ∀ W, Calls Try.prog 12 #[.agg #[.int .i64 a, .int .i64 b, .int .i64 c], .int .i64 x] W fun e w' => e = .returned (.tuple #[.int .i64 m, .agg #[.int .i64 p, .int .i64 q, .int .i64 y], .bool false]) ∧ Below W.heap.size W w') :
    Calls Try.prog 15 #[.agg #[.int .i64 a, .int .i64 b, .int .i64 c], .int .i64 n] w fun e w' => e = .returned (.tuple #[.int .i64 0, .agg #[.int .i64 a, .int .i64 b, .int .i64 c], .bool false]) ∧ Below w.heap.size w w' := by
  obtain ⟨b0, hb0⟩ : ∃ b0, b0 = w.heap.size := ⟨_, rfl⟩
  obtain ⟨b1, hb1⟩ : ∃ b1, b1 = w.heap.size + 1 := ⟨_, rfl⟩
  have Hb0 := Lib.hid hb0
  have Hb1 := Lib.hid hb1
  have hN := Lib.hid HN
  have hplace := offX_at a b c n hn
  rw [hx] at hplace
  clear hb0 hb1 HN hx
  rcases hplace with ⟨rfl, hx⟩ | ⟨rfl, hx⟩ | ⟨rfl, hx⟩ | ⟨h2, hx⟩
  all_goals
    replace hx := hx.symm
    subst hx
  case' inr.inr.inr =>
    have d0 : decide (n < 0) = false := decide_eq_false (by omega)
    have d3 : decide (n < 3) = false := decide_eq_false (by omega)
  all_goals
    go_enter Try.func15, Try.ntmps15
    go_wp2_with fail
    rw [← Hb1.out, ← Hb0.out]
    have hrow0 : Row ((w.alloc (.cells #[.int .i64 a, .int .i64 b, .int .i64 c] 34)).alloc (.cells #[.int .i64 0, .int .i64 0, .int .i64 0] 34)) b0 34 [.int .i64 a, .int .i64 b, .int .i64 c] := by rw [Hb0.out]; exact (Row.new w _ _).alloc _
    have hrow1 : Row ((w.alloc (.cells #[.int .i64 a, .int .i64 b, .int .i64 c] 34)).alloc (.cells #[.int .i64 0, .int .i64 0, .int .i64 0] 34)) b1 34 [.int .i64 0, .int .i64 0, .int .i64 0] := by
      have h := Row.new (w.alloc (.cells #[.int .i64 a, .int .i64 b, .int .i64 c] 34)) 34 [.int .i64 0, .int .i64 0, .int .i64 0]
      rw [Hb1.out]
      simpa using h
    have hbel := ((Below.refl w.heap.size w).alloc (Nat.le_refl _) (.cells #[.int .i64 a, .int .i64 b, .int .i64 c] 34)).alloc (by simp) (.cells #[.int .i64 0, .int .i64 0, .int .i64 0] 34)
    have Hbel := Lib.hid hbel
    generalize (w.alloc (.cells #[.int .i64 a, .int .i64 b, .int .i64 c] 34)).alloc (.cells #[.int .i64 0, .int .i64 0, .int .i64 0] 34) = wA at *
    have Hne := Lib.hid (show b0 ≠ b1 by rw [Hb0.out, Hb1.out]; omega)
    have Hlt := Lib.hid (show w.heap.size ≤ b1 by rw [Hb1.out]; omega)
    have Hrow0 := Lib.hid hrow0
    have Hrow1 := Lib.hid hrow1
    obtain ⟨c0, c1, c2⟩ := row3 hrow0
    clear hrow0 hrow1 hbel Hb0 Hb1
    refine (hN.out wA).mono ?_
    rintro e w2 ⟨rfl, hb2⟩
    have hrA := Hrow0.out.below hb2
    have hrB := Hrow1.out.below hb2
    have HbE := Lib.hid (Hbel.out.trans (hb2.mono Hbel.out.size))
    clear hb2 Hrow0 Hrow1 Hbel c0 c1 c2 hN
    obtain ⟨b2, hb2⟩ : ∃ b2, b2 = w2.heap.size := ⟨_, rfl⟩
    have Hb2 := Lib.hid hb2
    clear hb2
    go_wp2
    rw [← Hb2.out]
    have hrAA : Row (w2.alloc (.cells #[.int .i64 p, .int .i64 q, .int .i64 y] 34)) b0 34 _ := hrA.alloc _
    have hrBB : Row (w2.alloc (.cells #[.int .i64 p, .int .i64 q, .int .i64 y] 34)) b1 34 _ := hrB.alloc _
    have hrCC : Row (w2.alloc (.cells #[.int .i64 p, .int .i64 q, .int .i64 y] 34)) b2 34 [.int .i64 p, .int .i64 q, .int .i64 y] := by rw [Hb2.out]; exact Row.new w2 _ _
    have hne3 : b2 ≠ b1 := fun e => by have := hrB.lt; rw [Hb2.out] at e; omega
    have hne4 : b1 ≠ b2 := fun e => hne3 e.symm
    have hne := Hne.out
    have hne' : b1 ≠ b0 := fun e => hne e.symm
    have HbF := Lib.hid (HbE.out.alloc HbE.out.size (.cells #[.int .i64 p, .int .i64 q, .int .i64 y] 34))
    generalize (w2.alloc (.cells #[.int .i64 p, .int .i64 q, .int .i64 y] 34)) = wB at *
    obtain ⟨c0, c1, c2⟩ := row3 hrAA
    obtain ⟨c3, c4, c5⟩ := row3 hrBB
    have f3 := hrBB.free 0
    have f4 := hrBB.free 1
    have f5 := hrBB.free 2
    have s0 := (hrBB.set_ 0 (.int .i64 a)).cell 0
    have s1 := ((hrBB.set_ 0 (.int .i64 a)).set_ 1 (.int .i64 b)).cell 1
    have s2 := (((hrBB.set_ 0 (.int .i64 a)).set_ 1 (.int .i64 b)).set_ 2 (.int .i64 c)).cell 2
    simp only [List.set_cons_zero, List.set_cons_succ, List.getElem?_cons_zero, List.getElem?_cons_succ] at s0 s1 s2
    have S0 := Lib.hid s0
    have S1 := Lib.hid s1
    have S2 := Lib.hid s2
    clear hrA hrB hrAA hrBB hrCC s0 s1 s2 HbE Hb2 Hne
    go_region
    go_wp2
    have s0 := S0.out
    have s1 := S1.out
    have s2 := S2.out
    refine bodyPost_ret (by simp [results, Try.results15, go_sem, s0, s1, s2]) rfl ⟨rfl, ?_⟩
    exact (((HbF.out.setCell Hlt.out _).setCell Hlt.out _).setCell Hlt.out _).drew

set_option maxHeartbeats 2000000 in
set_option maxRecDepth 100000 in
theorem koff_other (w : World) (a b c n x : Int) (m p q y : Int) (hm : m ≠ n) (hn : 0 ≤ n) (hn2 : n ≤ 9223372036854775807) (hx : Bm.offX a b c n = x)
    (HN : ∀ W, Calls Try.prog 12 #[.agg #[.int .i64 a, .int .i64 b, .int .i64 c], .int .i64 x] W fun e w' => e = .returned (.tuple #[.int .i64 m, .agg #[.int .i64 p, .int .i64 q, .int .i64 y], .bool true]) ∧ Below W.heap.size W w') :
    Calls Try.prog 15 #[.agg #[.int .i64 a, .int .i64 b, .int .i64 c], .int .i64 n] w fun e w' => e = .returned (.tuple #[.int .i64 0, .agg #[.int .i64 a, .int .i64 b, .int .i64 c], .bool false]) ∧ Below w.heap.size w w' := by
  obtain ⟨b0, hb0⟩ : ∃ b0, b0 = w.heap.size := ⟨_, rfl⟩
  obtain ⟨b1, hb1⟩ : ∃ b1, b1 = w.heap.size + 1 := ⟨_, rfl⟩
  have Hb0 := Lib.hid hb0
  have Hb1 := Lib.hid hb1
  have hN := Lib.hid HN
  have Em := Lib.hid (show (m != n) = true by simp [hm])
  clear hm
  have hplace := offX_at a b c n hn
  rw [hx] at hplace
  clear hb0 hb1 HN hx
  rcases hplace with ⟨rfl, hx⟩ | ⟨rfl, hx⟩ | ⟨rfl, hx⟩ | ⟨h2, hx⟩
  all_goals
    replace hx := hx.symm
    subst hx
  case' inr.inr.inr =>
    have d0 : decide (n < 0) = false := decide_eq_false (by omega)
    have d3 : decide (n < 3) = false := decide_eq_false (by omega)
  all_goals
    go_enter Try.func15, Try.ntmps15
    go_wp2_with fail
    rw [← Hb1.out, ← Hb0.out]
    have hrow0 : Row ((w.alloc (.cells #[.int .i64 a, .int .i64 b, .int .i64 c] 34)).alloc (.cells #[.int .i64 0, .int .i64 0, .int .i64 0] 34)) b0 34 [.int .i64 a, .int .i64 b, .int .i64 c] := by rw [Hb0.out]; exact (Row.new w _ _).alloc _
    have hrow1 : Row ((w.alloc (.cells #[.int .i64 a, .int .i64 b, .int .i64 c] 34)).alloc (.cells #[.int .i64 0, .int .i64 0, .int .i64 0] 34)) b1 34 [.int .i64 0, .int .i64 0, .int .i64 0] := by
      have h := Row.new (w.alloc (.cells #[.int .i64 a, .int .i64 b, .int .i64 c] 34)) 34 [.int .i64 0, .int .i64 0, .int .i64 0]
      rw [Hb1.out]
      simpa using h
    have hbel := ((Below.refl w.heap.size w).alloc (Nat.le_refl _) (.cells #[.int .i64 a, .int .i64 b, .int .i64 c] 34)).alloc (by simp) (.cells #[.int .i64 0, .int .i64 0, .int .i64 0] 34)
    have Hbel := Lib.hid hbel
    generalize (w.alloc (.cells #[.int .i64 a, .int .i64 b, .int .i64 c] 34)).alloc (.cells #[.int .i64 0, .int .i64 0, .int .i64 0] 34) = wA at *
    have Hne := Lib.hid (show b0 ≠ b1 by rw [Hb0.out, Hb1.out]; omega)
    have Hlt := Lib.hid (show w.heap.size ≤ b1 by rw [Hb1.out]; omega)
    have Hrow0 := Lib.hid hrow0
    have Hrow1 := Lib.hid hrow1
    obtain ⟨c0, c1, c2⟩ := row3 hrow0
    clear hrow0 hrow1 hbel Hb0 Hb1
    refine (hN.out wA).mono ?_
    rintro e w2 ⟨rfl, hb2⟩
    have hrA := Hrow0.out.below hb2
    have hrB := Hrow1.out.below hb2
    have HbE := Lib.hid (Hbel.out.trans (hb2.mono Hbel.out.size))
    clear hb2 Hrow0 Hrow1 Hbel c0 c1 c2 hN
    obtain ⟨b2, hb2⟩ : ∃ b2, b2 = w2.heap.size := ⟨_, rfl⟩
    have Hb2 := Lib.hid hb2
    clear hb2
    have e1 := Em.out
    go_wp2
    rw [← Hb2.out]
    have hrAA : Row (w2.alloc (.cells #[.int .i64 p, .int .i64 q, .int .i64 y] 34)) b0 34 _ := hrA.alloc _
    have hrBB : Row (w2.alloc (.cells #[.int .i64 p, .int .i64 q, .int .i64 y] 34)) b1 34 _ := hrB.alloc _
    have hrCC : Row (w2.alloc (.cells #[.int .i64 p, .int .i64 q, .int .i64 y] 34)) b2 34 [.int .i64 p, .int .i64 q, .int .i64 y] := by rw [Hb2.out]; exact Row.new w2 _ _
    have hne3 : b2 ≠ b1 := fun e => by have := hrB.lt; rw [Hb2.out] at e; omega
    have hne4 : b1 ≠ b2 := fun e => hne3 e.symm
    have hne := Hne.out
    have hne' : b1 ≠ b0 := fun e => hne e.symm
    have HbF := Lib.hid (HbE.out.alloc HbE.out.size (.cells #[.int .i64 p, .int .i64 q, .int .i64 y] 34))
    generalize (w2.alloc (.cells #[.int .i64 p, .int .i64 q, .int .i64 y] 34)) = wB at *
    obtain ⟨c0, c1, c2⟩ := row3 hrAA
    obtain ⟨c3, c4, c5⟩ := row3 hrBB
    have f3 := hrBB.free 0
    have f4 := hrBB.free 1
    have f5 := hrBB.free 2
    have s0 := (hrBB.set_ 0 (.int .i64 a)).cell 0
    have s1 := ((hrBB.set_ 0 (.int .i64 a)).set_ 1 (.int .i64 b)).cell 1
    have s2 := (((hrBB.set_ 0 (.int .i64 a)).set_ 1 (.int .i64 b)).set_ 2 (.int .i64 c)).cell 2
    simp only [List.set_cons_zero, List.set_cons_succ, List.getElem?_cons_zero, List.getElem?_cons_succ] at s0 s1 s2
    have S0 := Lib.hid s0
    have S1 := Lib.hid s1
    have S2 := Lib.hid s2
    clear hrA hrB hrAA hrBB hrCC s0 s1 s2 HbE Hb2 Hne
    go_region
    go_wp2
    have s0 := S0.out
    have s1 := S1.out
    have s2 := S2.out
    refine bodyPost_ret (by simp [results, Try.results15, go_sem, s0, s1, s2]) rfl ⟨rfl, ?_⟩
    exact (((HbF.out.setCell Hlt.out _).setCell Hlt.out _).setCell Hlt.out _).drew

theorem koff_is : KOff := by
  intro w a b c n ha hb hc hn
  by_cases h0 : n < 0
  · have e : Bm.offI a b c n = none := by unfold Bm.offI; rw [if_pos (.inl h0)]
    refine (koff_neg w a b c n h0).mono fun e' w' ⟨he, hw⟩ => ⟨fun x hx => ?_, fun _ => he, hw⟩
    rw [e] at hx
    cases hx
  · obtain ⟨x, hx⟩ : ∃ x, Bm.offX a b c n = x := ⟨_, rfl⟩
    have hx64 : Ok64 x := by
      rcases offX_at a b c n (by omega) with ⟨_, h⟩ | ⟨_, h⟩ | ⟨_, h⟩ | ⟨h2, h⟩ <;> rw [← hx, h]
      · exact ha
      · exact hb
      · exact hc
      · unfold Ok64 at *; omega
    unfold Ok64 at hn
    have HN := fun W => knum_is W a b c x ha hb hc hx64
    have hcs := Bm.numI_cases a b c x
    by_cases hin : 0 ≤ Bm.numI a b c x
    · have HY := fun W => (HN W).mono fun e w' h => And.intro (h.1 hin) h.2.2
      by_cases hm : Bm.numI a b c x = n
      · have e : Bm.offI a b c n = some x := by unfold Bm.offI; rw [if_neg (by omega), hx, if_pos hm]
        refine (koff_yes w a b c n x _ _ _ _ hm (by omega) (by omega) hx HY).mono fun e' w' ⟨he, hw⟩ => ⟨fun z hz => ?_, fun hz => ?_, hw⟩
        · rw [e] at hz
          injection hz with hz
          rw [← hz]
          exact he
        · rw [e] at hz
          cases hz
      · have e : Bm.offI a b c n = none := by
          unfold Bm.offI
          split
          · rfl
          · rw [hx, if_neg hm]
        refine (koff_other w a b c n x _ _ _ _ hm (by omega) (by omega) hx HY).mono fun e' w' ⟨he, hw⟩ => ⟨fun z hz => ?_, fun _ => he, hw⟩
        rw [e] at hz
        cases hz
    · have HY := fun W => (HN W).mono fun e w' h => And.intro (h.2.1 (by omega)) h.2.2
      have e : Bm.offI a b c n = none := by
        unfold Bm.offI
        split
        · rfl
        · rw [hx, if_neg (by omega)]
      refine (koff_bad w a b c n x _ _ _ _ (by omega) (by omega) hx HY).mono fun e' w' ⟨he, hw⟩ => ⟨fun z hz => ?_, fun _ => he, hw⟩
      rw [e] at hz
      cases hz
end Go.Proofs.Ytlimiiimgblggaa
