/-
  The program's layer 12 (parse), by its walk: Steps. Conditions: as the theorem's premises say (up to a thousand million bytes).
-/
import Derived.Test.YtjcehdibklndkaaPs
namespace Go.Proofs.Ytjcehdibklndkaa
open Go.RowKit

theorem depN_le (v : Int) : Bm.depN v ≤ 64 := by
  unfold Bm.depN
  split
  · omega
  · split
    · omega
    · split <;> omega
set_option maxHeartbeats 1000000 in
set_option maxRecDepth 100000 in
theorem parsteps_any (D X : List Nat) (v : Int) (w : World) (hDl : D.length ≤ 1000000000) (hXl : X.length ≤ 1000000000) (hD : ∀ z ∈ D, z < 256) (hX : ∀ z ∈ X, z < 256) (hv : Bm.IntOk v) :
    Calls Try.prog 10 #[.string (strOf D), .string (strOf X), .int .i64 v] w fun e w' => ∃ A c, e = .returned (.slice A (Bm.stepsA D X v).length c) ∧ StpR w' A (Bm.stepsA D X v) ∧ Below w.heap.size w w' := by
  have Hdep := Lib.hid (pardepth_any v hv w)
  have hdle := depN_le v
  by_cases h0 : Bm.depN v = 0
  · have Hr : Hid (Bm.stepsA D X v = []) := Lib.hid (by rw [Bm.stepsA, if_pos h0])
    rw [h0] at Hdep
    clear hD hX hDl hXl h0 hdle
    go_enter Try.func10, Try.ntmps10
    go_wp2_with fail
    refine Hdep.out.mono ?_
    rintro e w1 ⟨rfl, hb1⟩
    have Hb1 := Lib.hid hb1
    clear hb1 Hdep
    go_wp2
    go_ret
    exact ⟨none, 0, by rw [Hr.out]; rfl, by rw [Hr.out]; exact StpR.nil _ _, Hb1.out⟩
  · obtain ⟨R, hR⟩ : ∃ R, R = Bm.stepsA D X v := ⟨_, rfl⟩
    rw [← hR]
    have hdz : ((Bm.depN v : Int) == 0) = false := by simp; omega
    obtain ⟨D', hD'⟩ : ∃ D', D' = D.drop (D.length - 600) := ⟨_, rfl⟩
    obtain ⟨X', hX'⟩ : ∃ X', X' = X.take 600 := ⟨_, rfl⟩
    have hDl' : D'.length ≤ 600 := by rw [hD', List.length_drop]; omega
    have hXl' : X'.length ≤ 600 := by rw [hX', List.length_take]; omega
    have hDs := strOf_size D
    have hXs := strOf_size X
    have hDs' := strOf_size D'
    have m1 : max ((D.length : Int) - 600) 0 = ((D.length - 600 : Nat) : Int) := by omega
    have m2 : min (X.length : Int) 600 = ((min X.length 600 : Nat) : Int) := by omega
    have c1 : ∀ W : World, (Instr.slice 9 (.string (strOf D)) (some (.int .i64 ((D.length - 600 : Nat) : Int))) none none).run Try.prog W = .ok (.string (strOf D')) W := fun W => by rw [hD']; exact str_from D _ (by omega) W
    have c2 : ∀ W : World, (Instr.slice 9 (.string (strOf X)) none (some (.int .i64 ((min X.length 600 : Nat) : Int))) none).run Try.prog W = .ok (.string (strOf X')) W := fun W => by
      have h := str_to X (min X.length 600) (by omega) W
      rwa [show X.take (min X.length 600) = X' by rw [hX']; by_cases h6 : X.length ≤ 600
                                                  · rw [Nat.min_eq_left h6, List.take_of_length_le (Nat.le_refl _), List.take_of_length_le h6]
                                                  · rw [Nat.min_eq_right (by omega)]] at h
    have hadd := fun W => str_add D' X' (by omega) W
    have hTl : (D' ++ X').length ≤ 2000 := by rw [List.length_append]; omega
    have hTlt : ∀ z ∈ D' ++ X', z < 256 := append_lt (by rw [hD']; exact drop_lt hD _) (by rw [hX']; exact take_lt hX _)
    have HR : Hid (R = Bm.stepsN (D' ++ X') (Bm.depN v : Int) ((D' ++ X').length - D'.length) D'.length (Bm.notesF (D' ++ X') [] 0 D'.length) 0) := Lib.hid (by
      rw [hR, Bm.stepsA, if_neg h0, ← hD', ← hX', List.length_append, Nat.add_sub_cancel_left])
    have Hnew := Lib.hid (fun w => znew_any w (D' ++ X') hTl)
    have Hnts : Hid (∀ w b, PF w b (D' ++ X') [] → Calls Try.prog 18 #[.pointer (some ⟨b, 0, none⟩), .int .i64 0, .int .i64 (D'.length : Int)] w fun e w' => e = .returned (.tuple #[]) ∧ PF w' b (D' ++ X') (Bm.notesF (D' ++ X') [] 0 D'.length) ∧ w.grownBy w' (some b)) := Lib.hid (fun w b h => parnote_any b (D' ++ X') [] 0 D'.length w hTl hTlt (Nat.zero_le _) (by omega) h)
    have Hst := Lib.hid (fun w b h => parst_any b (D' ++ X') (Bm.notesF (D' ++ X') [] 0 D'.length) D'.length (Bm.depN v : Int) w hTl hTlt (by rw [List.length_append]; omega) ⟨by omega, by omega⟩ h)
    have HRl := Lib.hid (show R.length ≤ 600 from by rw [hR]; exact Bm.stepsA_length D X v)
    rw [← HR.out] at Hst
    clear hD hX hD' hX' hR HR hTlt h0
    obtain ⟨n1, hn1⟩ : ∃ n1, n1 = D.length - 600 := ⟨_, rfl⟩
    obtain ⟨n2, hn2⟩ : ∃ n2, n2 = min X.length 600 := ⟨_, rfl⟩
    rw [← hn1] at m1 c1
    rw [← hn2] at m2 c2
    clear hn1 hn2
    generalize D' ++ X' = T at *
    generalize Bm.notesF T [] 0 D'.length = P1 at *
    generalize Bm.depN v = dp at *
    generalize strOf D = sD at *
    generalize strOf X = sX at *
    generalize strOf D' = sD' at *
    generalize strOf X' = sX' at *
    go_enter Try.func10, Try.ntmps10
    go_wp2_with fail
    refine Hdep.out.mono ?_
    rintro e w1 ⟨rfl, hb1⟩
    have Hb1 := Lib.hid hb1
    clear hb1 Hdep
    go_wp2_with fail
    refine (Hnew.out w1).mono ?_
    rintro e w2 ⟨b, rfl, hf2, hb, hb2⟩
    have Hf2 := Lib.hid hf2
    have Hb2 := Lib.hid (Hb1.out.trans (hb2.mono Hb1.out.size))
    have hwb : w.heap.size ≤ b := Nat.le_trans Hb1.out.size hb
    have Hn2 := Lib.hid (Hnts.out w2 b hf2)
    clear hf2 hb2 Hb1 hb Hnew Hnts
    go_wp2_with fail
    refine Hn2.out.mono ?_
    rintro e w3 ⟨rfl, hf3, hg3⟩
    have Hb3 := Lib.hid (Hb2.out.trans (below_grown hg3 hwb Hb2.out.size))
    have Hs3 := Lib.hid (Hst.out w3 b hf3)
    clear hf3 hg3 Hb2 Hf2 Hn2 Hst
    go_wp2_with fail
    refine Hs3.out.mono ?_
    rintro e w4 ⟨A, c, rfl, hr4, hg4⟩
    have Hb4 := Lib.hid (Hb3.out.trans (below_grown hg4 hwb Hb3.out.size))
    have Hr4 := Lib.hid hr4
    clear hr4 hg4 Hb3 Hs3
    go_wp2
    go_ret
    exact ⟨A, c, rfl, Hr4.out, Hb4.out⟩
end Go.Proofs.Ytjcehdibklndkaa
