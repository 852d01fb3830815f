/-
  ExecRight (layer 14): the law's function by its walk: true for any two strings and any slice of steps. No condition.
-/
import Derived.Test.YtjcehdibklndkaaJk
import Derived.Test.YtjcehdibklndkaaJa
import Derived.Test.YtjcehdibklndkaaPa
import Derived.Test.YtjcehdibklndkaaPe
namespace Go.Proofs.Ytjcehdibklndkaa
open Go.RowKit

set_option maxHeartbeats 400000 in
set_option maxRecDepth 100000 in
theorem jright_out (D X : List Nat) (A : Option Addr) (n c : Nat) (w : World) (hD : D.length ≤ 9223372036854775807) (hX : X.length ≤ 9223372036854775807) (hn : n ≤ 9223372036854775807) (h : 60 < D.length ∨ 60 < X.length ∨ 20 < n) :
    Calls Try.prog 5 #[.string (strOf D), .string (strOf X), .slice A n c] w fun e w' => e = .returned (.bool true) ∧ Below w.heap.size w w' := by
  have Haw := Lib.hid (jawake_any w)
  have hsD := strOf_size D
  have hsX := strOf_size X
  generalize strOf D = sD at *
  generalize strOf X = sX at *
  go_enter Try.func5, Try.ntmps5
  go_wp2_with fail
  refine Haw.out.mono ?_
  rintro e w1 ⟨rfl, hb1⟩
  have Hb1 := Lib.hid hb1
  clear hb1
  by_cases h2 : 60 < D.length
  · have d2 : decide (60 < D.length) = true := decide_eq_true h2
    have d3 : decide ((60 : Int) < (D.length : Int)) = true := decide_eq_true (by omega)
    go_wp2
    go_ret
    exact ⟨rfl, Hb1.out⟩
  · have d2 : decide (60 < D.length) = false := decide_eq_false h2
    have d3 : decide ((60 : Int) < (D.length : Int)) = false := decide_eq_false (by omega)
    by_cases h3 : 60 < X.length
    · have d4 : decide (60 < X.length) = true := decide_eq_true h3
      have d5 : decide ((60 : Int) < (X.length : Int)) = true := decide_eq_true (by omega)
      go_wp2
      go_ret
      exact ⟨rfl, Hb1.out⟩
    · have d4 : decide (60 < X.length) = false := decide_eq_false h3
      have d5 : decide ((60 : Int) < (X.length : Int)) = false := decide_eq_false (by omega)
      have d6 : decide (20 < n) = true := decide_eq_true (by omega)
      have d7 : decide ((20 : Int) < (n : Int)) = true := decide_eq_true (by omega)
      go_wp2
      go_ret
      exact ⟨rfl, Hb1.out⟩
set_option maxHeartbeats 4000000 in
set_option maxRecDepth 100000 in
theorem jright_in (D L : List Nat) (A : Option Addr) (c : Nat) (l : List Bm.StZ) (w : World) (hD : D.length ≤ 60) (hL : L.length ≤ 60) (hl : l.length ≤ 20) (hDlt : ∀ z ∈ D, z < 256) (hLlt : ∀ z ∈ L, z < 256) (hok : ZOk l) (hr : StzR w A l) :
    Calls Try.prog 5 #[.string (strOf D), .string (strOf L), .slice A l.length c] w fun e w' => e = .returned (.bool true) ∧ Below w.heap.size w w' := by
  have Haw := Lib.hid (jawake_any w)
  have hsD := strOf_size D
  have hsL := strOf_size L
  have d3 : decide ((60 : Int) < (D.length : Int)) = false := decide_eq_false (by omega)
  have d5 : decide ((60 : Int) < (L.length : Int)) = false := decide_eq_false (by omega)
  have d7 : decide ((20 : Int) < (l.length : Int)) = false := decide_eq_false (by omega)
  have Hr := Lib.hid hr
  have Hrun := Lib.hid (fun w hr => jrun_any D L A c l 600 600 w (by omega) (by omega) (by omega) ⟨by omega, by omega⟩ (by omega) (by omega) hDlt hLlt hok hr)
  by_cases h0 : (Bm.lenZ D.length 600 0 L.length l).2 = 0
  · have h1 := Bm.lenZ_two h0
    have hA : Bm.ansZ D L l 600 = ((Bm.textZ D L l).drop D.length, 0) := by rw [Bm.ansZ, if_pos h0]
    rw [hA] at Hrun
    have hTl := Bm.textZ_length h1 (A := D) rfl
    have hN := (Bm.lenZ_le h1).2
    obtain ⟨l', rfl, g1, g2⟩ := Bm.ans_right D L l 600 h0
    have hXl : ((Bm.textZ D L (l'.map Bm.stpZ)).drop D.length).length ≤ 600 := by rw [List.length_drop]; omega
    have hXlt : ∀ z ∈ (Bm.textZ D L (l'.map Bm.stpZ)).drop D.length, z < 256 := drop_lt (Bm.textZ_lt _ D L hDlt hLlt) _
    rw [List.length_map] at hl Hrun d7 ⊢
    clear hA h1 h0 hTl hN hr
    generalize (Bm.textZ D L (l'.map Bm.stpZ)).drop D.length = X at *
    have hTlt : ∀ z ∈ D ++ X, z < 256 := append_lt hDlt hXlt
    have hend : Bm.endS 0 l' ≤ X.length := by
      have h1 := Bm.ok_end (D ++ X) l' D.length g1
      have h2 := Bm.endS_add l' D.length 0
      rw [Nat.add_zero] at h2
      rw [List.length_append] at h1
      omega
    have HR := Lib.hid (fun w (hr : StpR w A l') => prright_any D X A c l' w (by omega) (by omega) (by omega) hTlt g1 hr)
    have HL := Lib.hid (fun w (hr : StpR w A l') => prlits_any X A c l' w (by omega) (by omega) hend hr)
    rw [g2] at HL
    have hse := strOf_same (strOf L)
    clear hTlt hXlt hDlt hLlt hok hend g1 g2 hXl
    generalize strOf D = sD at *
    generalize strOf L = sL at *
    go_enter Try.func5, Try.ntmps5
    go_wp2_with fail
    refine Haw.out.mono ?_
    rintro e w1 ⟨rfl, hb1⟩
    have Hb1 := Lib.hid hb1
    have Hru1 := Lib.hid (Hrun.out w1 (Hr.out.below hb1))
    have Hr1 := Lib.hid (Hr.out.below hb1)
    clear hb1 Haw Hrun
    go_wp2_with fail
    refine Hru1.out.mono ?_
    rintro e w2 ⟨rfl, hb2⟩
    have Hb2 := Lib.hid (Hb1.out.trans (hb2.mono Hb1.out.size))
    have Hr2 := Lib.hid (stp_of (Hr1.out.below hb2))
    have HR2 := Lib.hid (HR.out w2 Hr2.out)
    clear hb2 Hb1 Hru1 Hr1 HR
    go_wp2_with fail
    refine HR2.out.mono ?_
    rintro e w3 ⟨rfl, hb3⟩
    have Hb3 := Lib.hid (Hb2.out.trans (hb3.mono Hb2.out.size))
    have HL3 := Lib.hid (HL.out w3 (Hr2.out.below hb3))
    clear hb3 Hb2 HR2 Hr2 HL
    go_wp2_with fail
    refine HL3.out.mono ?_
    rintro e w4 ⟨rfl, hb4⟩
    have Hb4 := Lib.hid (Hb3.out.trans (hb4.mono Hb3.out.size))
    clear hb4 Hb3 HL3
    go_wp2
    go_ret
    exact ⟨rfl, Hb4.out⟩
  · have hA : Bm.ansZ D L l 600 = ([], (Bm.lenZ D.length 600 0 L.length l).2) := by rw [Bm.ansZ, if_neg h0]
    rw [hA] at Hrun
    have he := (Bm.lenZ_err (a := D.length) (lim := 600) l 0 L.length).resolve_left h0
    clear hA h0 hDlt hLlt hok hr
    rcases he with he | he
    all_goals
      rw [he, str_no] at Hrun
      clear he
      generalize strOf D = sD at *
      generalize strOf L = sL at *
      go_enter Try.func5, Try.ntmps5
      go_wp2_with fail
      refine Haw.out.mono ?_
      rintro e w1 ⟨rfl, hb1⟩
      have Hb1 := Lib.hid hb1
      have Hru1 := Lib.hid (Hrun.out w1 (Hr.out.below hb1))
      clear hb1 Haw Hrun
      go_wp2_with fail
      refine Hru1.out.mono ?_
      rintro e w2 ⟨rfl, hb2⟩
      have Hb2 := Lib.hid (Hb1.out.trans (hb2.mono Hb1.out.size))
      clear hb2 Hb1 Hru1
      go_wp2
      go_ret
      exact ⟨rfl, Hb2.out⟩
end Go.Proofs.Ytjcehdibklndkaa
