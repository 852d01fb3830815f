/-
  ExecMakes (layer 14): the law's function by its walk: true for any two strings and any int. Premises: what parse's Steps and Literals answer.
-/
import Derived.Test.YtjcehdibklndkaaJk
import Derived.Test.YtjcehdibklndkaaPh
import Derived.Test.YtjcehdibklndkaaPr
namespace Go.Proofs.Ytjcehdibklndkaa
open Go.RowKit

set_option maxHeartbeats 400000 in
set_option maxRecDepth 100000 in
theorem jmakes_out (D X : List Nat) (v : Int) (w : World) (hD : D.length ≤ 9223372036854775807) (hX : X.length ≤ 9223372036854775807) (h : 200 < D.length ∨ 200 < X.length) :
    Calls Try.prog 4 #[.string (strOf D), .string (strOf X), .int .i64 v] w fun e w' => e = .returned (.bool true) ∧ Below w.heap.size w w' := by
  have Haw := Lib.hid (jawake_any w)
  have hsD := strOf_size D
  have hsX := strOf_size X
  generalize strOf D = sD at *
  generalize strOf X = sX at *
  go_enter Try.func4, Try.ntmps4
  go_wp2_with fail
  refine Haw.out.mono ?_
  rintro e w1 ⟨rfl, hb1⟩
  have Hb1 := Lib.hid hb1
  clear hb1
  by_cases h2 : 200 < D.length
  · have d2 : decide (200 < D.length) = true := decide_eq_true h2
    have d3 : decide ((200 : Int) < (D.length : Int)) = true := decide_eq_true (by omega)
    go_wp2
    go_ret
    exact ⟨rfl, Hb1.out⟩
  · have h3 : 200 < X.length := by omega
    have d2 : decide (200 < D.length) = false := decide_eq_false h2
    have d3 : decide ((200 : Int) < (D.length : Int)) = false := decide_eq_false (by omega)
    have d4 : decide (200 < X.length) = true := decide_eq_true h3
    have d5 : decide ((200 : Int) < (X.length : Int)) = true := decide_eq_true (by omega)
    go_wp2
    go_ret
    exact ⟨rfl, Hb1.out⟩
theorem zok_ok {T : List Nat} {a : Nat} {l : List Bm.Stp} (h : Bm.OkS T a l) (hT : T.length ≤ 1000000000) : ZOk (l.map Bm.stpZ) := fun s hs => by
  obtain ⟨t, ht, rfl⟩ := List.mem_map.1 hs
  have := Bm.ok_small T l a h t ht
  exact ⟨⟨by show _ ≤ (t.1 : Int); omega, by show (t.1 : Int) ≤ _; omega⟩, ⟨by show _ ≤ (t.2.1 : Int); omega, by show (t.2.1 : Int) ≤ _; omega⟩, ⟨by show _ ≤ (t.2.2 : Int); omega, by show (t.2.2 : Int) ≤ _; omega⟩⟩
/-- Run of steps that make a text. -/
theorem jrun_makes (D X : List Nat) (A : Option Addr) (c : Nat) (l : List Bm.Stp) (limit : Int) (lim : Nat) (w : World) (hD : D.length ≤ 1000000) (hX : X.length ≤ 1000000) (hl : l.length ≤ 1000000) (hli : Bm.IntOk limit) (hlm : max limit 0 = (lim : Int)) (hlim : lim ≤ 1000000)
    (hDlt : ∀ x ∈ D, x < 256) (hXlt : ∀ x ∈ X, x < 256) (hok : Bm.OkS (D ++ X) D.length l) (hr : StpR w A l) :
    Calls Try.prog 7 #[.string (strOf D), .string (strOf (Bm.litS X 0 l)), .slice A l.length c, .int .i64 limit] w fun e w' => e = .returned (.tuple #[.string (strOf (if lim < X.length then ([], 5) else (X, 0) : List Nat × Nat).1), .int .i64 (((if lim < X.length then ([], 5) else (X, 0) : List Nat × Nat).2 : Nat) : Int)]) ∧ Below w.heap.size w w' := by
  have he : Bm.endS 0 l ≤ X.length := by
    have h1 := Bm.ok_end (D ++ X) l D.length hok
    have h2 := Bm.endS_add l D.length 0
    rw [Nat.add_zero] at h2
    rw [List.length_append] at h1
    omega
  have hll := Bm.litS_length X l 0 he
  have h := jrun_any D (Bm.litS X 0 l) A c (l.map Bm.stpZ) limit lim w (by omega) (by omega) (by rw [List.length_map]; omega) hli hlm (by omega) hDlt (Bm.litS_lt hXlt l 0) (zok_ok hok (by rw [List.length_append]; omega)) (stz_of hr)
  rw [List.length_map, Bm.ans_makes D X l lim hok] at h
  exact h
set_option maxHeartbeats 4000000 in
set_option maxRecDepth 100000 in
theorem jmakes_in (hS : PSteps) (hL : PLits) (D X : List Nat) (v : Int) (w : World) (hD : D.length ≤ 200) (hX : X.length ≤ 200) (hDlt : ∀ z ∈ D, z < 256) (hXlt : ∀ z ∈ X, z < 256) (hv : Bm.IntOk v) :
    Calls Try.prog 4 #[.string (strOf D), .string (strOf X), .int .i64 v] w fun e w' => e = .returned (.bool true) ∧ Below w.heap.size w w' := by
  have Haw := Lib.hid (jawake_any w)
  have hsD := strOf_size D
  have hsX := strOf_size X
  have d3 : decide ((200 : Int) < (D.length : Int)) = false := decide_eq_false (by omega)
  have d5 : decide ((200 : Int) < (X.length : Int)) = false := decide_eq_false (by omega)
  have Hst := Lib.hid (fun w => hS w D X v (by omega) (by omega) hDlt hXlt hv)
  rw [show D.length - 600 = 0 by omega, List.drop_zero, List.take_of_length_le (by omega : X.length ≤ 600)] at Hst
  have Hl1 := Lib.hid (fun w A c l (hl : l.length ≤ 600) (he : Bm.endS 0 l ≤ X.length) (hr : StpR w A l) => hL w X A c l (by omega) (by omega) hXlt he hr)
  have Hend : Hid (∀ l, Bm.OkS (D ++ X) D.length l → Bm.endS 0 l ≤ X.length) := Lib.hid (fun l h => by
    have h1 := Bm.ok_end (D ++ X) l D.length h
    have h2 := Bm.endS_add l D.length 0
    rw [Nat.add_zero] at h2
    rw [List.length_append] at h1
    omega)
  obtain ⟨k, hk⟩ : ∃ k : Nat, k = X.length - 1 := ⟨_, rfl⟩
  have Hr1 := Lib.hid (fun w A c l (hl : l.length ≤ 600) (hok : Bm.OkS (D ++ X) D.length l) (hr : StpR w A l) => jrun_makes D X A c l (X.length : Int) X.length w (by omega) (by omega) (by omega) ⟨by omega, by omega⟩ (by omega) (by omega) hDlt hXlt hok hr)
  have Hr2 := Lib.hid (fun w A c l (hl : l.length ≤ 600) (hok : Bm.OkS (D ++ X) D.length l) (hr : StpR w A l) => jrun_makes D X A c l ((X.length : Int) - 1) k w (by omega) (by omega) (by omega) ⟨by omega, by omega⟩ (by omega) (by omega) hDlt hXlt hok hr)
  rw [if_neg (Nat.lt_irrefl _)] at Hr1
  dsimp only at Hr1
  have hse := strOf_same (strOf X)
  clear hS hL hDlt hXlt hv
  have hx0 : (X.length = 0 ∧ k = 0) ∨ (0 < X.length ∧ k < X.length) := by omega
  generalize strOf D = sD at *
  generalize strOf X = sX at *
  go_enter Try.func4, Try.ntmps4
  go_wp2_with fail
  refine Haw.out.mono ?_
  rintro e w1 ⟨rfl, hb1⟩
  have Hb1 := Lib.hid hb1
  clear hb1 Haw
  go_wp2_with fail
  refine (Hst.out w1).mono ?_
  rintro e w2 ⟨A, c, l, rfl, hr2, hll, hok, _, hb2⟩
  have Hb2 := Lib.hid (Hb1.out.trans (hb2.mono Hb1.out.size))
  have Hok := Lib.hid hok
  have Hrr := Lib.hid hr2
  have He := Lib.hid (Hend.out l hok)
  clear hb2 hok hr2 Hb1 Hst Hend
  go_wp2_with fail
  refine (Hl1.out w2 A c l hll He.out Hrr.out).mono ?_
  rintro e w3 ⟨rfl, hb3⟩
  have Hb3 := Lib.hid (Hb2.out.trans (hb3.mono Hb2.out.size))
  have Hrr3 := Lib.hid (Hrr.out.below hb3)
  clear hb3 Hb2 Hrr Hl1
  go_wp2_with fail
  refine (Hr1.out w3 A c l hll Hok.out Hrr3.out).mono ?_
  rintro e w4 ⟨rfl, hb4⟩
  have Hb4 := Lib.hid (Hb3.out.trans (hb4.mono Hb3.out.size))
  have Hrr4 := Lib.hid (Hrr3.out.below hb4)
  have Hr4 := Lib.hid (Hr2.out w4 A c l hll Hok.out Hrr4.out)
  clear hb4 Hb3 Hrr3 Hr1 Hr2
  rcases hx0 with ⟨hx, hk0⟩ | ⟨hx, hk1⟩
  · rw [if_neg (by omega)] at Hr4
    have dx : ((X.length : Int) == 0) = true := by rw [hx]; rfl
    clear hk hk0 hx
    go_wp2_with fail
    refine Hr4.out.mono ?_
    rintro e w5 ⟨rfl, hb5⟩
    have Hb5 := Lib.hid (Hb4.out.trans (hb5.mono Hb4.out.size))
    clear hb5 Hb4 Hr4
    go_wp2
    go_ret
    exact ⟨rfl, Hb5.out⟩
  · rw [if_pos hk1, str_no] at Hr4
    have dx : ((X.length : Int) == 0) = false := by rw [beq_eq_false_iff_ne]; omega
    clear hk hk1
    go_wp2_with fail
    refine Hr4.out.mono ?_
    rintro e w5 ⟨rfl, hb5⟩
    have Hb5 := Lib.hid (Hb4.out.trans (hb5.mono Hb4.out.size))
    clear hb5 Hb4 Hr4
    go_wp2
    go_ret
    exact ⟨rfl, Hb5.out⟩
end Go.Proofs.Ytjcehdibklndkaa
