/-
  ParseMakes (layer 12): the law's function by its walk: true for any two strings and any int. Premises: what the calls of layer 12 and its reference answer.
-/
import Derived.Test.YtemniimodfobnaaPk
import Derived.Test.YtemniimodfobnaaPa
import Derived.Test.YtemniimodfobnaaPe
import Derived.Deep.DeepCutAuto
namespace Go.Proofs.Ytemniimodfobnaa
open Go.RowKit

set_option maxHeartbeats 400000 in
set_option maxRecDepth 100000 in
theorem pmakes_out (hA : PAbc) (hL : PLits) (D X : List Nat) (v : Int) (w : World) (hD : D.length ≤ 9223372036854775807) (hX : X.length ≤ 9223372036854775807) (h : 300 < D.length ∨ 300 < X.length) :
    Calls Try.prog 3 #[.string (strOf D), .string (strOf X), .int .i64 v] w fun e w' => e = .returned (.bool true) ∧ Below w.heap.size w w' := by
  have Haw := Lib.hid (pawake_of hA hL w)
  have hsD := strOf_size D
  have hsX := strOf_size X
  clear hA hL
  generalize strOf D = sD at *
  generalize strOf X = sX at *
  go_enter Try.func3, Try.ntmps3
  go_wp2_with fail
  refine Haw.out.mono ?_
  rintro e w1 ⟨rfl, hb1⟩
  have Hb1 := Lib.hid hb1
  clear hb1
  by_cases h2 : 300 < D.length
  · have d2 : decide (300 < D.length) = true := decide_eq_true h2
    have d3 : decide ((300 : Int) < (D.length : Int)) = true := decide_eq_true (by omega)
    go_wp2
    go_ret
    exact ⟨rfl, Hb1.out⟩
  · have h3 : 300 < X.length := by omega
    have d2 : decide (300 < D.length) = false := decide_eq_false h2
    have d3 : decide ((300 : Int) < (D.length : Int)) = false := decide_eq_false (by omega)
    have d4 : decide (300 < X.length) = true := decide_eq_true h3
    have d5 : decide ((300 : Int) < (X.length : Int)) = true := decide_eq_true (by omega)
    go_wp2
    go_ret
    exact ⟨rfl, Hb1.out⟩
theorem sum_head {l : List Bm.Stp} {k : Nat} (hk : k < l.length) : Bm.sumS (l.drop k) = l[k].2.1 + Bm.sumS (l.drop (k + 1)) := by
  rw [List.drop_eq_getElem_cons hk, Bm.sumS]
set_option maxHeartbeats 4000000 in
set_option maxRecDepth 100000 in
theorem pmakes_in (hA : PAbc) (hS : PSteps) (hR : PRight) (hL : PLits) (D X : List Nat) (v : Int) (w : World) (hD : D.length ≤ 300) (hX : X.length ≤ 300) (hDlt : ∀ z ∈ D, z < 256) (hXlt : ∀ z ∈ X, z < 256) (hv : Bm.IntOk v) :
    Calls Try.prog 3 #[.string (strOf D), .string (strOf X), .int .i64 v] w fun e w' => e = .returned (.bool true) ∧ Below w.heap.size w w' := by
  have Haw := Lib.hid (pawake_of hA hL w)
  have hsD := strOf_size D
  have hsX := strOf_size X
  have hTlt : ∀ z ∈ D ++ X, z < 256 := append_lt hDlt hXlt
  have d3 : decide ((300 : Int) < (D.length : Int)) = false := decide_eq_false (by omega)
  have d5 : decide ((300 : Int) < (X.length : Int)) = false := decide_eq_false (by omega)
  have Hst := Lib.hid (fun w => hS w D X v (by omega) (by omega) hDlt hXlt hv)
  rw [show D.length - 600 = 0 by omega, List.drop_zero, List.take_of_length_le (by omega : X.length ≤ 600)] at Hst
  have Hr1 := Lib.hid (fun w A c l (hl : l.length ≤ 600) (hok : Bm.OkS (D ++ X) D.length l) (hr : StpR w A l) => prright_any D X A c l w (by omega) (by omega) (by omega) hTlt hok hr)
  have Hr2 := Lib.hid (fun w A c l (hl : l.length ≤ 600) (hok : Bm.OkS (D ++ X) D.length l) (hr : StpR w A l) => hR w D X A c l (by omega) (by omega) (by omega) hok hr)
  have Hl1 := Lib.hid (fun w A c l (hl : l.length ≤ 600) (he : Bm.endS 0 l ≤ X.length) (hr : StpR w A l) => hL w X A c l (by omega) (by omega) hXlt he hr)
  have Hl2 := Lib.hid (fun w A c l (hl : l.length ≤ 600) (he : Bm.endS 0 l ≤ X.length) (hr : StpR w A l) => prlits_any X A c l w (by omega) (by omega) he hr)
  have Hend : Hid (∀ l, Bm.OkS (D ++ X) D.length l → Bm.endS 0 l ≤ X.length) := Lib.hid (fun l h => by
    have h1 := Bm.ok_end (D ++ X) l D.length h
    have h2 := Bm.endS_add l D.length 0
    rw [Nat.add_zero] at h2
    rw [List.length_append] at h1
    omega)
  have Hlen := Lib.hid (fun l (h : Bm.endS 0 l ≤ X.length) => Bm.litS_length X l 0 h)
  clear hA hS hR hL hDlt hXlt hTlt hv
  generalize strOf D = sD at *
  generalize strOf X = sX at *
  go_enter Try.func3, Try.ntmps3
  go_wp2_with fail
  refine Haw.out.mono ?_
  rintro e w1 ⟨rfl, hb1⟩
  have Hb1 := Lib.hid hb1
  clear hb1 Haw
  go_wp2_with fail
  refine (Hst.out w1).mono ?_
  rintro e w2 ⟨A, c, l, rfl, hr2, hll, hok, hz, hb2⟩
  have Hb2 := Lib.hid (Hb1.out.trans (hb2.mono Hb1.out.size))
  have Hok := Lib.hid hok
  have Hrr := Lib.hid hr2
  have Hz := Lib.hid hz
  have He := Lib.hid (Hend.out l hok)
  have Hle := Lib.hid (Hlen.out l (Hend.out l hok))
  clear hb2 hok hr2 hz Hb1 Hst Hend Hlen
  go_wp2_with fail
  refine (Hr1.out w2 A c l hll Hok.out Hrr.out).mono ?_
  rintro e w3 ⟨rfl, hb3⟩
  have Hb3 := Lib.hid (Hb2.out.trans (hb3.mono Hb2.out.size))
  have Hrr3 := Lib.hid (Hrr.out.below hb3)
  clear hb3 Hb2 Hrr Hr1
  go_wp2_with fail
  refine (Hr2.out w3 A c l hll Hok.out Hrr3.out).mono ?_
  rintro e w4 ⟨rfl, hb4⟩
  have Hb4 := Lib.hid (Hb3.out.trans (hb4.mono Hb3.out.size))
  have Hrr4 := Lib.hid (Hrr3.out.below hb4)
  clear hb4 Hb3 Hrr3 Hr2 Hok
  obtain ⟨q, hq⟩ : ∃ q, q = decide (v ≤ 0) := ⟨_, rfl⟩
  obtain ⟨q2, hq2⟩ : ∃ q2, q2 = decide (0 < l.length) := ⟨_, rfl⟩
  have hqq : (q && q2) = false := by
    by_cases h : v ≤ 0
    · have := Hz.out h
      subst this
      rw [hq2]
      simp
    · rw [hq, decide_eq_false h]; rfl
  have dq : decide (v ≤ 0) = q := hq.symm
  have dq2 : decide (0 < l.length) = q2 := hq2.symm
  have dq3 : decide ((0 : Int) < (l.length : Int)) = q2 := by rw [hq2, decide_eq_decide]; omega
  have hgo : Hid (q = false ∨ (q = true ∧ q2 = false)) := Lib.hid (by cases q <;> cases q2 <;> simp at hqq ⊢)
  clear hq hq2 hqq Hz
  obtain ⟨S, hS⟩ : ∃ S, S = Bm.sumS l := ⟨_, rfl⟩
  have HS := Lib.hid hS
  rw [← hS] at Hle
  have Hsh := Lib.hid (fun k (h : k < l.length) => sum_head (l := l) (k := k) h)
  have hSX : S ≤ 300 := by have := Hle.out; omega
  clear hS
  rcases hgo.out with rfl | ⟨rfl, rfl⟩
  all_goals
    clear hgo
    go_wp2
    go_loopw [8, 49] (fun nv iv wr => ∃ n k : Nat, k ≤ l.length ∧ n ≤ S ∧ nv = .int .i64 (n : Int) ∧ iv = .int .i64 (k : Int) ∧ Hid (S = n + Bm.sumS (l.drop k)) ∧ Hid (StpR wr A l) ∧ Hid (Below w.heap.size w wr)) (fun _ iv _ => l.length - (intOf iv).toNat)
    case atStart => exact ⟨0, 0, Nat.zero_le _, Nat.zero_le _, rfl, rfl, Lib.hid (by rw [HS.out, List.drop_zero, Nat.zero_add]), Hrr4, Hb4⟩
    case round =>
      obtain ⟨n, k, hk, hnS, rfl, rfl, hs, hr, hbel⟩ := hrel
      clear HS Hb4 Hrr4
      by_cases hkl : k < l.length
      · have dd : decide ((k : Int) < (l.length : Int)) = true := decide_eq_true (by omega)
        obtain ⟨g, off, rfl, hg, hc⟩ := hr.out (by omega)
        obtain ⟨c0, c1, c2⟩ := hc k hkl
        have hs2 := hs.out
        rw [Hsh.out k hkl] at hs2
        have hm : l[k].2.1 ≤ 300 := by omega
        have hs3 : S = (n + l[k].2.1) + Bm.sumS (l.drop (k + 1)) := by omega
        have Hs3 := Lib.hid hs3
        have hn3 : n + l[k].2.1 ≤ S := by omega
        have hbA := (Below.refl wr.heap.size wr).alloc (Nat.le_refl _) (.cells #[.int .i64 (l[k].1 : Int), .int .i64 (l[k].2.1 : Int), .int .i64 (l[k].2.2 : Int)] 27)
        have HrA := Lib.hid (hr.out.below hbA)
        have HbA := Lib.hid (hbel.out.trans (hbA.mono hbel.out.size))
        clear hc hs hs2 hs3 hbA hr hbel Hsh Hle hg
        generalize l[k].1 = x at *
        generalize l[k].2.1 = m at *
        generalize l[k].2.2 = o at *
        go_wp2
        go_roundw
        case rel => exact ⟨n + m, k + 1, by omega, hn3, by go_num, by go_num, Hs3, HrA, HbA⟩
        case measure => simp [intOf]; omega
      · obtain rfl : k = l.length := by omega
        have dd : decide ((l.length : Int) < (l.length : Int)) = false := decide_eq_false (by omega)
        have en : n = S := by have := hs.out; rw [List.drop_length] at this; exact this.symm
        have HL1 := Lib.hid (Hl1.out wr A c l hll He.out hr.out)
        have HL2 := Lib.hid (fun W h => Hl2.out W A c l hll He.out h)
        have hlx : (Bm.litS X 0 l).length + n = X.length := by have := Hle.out; omega
        have hsl := strOf_size (Bm.litS X 0 l)
        have hli : ((Bm.litS X 0 l).length : Int) + (n : Int) = (X.length : Int) := by omega
        have hse := strOf_same (strOf (Bm.litS X 0 l))
        clear Hl1 Hl2 Hle Hsh hs en
        generalize strOf (Bm.litS X 0 l) = sL at *
        generalize (Bm.litS X 0 l).length = ll at *
        go_wp2_with fail
        refine HL1.out.mono ?_
        rintro e w5 ⟨rfl, hb5⟩
        have Hb5 := Lib.hid (hbel.out.trans (hb5.mono hbel.out.size))
        have Hr5 := Lib.hid (HL2.out w5 (hr.out.below hb5))
        clear hb5 hbel hr HL1 HL2
        go_wp2_with fail
        refine Hr5.out.mono ?_
        rintro e w6 ⟨rfl, hb6⟩
        have Hb6 := Lib.hid (Hb5.out.trans (hb6.mono Hb5.out.size))
        clear hb6 Hb5 Hr5
        have hie : (((ll : Int) + (n : Int)) == (X.length : Int)) = true := by rw [hli]; simp
        go_wp2
        go_ret
        exact ⟨rfl, Hb6.out⟩
end Go.Proofs.Ytemniimodfobnaa
