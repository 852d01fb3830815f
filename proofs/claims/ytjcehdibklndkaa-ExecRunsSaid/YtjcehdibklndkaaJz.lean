/-
  ExecRuns (layer 14): the law's function by its walk: true for any array of two strings, any slice of steps and any int. No condition.
-/
import Derived.Test.YtjcehdibklndkaaJk
import Derived.Test.YtjcehdibklndkaaJa
import Derived.Test.YtjcehdibklndkaaJd
import Derived.Test.YtjcehdibklndkaaPr
namespace Go.Proofs.Ytjcehdibklndkaa
open Go.RowKit

theorem row2s {w : World} {b : Nat} {t : TypeId} {x y : Value} (h : Row w b t [x, y]) : w.cell? ⟨b, 0, none⟩ = some x ∧ w.cell? ⟨b, 1, none⟩ = some y := by
  have h0 := h.cell 0
  have h1 := h.cell 1
  simp only [List.getElem?_cons_zero, List.getElem?_cons_succ] at h0 h1
  exact ⟨h0, h1⟩
theorem row_belowJ {w w' : World} {b : Nat} {t : TypeId} {cs : List Value} (h : Row w b t cs) (hb : Below w.heap.size w w') : Row w' b t cs := h.keep (hb.block b h.lt)
set_option maxHeartbeats 400000 in
set_option maxRecDepth 100000 in
theorem jruns_out (D X : List Nat) (A : Option Addr) (n c : Nat) (limit : Int) (w : World) (hD : D.length ≤ 9223372036854775807) (hX : X.length ≤ 9223372036854775807) (hn : n ≤ 9223372036854775807) (hli : Bm.IntOk limit) (h : 100 < D.length ∨ 100 < X.length ∨ 20 < n ∨ 600 < limit) :
    Calls Try.prog 3 #[.agg #[.string (strOf D), .string (strOf X)], .slice A n c, .int .i64 limit] w fun e w' => e = .returned (.bool true) ∧ Below w.heap.size w w' := by
  have Haw := Lib.hid (fun w => jawake_any w)
  have hsD := strOf_size D
  have hsX := strOf_size X
  generalize strOf D = sD at *
  generalize strOf X = sX at *
  obtain ⟨hli0, hli1⟩ := hli
  obtain ⟨b0, hb0⟩ : ∃ b0, b0 = w.heap.size := ⟨_, rfl⟩
  have hrow0 : Row (w.alloc (.cells #[.string sD, .string sX] 22)) b0 22 [.string sD, .string sX] := by rw [hb0]; exact Row.new w _ _
  have hbel0 := (Below.refl w.heap.size w).alloc (Nat.le_refl _) (.cells #[.string sD, .string sX] 22)
  have Hrow0 := Lib.hid hrow0
  have Hbel0 := Lib.hid hbel0
  have Hb0 := Lib.hid hb0
  clear hrow0 hbel0 hb0
  go_enter Try.func3, Try.ntmps3
  go_wp2_with fail
  rw [← Hb0.out]
  generalize w.alloc (.cells #[.string sD, .string sX] 22) = wa at *
  refine (Haw.out wa).mono ?_
  rintro e w1 ⟨rfl, hb1⟩
  obtain ⟨c0, c1⟩ := row2s (row_belowJ Hrow0.out hb1)
  have Hb1 := Lib.hid (Hbel0.out.trans (hb1.mono Hbel0.out.size))
  clear hb1 Hrow0 Hbel0 Haw
  by_cases h2 : 100 < D.length
  · have d2 : decide (100 < D.length) = true := decide_eq_true h2
    have d3 : decide ((100 : Int) < (D.length : Int)) = true := decide_eq_true (by omega)
    go_wp2
    go_ret
    exact ⟨rfl, Hb1.out⟩
  · have d2 : decide (100 < D.length) = false := decide_eq_false h2
    have d3 : decide ((100 : Int) < (D.length : Int)) = false := decide_eq_false (by omega)
    by_cases h3 : 100 < X.length
    · have d4 : decide (100 < X.length) = true := decide_eq_true h3
      have d5 : decide ((100 : Int) < (X.length : Int)) = true := decide_eq_true (by omega)
      go_wp2
      go_ret
      exact ⟨rfl, Hb1.out⟩
    · have d4 : decide (100 < X.length) = false := decide_eq_false h3
      have d5 : decide ((100 : Int) < (X.length : Int)) = false := decide_eq_false (by omega)
      by_cases h4 : 20 < n
      · have d6 : decide (20 < n) = true := decide_eq_true h4
        have d7 : decide ((20 : Int) < (n : Int)) = true := decide_eq_true (by omega)
        go_wp2
        go_ret
        exact ⟨rfl, Hb1.out⟩
      · have d6 : decide (20 < n) = false := decide_eq_false h4
        have d7 : decide ((20 : Int) < (n : Int)) = false := decide_eq_false (by omega)
        have d8 : decide (limit > 600) = true := decide_eq_true (by omega)
        have d9 : decide (600 < limit) = true := decide_eq_true (by omega)
        go_wp2
        go_ret
        exact ⟨rfl, Hb1.out⟩
set_option maxHeartbeats 4000000 in
set_option maxRecDepth 100000 in
theorem jruns_in (D L : List Nat) (A : Option Addr) (c : Nat) (l : List Bm.StZ) (limit : Int) (w : World) (hD : D.length ≤ 100) (hL : L.length ≤ 100) (hl : l.length ≤ 20) (hli : Bm.IntOk limit) (hlm : limit ≤ 600) (hDlt : ∀ z ∈ D, z < 256) (hLlt : ∀ z ∈ L, z < 256) (hok : ZOk l) (hr : StzR w A l) :
    Calls Try.prog 3 #[.agg #[.string (strOf D), .string (strOf L)], .slice A l.length c, .int .i64 limit] w fun e w' => e = .returned (.bool true) ∧ Below w.heap.size w w' := by
  have Haw := Lib.hid (fun w => jawake_any w)
  have hsD := strOf_size D
  have hsL := strOf_size L
  have d3 : decide ((100 : Int) < (D.length : Int)) = false := decide_eq_false (by omega)
  have d5 : decide ((100 : Int) < (L.length : Int)) = false := decide_eq_false (by omega)
  have d7 : decide ((20 : Int) < (l.length : Int)) = false := decide_eq_false (by omega)
  have d8 : decide (limit > 600) = false := decide_eq_false (by omega)
  have d9 : decide (600 < limit) = false := decide_eq_false (by omega)
  obtain ⟨lim, hlim⟩ : ∃ lim : Nat, lim = (max limit 0).toNat := ⟨_, rfl⟩
  have hl1 : max limit 0 = (lim : Int) := by omega
  have hl2 : (limit < 0 ∧ lim = 0) ∨ limit = (lim : Int) := by omega
  have hl6 : lim ≤ 600 := by omega
  have Hrun := Lib.hid (fun w hr => jrun_any D L A c l limit lim w (by omega) (by omega) (by omega) hli hl1 (by omega) hDlt hLlt hok hr)
  have Href := Lib.hid (fun w hr => jrrun_any D L A c l limit lim w (by omega) (by omega) (by omega) hli hl2 (by omega) hok hr)
  have Hsz := Lib.hid (fun w hr => jsize_any L A c l w (by omega) (by omega) hok hr)
  obtain ⟨b0, hb0⟩ : ∃ b0, b0 = w.heap.size := ⟨_, rfl⟩
  have Hr := Lib.hid (hr.below ((Below.refl w.heap.size w).alloc (Nat.le_refl _) (.cells #[.string (strOf D), .string (strOf L)] 22)))
  have hrow0 : Row (w.alloc (.cells #[.string (strOf D), .string (strOf L)] 22)) b0 22 [.string (strOf D), .string (strOf L)] := by rw [hb0]; exact Row.new w _ _
  have hbel0 := (Below.refl w.heap.size w).alloc (Nat.le_refl _) (.cells #[.string (strOf D), .string (strOf L)] 22)
  have Hrow0 := Lib.hid hrow0
  have Hbel0 := Lib.hid hbel0
  have Hb0 := Lib.hid hb0
  obtain ⟨hli0, hli1⟩ := hli
  by_cases h0 : (Bm.lenZ D.length lim 0 L.length l).2 = 0
  · have h1 := Bm.lenZ_two h0
    have hA : Bm.ansZ D L l lim = ((Bm.textZ D L l).drop D.length, 0) := by rw [Bm.ansZ, if_pos h0]
    rw [hA] at Hrun Href
    have hTl := Bm.textZ_length h1 (A := D) rfl
    have hN := (Bm.lenZ_le h1).2
    have hsz := Bm.sizeZ_ok (by omega) h1 (Nat.zero_add L.length).symm
    rw [hsz] at Hsz
    have hsX : (strOf ((Bm.textZ D L l).drop D.length)).size = (Bm.lenZ D.length lim 0 L.length l).1 := by rw [strOf_size, List.length_drop]; omega
    have hse := strOf_same (strOf ((Bm.textZ D L l).drop D.length))
    clear hA h1 h0 hTl hsz hr hDlt hLlt hok hrow0 hbel0 hb0 hlim hl2
    generalize (Bm.lenZ D.length lim 0 L.length l).1 = N at *
    generalize strOf ((Bm.textZ D L l).drop D.length) = sX at *
    generalize strOf D = sD at *
    generalize strOf L = sL at *
    have f1 : decide ((N : Int) ≤ (lim : Int)) = true := decide_eq_true (by omega)
    have f2 : ((N : Int) == (N : Int)) = true := by simp
    go_enter Try.func3, Try.ntmps3
    go_wp2_with fail
    rw [← Hb0.out]
    generalize w.alloc (.cells #[.string sD, .string sL] 22) = wa at *
    refine (Haw.out wa).mono ?_
    rintro e w1 ⟨rfl, hb1⟩
    have hrow1 := row_belowJ Hrow0.out hb1
    obtain ⟨c0, c1⟩ := row2s hrow1
    have Hrow1 := Lib.hid hrow1
    have Hb1 := Lib.hid (Hbel0.out.trans (hb1.mono Hbel0.out.size))
    have Hr1 := Lib.hid (Hr.out.below hb1)
    have Hru1 := Lib.hid (Hrun.out w1 Hr1.out)
    clear hb1 hrow1 Haw Hrun Hr Hrow0 Hbel0
    go_wp2_with fail
    refine Hru1.out.mono ?_
    rintro e w2 ⟨rfl, hb2⟩
    have hrow2 := row_belowJ Hrow1.out hb2
    clear c0 c1
    obtain ⟨c0, c1⟩ := row2s hrow2
    have Hrow2 := Lib.hid hrow2
    have Hb2 := Lib.hid (Hb1.out.trans (hb2.mono Hb1.out.size))
    have Hr2 := Lib.hid (Hr1.out.below hb2)
    have Hre2 := Lib.hid (Href.out w2 Hr2.out)
    clear hb2 hrow2 Hru1 Hr1 Href Hb1 Hrow1
    go_wp2_with fail
    refine Hre2.out.mono ?_
    rintro e w3 ⟨rfl, hb3⟩
    clear c0 c1
    obtain ⟨c0, c1⟩ := row2s (row_belowJ Hrow2.out hb3)
    have Hb3 := Lib.hid (Hb2.out.trans (hb3.mono Hb2.out.size))
    have Hs3 := Lib.hid (Hsz.out w3 (Hr2.out.below hb3))
    clear hb3 Hre2 Hr2 Hb2 Hrow2 Hsz
    go_wp2_with fail
    refine Hs3.out.mono ?_
    rintro e w4 ⟨rfl, hb4⟩
    have Hb4 := Lib.hid (Hb3.out.trans (hb4.mono Hb3.out.size))
    clear hb4 Hb3 Hs3
    go_wp2
    go_ret
    exact ⟨rfl, Hb4.out⟩
  · have hA : Bm.ansZ D L l lim = ([], (Bm.lenZ D.length lim 0 L.length l).2) := by rw [Bm.ansZ, if_neg h0]
    rw [hA] at Hrun Href
    have he := (Bm.lenZ_err (a := D.length) (lim := lim) l 0 L.length).resolve_left h0
    clear hA h0 hDlt hLlt hok hr hrow0 hbel0 hb0 Hsz hlim hl2
    have hse := strOf_same ⟨#[]⟩
    rcases he with he | he
    all_goals
      rw [he, str_no] at Hrun Href
      clear he
      generalize strOf D = sD at *
      generalize strOf L = sL at *
      go_enter Try.func3, Try.ntmps3
      go_wp2_with fail
      rw [← Hb0.out]
      generalize w.alloc (.cells #[.string sD, .string sL] 22) = wa at *
      refine (Haw.out wa).mono ?_
      rintro e w1 ⟨rfl, hb1⟩
      have hrow1 := row_belowJ Hrow0.out hb1
      obtain ⟨c0, c1⟩ := row2s hrow1
      have Hrow1 := Lib.hid hrow1
      have Hb1 := Lib.hid (Hbel0.out.trans (hb1.mono Hbel0.out.size))
      have Hr1 := Lib.hid (Hr.out.below hb1)
      have Hru1 := Lib.hid (Hrun.out w1 Hr1.out)
      clear hb1 hrow1 Haw Hrun Hr Hrow0 Hbel0
      go_wp2_with fail
      refine Hru1.out.mono ?_
      rintro e w2 ⟨rfl, hb2⟩
      have hrow2 := row_belowJ Hrow1.out hb2
      clear c0 c1
      obtain ⟨c0, c1⟩ := row2s hrow2
      have Hrow2 := Lib.hid hrow2
      have Hb2 := Lib.hid (Hb1.out.trans (hb2.mono Hb1.out.size))
      have Hr2 := Lib.hid (Hr1.out.below hb2)
      have Hre2 := Lib.hid (Href.out w2 Hr2.out)
      clear hb2 hrow2 Hru1 Hr1 Href Hb1 Hrow1
      go_wp2_with fail
      refine Hre2.out.mono ?_
      rintro e w3 ⟨rfl, hb3⟩
      clear c0 c1
      obtain ⟨c0, c1⟩ := row2s (row_belowJ Hrow2.out hb3)
      have Hb3 := Lib.hid (Hb2.out.trans (hb3.mono Hb2.out.size))
      clear hb3 Hre2 Hr2 Hb2 Hrow2
      go_wp2
      go_ret
      exact ⟨rfl, Hb3.out⟩
end Go.Proofs.Ytjcehdibklndkaa
