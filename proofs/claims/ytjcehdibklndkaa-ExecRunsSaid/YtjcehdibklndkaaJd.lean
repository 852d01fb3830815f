/-
  The reference of layer 14 (exec), by its walk: Run. Conditions: as the theorem's premises say.
-/
import Derived.Test.YtjcehdibklndkaaJc
import Derived.Test.YtjcehdibklndkaaEf
import Derived.RegionTactic
import Derived.BigQuiet
import Derived.Deep.QuietTactic
import Derived.Deep.DeepCutAuto
namespace Go.Proofs.Ytjcehdibklndkaa
open Go.RowKit

set_option maxHeartbeats 4000000 in
set_option maxRecDepth 100000 in
theorem jrrun_any (D L0 : List Nat) (A : Option Addr) (c : Nat) (l : List Bm.StZ) (limit : Int) (lim : Nat) (w : World) (hD : D.length ≤ 1000000) (hL : L0.length ≤ 1000000) (hl : l.length ≤ 1000000) (hli : Bm.IntOk limit) (hlm : (limit < 0 ∧ lim = 0) ∨ limit = (lim : Int)) (hlim : lim ≤ 1000000)
    (hok : ZOk l) (hr : StzR w A l) :
    Calls Try.prog 8 #[.string (strOf D), .string (strOf L0), .slice A l.length c, .int .i64 limit] w fun e w' => e = .returned (.tuple #[.string (strOf (Bm.ansZ D L0 l lim).1), .int .i64 ((Bm.ansZ D L0 l lim).2 : Int)]) ∧ Below w.heap.size w w' := by
  have hsD := strOf_size D
  have Hr := Lib.hid hr
  have Hok := Lib.hid hok
  obtain ⟨d, hd⟩ : ∃ d, d = D.length := ⟨_, rfl⟩
  obtain ⟨N, E, hNE⟩ : ∃ N E, Bm.lenZ d lim 0 L0.length l = (N, E) := ⟨_, _, rfl⟩
  obtain ⟨R, hR⟩ : ∃ R, R = Bm.textZ D L0 l := ⟨_, rfl⟩
  obtain ⟨X, hX⟩ : ∃ X, X = Bm.ansZ D L0 l lim := ⟨_, rfl⟩
  have hX1 : E = 0 → X = (R.drop d, 0) := fun h => by rw [hX, Bm.ansZ, ← hd, hNE, if_pos h, hR]
  have hX2 : E ≠ 0 → X = ([], E) := fun h => by rw [hX, Bm.ansZ, ← hd, hNE, if_neg h]
  rw [← hX]
  have HX1 := Lib.hid hX1
  have HX2 := Lib.hid hX2
  have HNE := Lib.hid hNE
  have HR := Lib.hid hR
  have Hd := Lib.hid hd
  rw [← hd] at hsD hD
  have Hhd := Lib.hid (fun n L k (hk : k < l.length) (h : Bm.lenZ d lim n L (l.drop k) = (N, E)) => (Bm.lenZ_map hk).symm.trans h)
  have Htx := Lib.hid (fun A L k (hk : k < l.length) => congrArg (Bm.textZ A L) (List.drop_eq_getElem_cons hk))
  have Hadd := Lib.hid (fun (a b : List Nat) (h : a.length + b.length ≤ 1000000000) W => str_add a b h W)
  obtain ⟨hli0, hli1⟩ := hli
  clear hr hok hNE hR hX hX1 hX2 hd
  go_enter Try.func8, Try.ntmps8
  go_upto_if 17 with fail
  go_cut [3] from 18 to 18 (fun s3 wx => wx = w ∧ s3 = .int .i64 (lim : Int))
  case first =>
    rcases hlm with ⟨hn, rfl⟩ | rfl
    · have d0 : decide (limit < 0) = true := decide_eq_true hn
      go_wp2
      go_meet
      exact ⟨rfl, rfl⟩
    · have d0 : decide ((lim : Int) < 0) = false := decide_eq_false (by omega)
      go_wp2
      go_meet
      exact ⟨rfl, rfl⟩
  case rest =>
  obtain ⟨hwc, rfl⟩ := hcut
  have hwc2 := hwc.symm
  subst hwc2
  clear hlm hli0 hli1
  go_wp2_with fail
  go_loopw [1, 10, 11] (fun Lv ov iv wr => ∃ (L O : List Nat) (k : Nat), k ≤ l.length ∧ L.length ≤ 1000000 ∧ O.length ≤ lim ∧ Lv = .string (strOf L) ∧ ov = .string (strOf O) ∧ iv = .int .i64 (k : Int) ∧ Hid (Bm.lenZ d lim O.length L.length (l.drop k) = (N, E)) ∧ Hid (R = Bm.textZ (D ++ O) L (l.drop k)) ∧ Hid (Below w.heap.size w wr)) (fun _ _ iv _ => l.length - (intOf iv).toNat)
  case atStart => exact ⟨L0, [], 0, Nat.zero_le _, hL, Nat.zero_le _, rfl, rfl, rfl, HNE, by rw [List.append_nil]; exact HR, Lib.hid (Below.refl _ _)⟩
  case round =>
    obtain ⟨L, O, k, hk, hLL, hO, rfl, rfl, rfl, hq, ht, hbel⟩ := hrel
    clear HR HNE
    have hsO := strOf_size O
    have hsL := strOf_size L
    by_cases hkl : k < l.length
    · obtain ⟨g, off, rfl, hg, hc⟩ := (Hr.out.below hbel.out) (by omega)
      obtain ⟨c0, c1, c2⟩ := hc k hkl
      have hq2 := Hhd.out O.length L.length k hkl hq.out
      have ht2 := ht.out.trans (Htx.out (D ++ O) L k hkl)
      obtain ⟨⟨x0, x1⟩, ⟨m0, m1⟩, o0, o1⟩ := Hok.out l[k] (List.getElem_mem hkl)
      have dd : decide ((k : Int) < (l.length : Int)) = true := decide_eq_true (by omega)
      obtain ⟨x, m, o, hs⟩ : ∃ x m o, l[k] = (x, m, o) := ⟨_, _, _, rfl⟩
      rw [hs] at hq2 c0 c1 c2 x0 x1 m0 m1 o0 o1 ht2
      simp only at c0 c1 c2 x0 x1 m0 m1 o0 o1
      rw [Bm.lenZ_cons] at hq2
      rw [Bm.textZ_cons] at ht2
      have hbA := (Below.refl wr.heap.size wr).alloc (Nat.le_refl _) (.cells #[.int .i64 x, .int .i64 m, .int .i64 o] 37)
      have HbA := Lib.hid (hbel.out.trans (hbA.mono hbel.out.size))
      have Ht2 := Lib.hid ht2
      clear hc hq ht ht2 hs Hhd Htx hbA hbel hg
      by_cases h1 : x < 0 ∨ (L.length : Int) < x
      · rw [if_pos h1] at hq2
        injection hq2 with e1 e2
        have Hx := Lib.hid (HX2.out (by omega))
        rw [← e2] at Hx
        clear e1 e2 HX1 HX2
        by_cases h2 : x < 0
        · have d1 : decide (x < 0) = true := decide_eq_true h2
          go_wp2
          go_ret2
          rw [Hx.out]
          exact ⟨rfl, HbA.out⟩
        · have d1 : decide (x < 0) = false := decide_eq_false h2
          have d2 : decide (x > (L.length : Int)) = true := decide_eq_true (by omega)
          have d3 : decide ((L.length : Int) < x) = true := decide_eq_true (by omega)
          go_wp2
          go_ret2
          rw [Hx.out]
          exact ⟨rfl, HbA.out⟩
      · rw [if_neg h1] at hq2
        have d1 : decide (x < 0) = false := decide_eq_false (by omega)
        have d2 : decide (x > (L.length : Int)) = false := decide_eq_false (by omega)
        have d3 : decide ((L.length : Int) < x) = false := decide_eq_false (by omega)
        obtain ⟨x, rfl⟩ := Int.eq_ofNat_of_zero_le (by omega : 0 ≤ x)
        rw [Int.toNat_natCast] at hq2 Ht2
        clear x0 x1
        have hxl : (L.take x).length = x := by rw [List.length_take]; omega
        have s1 := fun W => str_to L x (by omega) W
        have s2 := fun W => str_from L x (by omega) W
        have s3 := fun W => Hadd.out O (L.take x) (by rw [hxl]; omega) W
        have hsOP : (strOf (O ++ L.take x)).size = O.length + x := by rw [strOf_size, List.length_append, hxl]
        obtain ⟨n, hn2⟩ : ∃ n, n = O.length + x := ⟨_, rfl⟩
        rw [show d + O.length + x = d + n by omega, ← hn2] at hq2
        rw [← hn2] at hsOP
        have hn9 : n ≤ 2000000 := by omega
        obtain ⟨P, hP⟩ : ∃ P, P = L.take x := ⟨_, rfl⟩
        obtain ⟨Q, hQ⟩ : ∃ Q, Q = L.drop x := ⟨_, rfl⟩
        have hQl : Q.length = L.length - x := by rw [hQ, List.length_drop]
        rw [← hQl] at hq2
        rw [← hP] at s1 s3 hsOP Ht2
        rw [← hQ] at s2 Ht2
        obtain ⟨B, hB⟩ : ∃ B, B = O ++ P := ⟨_, rfl⟩
        rw [← hB] at s3 hsOP
        rw [List.append_assoc, ← hB] at Ht2
        have hBl : B.length = n := by rw [hB, List.length_append, hP, hxl, hn2]
        clear hB hP hQ hxl hn2
        by_cases h2 : lim < n
        · rw [if_pos h2] at hq2
          injection hq2 with e1 e2
          have Hx := Lib.hid (HX2.out (by omega))
          rw [← e2] at Hx
          clear e1 e2 HX1 HX2
          have d4 : decide ((n : Int) > (lim : Int)) = true := decide_eq_true (by omega)
          have d5 : decide ((lim : Int) < (n : Int)) = true := decide_eq_true (by omega)
          go_wp2
          go_ret2
          rw [Hx.out]
          exact ⟨rfl, HbA.out⟩
        · rw [if_neg h2] at hq2
          have d4 : decide ((n : Int) > (lim : Int)) = false := decide_eq_false (by omega)
          have d5 : decide ((lim : Int) < (n : Int)) = false := decide_eq_false (by omega)
          by_cases h3 : m < 3 ∨ o < 1 ∨ ((d + n : Nat) : Int) < o
          · rw [if_pos h3] at hq2
            injection hq2 with e1 e2
            have Hx := Lib.hid (HX2.out (by omega))
            rw [← e2] at Hx
            clear e1 e2 HX1 HX2
            by_cases h4 : m < 3
            · have d6 : decide (m < 3) = true := decide_eq_true h4
              go_wp2
              go_ret2
              rw [Hx.out]
              exact ⟨rfl, HbA.out⟩
            · have d6 : decide (m < 3) = false := decide_eq_false h4
              by_cases h5 : o < 1
              · have d7 : decide (o < 1) = true := decide_eq_true h5
                go_wp2
                go_ret2
                rw [Hx.out]
                exact ⟨rfl, HbA.out⟩
              · have d7 : decide (o < 1) = false := decide_eq_false h5
                have d8 : decide (o > (d : Int) + (n : Int)) = true := decide_eq_true (by omega)
                have d9 : decide ((d : Int) + (n : Int) < o) = true := decide_eq_true (by omega)
                go_wp2
                go_ret2
                rw [Hx.out]
                exact ⟨rfl, HbA.out⟩
          · rw [if_neg h3] at hq2
            have d6 : decide (m < 3) = false := decide_eq_false (by omega)
            have d7 : decide (o < 1) = false := decide_eq_false (by omega)
            have d8 : decide (o > (d : Int) + (n : Int)) = false := decide_eq_false (by omega)
            have d9 : decide ((d : Int) + (n : Int) < o) = false := decide_eq_false (by omega)
            obtain ⟨m, rfl⟩ := Int.eq_ofNat_of_zero_le (by omega : 0 ≤ m)
            obtain ⟨o, rfl⟩ := Int.eq_ofNat_of_zero_le (by omega : 0 ≤ o)
            rw [Int.toNat_natCast] at hq2 Ht2
            rw [Int.toNat_natCast] at Ht2
            have ho1 : 1 ≤ o := by omega
            have hod : o ≤ d + n := by omega
            have Hq2 := Lib.hid hq2
            obtain ⟨C, hC⟩ : ∃ C, C = Bm.copyN o m (D ++ B) := ⟨_, rfl⟩
            rw [← hC] at Ht2
            have HC := Lib.hid hC
            have hrow := Row.new wr 37 [.int .i64 (x : Int), .int .i64 (m : Int), .int .i64 (o : Int)]
            obtain ⟨b, hb⟩ : ∃ b, b = wr.heap.size := ⟨_, rfl⟩
            go_wp2_with fail
            rw [← hb] at hrow ⊢
            have Hrow := Lib.hid hrow
            have hQ6 : Q.length ≤ 1000000 := by omega
            clear hrow hb hq2 hC h3 s1 s2 s3 hQl
            generalize wr.alloc (.cells #[.int .i64 (x : Int), .int .i64 (m : Int), .int .i64 (o : Int)] 37) = wA at *
            go_loopw [10, 13] (fun ov jv wr2 => ∃ (U : List Nat) (j : Nat), j ≤ m ∧ U.length = n + j ∧ n + j ≤ lim ∧ ov = .string (strOf U) ∧ jv = .int .i64 (j : Int) ∧ Hid (C = Bm.copyN o (m - j) (D ++ U)) ∧ Hid (∃ z, wr2 = wA.drewN z)) (fun _ jv _ => m - (intOf jv).toNat)
            case atStart => exact ⟨B, 0, Nat.zero_le _, hBl, by omega, rfl, rfl, by rw [Nat.sub_zero]; exact HC, Lib.hid ⟨0, rfl⟩⟩
            case round =>
              obtain ⟨U, j, hj, hU, hnj, rfl, rfl, hcn, hz⟩ := hrel
              obtain ⟨z, rfl⟩ := hz.out
              clear HC hz
              have k1 := Hrow.out.cell 1
              have k2 := Hrow.out.cell 2
              simp only [List.getElem?_cons_succ, List.getElem?_cons_zero] at k1 k2
              by_cases hjm : j < m
              · have dj : decide ((j : Int) < (m : Int)) = true := decide_eq_true (by omega)
                have hT : (D ++ U).length = d + n + j := by rw [List.length_append, ← Hd.out, hU, Nat.add_assoc]
                have hc2 : C = Bm.copyN o (m - (j + 1)) (D ++ (U ++ [(D ++ U).getD (d + n + j - o) 0])) := by rw [hcn.out, show m - j = (m - (j + 1)) + 1 by omega, Bm.copyN, hT, List.append_assoc]
                obtain ⟨y, hy⟩ : ∃ y, y = d + n + j - o := ⟨_, rfl⟩
                obtain ⟨t, ht⟩ : ∃ t, t = d + n + j := ⟨_, rfl⟩
                have ey : (t : Int) - (o : Int) = (y : Int) := by omega
                have ht9 : t ≤ 3000000 := by omega
                have hyt : y < t := by omega
                have s1 := fun W => Hadd.out D U (by rw [← Hd.out, hU]; omega) W
                have hsT : (strOf (D ++ U)).size = t := by rw [strOf_size, hT, ht]
                have s2 : ∀ W : World, (Instr.slice 9 (.string (strOf (D ++ U))) (some (.int .i64 (y : Int))) (some (.int .i64 ((y : Int) + 1))) none).run Try.prog W = .ok (.string (strOf [(D ++ U).getD y 0])) W := fun W => by
                  have h := str_mid (D ++ U) y (y + 1) (by omega) (by omega) W
                  rw [Int.natCast_add, List.take_succ_eq_append_getElem (by omega : y < (D ++ U).length), List.drop_left' (by rw [List.length_take]; omega), ← Bm.getD_at (by omega : y < (D ++ U).length)] at h
                  exact h
                rw [← hy] at hc2
                generalize (D ++ U).getD y 0 = v at *
                have s3 := fun W => Hadd.out U [v] (by rw [hU, List.length_singleton]; omega) W
                have hU2 : (U ++ [v]).length = n + j + 1 := by rw [List.length_append, hU, List.length_singleton]
                have hsU2 : (strOf (U ++ [v])).size = n + j + 1 := by rw [strOf_size, hU2]
                have Hc2 := Lib.hid hc2
                generalize strOf (D ++ U) = sT at *
                clear hc2 hcn hT hy ht
                by_cases h6 : lim < n + j + 1
                · have hq2 := Hq2.out
                  rw [if_pos (by omega)] at hq2
                  injection hq2 with e1 e2
                  have Hx := Lib.hid (HX2.out (by omega))
                  rw [← e2] at Hx
                  clear e1 e2 HX1 HX2
                  have f1 : decide ((n : Int) + (j : Int) + 1 > (lim : Int)) = true := decide_eq_true (by omega)
                  have f2 : decide ((lim : Int) < (n : Int) + (j : Int) + 1) = true := decide_eq_true (by omega)
                  have Hb2 := Lib.hid (below_drewN HbA.out z)
                  go_wp2
                  go_ret2
                  rw [Hx.out]
                  exact ⟨rfl, Hb2.out⟩
                · have f1 : decide ((n : Int) + (j : Int) + 1 > (lim : Int)) = false := decide_eq_false (by omega)
                  have f2 : decide ((lim : Int) < (n : Int) + (j : Int) + 1) = false := decide_eq_false (by omega)
                  go_wp2
                  go_roundw
                  case rel => exact ⟨U ++ [v], j + 1, by omega, hU2, by omega, rfl, by go_num, Hc2, Lib.hid ⟨_, rfl⟩⟩
                  case measure => simp [intOf]; omega
              · obtain rfl : j = m := by omega
                have dj : decide ((j : Int) < (j : Int)) = false := decide_eq_false (by omega)
                have hq2 := Hq2.out
                rw [if_neg (by omega), ← hU] at hq2
                have Hq3 := Lib.hid hq2
                have ec : C = D ++ U := by rw [hcn.out, Nat.sub_self]; rfl
                rw [ec] at Ht2
                have Hb2 := Lib.hid (below_drewN HbA.out z)
                clear hq2 Hq2 hcn ec
                go_wp2
                go_roundw
                case rel => exact ⟨Q, U, k + 1, by omega, hQ6, by omega, rfl, rfl, by go_num, Hq3, Ht2, Hb2⟩
                case measure => simp [intOf]; omega
    · obtain rfl : k = l.length := by omega
      have dd : decide ((l.length : Int) < (l.length : Int)) = false := decide_eq_false (by omega)
      have e := hq.out
      rw [List.drop_length, Bm.lenZ] at e
      have er : R = D ++ O ++ L := by rw [ht.out, List.drop_length, Bm.textZ]
      have s1 := fun W => Hadd.out O L (by omega) W
      have hs2 : (strOf (O ++ L)).size = O.length + L.length := by rw [strOf_size, List.length_append]
      by_cases h1 : lim < O.length + L.length
      · rw [if_pos h1] at e
        injection e with e1 e2
        have Hx := Lib.hid (HX2.out (by omega))
        rw [← e2] at Hx
        have d4 : decide ((O.length : Int) + (L.length : Int) > (lim : Int)) = true := decide_eq_true (by omega)
        have d5 : decide ((lim : Int) < (O.length : Int) + (L.length : Int)) = true := decide_eq_true (by omega)
        clear e1 e2 HX1 HX2 er hq ht
        go_wp2
        go_ret2
        rw [Hx.out]
        exact ⟨rfl, hbel.out⟩
      · rw [if_neg h1] at e
        injection e with e1 e2
        have hx := HX1.out e2.symm
        rw [er, Hd.out, List.append_assoc, List.drop_left] at hx
        have Hx := Lib.hid hx
        have d4 : decide ((O.length : Int) + (L.length : Int) > (lim : Int)) = false := decide_eq_false (by omega)
        have d5 : decide ((lim : Int) < (O.length : Int) + (L.length : Int)) = false := decide_eq_false (by omega)
        clear e1 e2 HX1 HX2 er hq ht hx
        go_wp2
        go_ret2
        rw [Hx.out]
        exact ⟨rfl, hbel.out⟩
end Go.Proofs.Ytjcehdibklndkaa
