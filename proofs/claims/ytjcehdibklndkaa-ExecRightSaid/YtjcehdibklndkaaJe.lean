/-
  The program's layer 14 (exec), by its walk: length. Conditions: as the theorem's premises say.
-/
import Derived.Test.YtjcehdibklndkaaJc
import Derived.RegionTactic
import Derived.BigQuiet
namespace Go.Proofs.Ytjcehdibklndkaa
open Go.RowKit

set_option maxHeartbeats 4000000 in
set_option maxRecDepth 100000 in
theorem jlen_any (d L0 : Nat) (A : Option Addr) (c : Nat) (l : List Bm.StZ) (lim : Nat) (w : World) (hd : d ≤ 1000000000) (hL : L0 ≤ 1000000000) (hl : l.length ≤ 1000000000) (hlim : lim ≤ 1000000000) (hok : ZOk l) (hr : StzR w A l) :
    Calls Try.prog 14 #[.int .i64 (d : Int), .int .i64 (L0 : Int), .slice A l.length c, .int .i64 (lim : Int)] w fun e w' => e = .returned (.tuple #[.int .i64 ((Bm.lenZ d lim 0 L0 l).1 : Int), .int .i64 ((Bm.lenZ d lim 0 L0 l).2 : Int)]) ∧ Below w.heap.size w w' := by
  have Hr := Lib.hid hr
  have Hok := Lib.hid hok
  obtain ⟨N, E, hNE⟩ : ∃ N E, Bm.lenZ d lim 0 L0 l = (N, E) := ⟨_, _, rfl⟩
  rw [hNE]
  have HNE := Lib.hid hNE
  have Hhd := Lib.hid (fun n L k (hk : k < l.length) (h : Bm.lenZ d lim n L (l.drop k) = (N, E)) => (Bm.lenZ_map hk).symm.trans h)
  clear hr hok hNE
  go_enter Try.func14, Try.ntmps14
  go_wp2
  go_loopw [1, 10, 15] (fun Lv nv kv wr => ∃ (L n k : Nat), k ≤ l.length ∧ L ≤ L0 ∧ n ≤ lim ∧ Lv = .int .i64 (L : Int) ∧ nv = .int .i64 (n : Int) ∧ kv = .int .i64 (k : Int) ∧ Hid (Bm.lenZ d lim n L (l.drop k) = (N, E)) ∧ Hid (Below w.heap.size w wr)) (fun _ _ kv _ => l.length - (intOf kv).toNat)
  case atStart => exact ⟨L0, 0, 0, Nat.zero_le _, Nat.le_refl _, Nat.zero_le _, rfl, rfl, rfl, HNE, Lib.hid (Below.refl _ _)⟩
  case round =>
    obtain ⟨L, n, k, hk, hLL, hn, rfl, rfl, rfl, hq, hbel⟩ := hrel
    clear HNE
    by_cases hkl : k < l.length
    · obtain ⟨g, off, rfl, hg, hc⟩ := (Hr.out.below hbel.out) (by omega)
      obtain ⟨c0, c1, c2⟩ := hc k hkl
      have hq2 := Hhd.out n L k hkl hq.out
      obtain ⟨⟨x0, x1⟩, ⟨m0, m1⟩, o0, o1⟩ := Hok.out l[k] (List.getElem_mem hkl)
      have dd : decide ((k : Int) < (l.length : Int)) = true := decide_eq_true (by omega)
      obtain ⟨x, m, o, hs⟩ : ∃ x m o, l[k] = (x, m, o) := ⟨_, _, _, rfl⟩
      rw [hs] at hq2 c0 c1 c2 x0 x1 m0 m1 o0 o1
      simp only at c0 c1 c2 x0 x1 m0 m1 o0 o1
      rw [Bm.lenZ_cons] at hq2
      have hbA := (Below.refl wr.heap.size wr).alloc (Nat.le_refl _) (.cells #[.int .i64 x, .int .i64 m, .int .i64 o] 37)
      have HbA := Lib.hid (hbel.out.trans (hbA.mono hbel.out.size))
      clear hc hq hs Hhd hbA hbel
      by_cases h1 : x < 0 ∨ (L : Int) < x
      · rw [if_pos h1] at hq2
        injection hq2 with e1 e2
        subst e1 e2
        by_cases h2 : x < 0
        · have d1 : decide (x < 0) = true := decide_eq_true h2
          go_wp2
          go_ret2
          exact ⟨rfl, HbA.out⟩
        · have d1 : decide (x < 0) = false := decide_eq_false h2
          have d2 : decide (x > (L : Int)) = true := decide_eq_true (by omega)
          have d3 : decide ((L : Int) < x) = true := decide_eq_true (by omega)
          go_wp2
          go_ret2
          exact ⟨rfl, HbA.out⟩
      · rw [if_neg h1] at hq2
        have d1 : decide (x < 0) = false := decide_eq_false (by omega)
        have d2 : decide (x > (L : Int)) = false := decide_eq_false (by omega)
        have d3 : decide ((L : Int) < x) = false := decide_eq_false (by omega)
        obtain ⟨x, rfl⟩ := Int.eq_ofNat_of_zero_le (by omega : 0 ≤ x)
        rw [Int.toNat_natCast] at hq2
        clear x0 x1
        by_cases h2 : lim < n + x
        · rw [if_pos h2] at hq2
          injection hq2 with e1 e2
          subst e1 e2
          have d4 : decide ((x : Int) > (lim : Int) - (n : Int)) = true := decide_eq_true (by omega)
          have d5 : decide ((lim : Int) - (n : Int) < (x : Int)) = true := decide_eq_true (by omega)
          go_wp2
          go_ret2
          exact ⟨rfl, HbA.out⟩
        · rw [if_neg h2] at hq2
          have d4 : decide ((x : Int) > (lim : Int) - (n : Int)) = false := decide_eq_false (by omega)
          have d5 : decide ((lim : Int) - (n : Int) < (x : Int)) = false := decide_eq_false (by omega)
          by_cases h3 : m < 3 ∨ o < 1 ∨ ((d + n + x : Nat) : Int) < o
          · rw [if_pos h3] at hq2
            injection hq2 with e1 e2
            subst e1 e2
            by_cases h4 : m < 3
            · have d6 : decide (m < 3) = true := decide_eq_true h4
              go_wp2
              go_ret2
              exact ⟨rfl, HbA.out⟩
            · have d6 : decide (m < 3) = false := decide_eq_false h4
              by_cases h5 : o < 1
              · have d7 : decide (o < 1) = true := decide_eq_true h5
                go_wp2
                go_ret2
                exact ⟨rfl, HbA.out⟩
              · have d7 : decide (o < 1) = false := decide_eq_false h5
                have d8 : decide (o - (d : Int) > (n : Int) + (x : Int)) = true := decide_eq_true (by omega)
                have d9 : decide ((n : Int) + (x : Int) < o - (d : Int)) = true := decide_eq_true (by omega)
                go_wp2
                go_ret2
                exact ⟨rfl, HbA.out⟩
          · rw [if_neg h3] at hq2
            have d6 : decide (m < 3) = false := decide_eq_false (by omega)
            have d7 : decide (o < 1) = false := decide_eq_false (by omega)
            have d8 : decide (o - (d : Int) > (n : Int) + (x : Int)) = false := decide_eq_false (by omega)
            have d9 : decide ((n : Int) + (x : Int) < o - (d : Int)) = false := decide_eq_false (by omega)
            obtain ⟨m, rfl⟩ := Int.eq_ofNat_of_zero_le (by omega : 0 ≤ m)
            rw [Int.toNat_natCast] at hq2
            by_cases h4 : lim < n + x + m
            · rw [if_pos h4] at hq2
              injection hq2 with e1 e2
              subst e1 e2
              have f1 : decide ((m : Int) > (lim : Int) - ((n : Int) + (x : Int))) = true := decide_eq_true (by omega)
              have f2 : decide ((lim : Int) - ((n : Int) + (x : Int)) < (m : Int)) = true := decide_eq_true (by omega)
              go_wp2
              go_ret2
              exact ⟨rfl, HbA.out⟩
            · rw [if_neg h4] at hq2
              have f1 : decide ((m : Int) > (lim : Int) - ((n : Int) + (x : Int))) = false := decide_eq_false (by omega)
              have f2 : decide ((lim : Int) - ((n : Int) + (x : Int)) < (m : Int)) = false := decide_eq_false (by omega)
              have Hq2 := Lib.hid hq2
              have hL2 : L - x ≤ L0 := by omega
              clear hq2
              go_wp2
              go_roundw
              case rel => exact ⟨L - x, n + x + m, k + 1, by omega, hL2, by omega, by go_num, by go_num, by go_num, Hq2, HbA⟩
              case measure => simp [intOf]; omega
    · obtain rfl : k = l.length := by omega
      have dd : decide ((l.length : Int) < (l.length : Int)) = false := decide_eq_false (by omega)
      have e := hq.out
      rw [List.drop_length, Bm.lenZ] at e
      by_cases h1 : lim < n + L
      · rw [if_pos h1] at e
        injection e with e1 e2
        subst e1 e2
        have d4 : decide ((L : Int) > (lim : Int) - (n : Int)) = true := decide_eq_true (by omega)
        have d5 : decide ((lim : Int) - (n : Int) < (L : Int)) = true := decide_eq_true (by omega)
        go_wp2
        go_ret2
        exact ⟨rfl, hbel.out⟩
      · rw [if_neg h1] at e
        injection e with e1 e2
        subst e1 e2
        have d4 : decide ((L : Int) > (lim : Int) - (n : Int)) = false := decide_eq_false (by omega)
        have d5 : decide ((lim : Int) - (n : Int) < (L : Int)) = false := decide_eq_false (by omega)
        go_wp2
        go_ret2
        exact ⟨rfl, hbel.out⟩
end Go.Proofs.Ytjcehdibklndkaa
