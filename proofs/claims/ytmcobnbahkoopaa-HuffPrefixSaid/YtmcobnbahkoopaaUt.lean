/-
  The reference of layer 9, by its walk: Cost. Conditions: as the theorem's premises say.
-/
import Derived.Test.YtmcobnbahkoopaaUc
import Derived.Test.YtmcobnbahkoopaaUf
import Derived.BigQuiet
import Derived.IntWalk
import Derived.WalkSmall
import Derived.Deep.QuietTactic
namespace Go.Proofs.Ytmcobnbahkoopaa
open Go.RowKit
namespace Bm
def costTo (cs ls : List Nat) (k : Nat) : Nat := ((List.range k).map fun i => cs[i]?.getD 0 * ls[i]?.getD 0).sum
theorem costTo_succ (cs ls : List Nat) (k : Nat) : costTo cs ls (k + 1) = costTo cs ls k + cs[k]?.getD 0 * ls[k]?.getD 0 := by
  unfold costTo
  rw [List.range_succ, List.map_append, List.sum_append_nat]
  simp
theorem costTo_all (cs ls : List Nat) : costTo cs ls cs.length = costN cs ls := rfl
theorem costTo_le (cs ls : List Nat) (hc : ∀ x ∈ cs, x ≤ 1048576) (hl : ∀ x ∈ ls, x ≤ 11) : ∀ k, costTo cs ls k ≤ 11534336 * k
  | 0 => by simp [costTo]
  | k + 1 => by
    have ih := costTo_le cs ls hc hl k
    rw [costTo_succ]
    have h1 : cs[k]?.getD 0 ≤ 1048576 := by
      cases h : cs[k]? with
      | none => simp
      | some v => exact hc v (List.mem_of_getElem? h)
    have h2 : ls[k]?.getD 0 ≤ 11 := by
      cases h : ls[k]? with
      | none => simp
      | some v => exact hl v (List.mem_of_getElem? h)
    have h3 := Nat.mul_le_mul h1 h2
    omega
end Bm
set_option maxHeartbeats 1000000 in
set_option maxRecDepth 100000 in
theorem vcost_any (A B : Option Addr) (c d : Nat) (cs ls : List Nat) (w : World) (hl : cs.length ≤ ls.length) (hl2 : ls.length ≤ 1000) (hc20 : ∀ x ∈ cs, x ≤ 1048576) (h11 : ∀ x ∈ ls, x ≤ 11) (hr : Reads w A (i64s cs)) (hs : Reads w B (i64s ls)) :
    Calls Try.prog 12 #[.slice A cs.length c, .slice B ls.length d] w fun e w' => e = .returned (costV cs ls) ∧ ∃ m, w' = w.drewN m := by
  have Hr := Lib.hid hr
  have Hs := Lib.hid hs
  have H20 := Lib.hid hc20
  have H11 := Lib.hid h11
  have Hle := Lib.hid (Bm.costTo_le cs ls hc20 h11)
  have Hno : Hid (∀ i, i < cs.length → 0 < cs[i]?.getD 0 → ls[i]?.getD 0 = 0 → Value.tuple #[.int .i64 0, .bool false] = costV cs ls) := Lib.hid (fun i h1 h2 h3 => by
    have hn : ¬ Bm.FitN cs ls := fun h => by have := h i h1 h2; omega
    unfold costV
    rw [if_neg hn, decide_eq_false hn]
    rfl)
  have Hyes : Hid (Bm.FitN cs ls → Value.tuple #[.int .i64 (Bm.costN cs ls : Int), .bool true] = costV cs ls) := Lib.hid (fun h => by
    unfold costV
    rw [if_pos h, decide_eq_true h])
  clear hr hs hc20 h11
  go_enter Try.func12, Try.ntmps12
  go_wp2
  go_loopw [6, 7] (fun n i wr => ∃ k : Nat, k ≤ cs.length ∧ i = .int .i64 (k : Int) ∧ n = .int .i64 (Bm.costTo cs ls k : Int) ∧ Hid (∀ i, i < k → 0 < cs[i]?.getD 0 → 0 < ls[i]?.getD 0) ∧ ∃ m, wr = w.drewN m) (fun _ i _ => cs.length - (intOf i).toNat)
  case atStart => exact ⟨0, by omega, rfl, rfl, Lib.hid (fun i h => by omega), 0, rfl⟩
  case round =>
    obtain ⟨k, hk, rfl, rfl, hfit, m, rfl⟩ := hrel
    by_cases hkl : k < cs.length
    · obtain ⟨g, off, rfl, hc⟩ := reads_i9 Hr.out (by omega)
      obtain ⟨g2, off2, rfl, hc2⟩ := reads_i9 Hs.out (by omega)
      have hkl2 : k < ls.length := by omega
      have c0 := hc k hkl
      have c1 := hc2 k hkl2
      have hx := H20.out cs[k] (List.getElem_mem hkl)
      have hy := H11.out ls[k] (List.getElem_mem hkl2)
      have gx : cs[k]?.getD 0 = cs[k] := by rw [List.getElem?_eq_getElem hkl, Option.getD_some]
      have gy : ls[k]?.getD 0 = ls[k] := by rw [List.getElem?_eq_getElem hkl2, Option.getD_some]
      have hst := Bm.costTo_succ cs ls k
      have hle := Hle.out k
      have hno := Hno.out k hkl
      have hfit2 : (0 < cs[k] → 0 < ls[k]) → ∀ i, i < k + 1 → 0 < cs[i]?.getD 0 → 0 < ls[i]?.getD 0 := fun h i hi h1 => by
        by_cases e : i = k
        · subst e; rw [gx] at h1; rw [gy]; exact h h1
        · exact hfit.out i (by omega) h1
      rw [gx, gy] at hst hno
      have Hst := Lib.hid hst
      have Hn := Lib.hid hno
      have Hf2 := Lib.hid hfit2
      clear hc hc2 hst hno hfit2 gx gy hfit
      generalize Bm.costTo cs ls k = S at *
      generalize cs[k] = x at *
      generalize ls[k] = y at *
      by_cases h0 : 0 < x ∧ y = 0
      · obtain ⟨h1, rfl⟩ := h0
        have d1 : decide ((0 : Int) < (x : Int)) = true := decide_eq_true (by omega)
        have Hv := Lib.hid (Hn.out h1 rfl)
        clear Hn Hf2 Hst Hno Hyes
        go_wp2
        go_ret2
        exact ⟨congrArg Ending.returned Hv.out, _, rfl⟩
      · have Hf3 := Lib.hid (Hf2.out (fun h => by omega))
        have hxy : (x : Int) * (y : Int) = ((x * y : Nat) : Int) := by simp
        have hxyb : x * y ≤ 1048576 * 11 := Nat.mul_le_mul hx hy
        have hm0 : 0 ≤ (x : Int) * (y : Int) := by rw [hxy]; omega
        have hm1 : (x : Int) * (y : Int) ≤ 11534336 := by rw [hxy]; omega
        have Hst2 : Hid (((Bm.costTo cs ls (k + 1) : Nat) : Int) = (S : Int) + (x : Int) * (y : Int)) := Lib.hid (by rw [Hst.out, hxy]; omega)
        clear hxy hxyb Hst Hn Hf2 Hno Hyes
        by_cases h1 : 0 < x
        · have d1 : decide ((0 : Int) < (x : Int)) = true := decide_eq_true (by omega)
          have d2 : ((y : Int) == 0) = false := by rw [beq_eq_false_iff_ne]; omega
          have hw1 : IntKind.i64.wrap ((x : Int) * (y : Int)) = (x : Int) * (y : Int) := IntWalk.i64_in _ (by omega)
          have hw2 : IntKind.i64.wrap ((S : Int) + (x : Int) * (y : Int)) = (S : Int) + (x : Int) * (y : Int) := IntWalk.i64_in _ (by omega)
          clear h0
          go_wp2_with fail
          go_quiet (fail)
          clear hw1 hw2
          go_wp2
          go_roundw
          case rel => exact ⟨k + 1, by omega, by go_num, by rw [Hst2.out], Hf3, _, rfl⟩
          case measure => simp [intOf]; omega
        · have d1 : decide ((0 : Int) < (x : Int)) = false := decide_eq_false (by omega)
          have hw1 : IntKind.i64.wrap ((x : Int) * (y : Int)) = (x : Int) * (y : Int) := IntWalk.i64_in _ (by omega)
          have hw2 : IntKind.i64.wrap ((S : Int) + (x : Int) * (y : Int)) = (S : Int) + (x : Int) * (y : Int) := IntWalk.i64_in _ (by omega)
          clear h0
          go_wp2_with fail
          go_quiet (fail)
          clear hw1 hw2
          go_wp2
          go_roundw
          case rel => exact ⟨k + 1, by omega, by go_num, by rw [Hst2.out], Hf3, _, rfl⟩
          case measure => simp [intOf]; omega
    · obtain rfl : k = cs.length := by omega
      rw [Bm.costTo_all]
      have Hv := Lib.hid (Hyes.out hfit.out)
      clear Hyes Hno hfit Hr Hs
      generalize Bm.costN cs ls = S at *
      go_wp2
      go_ret2
      exact ⟨congrArg Ending.returned Hv.out, _, rfl⟩
end Go.Proofs.Ytmcobnbahkoopaa
