/-
  The laws' same of layer 24 (frame), by its walk. Conditions: as the theorem's premises say.
-/
import Derived.Test.YtckmdeiahpijcaaRi
import Derived.Test.YtckmdeiahpijcaaIn
namespace Go.Proofs.Ytckmdeiahpijcaa
open Go.RowKit

set_option maxHeartbeats 1000000 in
set_option maxRecDepth 100000 in
theorem frsame_any (A B : Option Addr) (ca cb : Nat) (S T : List Bm.Frm) (w : World) (hS : ∀ f ∈ S, ∀ x ∈ f.2, x < 256) (hT : ∀ f ∈ T, ∀ x ∈ f.2, x < 256) (hl : S.length ≤ 1000000) (rS : FrR w A S) (rT : FrR w B T) :
    Calls Try.prog 16 #[.slice A S.length ca, .slice B T.length cb] w fun e w' => e = .returned (.bool (decide (S = T))) ∧ Below w.heap.size w w' := by
  by_cases hlen : S.length = T.length
  · obtain ⟨r, hr⟩ : ∃ r, r = decide (S = T) := ⟨_, rfl⟩
    rw [← hr]
    have Hr := Lib.hid hr
    have hguard := fr_guard
    have HS : Hid (∀ k (h : k < S.length), ∃ g off, A = some ⟨g, off, none⟩ ∧ w.cell? ⟨g, off + k * 2, none⟩ = some (.int .i64 S[k].1) ∧ w.cell? ⟨g, off + k * 2 + 1, none⟩ = some (.string (strOf S[k].2))) := Lib.hid (fun k h => by
      obtain ⟨g, off, e, _, hc⟩ := rS (by omega)
      exact ⟨g, off, e, (hc k h).1, (hc k h).2⟩)
    have HT : Hid (∀ k (h : k < T.length), ∃ g off, B = some ⟨g, off, none⟩ ∧ w.cell? ⟨g, off + k * 2, none⟩ = some (.int .i64 T[k].1) ∧ w.cell? ⟨g, off + k * 2 + 1, none⟩ = some (.string (strOf T[k].2))) := Lib.hid (fun k h => by
      obtain ⟨g, off, e, _, hc⟩ := rT (by omega)
      exact ⟨g, off, e, (hc k h).1, (hc k h).2⟩)
    have hne : ((S.length : Int) != (T.length : Int)) = false := by rw [hlen]; simp
    obtain ⟨N, hN⟩ : ∃ N, N = S.length := ⟨_, rfl⟩
    obtain ⟨M, hM⟩ : ∃ M, M = T.length := ⟨_, rfl⟩
    rw [← hN, ← hM] at hne ⊢
    rw [← hN] at hl
    have HN := Lib.hid hN
    have HM := Lib.hid hM
    have HNM : Hid (N = M) := Lib.hid (by omega)
    have HbS := Lib.hid hS
    have HbT := Lib.hid hT
    clear hr rS rT hlen hN hM hS hT
    go_enter Try.func16, Try.ntmps16
    go_wp2
    go_loopw [13] (fun i wr => ∃ k : Nat, k ≤ N ∧ i = .int .i64 (k : Int) ∧ Hid (S.take k = T.take k) ∧ Hid (∃ q, wr = w.drewN q)) (fun i _ => N - (intOf i).toNat)
    case atStart => exact ⟨0, by omega, rfl, Lib.hid (by simp), Lib.hid ⟨0, rfl⟩⟩
    case round =>
      obtain ⟨k, hk, rfl, Heq, Hw⟩ := hrel
      obtain ⟨q, rfl⟩ := Hw.out
      by_cases hlt : k < N
      · have hltI : (k : Int) < (N : Int) := by omega
        have hltM : k < M := by have := HNM.out; omega
        have hkS : k < S.length := by have := HN.out; omega
        have hkT : k < T.length := by have := HM.out; omega
        obtain ⟨g, off, rfl, c0, c1⟩ := HS.out k hkS
        obtain ⟨g', off', rfl, d0, d1⟩ := HT.out k hkT
        have hf1 := HbS.out S[k] (List.getElem_mem hkS)
        have hf2 := HbT.out T[k] (List.getElem_mem hkT)
        obtain ⟨f1, hf⟩ : ∃ f, f = S[k] := ⟨_, rfl⟩
        obtain ⟨f2, hg⟩ : ∃ f, f = T[k] := ⟨_, rfl⟩
        rw [← hf] at c0 c1 hf1
        rw [← hg] at d0 d1 hf2
        have hst : S.take (k + 1) = S.take k ++ [f1] := by rw [hf, List.take_succ_eq_append_getElem hkS]
        have htt : T.take (k + 1) = T.take k ++ [f2] := by rw [hg, List.take_succ_eq_append_getElem hkT]
        have Hst := Lib.hid hst
        have Htt := Lib.hid htt
        have Hf := Lib.hid hf
        have Hg := Lib.hid hg
        clear hst htt hf hg
        have hq : ∀ W, (binOp .neq 30 (.agg #[.int .i64 f1.1, .string (strOf f1.2)]) (.agg #[.int .i64 f2.1, .string (strOf f2.2)])).run Try.prog W = .ok (.bool (!decide (f1 = f2))) W := fun W => fr_neq f1 f2 W hf1 hf2
        by_cases hff : f1 = f2
        · have hd : (!decide (f1 = f2)) = false := by rw [decide_eq_true hff]; rfl
          rw [hd] at hq
          have Heq2 : Hid (S.take (k + 1) = T.take (k + 1)) := Lib.hid (by rw [Hst.out, Htt.out, Heq.out, hff])
          clear hff hd hf1 hf2
          go_wp2_with fail
          go_quiet (fail)
          go_wp2
          go_roundw
          case rel => exact ⟨k + 1, by omega, by go_num, Heq2, Lib.hid ⟨_, rfl⟩⟩
          case measure => simp [intOf]; omega
        · have hd : (!decide (f1 = f2)) = true := by rw [decide_eq_false hff]; rfl
          rw [hd] at hq
          have hrf : r = false := by
            rw [Hr.out]
            refine decide_eq_false (fun e => hff ?_)
            rw [Hf.out, Hg.out]
            subst e
            rfl
          have Hrf := Lib.hid hrf
          clear hff hd hf1 hf2 hrf
          go_wp2_with fail
          go_quiet (fail)
          go_wp2
          go_ret
          exact ⟨congrArg (fun x => Ending.returned (Value.bool x)) Hrf.out.symm, ⟨rfl, rfl, rfl, Nat.le_refl _, fun _ _ => rfl⟩⟩
      · have hkN : k = N := by omega
        have hrt : r = true := by
          rw [Hr.out]
          refine decide_eq_true ?_
          have h1 := Heq.out
          rw [List.take_of_length_le (by have := HN.out; omega), List.take_of_length_le (by have := HM.out; have := HNM.out; omega)] at h1
          exact h1
        have hge : ¬ (k : Int) < (N : Int) := by omega
        have Hrt := Lib.hid hrt
        clear hrt
        go_wp2
        go_ret
        exact ⟨congrArg (fun x => Ending.returned (Value.bool x)) Hrt.out.symm, ⟨rfl, rfl, rfl, Nat.le_refl _, fun _ _ => rfl⟩⟩
  · have hr : decide (S = T) = false := decide_eq_false (fun e => hlen (by rw [e]))
    rw [hr]
    have hne : ((S.length : Int) != (T.length : Int)) = true := by simp; omega
    generalize S.length = N at *
    generalize T.length = M at *
    clear rS rT hS hT hr
    go_enter Try.func16, Try.ntmps16
    go_wp2
    go_ret
    exact ⟨rfl, Below.refl _ _⟩
end Go.Proofs.Ytckmdeiahpijcaa
