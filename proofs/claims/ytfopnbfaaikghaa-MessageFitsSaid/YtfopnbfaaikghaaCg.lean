/-
  Layer 3 (cursor), the Reader, each by its walk: Group. Conditions: as each theorem's premises say (up to a hundred million bytes).
-/
import Derived.Test.YtfopnbfaaikghaaCa
import Derived.Test.YtfopnbfaaikghaaCn
namespace Go.Proofs.Ytfopnbfaaikghaa
open Go.RowKit

theorem andNot_more (c : Nat) (h : c < 256) : bits .andNot .u8 (c : Int) 128 = ((c % 128 : Nat) : Int) := by
  have key : ∀ c, c < 256 → bits .andNot .u8 ((c : Nat) : Int) 128 = ((c % 128 : Nat) : Int) := by decide +kernel
  exact key c h
theorem or_step (l : List Nat) (k : Nat) (hk : k < l.length) (h9 : k ≤ 9) :
    ∃ V', bits .or .u64 ((Bm.val7 (l.take k) : Nat) : Int) (IntKind.u64.wrap (((l[k] % 128 : Nat) : Int) * 2 ^ (7 * k))) = ((V' : Nat) : Int) ∧ V' < 2 ^ 64 ∧ (k ≤ 8 ∨ l[k] = 1 → V' = Bm.val7 (l.take (k + 1))) := by
  have hlen : (l.take k).length = k := by rw [List.length_take]; omega
  have hv := Bm.val7_lt (l.take k)
  rw [hlen] at hv
  have hp : (128 : Nat) ^ k = 2 ^ (7 * k) := by rw [show (128 : Nat) = 2 ^ 7 by rfl, ← Nat.pow_mul]
  have h9p : (128 : Nat) ^ k ≤ 128 ^ 9 := Nat.pow_le_pow_right (by omega) h9
  have h9e : (128 : Nat) ^ 9 = 2 ^ 63 := by decide
  have hv64 : Bm.val7 (l.take k) < 2 ^ 64 := by omega
  refine ⟨_, or_val _ (l[k] % 128) (7 * k) hv64, ?_, ?_⟩
  · exact Nat.or_lt_two_pow hv64 (Nat.mod_lt _ (by decide))
  · intro hc
    have hsmall : l[k] % 128 * 2 ^ (7 * k) < 2 ^ 64 := by
      rw [← hp]
      rcases hc with h | h
      · have h8 : (128 : Nat) ^ k ≤ 128 ^ 8 := Nat.pow_le_pow_right (by omega) h
        have h8e : 127 * (128 : Nat) ^ 8 < 2 ^ 64 := by decide
        have := Nat.mul_le_mul (show l[k] % 128 ≤ 127 by omega) h8
        omega
      · rw [h, show 1 % 128 = 1 from rfl]; omega
    rw [Nat.mod_eq_of_lt hsmall, Bm.or_sum (7 * k) _ (l[k] % 128) (by rw [← hp]; exact hv), Bm.val7_take l k hk, ← hp]

set_option maxHeartbeats 400000 in
set_option maxRecDepth 100000 in
theorem rgroup_nil (w : World) : Calls Try.prog 49 #[.pointer none] w fun e w' => e = .returned (.int .u64 0) ∧ w = w' := by
  go_enter Try.func49, Try.ntmps49
  go_wp2_with fail
  refine (rbad_nil w).mono ?_
  rintro e w' ⟨rfl, rfl⟩
  go_wp2
  go_ret
  exact ⟨rfl, rfl⟩
set_option maxHeartbeats 400000 in
set_option maxRecDepth 100000 in
theorem rgroup_bad (b : Nat) (w : World) (h : CR w b none) : Calls Try.prog 49 #[.pointer (some ⟨b, 0, none⟩)] w fun e w' => e = .returned (.int .u64 0) ∧ w = w' := by
  have Hb := Lib.hid (rbad_any b none w h)
  clear h
  go_enter Try.func49, Try.ntmps49
  go_wp2_with fail
  refine Hb.out.mono ?_
  rintro e w' ⟨rfl, rfl⟩
  go_wp2
  go_ret
  exact ⟨rfl, rfl⟩
set_option maxHeartbeats 2000000 in
set_option maxRecDepth 100000 in
theorem rgroup_some (b : Nat) (l : List Nat) (w : World) (hl : l.length ≤ 100000000) (hlt : ∀ x ∈ l, x < 256) (h : CR w b (some l)) :
    Calls Try.prog 49 #[.pointer (some ⟨b, 0, none⟩)] w fun e w' => e = .returned (.int .u64 ((groupS (some l)).1 : Int)) ∧ CR w' b (groupS (some l)).2 ∧ w.grownBy w' (some b) := by
  have Hb := Lib.hid (rbad_any b _ w h)
  have Hf := Lib.hid (rfail_any b _ w h)
  obtain ⟨c0, c1, f0, f1⟩ := h.cells
  rw [Option.getD_some] at c0
  have hsz := strOf_size l
  have hidx : ∀ (i : Nat) (W : World) (hi : i < l.length), (Instr.index 9 (.string (strOf l)) (.int .i64 (i : Int))).run Try.prog W = .ok (.int .u8 ((l[i] : Nat) : Int)) W := fun i W hi => index_at l i W hi (hlt _ (List.getElem_mem hi))
  have hfrom := str_from l
  have hle := Bm.lead_le l
  obtain ⟨n, hn⟩ : ∃ n, n = l.length := ⟨_, rfl⟩
  obtain ⟨M, hM⟩ : ∃ M, M = min n 10 := ⟨_, rfl⟩
  have hMi : min (n : Int) 10 = (M : Int) := by omega
  obtain ⟨f1', f2, hF⟩ : ∃ f1 f2, groupS (some l) = (f1, f2) := ⟨_, _, rfl⟩
  rw [hF]
  rw [← hn] at hsz hl
  have hMn : M ≤ n := by omega
  have hM10 : M ≤ 10 := by omega
  have HF := Lib.hid hF
  have Hn := Lib.hid hn
  have HM := Lib.hid hM
  have HMi := Lib.hid hMi
  have Hidx := Lib.hid hidx
  have Hfrom := Lib.hid hfrom
  have Hlt := Lib.hid hlt
  have Hle := Lib.hid hle
  have H := Lib.hid h
  clear hn hidx hfrom hlt hF hle hM hMi h c1 f1
  generalize strOf l = s at hsz Hidx Hfrom c0
  go_enter Try.func49, Try.ntmps49
  go_wp2_with fail
  refine Hb.out.mono ?_
  rintro e w' ⟨rfl, rfl⟩
  go_wp2
  rw [HMi.out]
  go_loop [3, 14] (fun v i => ∃ k V : Nat, k ≤ M ∧ Hid (k ≤ Bm.lead l) ∧ i = .int .i64 (k : Int) ∧ v = .int .u64 (V : Int) ∧ Hid (k ≤ 9 → V = Bm.val7 (l.take k))) (fun _ i => M - (intOf i).toNat)
  case atStart => exact ⟨0, 0, by omega, Nat.zero_le _, rfl, rfl, fun _ => rfl⟩
  case round =>
    obtain ⟨k, V, hkM, hkl, rfl, rfl, hV⟩ := hrel
    by_cases hltM : k < M
    · have hk1 : k < l.length := by rw [← Hn.out]; omega
      have hk9 : k ≤ 9 := by omega
      have hkn : k < n := by omega
      obtain ⟨V', hor, hV64, hVal⟩ := or_step l k hk1 hk9
      have hVk := hV.out hk9
      rw [← hVk] at hor
      have hx := fun W => Hidx.out k W hk1
      have hc8 := Hlt.out l[k] (List.getElem_mem hk1)
      have hand := andNot_more l[k] hc8
      have hup := fun h => Bm.lead_up l k hkl.out hk1 h
      have hat := fun h => Bm.lead_at l k hkl.out hk1 h
      have hfirst := fun h => Bm.firstG_at l Hlt.out k hk1 hk9 h
      have hVal2 : k ≤ 8 ∨ l[k] = 1 → V' = Bm.val7 (l.take (k + 1)) := hVal
      have Hup := Lib.hid hup
      have Hat := Lib.hid hat
      have Hfirst := Lib.hid hfirst
      have HVal := Lib.hid hVal2
      have Hor := Lib.hid hor
      clear hup hat hfirst hVal hVal2 hVk hor
      generalize l[k] = c at hx hc8 hand Hup Hat Hfirst HVal Hor
      have hfrom1 := Hfrom.out (k + 1) hk1
      clear hk1
      obtain ⟨d, hd⟩ : ∃ d, d = c % 128 := ⟨_, rfl⟩
      rw [← hd] at hand Hor
      have hd7 : d ≤ 127 := by omega
      clear hd
      by_cases h128 : 128 ≤ c
      · clear hfrom1
        go_wp2
        go_round
        case rel => exact ⟨k + 1, V', by omega, Hup.out h128, by go_num, by first | rfl | rw [Hor.out], fun h9 => HVal.out (.inl (by omega))⟩
        case measure => simp [intOf]; omega
      · have hlead := Hat.out (by omega)
        have hfi := Hfirst.out hlead
        have hends := fun W => cends_any c k W hc8 hk9
        have hgr := HF.out
        simp only [groupS, hfi] at hgr
        have HV := Lib.hid HVal.out
        by_cases he : (k = 9 ∧ c = 1) ∨ (k ≠ 9 ∧ (c ≠ 0 ∨ k = 0))
        · have heb : endsB c k = true := by unfold endsB; exact decide_eq_true he
          rw [heb] at hends
          rw [if_pos he] at hgr
          simp only [if_pos (Nat.succ_pos k)] at hgr
          have hVv := HV.out (by omega)
          obtain ⟨rfl, rfl⟩ : V' = f1' ∧ some (l.drop (k + 1)) = f2 := by injection hgr with h1 h2; exact ⟨by rw [hVv]; exact h1, h2⟩
          have hstep := H.out.step (l.drop (k + 1))
          rw [show ((k + 1 : Nat) : Int) = (k : Int) + 1 by omega] at hfrom1
          have Hends := Lib.hid hends
          have Hstep := Lib.hid hstep
          clear hgr hends hfi hlead heb he hVv HV hstep HF Hup Hat Hfirst HVal
          generalize strOf (l.drop (k + 1)) = s2 at hfrom1 Hstep
          go_wp2_with fail
          refine (Hends.out _).mono ?_
          rintro e w' ⟨rfl, rfl⟩
          go_wp2
          rw [Hor.out]
          go_ret
          exact ⟨rfl, Hstep.out, grown_set (grown_refl _ _) _ _⟩
        · have heb : endsB c k = false := by unfold endsB; exact decide_eq_false he
          rw [heb] at hends
          rw [if_neg he] at hgr
          simp only [Nat.lt_irrefl, if_false] at hgr
          obtain ⟨rfl, rfl⟩ : 0 = f1' ∧ none = f2 := by injection hgr with h1 h2; exact ⟨h1, h2⟩
          have Hends := Lib.hid hends
          clear hgr hends hfi hlead heb he HV HF Hup Hat Hfirst HVal hfrom1
          go_wp2_with fail
          refine (Hends.out _).mono ?_
          rintro e w' ⟨rfl, rfl⟩
          go_wp2_with fail
          refine Hf.out.mono ?_
          rintro e w' ⟨rfl, hcr, hgr⟩
          go_wp2
          go_ret
          exact ⟨rfl, hcr, hgr⟩
    · have hgr := HF.out
      have hlong : Bm.firstG l = (0, 0) := by
        refine Bm.firstG_long l ?_
        have h1 := hkl.out
        have h2 := Hle.out
        have h3 := Hn.out
        have h4 := HM.out
        omega
      simp only [groupS, hlong, Nat.lt_irrefl, if_false] at hgr
      obtain ⟨rfl, rfl⟩ : 0 = f1' ∧ none = f2 := by injection hgr with h1 h2; exact ⟨h1, h2⟩
      obtain rfl : k = M := by omega
      clear hgr hlong HF
      go_wp2_with fail
      refine Hf.out.mono ?_
      rintro e w' ⟨rfl, hcr, hgr⟩
      go_wp2
      go_ret
      exact ⟨rfl, hcr, hgr⟩
theorem rgroup_any (b : Nat) (st : Left) (w : World) (hok : OkL st) (h : CR w b st) :
    Calls Try.prog 49 #[.pointer (some ⟨b, 0, none⟩)] w fun e w' => e = .returned (.int .u64 ((groupS st).1 : Int)) ∧ CR w' b (groupS st).2 ∧ w.grownBy w' (some b) := by
  rcases st with _ | l
  · exact (rgroup_bad b w h).mono fun e w' ⟨he, hw⟩ => by subst hw; exact ⟨he, h, grown_refl _ _⟩
  · exact rgroup_some b l w hok.2 hok.1 h
end Go.Proofs.Ytfopnbfaaikghaa
