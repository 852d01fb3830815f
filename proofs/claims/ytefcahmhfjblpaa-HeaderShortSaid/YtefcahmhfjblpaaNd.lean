/-
  The program's layer 5 (count), by its walk: sized, Fair. Conditions: as each theorem's premises say.
-/
import Derived.Test.YtefcahmhfjblpaaNf
namespace Go.Proofs.Ytefcahmhfjblpaa
open Go.RowKit
namespace Bm
def sizedB (log : Int) : Bool := decide (5 ≤ log ∧ log ≤ 9)
end Bm
set_option maxHeartbeats 400000 in
set_option maxRecDepth 100000 in
theorem nsized_any (log : Int) (w : World) : Calls Try.prog 32 #[.int .i64 log] w fun e w' => e = .returned (.bool (Bm.sizedB log)) ∧ w = w' := by
  by_cases h5 : 5 ≤ log
  · by_cases h9 : log ≤ 9
    · have hs : Bm.sizedB log = true := decide_eq_true ⟨h5, h9⟩
      rw [hs]
      go_enter Try.func32, Try.ntmps32
      go_wp2
      go_ret
      exact ⟨rfl, rfl⟩
    · have hs : Bm.sizedB log = false := decide_eq_false (fun h => h9 h.2)
      have h9' : decide (log ≤ 9) = false := by simpa using h9
      rw [hs]
      go_enter Try.func32, Try.ntmps32
      go_wp2
      go_ret
      exact ⟨rfl, rfl⟩
  · have hs : Bm.sizedB log = false := decide_eq_false (fun h => h5 h.1)
    have h5' : decide (5 ≤ log) = false := by simpa using h5
    rw [hs]
    go_enter Try.func32, Try.ntmps32
    go_wp2
    go_ret
    exact ⟨rfl, rfl⟩

theorem wrap_in (x : Int) (h0 : -9223372036854775808 ≤ x) (h1 : x ≤ 9223372036854775807) : wrap64 x = x := by unfold wrap64; omega
namespace Bm
theorem sum_nn (l : List Int) (h : ∀ x ∈ l, 0 ≤ x) : 0 ≤ l.sum := by
  induction l with
  | nil => simp
  | cons a l ih =>
    have h1 := ih (fun x hx => h x (List.mem_cons_of_mem _ hx))
    have h2 := h a List.mem_cons_self
    rw [List.sum_cons]; omega
theorem sum_take_le (l : List Int) (k : Nat) (h : ∀ x ∈ l, 0 ≤ x) : (l.take k).sum ≤ l.sum := by
  have h1 := sum_nn (l.drop k) (fun x hx => h x (List.mem_of_mem_drop hx))
  have h2 : l.sum = (l.take k).sum + (l.drop k).sum := by
    conv => lhs; rw [← List.take_append_drop k l]
    rw [List.sum_append_int]
  omega
theorem mem_le_sumI (l : List Int) (h : ∀ x ∈ l, 0 ≤ x) (x : Int) (hx : x ∈ l) : x ≤ l.sum := by
  induction l with
  | nil => cases hx
  | cons a l ih =>
    have h1 := sum_nn l (fun x hx => h x (List.mem_cons_of_mem _ hx))
    have h2 := h a List.mem_cons_self
    rw [List.sum_cons]
    rcases List.mem_cons.1 hx with rfl | hx
    · omega
    · have := ih (fun x hx => h x (List.mem_cons_of_mem _ hx)) hx; omega
theorem pow_log (b : Nat) (h5 : 5 ≤ b) (h9 : b ≤ 9) : 32 ≤ 2 ^ b ∧ 2 ^ b ≤ 512 :=
  ⟨Nat.pow_le_pow_right (n := 2) (i := 5) (by omega) h5, Nat.pow_le_pow_right (n := 2) (j := 9) (by omega) h9⟩
end Bm

set_option maxHeartbeats 1000000 in
set_option maxRecDepth 100000 in
theorem nfair_any (A : Option Addr) (c : Nat) (l : List Int) (log : Int) (w : World) (hl : l.length ≤ 1000000) (hok : ∀ x ∈ l, Bm.IntOk x) (_hlog : Bm.IntOk log) (hr : Reads w A (i64z l)) :
    Calls Try.prog 25 #[.slice A l.length c, .int .i64 log] w fun e w' => e = .returned (.bool (Bm.fairB l log)) ∧ Below w.heap.size w w' := by
  have Hr := Lib.hid hr
  obtain ⟨r, hres⟩ : ∃ r, r = Bm.fairB l log := ⟨_, rfl⟩
  rw [← hres]
  have hno : ∀ P : Prop, (Bm.Fair l log → P) → ¬ P → false = r := fun P h hp => by
    rw [hres]; symm; unfold Bm.fairB; exact decide_eq_false (fun h1 => hp (h h1))
  have Hno := Lib.hid hno
  have Hres := Lib.hid hres
  have Hok := Lib.hid hok
  have Hsz := Lib.hid (nsized_any log w)
  clear hr hres hno hok
  by_cases hs : Bm.sizedB log = true
  · obtain ⟨h5, h9⟩ : 5 ≤ log ∧ log ≤ 9 := of_decide_eq_true hs
    rw [hs] at Hsz
    clear hs
    by_cases h3 : 256 < l.length
    · have hf : false = r := Hno.out (l.length ≤ 256) (fun h => h.2.2.1) (by omega)
      have h3' : decide (256 < l.length) = true := decide_eq_true h3
      rw [← hf]
      clear hf
      go_enter Try.func25, Try.ntmps25
      go_wp2_with fail
      refine Hsz.out.mono ?_
      rintro e w' ⟨rfl, rfl⟩
      go_wp2
      go_ret
      exact ⟨rfl, Below.refl _ _⟩
    have h3' : decide (256 < l.length) = false := decide_eq_false h3
    obtain ⟨b, rfl⟩ := Int.eq_ofNat_of_zero_le (show 0 ≤ log by omega)
    have hP := Bm.pow_log b (by omega) (by omega)
    have hpd : (2 : Int) ^ b = ((2 ^ b : Nat) : Int) := by simp
    obtain ⟨P, hPe⟩ : ∃ P, P = 2 ^ b := ⟨_, rfl⟩
    rw [← hPe] at hP hpd
    have HPe := Lib.hid hPe
    clear hPe
    have hw : wrap64 (P : Int) = (P : Int) := wrap_in _ (by omega) (by omega)
    go_enter Try.func25, Try.ntmps25
    go_wp2_with fail
    refine Hsz.out.mono ?_
    rintro e w' ⟨rfl, rfl⟩
    clear Hsz
    go_wp2
    clear hpd hw
    go_loop [5, 20] (fun q i => ∃ k : Nat, k ≤ l.length ∧ i = .int .i64 (k : Int) ∧ q = .int .i64 ((P : Int) - (l.take k).sum) ∧ (l.take k).sum ≤ P ∧ ∀ x ∈ l.take k, 0 ≤ x) (fun _ i => l.length - (intOf i).toNat)
    case atStart => exact ⟨0, by omega, rfl, by go_num, by simp, by simp⟩
    case round =>
      obtain ⟨k, hk, rfl, rfl, hle, hall⟩ := hrel
      by_cases hkl : k < l.length
      · obtain ⟨g, off, rfl, hc⟩ := reads_iz Hr.out (by omega)
        have c0 := hc k hkl
        have h0 := Bm.sum_nn _ hall
        have hzb := Hok.out _ (List.getElem_mem hkl)
        have Hs := Lib.hid (Bm.sum_take l k hkl)
        have Ha := Lib.hid (Bm.all_take (fun x => 0 ≤ x) l k hkl hall)
        have Hm := Lib.hid (List.getElem_mem hkl)
        unfold Bm.IntOk at hzb
        clear hc hall Hres
        have Htk : Hid (Bm.Fair l (b : Int) → (l.take (k + 1)).sum ≤ P) := Lib.hid (fun h => by
          have h1 := Bm.sum_take_le l (k + 1) (fun x hx => (h.2.2.2.1 x hx).1)
          have h2 := h.2.2.2.2
          rw [Int.toNat_natCast, ← HPe.out] at h2
          omega)
        generalize (l.take k).sum = m at hle h0 Hs ⊢
        generalize l[k] = z at c0 Hs Ha Hm hzb
        by_cases hz : z < 0
        · have hf : false = r := Hno.out (0 ≤ z) (fun h => (h.2.2.2.1 z Hm.out).1) (by omega)
          have Hf := Lib.hid hf
          clear hf
          go_wp2
          go_ret
          exact ⟨congrArg (fun x => Ending.returned (Value.bool x)) Hf.out, Below.refl _ _⟩
        have hz0 : decide (z < 0) = false := decide_eq_false hz
        by_cases hz2 : (P : Int) - m < z
        · have hf : false = r := Hno.out (m + z ≤ P) (fun h => by rw [← Hs.out]; exact Htk.out h) (by omega)
          have Hf := Lib.hid hf
          have hz3 : decide ((P : Int) - m < z) = true := decide_eq_true hz2
          clear hf
          go_wp2
          go_ret
          exact ⟨congrArg (fun x => Ending.returned (Value.bool x)) Hf.out, Below.refl _ _⟩
        have hz3 : decide ((P : Int) - m < z) = false := decide_eq_false hz2
        go_wp2
        go_round
        case rel => exact ⟨k + 1, by omega, by go_num, by rw [Hs.out]; go_num, by rw [Hs.out]; omega, Ha.out (by omega)⟩
        case measure => simp [intOf]; omega
      · obtain rfl : k = l.length := by omega
        rw [List.take_length] at hall hle ⊢
        have h0 := Bm.sum_nn _ hall
        have hres : ((P : Int) - l.sum == 0) = r := by
          rw [Hres.out]
          unfold Bm.fairB
          rw [Bool.eq_iff_iff, beq_iff_eq, decide_eq_true_iff]
          constructor
          · intro h
            refine ⟨by omega, by omega, by omega, fun x hx => ⟨hall x hx, ?_⟩, ?_⟩
            · have := Bm.mem_le_sumI l hall x hx; omega
            · rw [Int.toNat_natCast, ← HPe.out]; omega
          · intro h
            have h2 := h.2.2.2.2
            rw [Int.toNat_natCast, ← HPe.out] at h2
            omega
        have Hres2 := Lib.hid hres
        clear Hr Hno Hres hall hres
        generalize l.sum = q at Hres2 h0 hle ⊢
        go_wp2
        go_ret
        exact ⟨congrArg (fun x => Ending.returned (Value.bool x)) Hres2.out, Below.refl _ _⟩
  · have hs0 : Bm.sizedB log = false := by simpa using hs
    have hf : false = r := Hno.out (5 ≤ log ∧ log ≤ 9) (fun h => ⟨h.1, h.2.1⟩) (fun h => hs (decide_eq_true h))
    rw [hs0] at Hsz
    clear hs hs0
    rw [← hf]
    clear hf
    go_enter Try.func25, Try.ntmps25
    go_wp2_with fail
    refine Hsz.out.mono ?_
    rintro e w' ⟨rfl, rfl⟩
    go_wp2
    go_ret
    exact ⟨rfl, Below.refl _ _⟩

end Go.Proofs.Ytefcahmhfjblpaa
