/-
  The reference of layer 5 (count), by its walk: Fair. Conditions: as each theorem's premises say.
-/
import Derived.Test.YtefcahmhfjblpaaNr
namespace Go.Proofs.Ytefcahmhfjblpaa
open Go.RowKit
namespace Bm
/-- Are these a share of that log's size? -/
def Fair (l : List Int) (log : Int) : Prop := 5 ≤ log ∧ log ≤ 9 ∧ l.length ≤ 256 ∧ (∀ x ∈ l, 0 ≤ x ∧ x ≤ 1000) ∧ l.sum = ((2 ^ log.toNat : Nat) : Int)
instance (l : List Int) (log : Int) : Decidable (Fair l log) := by unfold Fair; exact inferInstance
def fairB (l : List Int) (log : Int) : Bool := decide (Fair l log)
theorem sum_take (l : List Int) (k : Nat) (h : k < l.length) : (l.take (k + 1)).sum = (l.take k).sum + l[k] := by
  rw [List.take_succ_eq_append_getElem h, List.sum_append_int, List.sum_singleton]
theorem all_take (p : Int → Prop) (l : List Int) (k : Nat) (h : k < l.length) (h0 : ∀ x ∈ l.take k, p x) (h1 : p l[k]) : ∀ x ∈ l.take (k + 1), p x := by
  rw [List.take_succ_eq_append_getElem h]
  intro x hx
  rcases List.mem_append.1 hx with h2 | h2
  · exact h0 x h2
  · rw [List.mem_singleton.1 h2]; exact h1
theorem sum_bound (l : List Int) (h : ∀ x ∈ l, 0 ≤ x ∧ x ≤ 1000) : 0 ≤ l.sum ∧ l.sum ≤ 1000 * l.length := by
  induction l with
  | nil => simp
  | cons a l ih =>
    have h1 := ih (fun x hx => h x (List.mem_cons_of_mem _ hx))
    have h2 := h a List.mem_cons_self
    rw [List.sum_cons, List.length_cons]
    omega
end Bm

set_option maxHeartbeats 1000000 in
set_option maxRecDepth 100000 in
theorem hfair_any (A : Option Addr) (c : Nat) (l : List Int) (log : Int) (w : World) (hl : l.length ≤ 1000000000) (hr : Reads w A (i64z l)) :
    Calls Try.prog 9 #[.slice A l.length c, .int .i64 log] w fun e w' => e = .returned (.bool (Bm.fairB l log)) ∧ w = w' := by
  have Hr := Lib.hid hr
  obtain ⟨r, hres⟩ : ∃ r, r = Bm.fairB l log := ⟨_, rfl⟩
  rw [← hres]
  have hno : ∀ P : Prop, (Bm.Fair l log → P) → ¬ P → false = r := fun P h hp => by
    rw [hres]; symm; unfold Bm.fairB; exact decide_eq_false (fun h1 => hp (h h1))
  have Hno := Lib.hid hno
  have Hres := Lib.hid hres
  clear hr hres hno
  by_cases h1 : log < 5
  · have hf : false = r := Hno.out (5 ≤ log) (fun h => h.1) (by omega)
    rw [← hf]
    go_enter Try.func9, Try.ntmps9
    go_wp2
    go_ret
    exact ⟨rfl, rfl⟩
  by_cases h2 : 9 < log
  · have hf : false = r := Hno.out (log ≤ 9) (fun h => h.2.1) (by omega)
    rw [← hf]
    go_enter Try.func9, Try.ntmps9
    go_wp2
    go_ret
    exact ⟨rfl, rfl⟩
  by_cases h3 : 256 < l.length
  · have hf : false = r := Hno.out (l.length ≤ 256) (fun h => h.2.2.1) (by omega)
    rw [← hf]
    go_enter Try.func9, Try.ntmps9
    go_wp2
    go_ret
    exact ⟨rfl, rfl⟩
  have hs := Lib.hid (hsize_any log w (by omega))
  go_enter Try.func9, Try.ntmps9
  go_wp2
  go_loop [5, 6] (fun n i => ∃ k : Nat, k ≤ l.length ∧ i = .int .i64 (k : Int) ∧ n = .int .i64 (l.take k).sum ∧ ∀ x ∈ l.take k, 0 ≤ x ∧ x ≤ 1000) (fun _ i => l.length - (intOf i).toNat)
  case atStart => exact ⟨0, by omega, rfl, rfl, by simp⟩
  case round =>
    obtain ⟨k, hk, rfl, rfl, hall⟩ := hrel
    by_cases hkl : k < l.length
    · obtain ⟨g, off, rfl, hc⟩ := reads_iz Hr.out (by omega)
      have c0 := hc k hkl
      have hb := Bm.sum_bound _ hall
      rw [List.length_take, Nat.min_eq_left (by omega)] at hb
      have Hs := Lib.hid (Bm.sum_take l k hkl)
      have Ha := Lib.hid (Bm.all_take (fun x => 0 ≤ x ∧ x ≤ 1000) l k hkl hall)
      have Hm := Lib.hid (List.getElem_mem hkl)
      clear hc hall Hres hs
      generalize (l.take k).sum = m at hb Hs ⊢
      generalize l[k] = z at c0 Hs Ha Hm
      by_cases hz : z < 0
      · have hf : false = r := Hno.out (0 ≤ z) (fun h => (h.2.2.2.1 z Hm.out).1) (by omega)
        have Hf := Lib.hid hf
        clear hf
        go_wp2
        go_ret
        exact ⟨congrArg (fun x => Ending.returned (Value.bool x)) Hf.out, rfl⟩
      by_cases hz2 : 1000 < z
      · have hf : false = r := Hno.out (z ≤ 1000) (fun h => (h.2.2.2.1 z Hm.out).2) (by omega)
        have Hf := Lib.hid hf
        clear hf
        go_wp2
        go_ret
        exact ⟨congrArg (fun x => Ending.returned (Value.bool x)) Hf.out, rfl⟩
      go_wp2
      go_round
      case rel => exact ⟨k + 1, by omega, by go_num, by rw [Hs.out], Ha.out (by omega)⟩
      case measure => simp [intOf]; omega
    · obtain rfl : k = l.length := by omega
      rw [List.take_length] at hall ⊢
      have hb := Bm.sum_bound _ hall
      have hres : (l.sum == ((2 ^ log.toNat : Nat) : Int)) = r := by
        rw [Hres.out]
        unfold Bm.fairB
        rw [Bool.eq_iff_iff, beq_iff_eq, decide_eq_true_iff]
        exact ⟨fun h => ⟨by omega, by omega, by omega, hall, h⟩, fun h => h.2.2.2.2⟩
      clear Hr Hno Hres hall
      generalize 2 ^ log.toNat = m at hres hs
      generalize l.sum = q at hres hb ⊢
      go_wp2_with fail
      refine hs.out.mono ?_
      rintro e w' ⟨rfl, rfl⟩
      go_wp2
      go_ret
      exact ⟨rfl, rfl⟩
end Go.Proofs.Ytefcahmhfjblpaa
