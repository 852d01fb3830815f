/-
  The program's layer 5 (count), by its walk: Symbols, Right, total, greatest. Conditions: as each theorem's premises say.
-/
import Derived.Test.YtmcobnbahkoopaaNh
import Derived.Test.YtmcobnbahkoopaaNd
namespace Go.Proofs.Ytmcobnbahkoopaa
open Go.RowKit

theorem reads_in {w : World} {A : Option Addr} {l : List Nat} (h : Reads w A (i64s l)) (hne : 0 < l.length) : ∃ g off, A = some ⟨g, off, none⟩ ∧ ∀ j (hj : j < l.length), w.cell? ⟨g, off + j, none⟩ = some (.int .i64 (l[j] : Int)) := by
  have hne' : i64s l ≠ [] := fun e => by
    have h1 := congrArg List.length e
    rw [i64s_length, List.length_nil] at h1
    omega
  obtain ⟨g, off, e, hc⟩ := h hne'
  exact ⟨g, off, e, fun j hj => by rw [hc j (by rw [i64s_length]; exact hj), i64s_get? l j hj]⟩

set_option maxHeartbeats 400000 in
set_option maxRecDepth 100000 in
theorem nsymbols_any (A : Option Addr) (c : Nat) (l : List Int) (w : World) (hl : l.length ≤ 1000000000) (hr : Reads w A (i64z l)) :
    Calls Try.prog 28 #[.slice A l.length c] w fun e w' => e = .returned (.int .i64 (Bm.symN l : Int)) ∧ w = w' := by
  have Hr := Lib.hid hr
  obtain ⟨r, hres⟩ : ∃ r, r = Bm.symN l := ⟨_, rfl⟩
  rw [← hres]
  have Hres := Lib.hid hres
  clear hr hres
  go_enter Try.func28, Try.ntmps28
  go_wp2
  go_loop [3, 8] (fun n i => ∃ k : Nat, k ≤ l.length ∧ i = .int .i64 (k : Int) ∧ n = .int .i64 (Bm.symN (l.take k) : Int)) (fun _ i => l.length - (intOf i).toNat)
  case atStart => exact ⟨0, by omega, rfl, rfl⟩
  case round =>
    obtain ⟨k, hk, rfl, rfl⟩ := hrel
    by_cases hkl : k < l.length
    · obtain ⟨g, off, rfl, hc⟩ := reads_iz Hr.out (by omega)
      have c0 := hc k hkl
      have hs := Bm.symN_take l k hkl
      have hle := Bm.symN_le (l.take k)
      rw [List.length_take, Nat.min_eq_left (by omega)] at hle
      have Hs := Lib.hid hs
      clear hc hs
      generalize Bm.symN (l.take k) = m at hle Hs ⊢
      generalize l[k] = z at c0 Hs
      by_cases hz : 0 < z
      · go_wp2
        go_round
        case rel => exact ⟨k + 1, by omega, by go_num, by rw [Hs.out, if_pos hz]; go_num⟩
        case measure => simp [intOf]; omega
      · go_wp2
        go_round
        case rel => exact ⟨k + 1, by omega, by go_num, by rw [Hs.out, if_neg hz]; go_num⟩
        case measure => simp [intOf]; omega
    · obtain rfl : k = l.length := by omega
      rw [List.take_length, ← Hres.out]
      clear Hr
      go_wp2
      go_ret
      exact ⟨rfl, rfl⟩
theorem nsymbols_is : CSymbols := fun A c l w hl hr => (nsymbols_any A c l w (by omega) hr).mono fun _ w' ⟨he, hw⟩ => ⟨he, by subst hw; exact Below.refl _ _⟩

namespace Bm
theorem right_iff (l : List Int) : Right l ↔ l.length ≤ 256 ∧ (∀ x ∈ l, 0 ≤ x ∧ x ≤ 1048576) ∧ 0 < symN l := by
  unfold Right symN
  rw [List.countP_pos_iff]
  simp
def rightB (l : List Int) : Bool := decide (Right l)
end Bm
set_option maxHeartbeats 1000000 in
set_option maxRecDepth 100000 in
theorem nright_any (A : Option Addr) (c : Nat) (l : List Int) (w : World) (hl : l.length ≤ 1000000000) (hr : Reads w A (i64z l)) :
    Calls Try.prog 21 #[.slice A l.length c] w fun e w' => e = .returned (.bool (Bm.rightB l)) ∧ w = w' := by
  have Hr := Lib.hid hr
  have Hsy := Lib.hid (nsymbols_any A c l w hl hr)
  obtain ⟨r, hres⟩ : ∃ r, r = Bm.rightB l := ⟨_, rfl⟩
  rw [← hres]
  have hno : ∀ P : Prop, (Bm.Right l → P) → ¬ P → false = r := fun P h hp => by
    rw [hres]; symm; unfold Bm.rightB; exact decide_eq_false (fun h1 => hp (h h1))
  have Hno := Lib.hid hno
  have Hres := Lib.hid hres
  clear hr hres hno
  by_cases h3 : 256 < l.length
  · have hf : false = r := Hno.out (l.length ≤ 256) (fun h => h.1) (by omega)
    rw [← hf]
    go_enter Try.func21, Try.ntmps21
    go_wp2
    go_ret
    exact ⟨rfl, rfl⟩
  go_enter Try.func21, Try.ntmps21
  go_wp2
  go_loop [10] (fun i => ∃ k : Nat, k ≤ l.length ∧ i = .int .i64 (k : Int) ∧ ∀ x ∈ l.take k, 0 ≤ x ∧ x ≤ 1048576) (fun i => l.length - (intOf i).toNat)
  case atStart => exact ⟨0, by omega, rfl, by simp⟩
  case round =>
    obtain ⟨k, hk, rfl, hall⟩ := hrel
    by_cases hkl : k < l.length
    · obtain ⟨g, off, rfl, hc⟩ := reads_iz Hr.out (by omega)
      have c0 := hc k hkl
      have Ha := Lib.hid (Bm.all_take (fun x => 0 ≤ x ∧ x ≤ 1048576) l k hkl hall)
      have Hm := Lib.hid (List.getElem_mem hkl)
      clear hc hall Hres Hsy
      generalize l[k] = z at c0 Ha Hm
      by_cases hz : z < 0
      · have hf : false = r := Hno.out (0 ≤ z) (fun h => (h.2.1 z Hm.out).1) (by omega)
        have Hf := Lib.hid hf
        clear hf
        go_wp2
        go_ret
        exact ⟨congrArg (fun x => Ending.returned (Value.bool x)) Hf.out, rfl⟩
      by_cases hz2 : 1048576 < z
      · have hf : false = r := Hno.out (z ≤ 1048576) (fun h => (h.2.1 z Hm.out).2) (by omega)
        have Hf := Lib.hid hf
        clear hf
        go_wp2
        go_ret
        exact ⟨congrArg (fun x => Ending.returned (Value.bool x)) Hf.out, rfl⟩
      go_wp2
      go_round
      case rel => exact ⟨k + 1, by omega, by go_num, Ha.out (by omega)⟩
      case measure => simp [intOf]; omega
    · obtain rfl : k = l.length := by omega
      rw [List.take_length] at hall
      have hres : decide (0 < Bm.symN l) = r := by
        rw [Hres.out]
        unfold Bm.rightB
        rw [decide_eq_decide, Bm.right_iff]
        exact ⟨fun h => ⟨by omega, hall, h⟩, fun h => h.2.2⟩
      clear Hr Hno Hres hall
      generalize Bm.symN l = q at hres Hsy
      have Hsy2 := Lib.hid Hsy.out
      clear Hsy
      go_wp2_with fail
      refine Hsy2.out.mono ?_
      rintro e w' ⟨rfl, rfl⟩
      go_wp2
      go_ret
      exact ⟨congrArg (fun x => Ending.returned (Value.bool x)) (by simp), rfl⟩

end Go.Proofs.Ytmcobnbahkoopaa
