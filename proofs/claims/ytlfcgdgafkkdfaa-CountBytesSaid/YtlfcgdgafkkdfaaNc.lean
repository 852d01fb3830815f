/-
  The reference of layer 5 (count), by its walk: Symbols. Conditions: as each theorem's premises say.
-/
import Derived.Test.YtlfcgdgafkkdfaaIn
namespace Go.Proofs.Ytlfcgdgafkkdfaa
open Go.RowKit
namespace Bm
/-- How many of these are above 0. -/
def symN (l : List Int) : Nat := l.countP fun z => decide (0 < z)
theorem symN_take (l : List Int) (k : Nat) (h : k < l.length) : symN (l.take (k + 1)) = symN (l.take k) + (if 0 < l[k] then 1 else 0) := by
  unfold symN
  rw [List.take_succ_eq_append_getElem h, List.countP_append, List.countP_singleton]
  simp
theorem symN_le (l : List Int) : symN l ≤ l.length := List.countP_le_length
end Bm

set_option maxHeartbeats 400000 in
theorem hsymbols_any (A : Option Addr) (c : Nat) (l : List Int) (w : World) (hl : l.length ≤ 1000000000) (hr : Reads w A (i64z l)) :
    Calls Try.prog 10 #[.slice A l.length c] w fun e w' => e = .returned (.int .i64 (Bm.symN l : Int)) ∧ w = w' := by
  have Hr := Lib.hid hr
  obtain ⟨r, hres⟩ : ∃ r, r = Bm.symN l := ⟨_, rfl⟩
  rw [← hres]
  have Hres := Lib.hid hres
  clear hr hres
  go_enter Try.func10, Try.ntmps10
  go_wp2
  go_loop [3, 4] (fun n i => ∃ k : Nat, k ≤ l.length ∧ i = .int .i64 (k : Int) ∧ n = .int .i64 (Bm.symN (l.take k) : Int)) (fun _ i => l.length - (intOf i).toNat)
  case atStart => exact ⟨0, by omega, rfl, rfl⟩
  case round =>
    obtain ⟨k, hk, rfl, rfl⟩ := hrel
    by_cases hkl : k < l.length
    · obtain ⟨g, off, rfl, hc⟩ := reads_iz Hr.out (by omega)
      have c0 := hc k hkl
      have hs := Bm.symN_take l k hkl
      have hle := Bm.symN_le (l.take k)
      rw [List.length_take, Nat.min_eq_left (by omega)] at hle
      have Hs := Lib.hid hs
      clear hc hs
      generalize Bm.symN (l.take k) = m at hle Hs ⊢
      generalize l[k] = z at c0 Hs
      by_cases hz : 0 < z
      · go_wp2
        go_round
        case rel => exact ⟨k + 1, by omega, by go_num, by rw [Hs.out, if_pos hz]; go_num⟩
        case measure => simp [intOf]; omega
      · go_wp2
        go_round
        case rel => exact ⟨k + 1, by omega, by go_num, by rw [Hs.out, if_neg hz]; go_num⟩
        case measure => simp [intOf]; omega
    · obtain rfl : k = l.length := by omega
      rw [List.take_length, ← Hres.out]
      clear Hr
      go_wp2
      go_ret
      exact ⟨rfl, rfl⟩

end Go.Proofs.Ytlfcgdgafkkdfaa
