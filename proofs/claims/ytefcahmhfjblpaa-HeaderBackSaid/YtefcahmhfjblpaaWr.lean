/-
  The reference of layer 1 (bits), by its walk: Number. Conditions: as each theorem's premises say (up to 32 bits of a number).
-/
import Derived.Test.YtefcahmhfjblpaaWp
import Derived.Test.YtefcahmhfjblpaaRb
namespace Go.Proofs.Ytefcahmhfjblpaa
open Go.RowKit
set_option maxHeartbeats 400000 in
set_option maxRecDepth 100000 in
theorem rnum_nil (A : Option Addr) (c : Nat) (w : World) :
    Calls Try.prog 31 #[.slice A 0 c] w fun e w' => e = .returned (.int .u32 0) ∧ w = w' := by
  go_enter Try.func31, Try.ntmps31
  go_wp2
  go_loop [3, 4] (fun v i => v = .int .u32 0 ∧ i = .int .i64 (-1)) (fun _ _ => 0)
  case atStart => exact ⟨rfl, rfl⟩
  case round =>
    obtain ⟨rfl, rfl⟩ := hrel
    go_wp2
    go_ret
    exact ⟨rfl, rfl⟩

set_option maxHeartbeats 400000 in
set_option maxRecDepth 100000 in
theorem rnum_some (g off n c N : Nat) (w : World) (hn : n ≤ 32) (hn0 : 0 < n) (hc : ∀ j, j < n → w.cell? ⟨g, off + j, none⟩ = some (.int .i64 ((N / 2 ^ j % 2 : Nat) : Int))) :
    Calls Try.prog 31 #[.slice (some ⟨g, off, none⟩) n c] w fun e w' => e = .returned (.int .u32 ((N % 2 ^ n : Nat) : Int)) ∧ w = w' := by
  have hx : N % 2 ^ n < 4294967296 := Nat.lt_of_lt_of_le (Nat.mod_lt _ (Nat.two_pow_pos n)) (Nat.pow_le_pow_right (n := 2) (by omega) hn)
  go_enter Try.func31, Try.ntmps31
  go_wp2
  go_loop [3, 4] (fun v i => ∃ k y : Nat, k ≤ n ∧ v = .int .u32 (y : Int) ∧ i = .int .i64 ((k : Int) - 1) ∧ Hid (y = N % 2 ^ n / 2 ^ k)) (fun _ i => (intOf i + 1).toNat)
  case atStart => exact ⟨n, 0, Nat.le_refl _, rfl, rfl, by unfold Hid; rw [Nat.div_eq_of_lt (Nat.mod_lt _ (Nat.two_pow_pos n))]⟩
  case round =>
    obtain ⟨k, y, hk, rfl, rfl, hy⟩ := hrel
    by_cases h0 : k = 0
    · subst h0
      have hf : Ending.returned (Value.int .u32 (y : Int)) = Ending.returned (Value.int .u32 ((N % 2 ^ n : Nat) : Int)) := by
        have h1 := hy.out
        rw [Nat.pow_zero, Nat.div_one] at h1
        rw [h1]
      have Hf := Lib.hid hf
      clear hc hf hy
      go_wp2
      go_ret
      exact ⟨Hf.out, rfl⟩
    · obtain ⟨j, rfl⟩ : ∃ j, k = j + 1 := ⟨k - 1, by omega⟩
      rw [show (((j + 1 : Nat) : Int) - 1) = (j : Int) by omega]
      have hcell := hc j (by omega)
      have ht : N / 2 ^ j % 2 ≤ 1 := by omega
      have hs : y * 2 + N / 2 ^ j % 2 = N % 2 ^ n / 2 ^ j := by
        have h1 := hy.out
        rw [← Bm.mod_digit N n j (by omega), h1, Nat.pow_succ, ← Nat.div_div_eq_div_mul]
        omega
      have hle : y * 2 + N / 2 ^ j % 2 ≤ 4294967295 := by
        have := Nat.div_le_self (N % 2 ^ n) (2 ^ j)
        omega
      have Hs := Lib.hid hs
      clear hs hc hy
      generalize N / 2 ^ j % 2 = t at hcell ht Hs hle
      go_wp2
      go_round
      case rel => exact ⟨j, y * 2 + t, by omega, by go_num, by go_num, Hs⟩
      case measure => simp [intOf]
end Go.Proofs.Ytefcahmhfjblpaa
