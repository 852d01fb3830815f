/-
  The reference of layer 5 (count), by its walk: Size. Conditions: as each theorem's premises say.
-/
import Derived.Test.YtlimiiimgblggaaIn
namespace Go.Proofs.Ytlimiiimgblggaa
open Go.RowKit
set_option maxHeartbeats 400000 in
set_option maxRecDepth 100000 in
theorem hsize_any (n : Int) (w : World) (hn : n ≤ 40) :
    Calls Try.prog 19 #[.int .i64 n] w fun e w' => e = .returned (.int .i64 ((2 ^ n.toNat : Nat) : Int)) ∧ w = w' := by
  obtain ⟨r, hres⟩ : ∃ r, r = 2 ^ n.toNat := ⟨_, rfl⟩
  rw [← hres]
  have Hres := Lib.hid hres
  clear hres
  go_enter Try.func19, Try.ntmps19
  go_wp2
  go_loop [3, 4] (fun x i => ∃ k : Nat, k ≤ n.toNat ∧ i = .int .i64 (k : Int) ∧ x = .int .i64 ((2 ^ k : Nat) : Int)) (fun _ i => n.toNat - (intOf i).toNat)
  case atStart => exact ⟨0, by omega, rfl, rfl⟩
  case round =>
    obtain ⟨k, hk, rfl, rfl⟩ := hrel
    have h40 : 2 ^ k ≤ 2 ^ 40 := Nat.pow_le_pow_right (by omega) (by omega)
    have h40' : (2 : Nat) ^ 40 = 1099511627776 := by decide
    rw [h40'] at h40
    clear h40'
    have hs : 2 ^ (k + 1) = 2 ^ k * 2 := Nat.pow_succ 2 k
    have Hs := Lib.hid hs
    have He : Hid (k = n.toNat → 2 ^ k = r) := Lib.hid (fun e => by rw [e, Hres.out])
    clear hs Hres
    generalize 2 ^ k = m at h40 Hs He ⊢
    by_cases hkl : (k : Int) < n
    · go_wp2
      go_round
      case rel => exact ⟨k + 1, by omega, by go_num, by rw [Hs.out]; go_num⟩
      case measure => simp [intOf]; omega
    · rw [He.out (by omega)]
      go_wp2
      go_ret
      exact ⟨rfl, rfl⟩
end Go.Proofs.Ytlimiiimgblggaa
