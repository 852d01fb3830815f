/-
  The leaves of layer 1 (bits), each by its walk: lowest, Len, Left. Each contract holds for every input of its premises; no condition beyond.
-/
import Derived.Test.YtefcahmhfjblpaaMs
import Derived.Test.YtefcahmhfjblpaaGn
import Derived.Lib.Hide
import Derived.Lib.BitFns
import Derived.BigQuiet
import Derived.Deep.QuietTactic
namespace Go.Proofs.Ytefcahmhfjblpaa
open Go.RowKit

theorem mask_eq (v n : Nat) (hv : v < 2 ^ 64) (hn : n < 64) : bits .and .u64 (v : Int) (IntKind.u64.wrap (IntKind.u64.wrap (2 ^ n) - 1)) = ((v % 2 ^ n : Nat) : Int) := by
  have hp : 2 ^ n < 2 ^ 64 := Nat.pow_lt_pow_right (by omega) hn
  have e : ((2 : Int) ^ n) = ((2 ^ n : Nat) : Int) := by simp
  have hpos := Nat.two_pow_pos n
  rw [e, u64_wrap _ hp, show ((2 ^ n : Nat) : Int) - 1 = ((2 ^ n - 1 : Nat) : Int) by omega, u64_wrap _ (by omega), u64_and_nat _ _ hv (by omega), Nat.and_two_pow_sub_one_eq_mod]

set_option maxHeartbeats 400000 in
set_option maxRecDepth 100000 in
theorem lowest_any (v n : Nat) (w : World) (hv : v < 2 ^ 64) (hn : n < 64) :
    Calls Try.prog 24 #[.int .u64 (v : Int), .int .i64 (n : Int)] w fun e w' => e = .returned (.int .u64 ((v % 2 ^ n : Nat) : Int)) ∧ w = w' := by
  have hm := mask_eq v n hv hn
  have Hm := Lib.hid hm
  clear hm hv
  go_enter Try.func24, Try.ntmps24
  go_wp2
  go_ret
  exact ⟨congrArg Ending.returned (congrArg (Value.int .u64) Hm.out), rfl⟩

set_option maxHeartbeats 400000 in
set_option maxRecDepth 100000 in
theorem len_any (b off : Nat) (n : Int) (w : World) (h : w.cell? ⟨b, off + 2, none⟩ = some (.int .i64 n)) :
    Calls Try.prog 10 #[.pointer (some ⟨b, off, none⟩)] w fun e w' => e = .returned (.int .i64 n) ∧ w = w' := by
  go_enter Try.func10, Try.ntmps10
  go_wp2
  go_ret
  exact ⟨rfl, rfl⟩

set_option maxHeartbeats 400000 in
set_option maxRecDepth 100000 in
theorem left_nil (w : World) : Calls Try.prog 21 #[.pointer none] w fun e w' => e = .returned (.int .i64 0) ∧ w = w' := by
  go_enter Try.func21, Try.ntmps21
  go_wp2
  go_ret
  exact ⟨rfl, rfl⟩

set_option maxHeartbeats 400000 in
set_option maxRecDepth 100000 in
theorem left_core (b off : Nat) (s : ByteArray) (n : Nat) (w : World) (hs : s.size ≤ 1000000000) (hn : n ≤ 8 * s.size) (h0 : w.cell? ⟨b, off, none⟩ = some (.string s)) (h : w.cell? ⟨b, off + 1, none⟩ = some (.int .i64 (n : Int))) :
    Calls Try.prog 21 #[.pointer (some ⟨b, off, none⟩)] w fun e w' => e = .returned (.int .i64 ((8 * s.size - n : Nat) : Int)) ∧ ∃ k, w' = w.drewN k := by
  have hx : (8 * (s.size : Int) - (n : Int)) = ((8 * s.size - n : Nat) : Int) := by omega
  have Hx := Lib.hid hx
  clear hx
  go_enter Try.func21, Try.ntmps21
  go_wp2
  go_quiet (fail)
  go_wp2
  go_ret
  exact ⟨congrArg Ending.returned (congrArg (Value.int .i64) Hx.out), _, rfl⟩
theorem left_any (b off : Nat) (bs : List Nat) (n : Nat) (w : World) (hs : bs.length ≤ 1000000000) (hn : n ≤ 8 * bs.length) (h : RS w b off bs n) :
    Calls Try.prog 21 #[.pointer (some ⟨b, off, none⟩)] w fun e w' => e = .returned (.int .i64 ((8 * bs.length - n : Nat) : Int)) ∧ ∃ k, w' = w.drewN k := by
  have h1 := left_core b off (strOf bs) n w (by rw [strOf_size]; exact hs) (by rw [strOf_size]; exact hn) h.1 h.2.1
  rw [strOf_size] at h1
  exact h1

set_option maxHeartbeats 400000 in
set_option maxRecDepth 100000 in
theorem take_nil (w : World) (n : Int) : Calls Try.prog 17 #[.pointer none, .int .i64 n] w fun e w' => e = .returned (.tuple #[.int .u32 0, .bool false]) ∧ w = w' := by
  go_enter Try.func17, Try.ntmps17
  go_wp2
  go_ret2
  exact ⟨rfl, rfl⟩

end Go.Proofs.Ytefcahmhfjblpaa
