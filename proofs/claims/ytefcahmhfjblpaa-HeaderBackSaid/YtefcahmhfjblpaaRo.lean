/-
  The reference of layer 1 (bits), by its walk: Of, Number (XWr's proofs, without layer 1's Writer). Conditions: as each theorem's premises say.
-/
import Derived.Test.YtefcahmhfjblpaaGw
namespace Go.Proofs.Ytefcahmhfjblpaa
open Go.RowKit

theorem info_io : (Try.prog.info? 3).map (fun i => (i.zero, i.size, i.bytes)) = some (some (.int .i64 0), 1, 8) := by kernel_rfl
set_option maxHeartbeats 400000 in
set_option maxRecDepth 100000 in
theorem rof_bits (v n : Nat) (w : World) (hv : v < 4294967296) (hn : n ≤ 32) :
    Calls Try.prog 15 #[.int .u32 (v : Int), .int .i64 (n : Int)] w fun e w' =>
      ∃ u, e = .returned u ∧ w'.ownsRow w.heap.size 3 1 u n (i64s (Bm.bitsOf v n)) ∧ Below w.heap.size w w' ∧ (n = 0 → u = .slice none 0 0) := by
  obtain ⟨i0, hi, hz0, hz1, hz2⟩ := info_parts info_io
  go_enter Try.func15, Try.ntmps15
  go_wp2
  go_loopw [5, 6] (fun u i wr => ∃ k : Nat, k ≤ n ∧ i = .int .i64 k ∧ wr.ownsRow w.heap.size 3 1 u k (i64s (Bm.bitsOf v k)) ∧ Below w.heap.size w wr ∧ (k = 0 → u = .slice none 0 0)) (fun _ i _ => n - (intOf i).toNat)
  case atStart => exact ⟨0, Nat.zero_le _, rfl, World.ownsRow_nil _ _ _ _, Below.refl _ _, fun _ => rfl⟩
  case round =>
    obtain ⟨k, hk, rfl, hown, hbel, hnil⟩ := hrel
    have hb0 : 0 ≤ (v : Int) / 2 ^ k := Int.ediv_nonneg (by omega) (by exact_mod_cast Nat.zero_le (2 ^ k))
    have hb1 : (v : Int) / 2 ^ k ≤ 4294967295 := by
      have h1 : (v : Int) / 2 ^ k = ((v / 2 ^ k : Nat) : Int) := by simp
      have h2 := Nat.div_le_self v (2 ^ k)
      omega
    by_cases hlt : k < n
    · go_wp2_with (at_builtin; refine wpList_append_own _ rfl _ _ 22 rfl w.heap.size 3 i0 (.int .i64 0) 1 8 Try.underlying22 hi hz0 hz1 hz2 rfl (by decide) _ _ _ rfl (hown.alloc _) ⟨wr.heap.size, 0, none⟩ 1 1 [.int .i64 ((v : Int) / 2 ^ k % 2)] rfl rfl ?c1 ?c2 ?c3 ?c4 ?c5 ?_)
      case c1 =>
        intro j u hj
        match j, hj with
        | 0, hj => simp at hj; subst hj; simp [Addr.add]
      case c2 => intro u hu; simp at hu; subst hu; rfl
      case c3 => unfold maxLen; omega
      case c4 => omega
      case c5 => have := hbel.size; simp; omega
      intro u' w1 hown' hgrow _
      have e : i64s (Bm.bitsOf v k) ++ [Value.int .i64 ((v : Int) / 2 ^ k % 2)] = i64s (Bm.bitsOf v (k + 1)) := by
        rw [Bm.bitsOf_succ]; simp [i64s]
      rw [e] at hown'
      have hb' : Below w.heap.size w w1 := (hbel.alloc hbel.size _).grown hgrow (by have := hbel.size; simp; omega) (fun q hq => (hown.lt q hq).1)
      have Hown := Lib.hid hown'
      have Hb := Lib.hid hb'
      clear hown' hb' hgrow hown hbel e
      go_wp2
      go_roundw
      case rel => exact ⟨k + 1, by omega, by go_num, Hown.out, Hb.out, fun h => by omega⟩
      case measure => simp [intOf]; omega
    · go_wp2
      obtain rfl : k = n := by omega
      go_ret
      exact ⟨_, rfl, hown, hbel, hnil⟩

set_option maxHeartbeats 400000 in
set_option maxRecDepth 100000 in
theorem rnum_none (A : Option Addr) (c : Nat) (w : World) :
    Calls Try.prog 31 #[.slice A 0 c] w fun e w' => e = .returned (.int .u32 0) ∧ w = w' := by
  go_enter Try.func31, Try.ntmps31
  go_wp2
  go_loop [3, 4] (fun v i => v = .int .u32 0 ∧ i = .int .i64 (-1)) (fun _ _ => 0)
  case atStart => exact ⟨rfl, rfl⟩
  case round =>
    obtain ⟨rfl, rfl⟩ := hrel
    go_wp2
    go_ret
    exact ⟨rfl, rfl⟩

set_option maxHeartbeats 400000 in
set_option maxRecDepth 100000 in
theorem rnum_bits (g off n c N : Nat) (w : World) (hn : n ≤ 32) (hn0 : 0 < n) (hc : ∀ j, j < n → w.cell? ⟨g, off + j, none⟩ = some (.int .i64 ((N / 2 ^ j % 2 : Nat) : Int))) :
    Calls Try.prog 31 #[.slice (some ⟨g, off, none⟩) n c] w fun e w' => e = .returned (.int .u32 ((N % 2 ^ n : Nat) : Int)) ∧ w = w' := by
  have hx : N % 2 ^ n < 4294967296 := Nat.lt_of_lt_of_le (Nat.mod_lt _ (Nat.two_pow_pos n)) (Nat.pow_le_pow_right (n := 2) (by omega) hn)
  go_enter Try.func31, Try.ntmps31
  go_wp2
  go_loop [3, 4] (fun v i => ∃ k y : Nat, k ≤ n ∧ v = .int .u32 (y : Int) ∧ i = .int .i64 ((k : Int) - 1) ∧ Hid (y = N % 2 ^ n / 2 ^ k)) (fun _ i => (intOf i + 1).toNat)
  case atStart => exact ⟨n, 0, Nat.le_refl _, rfl, rfl, by unfold Hid; rw [Nat.div_eq_of_lt (Nat.mod_lt _ (Nat.two_pow_pos n))]⟩
  case round =>
    obtain ⟨k, y, hk, rfl, rfl, hy⟩ := hrel
    by_cases h0 : k = 0
    · subst h0
      have hf : Ending.returned (Value.int .u32 (y : Int)) = Ending.returned (Value.int .u32 ((N % 2 ^ n : Nat) : Int)) := by
        have h1 := hy.out
        rw [Nat.pow_zero, Nat.div_one] at h1
        rw [h1]
      have Hf := Lib.hid hf
      clear hc hf hy
      go_wp2
      go_ret
      exact ⟨Hf.out, rfl⟩
    · obtain ⟨j, rfl⟩ : ∃ j, k = j + 1 := ⟨k - 1, by omega⟩
      rw [show (((j + 1 : Nat) : Int) - 1) = (j : Int) by omega]
      have hcell := hc j (by omega)
      have ht : N / 2 ^ j % 2 ≤ 1 := by omega
      have hs : y * 2 + N / 2 ^ j % 2 = N % 2 ^ n / 2 ^ j := by
        have h1 := hy.out
        rw [← Bm.mod_digit N n j (by omega), h1, Nat.pow_succ, ← Nat.div_div_eq_div_mul]
        omega
      have hle : y * 2 + N / 2 ^ j % 2 ≤ 4294967295 := by
        have := Nat.div_le_self (N % 2 ^ n) (2 ^ j)
        omega
      have Hs := Lib.hid hs
      clear hs hc hy
      generalize N / 2 ^ j % 2 = t at hcell ht Hs hle
      go_wp2
      go_round
      case rel => exact ⟨j, y * 2 + t, by omega, by go_num, by go_num, Hs⟩
      case measure => simp [intOf]

end Go.Proofs.Ytefcahmhfjblpaa
