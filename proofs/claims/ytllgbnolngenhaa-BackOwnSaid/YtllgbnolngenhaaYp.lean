/-
  BackOwn (layer 2): its function literal that puts a number's lowest bits and seals them, by its walk; when sealed bytes are the same. Condition: a uint64, up to 40 bits.
-/
import Derived.Test.YtllgbnolngenhaaYq
namespace Go.Proofs.Ytllgbnolngenhaa
open Go.RowKit

theorem low_high (v n : Nat) : v % 4294967296 % 2 ^ min n 32 + v / 4294967296 % 4294967296 % 2 ^ (n - 32) * 2 ^ min n 32 = v % 2 ^ (min n 32 + (n - 32)) ∨ 40 < n := by
  by_cases h40 : 40 < n
  · exact .inr h40
  refine .inl ?_
  have e32 : (4294967296 : Nat) = 2 ^ 32 := by decide
  by_cases h : n ≤ 32
  · rw [Nat.min_eq_left h, show n - 32 = 0 by omega, Nat.pow_zero, Nat.mod_one, Nat.zero_mul, Nat.add_zero, Nat.add_zero, e32, Nat.mod_mod_of_dvd _ (Nat.pow_dvd_pow 2 h)]
  · rw [Nat.min_eq_right (by omega), ← e32, Nat.mod_mod, Nat.pow_add, ← e32, Nat.mod_mul, e32, Nat.mod_mod_of_dvd _ (Nat.pow_dvd_pow 2 (show n - 32 ≤ 32 by omega)), Nat.mul_comm (2 ^ 32)]

set_option maxHeartbeats 1000000 in
theorem kput_any (v n : Nat) (w : World) (hv : v < 2 ^ 64) (hn : n ≤ 40) :
    Calls Try.prog 17 #[.int .u64 (v : Int), .int .i64 (n : Int)] w fun e w' => ∃ g cap, e = .returned (.slice (some ⟨g, 0, none⟩) (n / 8 + 1) cap) ∧
      w'.ownsRow w.heap.size 5 1 (.slice (some ⟨g, 0, none⟩) (n / 8 + 1) cap) (n / 8 + 1) (u8s (Bm.bytesOf (v % 2 ^ n + 2 ^ n) (n / 8 + 1))) ∧ Below w.heap.size w w' := by
  obtain ⟨n1, hn1⟩ : ∃ x, x = min n 32 := ⟨_, rfl⟩
  obtain ⟨n2, hn2⟩ : ∃ x, x = n - 32 := ⟨_, rfl⟩
  have hs : n1 + n2 = n := by omega
  have hlow := (low_high v n).resolve_right (by omega)
  rw [← hn1, ← hn2, hs, Nat.mod_eq_of_lt (show v / 4294967296 < 4294967296 by omega)] at hlow
  have h1 : min (n : Int) 32 = (n1 : Int) := by omega
  have h2 : max ((n : Int) - 32) 0 = (n2 : Int) := by omega
  have hp1 := put_int w.heap.size 0 0 0 ((v : Int) % 4294967296) (n1 : Int) (w.alloc (.cells #[.pointer none, .int .u64 0, .int .i64 0] 27)) (by omega) (by omega) (by omega) (by omega) (by omega) (WS.new w 27 notW)
  rw [show ((v : Int) % 4294967296).toNat = v % 4294967296 by omega, Int.toNat_natCast, Nat.pow_zero, Nat.mul_one, Nat.zero_add, Nat.zero_add] at hp1
  have H1 := Lib.hid h1
  have H2 := Lib.hid h2
  have Hp1 := Lib.hid hp1
  have Hlow := Lib.hid hlow
  have Hs := Lib.hid hs
  have hn1b : n1 ≤ 32 := by omega
  have hn2b : n2 ≤ 8 := by omega
  clear h1 h2 hp1 hlow hs hn1 hn2
  go_enter Try.func17, Try.ntmps17
  go_wp2_with fail
  rw [H1.out]
  refine Hp1.out.mono ?_
  rintro e w1 ⟨rfl, hs1, hg1⟩
  have hb1 : Below w.heap.size w w1 := ((Below.refl _ _).alloc (Nat.le_refl _) _).trans (below_grown hg1 (Nat.le_refl _) (by simp))
  have Hs1 := Lib.hid hs1
  have Hb1 := Lib.hid hb1
  clear hs1 hb1 hg1 Hp1
  go_wp2_with fail
  rw [H2.out]
  refine (put_int w.heap.size 0 _ n1 _ (n2 : Int) w1 (by omega) ?q1 ?q2 (by omega) (by omega) Hs1.out).mono ?_
  case q1 => omega
  case q2 => omega
  rintro e w2 ⟨rfl, hs2, hg2⟩
  rw [Int.toNat_natCast, show ((v : Int) / 4294967296).toNat = v / 4294967296 by omega, Hlow.out, Hs.out] at hs2
  have hb2 : Below w.heap.size w w2 := Hb1.out.trans (below_grown hg2 (Nat.le_refl _) Hb1.out.size)
  have Hse := Lib.hid (seal_any w.heap.size 0 (v % 2 ^ n) n w2 (by omega) (Nat.mod_lt _ (Nat.two_pow_pos n)) hs2)
  have Hb2 := Lib.hid hb2
  clear hs2 hb2 hg2 Hb1 Hs1 Hlow
  go_wp2_with fail
  refine Hse.out.mono ?_
  rintro e w3 ⟨g, cap, rfl, ho, hb3⟩
  have Ho := Lib.hid (own_low ho Hb2.out.size)
  have Hb3 := Lib.hid (Hb2.out.trans (hb3.mono Hb2.out.size))
  clear ho hb3 Hse
  go_wp2
  go_ret
  exact ⟨_, _, rfl, Ho.out, Hb3.out⟩

/-- Whether two lists of bits are one. -/
def sameB (v u n m : Nat) : Bool := decide (n = m) && decide (v % 2 ^ n = u % 2 ^ m)
theorem xor_mask (v u n : Nat) (hv : v < 2 ^ 64) (hu : u < 2 ^ 64) (hn : n < 64) :
    bits .and .u64 (bits .xor .u64 (v : Int) (u : Int)) (IntKind.u64.wrap (IntKind.u64.wrap (2 ^ n) - 1)) = (((v ^^^ u) % 2 ^ n : Nat) : Int) := by
  have hx : v ^^^ u < 2 ^ 64 := Nat.xor_lt_two_pow hv hu
  rw [u64_xor_nat _ _ hv hu, mask_eq _ _ hx hn]
theorem xor_zero (v u n : Nat) : (v ^^^ u) % 2 ^ n = 0 ↔ v % 2 ^ n = u % 2 ^ n := by
  rw [Nat.xor_mod_two_pow]
  constructor
  · intro h
    have h1 : (v % 2 ^ n ^^^ u % 2 ^ n) ^^^ u % 2 ^ n = 0 ^^^ u % 2 ^ n := by rw [h]
    rw [Nat.xor_assoc, Nat.xor_self, Nat.xor_zero, Nat.zero_xor] at h1
    exact h1
  · intro h
    rw [h, Nat.xor_self]
theorem same_eq (v u n : Nat) (hv : v < 2 ^ 64) (hu : u < 2 ^ 64) (hn : n < 64) : (bits .and .u64 (bits .xor .u64 (v : Int) (u : Int)) (IntKind.u64.wrap (IntKind.u64.wrap (2 ^ n) - 1)) == 0) = sameB v u n n := by
  have h := xor_zero v u n
  unfold sameB
  rw [xor_mask v u n hv hu hn, Bool.eq_iff_iff, Bool.and_eq_true, decide_eq_true_eq, decide_eq_true_eq, beq_iff_eq]
  constructor
  · intro h1
    exact ⟨rfl, h.1 (by omega)⟩
  · rintro ⟨_, h1⟩
    rw [h.2 h1]
    rfl
theorem same_ne (v u n m : Nat) (h : n ≠ m) : sameB v u n m = false := by simp [sameB, h]
theorem strOf_inj (a b : List Nat) (ha : ∀ x ∈ a, x < 256) (hb : ∀ x ∈ b, x < 256) (h : strOf a = strOf b) : a = b := by
  unfold strOf at h
  injection h with h
  have h1 := congrArg Array.toList h
  simp only at h1
  have h2 := congrArg (List.map UInt8.toNat) h1
  rw [List.map_map, List.map_map] at h2
  have e : ∀ l : List Nat, (∀ x ∈ l, x < 256) → l.map (UInt8.toNat ∘ UInt8.ofNat) = l := fun l hl => by
    have : l.map (UInt8.toNat ∘ UInt8.ofNat) = l.map id := List.map_congr_left (fun x hx => UInt8.toNat_ofNat_of_lt' (hl x hx))
    rw [this, List.map_id]
  rw [e a ha, e b hb] at h2
  exact h2
/-- Sealed bytes as strings are one just where the lists of bits are. -/
theorem str_same (v u n m : Nat) : strOf (Bm.bytesOf (v % 2 ^ n + 2 ^ n) (n / 8 + 1)) = strOf (Bm.bytesOf (u % 2 ^ m + 2 ^ m) (m / 8 + 1)) ↔ sameB v u n m = true := by
  unfold sameB
  rw [Bool.and_eq_true, decide_eq_true_eq, decide_eq_true_eq]
  constructor
  · intro h
    exact Bm.seal_inj _ _ _ _ (Nat.mod_lt _ (Nat.two_pow_pos n)) (Nat.mod_lt _ (Nat.two_pow_pos m)) (strOf_inj _ _ (Bm.bytesOf_lt _ _) (Bm.bytesOf_lt _ _) h)
  · rintro ⟨rfl, h⟩
    rw [h]
end Go.Proofs.Ytllgbnolngenhaa
