/-
  Plain mathematics for layer 2 (back): a number's highest bit, sealed bits as bytes, what is read from the end. It speaks of no program. No condition.
-/
import Derived.Test.YtllgbnolngenhaaBm
import Derived.Lib.BitFns
namespace Go.Proofs.Ytllgbnolngenhaa.Bm

theorem bitLen_fin : ∀ n : Fin 256, n.val ≠ 0 → 1 ≤ Lib.bitLen n.val ∧ Lib.bitLen n.val ≤ 8 ∧ 2 ^ (Lib.bitLen n.val - 1) ≤ n.val ∧ n.val < 2 ^ Lib.bitLen n.val := by decide +kernel
/-- The highest bit of V is bit k. -/
def Top (V k : Nat) : Prop := V / 2 ^ k = 1
theorem top_iff {V k : Nat} : Top V k ↔ 2 ^ k ≤ V ∧ V < 2 * 2 ^ k := by
  have hp := Nat.two_pow_pos k
  unfold Top
  constructor
  · intro h
    refine ⟨?_, ?_⟩
    · have := (Nat.le_div_iff_mul_le hp (x := 1) (y := V)).1 (by omega)
      omega
    · have := (Nat.div_lt_iff_lt_mul hp (x := V) (y := 2)).1 (by omega)
      omega
  · rintro ⟨h1, h2⟩
    have h3 := (Nat.le_div_iff_mul_le hp (x := 1) (y := V)).2 (by omega)
    have h4 := (Nat.div_lt_iff_lt_mul hp (x := V) (y := 2)).2 (by omega)
    omega
theorem Top.uniq {V j k : Nat} (h : Top V j) (h' : Top V k) : j = k := by
  obtain ⟨a, b⟩ := top_iff.1 h
  obtain ⟨c, d⟩ := top_iff.1 h'
  rcases Nat.lt_trichotomy j k with hl | hl | hl
  · have := Nat.pow_le_pow_right (n := 2) (by omega) (show j + 1 ≤ k from hl)
    rw [Nat.pow_succ] at this
    omega
  · exact hl
  · have := Nat.pow_le_pow_right (n := 2) (by omega) (show k + 1 ≤ j from hl)
    rw [Nat.pow_succ] at this
    omega
theorem Top.sum {V k : Nat} (h : Top V k) : V = V % 2 ^ k + 2 ^ k := by
  have := Nat.div_add_mod V (2 ^ k)
  rw [h, Nat.mul_one] at this
  omega
theorem top_sum (N n : Nat) (h : N < 2 ^ n) : Top (N + 2 ^ n) n := top_iff.2 ⟨by omega, by omega⟩
/-- The last byte tells where the highest bit is. -/
theorem top_last (front : List Nat) (b : Nat) (hf : ∀ x ∈ front, x < 256) (hb : b < 256) (h0 : b ≠ 0) : 1 ≤ Lib.bitLen b ∧ Lib.bitLen b ≤ 8 ∧ Top (valB (front ++ [b])) (8 * front.length + (Lib.bitLen b - 1)) := by
  obtain ⟨h1, h8, h2, h3⟩ := bitLen_fin ⟨b, hb⟩ h0
  have hl := valB_lt front hf
  simp only at h1 h8 h2 h3
  generalize Lib.bitLen b = L at h1 h2 h3 h8 ⊢
  refine ⟨h1, h8, ?_⟩
  obtain ⟨m, rfl⟩ : ∃ m, L = m + 1 := ⟨L - 1, by omega⟩
  rw [Nat.add_sub_cancel] at h2 ⊢
  rw [valB_snoc]
  rw [Nat.pow_succ] at h3
  refine top_iff.2 ⟨?_, ?_⟩
  · rw [Nat.pow_add, ← p256, Nat.mul_comm]
    have := Nat.mul_le_mul_right (256 ^ front.length) h2
    omega
  · rw [Nat.pow_add, ← p256, Nat.mul_comm (256 ^ front.length)]
    have := Nat.mul_le_mul_right (256 ^ front.length) (show b + 1 ≤ 2 ^ m * 2 by omega)
    rw [Nat.add_mul, Nat.one_mul] at this
    rw [← Nat.mul_assoc, Nat.mul_comm 2]
    omega
theorem low_bytes (N n q x : Nat) (h : 8 * q ≤ n) : bytesOf (N + x * 2 ^ n) q = bytesOf N q := by
  apply List.map_congr_left
  intro i hi
  rw [p256]
  exact low_digit N x n (8 * i) 8 (by have : i < q := by simpa using hi
                                      omega)
/-- Sealing whole bytes: a byte more. -/
theorem seal_whole (N n : Nat) (h : N < 2 ^ n) (h8 : n % 8 = 0) : bytesOf N ((n + 7) / 8) ++ [1] = bytesOf (N + 2 ^ n) (n / 8 + 1) := by
  have e : n = 8 * (n / 8) := by omega
  have h1 := low_bytes N n (n / 8) 1 (by omega)
  rw [Nat.one_mul] at h1
  rw [bytesOf_succ, h1, show (n + 7) / 8 = n / 8 by omega]
  congr 1
  have h2 := high_digit N 1 n 0 h
  rw [Nat.one_mul, Nat.add_zero, Nat.pow_zero, Nat.div_one] at h2
  rw [p256, ← e, h2]
/-- Sealing else: a bit more. -/
theorem seal_part (N n : Nat) (h : N < 2 ^ n) : (bytesOf N (n / 8 + 1)).set (n / 8) (N / 256 ^ (n / 8) % 256 + 2 ^ (n % 8)) = bytesOf (N + 2 ^ n) (n / 8 + 1) := by
  have h1 := bytesOf_bit N (n / 8) (n % 8) (by omega) (by rw [Nat.div_add_mod]; exact h)
  rw [Nat.div_add_mod] at h1
  exact h1
theorem sum_lt_bytes (N n : Nat) (h : N < 2 ^ n) : N + 2 ^ n < 256 ^ (n / 8 + 1) := by
  rw [p256]
  have h1 := Nat.pow_le_pow_right (n := 2) (by omega) (show n + 1 ≤ 8 * (n / 8 + 1) by omega)
  rw [Nat.pow_succ] at h1
  omega
theorem valB_seal (N n : Nat) (h : N < 2 ^ n) : valB (bytesOf (N + 2 ^ n) (n / 8 + 1)) = N + 2 ^ n := by
  rw [valB_bytesOf, Nat.mod_eq_of_lt (sum_lt_bytes N n h)]
/-- Sealed bytes are of one list of bits alone. -/
theorem seal_inj (N n M m : Nat) (h : N < 2 ^ n) (h' : M < 2 ^ m) (e : bytesOf (N + 2 ^ n) (n / 8 + 1) = bytesOf (M + 2 ^ m) (m / 8 + 1)) : n = m ∧ N = M := by
  have h1 := congrArg valB e
  rw [valB_seal N n h, valB_seal M m h'] at h1
  have h2 := top_sum N n h
  rw [h1] at h2
  have h3 := h2.uniq (top_sum M m h')
  subst h3
  exact ⟨rfl, by omega⟩
theorem bitsOf_seal (N n : Nat) (h : N < 2 ^ n) : bitsOf N n ++ [1] = bitsOf (N + 2 ^ n) (n + 1) := by
  have h1 := bitsOf_append N n 1 1 h
  have e : bitsOf 1 1 = [1] := by decide
  rw [e] at h1
  rw [h1]
  congr 1
  omega
/-- What is read below the highest bit. -/
theorem seal_digit (N n i d : Nat) (h : i + d ≤ n) : (N + 2 ^ n) / 2 ^ i % 2 ^ d = N / 2 ^ i % 2 ^ d := by
  have h1 := low_digit N 1 n i d h
  rw [Nat.one_mul] at h1
  exact h1
/-- One place further down, as long as there are noughts. -/
theorem top_step (V k : Nat) (h : V < 2 ^ (k + 1)) (h0 : V / 2 ^ k % 2 = 0) : V < 2 ^ k := by
  have h1 : V / 2 ^ k < 2 := by
    rw [Nat.div_lt_iff_lt_mul (Nat.two_pow_pos k), Nat.mul_comm, ← Nat.pow_succ]
    exact h
  have h2 : V / 2 ^ k < 1 := by omega
  have h3 := (Nat.div_lt_iff_lt_mul (Nat.two_pow_pos k) (x := V) (y := 1)).1 h2
  omega
theorem top_here (V k : Nat) (h : V < 2 ^ (k + 1)) (h1 : V / 2 ^ k % 2 ≠ 0) : Top V k := by
  have h2 : V / 2 ^ k < 2 := by
    rw [Nat.div_lt_iff_lt_mul (Nat.two_pow_pos k), Nat.mul_comm, ← Nat.pow_succ]
    exact h
  unfold Top
  generalize V / 2 ^ k = x at h1 h2 ⊢
  omega
end Go.Proofs.Ytllgbnolngenhaa.Bm
