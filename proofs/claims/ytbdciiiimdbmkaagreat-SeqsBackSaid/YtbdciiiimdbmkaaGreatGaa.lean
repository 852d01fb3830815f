/-
  Plain mathematics for layer 1 (bits): a number's bits and bytes as lists of numbers; what is behind one another; a chain of words. It speaks of no program. No condition.
  Plain mathematics for layers 6, 7 (spread, fse): a table of states of a fair share: widths, stretches of states, where symbols go, ranks; of each symbol each state has just one ahead of it. It speaks of no program. No condition.
  Plain mathematics for layer 13 (codes): numbers as codes and bits behind them; offsets as numbers; it speaks of no program. No condition.
  Plain mathematics for layer 3 (cursor): a number in groups. It speaks of no program. No condition.
  Plain mathematics for layer 7 (fse): symbols by a table: what is coded is decoded again, what is decoded has just this code, how many bits there are. It speaks of no program. No condition.
  Plain mathematics for layer 2 (back): a number's highest bit, sealed bits as bytes, what is read from the end. It speaks of no program. No condition.
  Plain mathematics for layer 8 (header): a share's bits, taken again; what is taken is fair. It speaks of no program. No condition.
  A step: plain words for layers 12, 14, 16. No condition.
  math/bits.Len32 at this translation: it returns the number of bits of its argument; the world is as it was. Laid by the shelf's program (plain words). Condition: the argument is a uint32.
  Plain mathematics for layer 3 (cursor): which bytes are a number in groups, read byte by byte. It speaks of no program. No condition.
  Layer 6 (spread): each symbol's states in order, and the state ahead by a shift. Plain mathematics; it speaks of no program. No condition.
-/
import Derived.Lib.BitFns
import Derived.Shelf.Small.Bits
import Derived.Test.YtbdciiiimdbmkaaGreatProg
namespace Go.Proofs.YtbdciiiimdbmkaaGreat.Bm

/-- The lowest n bits of N, the lowest one first. -/
def bitsOf (N n : Nat) : List Nat := (List.range n).map fun i => N / 2 ^ i % 2
/-- The lowest L bytes of N, the lowest one first. -/
def bytesOf (N L : Nat) : List Nat := (List.range L).map fun i => N / 256 ^ i % 256
/-- The number whose bytes these are, the lowest one first. -/
def valB : List Nat → Nat
  | [] => 0
  | b :: bs => b + 256 * valB bs
/-- The number of a chain of words, the highest one first. -/
def chainVal : List Nat → Nat
  | [] => 0
  | u :: us => u * 2 ^ (64 * us.length) + chainVal us

theorem p256 (k : Nat) : 256 ^ k = 2 ^ (8 * k) := by
  rw [Nat.pow_mul]
theorem bitsOf_length (N n : Nat) : (bitsOf N n).length = n := by simp [bitsOf]
theorem bytesOf_length (N L : Nat) : (bytesOf N L).length = L := by simp [bytesOf]
theorem bitsOf_get (N n i : Nat) (h : i < (bitsOf N n).length) : (bitsOf N n)[i] = N / 2 ^ i % 2 := by simp [bitsOf]
theorem bytesOf_get (N L i : Nat) (h : i < (bytesOf N L).length) : (bytesOf N L)[i] = N / 256 ^ i % 256 := by simp [bytesOf]
theorem bitsOf_get? (N n i : Nat) (h : i < n) : (bitsOf N n)[i]? = some (N / 2 ^ i % 2) := by simp [bitsOf, h]
theorem bytesOf_get? (N L i : Nat) (h : i < L) : (bytesOf N L)[i]? = some (N / 256 ^ i % 256) := by simp [bytesOf, h]
theorem bytesOf_lt (N L : Nat) : ∀ b ∈ bytesOf N L, b < 256 := by
  intro b hb
  simp only [bytesOf, List.mem_map] at hb
  obtain ⟨i, _, rfl⟩ := hb
  exact Nat.mod_lt _ (by omega)
theorem bitsOf_succ (N n : Nat) : bitsOf N (n + 1) = bitsOf N n ++ [N / 2 ^ n % 2] := by simp [bitsOf, List.range_succ]
theorem bytesOf_succ (N n : Nat) : bytesOf N (n + 1) = bytesOf N n ++ [N / 256 ^ n % 256] := by simp [bytesOf, List.range_succ]

/-- A sum whose upper part is a multiple: the lower digits. -/
theorem low_digit (M x n i d : Nat) (hi : i + d ≤ n) : (M + x * 2 ^ n) / 2 ^ i % 2 ^ d = M / 2 ^ i % 2 ^ d := by
  obtain ⟨t, rfl⟩ : ∃ t, n = i + d + t := ⟨n - (i + d), by omega⟩
  have e : M + x * 2 ^ (i + d + t) = M + 2 ^ i * (2 ^ d * (x * 2 ^ t)) := by
    rw [Nat.pow_add, Nat.pow_add]
    ac_rfl
  rw [e, Nat.add_mul_div_left _ _ (Nat.two_pow_pos i), Nat.add_mul_mod_self_left]
theorem high_digit (M x n i : Nat) (hM : M < 2 ^ n) : (M + x * 2 ^ n) / 2 ^ (n + i) = x / 2 ^ i := by
  rw [Nat.pow_add, ← Nat.div_div_eq_div_mul, Nat.add_mul_div_right _ _ (Nat.two_pow_pos n), Nat.div_eq_of_lt hM, Nat.zero_add]
theorem mod_digit (v m i : Nat) (hi : i < m) : v % 2 ^ m / 2 ^ i % 2 = v / 2 ^ i % 2 := by
  have h := low_digit (v % 2 ^ m) (v / 2 ^ m) m i 1 (by omega)
  rw [Nat.mod_add_div'] at h
  rw [Nat.pow_one] at h
  exact h.symm
theorem mod_digit8 (v m i : Nat) (hi : i + 8 ≤ m) : v % 2 ^ m / 2 ^ i % 256 = v / 2 ^ i % 256 := by
  have h := low_digit (v % 2 ^ m) (v / 2 ^ m) m i 8 hi
  rw [Nat.mod_add_div'] at h
  exact h.symm
theorem bitsOf_mod (v m : Nat) : bitsOf (v % 2 ^ m) m = bitsOf v m := by
  apply List.map_congr_left
  intro i hi
  exact mod_digit v m i (by simpa using hi)
theorem bitsOf_append (N n v m : Nat) (hN : N < 2 ^ n) : bitsOf N n ++ bitsOf v m = bitsOf (N + v % 2 ^ m * 2 ^ n) (n + m) := by
  apply List.ext_getElem
  · simp [bitsOf_length]
  · intro i h1 h2
    simp only [List.length_append, bitsOf_length] at h1
    rw [bitsOf_get]
    by_cases hi : i < n
    · rw [List.getElem_append_left (by rw [bitsOf_length]; exact hi), bitsOf_get]
      have h := low_digit N (v % 2 ^ m) n i 1 (by omega)
      rw [Nat.pow_one] at h
      exact h.symm
    · rw [List.getElem_append_right (by rw [bitsOf_length]; omega), bitsOf_get, bitsOf_length]
      obtain ⟨j, rfl⟩ : ∃ j, i = n + j := ⟨i - n, by omega⟩
      rw [high_digit _ _ _ _ hN, mod_digit _ _ _ (by omega), Nat.add_sub_cancel_left]
theorem sum_lt (N n v m : Nat) (hN : N < 2 ^ n) : N + v % 2 ^ m * 2 ^ n < 2 ^ (n + m) := by
  have h : v % 2 ^ m + 1 ≤ 2 ^ m := Nat.mod_lt _ (Nat.two_pow_pos m)
  have h2 := Nat.mul_le_mul_right (2 ^ n) h
  rw [Nat.add_mul, Nat.one_mul] at h2
  rw [Nat.pow_add, Nat.mul_comm (2 ^ n)]
  omega
theorem bitsOf_take (N n m : Nat) (h : m ≤ n) : (bitsOf N n).take m = bitsOf N m := by
  unfold bitsOf
  rw [← List.map_take, List.take_range, Nat.min_eq_left h]
theorem bitsOf_drop (N n m : Nat) : (bitsOf N n).drop m = bitsOf (N / 2 ^ m) (n - m) := by
  apply List.ext_getElem
  · simp [bitsOf_length]
  · intro i h1 h2
    rw [List.getElem_drop, bitsOf_get, bitsOf_get, Nat.div_div_eq_div_mul, ← Nat.pow_add]
theorem bytesOf_take (N n m : Nat) (h : m ≤ n) : (bytesOf N n).take m = bytesOf N m := by
  unfold bytesOf
  rw [← List.map_take, List.take_range, Nat.min_eq_left h]
theorem bytesOf_drop (N n m : Nat) : (bytesOf N n).drop m = bytesOf (N / 256 ^ m) (n - m) := by
  apply List.ext_getElem
  · simp [bytesOf_length]
  · intro i h1 h2
    rw [List.getElem_drop, bytesOf_get, bytesOf_get, Nat.div_div_eq_div_mul, ← Nat.pow_add]
theorem bytesOf_split (N m t : Nat) : bytesOf N (m + t) = bytesOf N m ++ bytesOf (N / 256 ^ m) t := by
  have h := List.take_append_drop m (bytesOf N (m + t))
  rw [bytesOf_take _ _ _ (by omega), bytesOf_drop, Nat.add_sub_cancel_left] at h
  exact h.symm
theorem bytesOf_mod (v m L : Nat) (h : 8 * L ≤ m) : bytesOf (v % 2 ^ m) L = bytesOf v L := by
  apply List.map_congr_left
  intro i hi
  rw [p256]
  exact mod_digit8 v m (8 * i) (by have : i < L := by simpa using hi
                                   omega)
theorem bytesOf_zero (L : Nat) : bytesOf 0 L = List.replicate L 0 := by
  apply List.ext_getElem
  · simp [bytesOf_length]
  · intro i h1 h2
    rw [bytesOf_get]
    simp

/-- The reference's Bytes: a byte of noughts is put behind. -/
theorem bytesOf_push (M q : Nat) (hM : M < 2 ^ (8 * q)) : bytesOf M q ++ [0] = bytesOf M (q + 1) := by
  rw [bytesOf_succ, p256, Nat.div_eq_of_lt hM]
/-- The reference's Bytes: one bit more is set. -/
theorem bytesOf_bit (M q r : Nat) (hr : r < 8) (hM : M < 2 ^ (8 * q + r)) : (bytesOf M (q + 1)).set q (M / 256 ^ q % 256 + 2 ^ r) = bytesOf (M + 2 ^ (8 * q + r)) (q + 1) := by
  have hlow : ∀ i, i < q → (M + 2 ^ (8 * q + r)) / 256 ^ i % 256 = M / 256 ^ i % 256 := by
    intro i hi
    have h := low_digit M 1 (8 * q + r) (8 * i) 8 (by omega)
    rw [Nat.one_mul] at h
    rw [p256]
    exact h
  have htop : (M + 2 ^ (8 * q + r)) / 256 ^ q % 256 = M / 256 ^ q % 256 + 2 ^ r := by
    rw [p256, Nat.pow_add, Nat.add_mul_div_left _ _ (Nat.two_pow_pos _)]
    have h1 : M / 2 ^ (8 * q) < 2 ^ r := by
      rw [Nat.div_lt_iff_lt_mul (Nat.two_pow_pos _), ← Nat.pow_add, Nat.add_comm r]
      exact hM
    have h2 : 2 ^ r ≤ 2 ^ 7 := Nat.pow_le_pow_right (by omega) (by omega)
    have h3 : (2 : Nat) ^ 7 = 128 := by decide
    generalize M / 2 ^ (8 * q) = x at h1 ⊢
    generalize 2 ^ r = y at h1 h2 ⊢
    omega
  apply List.ext_getElem
  · simp [bytesOf_length]
  · intro i h1 h2
    simp only [List.length_set, bytesOf_length] at h1
    rw [List.getElem_set, bytesOf_get, bytesOf_get]
    by_cases hi : q = i
    · subst hi
      rw [if_pos rfl, htop]
    · rw [if_neg hi, hlow i (by omega)]
theorem mod_succ (N i : Nat) : N % 2 ^ (i + 1) = N % 2 ^ i + N / 2 ^ i % 2 * 2 ^ i := by
  rw [Nat.pow_succ, Nat.mod_mul, Nat.mul_comm (2 ^ i)]

theorem valB_snoc (xs : List Nat) (b : Nat) : valB (xs ++ [b]) = valB xs + b * 256 ^ xs.length := by
  induction xs with
  | nil => simp [valB]
  | cons x xs ih =>
    simp only [List.cons_append, valB, ih, List.length_cons, Nat.pow_succ]
    rw [Nat.mul_add, Nat.add_assoc, Nat.mul_comm (256 ^ xs.length) 256, Nat.mul_left_comm]
theorem valB_lt (xs : List Nat) (h : ∀ b ∈ xs, b < 256) : valB xs < 256 ^ xs.length := by
  induction xs with
  | nil => simp [valB]
  | cons x xs ih =>
    have h1 := ih (fun b hb => h b (List.mem_cons_of_mem _ hb))
    have h2 := h x List.mem_cons_self
    simp only [valB, List.length_cons, Nat.pow_succ]
    omega
theorem valB_drop (xs : List Nat) (k : Nat) (h : ∀ b ∈ xs, b < 256) : valB (xs.drop k) = valB xs / 256 ^ k := by
  induction k generalizing xs with
  | zero => simp
  | succ k ih =>
    cases xs with
    | nil => simp [valB]
    | cons x xs =>
      have h2 := h x List.mem_cons_self
      rw [List.drop_succ_cons, ih xs (fun b hb => h b (List.mem_cons_of_mem _ hb)), valB, Nat.pow_succ, Nat.mul_comm (256 ^ k), ← Nat.div_div_eq_div_mul]
      congr 1
      omega
theorem valB_take (xs : List Nat) (k : Nat) (h : ∀ b ∈ xs, b < 256) : valB (xs.take k) = valB xs % 256 ^ k := by
  induction k generalizing xs with
  | zero => simp [valB, Nat.mod_one]
  | succ k ih =>
    cases xs with
    | nil => simp [valB]
    | cons x xs =>
      have h2 := h x List.mem_cons_self
      rw [List.take_succ_cons, valB, valB, ih xs (fun b hb => h b (List.mem_cons_of_mem _ hb)), Nat.pow_succ, Nat.mul_comm (256 ^ k), Nat.mod_mul]
      have e1 : (x + 256 * valB xs) % 256 = x := by omega
      have e2 : (x + 256 * valB xs) / 256 = valB xs := by omega
      rw [e1, e2]
theorem bytesOf_valB (xs : List Nat) (h : ∀ b ∈ xs, b < 256) : bytesOf (valB xs) xs.length = xs := by
  apply List.ext_getElem
  · simp [bytesOf_length]
  · intro i h1 h2
    have h3 := h xs[i] (List.getElem_mem h2)
    rw [bytesOf_get, ← valB_drop xs i h, List.drop_eq_getElem_cons h2, valB]
    omega
theorem valB_bytesOf (N L : Nat) : valB (bytesOf N L) = N % 256 ^ L := by
  induction L with
  | zero => simp [bytesOf, valB, Nat.mod_one]
  | succ L ih => rw [bytesOf_succ, valB_snoc, ih, bytesOf_length, Nat.pow_succ, Nat.mod_mul, Nat.mul_comm (256 ^ L)]

/-- The reference's Bits: a byte more. -/
theorem bits_byte (xs : List Nat) (b : Nat) (h : ∀ x ∈ xs, x < 256) (hb : b < 256) : bitsOf (valB xs) (8 * xs.length) ++ bitsOf b 8 = bitsOf (valB (xs ++ [b])) (8 * xs.length + 8) := by
  have h1 := valB_lt xs h
  rw [p256] at h1
  rw [bitsOf_append _ _ _ _ h1, valB_snoc, p256, Nat.mod_eq_of_lt (show b < 2 ^ 8 from hb)]

/-- What Take reads: up to five bytes from the one in which the first bit is. -/
theorem take_eq (xs : List Nat) (h : ∀ b ∈ xs, b < 256) (pos n m : Nat) (hn : n ≤ 32) (hl : pos + n ≤ 8 * xs.length) (hm : m = min 5 (xs.length - pos / 8)) :
    valB ((xs.drop (pos / 8)).take m) / 2 ^ (pos % 8) % 2 ^ n = valB xs / 2 ^ pos % 2 ^ n := by
  have hd : ∀ b ∈ xs.drop (pos / 8), b < 256 := fun b hb => h b (List.mem_of_mem_drop hb)
  rw [valB_take _ _ hd]
  have e : valB xs / 2 ^ pos = valB (xs.drop (pos / 8)) / 2 ^ (pos % 8) := by
    rw [valB_drop _ _ h, p256, Nat.div_div_eq_div_mul, ← Nat.pow_add, Nat.div_add_mod]
  rw [e]
  by_cases h5 : xs.length - pos / 8 ≤ 5
  · have hlt := valB_lt _ hd
    rw [List.length_drop] at hlt
    rw [show m = xs.length - pos / 8 by omega, Nat.mod_eq_of_lt hlt]
  · rw [show m = 5 by omega]
    have hh := low_digit (valB (xs.drop (pos / 8)) % 256 ^ 5) (valB (xs.drop (pos / 8)) / 256 ^ 5) 40 (pos % 8) n (by omega)
    rw [show (256 : Nat) ^ 5 = 2 ^ 40 from p256 5] at hh ⊢
    rw [Nat.mod_add_div'] at hh
    exact hh.symm

/-- A word of a chain. -/
theorem chain_lt (us : List Nat) (h : ∀ u ∈ us, u < 2 ^ 64) : chainVal us < 2 ^ (64 * us.length) := by
  induction us with
  | nil => simp [chainVal]
  | cons u us ih =>
    have h1 := ih (fun b hb => h b (List.mem_cons_of_mem _ hb))
    have h2 : u + 1 ≤ 2 ^ 64 := h u List.mem_cons_self
    have h3 := Nat.mul_le_mul_right (2 ^ (64 * us.length)) h2
    rw [Nat.add_mul, Nat.one_mul] at h3
    simp only [chainVal, List.length_cons]
    rw [Nat.mul_add, Nat.mul_one, Nat.pow_add, Nat.mul_comm (2 ^ (64 * us.length))]
    omega

/-- What a Writer of the bits of N, n of them, keeps: the rest, and the chain of whole words, the last one first. -/
def WOk (N n rest : Nat) (us : List Nat) : Prop := us.length = n / 64 ∧ rest < 2 ^ (n % 64) ∧ (∀ u ∈ us, u < 2 ^ 64) ∧ N = rest * 2 ^ (64 * us.length) + chainVal us

theorem WOk.zero : WOk 0 0 0 [] := ⟨rfl, by decide, by simp, by simp [chainVal]⟩
theorem WOk.lt {N n rest : Nat} {us : List Nat} (h : WOk N n rest us) : N < 2 ^ n := by
  obtain ⟨h1, h2, h3, h4⟩ := h
  have hc := chain_lt us h3
  have hr := Nat.mul_le_mul_right (2 ^ (64 * us.length)) (show rest + 1 ≤ 2 ^ (n % 64) from h2)
  rw [Nat.add_mul, Nat.one_mul, ← Nat.pow_add, show n % 64 + 64 * us.length = n by omega] at hr
  omega
theorem WOk.rest_lt {N n rest : Nat} {us : List Nat} (h : WOk N n rest us) : rest < 2 ^ 64 :=
  Nat.lt_of_lt_of_le h.2.1 (Nat.pow_le_pow_right (by omega) (by omega))
theorem or_sum (a r x : Nat) (hr : r < 2 ^ a) : r ||| x * 2 ^ a = r + x * 2 ^ a := by
  rw [Nat.or_comm, Nat.mul_comm x, ← Nat.two_pow_add_eq_or_of_lt hr, Nat.add_comm]
theorem shl_mod (x a : Nat) (ha : a ≤ 64) : x * 2 ^ a % 2 ^ 64 = x % 2 ^ (64 - a) * 2 ^ a := by
  have e : (2 : Nat) ^ 64 = 2 ^ (64 - a) * 2 ^ a := by rw [← Nat.pow_add]; congr 1; omega
  rw [e, Nat.mul_mod_mul_right]
theorem WOk.put_low {N n rest : Nat} {us : List Nat} (h : WOk N n rest us) (v m : Nat) (hm : n % 64 + m < 64) :
    WOk (N + v % 2 ^ m * 2 ^ n) (n + m) (rest ||| v % 2 ^ m * 2 ^ (n % 64) % 2 ^ 64) us := by
  obtain ⟨h1, h2, h3, h4⟩ := h
  have hlow : v % 2 ^ m < 2 ^ (64 - n % 64) := Nat.lt_of_lt_of_le (Nat.mod_lt _ (Nat.two_pow_pos m)) (Nat.pow_le_pow_right (by omega) (by omega))
  have e1 : v % 2 ^ m * 2 ^ (n % 64) % 2 ^ 64 = v % 2 ^ m * 2 ^ (n % 64) := by rw [shl_mod _ _ (by omega), Nat.mod_eq_of_lt hlow]
  rw [e1, or_sum _ _ _ h2]
  have en : 2 ^ n = 2 ^ (n % 64) * 2 ^ (64 * us.length) := by rw [← Nat.pow_add]; congr 1; omega
  refine ⟨by omega, ?_, h3, ?_⟩
  · rw [show (n + m) % 64 = n % 64 + m by omega]
    exact sum_lt _ _ _ _ h2
  · rw [h4, en, Nat.add_mul]
    ac_rfl
theorem WOk.put_high {N n rest : Nat} {us : List Nat} (h : WOk N n rest us) (v m : Nat) (hm : m ≤ 32) (hge : 64 ≤ n % 64 + m) :
    WOk (N + v % 2 ^ m * 2 ^ n) (n + m) (v % 2 ^ m / 2 ^ (64 - n % 64)) ((rest ||| v % 2 ^ m * 2 ^ (n % 64) % 2 ^ 64) :: us) := by
  obtain ⟨h1, h2, h3, h4⟩ := h
  have en : 2 ^ n = 2 ^ (n % 64) * 2 ^ (64 * us.length) := by rw [← Nat.pow_add]; congr 1; omega
  have hx : v % 2 ^ m < 2 ^ m := Nat.mod_lt _ (Nat.two_pow_pos m)
  generalize v % 2 ^ m = x at hx ⊢
  rw [shl_mod _ _ (by omega), or_sum _ _ _ h2]
  refine ⟨by simp only [List.length_cons]; omega, ?_, ?_, ?_⟩
  · rw [Nat.div_lt_iff_lt_mul (Nat.two_pow_pos _), ← Nat.pow_add, show (n + m) % 64 + (64 - n % 64) = m by omega]
    exact hx
  · intro u hu
    rcases List.mem_cons.1 hu with rfl | hu
    · have h5 : x % 2 ^ (64 - n % 64) + 1 ≤ 2 ^ (64 - n % 64) := Nat.mod_lt _ (Nat.two_pow_pos _)
      have h6 := Nat.mul_le_mul_right (2 ^ (n % 64)) h5
      rw [Nat.add_mul, Nat.one_mul, ← Nat.pow_add, show 64 - n % 64 + n % 64 = 64 by omega] at h6
      omega
    · exact h3 u hu
  · have e64 : 2 ^ (64 * (us.length + 1)) = 2 ^ (64 - n % 64) * (2 ^ (n % 64) * 2 ^ (64 * us.length)) := by
      rw [← Nat.pow_add, ← Nat.pow_add]; congr 1; omega
    have hdm := Nat.div_add_mod x (2 ^ (64 - n % 64))
    simp only [chainVal, List.length_cons]
    rw [h4, en, e64]
    generalize x % 2 ^ (64 - n % 64) = xm at hdm ⊢
    generalize x / 2 ^ (64 - n % 64) = xd at hdm ⊢
    rw [← hdm]
    simp only [Nat.add_mul]
    generalize 2 ^ (64 - n % 64) = A
    generalize 2 ^ (n % 64) = B
    generalize 2 ^ (64 * us.length) = C
    rw [show A * xd * (B * C) = xd * (A * (B * C)) by ac_rfl, show xm * (B * C) = xm * B * C by ac_rfl]
    omega

/-- What fill does to a row of bytes. -/
def fillB (cs : List Nat) (off m v : Nat) : List Nat := cs.take off ++ bytesOf v m ++ cs.drop (off + m)
theorem fillB_length (cs : List Nat) (off m v : Nat) (h : off + m ≤ cs.length) : (fillB cs off m v).length = cs.length := by
  simp [fillB, bytesOf_length]; omega
theorem fillB_zero (cs : List Nat) (off v : Nat) : fillB cs off 0 v = cs := by
  simp [fillB, bytesOf]
theorem fillB_step (cs : List Nat) (off i v : Nat) (h : off + i < cs.length) : (fillB cs off i v).set (off + i) (v / 256 ^ i % 256) = fillB cs off (i + 1) v := by
  unfold fillB
  have h1 : (cs.take off ++ bytesOf v i).length = off + i := by simp [bytesOf_length]; omega
  rw [List.set_append_right _ _ (by omega), h1, Nat.sub_self, List.drop_eq_getElem_cons (by omega), List.set_cons_zero, bytesOf_succ]
  simp [Nat.add_assoc]
theorem bytes_start (N n rest : Nat) (us : List Nat) (h : WOk N n rest us) :
    fillB (List.replicate ((n + 7) / 8) 0) (8 * us.length) (min ((n + 7) / 8 - 8 * us.length) 8) rest = List.replicate (8 * us.length) 0 ++ (bytesOf N ((n + 7) / 8)).drop (8 * us.length) := by
  obtain ⟨h1, h2, h3, h4⟩ := h
  have hc := chain_lt us h3
  have e : N / 256 ^ (8 * us.length) = rest := by
    rw [p256, show 8 * (8 * us.length) = 64 * us.length by omega, h4, Nat.add_comm, Nat.add_mul_div_right _ _ (Nat.two_pow_pos _), Nat.div_eq_of_lt hc, Nat.zero_add]
  rw [bytesOf_drop, e]
  unfold fillB
  rw [show min ((n + 7) / 8 - 8 * us.length) 8 = (n + 7) / 8 - 8 * us.length by omega, List.take_replicate, List.drop_replicate,
    show min (8 * us.length) ((n + 7) / 8) = 8 * us.length by omega, show (n + 7) / 8 - (8 * us.length + ((n + 7) / 8 - 8 * us.length)) = 0 by omega]
  simp
theorem bytes_step (N L j : Nat) (hL : 8 * (j + 1) ≤ L) :
    fillB (List.replicate (8 * (j + 1)) 0 ++ (bytesOf N L).drop (8 * (j + 1))) (8 * j) 8 (N / 2 ^ (64 * j) % 2 ^ 64) = List.replicate (8 * j) 0 ++ (bytesOf N L).drop (8 * j) := by
  have e1 : bytesOf (N / 2 ^ (64 * j) % 2 ^ 64) 8 = bytesOf (N / 256 ^ (8 * j)) 8 := by
    rw [bytesOf_mod _ _ _ (by omega), p256, show 8 * (8 * j) = 64 * j by omega]
  obtain ⟨t, rfl⟩ : ∃ t, L = 8 * j + (8 + t) := ⟨L - 8 * (j + 1), by omega⟩
  unfold fillB
  rw [e1, bytesOf_drop N _ (8 * j), Nat.add_sub_cancel_left, bytesOf_split (N / 256 ^ (8 * j)) 8 t, Nat.div_div_eq_div_mul, ← Nat.pow_add, bytesOf_drop,
    show 8 * j + (8 + t) - 8 * (j + 1) = t by omega, show 8 * (j + 1) = 8 * j + 8 by omega]
  rw [List.take_append_of_le_length (by simp), List.take_replicate, show min (8 * j) (8 * j + 8) = 8 * j by omega, List.append_assoc, List.drop_append_of_le_length (by simp), List.drop_replicate, Nat.sub_self]
  simp
/-- The chain's head, and what is behind it. -/
theorem chain_head (N u : Nat) (us : List Nat) (h3 : ∀ x ∈ us, x < 2 ^ 64) (h : chainVal (u :: us) = N % 2 ^ (64 * (us.length + 1))) :
    u = N / 2 ^ (64 * us.length) % 2 ^ 64 ∧ chainVal us = N % 2 ^ (64 * us.length) := by
  have hc := chain_lt us h3
  have e : N % 2 ^ (64 * (us.length + 1)) = N % 2 ^ (64 * us.length) + 2 ^ (64 * us.length) * (N / 2 ^ (64 * us.length) % 2 ^ 64) := by
    rw [Nat.mul_add, Nat.mul_one, Nat.pow_add, Nat.mod_mul]
  rw [e] at h
  simp only [chainVal] at h
  have hm : N % 2 ^ (64 * us.length) < 2 ^ (64 * us.length) := Nat.mod_lt _ (Nat.two_pow_pos _)
  generalize N / 2 ^ (64 * us.length) % 2 ^ 64 = q at h ⊢
  generalize N % 2 ^ (64 * us.length) = r at h hm ⊢
  generalize 2 ^ (64 * us.length) = A at h hc hm ⊢
  have h5 : (chainVal us + u * A) / A = u := by
    rw [Nat.add_mul_div_right _ _ (by omega), Nat.div_eq_of_lt hc, Nat.zero_add]
  have h6 : (r + A * q) / A = q := by
    rw [Nat.add_mul_div_left _ _ (by omega), Nat.div_eq_of_lt hm, Nat.zero_add]
  have h7 : u = q := by
    rw [← h5, ← h6, ← h]; congr 1; omega
  subst h7
  refine ⟨rfl, ?_⟩
  rw [Nat.mul_comm A] at h
  omega
theorem WOk.chain {N n rest : Nat} {us : List Nat} (h : WOk N n rest us) : chainVal us = N % 2 ^ (64 * us.length) := by
  obtain ⟨h1, h2, h3, h4⟩ := h
  rw [h4, Nat.add_comm, Nat.add_mul_mod_self_right, Nat.mod_eq_of_lt (chain_lt us h3)]
end Go.Proofs.YtbdciiiimdbmkaaGreat.Bm

namespace Go.Proofs.YtbdciiiimdbmkaaGreat.Bm

/-! Widths. -/
/-- How many bits a number has. -/
def wid (x : Nat) : Nat := if x = 0 then 0 else x.log2 + 1
theorem wid_pos (x : Nat) (h : 0 < x) : wid x = x.log2 + 1 := by unfold wid; rw [if_neg (by omega)]
theorem wid_lt (x : Nat) : x < 2 ^ wid x := by
  rcases Nat.eq_zero_or_pos x with h | h
  · subst h; simp [wid]
  · rw [wid_pos x h]; exact Nat.lt_log2_self
theorem wid_le (x : Nat) (h : 0 < x) : 2 ^ (wid x - 1) ≤ x := by
  rw [wid_pos x h, Nat.add_sub_cancel]; exact Nat.log2_self_le (by omega)
theorem wid_one (x : Nat) (h : 0 < x) : 1 ≤ wid x := by rw [wid_pos x h]; omega
/-- The only number whose power lies so. -/
theorem wid_eq (x k : Nat) (h1 : 2 ^ k ≤ x) (h2 : x < 2 ^ (k + 1)) : wid x = k + 1 := by
  have hx : 0 < x := Nat.lt_of_lt_of_le (Nat.pow_pos (by omega)) h1
  have h3 := wid_le x hx
  have h4 := wid_lt x
  have h5 := wid_one x hx
  have h6 : wid x - 1 < k + 1 := (Nat.pow_lt_pow_iff_right (a := 2) (by omega)).1 (Nat.lt_of_le_of_lt h3 h2)
  have h7 : k < wid x := (Nat.pow_lt_pow_iff_right (a := 2) (by omega)).1 (Nat.lt_of_le_of_lt h1 h4)
  omega
theorem wid_le_of (x k : Nat) (h : x < 2 ^ k) : wid x ≤ k := by
  rcases Nat.eq_zero_or_pos x with h0 | h0
  · subst h0; simp [wid]
  · have h3 := wid_le x h0
    have h6 : wid x - 1 < k := (Nat.pow_lt_pow_iff_right (a := 2) (by omega)).1 (Nat.lt_of_le_of_lt h3 h)
    omega
theorem wid_double (x : Nat) (h : 0 < x) (r : Nat) (hr : r < 2) : wid (2 * x + r) = wid x + 1 := by
  have h3 := wid_le x h
  have h4 := wid_lt x
  have h5 := wid_one x h
  obtain ⟨k, hk⟩ : ∃ k, wid x = k + 1 := ⟨wid x - 1, by omega⟩
  rw [hk] at h3 h4 ⊢
  rw [Nat.add_sub_cancel] at h3
  have e1 : 2 ^ (k + 1) = 2 ^ k * 2 := Nat.pow_succ 2 k
  have e2 : 2 ^ (k + 1 + 1) = 2 ^ (k + 1) * 2 := Nat.pow_succ 2 (k + 1)
  exact wid_eq _ (k + 1) (by omega) (by omega)
/-! A number's bits and base by a log. -/
def bitsX (log x : Nat) : Nat := log + 1 - wid x
def baseX (log x : Nat) : Nat := x * 2 ^ bitsX log x - 2 ^ log
theorem two_pow_split (a b : Nat) (h : b ≤ a) : 2 ^ a = 2 ^ b * 2 ^ (a - b) := by rw [← Nat.pow_add]; congr 1; omega
theorem base_low (log x : Nat) (h0 : 0 < x) (h : x < 2 ^ (log + 1)) : 2 ^ log ≤ x * 2 ^ bitsX log x := by
  have h1 := wid_le_of x (log + 1) h
  have h2 := wid_one x h0
  have h3 := wid_le x h0
  have e : 2 ^ log = 2 ^ (wid x - 1) * 2 ^ bitsX log x := by unfold bitsX; rw [← Nat.pow_add]; congr 1; omega
  rw [e]
  exact Nat.mul_le_mul_right _ h3
theorem base_high (log x : Nat) (_h0 : 0 < x) (h : x < 2 ^ (log + 1)) : (x + 1) * 2 ^ bitsX log x ≤ 2 ^ (log + 1) := by
  have h1 := wid_le_of x (log + 1) h
  have h4 := wid_lt x
  have e : 2 ^ (log + 1) = 2 ^ wid x * 2 ^ bitsX log x := by unfold bitsX; rw [← Nat.pow_add]; congr 1; omega
  rw [e]
  exact Nat.mul_le_mul_right _ h4
theorem base_add (log x : Nat) (h0 : 0 < x) (h : x < 2 ^ (log + 1)) : baseX log x + 2 ^ bitsX log x ≤ 2 ^ log := by
  have h1 := base_low log x h0 h
  have h2 := base_high log x h0 h
  have e : 2 ^ (log + 1) = 2 ^ log * 2 := Nat.pow_succ 2 log
  rw [Nat.add_mul, Nat.one_mul] at h2
  unfold baseX
  omega
/-- A state lies in a number's stretch just if it is that number, the lowest bits left off. -/
theorem in_stretch (log x st : Nat) (h0 : 0 < x) (h : x < 2 ^ (log + 1)) : (baseX log x ≤ st ∧ st < baseX log x + 2 ^ bitsX log x) ↔ (st + 2 ^ log) / 2 ^ bitsX log x = x := by
  have h1 := base_low log x h0 h
  have hp : 0 < 2 ^ bitsX log x := Nat.pow_pos (by omega)
  have e : (x + 1) * 2 ^ bitsX log x = x * 2 ^ bitsX log x + 2 ^ bitsX log x := by rw [Nat.add_mul, Nat.one_mul]
  unfold baseX
  constructor
  · rintro ⟨h2, h3⟩
    have h4 : x ≤ (st + 2 ^ log) / 2 ^ bitsX log x := (Nat.le_div_iff_mul_le hp).2 (by omega)
    have h5 : (st + 2 ^ log) / 2 ^ bitsX log x < x + 1 := (Nat.div_lt_iff_lt_mul hp).2 (by omega)
    omega
  · intro h2
    have h4 : x ≤ (st + 2 ^ log) / 2 ^ bitsX log x := by omega
    have h5 : (st + 2 ^ log) / 2 ^ bitsX log x < x + 1 := by omega
    rw [Nat.le_div_iff_mul_le hp] at h4
    rw [Nat.div_lt_iff_lt_mul hp] at h5
    omega
/-- Of n up to 2n no two stretches meet. -/
theorem stretch_one (log n x y st : Nat) (hx : n ≤ x) (hx2 : x < 2 * n) (hy : n ≤ y) (hy2 : y < 2 * n)
    (h1 : (st + 2 ^ log) / 2 ^ bitsX log x = x) (h2 : (st + 2 ^ log) / 2 ^ bitsX log y = y) : x = y := by
  have e : 2 ^ (log + 1) = 2 ^ log * 2 := Nat.pow_succ 2 log
  have key : ∀ x y : Nat, n ≤ x → x < 2 * n → n ≤ y → y < 2 * n → (st + 2 ^ log) / 2 ^ bitsX log x = x → (st + 2 ^ log) / 2 ^ bitsX log y = y → ¬ bitsX log y < bitsX log x := by
    intro x y hx hx2 hy hy2 h1 h2 hlt
    obtain ⟨d, hd⟩ : ∃ d, bitsX log x = bitsX log y + 1 + d := ⟨bitsX log x - bitsX log y - 1, by omega⟩
    rw [hd, Nat.pow_add, ← Nat.div_div_eq_div_mul, Nat.pow_succ, ← Nat.div_div_eq_div_mul, h2] at h1
    have h3 := Nat.div_le_self (y / 2) (2 ^ d)
    omega
  have k1 := key x y hx hx2 hy hy2 h1 h2
  have k2 := key y x hy hy2 hx hx2 h2 h1
  rw [show bitsX log x = bitsX log y by omega, h2] at h1
  exact h1.symm
/-- There is one of them in which a state lies. -/
theorem stretch_some (log n st : Nat) (h0 : 0 < n) (h2n : n ≤ 2 ^ log) (hst : st < 2 ^ log) : ∃ x, n ≤ x ∧ x < 2 * n ∧ (st + 2 ^ log) / 2 ^ bitsX log x = x := by
  have e : 2 ^ (log + 1) = 2 ^ log * 2 := Nat.pow_succ 2 log
  have key : ∀ c : Nat, (st + 2 ^ log) / 2 ^ c < n → ∃ b, n ≤ (st + 2 ^ log) / 2 ^ b ∧ (st + 2 ^ log) / 2 ^ (b + 1) < n := by
    intro c
    induction c with
    | zero => intro h; rw [Nat.pow_zero, Nat.div_one] at h; omega
    | succ c ih =>
      intro h
      by_cases h1 : (st + 2 ^ log) / 2 ^ c < n
      · exact ih h1
      · exact ⟨c, by omega, h⟩
  obtain ⟨b, hb1, hb2⟩ := key (log + 1) (by rw [Nat.div_eq_of_lt (by omega)]; exact h0)
  have hp : 0 < 2 ^ b := Nat.pow_pos (by omega)
  have hxpos : 0 < (st + 2 ^ log) / 2 ^ b := by omega
  refine ⟨(st + 2 ^ log) / 2 ^ b, hb1, ?_, ?_⟩
  · rw [Nat.pow_succ, ← Nat.div_div_eq_div_mul] at hb2; omega
  · have hbl : b ≤ log := by
      rcases Nat.lt_or_ge log b with h1 | h1
      · have h2 : 2 ^ (log + 1) ≤ 2 ^ b := Nat.pow_le_pow_right (by omega) h1
        rw [Nat.div_eq_of_lt (by omega)] at hxpos
        omega
      · exact h1
    have hw : wid ((st + 2 ^ log) / 2 ^ b) = log - b + 1 := by
      refine wid_eq _ _ ((Nat.le_div_iff_mul_le hp).2 ?_) ((Nat.div_lt_iff_lt_mul hp).2 ?_)
      · rw [← Nat.pow_add, show log - b + b = log by omega]; omega
      · rw [← Nat.pow_add, show log - b + 1 + b = log + 1 by omega]; omega
    have hbx : bitsX log ((st + 2 ^ log) / 2 ^ b) = b := by unfold bitsX; rw [hw]; omega
    rw [hbx]
/-- All stretches of n up to 2n together are the size. -/
theorem stretch_sum (log : Nat) : ∀ n, 0 < n → n ≤ 2 ^ log → ((List.range n).map fun r => 2 ^ bitsX log (n + r)).sum = 2 ^ log
  | 0, h, _ => absurd h (by omega)
  | 1, _, _ => by
    have : bitsX log 1 = log := by unfold bitsX; rw [wid_eq 1 0 (by simp) (by simp)]; omega
    simp [List.range_succ, this]
  | n + 2, _, h => by
    have ih := stretch_sum log (n + 1) (by omega) (by omega)
    have hw := wid_le_of (n + 1) log (by omega)
    have h1 := wid_double (n + 1) (by omega) 0 (by omega)
    have h2 := wid_double (n + 1) (by omega) 1 (by omega)
    have b1 : bitsX log (n + 2 + n) = bitsX log (n + 1) - 1 := by unfold bitsX; rw [show n + 2 + n = 2 * (n + 1) + 0 by omega, h1]; omega
    have b2 : bitsX log (n + 2 + (n + 1)) = bitsX log (n + 1) - 1 := by unfold bitsX; rw [show n + 2 + (n + 1) = 2 * (n + 1) + 1 by omega, h2]; omega
    have b3 : 1 ≤ bitsX log (n + 1) := by unfold bitsX; omega
    rw [List.range_succ, List.range_succ, List.map_append, List.map_append, List.sum_append_nat, List.sum_append_nat]
    simp only [List.map_cons, List.map_nil, List.sum_cons, List.sum_nil]
    rw [b1, b2]
    rw [List.range_succ_eq_map, List.map_cons, List.sum_cons, List.map_map] at ih
    have e1 : ((List.range n).map ((fun r => 2 ^ bitsX log (n + 1 + r)) ∘ Nat.succ)).sum = ((List.range n).map fun r => 2 ^ bitsX log (n + 2 + r)).sum := by
      congr 1
      apply List.map_congr_left
      intro r _
      simp only [Function.comp_apply]
      rw [show n + 1 + r.succ = n + 2 + r by omega]
    rw [e1, Nat.add_zero] at ih
    have e2 : 2 ^ bitsX log (n + 1) = 2 ^ (bitsX log (n + 1) - 1) * 2 := by
      rw [← Nat.pow_succ]; congr 1; omega
    omega
/-! The symbols, one behind the other, and where they go. -/
def symsFrom : Nat → List Nat → List Nat
  | _, [] => []
  | s, n :: l => List.replicate n s ++ symsFrom (s + 1) l
theorem symsFrom_length (s : Nat) (l : List Nat) : (symsFrom s l).length = l.sum := by
  induction l generalizing s with
  | nil => rfl
  | cons n l ih => rw [symsFrom, List.length_append, List.length_replicate, ih, List.sum_cons]
theorem symsFrom_count (t : Nat) : ∀ (l : List Nat) (s : Nat), (symsFrom s l).count t = if s ≤ t then l[t - s]?.getD 0 else 0
  | [], s => by simp [symsFrom]
  | n :: l, s => by
    rw [symsFrom, List.count_append, List.count_replicate, symsFrom_count t l (s + 1)]
    by_cases h1 : s = t
    · subst h1
      rw [if_pos (by simp), if_neg (by omega), if_pos (by omega)]
      simp
    · rw [if_neg (by simpa using h1)]
      by_cases h2 : s ≤ t
      · rw [if_pos (by omega), if_pos h2]
        obtain ⟨d, hd⟩ : ∃ d, t - s = d + 1 := ⟨t - s - 1, by omega⟩
        rw [hd, show t - (s + 1) = d by omega]
        simp
      · rw [if_neg (by omega), if_neg h2]
theorem symsFrom_get (l : List Nat) (s t k : Nat) (ht : t < l.length) (hk : k < l[t]) : (symsFrom s l)[(l.take t).sum + k]? = some (s + t) := by
  induction l generalizing s t with
  | nil => simp at ht
  | cons n l ih =>
    rw [symsFrom]
    cases t with
    | zero =>
      simp only [List.getElem_cons_zero] at hk
      rw [List.take_zero, List.sum_nil, Nat.zero_add, List.getElem?_append_left (by simpa using hk)]
      simp [hk]
    | succ t =>
      simp only [List.getElem_cons_succ] at hk
      rw [List.take_succ_cons, List.sum_cons, List.getElem?_append_right (by simp; omega), List.length_replicate, show n + (l.take t).sum + k - n = (l.take t).sum + k by omega, ih (s + 1) t (by simpa using ht) hk]
      congr 1
      omega
/-- What a place is multiplied by, from which step it came. -/
def sinv (log : Nat) : Nat := if log = 5 then 7 else if log = 6 then 3 else if log = 7 then 91 else if log = 8 then 11 else 363
def stepL (log : Nat) : Nat := 2 ^ log / 2 + 2 ^ log / 8 + 3
/-- The place of step k, the step of place p. -/
def posL (log k : Nat) : Nat := k * stepL log % 2 ^ log
def invL (log p : Nat) : Nat := p * sinv log % 2 ^ log
theorem step_sinv (log : Nat) (h : 5 ≤ log) (h9 : log ≤ 9) : stepL log * sinv log % 2 ^ log = 1 := by
  have : log = 5 ∨ log = 6 ∨ log = 7 ∨ log = 8 ∨ log = 9 := by omega
  rcases this with rfl | rfl | rfl | rfl | rfl <;> decide
theorem inv_pos (log k : Nat) (h : 5 ≤ log) (h9 : log ≤ 9) (hk : k < 2 ^ log) : invL log (posL log k) = k := by
  unfold invL posL
  rw [Nat.mod_mul_mod, Nat.mul_assoc, Nat.mul_mod, step_sinv log h h9, Nat.mul_one, Nat.mod_mod, Nat.mod_eq_of_lt hk]
theorem pos_inv (log p : Nat) (h : 5 ≤ log) (h9 : log ≤ 9) (hp : p < 2 ^ log) : posL log (invL log p) = p := by
  unfold invL posL
  rw [Nat.mod_mul_mod, Nat.mul_assoc, Nat.mul_comm (sinv log), Nat.mul_mod, step_sinv log h h9, Nat.mul_one, Nat.mod_mod, Nat.mod_eq_of_lt hp]
theorem pos_lt (log k : Nat) : posL log k < 2 ^ log := Nat.mod_lt _ (Nat.pow_pos (by omega))
theorem inv_lt (log p : Nat) : invL log p < 2 ^ log := Nat.mod_lt _ (Nat.pow_pos (by omega))
theorem pos_succ (log k : Nat) : posL log (k + 1) = (posL log k + stepL log) % 2 ^ log := by
  unfold posL
  rw [Nat.add_mul, Nat.one_mul, Nat.mod_add_mod]
/-- All places, in the order of their steps, are all places. -/
theorem inv_perm (log : Nat) (h : 5 ≤ log) (h9 : log ≤ 9) : ((List.range (2 ^ log)).map (invL log)).Perm (List.range (2 ^ log)) := by
  rw [List.perm_iff_count]
  intro a
  have hnd : ((List.range (2 ^ log)).map (invL log)).Nodup := by
    rw [List.nodup_iff_pairwise_ne, List.pairwise_map]
    refine List.Pairwise.imp_of_mem ?_ (List.nodup_range (n := 2 ^ log))
    intro p q hp hq hne he
    have h1 := pos_inv log p h h9 (List.mem_range.1 hp)
    have h2 := pos_inv log q h h9 (List.mem_range.1 hq)
    rw [he, h2] at h1
    exact hne h1.symm
  by_cases ha : a < 2 ^ log
  · have h1 : a ∈ (List.range (2 ^ log)).map (invL log) := List.mem_map.2 ⟨posL log a, List.mem_range.2 (pos_lt log a), inv_pos log a h h9 ha⟩
    have h2 := List.count_pos_iff.2 h1
    have h3 := List.nodup_iff_count.1 hnd a
    have h4 := List.count_pos_iff.2 (List.mem_range.2 ha)
    have h5 := List.nodup_iff_count.1 (List.nodup_range (n := 2 ^ log)) a
    omega
  · rw [List.count_eq_zero.2 (fun hm => ?_), List.count_eq_zero.2 (fun hm => ha (List.mem_range.1 hm))]
    obtain ⟨p, _, rfl⟩ := List.mem_map.1 hm
    exact ha (inv_lt log p)
/-! The table. -/
/-- A fair share, as numbers. -/
structure FairN (ls : List Nat) (log : Nat) : Prop where
  low : 5 ≤ log
  high : log ≤ 9
  len : ls.length ≤ 256
  sum : ls.sum = 2 ^ log
/-- The symbol of place p. -/
def symAt (ls : List Nat) (log p : Nat) : Nat := (symsFrom 0 ls)[invL log p]?.getD 0
/-- All places' symbols. -/
def tab (ls : List Nat) (log : Nat) : List Nat := (List.range (2 ^ log)).map (symAt ls log)
theorem tab_length (ls : List Nat) (log : Nat) : (tab ls log).length = 2 ^ log := by simp [tab]
theorem tab_get (ls : List Nat) (log p : Nat) (h : p < 2 ^ log) : (tab ls log)[p]? = some (symAt ls log p) := by simp [tab, h]
theorem map_get_range (l : List Nat) : (List.range l.length).map (fun k => l[k]?.getD 0) = l := by
  apply List.ext_getElem
  · simp
  · intro i h1 h2
    simp [h2]
theorem tab_perm (ls : List Nat) (log : Nat) (h : FairN ls log) : (tab ls log).Perm (symsFrom 0 ls) := by
  have h1 := (inv_perm log h.low h.high).map (fun k => (symsFrom 0 ls)[k]?.getD 0)
  rw [List.map_map] at h1
  have e := map_get_range (symsFrom 0 ls)
  rw [symsFrom_length, h.sum] at e
  rw [e] at h1
  exact h1
theorem tab_count (ls : List Nat) (log s : Nat) (h : FairN ls log) : (tab ls log).count s = ls[s]?.getD 0 := by
  rw [(tab_perm ls log h).count_eq, symsFrom_count, if_pos (by omega), Nat.sub_zero]
theorem tab_sym (ls : List Nat) (log p : Nat) (h : FairN ls log) (hp : p < 2 ^ log) : ∃ hs : symAt ls log p < ls.length, 0 < ls[symAt ls log p] := by
  have h1 : symAt ls log p ∈ tab ls log := List.mem_map.2 ⟨p, List.mem_range.2 hp, rfl⟩
  have h2 := List.count_pos_iff.2 h1
  rw [tab_count ls log _ h] at h2
  rcases Nat.lt_or_ge (symAt ls log p) ls.length with h3 | h3
  · exact ⟨h3, by simpa [h3] using h2⟩
  · rw [List.getElem?_eq_none h3] at h2; simp at h2
/-- How many places ahead of p have its symbol. -/
def rankAt (ls : List Nat) (log p : Nat) : Nat := ((tab ls log).take p).count (symAt ls log p)
theorem count_take_succ (l : List Nat) (p s : Nat) (h : p < l.length) : (l.take (p + 1)).count s = (l.take p).count s + if l[p] = s then 1 else 0 := by
  rw [List.take_succ_eq_append_getElem h, List.count_append, List.count_singleton]
  simp
theorem count_take_le (l : List Nat) (p q s : Nat) (h : p ≤ q) : (l.take p).count s ≤ (l.take q).count s := by
  obtain ⟨d, rfl⟩ : ∃ d, q = p + d := ⟨q - p, by omega⟩
  rw [List.take_add, List.count_append]
  omega
theorem count_take_all (l : List Nat) (p s : Nat) : (l.take p).count s ≤ l.count s := by
  have h1 := count_take_le l p (max p l.length) s (by omega)
  rw [List.take_of_length_le (i := max p l.length) (by omega)] at h1
  exact h1
theorem rank_lt (ls : List Nat) (log p : Nat) (h : FairN ls log) (hp : p < 2 ^ log) : rankAt ls log p < ls[symAt ls log p]?.getD 0 := by
  have hl : p < (tab ls log).length := by rw [tab_length]; exact hp
  have h1 := count_take_succ (tab ls log) p (symAt ls log p) hl
  have e : (tab ls log)[p] = symAt ls log p := by
    have := tab_get ls log p hp
    rw [List.getElem?_eq_getElem hl] at this
    injection this
  rw [if_pos e] at h1
  have h2 := count_take_all (tab ls log) (p + 1) (symAt ls log p)
  rw [tab_count ls log _ h] at h2
  unfold rankAt
  omega
/-- Each number below a symbol's share is the rank of just one of its places. -/
theorem rank_some : ∀ (l : List Nat) (s r : Nat), r < l.count s → ∃ p, ∃ h : p < l.length, l[p] = s ∧ (l.take p).count s = r
  | [], s, r, h => by simp at h
  | a :: l, s, r, h => by
    by_cases ha : a = s
    · subst ha
      cases r with
      | zero => exact ⟨0, by simp, rfl, by simp⟩
      | succ r =>
        rw [List.count_cons_self] at h
        obtain ⟨p, hp, h1, h2⟩ := rank_some l a r (by omega)
        exact ⟨p + 1, by simpa using hp, by simpa using h1, by rw [List.take_succ_cons, List.count_cons_self, h2]⟩
    · rw [List.count_cons_of_ne (by simpa using ha)] at h
      obtain ⟨p, hp, h1, h2⟩ := rank_some l s r h
      exact ⟨p + 1, by simpa using hp, by simpa using h1, by rw [List.take_succ_cons, List.count_cons_of_ne (by simpa using ha), h2]⟩
theorem rank_one (l : List Nat) (s p q : Nat) (hp : p < l.length) (hq : q < l.length) (h1 : l[p] = s) (h2 : l[q] = s) (h : (l.take p).count s = (l.take q).count s) : p = q := by
  have key : ∀ p q : Nat, ∀ hp : p < l.length, l[p] = s → p < q → (l.take p).count s < (l.take q).count s := fun p q hp h1 hlt => by
    have h3 := count_take_succ l p s hp
    rw [if_pos h1] at h3
    have h4 := count_take_le l (p + 1) q s hlt
    omega
  rcases Nat.lt_trichotomy p q with h3 | h3 | h3
  · have := key p q hp h1 h3; omega
  · exact h3
  · have := key q p hq h2 h3; omega
/-- The number of a place. -/
def numAt (ls : List Nat) (log p : Nat) : Nat := ls[symAt ls log p]?.getD 0 + rankAt ls log p
theorem num_ok (ls : List Nat) (log p : Nat) (h : FairN ls log) (hp : p < 2 ^ log) : ∃ n, ls[symAt ls log p]? = some n ∧ 0 < n ∧ n ≤ 2 ^ log ∧ n ≤ numAt ls log p ∧ numAt ls log p < 2 * n ∧ numAt ls log p < 2 ^ (log + 1) := by
  obtain ⟨hs, h0⟩ := tab_sym ls log p h hp
  have hr := rank_lt ls log p h hp
  rw [List.getElem?_eq_getElem hs] at hr
  have hle : ls[symAt ls log p] ≤ 2 ^ log := by
    rw [← h.sum]
    have : ∀ (l : List Nat) (i : Nat) (hi : i < l.length), l[i] ≤ l.sum := fun l => by
      induction l with
      | nil => intro i hi; simp at hi
      | cons a l ih =>
        intro i hi
        cases i with
        | zero => simp
        | succ i => have := ih i (by simpa using hi); simp; omega
    exact this ls _ hs
  have e : 2 ^ (log + 1) = 2 ^ log * 2 := Nat.pow_succ 2 log
  simp only [Option.getD_some] at hr
  refine ⟨ls[symAt ls log p], List.getElem?_eq_getElem hs, h0, hle, ?_, ?_, ?_⟩
  all_goals unfold numAt; rw [List.getElem?_eq_getElem hs, Option.getD_some]; omega
/-- A place's bits and base. -/
def bitsAt (ls : List Nat) (log p : Nat) : Nat := bitsX log (numAt ls log p)
def baseAt (ls : List Nat) (log p : Nat) : Nat := baseX log (numAt ls log p)
/-- Does the place have this symbol, and lead to this state? -/
def leads (ls : List Nat) (log st s p : Nat) : Prop := symAt ls log p = s ∧ baseAt ls log p ≤ st ∧ st < baseAt ls log p + 2 ^ bitsAt ls log p
instance (ls : List Nat) (log st s p : Nat) : Decidable (leads ls log st s p) := by unfold leads; exact inferInstance
theorem base_at (ls : List Nat) (log p : Nat) (h : FairN ls log) (hp : p < 2 ^ log) : baseAt ls log p + 2 ^ bitsAt ls log p ≤ 2 ^ log := by
  obtain ⟨n, _, h0, _, h2, _, h4⟩ := num_ok ls log p h hp
  exact base_add log _ (by omega) h4
theorem bits_at (ls : List Nat) (log p : Nat) (h : FairN ls log) (hp : p < 2 ^ log) : bitsAt ls log p ≤ log := by
  obtain ⟨n, _, h0, _, h2, _, h4⟩ := num_ok ls log p h hp
  have := wid_one (numAt ls log p) (by omega)
  unfold bitsAt bitsX
  omega
theorem leads_one (ls : List Nat) (log st s p q : Nat) (h : FairN ls log) (hp : p < 2 ^ log) (hq : q < 2 ^ log) (h1 : leads ls log st s p) (h2 : leads ls log st s q) : p = q := by
  obtain ⟨n, e1, h0, hn, a1, a2, a3⟩ := num_ok ls log p h hp
  obtain ⟨m, e2, _, _, b1, b2, b3⟩ := num_ok ls log q h hq
  obtain ⟨rfl, hb1, hb2⟩ := h1
  obtain ⟨hs, hc1, hc2⟩ := h2
  rw [hs, e1] at e2
  injection e2 with e2
  subst e2
  have k1 := (in_stretch log _ st (by omega) a3).1 ⟨hb1, hb2⟩
  have k2 := (in_stretch log _ st (by omega) b3).1 ⟨hc1, hc2⟩
  have k3 := stretch_one log n _ _ st a1 a2 b1 b2 k1 k2
  unfold numAt at k3
  rw [hs] at k3
  have hlp : p < (tab ls log).length := by rw [tab_length]; exact hp
  have hlq : q < (tab ls log).length := by rw [tab_length]; exact hq
  have gp := tab_get ls log p hp
  have gq := tab_get ls log q hq
  rw [List.getElem?_eq_getElem hlp] at gp
  rw [List.getElem?_eq_getElem hlq, hs] at gq
  injection gp with gp
  injection gq with gq
  refine rank_one (tab ls log) (symAt ls log p) p q hlp hlq gp gq ?_
  unfold rankAt at k3
  rw [hs] at k3
  omega
theorem leads_some (ls : List Nat) (log st s n : Nat) (h : FairN ls log) (hs : ls[s]? = some n) (h0 : 0 < n) (hst : st < 2 ^ log) : ∃ p, p < 2 ^ log ∧ leads ls log st s p := by
  have hc := tab_count ls log s h
  rw [hs, Option.getD_some] at hc
  have hn : n ≤ 2 ^ log := by rw [← hc, ← tab_length ls log]; exact List.count_le_length
  obtain ⟨x, h1, h2, h3⟩ := stretch_some log n st h0 hn hst
  obtain ⟨p, hp, e1, e2⟩ := rank_some (tab ls log) s (x - n) (by omega)
  have hp' : p < 2 ^ log := by rw [tab_length] at hp; exact hp
  have gp := tab_get ls log p hp'
  rw [List.getElem?_eq_getElem hp, e1] at gp
  injection gp with gp
  have hx : numAt ls log p = x := by
    unfold numAt rankAt
    rw [← gp, hs, Option.getD_some, e2]
    omega
  have e : 2 ^ (log + 1) = 2 ^ log * 2 := Nat.pow_succ 2 log
  refine ⟨p, hp', gp.symm, ?_⟩
  unfold baseAt bitsAt
  rw [hx]
  exact (in_stretch log x st (by omega) (by omega)).2 h3
/-! What a symbol's states reach together. -/
def reachTo (ls : List Nat) (log i s : Nat) : Nat := ((List.range (((tab ls log).take i).count s)).map fun r => 2 ^ bitsX log (ls[s]?.getD 0 + r)).sum
theorem reach_zero (ls : List Nat) (log s : Nat) : reachTo ls log 0 s = 0 := by simp [reachTo]
theorem reach_same (ls : List Nat) (log i : Nat) (hi : i < 2 ^ log) : reachTo ls log (i + 1) (symAt ls log i) = reachTo ls log i (symAt ls log i) + 2 ^ bitsAt ls log i := by
  have hl : i < (tab ls log).length := by rw [tab_length]; exact hi
  have g := tab_get ls log i hi
  rw [List.getElem?_eq_getElem hl] at g
  injection g with g
  have h1 := count_take_succ (tab ls log) i (symAt ls log i) hl
  rw [if_pos g] at h1
  unfold reachTo
  rw [h1, List.range_succ, List.map_append, List.sum_append_nat]
  simp [bitsAt, numAt, rankAt]
theorem reach_other (ls : List Nat) (log i s : Nat) (hi : i < 2 ^ log) (h : symAt ls log i ≠ s) : reachTo ls log (i + 1) s = reachTo ls log i s := by
  have hl : i < (tab ls log).length := by rw [tab_length]; exact hi
  have g := tab_get ls log i hi
  rw [List.getElem?_eq_getElem hl] at g
  injection g with g
  have h1 := count_take_succ (tab ls log) i s hl
  rw [if_neg (by rw [g]; exact h)] at h1
  unfold reachTo
  rw [h1, Nat.add_zero]
theorem reach_all (ls : List Nat) (log s n : Nat) (h : FairN ls log) (hs : ls[s]? = some n) (h0 : 0 < n) : reachTo ls log (2 ^ log) s = 2 ^ log := by
  have hc := tab_count ls log s h
  rw [hs, Option.getD_some] at hc
  have hn : n ≤ 2 ^ log := by rw [← hc, ← tab_length ls log]; exact List.count_le_length
  unfold reachTo
  rw [← tab_length ls log, List.take_length, hc, hs, Option.getD_some]
  rw [tab_length]
  exact stretch_sum log n h0 hn
/-- The place ahead of a state by a symbol. -/
def backP (ls : List Nat) (log st s : Nat) : Option Nat := (List.range (2 ^ log)).find? fun p => decide (leads ls log st s p)
theorem back_some (ls : List Nat) (log st s n : Nat) (h : FairN ls log) (hs : ls[s]? = some n) (h0 : 0 < n) (hst : st < 2 ^ log) : ∃ p, backP ls log st s = some p ∧ p < 2 ^ log ∧ leads ls log st s p := by
  obtain ⟨q, hq, hl⟩ := leads_some ls log st s n h hs h0 hst
  cases e : backP ls log st s with
  | none =>
    unfold backP at e
    rw [List.find?_eq_none] at e
    exact absurd (decide_eq_true hl) (e q (List.mem_range.2 hq))
  | some p =>
    have e' := e
    unfold backP at e'
    have h1 := List.find?_some e'
    have h2 := List.mem_of_find?_eq_some e'
    exact ⟨p, rfl, List.mem_range.1 h2, of_decide_eq_true h1⟩
theorem back_is (ls : List Nat) (log st s p : Nat) (h : FairN ls log) (hp : p < 2 ^ log) (hl : leads ls log st s p) : backP ls log st s = some p := by
  cases e : backP ls log st s with
  | none =>
    unfold backP at e
    rw [List.find?_eq_none] at e
    exact absurd (decide_eq_true hl) (e p (List.mem_range.2 hp))
  | some q =>
    have e' := e
    unfold backP at e'
    have h0 := List.find?_some e'
    have h1 := of_decide_eq_true h0
    have h2 := List.mem_range.1 (List.mem_of_find?_eq_some e')
    rw [leads_one ls log st s p q h hp h2 hl h1]
theorem back_none (ls : List Nat) (log st s : Nat) (h : FairN ls log) (hs : ls[s]?.getD 0 = 0) : backP ls log st s = none := by
  unfold backP
  rw [List.find?_eq_none]
  intro p hp hl
  obtain ⟨h1, h2⟩ := tab_sym ls log p h (List.mem_range.1 hp)
  have h3 := (of_decide_eq_true hl).1
  rw [h3] at h1
  rw [List.getElem?_eq_getElem h1, Option.getD_some] at hs
  have h4 : ls[symAt ls log p] = ls[s] := by congr
  omega
end Go.Proofs.YtbdciiiimdbmkaaGreat.Bm

namespace Go.Proofs.YtbdciiiimdbmkaaGreat.Bm

/-- How many bits are behind a code; -1: there is no such code. -/
def extraI (c : Nat) : Int := if c < 16 then 0 else if 27 < c then -1 else ((c - 12 : Nat) : Int)
/-- A number's code, the bits behind it, how many. -/
def codeK (v : Nat) : Nat := if v < 16 then v else 11 + wid v
def moreN (v : Nat) : Nat := if v < 16 then 0 else v % 2 ^ (wid v - 1)
def bitsK (v : Nat) : Nat := if v < 16 then 0 else wid v - 1
/-- The number of a code and the bits behind it. -/
def valueK (c m : Nat) : Option Nat := if c < 16 then (if m = 0 then some c else none) else if 27 < c then none else if m < 2 ^ (c - 12) then some (2 ^ (c - 12) + m) else none

theorem wid_mid (v k : Nat) (h1 : 2 ^ k ≤ v) (h2 : v < 2 ^ (k + 1)) : wid v = k + 1 := by
  have hv : 0 < v := Nat.lt_of_lt_of_le (Nat.two_pow_pos k) h1
  rw [wid_pos v hv]
  have a1 : k ≤ v.log2 := (Nat.le_log2 (by omega)).2 h1
  have a2 : v.log2 < k + 1 := (Nat.log2_lt (by omega)).2 h2
  omega
theorem wid_has (v : Nat) (h : 16 ≤ v) (h2 : v ≤ 65535) : ∃ k, 4 ≤ k ∧ k ≤ 15 ∧ 2 ^ k ≤ v ∧ v < 2 ^ (k + 1) ∧ wid v = k + 1 := by
  have hv : v ≠ 0 := by omega
  have h1 : 2 ^ v.log2 ≤ v := Nat.log2_self_le hv
  have h3 : v < 2 ^ (v.log2 + 1) := Nat.lt_log2_self
  refine ⟨v.log2, (Nat.le_log2 hv).2 h, ?_, h1, h3, wid_pos v (by omega)⟩
  have : v.log2 < 16 := (Nat.log2_lt hv).2 (by omega)
  omega
theorem code_spec (v : Nat) (h : v ≤ 65535) : codeK v ≤ 27 ∧ moreN v ≤ 65535 ∧ bitsK v ≤ 15 ∧ valueK (codeK v) (moreN v) = some v := by
  by_cases h16 : v < 16
  · unfold codeK moreN bitsK
    rw [if_pos h16, if_pos h16, if_pos h16]
    refine ⟨by omega, by omega, by omega, ?_⟩
    unfold valueK
    rw [if_pos h16, if_pos rfl]
  · obtain ⟨k, k1, k2, h1, h2, hw⟩ := wid_has v (by omega) h
    unfold codeK moreN bitsK
    rw [if_neg h16, if_neg h16, if_neg h16, hw, Nat.add_sub_cancel]
    have hlt := Nat.mod_lt v (Nat.two_pow_pos k)
    have hm := Nat.mod_le v (2 ^ k)
    refine ⟨by omega, by omega, by omega, ?_⟩
    unfold valueK
    rw [if_neg (by omega), if_neg (by omega), show 11 + (k + 1) - 12 = k by omega, if_pos hlt]
    have hp : 2 ^ (k + 1) = 2 ^ k + 2 ^ k := by rw [Nat.pow_succ]; omega
    have : v % 2 ^ k = v - 2 ^ k := by
      rw [Nat.mod_eq_sub_mod h1, Nat.mod_eq_of_lt (by omega)]
    rw [this]
    congr 1
    omega
theorem value_spec (c m g : Nat) (h : valueK c m = some g) : c ≤ 27 ∧ g ≤ 65535 ∧ codeK g = c ∧ moreN g = m := by
  unfold valueK at h
  by_cases h16 : c < 16
  · rw [if_pos h16] at h
    by_cases h0 : m = 0
    · rw [if_pos h0] at h
      injection h with h
      subst h h0
      unfold codeK moreN
      rw [if_pos h16, if_pos h16]
      exact ⟨by omega, by omega, rfl, rfl⟩
    · rw [if_neg h0] at h; cases h
  · rw [if_neg h16] at h
    by_cases h27 : 27 < c
    · rw [if_pos h27] at h; cases h
    · rw [if_neg h27] at h
      by_cases hm : m < 2 ^ (c - 12)
      · rw [if_pos hm] at h
        injection h with h
        obtain ⟨k, rfl⟩ : ∃ k, c = k + 12 := ⟨c - 12, by omega⟩
        rw [Nat.add_sub_cancel] at hm h
        have hp : 2 ^ (k + 1) = 2 ^ k + 2 ^ k := by rw [Nat.pow_succ]; omega
        have h4 : 2 ^ 4 ≤ 2 ^ k := Nat.pow_le_pow_right (by omega) (by omega)
        have h15 : 2 ^ k ≤ 2 ^ 15 := Nat.pow_le_pow_right (by omega) (by omega)
        have hw := wid_mid g k (by omega) (by omega)
        have hg : ¬ g < 16 := by omega
        unfold codeK moreN
        rw [if_neg hg, if_neg hg, hw, Nat.add_sub_cancel]
        refine ⟨by omega, by omega, by omega, ?_⟩
        rw [Nat.mod_eq_sub_mod (by omega), Nat.mod_eq_of_lt (by omega)]
        omega
      · rw [if_neg hm] at h; cases h
/-- Where a code has bits behind it, there is a number just if they are few enough. -/
theorem value_none (c m k : Nat) (hk : extraI c = (k : Int)) : valueK c m = none ↔ m / 2 ^ k ≠ 0 := by
  have hp := Nat.two_pow_pos k
  have e : m / 2 ^ k ≠ 0 ↔ ¬ m < 2 ^ k := by
    rw [ne_eq, Nat.div_eq_zero_iff]
    omega
  rw [e]
  unfold extraI at hk
  unfold valueK
  by_cases h16 : c < 16
  · rw [if_pos h16] at hk
    have : k = 0 := by omega
    subst this
    rw [if_pos h16]
    by_cases h0 : m = 0
    · simp [h0]
    · rw [if_neg h0]
      simp only [Nat.pow_zero, true_iff]
      omega
  · rw [if_neg h16] at hk
    by_cases h27 : 27 < c
    · rw [if_pos h27] at hk; omega
    · rw [if_neg h27] at hk
      have : k = c - 12 := by omega
      subst this
      rw [if_neg h16, if_neg h27]
      by_cases hm : m < 2 ^ (c - 12)
      · simp [hm]
      · simp [hm]
theorem value_no (c m : Nat) (hk : extraI c < 0) : valueK c m = none := by
  unfold extraI at hk
  unfold valueK
  by_cases h16 : c < 16
  · rw [if_pos h16] at hk; omega
  · rw [if_neg h16] at hk
    by_cases h27 : 27 < c
    · rw [if_neg h16, if_pos h27]
    · rw [if_neg h27] at hk; omega
theorem extra_le (c : Nat) : extraI c = -1 ∨ ∃ k : Nat, extraI c = (k : Int) ∧ k ≤ 15 := by
  unfold extraI
  split
  · exact .inr ⟨0, rfl, by omega⟩
  · split
    · exact .inl rfl
    · exact .inr ⟨c - 12, rfl, by omega⟩

/-- The number of an offset, by three recent ones; -1: it has none. -/
def numI (a b c x : Int) : Int := if x < 1 ∨ 65533 < x then -1 else if a = x then 0 else if b = x then 1 else if c = x then 2 else x + 2
/-- The recent ones behind an offset. -/
def behI (a b c x : Int) : Int × Int × Int := if a = x then (x, b, c) else if b = x then (x, a, c) else (x, a, b)
/-- The offset whose number this is. -/
def offX (a b c n : Int) : Int := if 2 < n then n - 2 else if n = 0 then a else if n = 1 then b else c
def offI (a b c n : Int) : Option Int := if n < 0 ∨ 65535 < n then none else if numI a b c (offX a b c n) = n then some (offX a b c n) else none
theorem numI_cases (a b c x : Int) : numI a b c x = -1 ∨ (0 ≤ numI a b c x ∧ numI a b c x ≤ 65535) := by
  unfold numI
  split
  · exact .inl rfl
  · refine .inr ?_
    split
    · omega
    · split
      · omega
      · split <;> omega
theorem numI_range (a b c x : Int) (h : 0 ≤ numI a b c x) : 1 ≤ x ∧ x ≤ 65533 := by
  unfold numI at h
  by_cases h1 : x < 1 ∨ 65533 < x
  · rw [if_pos h1] at h; omega
  · omega
theorem offX_zero (a b c : Int) : offX a b c 0 = a := by unfold offX; rw [if_neg (by omega), if_pos rfl]
theorem offX_one (a b c : Int) : offX a b c 1 = b := by unfold offX; rw [if_neg (by omega), if_neg (by omega), if_pos rfl]
theorem offX_two (a b c : Int) : offX a b c 2 = c := by unfold offX; rw [if_neg (by omega), if_neg (by omega), if_neg (by omega)]
theorem offX_more (a b c x : Int) (h : 0 < x) : offX a b c (x + 2) = x := by unfold offX; rw [if_pos (by omega)]; omega
theorem off_num (a b c x : Int) (h : 0 ≤ numI a b c x) : offI a b c (numI a b c x) = some x := by
  have hx : offX a b c (numI a b c x) = x := by
    unfold numI at *
    by_cases h1 : x < 1 ∨ 65533 < x
    · rw [if_pos h1] at h; omega
    · rw [if_neg h1] at *
      by_cases ha : a = x
      · rw [if_pos ha, offX_zero, ha]
      · rw [if_neg ha]
        by_cases hb : b = x
        · rw [if_pos hb, offX_one, hb]
        · rw [if_neg hb]
          by_cases hc : c = x
          · rw [if_pos hc, offX_two, hc]
          · rw [if_neg hc, offX_more _ _ _ _ (by omega)]
  have hr := numI_cases a b c x
  unfold offI
  rw [if_neg (by omega), hx, if_pos rfl]
theorem off_some (a b c n x : Int) (h : offI a b c n = some x) : 0 ≤ n ∧ n ≤ 65535 ∧ numI a b c x = n := by
  unfold offI at h
  by_cases h1 : n < 0 ∨ 65535 < n
  · rw [if_pos h1] at h; cases h
  · rw [if_neg h1] at h
    by_cases h2 : numI a b c (offX a b c n) = n
    · rw [if_pos h2] at h
      injection h with h
      exact ⟨by omega, by omega, by rw [← h]; exact h2⟩
    · rw [if_neg h2] at h; cases h
theorem off_none (a b c n : Int) (h : offI a b c n = none) : n < 0 ∨ 65535 < n ∨ (2 < n ∧ n ≤ 65535 ∧ numI a b c (n - 2) ≠ n) ∨ (n = 0 ∧ numI a b c a ≠ n) ∨ (n = 1 ∧ numI a b c b ≠ n) ∨ (n = 2 ∧ numI a b c c ≠ n) := by
  unfold offI at h
  by_cases h1 : n < 0 ∨ 65535 < n
  · omega
  · rw [if_neg h1] at h
    by_cases h2 : numI a b c (offX a b c n) = n
    · rw [if_pos h2] at h; cases h
    · unfold offX at h2
      by_cases h3 : 2 < n
      · rw [if_pos h3] at h2
        exact .inr (.inr (.inl ⟨h3, by omega, h2⟩))
      · rw [if_neg h3] at h2
        by_cases h4 : n = 0
        · rw [if_pos h4] at h2
          exact .inr (.inr (.inr (.inl ⟨h4, h2⟩)))
        · rw [if_neg h4] at h2
          by_cases h5 : n = 1
          · rw [if_pos h5] at h2
            exact .inr (.inr (.inr (.inr (.inl ⟨h5, h2⟩))))
          · rw [if_neg h5] at h2
            exact .inr (.inr (.inr (.inr (.inr ⟨by omega, h2⟩))))
end Go.Proofs.YtbdciiiimdbmkaaGreat.Bm

namespace Go.Proofs.YtbdciiiimdbmkaaGreat.Bm

/-- A number in groups: seven bits each, the lowest first, 128 more in each but the last one. -/
def grpF : Nat → Nat → List Nat
  | 0, v => [v % 128]
  | f + 1, v => if v < 128 then [v] else (v % 128 + 128) :: grpF f (v / 128)
def grp (v : Nat) : List Nat := grpF 64 v
theorem grpF_fuel : ∀ (f v : Nat), v < 128 ^ (f + 1) → ∀ g, f ≤ g → grpF g v = grpF f v
  | 0, v, h, g, _ => by
    have h1 : v < 128 := by simpa using h
    cases g with
    | zero => rfl
    | succ g => simp [grpF, h1, Nat.mod_eq_of_lt h1]
  | f + 1, v, h, g, hg => by
    obtain ⟨g', rfl⟩ : ∃ k, g = k + 1 := ⟨g - 1, by omega⟩
    simp only [grpF]
    split
    · rfl
    · rw [grpF_fuel f (v / 128) (by rw [Nat.div_lt_iff_lt_mul (by omega), ← Nat.pow_succ]; exact h) g' (by omega)]
theorem grp_small (v : Nat) (h : v < 128) : grp v = [v] := by simp [grp, grpF, h]
theorem grp_big (v : Nat) (h : 128 ≤ v) (h64 : v < 2 ^ 64) : grp v = (v % 128 + 128) :: grp (v / 128) := by
  have h1 : v / 128 < 128 ^ (63 + 1) := by
    have : (2 : Nat) ^ 64 ≤ 128 ^ (63 + 1) := by decide +kernel
    have := Nat.div_le_self v 128
    omega
  unfold grp
  rw [grpF_fuel 63 (v / 128) h1 64 (by omega), show (64 : Nat) = 63 + 1 from rfl, grpF, if_neg (by omega)]
/-- The number whose groups these are. -/
def val7 : List Nat → Nat
  | [] => 0
  | b :: bs => b % 128 + 128 * val7 bs
theorem grp_induct {P : Nat → Prop} (small : ∀ v, v < 128 → P v) (big : ∀ v, 128 ≤ v → v < 2 ^ 64 → P (v / 128) → P v) : ∀ v, v < 2 ^ 64 → P v := by
  intro v
  induction v using Nat.strongRecOn with
  | _ v ih =>
    intro h
    by_cases h1 : v < 128
    · exact small v h1
    · exact big v (by omega) h (ih (v / 128) (by omega) (by omega))
theorem grp_val (v : Nat) (h : v < 2 ^ 64) : val7 (grp v) = v := by
  refine grp_induct (P := fun v => val7 (grp v) = v) ?_ ?_ v h
  · intro v h; rw [grp_small v h]; simp [val7]; omega
  · intro v h1 h2 ih; rw [grp_big v h1 h2, val7, ih]; omega
theorem grp_lt (v : Nat) (h : v < 2 ^ 64) : ∀ b ∈ grp v, b < 256 := by
  refine grp_induct (P := fun v => ∀ b ∈ grp v, b < 256) ?_ ?_ v h
  · intro v h b hb; rw [grp_small v h] at hb; simp at hb; omega
  · intro v h1 h2 ih b hb
    rw [grp_big v h1 h2] at hb
    rcases List.mem_cons.1 hb with rfl | hb
    · omega
    · exact ih b hb
theorem grp_pos (v : Nat) (h : v < 2 ^ 64) : 0 < (grp v).length := by
  by_cases h1 : v < 128
  · rw [grp_small v h1]; simp
  · rw [grp_big v (by omega) h]; simp
/-- How long the groups are: no more than k just if the number is below 128 ^ k. -/
theorem grp_len (v : Nat) (h : v < 2 ^ 64) : ∀ k, 0 < k → ((grp v).length ≤ k ↔ v < 128 ^ k) := by
  refine grp_induct (P := fun v => ∀ k, 0 < k → ((grp v).length ≤ k ↔ v < 128 ^ k)) ?_ ?_ v h
  · intro v h k hk
    rw [grp_small v h]
    obtain ⟨j, rfl⟩ : ∃ j, k = j + 1 := ⟨k - 1, by omega⟩
    have : 128 ≤ 128 ^ (j + 1) := by
      rw [Nat.pow_succ]
      have := Nat.pow_pos (n := j) (show 0 < 128 by omega)
      omega
    simp; omega
  · intro v h1 h2 ih k hk
    rw [grp_big v h1 h2]
    obtain ⟨j, rfl⟩ : ∃ j, k = j + 1 := ⟨k - 1, by omega⟩
    rcases Nat.eq_zero_or_pos j with h0 | h0
    · subst h0
      have := grp_pos (v / 128) (by omega)
      rw [List.length_cons, Nat.zero_add, Nat.pow_one]
      omega
    · have h3 := ih j h0
      rw [Nat.div_lt_iff_lt_mul (by omega), ← Nat.pow_succ] at h3
      rw [List.length_cons, ← h3]
      omega
theorem grp_ten (v : Nat) (h : v < 2 ^ 64) : (grp v).length ≤ 10 := by
  refine (grp_len v h 10 (by omega)).2 (Nat.lt_of_lt_of_le h ?_)
  decide +kernel
theorem grp_mono (a b : Nat) (hb : b < 2 ^ 64) (h : a ≤ b) : (grp a).length ≤ (grp b).length := by
  have h1 := grp_pos b hb
  refine (grp_len a (by omega) _ h1).2 (Nat.lt_of_le_of_lt h ((grp_len b hb _ h1).1 (Nat.le_refl _)))
theorem grp_inj (a b : Nat) (ha : a < 2 ^ 64) (hb : b < 2 ^ 64) (h : grp a = grp b) : a = b := by
  rw [← grp_val a ha, ← grp_val b hb, h]
/-- All but the last one have their highest bit, and the last one has not. -/
theorem grp_high (v : Nat) (h : v < 2 ^ 64) : ∃ front last, grp v = front ++ [last] ∧ last < 128 ∧ ∀ b ∈ front, 128 ≤ b := by
  refine grp_induct (P := fun v => ∃ front last, grp v = front ++ [last] ∧ last < 128 ∧ ∀ b ∈ front, 128 ≤ b) ?_ ?_ v h
  · intro v h; exact ⟨[], v, by rw [grp_small v h]; rfl, h, by simp⟩
  · intro v h1 h2 ⟨front, last, e, hl, hf⟩
    refine ⟨(v % 128 + 128) :: front, last, by rw [grp_big v h1 h2, e]; rfl, hl, ?_⟩
    intro b hb
    rcases List.mem_cons.1 hb with rfl | hb
    · omega
    · exact hf b hb
/-- What is behind the first k groups is what is left of the number. -/
theorem grp_drop (v : Nat) (h : v < 2 ^ 64) : ∀ k, k < (grp v).length → (grp v).drop k = grp (v / 128 ^ k) := by
  refine grp_induct (P := fun v => ∀ k, k < (grp v).length → (grp v).drop k = grp (v / 128 ^ k)) ?_ ?_ v h
  · intro v h k hk
    rw [grp_small v h] at hk
    obtain rfl : k = 0 := by simpa using hk
    simp
  · intro v h1 h2 ih k hk
    cases k with
    | zero => simp
    | succ k =>
      rw [grp_big v h1 h2] at hk ⊢
      rw [List.drop_succ_cons, ih k (by simpa using hk), Nat.div_div_eq_div_mul, Nat.pow_succ, Nat.mul_comm 128]
/-- How many bytes ahead have their highest bit. -/
def lead : List Nat → Nat
  | [] => 0
  | b :: bs => if 128 ≤ b then lead bs + 1 else 0
theorem lead_le (s : List Nat) : lead s ≤ s.length := by
  induction s with
  | nil => simp [lead]
  | cons b bs ih => simp only [lead]; split <;> simp <;> omega
theorem lead_high (s : List Nat) : ∀ i (h : i < s.length), i < lead s → 128 ≤ s[i] := by
  induction s with
  | nil => intro i h; simp at h
  | cons b bs ih =>
    intro i h hi
    simp only [lead] at hi
    split at hi
    · cases i with
      | zero => simpa
      | succ i => simpa using ih i (by simpa using h) (by omega)
    · omega
theorem lead_low (s : List Nat) (h : lead s < s.length) : s[lead s] < 128 := by
  induction s with
  | nil => simp at h
  | cons b bs ih =>
    simp only [lead] at h ⊢
    split
    · rename_i hb
      rw [if_pos hb] at h
      simpa using ih (by simpa using h)
    · simp; omega
theorem lead_front (front : List Nat) (last : Nat) (rest : List Nat) (hl : last < 128) (hf : ∀ b ∈ front, 128 ≤ b) : lead (front ++ last :: rest) = front.length := by
  induction front with
  | nil => simp [lead]; omega
  | cons b bs ih =>
    simp only [List.cons_append, lead]
    rw [if_pos (hf b List.mem_cons_self), ih (fun x hx => hf x (List.mem_cons_of_mem _ hx))]
    simp
/-- The number in groups at the beginning, and how many bytes it has; 0, 0: there is none. -/
def firstG (s : List Nat) : Nat × Nat :=
  if lead s = s.length ∨ 9 < lead s then (0, 0)
  else if val7 (s.take (lead s + 1)) < 2 ^ 64 ∧ grp (val7 (s.take (lead s + 1))) = s.take (lead s + 1) then (val7 (s.take (lead s + 1)), lead s + 1) else (0, 0)
theorem firstG_grp (v : Nat) (rest : List Nat) (h : v < 2 ^ 64) : firstG (grp v ++ rest) = (v, (grp v).length) := by
  obtain ⟨front, last, e, hl, hf⟩ := grp_high v h
  have h10 := grp_ten v h
  have hlead : lead (grp v ++ rest) = front.length := by rw [e, List.append_assoc]; exact lead_front front last rest hl hf
  have hlen : (grp v).length = front.length + 1 := by rw [e]; simp
  have htake : (grp v ++ rest).take (front.length + 1) = grp v := by rw [← hlen]; simp
  unfold firstG
  rw [hlead, htake, grp_val v h, if_neg (by rw [List.length_append, hlen]; omega), if_pos ⟨h, rfl⟩, hlen]
theorem firstG_some (s : List Nat) (v k : Nat) (hk : 0 < k) (h : firstG s = (v, k)) : v < 2 ^ 64 ∧ s.take k = grp v ∧ k ≤ s.length := by
  unfold firstG at h
  split at h
  · injection h with h1 h2; omega
  · rename_i hn
    split at h
    · rename_i hg
      injection h with h1 h2
      have := lead_le s
      subst h1 h2
      exact ⟨hg.1, hg.2.symm, by omega⟩
    · injection h with h1 h2; omega
theorem firstG_none (s : List Nat) (v : Nat) (h : firstG s = (v, 0)) : v = 0 := by
  unfold firstG at h
  split at h
  · injection h with h1 h2; exact h1.symm
  · split at h
    · injection h with h1 h2; omega
    · injection h with h1 h2; exact h1.symm
theorem val7_drop (s : List Nat) (i : Nat) (h : i < s.length) : val7 (s.drop i) = s[i] % 128 + 128 * val7 (s.drop (i + 1)) := by
  rw [List.drop_eq_getElem_cons h, val7]
theorem val7_ge (s : List Nat) (i : Nat) : 128 ^ i * val7 (s.drop i) ≤ val7 s := by
  induction i generalizing s with
  | zero => simp
  | succ i ih =>
    cases s with
    | nil => simp [val7]
    | cons b bs =>
      rw [List.drop_succ_cons, val7, Nat.pow_succ]
      have h1 := Nat.mul_le_mul_left 128 (ih bs)
      rw [Nat.mul_comm (128 ^ i) 128, Nat.mul_assoc]
      omega
theorem val7_big (s : List Nat) (i : Nat) (hi : 0 < i) (h : 144115188075855871 < val7 (s.drop i)) : ¬ val7 s < 2 ^ 64 := by
  have h1 := val7_ge s i
  obtain ⟨j, rfl⟩ : ∃ j, i = j + 1 := ⟨i - 1, by omega⟩
  rw [Nat.pow_succ, Nat.mul_assoc] at h1
  have h2 := Nat.mul_le_mul_right (128 * val7 (s.drop (j + 1))) (show 1 ≤ 128 ^ j from Nat.pow_pos (by omega))
  omega
end Go.Proofs.YtbdciiiimdbmkaaGreat.Bm

namespace Go.Proofs.YtbdciiiimdbmkaaGreat.Bm

/-- Symbols coded, the last one first: the bits as a number, how many, the state; none: one has no state. -/
def encR (ls : List Nat) (log : Nat) : List Nat → Option (Nat × Nat × Nat)
  | [] => some (0, 0, 0)
  | s :: rest => (encR ls log rest).bind fun t => (backP ls log t.2.2 s).map fun p => (t.1 + (t.2.2 - baseAt ls log p) * 2 ^ t.2.1, t.2.1 + bitsAt ls log p, p)
/-- m symbols of so many bits, from a state on; none: there are none. -/
def decR (ls : List Nat) (log : Nat) : Nat → Nat → Nat → Nat → Option (List Nat)
  | 0, _, len, st => if st = 0 ∧ len = 0 then some [] else none
  | m + 1, N, len, st => if len < bitsAt ls log st then none else
      (decR ls log m (N % 2 ^ (len - bitsAt ls log st)) (len - bitsAt ls log st) (baseAt ls log st + N / 2 ^ (len - bitsAt ls log st))).map fun l => symAt ls log st :: l
theorem enc_ok (ls : List Nat) (log : Nat) (h : FairN ls log) : ∀ (l : List Nat) (N n st : Nat), encR ls log l = some (N, n, st) → N < 2 ^ n ∧ st < 2 ^ log ∧ n ≤ log * l.length ∧ decR ls log l.length N n st = some l
  | [], N, n, st, e => by
    simp only [encR, Option.some.injEq, Prod.mk.injEq] at e
    obtain ⟨rfl, rfl, rfl⟩ := e
    exact ⟨by simp, Nat.pow_pos (by omega), by simp, by simp [decR]⟩
  | s :: l, N, n, st, e => by
    simp only [encR] at e
    cases hr : encR ls log l with
    | none => rw [hr] at e; simp at e
    | some t =>
      obtain ⟨N0, n0, st0⟩ := t
      rw [hr, Option.bind_some] at e
      dsimp only at e
      cases hb : backP ls log st0 s with
      | none => rw [hb] at e; simp at e
      | some p =>
        rw [hb, Option.map_some] at e
        simp only [Option.some.injEq, Prod.mk.injEq] at e
        obtain ⟨rfl, rfl, rfl⟩ := e
        obtain ⟨h1, h2, h3, h4⟩ := enc_ok ls log h l N0 n0 st0 hr
        have hb' := hb
        unfold backP at hb'
        have hf := List.find?_some hb'
        have hp := List.mem_range.1 (List.mem_of_find?_eq_some hb')
        obtain ⟨q1, q2, q3⟩ : leads ls log st0 s p := of_decide_eq_true hf
        have hbl := bits_at ls log p h hp
        have hv : st0 - baseAt ls log p < 2 ^ bitsAt ls log p := by
          generalize 2 ^ bitsAt ls log p = P at q3
          omega
        have hpos : 0 < 2 ^ n0 := Nat.pow_pos (by omega)
        refine ⟨?_, hp, ?_, ?_⟩
        · rw [Nat.pow_add]
          have h5 : (st0 - baseAt ls log p + 1) * 2 ^ n0 ≤ 2 ^ bitsAt ls log p * 2 ^ n0 := Nat.mul_le_mul_right _ hv
          rw [Nat.add_mul, Nat.one_mul] at h5
          rw [Nat.mul_comm (2 ^ n0)]
          generalize (st0 - baseAt ls log p) * 2 ^ n0 = A at h5
          generalize 2 ^ bitsAt ls log p * 2 ^ n0 = B at h5
          omega
        · rw [List.length_cons, Nat.mul_add, Nat.mul_one]; omega
        · rw [List.length_cons, decR, if_neg (by omega), Nat.add_sub_cancel, Nat.add_mul_mod_self_right, Nat.mod_eq_of_lt h1, Nat.add_mul_div_right _ _ hpos, Nat.div_eq_of_lt h1, Nat.zero_add, show baseAt ls log p + (st0 - baseAt ls log p) = st0 by omega, h4, q1]
          rfl
theorem dec_ok (ls : List Nat) (log : Nat) (h : FairN ls log) : ∀ (m N len st : Nat) (l : List Nat), N < 2 ^ len → st < 2 ^ log → decR ls log m N len st = some l → encR ls log l = some (N, len, st) ∧ l.length = m
  | 0, N, len, st, l, hN, _, e => by
    unfold decR at e
    split at e
    · next hc =>
      obtain ⟨rfl, rfl⟩ := hc
      injection e with e
      subst e
      have : N = 0 := by simpa using hN
      subst this
      exact ⟨rfl, rfl⟩
    · cases e
  | m + 1, N, len, st, l, hN, hst, e => by
    unfold decR at e
    split at e
    · cases e
    · next hlen =>
      cases hr : decR ls log m (N % 2 ^ (len - bitsAt ls log st)) (len - bitsAt ls log st) (baseAt ls log st + N / 2 ^ (len - bitsAt ls log st)) with
      | none => rw [hr] at e; simp at e
      | some l' =>
        rw [hr, Option.map_some] at e
        injection e with e
        subst e
        have hp : 0 < 2 ^ (len - bitsAt ls log st) := Nat.pow_pos (by omega)
        have hv : N / 2 ^ (len - bitsAt ls log st) < 2 ^ bitsAt ls log st := by
          rw [Nat.div_lt_iff_lt_mul hp, ← Nat.pow_add, show bitsAt ls log st + (len - bitsAt ls log st) = len by omega]
          exact hN
        have hba := base_at ls log st h hst
        have hs2 : baseAt ls log st + N / 2 ^ (len - bitsAt ls log st) < 2 ^ log := by
          generalize 2 ^ bitsAt ls log st = P at hv hba
          omega
        obtain ⟨h1, h2⟩ := dec_ok ls log h m _ _ _ l' (Nat.mod_lt _ hp) hs2 hr
        have hl : leads ls log (baseAt ls log st + N / 2 ^ (len - bitsAt ls log st)) (symAt ls log st) st := ⟨rfl, Nat.le_add_right _ _, Nat.add_lt_add_left hv _⟩
        have hb := back_is ls log _ _ st h hst hl
        refine ⟨?_, by rw [List.length_cons, h2]⟩
        simp only [encR]
        rw [h1, Option.bind_some]
        dsimp only
        rw [hb, Option.map_some]
        congr 1
        rw [Nat.add_sub_cancel_left]
        have hd := Nat.mod_add_div N (2 ^ (len - bitsAt ls log st))
        rw [Nat.mul_comm] at hd
        rw [hd, show len - bitsAt ls log st + bitsAt ls log st = len by omega]
/-- Symbols that have a share are coded; one that has none is not. -/
theorem enc_some (ls : List Nat) (log : Nat) (h : FairN ls log) : ∀ l : List Nat, (∀ s ∈ l, 0 < ls[s]?.getD 0) → ∃ t, encR ls log l = some t
  | [], _ => ⟨_, rfl⟩
  | s :: l, hl => by
    obtain ⟨⟨N0, n0, st0⟩, hr⟩ := enc_some ls log h l (fun x hx => hl x (List.mem_cons_of_mem _ hx))
    have hst := (enc_ok ls log h l N0 n0 st0 hr).2.1
    have h0 := hl s List.mem_cons_self
    cases hs : ls[s]? with
    | none => rw [hs] at h0; simp at h0
    | some n =>
      rw [hs, Option.getD_some] at h0
      obtain ⟨p, hp, _⟩ := back_some ls log st0 s n h hs h0 hst
      simp only [encR]
      rw [hr, Option.bind_some]
      dsimp only
      rw [hp]
      exact ⟨_, rfl⟩
theorem enc_none (ls : List Nat) (log : Nat) (h : FairN ls log) (s : Nat) (h0 : ls[s]?.getD 0 = 0) : ∀ l : List Nat, s ∈ l → encR ls log l = none
  | [], hm => by cases hm
  | x :: l, hm => by
    simp only [encR]
    rcases List.mem_cons.1 hm with rfl | hm
    · cases hr : encR ls log l with
      | none => rfl
      | some t => rw [Option.bind_some, back_none ls log _ _ h h0]; rfl
    · rw [enc_none ls log h s h0 l hm]; rfl
/-- All bits of a code: the state behind the others. -/
theorem code_split (N n st : Nat) (hN : N < 2 ^ n) : (N + st * 2 ^ n) % 2 ^ n = N ∧ (N + st * 2 ^ n) / 2 ^ n = st := by
  have hpos : 0 < 2 ^ n := Nat.pow_pos (by omega)
  exact ⟨by rw [Nat.add_mul_mod_self_right, Nat.mod_eq_of_lt hN], by rw [Nat.add_mul_div_right _ _ hpos, Nat.div_eq_of_lt hN, Nat.zero_add]⟩
end Go.Proofs.YtbdciiiimdbmkaaGreat.Bm

namespace Go.Proofs.YtbdciiiimdbmkaaGreat.Bm

theorem bitLen_fin : ∀ n : Fin 256, n.val ≠ 0 → 1 ≤ Lib.bitLen n.val ∧ Lib.bitLen n.val ≤ 8 ∧ 2 ^ (Lib.bitLen n.val - 1) ≤ n.val ∧ n.val < 2 ^ Lib.bitLen n.val := by decide +kernel
/-- The highest bit of V is bit k. -/
def Top (V k : Nat) : Prop := V / 2 ^ k = 1
theorem top_iff {V k : Nat} : Top V k ↔ 2 ^ k ≤ V ∧ V < 2 * 2 ^ k := by
  have hp := Nat.two_pow_pos k
  unfold Top
  constructor
  · intro h
    refine ⟨?_, ?_⟩
    · have := (Nat.le_div_iff_mul_le hp (x := 1) (y := V)).1 (by omega)
      omega
    · have := (Nat.div_lt_iff_lt_mul hp (x := V) (y := 2)).1 (by omega)
      omega
  · rintro ⟨h1, h2⟩
    have h3 := (Nat.le_div_iff_mul_le hp (x := 1) (y := V)).2 (by omega)
    have h4 := (Nat.div_lt_iff_lt_mul hp (x := V) (y := 2)).2 (by omega)
    omega
theorem Top.uniq {V j k : Nat} (h : Top V j) (h' : Top V k) : j = k := by
  obtain ⟨a, b⟩ := top_iff.1 h
  obtain ⟨c, d⟩ := top_iff.1 h'
  rcases Nat.lt_trichotomy j k with hl | hl | hl
  · have := Nat.pow_le_pow_right (n := 2) (by omega) (show j + 1 ≤ k from hl)
    rw [Nat.pow_succ] at this
    omega
  · exact hl
  · have := Nat.pow_le_pow_right (n := 2) (by omega) (show k + 1 ≤ j from hl)
    rw [Nat.pow_succ] at this
    omega
theorem Top.sum {V k : Nat} (h : Top V k) : V = V % 2 ^ k + 2 ^ k := by
  have := Nat.div_add_mod V (2 ^ k)
  rw [h, Nat.mul_one] at this
  omega
theorem top_sum (N n : Nat) (h : N < 2 ^ n) : Top (N + 2 ^ n) n := top_iff.2 ⟨by omega, by omega⟩
/-- The last byte tells where the highest bit is. -/
theorem top_last (front : List Nat) (b : Nat) (hf : ∀ x ∈ front, x < 256) (hb : b < 256) (h0 : b ≠ 0) : 1 ≤ Lib.bitLen b ∧ Lib.bitLen b ≤ 8 ∧ Top (valB (front ++ [b])) (8 * front.length + (Lib.bitLen b - 1)) := by
  obtain ⟨h1, h8, h2, h3⟩ := bitLen_fin ⟨b, hb⟩ h0
  have hl := valB_lt front hf
  simp only at h1 h8 h2 h3
  generalize Lib.bitLen b = L at h1 h2 h3 h8 ⊢
  refine ⟨h1, h8, ?_⟩
  obtain ⟨m, rfl⟩ : ∃ m, L = m + 1 := ⟨L - 1, by omega⟩
  rw [Nat.add_sub_cancel] at h2 ⊢
  rw [valB_snoc]
  rw [Nat.pow_succ] at h3
  refine top_iff.2 ⟨?_, ?_⟩
  · rw [Nat.pow_add, ← p256, Nat.mul_comm]
    have := Nat.mul_le_mul_right (256 ^ front.length) h2
    omega
  · rw [Nat.pow_add, ← p256, Nat.mul_comm (256 ^ front.length)]
    have := Nat.mul_le_mul_right (256 ^ front.length) (show b + 1 ≤ 2 ^ m * 2 by omega)
    rw [Nat.add_mul, Nat.one_mul] at this
    rw [← Nat.mul_assoc, Nat.mul_comm 2]
    omega
theorem low_bytes (N n q x : Nat) (h : 8 * q ≤ n) : bytesOf (N + x * 2 ^ n) q = bytesOf N q := by
  apply List.map_congr_left
  intro i hi
  rw [p256]
  exact low_digit N x n (8 * i) 8 (by have : i < q := by simpa using hi
                                      omega)
/-- Sealing whole bytes: a byte more. -/
theorem seal_whole (N n : Nat) (h : N < 2 ^ n) (h8 : n % 8 = 0) : bytesOf N ((n + 7) / 8) ++ [1] = bytesOf (N + 2 ^ n) (n / 8 + 1) := by
  have e : n = 8 * (n / 8) := by omega
  have h1 := low_bytes N n (n / 8) 1 (by omega)
  rw [Nat.one_mul] at h1
  rw [bytesOf_succ, h1, show (n + 7) / 8 = n / 8 by omega]
  congr 1
  have h2 := high_digit N 1 n 0 h
  rw [Nat.one_mul, Nat.add_zero, Nat.pow_zero, Nat.div_one] at h2
  rw [p256, ← e, h2]
/-- Sealing else: a bit more. -/
theorem seal_part (N n : Nat) (h : N < 2 ^ n) : (bytesOf N (n / 8 + 1)).set (n / 8) (N / 256 ^ (n / 8) % 256 + 2 ^ (n % 8)) = bytesOf (N + 2 ^ n) (n / 8 + 1) := by
  have h1 := bytesOf_bit N (n / 8) (n % 8) (by omega) (by rw [Nat.div_add_mod]; exact h)
  rw [Nat.div_add_mod] at h1
  exact h1
theorem sum_lt_bytes (N n : Nat) (h : N < 2 ^ n) : N + 2 ^ n < 256 ^ (n / 8 + 1) := by
  rw [p256]
  have h1 := Nat.pow_le_pow_right (n := 2) (by omega) (show n + 1 ≤ 8 * (n / 8 + 1) by omega)
  rw [Nat.pow_succ] at h1
  omega
theorem valB_seal (N n : Nat) (h : N < 2 ^ n) : valB (bytesOf (N + 2 ^ n) (n / 8 + 1)) = N + 2 ^ n := by
  rw [valB_bytesOf, Nat.mod_eq_of_lt (sum_lt_bytes N n h)]
/-- Sealed bytes are of one list of bits alone. -/
theorem seal_inj (N n M m : Nat) (h : N < 2 ^ n) (h' : M < 2 ^ m) (e : bytesOf (N + 2 ^ n) (n / 8 + 1) = bytesOf (M + 2 ^ m) (m / 8 + 1)) : n = m ∧ N = M := by
  have h1 := congrArg valB e
  rw [valB_seal N n h, valB_seal M m h'] at h1
  have h2 := top_sum N n h
  rw [h1] at h2
  have h3 := h2.uniq (top_sum M m h')
  subst h3
  exact ⟨rfl, by omega⟩
theorem bitsOf_seal (N n : Nat) (h : N < 2 ^ n) : bitsOf N n ++ [1] = bitsOf (N + 2 ^ n) (n + 1) := by
  have h1 := bitsOf_append N n 1 1 h
  have e : bitsOf 1 1 = [1] := by decide
  rw [e] at h1
  rw [h1]
  congr 1
  omega
/-- What is read below the highest bit. -/
theorem seal_digit (N n i d : Nat) (h : i + d ≤ n) : (N + 2 ^ n) / 2 ^ i % 2 ^ d = N / 2 ^ i % 2 ^ d := by
  have h1 := low_digit N 1 n i d h
  rw [Nat.one_mul] at h1
  exact h1
/-- One place further down, as long as there are noughts. -/
theorem top_step (V k : Nat) (h : V < 2 ^ (k + 1)) (h0 : V / 2 ^ k % 2 = 0) : V < 2 ^ k := by
  have h1 : V / 2 ^ k < 2 := by
    rw [Nat.div_lt_iff_lt_mul (Nat.two_pow_pos k), Nat.mul_comm, ← Nat.pow_succ]
    exact h
  have h2 : V / 2 ^ k < 1 := by omega
  have h3 := (Nat.div_lt_iff_lt_mul (Nat.two_pow_pos k) (x := V) (y := 1)).1 h2
  omega
theorem top_here (V k : Nat) (h : V < 2 ^ (k + 1)) (h1 : V / 2 ^ k % 2 ≠ 0) : Top V k := by
  have h2 : V / 2 ^ k < 2 := by
    rw [Nat.div_lt_iff_lt_mul (Nat.two_pow_pos k), Nat.mul_comm, ← Nat.pow_succ]
    exact h
  unfold Top
  generalize V / 2 ^ k = x at h1 h2 ⊢
  omega
end Go.Proofs.YtbdciiiimdbmkaaGreat.Bm

namespace Go.Proofs.YtbdciiiimdbmkaaGreat.Bm

/-- The bits of the numbers, the rest told: as a number, and how many. -/
def hdrN : List Nat → Nat → Nat × Nat
  | [], _ => (0, 0)
  | n :: l, rest => if rest = 0 then (0, 0) else (n + (hdrN l (rest - n)).1 * 2 ^ wid rest, wid rest + (hdrN l (rest - n)).2)
/-- At most so many numbers of so many bits, till the rest is 0: they, and how many bits are left; none: there are none. -/
def takeN : Nat → Nat → Nat → Nat → Option (List Nat × Nat)
  | 0, rest, _, len => if rest = 0 then some ([], len) else none
  | f + 1, rest, N, len => if rest = 0 then some ([], len) else if len < wid rest then none else if rest < N % 2 ^ wid rest then none else
      (takeN f (rest - N % 2 ^ wid rest) (N / 2 ^ wid rest) (len - wid rest)).map fun t => (N % 2 ^ wid rest :: t.1, t.2)
/-- Without noughts at the end. -/
def shortL : List Nat → List Nat
  | [] => []
  | n :: l => if n + l.sum = 0 then [] else n :: shortL l
theorem hdr_lt : ∀ (l : List Nat) (rest : Nat), l.sum ≤ rest → (hdrN l rest).1 < 2 ^ (hdrN l rest).2
  | [], rest, _ => by simp [hdrN]
  | n :: l, rest, h => by
    unfold hdrN
    split
    · simp
    · next h0 =>
      rw [List.sum_cons] at h
      have ih := hdr_lt l (rest - n) (by omega)
      have hw := wid_lt rest
      have hn : n < 2 ^ wid rest := Nat.lt_of_le_of_lt (by omega) hw
      show n + (hdrN l (rest - n)).1 * 2 ^ wid rest < 2 ^ (wid rest + (hdrN l (rest - n)).2)
      rw [Nat.pow_add, Nat.mul_comm (2 ^ wid rest)]
      have h5 : ((hdrN l (rest - n)).1 + 1) * 2 ^ wid rest ≤ 2 ^ (hdrN l (rest - n)).2 * 2 ^ wid rest := Nat.mul_le_mul_right _ ih
      rw [Nat.add_mul, Nat.one_mul] at h5
      generalize (hdrN l (rest - n)).1 * 2 ^ wid rest = A at h5 ⊢
      generalize 2 ^ (hdrN l (rest - n)).2 * 2 ^ wid rest = B at h5 ⊢
      generalize 2 ^ wid rest = P at hn h5
      omega
/-- A share's bits, whatever comes behind them, are taken as it is without noughts at its end. -/
theorem take_hdr : ∀ (l : List Nat) (rest X m f : Nat), l.sum = rest → l.length ≤ f → takeN f rest ((hdrN l rest).1 + X * 2 ^ (hdrN l rest).2) ((hdrN l rest).2 + m) = some (shortL l, m)
  | [], rest, X, m, f, h, _ => by
    have h0 : rest = 0 := by simpa using h.symm
    subst h0
    cases f <;> simp [takeN, hdrN, shortL]
  | n :: l, rest, X, m, f, h, hf => by
    rw [List.sum_cons] at h
    by_cases h0 : rest = 0
    · subst h0
      have e : shortL (n :: l) = [] := by unfold shortL; rw [if_pos h]
      rw [e]
      cases f <;> simp [takeN, hdrN]
    · obtain ⟨g, rfl⟩ : ∃ g, f = g + 1 := ⟨f - 1, by rw [List.length_cons] at hf; omega⟩
      have e : shortL (n :: l) = n :: shortL l := by
        rw [shortL, if_neg (by omega)]
      have hw := wid_lt rest
      have hn : n < 2 ^ wid rest := Nat.lt_of_le_of_lt (by omega) hw
      have hp : 0 < 2 ^ wid rest := Nat.pow_pos (by omega)
      have ih := take_hdr l (rest - n) X m g (by omega) (by rw [List.length_cons] at hf; omega)
      have e1 : (hdrN (n :: l) rest).1 = n + (hdrN l (rest - n)).1 * 2 ^ wid rest := by rw [hdrN, if_neg h0]
      have e2 : (hdrN (n :: l) rest).2 = wid rest + (hdrN l (rest - n)).2 := by rw [hdrN, if_neg h0]
      have e3 : n + (hdrN l (rest - n)).1 * 2 ^ wid rest + X * 2 ^ (wid rest + (hdrN l (rest - n)).2) = n + ((hdrN l (rest - n)).1 + X * 2 ^ (hdrN l (rest - n)).2) * 2 ^ wid rest := by
        rw [Nat.pow_add, Nat.add_mul, Nat.mul_assoc X, Nat.mul_comm (2 ^ wid rest), Nat.add_assoc]
      rw [e1, e2, e3, e, takeN, if_neg h0, if_neg (by omega)]
      have hm : (n + ((hdrN l (rest - n)).1 + X * 2 ^ (hdrN l (rest - n)).2) * 2 ^ wid rest) % 2 ^ wid rest = n := by rw [Nat.add_mul_mod_self_right, Nat.mod_eq_of_lt hn]
      have hd : (n + ((hdrN l (rest - n)).1 + X * 2 ^ (hdrN l (rest - n)).2) * 2 ^ wid rest) / 2 ^ wid rest = (hdrN l (rest - n)).1 + X * 2 ^ (hdrN l (rest - n)).2 := by rw [Nat.add_mul_div_right _ _ hp, Nat.div_eq_of_lt hn, Nat.zero_add]
      rw [hm, hd, if_neg (by omega), show wid rest + (hdrN l (rest - n)).2 + m - wid rest = (hdrN l (rest - n)).2 + m by omega, ih]
      rfl
/-- What is taken sums to the rest. -/
theorem take_fair : ∀ (f rest N len : Nat) (l : List Nat) (e : Nat), takeN f rest N len = some (l, e) → l.sum = rest ∧ l.length ≤ f ∧ e ≤ len
  | 0, rest, N, len, l, e, h => by
    unfold takeN at h
    split at h
    · next h0 =>
      injection h with h
      injection h with h1 h2
      subst h1 h2 h0
      simp
    · cases h
  | f + 1, rest, N, len, l, e, h => by
    unfold takeN at h
    split at h
    · next h0 =>
      injection h with h
      injection h with h1 h2
      subst h1 h2 h0
      simp
    · split at h
      · cases h
      · split at h
        · cases h
        · next h0 h1 h2 =>
          cases hr : takeN f (rest - N % 2 ^ wid rest) (N / 2 ^ wid rest) (len - wid rest) with
          | none => rw [hr] at h; simp at h
          | some t =>
            rw [hr, Option.map_some] at h
            injection h with h
            injection h with h3 h4
            subst h3 h4
            obtain ⟨k1, k2, k3⟩ := take_fair f _ _ _ t.1 t.2 hr
            refine ⟨by rw [List.sum_cons, k1]; omega, by rw [List.length_cons]; omega, by omega⟩
theorem short_sum : ∀ l : List Nat, (shortL l).sum = l.sum
  | [] => rfl
  | n :: l => by
    unfold shortL
    split
    · next h => rw [List.sum_cons, h]; rfl
    · rw [List.sum_cons, List.sum_cons, short_sum l]
/-- Noughts at the end have no bits. -/
theorem hdr_more : ∀ (l : List Nat) (rest k : Nat), l.sum = rest → hdrN (l ++ List.replicate k 0) rest = hdrN l rest
  | [], rest, k, h => by
    have h0 : rest = 0 := by simpa using h.symm
    subst h0
    cases k <;> simp [hdrN, List.replicate_succ]
  | n :: l, rest, k, h => by
    rw [List.sum_cons] at h
    rw [List.cons_append, hdrN, hdrN]
    split
    · rfl
    · rw [hdr_more l (rest - n) k (by omega)]
end Go.Proofs.YtbdciiiimdbmkaaGreat.Bm

namespace Go.Proofs.YtbdciiiimdbmkaaGreat.Bm

/-- A step: literals, match, offset. -/
abbrev Stp := Nat × Nat × Nat
/-- A step as it came in: literals, match, offset. -/
abbrev StZ := Int × Int × Int
/-- A step that may be, as one that came in. -/
def stpZ (s : Stp) : StZ := ((s.1 : Int), (s.2.1 : Int), (s.2.2 : Int))
end Go.Proofs.YtbdciiiimdbmkaaGreat.Bm

namespace Go.Proofs
open Go.Shelf
def Tryz.lays128_ren : Go.Shelf.Ren := ⟨fun | 128 => 82 | n => n, fun | 51 => 61 | 3 => 3 | 4 => 4 | 46 => 72 | 5 => 5 | 9 => 9 | n => n, fun | n => n⟩
theorem Tryz.lays128 : Go.Proofs.Lays.n128 Tryz.prog Tryz.lays128_ren := {
  mixed := by kernel_rfl
  f128 := Tryz.func82.trans (congrArg some (by kernel_rfl))
  t3 := Tryz.underlying3
  a3 := Tryz.isAgg3
  z3 := Tryz.sizeOf3
  v3 := Tryz.zeroValue3
  t4 := Tryz.underlying4
  a4 := Tryz.isAgg4
  z4 := Tryz.sizeOf4
  v4 := Tryz.zeroValue4
  t5 := Tryz.underlying5
  a5 := Tryz.isAgg5
  z5 := Tryz.sizeOf5
  v5 := Tryz.zeroValue5
  t9 := Tryz.underlying9
  a9 := Tryz.isAgg9
  z9 := Tryz.sizeOf9
  v9 := Tryz.zeroValue9
  t46 := Tryz.underlying72
  a46 := Tryz.isAgg72
  z46 := Tryz.sizeOf72
  v46 := Tryz.zeroValue72
  t51 := Tryz.underlying61
  a51 := Tryz.isAgg61
  z51 := Tryz.sizeOf61
  v51 := Tryz.zeroValue61 }
/-- The number of bits of a uint32. -/
theorem Tryz.bits_Len32 (x : Int) (w : World) (h0 : 0 ≤ x) (h1 : x ≤ 4294967295) :
    Calls Tryz.prog 82 #[.int .u32 x] w fun e w' => e = .returned (.int .i64 (Lib.bitLen x.toNat)) ∧ w' = w := Any.bits_Len32 Tryz.lays128 x w h0 h1
end Go.Proofs

namespace Go.Proofs.YtbdciiiimdbmkaaGreat.Bm

theorem val7_append (a b : List Nat) : val7 (a ++ b) = val7 a + 128 ^ a.length * val7 b := by
  induction a with
  | nil => simp [val7]
  | cons x xs ih =>
    rw [List.cons_append, val7, ih, val7, List.length_cons, Nat.pow_succ, Nat.mul_add, ← Nat.mul_assoc, Nat.mul_comm 128 (128 ^ xs.length)]
    omega
theorem val7_lt (s : List Nat) : val7 s < 128 ^ s.length := by
  induction s with
  | nil => simp [val7]
  | cons x xs ih =>
    rw [val7, List.length_cons, Nat.pow_succ]
    omega
theorem val7_snoc (s : List Nat) (x : Nat) : val7 (s ++ [x]) = val7 s + x % 128 * 128 ^ s.length := by
  rw [val7_append]; simp [val7, Nat.mul_comm]
theorem grp_val7 : ∀ (front : List Nat) (last : Nat), (∀ b ∈ front, 128 ≤ b ∧ b < 256) → last < 128 → (last ≠ 0 ∨ front = []) → val7 (front ++ [last]) < 2 ^ 64 → grp (val7 (front ++ [last])) = front ++ [last]
  | [], last, _, hl, _, _ => by
    have e : val7 ([] ++ [last]) = last := by simp [val7]; omega
    rw [e, grp_small last hl]; rfl
  | b :: fs, last, hf, hl, h0, h64 => by
    have hl0 : last ≠ 0 := by rcases h0 with h | h; exact h; cases h
    have hb := hf b List.mem_cons_self
    rw [List.cons_append, val7] at h64 ⊢
    have ih := grp_val7 fs last (fun x hx => hf x (List.mem_cons_of_mem _ hx)) hl (.inl hl0) (by omega)
    have h1 : 1 ≤ val7 (fs ++ [last]) := by
      rw [val7_snoc]
      have h2 : 1 ≤ last % 128 * 128 ^ fs.length := Nat.mul_pos (by omega) (Nat.pow_pos (by omega))
      omega
    rw [grp_big _ (by omega) h64, show (b % 128 + 128 * val7 (fs ++ [last])) / 128 = val7 (fs ++ [last]) by omega, ih]
    congr 1
    omega
/-- What the first number in groups is, where its last byte is known. -/
theorem firstG_at (s : List Nat) (hb : ∀ x ∈ s, x < 256) (i : Nat) (hi : i < s.length) (h9 : i ≤ 9) (hlead : lead s = i) :
    firstG s = if (i = 9 ∧ s[i] = 1) ∨ (i ≠ 9 ∧ (s[i] ≠ 0 ∨ i = 0)) then (val7 (s.take (i + 1)), i + 1) else (0, 0) := by
  have hlow : s[i] < 128 := by
    have h1 := lead_low s (by omega)
    simpa [hlead] using h1
  have htake : s.take (i + 1) = s.take i ++ [s[i]] := List.take_succ_eq_append_getElem hi
  have hlen : (s.take i).length = i := by rw [List.length_take]; omega
  have hfront : ∀ b ∈ s.take i, 128 ≤ b ∧ b < 256 := by
    intro b hbm
    obtain ⟨j, hj, rfl⟩ := List.mem_iff_getElem.1 hbm
    rw [hlen] at hj
    rw [List.getElem_take]
    exact ⟨lead_high s j (by omega) (by omega), hb _ (List.getElem_mem _)⟩
  have hval : val7 (s.take (i + 1)) = val7 (s.take i) + s[i] * 128 ^ i := by rw [htake, val7_snoc, hlen, Nat.mod_eq_of_lt hlow]
  have hvl : val7 (s.take i) < 128 ^ i := by have h1 := val7_lt (s.take i); rw [hlen] at h1; exact h1
  unfold firstG
  rw [hlead, if_neg (by omega)]
  by_cases hc : (i = 9 ∧ s[i] = 1) ∨ (i ≠ 9 ∧ (s[i] ≠ 0 ∨ i = 0))
  · rw [if_pos hc]
    have h64 : val7 (s.take (i + 1)) < 2 ^ 64 := by
      rcases hc with ⟨h, h1⟩ | ⟨h, _⟩
      · rw [hval, h1]
        rw [h] at hvl ⊢
        have : (128 : Nat) ^ 9 + 1 * 128 ^ 9 = 2 ^ 64 := by decide
        omega
      · have h1 := val7_lt (s.take (i + 1))
        have h2 : 128 ^ (s.take (i + 1)).length ≤ 128 ^ 9 := Nat.pow_le_pow_right (by omega) (by rw [List.length_take]; omega)
        have h3 : (128 : Nat) ^ 9 ≤ 2 ^ 64 := by decide
        omega
    have hg : grp (val7 (s.take (i + 1))) = s.take (i + 1) := by
      rw [htake] at h64 ⊢
      refine grp_val7 _ _ hfront hlow ?_ h64
      rcases hc with ⟨_, h1⟩ | ⟨_, h1 | h1⟩
      · left; omega
      · left; exact h1
      · right; subst h1; simp
    rw [if_pos ⟨h64, hg⟩]
  · rw [if_neg hc, if_neg]
    rintro ⟨h64, hg⟩
    by_cases h0 : s[i] = 0
    · have hi0 : 0 < i := by
        rcases Nat.eq_zero_or_pos i with h | h
        · exact absurd (Or.inr ⟨by omega, Or.inr h⟩) hc
        · exact h
      have h1 : val7 (s.take (i + 1)) < 128 ^ i := by rw [hval, h0]; omega
      have h2 := (grp_len _ h64 i hi0).2 h1
      rw [hg, List.length_take] at h2
      omega
    · have h9' : i = 9 := by
        rcases Nat.lt_or_ge i 9 with h | h
        · exact absurd (Or.inr ⟨by omega, Or.inl h0⟩) hc
        · omega
      have h1 : s[i] ≠ 1 := fun h => hc (Or.inl ⟨h9', h⟩)
      have h4 : 128 ^ i = 128 ^ 9 := by rw [h9']
      rw [hval, h4] at h64
      have h2 : 2 * 128 ^ 9 ≤ s[i] * 128 ^ 9 := Nat.mul_le_mul_right _ (by omega)
      have h3 : 2 * (128 : Nat) ^ 9 = 2 ^ 64 := by decide
      omega
theorem firstG_long (s : List Nat) (h : lead s = s.length ∨ 9 < lead s) : firstG s = (0, 0) := by
  unfold firstG; rw [if_pos h]
theorem lead_up (s : List Nat) (i : Nat) (h : i ≤ lead s) (hi : i < s.length) (h1 : 128 ≤ s[i]) : i + 1 ≤ lead s := by
  rcases Nat.lt_or_ge i (lead s) with h2 | h2
  · exact h2
  · have e : lead s = i := by omega
    have h3 := lead_low s (by omega)
    simp only [e] at h3
    omega
theorem lead_at (s : List Nat) (i : Nat) (h : i ≤ lead s) (hi : i < s.length) (h1 : s[i] < 128) : lead s = i := by
  rcases Nat.lt_or_ge i (lead s) with h2 | h2
  · have := lead_high s i hi h2
    omega
  · omega
theorem val7_take (s : List Nat) (i : Nat) (hi : i < s.length) : val7 (s.take (i + 1)) = val7 (s.take i) + s[i] % 128 * 128 ^ i := by
  rw [List.take_succ_eq_append_getElem hi, val7_snoc, List.length_take, Nat.min_eq_left (by omega)]
end Go.Proofs.YtbdciiiimdbmkaaGreat.Bm

namespace Go.Proofs.YtbdciiiimdbmkaaGreat.Bm
/-- A symbol's states among the first k. -/
def statesTo (ls : List Nat) (log k s : Nat) : List Nat := (List.range k).filter fun p => symAt ls log p == s
theorem states_zero (ls : List Nat) (log s : Nat) : statesTo ls log 0 s = [] := rfl
theorem states_same (ls : List Nat) (log k : Nat) : statesTo ls log (k + 1) (symAt ls log k) = statesTo ls log k (symAt ls log k) ++ [k] := by
  unfold statesTo
  rw [List.range_succ, List.filter_append]
  simp
theorem states_other (ls : List Nat) (log k s : Nat) (h : symAt ls log k ≠ s) : statesTo ls log (k + 1) s = statesTo ls log k s := by
  unfold statesTo
  rw [List.range_succ, List.filter_append]
  simp [h]
theorem states_pre (ls : List Nat) (log k m s : Nat) (h : k ≤ m) : ∃ l, statesTo ls log m s = statesTo ls log k s ++ l := by
  obtain ⟨d, rfl⟩ : ∃ d, m = k + d := ⟨m - k, by omega⟩
  induction d with
  | zero => exact ⟨[], by simp⟩
  | succ d ih =>
    obtain ⟨l, e⟩ := ih (by omega)
    by_cases hs : symAt ls log (k + d) = s
    · subst hs
      exact ⟨l ++ [k + d], by rw [← Nat.add_assoc, states_same, e, List.append_assoc]⟩
    · exact ⟨l, by rw [← Nat.add_assoc, states_other _ _ _ _ hs, e]⟩
theorem states_length (ls : List Nat) (log k s : Nat) (hk : k ≤ 2 ^ log) : (statesTo ls log k s).length = ((tab ls log).take k).count s := by
  induction k with
  | zero => simp [statesTo]
  | succ k ih =>
    have hl : k < (tab ls log).length := by rw [tab_length]; omega
    have g := tab_get ls log k (by omega)
    rw [List.getElem?_eq_getElem hl] at g
    injection g with g
    have h1 := count_take_succ (tab ls log) k s hl
    have h2 := ih (by omega)
    by_cases hs : symAt ls log k = s
    · subst hs
      rw [if_pos g] at h1
      rw [states_same, List.length_append, h1, h2]
      rfl
    · rw [if_neg (by rw [g]; exact hs)] at h1
      rw [states_other _ _ _ _ hs]
      omega
theorem states_all (ls : List Nat) (log s : Nat) (h : FairN ls log) : (statesTo ls log (2 ^ log) s).length = ls[s]?.getD 0 := by
  rw [states_length _ _ _ _ (Nat.le_refl _), ← tab_length ls log, List.take_length, tab_count ls log s h]
theorem states_at (ls : List Nat) (log p : Nat) (hp : p < 2 ^ log) : (statesTo ls log (2 ^ log) (symAt ls log p))[rankAt ls log p]? = some p := by
  obtain ⟨l, e⟩ := states_pre ls log (p + 1) (2 ^ log) (symAt ls log p) (by omega)
  rw [e, states_same]
  have hl : (statesTo ls log p (symAt ls log p)).length = rankAt ls log p := states_length _ _ _ _ (by omega)
  rw [List.append_assoc, ← hl]
  simp
theorem states_lt (ls : List Nat) (log k s x : Nat) (h : x ∈ statesTo ls log k s) : x < k := by
  unfold statesTo at h
  exact List.mem_range.1 (List.mem_filter.1 h).1
/-- The state ahead, where the number lies between the share and twice as much. -/
theorem back_shift (ls : List Nat) (log st s n b : Nat) (h : FairN ls log) (hs : ls[s]? = some n) (h0 : 0 < n) (hst : st < 2 ^ log)
    (h1 : n ≤ (st + 2 ^ log) / 2 ^ b) (h2 : (st + 2 ^ log) / 2 ^ b < 2 * n) :
    ∃ p, (statesTo ls log (2 ^ log) s)[(st + 2 ^ log) / 2 ^ b - n]? = some p ∧ backP ls log st s = some p ∧ bitsAt ls log p = b ∧ st - baseAt ls log p = (st + 2 ^ log) % 2 ^ b := by
  have hc := tab_count ls log s h
  rw [hs, Option.getD_some] at hc
  have e : 2 ^ (log + 1) = 2 ^ log * 2 := Nat.pow_succ 2 log
  have hp : 0 < 2 ^ b := Nat.pow_pos (by omega)
  have hn : n ≤ 2 ^ log := by rw [← hc, ← tab_length ls log]; exact List.count_le_length
  obtain ⟨x, hx⟩ : ∃ x, x = (st + 2 ^ log) / 2 ^ b := ⟨_, rfl⟩
  have hbl : b ≤ log := by
    rcases Nat.lt_or_ge log b with h3 | h3
    · have h4 : 2 ^ (log + 1) ≤ 2 ^ b := Nat.pow_le_pow_right (by omega) h3
      rw [Nat.div_eq_of_lt (by omega)] at h1
      omega
    · exact h3
  have hw : wid x = log - b + 1 := by
    rw [hx]
    refine wid_eq _ _ ((Nat.le_div_iff_mul_le hp).2 ?_) ((Nat.div_lt_iff_lt_mul hp).2 ?_)
    · rw [← Nat.pow_add, show log - b + b = log by omega]; omega
    · rw [← Nat.pow_add, show log - b + 1 + b = log + 1 by omega]; omega
  have hbx : bitsX log x = b := by unfold bitsX; rw [hw]; omega
  rw [← hx] at h1 h2 ⊢
  obtain ⟨p, hpl, e1, e2⟩ := rank_some (tab ls log) s (x - n) (by omega)
  have hp' : p < 2 ^ log := by rw [tab_length] at hpl; exact hpl
  have gp := tab_get ls log p hp'
  rw [List.getElem?_eq_getElem hpl, e1] at gp
  injection gp with gp
  have hr : rankAt ls log p = x - n := by unfold rankAt; rw [← gp, e2]
  have hnum : numAt ls log p = x := by
    unfold numAt
    rw [← gp, hs, Option.getD_some, hr]
    omega
  have hB : bitsAt ls log p = b := by unfold bitsAt; rw [hnum, hbx]
  have hx2 : x < 2 ^ (log + 1) := by omega
  have hl : leads ls log st s p := by
    refine ⟨gp.symm, ?_⟩
    unfold baseAt bitsAt
    rw [hnum]
    exact (in_stretch log x st (by omega) hx2).2 (by rw [hbx]; exact hx.symm)
  refine ⟨p, ?_, back_is ls log st s p h hp' hl, hB, ?_⟩
  · have h3 := states_at ls log p hp'
    rw [hr, ← gp] at h3
    exact h3
  · unfold baseAt baseX
    rw [hnum, hbx]
    have h3 := base_low log x (by omega) hx2
    rw [hbx] at h3
    have h4 := Nat.div_add_mod (st + 2 ^ log) (2 ^ b)
    rw [← hx, Nat.mul_comm] at h4
    omega
/-- The two widths that there are: just one leaves such a number. -/
theorem shift_hi (log st n : Nat) (h0 : 0 < n) (hn : n ≤ 2 ^ log) (hst : st < 2 ^ log) : (st + 2 ^ log) / 2 ^ (log + 1 - wid n) < 2 * n := by
  have e : 2 ^ (log + 1) = 2 ^ log * 2 := Nat.pow_succ 2 log
  have h1 := wid_le n h0
  have h2 := wid_one n h0
  have h3 := wid_le_of n (log + 1) (by omega)
  refine (Nat.div_lt_iff_lt_mul (Nat.pow_pos (by omega))).2 ?_
  have h4 : 2 ^ (log + 1) = 2 ^ (wid n - 1) * 2 * 2 ^ (log + 1 - wid n) := by
    rw [← Nat.pow_succ, ← Nat.pow_add]; congr 1; omega
  have h5 : 2 ^ (wid n - 1) * 2 * 2 ^ (log + 1 - wid n) ≤ 2 * n * 2 ^ (log + 1 - wid n) := Nat.mul_le_mul_right _ (by omega)
  omega
theorem shift_lo (log st n : Nat) (h0 : 0 < n) (hn : n ≤ 2 ^ log) (h : (st + 2 ^ log) / 2 ^ (log + 1 - wid n) < n) :
    1 ≤ log + 1 - wid n ∧ n ≤ (st + 2 ^ log) / 2 ^ (log + 1 - wid n - 1) ∧ (st + 2 ^ log) / 2 ^ (log + 1 - wid n - 1) < 2 * n := by
  have e : 2 ^ (log + 1) = 2 ^ log * 2 := Nat.pow_succ 2 log
  have h1 := wid_lt n
  have h2 := wid_one n h0
  have h3 := wid_le_of n (log + 1) (by omega)
  have hB : 1 ≤ log + 1 - wid n := by
    rcases Nat.eq_zero_or_pos (log + 1 - wid n) with h4 | h4
    · rw [h4, Nat.pow_zero, Nat.div_one] at h; omega
    · exact h4
  obtain ⟨b, hb⟩ : ∃ b, log + 1 - wid n = b + 1 := ⟨log + 1 - wid n - 1, by omega⟩
  rw [hb] at h ⊢
  rw [Nat.add_sub_cancel]
  refine ⟨by omega, ?_, ?_⟩
  · refine (Nat.le_div_iff_mul_le (Nat.pow_pos (by omega))).2 ?_
    have h4 : 2 ^ log = 2 ^ wid n * 2 ^ b := by rw [← Nat.pow_add]; congr 1; omega
    have h5 : n * 2 ^ b ≤ 2 ^ wid n * 2 ^ b := Nat.mul_le_mul_right _ (by omega)
    omega
  · rw [Nat.pow_succ, ← Nat.div_div_eq_div_mul] at h; omega
theorem back_no (ls : List Nat) (log st s : Nat) (h : FairN ls log) (hs : ls.length ≤ s) : backP ls log st s = none := back_none ls log st s h (by simp [hs])
theorem states_share (ls : List Nat) (log s n : Nat) (h : FairN ls log) (hs : ls[s]? = some n) : n ≤ 2 ^ log := by
  have hc := tab_count ls log s h
  rw [hs, Option.getD_some] at hc
  rw [← hc, ← tab_length ls log]
  exact List.count_le_length
end Go.Proofs.YtbdciiiimdbmkaaGreat.Bm
