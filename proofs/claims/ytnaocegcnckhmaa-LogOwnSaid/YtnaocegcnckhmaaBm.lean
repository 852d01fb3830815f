/-
  Plain mathematics for layer 1 (bits): a number's bits and bytes as lists of numbers; what is behind one another; a chain of words. It speaks of no program. No condition.
-/
namespace Go.Proofs.Ytnaocegcnckhmaa.Bm

/-- The lowest n bits of N, the lowest one first. -/
def bitsOf (N n : Nat) : List Nat := (List.range n).map fun i => N / 2 ^ i % 2
/-- The lowest L bytes of N, the lowest one first. -/
def bytesOf (N L : Nat) : List Nat := (List.range L).map fun i => N / 256 ^ i % 256
/-- The number whose bytes these are, the lowest one first. -/
def valB : List Nat → Nat
  | [] => 0
  | b :: bs => b + 256 * valB bs
/-- The number of a chain of words, the highest one first. -/
def chainVal : List Nat → Nat
  | [] => 0
  | u :: us => u * 2 ^ (64 * us.length) + chainVal us

theorem p256 (k : Nat) : 256 ^ k = 2 ^ (8 * k) := by
  rw [Nat.pow_mul]
theorem bitsOf_length (N n : Nat) : (bitsOf N n).length = n := by simp [bitsOf]
theorem bytesOf_length (N L : Nat) : (bytesOf N L).length = L := by simp [bytesOf]
theorem bitsOf_get (N n i : Nat) (h : i < (bitsOf N n).length) : (bitsOf N n)[i] = N / 2 ^ i % 2 := by simp [bitsOf]
theorem bytesOf_get (N L i : Nat) (h : i < (bytesOf N L).length) : (bytesOf N L)[i] = N / 256 ^ i % 256 := by simp [bytesOf]
theorem bitsOf_get? (N n i : Nat) (h : i < n) : (bitsOf N n)[i]? = some (N / 2 ^ i % 2) := by simp [bitsOf, h]
theorem bytesOf_get? (N L i : Nat) (h : i < L) : (bytesOf N L)[i]? = some (N / 256 ^ i % 256) := by simp [bytesOf, h]
theorem bytesOf_lt (N L : Nat) : ∀ b ∈ bytesOf N L, b < 256 := by
  intro b hb
  simp only [bytesOf, List.mem_map] at hb
  obtain ⟨i, _, rfl⟩ := hb
  exact Nat.mod_lt _ (by omega)
theorem bitsOf_succ (N n : Nat) : bitsOf N (n + 1) = bitsOf N n ++ [N / 2 ^ n % 2] := by simp [bitsOf, List.range_succ]
theorem bytesOf_succ (N n : Nat) : bytesOf N (n + 1) = bytesOf N n ++ [N / 256 ^ n % 256] := by simp [bytesOf, List.range_succ]

/-- A sum whose upper part is a multiple: the lower digits. -/
theorem low_digit (M x n i d : Nat) (hi : i + d ≤ n) : (M + x * 2 ^ n) / 2 ^ i % 2 ^ d = M / 2 ^ i % 2 ^ d := by
  obtain ⟨t, rfl⟩ : ∃ t, n = i + d + t := ⟨n - (i + d), by omega⟩
  have e : M + x * 2 ^ (i + d + t) = M + 2 ^ i * (2 ^ d * (x * 2 ^ t)) := by
    rw [Nat.pow_add, Nat.pow_add]
    ac_rfl
  rw [e, Nat.add_mul_div_left _ _ (Nat.two_pow_pos i), Nat.add_mul_mod_self_left]
theorem high_digit (M x n i : Nat) (hM : M < 2 ^ n) : (M + x * 2 ^ n) / 2 ^ (n + i) = x / 2 ^ i := by
  rw [Nat.pow_add, ← Nat.div_div_eq_div_mul, Nat.add_mul_div_right _ _ (Nat.two_pow_pos n), Nat.div_eq_of_lt hM, Nat.zero_add]
theorem mod_digit (v m i : Nat) (hi : i < m) : v % 2 ^ m / 2 ^ i % 2 = v / 2 ^ i % 2 := by
  have h := low_digit (v % 2 ^ m) (v / 2 ^ m) m i 1 (by omega)
  rw [Nat.mod_add_div'] at h
  rw [Nat.pow_one] at h
  exact h.symm
theorem mod_digit8 (v m i : Nat) (hi : i + 8 ≤ m) : v % 2 ^ m / 2 ^ i % 256 = v / 2 ^ i % 256 := by
  have h := low_digit (v % 2 ^ m) (v / 2 ^ m) m i 8 hi
  rw [Nat.mod_add_div'] at h
  exact h.symm
theorem bitsOf_mod (v m : Nat) : bitsOf (v % 2 ^ m) m = bitsOf v m := by
  apply List.map_congr_left
  intro i hi
  exact mod_digit v m i (by simpa using hi)
theorem bitsOf_append (N n v m : Nat) (hN : N < 2 ^ n) : bitsOf N n ++ bitsOf v m = bitsOf (N + v % 2 ^ m * 2 ^ n) (n + m) := by
  apply List.ext_getElem
  · simp [bitsOf_length]
  · intro i h1 h2
    simp only [List.length_append, bitsOf_length] at h1
    rw [bitsOf_get]
    by_cases hi : i < n
    · rw [List.getElem_append_left (by rw [bitsOf_length]; exact hi), bitsOf_get]
      have h := low_digit N (v % 2 ^ m) n i 1 (by omega)
      rw [Nat.pow_one] at h
      exact h.symm
    · rw [List.getElem_append_right (by rw [bitsOf_length]; omega), bitsOf_get, bitsOf_length]
      obtain ⟨j, rfl⟩ : ∃ j, i = n + j := ⟨i - n, by omega⟩
      rw [high_digit _ _ _ _ hN, mod_digit _ _ _ (by omega), Nat.add_sub_cancel_left]
theorem sum_lt (N n v m : Nat) (hN : N < 2 ^ n) : N + v % 2 ^ m * 2 ^ n < 2 ^ (n + m) := by
  have h : v % 2 ^ m + 1 ≤ 2 ^ m := Nat.mod_lt _ (Nat.two_pow_pos m)
  have h2 := Nat.mul_le_mul_right (2 ^ n) h
  rw [Nat.add_mul, Nat.one_mul] at h2
  rw [Nat.pow_add, Nat.mul_comm (2 ^ n)]
  omega
theorem bitsOf_take (N n m : Nat) (h : m ≤ n) : (bitsOf N n).take m = bitsOf N m := by
  unfold bitsOf
  rw [← List.map_take, List.take_range, Nat.min_eq_left h]
theorem bitsOf_drop (N n m : Nat) : (bitsOf N n).drop m = bitsOf (N / 2 ^ m) (n - m) := by
  apply List.ext_getElem
  · simp [bitsOf_length]
  · intro i h1 h2
    rw [List.getElem_drop, bitsOf_get, bitsOf_get, Nat.div_div_eq_div_mul, ← Nat.pow_add]
theorem bytesOf_take (N n m : Nat) (h : m ≤ n) : (bytesOf N n).take m = bytesOf N m := by
  unfold bytesOf
  rw [← List.map_take, List.take_range, Nat.min_eq_left h]
theorem bytesOf_drop (N n m : Nat) : (bytesOf N n).drop m = bytesOf (N / 256 ^ m) (n - m) := by
  apply List.ext_getElem
  · simp [bytesOf_length]
  · intro i h1 h2
    rw [List.getElem_drop, bytesOf_get, bytesOf_get, Nat.div_div_eq_div_mul, ← Nat.pow_add]
theorem bytesOf_split (N m t : Nat) : bytesOf N (m + t) = bytesOf N m ++ bytesOf (N / 256 ^ m) t := by
  have h := List.take_append_drop m (bytesOf N (m + t))
  rw [bytesOf_take _ _ _ (by omega), bytesOf_drop, Nat.add_sub_cancel_left] at h
  exact h.symm
theorem bytesOf_mod (v m L : Nat) (h : 8 * L ≤ m) : bytesOf (v % 2 ^ m) L = bytesOf v L := by
  apply List.map_congr_left
  intro i hi
  rw [p256]
  exact mod_digit8 v m (8 * i) (by have : i < L := by simpa using hi
                                   omega)
theorem bytesOf_zero (L : Nat) : bytesOf 0 L = List.replicate L 0 := by
  apply List.ext_getElem
  · simp [bytesOf_length]
  · intro i h1 h2
    rw [bytesOf_get]
    simp

/-- The reference's Bytes: a byte of noughts is put behind. -/
theorem bytesOf_push (M q : Nat) (hM : M < 2 ^ (8 * q)) : bytesOf M q ++ [0] = bytesOf M (q + 1) := by
  rw [bytesOf_succ, p256, Nat.div_eq_of_lt hM]
/-- The reference's Bytes: one bit more is set. -/
theorem bytesOf_bit (M q r : Nat) (hr : r < 8) (hM : M < 2 ^ (8 * q + r)) : (bytesOf M (q + 1)).set q (M / 256 ^ q % 256 + 2 ^ r) = bytesOf (M + 2 ^ (8 * q + r)) (q + 1) := by
  have hlow : ∀ i, i < q → (M + 2 ^ (8 * q + r)) / 256 ^ i % 256 = M / 256 ^ i % 256 := by
    intro i hi
    have h := low_digit M 1 (8 * q + r) (8 * i) 8 (by omega)
    rw [Nat.one_mul] at h
    rw [p256]
    exact h
  have htop : (M + 2 ^ (8 * q + r)) / 256 ^ q % 256 = M / 256 ^ q % 256 + 2 ^ r := by
    rw [p256, Nat.pow_add, Nat.add_mul_div_left _ _ (Nat.two_pow_pos _)]
    have h1 : M / 2 ^ (8 * q) < 2 ^ r := by
      rw [Nat.div_lt_iff_lt_mul (Nat.two_pow_pos _), ← Nat.pow_add, Nat.add_comm r]
      exact hM
    have h2 : 2 ^ r ≤ 2 ^ 7 := Nat.pow_le_pow_right (by omega) (by omega)
    have h3 : (2 : Nat) ^ 7 = 128 := by decide
    generalize M / 2 ^ (8 * q) = x at h1 ⊢
    generalize 2 ^ r = y at h1 h2 ⊢
    omega
  apply List.ext_getElem
  · simp [bytesOf_length]
  · intro i h1 h2
    simp only [List.length_set, bytesOf_length] at h1
    rw [List.getElem_set, bytesOf_get, bytesOf_get]
    by_cases hi : q = i
    · subst hi
      rw [if_pos rfl, htop]
    · rw [if_neg hi, hlow i (by omega)]
theorem mod_succ (N i : Nat) : N % 2 ^ (i + 1) = N % 2 ^ i + N / 2 ^ i % 2 * 2 ^ i := by
  rw [Nat.pow_succ, Nat.mod_mul, Nat.mul_comm (2 ^ i)]

theorem valB_snoc (xs : List Nat) (b : Nat) : valB (xs ++ [b]) = valB xs + b * 256 ^ xs.length := by
  induction xs with
  | nil => simp [valB]
  | cons x xs ih =>
    simp only [List.cons_append, valB, ih, List.length_cons, Nat.pow_succ]
    rw [Nat.mul_add, Nat.add_assoc, Nat.mul_comm (256 ^ xs.length) 256, Nat.mul_left_comm]
theorem valB_lt (xs : List Nat) (h : ∀ b ∈ xs, b < 256) : valB xs < 256 ^ xs.length := by
  induction xs with
  | nil => simp [valB]
  | cons x xs ih =>
    have h1 := ih (fun b hb => h b (List.mem_cons_of_mem _ hb))
    have h2 := h x List.mem_cons_self
    simp only [valB, List.length_cons, Nat.pow_succ]
    omega
theorem valB_drop (xs : List Nat) (k : Nat) (h : ∀ b ∈ xs, b < 256) : valB (xs.drop k) = valB xs / 256 ^ k := by
  induction k generalizing xs with
  | zero => simp
  | succ k ih =>
    cases xs with
    | nil => simp [valB]
    | cons x xs =>
      have h2 := h x List.mem_cons_self
      rw [List.drop_succ_cons, ih xs (fun b hb => h b (List.mem_cons_of_mem _ hb)), valB, Nat.pow_succ, Nat.mul_comm (256 ^ k), ← Nat.div_div_eq_div_mul]
      congr 1
      omega
theorem valB_take (xs : List Nat) (k : Nat) (h : ∀ b ∈ xs, b < 256) : valB (xs.take k) = valB xs % 256 ^ k := by
  induction k generalizing xs with
  | zero => simp [valB, Nat.mod_one]
  | succ k ih =>
    cases xs with
    | nil => simp [valB]
    | cons x xs =>
      have h2 := h x List.mem_cons_self
      rw [List.take_succ_cons, valB, valB, ih xs (fun b hb => h b (List.mem_cons_of_mem _ hb)), Nat.pow_succ, Nat.mul_comm (256 ^ k), Nat.mod_mul]
      have e1 : (x + 256 * valB xs) % 256 = x := by omega
      have e2 : (x + 256 * valB xs) / 256 = valB xs := by omega
      rw [e1, e2]
theorem bytesOf_valB (xs : List Nat) (h : ∀ b ∈ xs, b < 256) : bytesOf (valB xs) xs.length = xs := by
  apply List.ext_getElem
  · simp [bytesOf_length]
  · intro i h1 h2
    have h3 := h xs[i] (List.getElem_mem h2)
    rw [bytesOf_get, ← valB_drop xs i h, List.drop_eq_getElem_cons h2, valB]
    omega
theorem valB_bytesOf (N L : Nat) : valB (bytesOf N L) = N % 256 ^ L := by
  induction L with
  | zero => simp [bytesOf, valB, Nat.mod_one]
  | succ L ih => rw [bytesOf_succ, valB_snoc, ih, bytesOf_length, Nat.pow_succ, Nat.mod_mul, Nat.mul_comm (256 ^ L)]

/-- The reference's Bits: a byte more. -/
theorem bits_byte (xs : List Nat) (b : Nat) (h : ∀ x ∈ xs, x < 256) (hb : b < 256) : bitsOf (valB xs) (8 * xs.length) ++ bitsOf b 8 = bitsOf (valB (xs ++ [b])) (8 * xs.length + 8) := by
  have h1 := valB_lt xs h
  rw [p256] at h1
  rw [bitsOf_append _ _ _ _ h1, valB_snoc, p256, Nat.mod_eq_of_lt (show b < 2 ^ 8 from hb)]

/-- What Take reads: up to five bytes from the one in which the first bit is. -/
theorem take_eq (xs : List Nat) (h : ∀ b ∈ xs, b < 256) (pos n m : Nat) (hn : n ≤ 32) (hl : pos + n ≤ 8 * xs.length) (hm : m = min 5 (xs.length - pos / 8)) :
    valB ((xs.drop (pos / 8)).take m) / 2 ^ (pos % 8) % 2 ^ n = valB xs / 2 ^ pos % 2 ^ n := by
  have hd : ∀ b ∈ xs.drop (pos / 8), b < 256 := fun b hb => h b (List.mem_of_mem_drop hb)
  rw [valB_take _ _ hd]
  have e : valB xs / 2 ^ pos = valB (xs.drop (pos / 8)) / 2 ^ (pos % 8) := by
    rw [valB_drop _ _ h, p256, Nat.div_div_eq_div_mul, ← Nat.pow_add, Nat.div_add_mod]
  rw [e]
  by_cases h5 : xs.length - pos / 8 ≤ 5
  · have hlt := valB_lt _ hd
    rw [List.length_drop] at hlt
    rw [show m = xs.length - pos / 8 by omega, Nat.mod_eq_of_lt hlt]
  · rw [show m = 5 by omega]
    have hh := low_digit (valB (xs.drop (pos / 8)) % 256 ^ 5) (valB (xs.drop (pos / 8)) / 256 ^ 5) 40 (pos % 8) n (by omega)
    rw [show (256 : Nat) ^ 5 = 2 ^ 40 from p256 5] at hh ⊢
    rw [Nat.mod_add_div'] at hh
    exact hh.symm

/-- A word of a chain. -/
theorem chain_lt (us : List Nat) (h : ∀ u ∈ us, u < 2 ^ 64) : chainVal us < 2 ^ (64 * us.length) := by
  induction us with
  | nil => simp [chainVal]
  | cons u us ih =>
    have h1 := ih (fun b hb => h b (List.mem_cons_of_mem _ hb))
    have h2 : u + 1 ≤ 2 ^ 64 := h u List.mem_cons_self
    have h3 := Nat.mul_le_mul_right (2 ^ (64 * us.length)) h2
    rw [Nat.add_mul, Nat.one_mul] at h3
    simp only [chainVal, List.length_cons]
    rw [Nat.mul_add, Nat.mul_one, Nat.pow_add, Nat.mul_comm (2 ^ (64 * us.length))]
    omega

/-- What a Writer of the bits of N, n of them, keeps: the rest, and the chain of whole words, the last one first. -/
def WOk (N n rest : Nat) (us : List Nat) : Prop := us.length = n / 64 ∧ rest < 2 ^ (n % 64) ∧ (∀ u ∈ us, u < 2 ^ 64) ∧ N = rest * 2 ^ (64 * us.length) + chainVal us

theorem WOk.zero : WOk 0 0 0 [] := ⟨rfl, by decide, by simp, by simp [chainVal]⟩
theorem WOk.lt {N n rest : Nat} {us : List Nat} (h : WOk N n rest us) : N < 2 ^ n := by
  obtain ⟨h1, h2, h3, h4⟩ := h
  have hc := chain_lt us h3
  have hr := Nat.mul_le_mul_right (2 ^ (64 * us.length)) (show rest + 1 ≤ 2 ^ (n % 64) from h2)
  rw [Nat.add_mul, Nat.one_mul, ← Nat.pow_add, show n % 64 + 64 * us.length = n by omega] at hr
  omega
theorem WOk.rest_lt {N n rest : Nat} {us : List Nat} (h : WOk N n rest us) : rest < 2 ^ 64 :=
  Nat.lt_of_lt_of_le h.2.1 (Nat.pow_le_pow_right (by omega) (by omega))
theorem or_sum (a r x : Nat) (hr : r < 2 ^ a) : r ||| x * 2 ^ a = r + x * 2 ^ a := by
  rw [Nat.or_comm, Nat.mul_comm x, ← Nat.two_pow_add_eq_or_of_lt hr, Nat.add_comm]
theorem shl_mod (x a : Nat) (ha : a ≤ 64) : x * 2 ^ a % 2 ^ 64 = x % 2 ^ (64 - a) * 2 ^ a := by
  have e : (2 : Nat) ^ 64 = 2 ^ (64 - a) * 2 ^ a := by rw [← Nat.pow_add]; congr 1; omega
  rw [e, Nat.mul_mod_mul_right]
theorem WOk.put_low {N n rest : Nat} {us : List Nat} (h : WOk N n rest us) (v m : Nat) (hm : n % 64 + m < 64) :
    WOk (N + v % 2 ^ m * 2 ^ n) (n + m) (rest ||| v % 2 ^ m * 2 ^ (n % 64) % 2 ^ 64) us := by
  obtain ⟨h1, h2, h3, h4⟩ := h
  have hlow : v % 2 ^ m < 2 ^ (64 - n % 64) := Nat.lt_of_lt_of_le (Nat.mod_lt _ (Nat.two_pow_pos m)) (Nat.pow_le_pow_right (by omega) (by omega))
  have e1 : v % 2 ^ m * 2 ^ (n % 64) % 2 ^ 64 = v % 2 ^ m * 2 ^ (n % 64) := by rw [shl_mod _ _ (by omega), Nat.mod_eq_of_lt hlow]
  rw [e1, or_sum _ _ _ h2]
  have en : 2 ^ n = 2 ^ (n % 64) * 2 ^ (64 * us.length) := by rw [← Nat.pow_add]; congr 1; omega
  refine ⟨by omega, ?_, h3, ?_⟩
  · rw [show (n + m) % 64 = n % 64 + m by omega]
    exact sum_lt _ _ _ _ h2
  · rw [h4, en, Nat.add_mul]
    ac_rfl
theorem WOk.put_high {N n rest : Nat} {us : List Nat} (h : WOk N n rest us) (v m : Nat) (hm : m ≤ 32) (hge : 64 ≤ n % 64 + m) :
    WOk (N + v % 2 ^ m * 2 ^ n) (n + m) (v % 2 ^ m / 2 ^ (64 - n % 64)) ((rest ||| v % 2 ^ m * 2 ^ (n % 64) % 2 ^ 64) :: us) := by
  obtain ⟨h1, h2, h3, h4⟩ := h
  have en : 2 ^ n = 2 ^ (n % 64) * 2 ^ (64 * us.length) := by rw [← Nat.pow_add]; congr 1; omega
  have hx : v % 2 ^ m < 2 ^ m := Nat.mod_lt _ (Nat.two_pow_pos m)
  generalize v % 2 ^ m = x at hx ⊢
  rw [shl_mod _ _ (by omega), or_sum _ _ _ h2]
  refine ⟨by simp only [List.length_cons]; omega, ?_, ?_, ?_⟩
  · rw [Nat.div_lt_iff_lt_mul (Nat.two_pow_pos _), ← Nat.pow_add, show (n + m) % 64 + (64 - n % 64) = m by omega]
    exact hx
  · intro u hu
    rcases List.mem_cons.1 hu with rfl | hu
    · have h5 : x % 2 ^ (64 - n % 64) + 1 ≤ 2 ^ (64 - n % 64) := Nat.mod_lt _ (Nat.two_pow_pos _)
      have h6 := Nat.mul_le_mul_right (2 ^ (n % 64)) h5
      rw [Nat.add_mul, Nat.one_mul, ← Nat.pow_add, show 64 - n % 64 + n % 64 = 64 by omega] at h6
      omega
    · exact h3 u hu
  · have e64 : 2 ^ (64 * (us.length + 1)) = 2 ^ (64 - n % 64) * (2 ^ (n % 64) * 2 ^ (64 * us.length)) := by
      rw [← Nat.pow_add, ← Nat.pow_add]; congr 1; omega
    have hdm := Nat.div_add_mod x (2 ^ (64 - n % 64))
    simp only [chainVal, List.length_cons]
    rw [h4, en, e64]
    generalize x % 2 ^ (64 - n % 64) = xm at hdm ⊢
    generalize x / 2 ^ (64 - n % 64) = xd at hdm ⊢
    rw [← hdm]
    simp only [Nat.add_mul]
    generalize 2 ^ (64 - n % 64) = A
    generalize 2 ^ (n % 64) = B
    generalize 2 ^ (64 * us.length) = C
    rw [show A * xd * (B * C) = xd * (A * (B * C)) by ac_rfl, show xm * (B * C) = xm * B * C by ac_rfl]
    omega

/-- What fill does to a row of bytes. -/
def fillB (cs : List Nat) (off m v : Nat) : List Nat := cs.take off ++ bytesOf v m ++ cs.drop (off + m)
theorem fillB_length (cs : List Nat) (off m v : Nat) (h : off + m ≤ cs.length) : (fillB cs off m v).length = cs.length := by
  simp [fillB, bytesOf_length]; omega
theorem fillB_zero (cs : List Nat) (off v : Nat) : fillB cs off 0 v = cs := by
  simp [fillB, bytesOf]
theorem fillB_step (cs : List Nat) (off i v : Nat) (h : off + i < cs.length) : (fillB cs off i v).set (off + i) (v / 256 ^ i % 256) = fillB cs off (i + 1) v := by
  unfold fillB
  have h1 : (cs.take off ++ bytesOf v i).length = off + i := by simp [bytesOf_length]; omega
  rw [List.set_append_right _ _ (by omega), h1, Nat.sub_self, List.drop_eq_getElem_cons (by omega), List.set_cons_zero, bytesOf_succ]
  simp [Nat.add_assoc]
theorem bytes_start (N n rest : Nat) (us : List Nat) (h : WOk N n rest us) :
    fillB (List.replicate ((n + 7) / 8) 0) (8 * us.length) (min ((n + 7) / 8 - 8 * us.length) 8) rest = List.replicate (8 * us.length) 0 ++ (bytesOf N ((n + 7) / 8)).drop (8 * us.length) := by
  obtain ⟨h1, h2, h3, h4⟩ := h
  have hc := chain_lt us h3
  have e : N / 256 ^ (8 * us.length) = rest := by
    rw [p256, show 8 * (8 * us.length) = 64 * us.length by omega, h4, Nat.add_comm, Nat.add_mul_div_right _ _ (Nat.two_pow_pos _), Nat.div_eq_of_lt hc, Nat.zero_add]
  rw [bytesOf_drop, e]
  unfold fillB
  rw [show min ((n + 7) / 8 - 8 * us.length) 8 = (n + 7) / 8 - 8 * us.length by omega, List.take_replicate, List.drop_replicate,
    show min (8 * us.length) ((n + 7) / 8) = 8 * us.length by omega, show (n + 7) / 8 - (8 * us.length + ((n + 7) / 8 - 8 * us.length)) = 0 by omega]
  simp
theorem bytes_step (N L j : Nat) (hL : 8 * (j + 1) ≤ L) :
    fillB (List.replicate (8 * (j + 1)) 0 ++ (bytesOf N L).drop (8 * (j + 1))) (8 * j) 8 (N / 2 ^ (64 * j) % 2 ^ 64) = List.replicate (8 * j) 0 ++ (bytesOf N L).drop (8 * j) := by
  have e1 : bytesOf (N / 2 ^ (64 * j) % 2 ^ 64) 8 = bytesOf (N / 256 ^ (8 * j)) 8 := by
    rw [bytesOf_mod _ _ _ (by omega), p256, show 8 * (8 * j) = 64 * j by omega]
  obtain ⟨t, rfl⟩ : ∃ t, L = 8 * j + (8 + t) := ⟨L - 8 * (j + 1), by omega⟩
  unfold fillB
  rw [e1, bytesOf_drop N _ (8 * j), Nat.add_sub_cancel_left, bytesOf_split (N / 256 ^ (8 * j)) 8 t, Nat.div_div_eq_div_mul, ← Nat.pow_add, bytesOf_drop,
    show 8 * j + (8 + t) - 8 * (j + 1) = t by omega, show 8 * (j + 1) = 8 * j + 8 by omega]
  rw [List.take_append_of_le_length (by simp), List.take_replicate, show min (8 * j) (8 * j + 8) = 8 * j by omega, List.append_assoc, List.drop_append_of_le_length (by simp), List.drop_replicate, Nat.sub_self]
  simp
/-- The chain's head, and what is behind it. -/
theorem chain_head (N u : Nat) (us : List Nat) (h3 : ∀ x ∈ us, x < 2 ^ 64) (h : chainVal (u :: us) = N % 2 ^ (64 * (us.length + 1))) :
    u = N / 2 ^ (64 * us.length) % 2 ^ 64 ∧ chainVal us = N % 2 ^ (64 * us.length) := by
  have hc := chain_lt us h3
  have e : N % 2 ^ (64 * (us.length + 1)) = N % 2 ^ (64 * us.length) + 2 ^ (64 * us.length) * (N / 2 ^ (64 * us.length) % 2 ^ 64) := by
    rw [Nat.mul_add, Nat.mul_one, Nat.pow_add, Nat.mod_mul]
  rw [e] at h
  simp only [chainVal] at h
  have hm : N % 2 ^ (64 * us.length) < 2 ^ (64 * us.length) := Nat.mod_lt _ (Nat.two_pow_pos _)
  generalize N / 2 ^ (64 * us.length) % 2 ^ 64 = q at h ⊢
  generalize N % 2 ^ (64 * us.length) = r at h hm ⊢
  generalize 2 ^ (64 * us.length) = A at h hc hm ⊢
  have h5 : (chainVal us + u * A) / A = u := by
    rw [Nat.add_mul_div_right _ _ (by omega), Nat.div_eq_of_lt hc, Nat.zero_add]
  have h6 : (r + A * q) / A = q := by
    rw [Nat.add_mul_div_left _ _ (by omega), Nat.div_eq_of_lt hm, Nat.zero_add]
  have h7 : u = q := by
    rw [← h5, ← h6, ← h]; congr 1; omega
  subst h7
  refine ⟨rfl, ?_⟩
  rw [Nat.mul_comm A] at h
  omega
theorem WOk.chain {N n rest : Nat} {us : List Nat} (h : WOk N n rest us) : chainVal us = N % 2 ^ (64 * us.length) := by
  obtain ⟨h1, h2, h3, h4⟩ := h
  rw [h4, Nat.add_comm, Nat.add_mul_mod_self_right, Nat.mod_eq_of_lt (chain_lt us h3)]
end Go.Proofs.Ytnaocegcnckhmaa.Bm
