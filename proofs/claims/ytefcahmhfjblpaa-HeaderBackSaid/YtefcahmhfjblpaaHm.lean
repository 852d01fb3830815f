/-
  Plain mathematics for layer 8 (header): a share's bits, taken again; what is taken is fair. It speaks of no program. No condition.
-/
import Derived.Test.YtefcahmhfjblpaaTm
namespace Go.Proofs.Ytefcahmhfjblpaa.Bm

/-- The bits of the numbers, the rest told: as a number, and how many. -/
def hdrN : List Nat → Nat → Nat × Nat
  | [], _ => (0, 0)
  | n :: l, rest => if rest = 0 then (0, 0) else (n + (hdrN l (rest - n)).1 * 2 ^ wid rest, wid rest + (hdrN l (rest - n)).2)
/-- At most so many numbers of so many bits, till the rest is 0: they, and how many bits are left; none: there are none. -/
def takeN : Nat → Nat → Nat → Nat → Option (List Nat × Nat)
  | 0, rest, _, len => if rest = 0 then some ([], len) else none
  | f + 1, rest, N, len => if rest = 0 then some ([], len) else if len < wid rest then none else if rest < N % 2 ^ wid rest then none else
      (takeN f (rest - N % 2 ^ wid rest) (N / 2 ^ wid rest) (len - wid rest)).map fun t => (N % 2 ^ wid rest :: t.1, t.2)
/-- Without noughts at the end. -/
def shortL : List Nat → List Nat
  | [] => []
  | n :: l => if n + l.sum = 0 then [] else n :: shortL l
theorem hdr_lt : ∀ (l : List Nat) (rest : Nat), l.sum ≤ rest → (hdrN l rest).1 < 2 ^ (hdrN l rest).2
  | [], rest, _ => by simp [hdrN]
  | n :: l, rest, h => by
    unfold hdrN
    split
    · simp
    · next h0 =>
      rw [List.sum_cons] at h
      have ih := hdr_lt l (rest - n) (by omega)
      have hw := wid_lt rest
      have hn : n < 2 ^ wid rest := Nat.lt_of_le_of_lt (by omega) hw
      show n + (hdrN l (rest - n)).1 * 2 ^ wid rest < 2 ^ (wid rest + (hdrN l (rest - n)).2)
      rw [Nat.pow_add, Nat.mul_comm (2 ^ wid rest)]
      have h5 : ((hdrN l (rest - n)).1 + 1) * 2 ^ wid rest ≤ 2 ^ (hdrN l (rest - n)).2 * 2 ^ wid rest := Nat.mul_le_mul_right _ ih
      rw [Nat.add_mul, Nat.one_mul] at h5
      generalize (hdrN l (rest - n)).1 * 2 ^ wid rest = A at h5 ⊢
      generalize 2 ^ (hdrN l (rest - n)).2 * 2 ^ wid rest = B at h5 ⊢
      generalize 2 ^ wid rest = P at hn h5
      omega
/-- A share's bits, whatever comes behind them, are taken as it is without noughts at its end. -/
theorem take_hdr : ∀ (l : List Nat) (rest X m f : Nat), l.sum = rest → l.length ≤ f → takeN f rest ((hdrN l rest).1 + X * 2 ^ (hdrN l rest).2) ((hdrN l rest).2 + m) = some (shortL l, m)
  | [], rest, X, m, f, h, _ => by
    have h0 : rest = 0 := by simpa using h.symm
    subst h0
    cases f <;> simp [takeN, hdrN, shortL]
  | n :: l, rest, X, m, f, h, hf => by
    rw [List.sum_cons] at h
    by_cases h0 : rest = 0
    · subst h0
      have e : shortL (n :: l) = [] := by unfold shortL; rw [if_pos h]
      rw [e]
      cases f <;> simp [takeN, hdrN]
    · obtain ⟨g, rfl⟩ : ∃ g, f = g + 1 := ⟨f - 1, by rw [List.length_cons] at hf; omega⟩
      have e : shortL (n :: l) = n :: shortL l := by
        rw [shortL, if_neg (by omega)]
      have hw := wid_lt rest
      have hn : n < 2 ^ wid rest := Nat.lt_of_le_of_lt (by omega) hw
      have hp : 0 < 2 ^ wid rest := Nat.pow_pos (by omega)
      have ih := take_hdr l (rest - n) X m g (by omega) (by rw [List.length_cons] at hf; omega)
      have e1 : (hdrN (n :: l) rest).1 = n + (hdrN l (rest - n)).1 * 2 ^ wid rest := by rw [hdrN, if_neg h0]
      have e2 : (hdrN (n :: l) rest).2 = wid rest + (hdrN l (rest - n)).2 := by rw [hdrN, if_neg h0]
      have e3 : n + (hdrN l (rest - n)).1 * 2 ^ wid rest + X * 2 ^ (wid rest + (hdrN l (rest - n)).2) = n + ((hdrN l (rest - n)).1 + X * 2 ^ (hdrN l (rest - n)).2) * 2 ^ wid rest := by
        rw [Nat.pow_add, Nat.add_mul, Nat.mul_assoc X, Nat.mul_comm (2 ^ wid rest), Nat.add_assoc]
      rw [e1, e2, e3, e, takeN, if_neg h0, if_neg (by omega)]
      have hm : (n + ((hdrN l (rest - n)).1 + X * 2 ^ (hdrN l (rest - n)).2) * 2 ^ wid rest) % 2 ^ wid rest = n := by rw [Nat.add_mul_mod_self_right, Nat.mod_eq_of_lt hn]
      have hd : (n + ((hdrN l (rest - n)).1 + X * 2 ^ (hdrN l (rest - n)).2) * 2 ^ wid rest) / 2 ^ wid rest = (hdrN l (rest - n)).1 + X * 2 ^ (hdrN l (rest - n)).2 := by rw [Nat.add_mul_div_right _ _ hp, Nat.div_eq_of_lt hn, Nat.zero_add]
      rw [hm, hd, if_neg (by omega), show wid rest + (hdrN l (rest - n)).2 + m - wid rest = (hdrN l (rest - n)).2 + m by omega, ih]
      rfl
/-- What is taken sums to the rest. -/
theorem take_fair : ∀ (f rest N len : Nat) (l : List Nat) (e : Nat), takeN f rest N len = some (l, e) → l.sum = rest ∧ l.length ≤ f ∧ e ≤ len
  | 0, rest, N, len, l, e, h => by
    unfold takeN at h
    split at h
    · next h0 =>
      injection h with h
      injection h with h1 h2
      subst h1 h2 h0
      simp
    · cases h
  | f + 1, rest, N, len, l, e, h => by
    unfold takeN at h
    split at h
    · next h0 =>
      injection h with h
      injection h with h1 h2
      subst h1 h2 h0
      simp
    · split at h
      · cases h
      · split at h
        · cases h
        · next h0 h1 h2 =>
          cases hr : takeN f (rest - N % 2 ^ wid rest) (N / 2 ^ wid rest) (len - wid rest) with
          | none => rw [hr] at h; simp at h
          | some t =>
            rw [hr, Option.map_some] at h
            injection h with h
            injection h with h3 h4
            subst h3 h4
            obtain ⟨k1, k2, k3⟩ := take_fair f _ _ _ t.1 t.2 hr
            refine ⟨by rw [List.sum_cons, k1]; omega, by rw [List.length_cons]; omega, by omega⟩
theorem short_sum : ∀ l : List Nat, (shortL l).sum = l.sum
  | [] => rfl
  | n :: l => by
    unfold shortL
    split
    · next h => rw [List.sum_cons, h]; rfl
    · rw [List.sum_cons, List.sum_cons, short_sum l]
/-- Noughts at the end have no bits. -/
theorem hdr_more : ∀ (l : List Nat) (rest k : Nat), l.sum = rest → hdrN (l ++ List.replicate k 0) rest = hdrN l rest
  | [], rest, k, h => by
    have h0 : rest = 0 := by simpa using h.symm
    subst h0
    cases k <;> simp [hdrN, List.replicate_succ]
  | n :: l, rest, k, h => by
    rw [List.sum_cons] at h
    rw [List.cons_append, hdrN, hdrN]
    split
    · rfl
    · rw [hdr_more l (rest - n) k (by omega)]
end Go.Proofs.Ytefcahmhfjblpaa.Bm
