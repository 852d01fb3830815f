/-
  Plain mathematics for layer 7 (fse): symbols by a table: what is coded is decoded again, what is decoded has just this code, how many bits there are. It speaks of no program. No condition.
-/
import Derived.Test.YtefcahmhfjblpaaTm
namespace Go.Proofs.Ytefcahmhfjblpaa.Bm

/-- Symbols coded, the last one first: the bits as a number, how many, the state; none: one has no state. -/
def encR (ls : List Nat) (log : Nat) : List Nat → Option (Nat × Nat × Nat)
  | [] => some (0, 0, 0)
  | s :: rest => (encR ls log rest).bind fun t => (backP ls log t.2.2 s).map fun p => (t.1 + (t.2.2 - baseAt ls log p) * 2 ^ t.2.1, t.2.1 + bitsAt ls log p, p)
/-- m symbols of so many bits, from a state on; none: there are none. -/
def decR (ls : List Nat) (log : Nat) : Nat → Nat → Nat → Nat → Option (List Nat)
  | 0, _, len, st => if st = 0 ∧ len = 0 then some [] else none
  | m + 1, N, len, st => if len < bitsAt ls log st then none else
      (decR ls log m (N % 2 ^ (len - bitsAt ls log st)) (len - bitsAt ls log st) (baseAt ls log st + N / 2 ^ (len - bitsAt ls log st))).map fun l => symAt ls log st :: l
theorem enc_ok (ls : List Nat) (log : Nat) (h : FairN ls log) : ∀ (l : List Nat) (N n st : Nat), encR ls log l = some (N, n, st) → N < 2 ^ n ∧ st < 2 ^ log ∧ n ≤ log * l.length ∧ decR ls log l.length N n st = some l
  | [], N, n, st, e => by
    simp only [encR, Option.some.injEq, Prod.mk.injEq] at e
    obtain ⟨rfl, rfl, rfl⟩ := e
    exact ⟨by simp, Nat.pow_pos (by omega), by simp, by simp [decR]⟩
  | s :: l, N, n, st, e => by
    simp only [encR] at e
    cases hr : encR ls log l with
    | none => rw [hr] at e; simp at e
    | some t =>
      obtain ⟨N0, n0, st0⟩ := t
      rw [hr, Option.bind_some] at e
      dsimp only at e
      cases hb : backP ls log st0 s with
      | none => rw [hb] at e; simp at e
      | some p =>
        rw [hb, Option.map_some] at e
        simp only [Option.some.injEq, Prod.mk.injEq] at e
        obtain ⟨rfl, rfl, rfl⟩ := e
        obtain ⟨h1, h2, h3, h4⟩ := enc_ok ls log h l N0 n0 st0 hr
        have hb' := hb
        unfold backP at hb'
        have hf := List.find?_some hb'
        have hp := List.mem_range.1 (List.mem_of_find?_eq_some hb')
        obtain ⟨q1, q2, q3⟩ : leads ls log st0 s p := of_decide_eq_true hf
        have hbl := bits_at ls log p h hp
        have hv : st0 - baseAt ls log p < 2 ^ bitsAt ls log p := by
          generalize 2 ^ bitsAt ls log p = P at q3
          omega
        have hpos : 0 < 2 ^ n0 := Nat.pow_pos (by omega)
        refine ⟨?_, hp, ?_, ?_⟩
        · rw [Nat.pow_add]
          have h5 : (st0 - baseAt ls log p + 1) * 2 ^ n0 ≤ 2 ^ bitsAt ls log p * 2 ^ n0 := Nat.mul_le_mul_right _ hv
          rw [Nat.add_mul, Nat.one_mul] at h5
          rw [Nat.mul_comm (2 ^ n0)]
          generalize (st0 - baseAt ls log p) * 2 ^ n0 = A at h5
          generalize 2 ^ bitsAt ls log p * 2 ^ n0 = B at h5
          omega
        · rw [List.length_cons, Nat.mul_add, Nat.mul_one]; omega
        · rw [List.length_cons, decR, if_neg (by omega), Nat.add_sub_cancel, Nat.add_mul_mod_self_right, Nat.mod_eq_of_lt h1, Nat.add_mul_div_right _ _ hpos, Nat.div_eq_of_lt h1, Nat.zero_add, show baseAt ls log p + (st0 - baseAt ls log p) = st0 by omega, h4, q1]
          rfl
theorem dec_ok (ls : List Nat) (log : Nat) (h : FairN ls log) : ∀ (m N len st : Nat) (l : List Nat), N < 2 ^ len → st < 2 ^ log → decR ls log m N len st = some l → encR ls log l = some (N, len, st) ∧ l.length = m
  | 0, N, len, st, l, hN, _, e => by
    unfold decR at e
    split at e
    · next hc =>
      obtain ⟨rfl, rfl⟩ := hc
      injection e with e
      subst e
      have : N = 0 := by simpa using hN
      subst this
      exact ⟨rfl, rfl⟩
    · cases e
  | m + 1, N, len, st, l, hN, hst, e => by
    unfold decR at e
    split at e
    · cases e
    · next hlen =>
      cases hr : decR ls log m (N % 2 ^ (len - bitsAt ls log st)) (len - bitsAt ls log st) (baseAt ls log st + N / 2 ^ (len - bitsAt ls log st)) with
      | none => rw [hr] at e; simp at e
      | some l' =>
        rw [hr, Option.map_some] at e
        injection e with e
        subst e
        have hp : 0 < 2 ^ (len - bitsAt ls log st) := Nat.pow_pos (by omega)
        have hv : N / 2 ^ (len - bitsAt ls log st) < 2 ^ bitsAt ls log st := by
          rw [Nat.div_lt_iff_lt_mul hp, ← Nat.pow_add, show bitsAt ls log st + (len - bitsAt ls log st) = len by omega]
          exact hN
        have hba := base_at ls log st h hst
        have hs2 : baseAt ls log st + N / 2 ^ (len - bitsAt ls log st) < 2 ^ log := by
          generalize 2 ^ bitsAt ls log st = P at hv hba
          omega
        obtain ⟨h1, h2⟩ := dec_ok ls log h m _ _ _ l' (Nat.mod_lt _ hp) hs2 hr
        have hl : leads ls log (baseAt ls log st + N / 2 ^ (len - bitsAt ls log st)) (symAt ls log st) st := ⟨rfl, Nat.le_add_right _ _, Nat.add_lt_add_left hv _⟩
        have hb := back_is ls log _ _ st h hst hl
        refine ⟨?_, by rw [List.length_cons, h2]⟩
        simp only [encR]
        rw [h1, Option.bind_some]
        dsimp only
        rw [hb, Option.map_some]
        congr 1
        rw [Nat.add_sub_cancel_left]
        have hd := Nat.mod_add_div N (2 ^ (len - bitsAt ls log st))
        rw [Nat.mul_comm] at hd
        rw [hd, show len - bitsAt ls log st + bitsAt ls log st = len by omega]
/-- Symbols that have a share are coded; one that has none is not. -/
theorem enc_some (ls : List Nat) (log : Nat) (h : FairN ls log) : ∀ l : List Nat, (∀ s ∈ l, 0 < ls[s]?.getD 0) → ∃ t, encR ls log l = some t
  | [], _ => ⟨_, rfl⟩
  | s :: l, hl => by
    obtain ⟨⟨N0, n0, st0⟩, hr⟩ := enc_some ls log h l (fun x hx => hl x (List.mem_cons_of_mem _ hx))
    have hst := (enc_ok ls log h l N0 n0 st0 hr).2.1
    have h0 := hl s List.mem_cons_self
    cases hs : ls[s]? with
    | none => rw [hs] at h0; simp at h0
    | some n =>
      rw [hs, Option.getD_some] at h0
      obtain ⟨p, hp, _⟩ := back_some ls log st0 s n h hs h0 hst
      simp only [encR]
      rw [hr, Option.bind_some]
      dsimp only
      rw [hp]
      exact ⟨_, rfl⟩
theorem enc_none (ls : List Nat) (log : Nat) (h : FairN ls log) (s : Nat) (h0 : ls[s]?.getD 0 = 0) : ∀ l : List Nat, s ∈ l → encR ls log l = none
  | [], hm => by cases hm
  | x :: l, hm => by
    simp only [encR]
    rcases List.mem_cons.1 hm with rfl | hm
    · cases hr : encR ls log l with
      | none => rfl
      | some t => rw [Option.bind_some, back_none ls log _ _ h h0]; rfl
    · rw [enc_none ls log h s h0 l hm]; rfl
/-- All bits of a code: the state behind the others. -/
theorem code_split (N n st : Nat) (hN : N < 2 ^ n) : (N + st * 2 ^ n) % 2 ^ n = N ∧ (N + st * 2 ^ n) / 2 ^ n = st := by
  have hpos : 0 < 2 ^ n := Nat.pow_pos (by omega)
  exact ⟨by rw [Nat.add_mul_mod_self_right, Nat.mod_eq_of_lt hN], by rw [Nat.add_mul_div_right _ _ hpos, Nat.div_eq_of_lt hN, Nat.zero_add]⟩
end Go.Proofs.Ytefcahmhfjblpaa.Bm
