/-
  What layer 8's calls (header) are to answer, as the laws' walks ask for it: definitions, each a premise of a law's walk; and their mathematics: a share's bits behind others are taken as it is; what is taken is fair. No condition.
-/
import Derived.Test.YtefcahmhfjblpaaHm
import Derived.Test.YtefcahmhfjblpaaTh
import Derived.Test.YtefcahmhfjblpaaMs
namespace Go.Proofs.Ytefcahmhfjblpaa
open Go.RowKit
namespace Bm
/-- A share's bits, as a number, and how many. -/
def hdrA (ls : List Nat) (lg : Nat) : Nat × Nat := (lg - 5 + (hdrN ls (2 ^ lg)).1 * 2 ^ 3, 3 + (hdrN ls (2 ^ lg)).2)
/-- The share at the beginning of bits, its log, how many bits are left; none: there is none. -/
def takeA (N len : Nat) : Option (List Nat × Nat × Nat) :=
  if len < 3 then none else if 4 < N % 2 ^ 3 then none else (takeN 256 (2 ^ (5 + N % 2 ^ 3)) (N / 2 ^ 3) (len - 3)).map fun t => (t.1, 5 + N % 2 ^ 3, t.2)
theorem hdrA_lt (ls : List Nat) (lg : Nat) (h : FairN ls lg) : (hdrA ls lg).1 < 2 ^ (hdrA ls lg).2 := by
  have h1 := hdr_lt ls (2 ^ lg) (Nat.le_of_eq h.sum)
  have h9 := h.high
  unfold hdrA
  dsimp only
  generalize (hdrN ls (2 ^ lg)).1 = A at h1 ⊢
  generalize (hdrN ls (2 ^ lg)).2 = k at h1 ⊢
  rw [Nat.pow_add]
  have : A * 2 ^ 3 + 2 ^ 3 ≤ 2 ^ 3 * 2 ^ k := by
    have h2 := Nat.mul_le_mul_right (2 ^ 3) h1
    rw [Nat.succ_mul, Nat.mul_comm (2 ^ k)] at h2
    exact h2
  omega
theorem hdr_bits : ∀ (l : List Nat) (rest : Nat), rest ≤ 512 → (hdrN l rest).2 ≤ 10 * l.length
  | [], rest, _ => by simp [hdrN]
  | n :: l, rest, h => by
    unfold hdrN
    split
    · simp
    · have h1 := hdr_bits l (rest - n) (by omega)
      have h2 := wid_le_of rest 10 (by omega)
      rw [List.length_cons]
      dsimp only
      omega
theorem hdrA_bits (ls : List Nat) (lg : Nat) (h : FairN ls lg) : 3 ≤ (hdrA ls lg).2 ∧ (hdrA ls lg).2 ≤ 3000 := by
  have hP := Nat.pow_le_pow_right (n := 2) (j := 9) (by omega) h.high
  have h1 := hdr_bits ls (2 ^ lg) (by omega)
  have h2 := h.len
  unfold hdrA
  dsimp only
  omega
theorem take_hdrA (ls : List Nat) (lg X m : Nat) (h : FairN ls lg) : takeA ((hdrA ls lg).1 + X * 2 ^ (hdrA ls lg).2) ((hdrA ls lg).2 + m) = some (shortL ls, lg, m) := by
  have h5 := h.low
  have h9 := h.high
  have ht := take_hdr ls (2 ^ lg) X m 256 h.sum h.len
  unfold hdrA
  dsimp only
  generalize (hdrN ls (2 ^ lg)).1 = A at ht ⊢
  generalize (hdrN ls (2 ^ lg)).2 = k at ht ⊢
  have e : lg - 5 + A * 2 ^ 3 + X * 2 ^ (3 + k) = (lg - 5) + (A + X * 2 ^ k) * 2 ^ 3 := by
    rw [Nat.pow_add, Nat.add_mul, Nat.mul_assoc X, Nat.mul_comm (2 ^ 3) (2 ^ k), Nat.add_assoc]
  have hm : (lg - 5 + (A + X * 2 ^ k) * 2 ^ 3) % 2 ^ 3 = lg - 5 := by rw [Nat.add_mul_mod_self_right]; exact Nat.mod_eq_of_lt (by omega)
  have hd : (lg - 5 + (A + X * 2 ^ k) * 2 ^ 3) / 2 ^ 3 = A + X * 2 ^ k := by
    rw [Nat.add_mul_div_right _ _ (by omega), Nat.div_eq_of_lt (by omega), Nat.zero_add]
  unfold takeA
  rw [e, hm, hd, if_neg (by omega), if_neg (by omega), show 5 + (lg - 5) = lg by omega, show 3 + k + m - 3 = k + m by omega, ht]
  rfl
theorem takeA_fair (N len : Nat) (l : List Nat) (lg e : Nat) (h : takeA N len = some (l, lg, e)) : FairN l lg ∧ e + 3 ≤ len := by
  unfold takeA at h
  split at h
  · cases h
  · split at h
    · cases h
    · next h3 h4 =>
      cases hr : takeN 256 (2 ^ (5 + N % 2 ^ 3)) (N / 2 ^ 3) (len - 3) with
      | none => rw [hr] at h; cases h
      | some t =>
        rw [hr, Option.map_some] at h
        injection h with h
        injection h with e1 h
        injection h with e2 e3
        subst e1 e2 e3
        obtain ⟨k1, k2, k3⟩ := take_fair _ _ _ _ _ _ hr
        exact ⟨⟨by omega, by omega, k2, k1⟩, by omega⟩
theorem fairN_fair (l : List Nat) (lg : Nat) (h : FairN l lg) : Fair (l.map (fun n : Nat => (n : Int))) (lg : Int) := by
  have hsum : ∀ l : List Nat, (l.map (fun n : Nat => (n : Int))).sum = ((l.sum : Nat) : Int) := fun l => by
    induction l with
    | nil => simp
    | cons a l ih => rw [List.map_cons, List.sum_cons, ih, List.sum_cons]; omega
  have hle : ∀ (l : List Nat) (x : Nat), x ∈ l → x ≤ l.sum := fun l => by
    induction l with
    | nil => intro x h; cases h
    | cons a l ih =>
      intro x hx
      rw [List.sum_cons]
      rcases List.mem_cons.1 hx with rfl | hx
      · omega
      · have := ih x hx; omega
  have h5 := h.low
  have h9 := h.high
  have hP := Nat.pow_le_pow_right (n := 2) (j := 9) (by omega) h9
  refine ⟨by omega, by omega, by rw [List.length_map]; exact h.len, ?_, by rw [hsum, h.sum, Int.toNat_natCast]⟩
  intro x hx
  obtain ⟨y, hy, rfl⟩ := List.mem_map.1 hx
  have h1 := hle l y hy
  rw [h.sum] at h1
  omega
end Bm
/-- What Take answers. -/
def TakeP (w' : World) (e : Ending) : Option (List Nat × Nat × Nat) → Prop
  | none => ∃ A c, e = .returned (.tuple #[.slice A 0 c, .int .i64 0, .bool false])
  | some t => ∃ A c, e = .returned (.tuple #[.slice A t.1.length c, .int .i64 (t.2.1 : Int), .bool true]) ∧ Reads w' A (i64s t.1)
theorem reads_lt {w : World} {A : Option Addr} {l : List Int} (h : Reads w A (i64z l)) (a : Addr) (e : A = some a) (hne : l ≠ []) : a.block < w.heap.size := by
  have h0 : 0 < l.length := List.length_pos_iff.2 hne
  obtain ⟨g, off, e2, hc⟩ := reads_iz h h0
  rw [e] at e2
  injection e2 with e2
  subst e2
  exact World.block_lt_of_cell? w _ (hc 0 h0)
/-- What the calls of layer 8 answer. -/
structure HdrOk : Prop where
  put : ∀ (w : World) (b off N n : Nat) (A : Option Addr) (c : Nat) (l : List Int) (log : Int), n ≤ 100000 → WS w b off N n → l.length ≤ 1000000 → (∀ x ∈ l, Bm.IntOk x) → Bm.IntOk log → Reads w A (i64z l) → (∀ a, A = some a → l ≠ [] → a.block ≠ b) → Bm.Fair l log →
    Calls Try.prog 8 #[.pointer (some ⟨b, off, none⟩), .slice A l.length c, .int .i64 log] w fun e w' => e = .returned (.bool true) ∧ WS w' b off (N + (Bm.hdrA (l.map Int.toNat) log.toNat).1 * 2 ^ n) (n + (Bm.hdrA (l.map Int.toNat) log.toNat).2) ∧ w.grownBy w' (some b)
  noPut : ∀ (w : World) (b off N n : Nat) (A : Option Addr) (c : Nat) (l : List Int) (log : Int), n ≤ 100000 → WS w b off N n → l.length ≤ 1000000 → (∀ x ∈ l, Bm.IntOk x) → Bm.IntOk log → Reads w A (i64z l) → ¬ Bm.Fair l log →
    Calls Try.prog 8 #[.pointer (some ⟨b, off, none⟩), .slice A l.length c, .int .i64 log] w fun e w' => e = .returned (.bool false) ∧ Below w.heap.size w w'
  putNil : ∀ (w : World) (A : Option Addr) (c : Nat) (l : List Int) (log : Int), l.length ≤ 1000000 → (∀ x ∈ l, Bm.IntOk x) → Bm.IntOk log → Reads w A (i64z l) →
    Calls Try.prog 8 #[.pointer none, .slice A l.length c, .int .i64 log] w fun e w' => e = .returned (.bool false) ∧ Below w.heap.size w w'
  take : ∀ (w : World) (b off pos : Nat) (bs : List Nat), bs.length ≤ 100000 → (∀ x ∈ bs, x < 256) → pos ≤ 8 * bs.length → RS w b off bs pos →
    Calls Try.prog 18 #[.pointer (some ⟨b, off, none⟩)] w fun e w' => TakeP w' e (Bm.takeA (Bm.valB bs / 2 ^ pos) (8 * bs.length - pos)) ∧ w.grownBy w' (some b) ∧
      ∀ t, Bm.takeA (Bm.valB bs / 2 ^ pos) (8 * bs.length - pos) = some t → RS w' b off bs (8 * bs.length - t.2.2)
  size : ∀ (w : World) (A : Option Addr) (c : Nat) (l : List Int) (log : Int), l.length ≤ 1000000 → (∀ x ∈ l, Bm.IntOk x) → Bm.IntOk log → Reads w A (i64z l) →
    Calls Try.prog 11 #[.slice A l.length c, .int .i64 log] w fun e w' => e = .returned (.int .i64 (if Bm.Fair l log then ((Bm.hdrA (l.map Int.toNat) log.toNat).2 : Int) else 0)) ∧ Below w.heap.size w w'
end Go.Proofs.Ytefcahmhfjblpaa
