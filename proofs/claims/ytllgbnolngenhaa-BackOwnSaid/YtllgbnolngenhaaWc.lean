/-
  BitsBack (layer 1): what pieces come to, one behind the other; a slice of pieces that came in. No condition.
-/
import Derived.Test.YtllgbnolngenhaaWj
import Derived.Test.YtllgbnolngenhaaAr
import Derived.Deep.Slices
import Derived.Deep.Fields
import Derived.RegionTactic
import Derived.Deep.RegionWith
namespace Go.Proofs.Ytllgbnolngenhaa
open Go.RowKit Go.ChangeShapes Go.WideShapes

/-- Whether a piece's number of bits may be. -/
def okP (p : Nat × Int) : Bool := decide (0 ≤ p.2) && decide (p.2 ≤ 32)
/-- The bits behind one piece more. -/
def stepP (s : Nat × Nat) (p : Nat × Int) : Nat × Nat := if okP p then (s.1 + p.1 % 2 ^ p.2.toNat * 2 ^ s.2, s.2 + p.2.toNat) else s
/-- The bits of the first k pieces: the number, and how many. -/
def enc (ps : List (Nat × Int)) (k : Nat) : Nat × Nat := (ps.take k).foldl stepP (0, 0)
theorem enc_zero (ps : List (Nat × Int)) : enc ps 0 = (0, 0) := by simp [enc]
theorem enc_succ (ps : List (Nat × Int)) (k : Nat) (h : k < ps.length) : enc ps (k + 1) = stepP (enc ps k) ps[k] := by
  unfold enc
  rw [List.take_succ_eq_append_getElem h, List.foldl_append]
  rfl
theorem enc_ok (ps : List (Nat × Int)) (k : Nat) (h : k < ps.length) (q : Nat) (hq : ps[k].2 = (q : Int)) (h32 : q ≤ 32) : enc ps (k + 1) = ((enc ps k).1 + ps[k].1 % 2 ^ q * 2 ^ (enc ps k).2, (enc ps k).2 + q) := by
  rw [enc_succ ps k h]
  unfold stepP okP
  rw [hq, if_pos (by simp; omega), Int.toNat_natCast]
theorem enc_bad (ps : List (Nat × Int)) (k : Nat) (h : k < ps.length) (hb : ps[k].2 < 0 ∨ 32 < ps[k].2) : enc ps (k + 1) = enc ps k := by
  rw [enc_succ ps k h]
  unfold stepP okP
  rw [if_neg (by simp; omega)]
theorem enc_le (ps : List (Nat × Int)) (k : Nat) (h : k ≤ ps.length) : (enc ps k).2 ≤ 32 * k := by
  induction k with
  | zero => simp [enc_zero]
  | succ k ih =>
    have h1 := ih (by omega)
    rw [enc_succ ps k (by omega)]
    unfold stepP
    split
    · rename_i ho
      simp only [okP, Bool.and_eq_true, decide_eq_true_eq] at ho
      show (enc ps k).2 + _ ≤ _
      omega
    · omega
theorem enc_lt (ps : List (Nat × Int)) (k : Nat) (h : k ≤ ps.length) : (enc ps k).1 < 2 ^ (enc ps k).2 := by
  induction k with
  | zero => simp [enc_zero]
  | succ k ih =>
    have h1 := ih (by omega)
    rw [enc_succ ps k (by omega)]
    unfold stepP
    split
    · exact Bm.sum_lt _ _ _ _ h1
    · exact h1
/-- What is behind the first k pieces' bits is those bits, and more. -/
theorem enc_more (ps : List (Nat × Int)) (k j : Nat) (hj : k + j ≤ ps.length) : (enc ps k).2 ≤ (enc ps (k + j)).2 ∧ ∃ t, (enc ps (k + j)).1 = (enc ps k).1 + t * 2 ^ (enc ps k).2 := by
  induction j with
  | zero => exact ⟨Nat.le_refl _, 0, by simp⟩
  | succ j ih =>
    obtain ⟨h1, t, h2⟩ := ih (by omega)
    rw [show k + (j + 1) = (k + j) + 1 by omega, enc_succ ps (k + j) (by omega)]
    unfold stepP
    split
    · refine ⟨Nat.le_trans h1 (Nat.le_add_right _ _), t + ps[k + j].1 % 2 ^ ps[k + j].2.toNat * 2 ^ ((enc ps (k + j)).2 - (enc ps k).2), ?_⟩
      show (enc ps (k + j)).1 + _ = _
      have e : 2 ^ (enc ps (k + j)).2 = 2 ^ ((enc ps (k + j)).2 - (enc ps k).2) * 2 ^ (enc ps k).2 := by rw [← Nat.pow_add]; congr 1; omega
      rw [h2, e, Nat.add_mul, ← Nat.mul_assoc]
      omega
    · exact ⟨h1, t, h2⟩
theorem enc_take (ps : List (Nat × Int)) (k : Nat) (h : k < ps.length) (q : Nat) (hq : ps[k].2 = (q : Int)) (h32 : q ≤ 32) : (enc ps ps.length).1 / 2 ^ (enc ps k).2 % 2 ^ q = ps[k].1 % 2 ^ q := by
  obtain ⟨_, t, h2⟩ := enc_more ps (k + 1) (ps.length - (k + 1)) (by omega)
  rw [show k + 1 + (ps.length - (k + 1)) = ps.length by omega, enc_ok ps k h q hq h32] at h2
  have hlt := enc_lt ps k (by omega)
  have e : (enc ps ps.length).1 = (enc ps k).1 + (ps[k].1 % 2 ^ q + t * 2 ^ q) * 2 ^ (enc ps k).2 := by
    rw [h2]
    show (enc ps k).1 + _ + t * 2 ^ ((enc ps k).2 + q) = _
    rw [Nat.pow_add, Nat.add_mul, Nat.mul_assoc t, Nat.mul_comm (2 ^ q) (2 ^ (enc ps k).2)]
    omega
  have h3 := Bm.high_digit (enc ps k).1 (ps[k].1 % 2 ^ q + t * 2 ^ q) (enc ps k).2 0 hlt
  rw [Nat.add_zero, Nat.pow_zero, Nat.div_one] at h3
  rw [e, h3, Nat.add_mul_mod_self_right, Nat.mod_mod]
theorem enc_pos (ps : List (Nat × Int)) (k : Nat) (h : k < ps.length) (q : Nat) (hq : ps[k].2 = (q : Int)) (h32 : q ≤ 32) : (enc ps k).2 + q ≤ (enc ps ps.length).2 := by
  obtain ⟨h1, _⟩ := enc_more ps (k + 1) (ps.length - (k + 1)) (by omega)
  rw [show k + 1 + (ps.length - (k + 1)) = ps.length by omega, enc_ok ps k h q hq h32] at h1
  exact h1

/-- A slice of pieces that came in. -/
def ArgP (w : World) (A : Option Addr) (n c : Nat) (ps : List (Nat × Int)) : Prop := ps.length = n ∧ (∀ p ∈ ps, p.1 < 4294967296 ∧ -9223372036854775808 ≤ p.2 ∧ p.2 ≤ 9223372036854775807) ∧
  (0 < n → ∃ g off, A = some ⟨g, off, none⟩ ∧ g < w.heap.size ∧ ∀ j (h : j < ps.length), w.cell? ⟨g, off + j * 2, none⟩ = some (.int .u32 (ps[j].1 : Int)) ∧ w.cell? ⟨g, off + j * 2 + 1, none⟩ = some (.int .i64 ps[j].2)) ∧ n ≤ c ∧ c ≤ maxLen

section
variable {H : Type} {enc : TypeId × Value → H}
theorem arg_p {w : World} {base : Nat} {spare : Nat → Bool} {held : Bool} {A : Option Addr} {n c : Nat} {fuel : Nat} {x : DataW H × List MemPlace}
    (h : DataW.trod enc Try.prog w base spare held fuel 22 [.slice A n c] = some x) : ∃ ps, ArgP w A n c ps := by
  rcases Go.Deep.open_slice Try.underlying22 h with ⟨hcs, _⟩ | ⟨a, len, cap, m, nn, D, Pl, hcs, hb, hl, hm, hmm, hx, hi⟩
  · simp at hcs
    obtain ⟨rfl, rfl, rfl⟩ := hcs
    exact ⟨[], rfl, by simp, fun h => absurd h (by omega), Nat.le_refl _, by unfold maxLen; omega⟩
  · simp at hcs
    obtain ⟨rfl, rfl, rfl⟩ := hcs
    have hC : Try.prog.cellsOf 31 = 2 := by kernel_rfl
    have hone : ∀ i, i < n → ∃ (v : Nat) (z : Int), v < 4294967296 ∧ (-9223372036854775808 ≤ z ∧ z ≤ 9223372036854775807) ∧ w.cell? (a.add (i * 2)) = some (.int .u32 (v : Int)) ∧ w.cell? (a.add (i * 2 + 1)) = some (.int .i64 z) := by
      intro i hin
      obtain ⟨cs', hc, ht'⟩ := hi i (by rw [hmm]; split <;> omega)
      rw [hC] at hc
      obtain ⟨ys, n', hn', hy, hlen, hyl, hf⟩ := DataW.trod_struct Try.underlying31 ht'
      obtain ⟨_, hcl, hat⟩ := World.cells?_some hc
      have c32 : Try.prog.cellsOf 29 = 1 := by kernel_rfl
      have c64 : Try.prog.cellsOf 3 = 1 := by kernel_rfl
      match cs', hcl with
      | [c0, c1], _ =>
        have hyl2 : ys.length = 2 := hyl
        match ys, hyl2 with
        | [y0, y1], _ =>
          have f0 : DataW.trod enc Try.prog w base spare held n' 29 (([c0, c1].drop 0).take (Try.prog.cellsOf 29)) = [y0, y1][0]? := hf 0 _ rfl
          have f1 : DataW.trod enc Try.prog w base spare held n' 3 (([c0, c1].drop 1).take (Try.prog.cellsOf 3)) = [y0, y1][1]? := hf 1 _ rfl
          rw [c32] at f0
          rw [c64] at f1
          simp only [List.drop_zero, List.drop_succ_cons, List.take_succ_cons, List.take_zero, List.getElem?_cons_zero, List.getElem?_cons_succ] at f0 f1
          obtain ⟨v, e0, _, wv⟩ := DataW.trod_int Try.underlying29 f0
          obtain ⟨z, e1, _, wz⟩ := DataW.trod_int Try.underlying3 f1
          simp at e0 e1
          subst e0 e1
          have b0 := bounds_u32 wv
          have b1 := bounds_i64 wz
          have h0 := hat 0 (by omega)
          have h1 := hat 1 (by omega)
          simp only [List.getElem?_cons_zero, List.getElem?_cons_succ] at h0 h1
          rw [Go.Deep.add_add] at h0 h1
          rw [Nat.add_zero] at h0
          exact ⟨v.toNat, z, by omega, b1, by rw [Int.toNat_of_nonneg b0.1]; exact h0, h1⟩
    rcases Nat.eq_zero_or_pos n with h0 | h0
    · subst h0
      exact ⟨[], rfl, by simp, fun h => absurd h (by omega), hl, hm⟩
    · obtain ⟨b, off, spot⟩ := a
      obtain ⟨v, z, _, _, h1, _⟩ := hone 0 h0
      have hspot : spot = none := by simpa [Addr.add] using World.cell?_spot h1
      subst hspot
      have e : ∀ j, ((⟨b, off, none⟩ : Addr).add j) = ⟨b, off + j, none⟩ := fun j => by unfold Addr.add; split <;> simp_all
      have hbl : b < w.heap.size := by
        rw [e] at h1
        exact World.block_lt_of_cell? w _ h1
      have hex : ∀ i : Nat, ∃ p : Nat × Int, i < n → p.1 < 4294967296 ∧ (-9223372036854775808 ≤ p.2 ∧ p.2 ≤ 9223372036854775807) ∧ w.cell? ⟨b, off + i * 2, none⟩ = some (.int .u32 (p.1 : Int)) ∧ w.cell? ⟨b, off + i * 2 + 1, none⟩ = some (.int .i64 p.2) := by
        intro i
        by_cases hin : i < n
        · obtain ⟨v, z, hv, hz, h2, h3⟩ := hone i hin
          rw [e] at h2 h3
          exact ⟨(v, z), fun _ => ⟨hv, hz, h2, by rw [Nat.add_assoc]; exact h3⟩⟩
        · exact ⟨(0, 0), fun h => absurd h hin⟩
      obtain ⟨f, hf⟩ := Classical.axiomOfChoice hex
      refine ⟨(List.range n).map f, by simp, ?_, fun _ => ⟨b, off, rfl, hbl, ?_⟩, hl, hm⟩
      · intro p hp
        simp only [List.mem_map, List.mem_range] at hp
        obtain ⟨i, hi, rfl⟩ := hp
        exact ⟨(hf i hi).1, (hf i hi).2.1⟩
      · intro j hj
        have hj' : j < n := by simpa using hj
        simp only [List.getElem_map, List.getElem_range]
        exact (hf j hj').2.2
end
end Go.Proofs.Ytllgbnolngenhaa
