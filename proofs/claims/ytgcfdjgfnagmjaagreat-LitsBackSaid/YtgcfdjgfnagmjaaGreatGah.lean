/-
  Arguments that came in, for layer 1: a slice of bytes, a slice of ints, as lists of numbers. No condition.
  Ints (of either sign) as cells, slices of ints that read as a list; 2 to a power. No condition.
  Plain mathematics for layer 9 (huff): lengths that may be, that are whole; their codes, none of which begins another; their cost. It speaks of no program. No condition.
  Plain mathematics for layer 10 (litcode): bits as lists, bytes in code by whole lengths, and back; it speaks of no program. No condition.
  Plain mathematics for layer 10 (litcode): lengths as bytes, and back; it speaks of no program. No condition.
  Plain mathematics for layer 5 (count): how many numbers are above 0; one more than the greatest of bytes; how often each comes. No condition.
  The reference of layer 5 (count), by its walk: Size. Conditions: as each theorem's premises say.
  The reference of layer 5 (count), by its walk: Fair. Conditions: as each theorem's premises say.
  Plain mathematics for layer 5 (count): the share of counts of a size, and what it sums to; a log for counts. It speaks of no program. No condition.
  What layer 5's calls (count) are to answer, as the laws' walks ask for it: definitions alone, each a premise of a law's walk. No condition.
  Layer 5 (count): counts of bytes are counts that may be; they have a share by the log that is told. No condition.
  Plain mathematics for layer 15 (lits): sections of literals; it speaks of no program. No condition.
  The reference of layer 9, by its walk: Right, Whole. Conditions: as each theorem's premises say.
  The references of layer 9 (huff), by their walks: Codes, Cost. Conditions: as each theorem's premises say.
  Pieces of a slice of ints, and what they read as. No condition beyond each theorem's premises.
  The reference of layer 8 (header), by its walk: Short. Conditions: as each theorem's premises say.
  Layer 8 (header): what the reference's Short cuts off. Conditions: as each theorem's premises say.
  The program's layer 10 (litcode), by its walk: a code turned, so that its first bit is put first. Condition: a code of up to eleven bits.
  Plain mathematics for the program's layer 10 (litcode): a tree of codes as a list of forks, and what is read by it; it speaks of no program. No condition.
-/
import Derived.Test.YtgcfdjgfnagmjaaGreatGac
import Derived.Test.YtgcfdjgfnagmjaaGreatGaa
import Derived.ProofKit
import Derived.OpenShut
import Derived.BigQuiet
import Derived.IntWalk
import Derived.WalkSmall
import Derived.Deep.QuietTactic
namespace Go.Proofs.YtgcfdjgfnagmjaaGreat
open Go.ChangeShapes Go.WideShapes Go.ChangeAt Go.RowKit

/-- What the frame hands over of a slice of integers that came in: nil, or a row of 'cap' cells, the numbers 'zs', each of its kind. -/
def IsRow (k : IntKind) (w : World) (a : Option Addr) (len cap : Nat) (zs : List Int) : Prop :=
  (a = none ∧ len = 0 ∧ cap = 0 ∧ zs = []) ∨
  ∃ x, a = some x ∧ len ≤ cap ∧ cap ≤ maxLen ∧ zs.length = cap ∧ (∀ i, i < zs.length → w.cell? (x.add i) = some (.int k (zs.getD i 0))) ∧ ∀ n ∈ zs, (Lit.int k n).wf = true

/-- A slice of bytes that came in. -/
def ArgB (w : World) (A : Option Addr) (n c : Nat) (bs : List Nat) : Prop := bs.length = n ∧ (∀ x ∈ bs, x < 256) ∧ Reads w A (u8s bs) ∧ (∀ a, A = some a → 0 < n → a.block < w.heap.size) ∧ n ≤ c ∧ c ≤ maxLen
/-- A slice of ints that came in: where there is one, its place and its cells. -/
def ArgI (w : World) (A : Option Addr) (n c : Nat) (zs : List Int) : Prop := zs.length = n ∧ (∀ x ∈ zs, -9223372036854775808 ≤ x ∧ x ≤ 9223372036854775807) ∧
  (0 < n → ∃ g off, A = some ⟨g, off, none⟩ ∧ g < w.heap.size ∧ ∀ j (h : j < zs.length), w.cell? ⟨g, off + j, none⟩ = some (.int .i64 zs[j])) ∧ n ≤ c ∧ c ≤ maxLen

theorem row_place {k : IntKind} {w : World} {x : Addr} {zs : List Int} (hc : ∀ i, i < zs.length → w.cell? (x.add i) = some (.int k (zs.getD i 0))) (h0 : 0 < zs.length) :
    ∃ g off, x = ⟨g, off, none⟩ ∧ g < w.heap.size ∧ ∀ j (h : j < zs.length), w.cell? ⟨g, off + j, none⟩ = some (.int k zs[j]) := by
  obtain ⟨b, off, spot⟩ := x
  have h1 := hc 0 h0
  have hspot : spot = none := by simpa [Addr.add] using World.cell?_spot h1
  subst hspot
  have e : ∀ j, ((⟨b, off, none⟩ : Addr).add j) = ⟨b, off + j, none⟩ := fun j => by unfold Addr.add; split <;> simp_all
  refine ⟨b, off, rfl, ?_, fun j hj => ?_⟩
  · rw [e] at h1
    exact World.block_lt_of_cell? w _ h1
  · rw [← e, hc j hj]
    simp [hj]
theorem arg_b {w : World} {a : Option Addr} {n c : Nat} {zs : List Int} (h : IsRow .u8 w a n c zs) : ∃ bs, ArgB w a n c bs := by
  rcases h with ⟨rfl, rfl, rfl, rfl⟩ | ⟨x, rfl, hl, hm, hz, hc, hwf⟩
  · exact ⟨[], rfl, by simp, fun h => absurd rfl h, fun a e => (by cases e), Nat.le_refl _, by unfold maxLen; omega⟩
  · refine ⟨(zs.take n).map Int.toNat, by simp; omega, ?_, ?_, ?_, hl, hm⟩
    · intro b hb
      obtain ⟨z, hz1, rfl⟩ := List.mem_map.1 hb
      have hb := bounds_u8 (hwf z (List.mem_of_mem_take hz1))
      omega
    · intro hne
      have h0 : 0 < zs.length := by
        rcases Nat.eq_zero_or_pos zs.length with h0 | h0
        · rw [List.eq_nil_of_length_eq_zero h0] at hne; simp [u8s] at hne
        · exact h0
      obtain ⟨g, off, rfl, _, hcell⟩ := row_place hc h0
      refine ⟨g, off, rfl, fun j hj => ?_⟩
      have hj' : j < n ∧ j < zs.length := by simp [u8s] at hj; omega
      rw [hcell j hj'.2]
      have hb := bounds_u8 (hwf zs[j] (List.getElem_mem hj'.2))
      simp only [u8s, List.getElem?_map, List.getElem?_take_of_lt hj'.1, List.getElem?_eq_getElem hj'.2, Option.map_some]
      rw [Int.toNat_of_nonneg hb.1]
    · intro a e hn
      injection e with e
      subst e
      obtain ⟨g, off, rfl, hg, _⟩ := row_place hc (by omega)
      exact hg
theorem arg_i {w : World} {a : Option Addr} {n c : Nat} {zs : List Int} (h : IsRow .i64 w a n c zs) : ∃ l, ArgI w a n c l := by
  rcases h with ⟨rfl, rfl, rfl, rfl⟩ | ⟨x, rfl, hl, hm, hz, hc, hwf⟩
  · exact ⟨[], rfl, by simp, fun h => absurd h (by omega), Nat.le_refl _, by unfold maxLen; omega⟩
  · refine ⟨zs.take n, by simp; omega, ?_, ?_, hl, hm⟩
    · intro b hb
      exact bounds_i64 (hwf b (List.mem_of_mem_take hb))
    · intro hn
      obtain ⟨g, off, rfl, hg, hcell⟩ := row_place hc (by omega)
      refine ⟨g, off, rfl, hg, fun j hj => ?_⟩
      have hj' : j < zs.length := by simp at hj; omega
      rw [hcell j hj']
      simp
end Go.Proofs.YtgcfdjgfnagmjaaGreat

namespace Go.Proofs.YtgcfdjgfnagmjaaGreat
open Go.RowKit

/-- The cells of a list of ints. -/
def i64z (l : List Int) : List Value := l.map fun z => .int .i64 z
theorem i64z_length (l : List Int) : (i64z l).length = l.length := by simp [i64z]
theorem i64z_get? (l : List Int) (i : Nat) (h : i < l.length) : (i64z l)[i]? = some (.int .i64 l[i]) := by simp [i64z, h]
theorem i64z_set (l : List Int) (i : Nat) (z : Int) : (i64z l).set i (.int .i64 z) = i64z (l.set i z) := by simp [i64z, List.map_set]
theorem i64z_nat (l : List Nat) : i64z (l.map fun n : Nat => (n : Int)) = i64s l := by simp [i64z, i64s]
theorem reads_iz {w : World} {A : Option Addr} {l : List Int} (h : Reads w A (i64z l)) (hne : 0 < l.length) : ∃ g off, A = some ⟨g, off, none⟩ ∧ ∀ j (hj : j < l.length), w.cell? ⟨g, off + j, none⟩ = some (.int .i64 l[j]) := by
  have hne' : i64z l ≠ [] := fun e => by
    have h1 := congrArg List.length e
    rw [i64z_length, List.length_nil] at h1
    omega
  obtain ⟨g, off, e, hc⟩ := h hne'
  exact ⟨g, off, e, fun j hj => by rw [hc j (by rw [i64z_length]; exact hj), i64z_get? l j hj]⟩
theorem argi_reads {w : World} {A : Option Addr} {n c : Nat} {l : List Int} (h : ArgI w A n c l) : Reads w A (i64z l) := fun hne => by
  obtain ⟨hl, _, h1, _⟩ := h
  have h0 : 0 < n := by
    rcases Nat.eq_zero_or_pos n with e | e
    · rw [e] at hl; rw [List.eq_nil_of_length_eq_zero hl] at hne; simp [i64z] at hne
    · exact e
  obtain ⟨g, off, e, _, hc⟩ := h1 h0
  exact ⟨g, off, e, fun j hj => by rw [i64z_length] at hj; rw [hc j hj, i64z_get? l j hj]⟩
/-- What reads goes on reading where the old blocks are as they were. -/
theorem reads_on {w W : World} {A : Option Addr} {xs : List Value} (h : Reads w A xs) (hb : Below w.heap.size w W) : Reads W A xs := fun hne => by
  obtain ⟨g, off, e, hc⟩ := h hne
  refine ⟨g, off, e, fun j hj => ?_⟩
  have h1 := hc j hj
  rw [List.getElem?_eq_getElem hj] at h1 ⊢
  rw [← h1]
  exact hb.cell (p := ⟨g, off + j, none⟩) (World.block_lt_of_cell? w _ h1)
theorem row_below {w W : World} {b : Nat} {t : TypeId} {cs : List Value} (hr : Row w b t cs) (hb : Below w.heap.size w W) : Row W b t cs := hr.keep (hb.block b hr.lt)
theorem reads_new (w : World) (l : List Int) : Reads (w.alloc (.cells (i64z l).toArray 3)) (some ⟨w.heap.size, 0, none⟩) (i64z l) := row_reads (Row.new w 3 (i64z l))
theorem info_in : (Tryz.prog.info? 3).map (fun i => (i.zero, i.size, i.bytes)) = some (some (.int .i64 0), 1, 8) := by kernel_rfl
theorem row_of_ownI {w : World} {base g n : Nat} (h : w.ownsRow base 3 1 (.slice (some ⟨g, 0, none⟩) n n) n (madeCells #[Value.int .i64 0] n).toList) : Row w g 3 (i64s (List.replicate n 0)) := by
  rcases h.2 with ⟨hv, _⟩ | ⟨g', cap, cur, hv, hb, hh, h1, h2, h3, h4⟩
  · cases hv
  · injection hv with e1 e2 e3
    injection e1 with e1
    injection e1 with e1
    subst e1 e3
    have e : cur.toList = i64s (List.replicate n 0) := by
      rw [List.take_of_length_le (by rw [Array.length_toList]; omega)] at h4
      rw [h4, toList_madeCells_one]
      simp only [i64s, List.map_replicate]
      rfl
    unfold Row
    rw [← e, Array.toArray_toList]
    exact hh
namespace Bm
/-- Numbers as an integer's bounds. -/
def IntOk (z : Int) : Prop := -9223372036854775808 ≤ z ∧ z ≤ 9223372036854775807
end Bm
end Go.Proofs.YtgcfdjgfnagmjaaGreat

namespace Go.Proofs.YtgcfdjgfnagmjaaGreat.Bm

/-- Lengths that may be. -/
def LenR (l : List Int) : Prop := l.length ≤ 256 ∧ ∀ x ∈ l, 0 ≤ x ∧ x ≤ 11
instance (l : List Int) : Decidable (LenR l) := by unfold LenR; exact inferInstance
/-- A length's part of 2048. -/
def partL (n : Nat) : Nat := if n = 0 then 0 else 2 ^ (11 - n)
def krN (l : List Nat) : Nat := (l.map partL).sum
def someN (l : List Nat) : Nat := l.countP fun n => decide (0 < n)
/-- Are they whole? -/
def WholeN (l : List Nat) : Prop := l.length ≤ 256 ∧ (∀ x ∈ l, x ≤ 11) ∧ (krN l = 2048 ∨ (someN l = 1 ∧ krN l = 1024))
instance (l : List Nat) : Decidable (WholeN l) := by unfold WholeN; exact inferInstance
def WholeI (l : List Int) : Prop := LenR l ∧ WholeN (l.map Int.toNat)
instance (l : List Int) : Decidable (WholeI l) := by unfold WholeI; exact inferInstance
theorem lenR_nat (l : List Int) (h : LenR l) : l = (l.map Int.toNat).map (fun n : Nat => (n : Int)) ∧ (∀ x ∈ l.map Int.toNat, x ≤ 11) ∧ (l.map Int.toNat).length = l.length := by
  refine ⟨?_, ?_, by simp⟩
  · rw [List.map_map]
    conv => lhs; rw [← List.map_id l]
    apply List.map_congr_left
    intro x hx
    have := h.2 x hx
    simp only [Function.comp_apply, id]
    omega
  · intro x hx
    obtain ⟨y, hy, rfl⟩ := List.mem_map.1 hx
    have := h.2 y hy
    omega
/-- Does k's code come ahead of i's? -/
def beforeB (l : List Nat) (k i : Nat) : Bool := decide (0 < l[k]?.getD 0) && (decide (l[k]?.getD 0 < l[i]?.getD 0) || (decide (l[k]?.getD 0 = l[i]?.getD 0) && decide (k < i)))
/-- What comes ahead of i, of the first q. -/
def aheadQ (l : List Nat) (i q : Nat) : Nat := ((List.range q).map fun k => if beforeB l k i then partL (l[k]?.getD 0) else 0).sum
def aheadN (l : List Nat) (i : Nat) : Nat := aheadQ l i l.length
/-- A symbol's code. -/
def codeN9 (l : List Nat) (i : Nat) : Nat := if l[i]?.getD 0 = 0 then 0 else aheadN l i / 2 ^ (11 - l[i]?.getD 0)
def codesN (l : List Nat) : List Nat := (List.range l.length).map (codeN9 l)
theorem aheadQ_succ (l : List Nat) (i q : Nat) : aheadQ l i (q + 1) = aheadQ l i q + if beforeB l q i then partL (l[q]?.getD 0) else 0 := by
  unfold aheadQ
  rw [List.range_succ, List.map_append, List.sum_append_nat]
  simp
theorem sum_map_le {α : Type} (f g : α → Nat) : ∀ (L : List α), (∀ x ∈ L, f x ≤ g x) → (L.map f).sum ≤ (L.map g).sum
  | [], _ => by simp
  | a :: L, h => by
    have h1 := h a List.mem_cons_self
    have h2 := sum_map_le f g L (fun x hx => h x (List.mem_cons_of_mem _ hx))
    rw [List.map_cons, List.map_cons, List.sum_cons, List.sum_cons]
    omega
theorem sum_map_add {α : Type} (f g : α → Nat) : ∀ (L : List α), (L.map fun x => f x + g x).sum = (L.map f).sum + (L.map g).sum
  | [] => by simp
  | a :: L => by
    have h2 := sum_map_add f g L
    simp only [List.map_cons, List.sum_cons]
    omega
theorem krN_range (l : List Nat) : krN l = ((List.range l.length).map fun k => partL (l[k]?.getD 0)).sum := by
  unfold krN
  congr 1
  apply List.ext_getElem
  · simp
  · intro i h1 h2
    simp only [List.length_map] at h1
    simp [h1]
/-- One place's share of a sum. -/
theorem sum_single (i v : Nat) : ∀ q, ((List.range q).map fun k => if k = i then v else 0).sum = if i < q then v else 0
  | 0 => by simp
  | q + 1 => by
    rw [List.range_succ, List.map_append, List.sum_append_nat, sum_single i v q]
    simp only [List.map_cons, List.map_nil, List.sum_cons, List.sum_nil]
    by_cases h1 : i < q
    · have h2 : ¬ q = i := by omega
      have h3 : i < q + 1 := by omega
      simp [h1, h2, h3]
    · by_cases h2 : q = i
      · subst h2
        simp
      · have h3 : ¬ i < q + 1 := by omega
        simp [h1, h2, h3]
/-- What comes ahead of i, and i's own part, come ahead of what i comes ahead of. -/
theorem ahead_before (l : List Nat) (i k : Nat) (hi : i < l.length) (h : beforeB l i k = true) : aheadN l i + partL (l[i]?.getD 0) ≤ aheadN l k := by
  have e : partL (l[i]?.getD 0) = ((List.range l.length).map fun q => if q = i then partL (l[i]?.getD 0) else 0).sum := by
    rw [sum_single, if_pos hi]
  unfold aheadN aheadQ
  rw [e, ← sum_map_add]
  apply sum_map_le
  intro q _
  by_cases hq : q = i
  · subst hq
    have h0 : beforeB l q q = false := by simp [beforeB]
    rw [h0, h]
    simp
  · rw [if_neg hq, Nat.add_zero]
    by_cases hb : beforeB l q i = true
    · have hk : beforeB l q k = true := by
        unfold beforeB at h hb ⊢
        simp only [Bool.and_eq_true, Bool.or_eq_true, decide_eq_true_eq] at h hb ⊢
        omega
      rw [hb, hk]
      exact Nat.le_refl _
    · rw [if_neg hb]; exact Nat.zero_le _
theorem ahead_all (l : List Nat) (i : Nat) (hi : i < l.length) : aheadN l i + partL (l[i]?.getD 0) ≤ krN l := by
  have e : partL (l[i]?.getD 0) = ((List.range l.length).map fun q => if q = i then partL (l[i]?.getD 0) else 0).sum := by
    rw [sum_single, if_pos hi]
  rw [krN_range]
  unfold aheadN aheadQ
  rw [e, ← sum_map_add]
  apply sum_map_le
  intro q _
  by_cases hq : q = i
  · subst hq
    have h0 : beforeB l q q = false := by simp [beforeB]
    rw [h0]
    simp
  · rw [if_neg hq, Nat.add_zero]
    split <;> omega
theorem ahead_dvd (l : List Nat) (i : Nat) : 2 ^ (11 - l[i]?.getD 0) ∣ aheadN l i := by
  unfold aheadN aheadQ
  have : ∀ L : List Nat, 2 ^ (11 - l[i]?.getD 0) ∣ (L.map fun k => if beforeB l k i then partL (l[k]?.getD 0) else 0).sum := fun L => by
    induction L with
    | nil => simp
    | cons k L ih =>
      rw [List.map_cons, List.sum_cons]
      refine Nat.dvd_add ?_ ih
      split
      · next hb =>
        unfold beforeB at hb
        simp only [Bool.and_eq_true, Bool.or_eq_true, decide_eq_true_eq] at hb
        unfold partL
        rw [if_neg (by omega)]
        exact Nat.pow_dvd_pow 2 (by omega)
      · exact Nat.dvd_zero _
  exact this _
/-- A code has no more bits than its length. -/
theorem code_lt9 (l : List Nat) (i : Nat) (hi : i < l.length) (h : WholeN l) (h0 : 0 < l[i]?.getD 0) : codeN9 l i < 2 ^ (l[i]?.getD 0) := by
  have h11 : l[i]?.getD 0 ≤ 11 := by rw [List.getElem?_eq_getElem hi, Option.getD_some]; exact h.2.1 _ (List.getElem_mem hi)
  have ha := ahead_all l i hi
  have hk : krN l ≤ 2048 := by have := h.2.2; omega
  unfold codeN9
  rw [if_neg (by omega)]
  unfold partL at ha
  rw [if_neg (by omega)] at ha
  have hp : 0 < 2 ^ (11 - l[i]?.getD 0) := Nat.two_pow_pos _
  rw [Nat.div_lt_iff_lt_mul hp, ← Nat.pow_add, show l[i]?.getD 0 + (11 - l[i]?.getD 0) = 11 by omega]
  have : (2 : Nat) ^ 11 = 2048 := by decide
  omega
/-- No code begins another one. -/
theorem code_prefix (l : List Nat) (i k : Nat) (hi : i < l.length) (hk : k < l.length) (h : WholeN l) (hik : i ≠ k) (h0 : 0 < l[i]?.getD 0) (h1 : l[i]?.getD 0 ≤ l[k]?.getD 0) : codeN9 l k / 2 ^ (l[k]?.getD 0 - l[i]?.getD 0) ≠ codeN9 l i := by
  have h11 : l[k]?.getD 0 ≤ 11 := by rw [List.getElem?_eq_getElem hk, Option.getD_some]; exact h.2.1 _ (List.getElem_mem hk)
  have hp : 0 < 2 ^ (11 - l[i]?.getD 0) := Nat.two_pow_pos _
  obtain ⟨q, hq⟩ := ahead_dvd l i
  have ei : codeN9 l i = q := by
    unfold codeN9
    rw [if_neg (by omega), hq, Nat.mul_div_cancel_left _ hp]
  have ek : codeN9 l k / 2 ^ (l[k]?.getD 0 - l[i]?.getD 0) = aheadN l k / 2 ^ (11 - l[i]?.getD 0) := by
    unfold codeN9
    rw [if_neg (by omega), Nat.div_div_eq_div_mul, ← Nat.pow_add, show 11 - l[k]?.getD 0 + (l[k]?.getD 0 - l[i]?.getD 0) = 11 - l[i]?.getD 0 by omega]
  rw [ei, ek]
  by_cases hb : beforeB l i k = true
  · have h2 := ahead_before l i k hi hb
    unfold partL at h2
    rw [if_neg (by omega), hq] at h2
    have h3 : q + 1 ≤ aheadN l k / 2 ^ (11 - l[i]?.getD 0) := by
      rw [Nat.le_div_iff_mul_le hp, Nat.add_mul, Nat.one_mul, Nat.mul_comm]
      exact h2
    omega
  · have hb2 : beforeB l k i = true := by
      unfold beforeB at hb ⊢
      simp only [Bool.and_eq_true, Bool.or_eq_true, decide_eq_true_eq] at hb ⊢
      omega
    have he : l[k]?.getD 0 = l[i]?.getD 0 := by
      unfold beforeB at hb2
      simp only [Bool.and_eq_true, Bool.or_eq_true, decide_eq_true_eq] at hb2
      omega
    have h2 := ahead_before l k i hk hb2
    unfold partL at h2
    rw [if_neg (by omega), hq, he] at h2
    have h3 : aheadN l k / 2 ^ (11 - l[i]?.getD 0) < q := by
      rw [Nat.div_lt_iff_lt_mul hp, Nat.mul_comm q]
      omega
    omega
/-- The cost of lengths for counts; none: they don't fit. -/
def costN (cs ls : List Nat) : Nat := ((List.range cs.length).map fun i => cs[i]?.getD 0 * ls[i]?.getD 0).sum
def FitN (cs ls : List Nat) : Prop := ∀ i, i < cs.length → 0 < cs[i]?.getD 0 → 0 < ls[i]?.getD 0
end Go.Proofs.YtgcfdjgfnagmjaaGreat.Bm

namespace Go.Proofs.YtgcfdjgfnagmjaaGreat.Bm

/-- A list of bits as a number, the lowest one first. -/
def bitsV : List Nat → Nat
  | [] => 0
  | b :: l => b + 2 * bitsV l
theorem bitsV_lt : ∀ l : List Nat, (∀ x ∈ l, x < 2) → bitsV l < 2 ^ l.length
  | [], _ => by simp [bitsV]
  | b :: l, h => by
    have h1 := bitsV_lt l (fun x hx => h x (List.mem_cons_of_mem _ hx))
    have h2 := h b List.mem_cons_self
    rw [bitsV, List.length_cons, Nat.pow_succ]
    omega
theorem bits_bitsV : ∀ l : List Nat, (∀ x ∈ l, x < 2) → bitsOf (bitsV l) l.length = l
  | [], _ => rfl
  | b :: l, h => by
    have h1 := bits_bitsV l (fun x hx => h x (List.mem_cons_of_mem _ hx))
    have h2 := h b List.mem_cons_self
    apply List.ext_getElem
    · rw [bitsOf_length]
    · intro i hi hi2
      rw [bitsOf_get]
      cases i with
      | zero => rw [bitsV, List.getElem_cons_zero]; omega
      | succ j =>
        have hj : j < l.length := by simpa using hi2
        have h3 : (bitsOf (bitsV l) l.length)[j]'(by rw [bitsOf_length]; exact hj) = l[j] := by simp only [h1]
        rw [bitsOf_get] at h3
        rw [bitsV, List.getElem_cons_succ, Nat.pow_succ, Nat.mul_comm (2 ^ j), ← Nat.div_div_eq_div_mul, show (b + 2 * bitsV l) / 2 = bitsV l by omega, h3]
theorem bitsV_bits (N n : Nat) (h : N < 2 ^ n) : bitsV (bitsOf N n) = N := by
  induction n generalizing N with
  | zero => have : N = 0 := by simpa using h
            subst this; rfl
  | succ n ih =>
    have e : bitsOf N (n + 1) = N % 2 :: bitsOf (N / 2) n := by
      unfold bitsOf
      rw [List.range_succ_eq_map, List.map_cons, List.map_map]
      congr 1
      · simp
      · refine List.map_congr_left fun i _ => ?_
        simp only [Function.comp]
        rw [Nat.succ_eq_add_one, Nat.pow_succ, Nat.mul_comm (2 ^ i), ← Nat.div_div_eq_div_mul]
    rw [e, bitsV, ih (N / 2) (by rw [Nat.pow_succ] at h; omega)]
    omega
theorem bitsV_append : ∀ a b : List Nat, bitsV (a ++ b) = bitsV a + bitsV b * 2 ^ a.length
  | [], b => by simp [bitsV]
  | x :: a, b => by
    rw [List.cons_append, bitsV, bitsV_append a b, bitsV, List.length_cons, Nat.pow_succ]
    rw [Nat.mul_add, ← Nat.mul_assoc, Nat.mul_comm 2 (bitsV b), Nat.mul_assoc, Nat.mul_comm 2 (2 ^ a.length)]
    omega
theorem bitsV_zero : ∀ l : List Nat, (∀ x ∈ l, x = 0) → bitsV l = 0
  | [], _ => rfl
  | b :: l, h => by rw [bitsV, bitsV_zero l (fun x hx => h x (List.mem_cons_of_mem _ hx)), h b List.mem_cons_self]
theorem bits_lt (N n : Nat) : ∀ x ∈ bitsOf N n, x < 2 := fun x hx => by
  unfold bitsOf at hx
  obtain ⟨i, _, rfl⟩ := List.mem_map.1 hx
  exact Nat.mod_lt _ (by omega)
/-- Bits as bytes. -/
def packS (l : List Nat) : List Nat := bytesOf (bitsV l) ((l.length + 7) / 8)
theorem packS_length (l : List Nat) : (packS l).length = (l.length + 7) / 8 := bytesOf_length _ _
theorem packS_lt (l : List Nat) : ∀ x ∈ packS l, x < 256 := bytesOf_lt _ _
/-- Bits of bytes that were bits: these, and noughts behind. -/
theorem bits_pack (l : List Nat) (h : ∀ x ∈ l, x < 2) : bitsOf (valB (packS l)) (8 * (packS l).length) = l ++ List.replicate (8 * ((l.length + 7) / 8) - l.length) 0 := by
  have hlt := bitsV_lt l h
  have hle : 2 ^ l.length ≤ 256 ^ ((l.length + 7) / 8) := by
    rw [p256]
    exact Nat.pow_le_pow_right (by omega) (by omega)
  rw [packS_length, packS, valB_bytesOf, Nat.mod_eq_of_lt (by omega)]
  have e : 8 * ((l.length + 7) / 8) = l.length + (8 * ((l.length + 7) / 8) - l.length) := by omega
  have h1 := bitsOf_append (bitsV l) l.length 0 (8 * ((l.length + 7) / 8) - l.length) hlt
  rw [← e, bits_bitsV l h] at h1
  simp only [Nat.zero_mod, Nat.zero_mul, Nat.add_zero] at h1
  rw [← h1]
  congr 1
  apply List.ext_getElem
  · simp [bitsOf_length]
  · intro i _ _
    rw [bitsOf_get, List.getElem_replicate, Nat.zero_div]
/-- Bytes whose bits are these, and less than eight noughts behind. -/
theorem pack_bits (l z s : List Nat) (hs : ∀ x ∈ s, x < 256) (h : bitsOf (valB s) (8 * s.length) = l ++ z) (hz : ∀ x ∈ z, x = 0) (h7 : z.length ≤ 7) : packS l = s := by
  have h1 := congrArg bitsV h
  have hv := valB_lt s hs
  rw [p256] at hv
  rw [bitsV_bits _ _ hv, bitsV_append, bitsV_zero z hz, Nat.zero_mul, Nat.add_zero] at h1
  have h2 := congrArg List.length h
  rw [bitsOf_length, List.length_append] at h2
  unfold packS
  rw [← h1, show (l.length + 7) / 8 = s.length by omega, bytesOf_valB s hs]

/-- A symbol's code, the first bit first. -/
def cbits (ls : List Nat) (s : Nat) : List Nat := (List.range (ls[s]?.getD 0)).map fun j => codeN9 ls s / 2 ^ (ls[s]?.getD 0 - 1 - j) % 2
theorem cbits_length (ls : List Nat) (s : Nat) : (cbits ls s).length = ls[s]?.getD 0 := by simp [cbits]
theorem cbits_lt (ls : List Nat) (s : Nat) : ∀ x ∈ cbits ls s, x < 2 := fun x hx => by
  unfold cbits at hx
  obtain ⟨i, _, rfl⟩ := List.mem_map.1 hx
  exact Nat.mod_lt _ (by omega)
theorem cbits_get (ls : List Nat) (s j : Nat) (h : j < (cbits ls s).length) : (cbits ls s)[j] = codeN9 ls s / 2 ^ (ls[s]?.getD 0 - 1 - j) % 2 := by simp [cbits]
/-- Of no two symbols does one's code begin the other's. -/
theorem cbits_prefix (ls : List Nat) (i k : Nat) (hi : i < ls.length) (hk : k < ls.length) (h : WholeN ls) (h0 : 0 < ls[i]?.getD 0) (hik : ls[i]?.getD 0 ≤ ls[k]?.getD 0) (hp : cbits ls i <+: cbits ls k) : i = k := by
  apply Classical.byContradiction
  intro hne
  have hk0 : 0 < ls[k]?.getD 0 := by omega
  refine code_prefix ls i k hi hk h hne h0 hik ?_
  have hci := code_lt9 ls i hi h h0
  have hck := code_lt9 ls k hk h hk0
  obtain ⟨d, hd⟩ : ∃ d, ls[k]?.getD 0 = ls[i]?.getD 0 + d := ⟨ls[k]?.getD 0 - ls[i]?.getD 0, by omega⟩
  rw [hd, Nat.add_sub_cancel_left]
  have hcd : codeN9 ls k / 2 ^ d < 2 ^ (ls[i]?.getD 0) := by
    rw [Nat.div_lt_iff_lt_mul (Nat.two_pow_pos d), ← Nat.pow_add, ← hd]
    exact hck
  rw [← bitsV_bits _ _ hcd, ← bitsV_bits _ _ hci]
  congr 1
  apply List.ext_getElem
  · simp [bitsOf_length]
  · intro t h1 h2
    rw [bitsOf_length] at h1
    rw [bitsOf_get, bitsOf_get, Nat.div_div_eq_div_mul, ← Nat.pow_add]
    have hj : ls[i]?.getD 0 - 1 - t < (cbits ls i).length := by rw [cbits_length]; omega
    have e := hp.getElem hj
    rw [cbits_get, cbits_get] at e
    rw [show ls[i]?.getD 0 - 1 - (ls[i]?.getD 0 - 1 - t) = t by omega, show ls[k]?.getD 0 - 1 - (ls[i]?.getD 0 - 1 - t) = d + t by omega] at e
    exact e.symm
theorem prefix_one (ls : List Nat) (i k : Nat) (hi : i < ls.length) (hk : k < ls.length) (h : WholeN ls) (h0 : 0 < ls[i]?.getD 0) (h1 : 0 < ls[k]?.getD 0) (l : List Nat) (hp : cbits ls i <+: l) (hq : cbits ls k <+: l) : i = k := by
  rcases Nat.le_total (ls[i]?.getD 0) (ls[k]?.getD 0) with hle | hle
  · exact cbits_prefix ls i k hi hk h h0 hle (List.prefix_of_prefix_length_le hp hq (by rw [cbits_length, cbits_length]; exact hle))
  · exact (cbits_prefix ls k i hk hi h h1 hle (List.prefix_of_prefix_length_le hq hp (by rw [cbits_length, cbits_length]; exact hle))).symm

/-- Bytes in code, as bits; none: one has no code. -/
def encS (ls : List Nat) : List Nat → Option (List Nat)
  | [] => some []
  | b :: bs => if 0 < ls[b]?.getD 0 then (encS ls bs).map (cbits ls b ++ ·) else none
/-- .. as bytes. -/
def encT (ls bs : List Nat) : Option (List Nat) := (encS ls bs).map packS
theorem encS_lt (ls : List Nat) : ∀ (bs l : List Nat), encS ls bs = some l → ∀ x ∈ l, x < 2
  | [], l, h => by injection h with h; subst h; simp
  | b :: bs, l, h => by
    unfold encS at h
    split at h
    · cases hr : encS ls bs with
      | none => rw [hr] at h; cases h
      | some r =>
        rw [hr, Option.map_some] at h
        injection h with h
        subst h
        intro x hx
        rcases List.mem_append.1 hx with hx | hx
        · exact cbits_lt ls b x hx
        · exact encS_lt ls bs r hr x hx
    · cases h
theorem encS_snoc (ls : List Nat) (b : Nat) : ∀ a : List Nat, encS ls (a ++ [b]) = if 0 < ls[b]?.getD 0 then (encS ls a).map (· ++ cbits ls b) else none
  | [] => by
    simp only [List.nil_append, encS]
    split <;> simp
  | x :: a => by
    rw [List.cons_append, encS, encS_snoc ls b a, encS]
    split <;> split <;> simp [Function.comp_def]
    all_goals cases encS ls a <;> simp
theorem encS_none (ls : List Nat) (b : Nat) (h0 : ls[b]?.getD 0 = 0) : ∀ bs : List Nat, b ∈ bs → encS ls bs = none
  | [], h => by cases h
  | x :: bs, h => by
    rw [encS]
    rcases List.mem_cons.1 h with rfl | h
    · rw [if_neg (by omega)]
    · rw [encS_none ls b h0 bs h]; split <;> rfl
/-- How many bits. -/
def codeLen (ls bs : List Nat) : Nat := (bs.map fun b => ls[b]?.getD 0).sum
theorem encS_length (ls : List Nat) : ∀ (bs l : List Nat), encS ls bs = some l → l.length = codeLen ls bs
  | [], l, h => by injection h with h; subst h; rfl
  | b :: bs, l, h => by
    unfold encS at h
    split at h
    · cases hr : encS ls bs with
      | none => rw [hr] at h; cases h
      | some r =>
        rw [hr, Option.map_some] at h
        injection h with h
        subst h
        rw [List.length_append, cbits_length, encS_length ls bs r hr]
        simp [codeLen]
    · cases h
theorem encS_some (ls : List Nat) : ∀ bs : List Nat, (∀ b ∈ bs, 0 < ls[b]?.getD 0) → ∃ l, encS ls bs = some l
  | [], _ => ⟨[], rfl⟩
  | b :: bs, h => by
    obtain ⟨l, hl⟩ := encS_some ls bs (fun x hx => h x (List.mem_cons_of_mem _ hx))
    exact ⟨cbits ls b ++ l, by rw [encS, if_pos (h b List.mem_cons_self), hl]; rfl⟩

/-- The last one of the first q symbols whose code begins these bits. -/
def metTo (ls l : List Nat) : Nat → Option Nat
  | 0 => none
  | q + 1 => if 0 < ls[q]?.getD 0 ∧ cbits ls q <+: l then some q else metTo ls l q
def metS (ls l : List Nat) : Option Nat := metTo ls l ls.length
theorem metTo_some (ls l : List Nat) : ∀ q k, metTo ls l q = some k → k < q ∧ 0 < ls[k]?.getD 0 ∧ cbits ls k <+: l
  | 0, k, h => by cases h
  | q + 1, k, h => by
    unfold metTo at h
    split at h
    · next hc => injection h with h; subst h; exact ⟨by omega, hc.1, hc.2⟩
    · obtain ⟨h1, h2⟩ := metTo_some ls l q k h; exact ⟨by omega, h2⟩
theorem metTo_is (ls l : List Nat) (k : Nat) (h : WholeN ls) (h0 : 0 < ls[k]?.getD 0) (hp : cbits ls k <+: l) : ∀ q, k < q → q ≤ ls.length → metTo ls l q = some k
  | 0, hk, _ => by omega
  | q + 1, hk, hq => by
    unfold metTo
    split
    · next hc => rw [prefix_one ls k q (by omega) (by omega) h h0 hc.1 l hp hc.2]
    · next hc =>
      by_cases e : k = q
      · subst e; exact absurd ⟨h0, hp⟩ hc
      · exact metTo_is ls l k h h0 hp q (by omega) (by omega)
theorem metS_is (ls l : List Nat) (k : Nat) (h : WholeN ls) (hk : k < ls.length) (h0 : 0 < ls[k]?.getD 0) (hp : cbits ls k <+: l) : metS ls l = some k := metTo_is ls l k h h0 hp _ hk (Nat.le_refl _)
/-- n symbols of bits, and the bits behind; none: there are none. -/
def decS (ls : List Nat) : Nat → List Nat → Option (List Nat × List Nat)
  | 0, l => some ([], l)
  | n + 1, l => (metS ls l).bind fun k => (decS ls n (l.drop (ls[k]?.getD 0))).map fun t => (k :: t.1, t.2)
/-- What Decode answers: of bits, of bytes. -/
def decF (t : List Nat × List Nat) : Option (List Nat) := if t.2.length ≤ 7 ∧ ∀ x ∈ t.2, x = 0 then some t.1 else none
def decT (ls s : List Nat) (n : Nat) : Option (List Nat) := (decS ls n (bitsOf (valB s) (8 * s.length))).bind decF
theorem in_of_pos (ls : List Nat) (k : Nat) (h : 0 < ls[k]?.getD 0) : k < ls.length := by
  rcases Nat.lt_or_ge k ls.length with h1 | h1
  · exact h1
  · rw [List.getElem?_eq_none h1] at h; simp at h
theorem decS_enc (ls : List Nat) (h : WholeN ls) (z : List Nat) : ∀ (bs l : List Nat), encS ls bs = some l → decS ls bs.length (l ++ z) = some (bs, z)
  | [], l, e => by injection e with e; subst e; rfl
  | b :: bs, l, e => by
    unfold encS at e
    split at e
    · next h0 =>
      cases hr : encS ls bs with
      | none => rw [hr] at e; cases e
      | some r =>
        rw [hr, Option.map_some] at e
        injection e with e
        subst e
        rw [List.length_cons, decS, List.append_assoc, metS_is ls _ b h (in_of_pos ls b h0) h0 (List.prefix_append _ _), Option.bind_some]
        have hd : (cbits ls b ++ (r ++ z)).drop (ls[b]?.getD 0) = r ++ z := by rw [← cbits_length ls b, List.drop_left]
        rw [hd, decS_enc ls h z bs r hr]
        rfl
    · cases e
theorem dec_encT (ls bs s : List Nat) (h : WholeN ls) (e : encT ls bs = some s) : decT ls s bs.length = some bs := by
  unfold encT at e
  cases hr : encS ls bs with
  | none => rw [hr] at e; cases e
  | some l =>
    rw [hr, Option.map_some] at e
    injection e with e
    subst e
    unfold decT
    rw [bits_pack l (encS_lt ls bs l hr), decS_enc ls h _ bs l hr, Option.bind_some]
    unfold decF
    rw [if_pos ⟨by rw [List.length_replicate]; omega, fun x hx => (List.mem_replicate.1 hx).2⟩]
theorem enc_decS (ls : List Nat) : ∀ (n : Nat) (l d r : List Nat), decS ls n l = some (d, r) → d.length = n ∧ (∀ x ∈ d, x < ls.length) ∧ ∃ e, encS ls d = some e ∧ l = e ++ r
  | 0, l, d, r, h => by
    unfold decS at h
    injection h with h
    injection h with h1 h2
    subst h1 h2
    exact ⟨rfl, by simp, [], rfl, rfl⟩
  | n + 1, l, d, r, h => by
    unfold decS at h
    cases hm : metS ls l with
    | none => rw [hm] at h; cases h
    | some k =>
      rw [hm, Option.bind_some] at h
      obtain ⟨hk, h0, hp⟩ := metTo_some ls l _ k hm
      cases hr : decS ls n (l.drop (ls[k]?.getD 0)) with
      | none => rw [hr] at h; cases h
      | some t =>
        obtain ⟨d', r'⟩ := t
        rw [hr, Option.map_some] at h
        injection h with h
        injection h with h1 h2
        subst h1 h2
        obtain ⟨g1, g2, e, g3, g4⟩ := enc_decS ls n _ d' r' hr
        refine ⟨by rw [List.length_cons, g1], ?_, cbits ls k ++ e, by rw [encS, if_pos h0, g3]; rfl, ?_⟩
        · intro x hx
          rcases List.mem_cons.1 hx with rfl | hx
          · exact hk
          · exact g2 x hx
        · obtain ⟨t, rfl⟩ := hp
          rw [← cbits_length ls k, List.drop_left] at g4
          rw [g4, List.append_assoc]
theorem enc_decT (ls s d : List Nat) (n : Nat) (hs : ∀ x ∈ s, x < 256) (h : decT ls s n = some d) : encT ls d = some s ∧ d.length = n ∧ ∀ x ∈ d, x < ls.length := by
  unfold decT at h
  cases hr : decS ls n (bitsOf (valB s) (8 * s.length)) with
  | none => rw [hr] at h; cases h
  | some t =>
    obtain ⟨d', r⟩ := t
    rw [hr, Option.bind_some] at h
    unfold decF at h
    split at h
    · next hc =>
      injection h with h
      simp only at h hc
      subst h
      obtain ⟨g1, g2, e, g3, g4⟩ := enc_decS ls n _ d' r hr
      refine ⟨?_, g1, g2⟩
      unfold encT
      rw [g3, Option.map_some, pack_bits e r s hs g4 hc.2 hc.1]
    · cases h
end Go.Proofs.YtgcfdjgfnagmjaaGreat.Bm

namespace Go.Proofs.YtgcfdjgfnagmjaaGreat.Bm

theorem short_split : ∀ l : List Nat, ∃ m, l = shortL l ++ List.replicate m 0
  | [] => ⟨0, rfl⟩
  | n :: l => by
    unfold shortL
    split
    · next h =>
      obtain ⟨m, hm⟩ := short_split l
      have hs : shortL l = [] := by
        cases l with
        | nil => rfl
        | cons a l' => unfold shortL; rw [if_pos (by rw [List.sum_cons] at h; omega)]
      rw [hs, List.nil_append] at hm
      refine ⟨m + 1, ?_⟩
      rw [List.nil_append, List.replicate_succ, ← hm, show n = 0 by omega]
    · obtain ⟨m, hm⟩ := short_split l
      exact ⟨m, by rw [List.cons_append, ← hm]⟩
theorem short_zero (l : List Nat) (h : shortL l = []) : ∀ x ∈ l, x = 0 := by
  obtain ⟨m, hm⟩ := short_split l
  rw [h, List.nil_append] at hm
  intro x hx
  rw [hm] at hx
  exact (List.mem_replicate.1 hx).2
theorem short_short : ∀ l : List Nat, shortL (shortL l) = shortL l
  | [] => rfl
  | n :: l => by
    by_cases h : n + l.sum = 0
    · rw [shortL, if_pos h]; rfl
    · rw [shortL, if_neg h, shortL]
      obtain ⟨m, hm⟩ := short_split l
      have hs : (shortL l).sum = l.sum := by
        have := congrArg List.sum hm
        rw [List.sum_append_nat, List.sum_replicate_nat, Nat.mul_zero, Nat.add_zero] at this
        exact this.symm
      rw [hs, if_neg h, short_short l]
theorem krN_zeros (l : List Nat) (m : Nat) : krN (l ++ List.replicate m 0) = krN l ∧ someN (l ++ List.replicate m 0) = someN l := by
  constructor
  · unfold krN
    rw [List.map_append, List.sum_append_nat, List.map_replicate, List.sum_replicate_nat]
    simp [partL]
  · unfold someN
    rw [List.countP_append, List.countP_replicate]
    simp
theorem whole_short (l : List Nat) (h : WholeN l) : WholeN (shortL l) ∧ 0 < (shortL l).length := by
  obtain ⟨m, hm⟩ := short_split l
  obtain ⟨h1, h2, h3⟩ := h
  have e := krN_zeros (shortL l) m
  rw [← hm] at e
  refine ⟨⟨?_, fun x hx => h2 x (by rw [hm]; exact List.mem_append_left _ hx), ?_⟩, ?_⟩
  · have := congrArg List.length hm
    rw [List.length_append] at this
    omega
  · rw [← e.1, ← e.2]; exact h3
  · rcases Nat.eq_zero_or_pos (shortL l).length with h0 | h0
    · have h4 := List.eq_nil_of_length_eq_zero h0
      have h5 : krN l = 0 := by rw [e.1, h4]; rfl
      omega
    · exact h0
/-- Two lengths in a byte. -/
def pairAt (l : List Nat) (k : Nat) : Nat := l[2 * k]?.getD 0 + 16 * l[2 * k + 1]?.getD 0
/-- Lengths as bytes. -/
def tableL (l : List Nat) : List Nat := (l.length - 1) :: (List.range ((l.length + 1) / 2)).map (pairAt l)
theorem tableL_length (l : List Nat) : (tableL l).length = 1 + (l.length + 1) / 2 := by simp [tableL]; omega
theorem get_le {l : List Nat} {b : Nat} (h : ∀ x ∈ l, x ≤ b) (i : Nat) : l[i]?.getD 0 ≤ b := by
  cases e : l[i]? with
  | none => simp
  | some x => exact h x (List.mem_of_getElem? e)
theorem pair_lt {l : List Nat} (h : ∀ x ∈ l, x ≤ 11) (k : Nat) : pairAt l k ≤ 187 := by
  have h1 := get_le h (2 * k)
  have h2 := get_le h (2 * k + 1)
  unfold pairAt
  omega
theorem tableL_lt (l : List Nat) (h : ∀ x ∈ l, x ≤ 11) (hl : l.length ≤ 256) : ∀ x ∈ tableL l, x < 256 := by
  intro x hx
  unfold tableL at hx
  rcases List.mem_cons.1 hx with rfl | hx
  · omega
  · obtain ⟨k, _, rfl⟩ := List.mem_map.1 hx
    have := pair_lt h k
    omega
/-- n lengths out of bytes. -/
def nibAt (bs : List Nat) (i : Nat) : Nat := if i % 2 = 1 then bs[1 + i / 2]?.getD 0 / 16 % 16 else bs[1 + i / 2]?.getD 0 % 16
def nibs (bs : List Nat) (n : Nat) : List Nat := (List.range n).map (nibAt bs)
theorem nibs_length (bs : List Nat) (n : Nat) : (nibs bs n).length = n := by simp [nibs]
theorem nibs_succ (bs : List Nat) (n : Nat) : nibs bs (n + 1) = nibs bs n ++ [nibAt bs n] := by simp [nibs, List.range_succ]
/-- The lengths at the beginning of bytes, and how many bytes they have; none: there are none. -/
def readL (bs : List Nat) : Option (List Nat × Nat) :=
  if bs = [] then none else
  if bs.length < 1 + (bs[0]?.getD 0 + 2) / 2 then none else
  if WholeN (nibs bs (bs[0]?.getD 0 + 1)) ∧ tableL (shortL (nibs bs (bs[0]?.getD 0 + 1))) = bs.take (1 + (bs[0]?.getD 0 + 2) / 2) then some (nibs bs (bs[0]?.getD 0 + 1), 1 + (bs[0]?.getD 0 + 2) / 2) else none
theorem readL_at (bs l : List Nat) (n : Nat) (h : readL bs = some (l, n)) : n ≤ bs.length ∧ 0 < n ∧ l.length ≤ bs[0]?.getD 0 + 1 := by
  unfold readL at h
  split at h
  · cases h
  · split at h
    · cases h
    · split at h
      · injection h with h
        injection h with h1 h2
        subst h1 h2
        rw [nibs_length]
        omega
      · cases h
theorem nibs_table (l rest : List Nat) (h : ∀ x ∈ l, x ≤ 11) : nibs (tableL l ++ rest) l.length = l := by
  apply List.ext_getElem
  · rw [nibs_length]
  · intro i h1 h2
    rw [nibs_length] at h1
    have hk : i / 2 < (l.length + 1) / 2 := by omega
    have e : (tableL l ++ rest)[1 + i / 2]?.getD 0 = pairAt l (i / 2) := by
      rw [List.getElem?_append_left (by rw [tableL_length]; omega), Nat.add_comm, tableL, List.getElem?_cons_succ, List.getElem?_map, List.getElem?_range hk]
      rfl
    have g1 := get_le h (2 * (i / 2))
    have g2 := get_le h (2 * (i / 2) + 1)
    have e2 : l[i] = l[i]?.getD 0 := by rw [List.getElem?_eq_getElem h2, Option.getD_some]
    simp only [nibs, List.getElem_map, List.getElem_range]
    rw [nibAt, e, e2]
    unfold pairAt
    split
    · next ho =>
      rw [show 2 * (i / 2) + 1 = i by omega] at g2 ⊢
      omega
    · next ho =>
      rw [show 2 * (i / 2) = i by omega] at g1 g2 ⊢
      omega
theorem read_table (l rest : List Nat) (h : WholeN l) : readL (tableL (shortL l) ++ rest) = some (shortL l, (tableL (shortL l)).length) := by
  obtain ⟨h1, h2⟩ := whole_short l h
  have e0 : (tableL (shortL l) ++ rest)[0]?.getD 0 = (shortL l).length - 1 := by
    rw [List.getElem?_append_left (by rw [tableL_length]; omega)]
    rfl
  have hn := nibs_table (shortL l) rest h1.2.1
  have hl : (tableL (shortL l)).length = 1 + ((shortL l).length + 1) / 2 := tableL_length _
  have e1 : (shortL l).length - 1 + 1 = (shortL l).length := by omega
  have e2 : 1 + ((shortL l).length - 1 + 2) / 2 = (tableL (shortL l)).length := by rw [hl]; omega
  unfold readL
  rw [e0, e1, e2, hn, short_short, List.take_left, if_neg (by intro e; have := congrArg List.length e; rw [List.length_append, List.length_nil] at this; omega), if_neg (by rw [List.length_append]; omega), if_pos ⟨h1, rfl⟩]
end Go.Proofs.YtgcfdjgfnagmjaaGreat.Bm

namespace Go.Proofs.YtgcfdjgfnagmjaaGreat
open Go.RowKit
namespace Bm
/-- How many of these are above 0. -/
def symN (l : List Int) : Nat := l.countP fun z => decide (0 < z)
theorem symN_take (l : List Int) (k : Nat) (h : k < l.length) : symN (l.take (k + 1)) = symN (l.take k) + (if 0 < l[k] then 1 else 0) := by
  unfold symN
  rw [List.take_succ_eq_append_getElem h, List.countP_append, List.countP_singleton]
  simp
theorem symN_le (l : List Int) : symN l ≤ l.length := List.countP_le_length
end Bm
namespace Bm
/-- One more than the greatest of these (0: there are none). -/
def topB : List Nat → Nat
  | [] => 0
  | b :: bs => max (b + 1) (topB bs)
/-- How often each symbol comes. -/
def countsOf (bs : List Nat) : List Nat := (List.range (topB bs)).map fun s => bs.count s
theorem topB_append (a b : List Nat) : topB (a ++ b) = max (topB a) (topB b) := by
  induction a with
  | nil => simp [topB]
  | cons x a ih => rw [List.cons_append, topB, ih, topB]; omega
theorem topB_take (bs : List Nat) (k : Nat) (h : k < bs.length) : topB (bs.take (k + 1)) = max (topB (bs.take k)) (bs[k] + 1) := by
  rw [List.take_succ_eq_append_getElem h, topB_append]
  simp [topB]
theorem topB_le (bs : List Nat) (h : ∀ x ∈ bs, x < 256) : topB bs ≤ 256 := by
  induction bs with
  | nil => simp [topB]
  | cons x a ih =>
    have h1 := ih (fun y hy => h y (List.mem_cons_of_mem _ hy))
    have h2 := h x List.mem_cons_self
    rw [topB]; omega
theorem topB_mem (bs : List Nat) (b : Nat) (h : b ∈ bs) : b < topB bs := by
  induction bs with
  | nil => cases h
  | cons x a ih =>
    rw [topB]
    rcases List.mem_cons.1 h with rfl | h1
    · omega
    · have := ih h1; omega
/-- Counts of the first k. -/
def countsTo (bs : List Nat) (k : Nat) : List Nat := (List.range (topB bs)).map fun s => (bs.take k).count s
theorem countsTo_zero (bs : List Nat) : countsTo bs 0 = List.replicate (topB bs) 0 := by
  unfold countsTo
  rw [List.take_zero]
  simp only [List.count_nil]
  rw [List.map_const', List.length_range]
theorem countsTo_all (bs : List Nat) : countsTo bs bs.length = countsOf bs := by unfold countsTo countsOf; rw [List.take_length]
theorem countsTo_length (bs : List Nat) (k : Nat) : (countsTo bs k).length = topB bs := by simp [countsTo]
theorem countsTo_get (bs : List Nat) (k b : Nat) (h : b < topB bs) : (countsTo bs k)[b]? = some ((bs.take k).count b) := by simp [countsTo, h]
theorem countsTo_next (bs : List Nat) (k : Nat) (h : k < bs.length) : countsTo bs (k + 1) = (countsTo bs k).set bs[k] ((bs.take k).count bs[k] + 1) := by
  apply List.ext_getElem
  · simp [countsTo_length]
  · intro i h1 h2
    rw [List.getElem_set]
    simp only [countsTo, List.getElem_map, List.getElem_range]
    rw [List.take_succ_eq_append_getElem h, List.count_append, List.count_singleton]
    by_cases e : bs[k] = i
    · subst e; simp
    · simp [e]
end Bm
theorem max_top (T b : Nat) : max ((T : Int) - 1) (b : Int) = ((max T (b + 1) : Nat) : Int) - 1 := by omega
end Go.Proofs.YtgcfdjgfnagmjaaGreat

namespace Go.Proofs.YtgcfdjgfnagmjaaGreat
open Go.RowKit
set_option maxHeartbeats 400000 in
set_option maxRecDepth 100000 in
theorem hsize_any (n : Int) (w : World) (hn : n ≤ 40) :
    Calls Tryz.prog 64 #[.int .i64 n] w fun e w' => e = .returned (.int .i64 ((2 ^ n.toNat : Nat) : Int)) ∧ w = w' := by
  obtain ⟨r, hres⟩ : ∃ r, r = 2 ^ n.toNat := ⟨_, rfl⟩
  rw [← hres]
  have Hres := Lib.hid hres
  clear hres
  go_enter Tryz.func64, Tryz.ntmps64
  go_wp2
  go_loop [3, 4] (fun x i => ∃ k : Nat, k ≤ n.toNat ∧ i = .int .i64 (k : Int) ∧ x = .int .i64 ((2 ^ k : Nat) : Int)) (fun _ i => n.toNat - (intOf i).toNat)
  case atStart => exact ⟨0, by omega, rfl, rfl⟩
  case round =>
    obtain ⟨k, hk, rfl, rfl⟩ := hrel
    have h40 : 2 ^ k ≤ 2 ^ 40 := Nat.pow_le_pow_right (by omega) (by omega)
    have h40' : (2 : Nat) ^ 40 = 1099511627776 := by decide
    rw [h40'] at h40
    clear h40'
    have hs : 2 ^ (k + 1) = 2 ^ k * 2 := Nat.pow_succ 2 k
    have Hs := Lib.hid hs
    have He : Hid (k = n.toNat → 2 ^ k = r) := Lib.hid (fun e => by rw [e, Hres.out])
    clear hs Hres
    generalize 2 ^ k = m at h40 Hs He ⊢
    by_cases hkl : (k : Int) < n
    · go_wp2
      go_round
      case rel => exact ⟨k + 1, by omega, by go_num, by rw [Hs.out]; go_num⟩
      case measure => simp [intOf]; omega
    · rw [He.out (by omega)]
      go_wp2
      go_ret
      exact ⟨rfl, rfl⟩
end Go.Proofs.YtgcfdjgfnagmjaaGreat

namespace Go.Proofs.YtgcfdjgfnagmjaaGreat
open Go.RowKit
namespace Bm
/-- Are these a share of that log's size? -/
def Fair (l : List Int) (log : Int) : Prop := 5 ≤ log ∧ log ≤ 9 ∧ l.length ≤ 256 ∧ (∀ x ∈ l, 0 ≤ x ∧ x ≤ 1000) ∧ l.sum = ((2 ^ log.toNat : Nat) : Int)
instance (l : List Int) (log : Int) : Decidable (Fair l log) := by unfold Fair; exact inferInstance
def fairB (l : List Int) (log : Int) : Bool := decide (Fair l log)
theorem sum_take (l : List Int) (k : Nat) (h : k < l.length) : (l.take (k + 1)).sum = (l.take k).sum + l[k] := by
  rw [List.take_succ_eq_append_getElem h, List.sum_append_int, List.sum_singleton]
theorem all_take (p : Int → Prop) (l : List Int) (k : Nat) (h : k < l.length) (h0 : ∀ x ∈ l.take k, p x) (h1 : p l[k]) : ∀ x ∈ l.take (k + 1), p x := by
  rw [List.take_succ_eq_append_getElem h]
  intro x hx
  rcases List.mem_append.1 hx with h2 | h2
  · exact h0 x h2
  · rw [List.mem_singleton.1 h2]; exact h1
theorem sum_bound (l : List Int) (h : ∀ x ∈ l, 0 ≤ x ∧ x ≤ 1000) : 0 ≤ l.sum ∧ l.sum ≤ 1000 * l.length := by
  induction l with
  | nil => simp
  | cons a l ih =>
    have h1 := ih (fun x hx => h x (List.mem_cons_of_mem _ hx))
    have h2 := h a List.mem_cons_self
    rw [List.sum_cons, List.length_cons]
    omega
end Bm

end Go.Proofs.YtgcfdjgfnagmjaaGreat

namespace Go.Proofs.YtgcfdjgfnagmjaaGreat.Bm

/-- The greatest of these (0: there are none), and the first place where it lies. -/
def maxL : List Nat → Nat
  | [] => 0
  | x :: l => max x (maxL l)
def firstMax (l : List Nat) : Nat := l.idxOf (maxL l)
theorem maxL_le (l : List Nat) : ∀ x ∈ l, x ≤ maxL l := by
  induction l with
  | nil => intro x h; cases h
  | cons a l ih =>
    intro x h
    rw [maxL]
    rcases List.mem_cons.1 h with rfl | h
    · omega
    · have := ih x h; omega
theorem maxL_mem (l : List Nat) (h : l ≠ []) : maxL l ∈ l := by
  induction l with
  | nil => exact absurd rfl h
  | cons a l ih =>
    rw [maxL]
    by_cases hl : l = []
    · subst hl; simp [maxL]
    · have h1 := ih hl
      by_cases h2 : maxL l ≤ a
      · rw [Nat.max_eq_left h2]; exact List.mem_cons_self
      · rw [Nat.max_eq_right (by omega)]; exact List.mem_cons_of_mem _ h1
theorem firstMax_lt (l : List Nat) (h : l ≠ []) : firstMax l < l.length := List.idxOf_lt_length_of_mem (maxL_mem l h)
theorem firstMax_get (l : List Nat) (h : firstMax l < l.length) : l[firstMax l] = maxL l := List.getElem_idxOf h
theorem maxL_append (a b : List Nat) : maxL (a ++ b) = max (maxL a) (maxL b) := by
  induction a with
  | nil => simp [maxL]
  | cons x a ih => rw [List.cons_append, maxL, ih, maxL]; omega
/-- One number more: the place of the first greatest goes on only if it is greater than all. -/
theorem firstMax_snoc (a : List Nat) (x : Nat) (h : a ≠ []) : firstMax (a ++ [x]) = if maxL a < x then a.length else firstMax a := by
  have hm := maxL_mem a h
  have e : maxL [x] = x := by simp [maxL]
  unfold firstMax
  rw [maxL_append, e]
  split
  · next hlt =>
    rw [Nat.max_eq_right (by omega), List.idxOf_append, if_neg (fun hx => by have := maxL_le a x hx; omega)]
    simp
  · next hlt =>
    rw [Nat.max_eq_left (by omega), List.idxOf_append, if_pos hm]
theorem sum_modify (p : List Nat) (k : Nat) (f : Nat → Nat) (h : k < p.length) : (p.modify k f).sum + p[k] = p.sum + f p[k] := by
  induction p generalizing k with
  | nil => simp at h
  | cons a p ih =>
    cases k with
    | zero => simp; omega
    | succ k =>
      have := ih k (by simpa using h)
      simp [List.modify_succ_cons] at this ⊢
      omega
theorem get_modify (p : List Nat) (k i : Nat) (f : Nat → Nat) : (p.modify k f)[i]? = if k = i then p[i]?.map f else p[i]? := by
  rw [List.getElem?_modify]
  cases h : p[i]? <;> split <;> simp
/-- Are they above 0 at the same places? -/
def SamePos (p q : List Nat) : Prop := p.length = q.length ∧ ∀ i : Nat, 0 < p[i]?.getD 0 ↔ 0 < q[i]?.getD 0
theorem SamePos.refl (p : List Nat) : SamePos p p := ⟨rfl, fun _ => Iff.rfl⟩
theorem SamePos.trans {p q r : List Nat} (h : SamePos p q) (k : SamePos q r) : SamePos p r := ⟨h.1.trans k.1, fun i => (h.2 i).trans (k.2 i)⟩
/-- How many are above 0. -/
def posN (l : List Nat) : Nat := l.countP fun n => decide (0 < n)
theorem SamePos.posN : ∀ {p q : List Nat}, SamePos p q → posN p = posN q
  | [], [], _ => rfl
  | [], _ :: _, h => by have := h.1; simp at this
  | _ :: _, [], h => by have := h.1; simp at this
  | a :: p, b :: q, h => by
    have h0 := h.2 0
    have h1 : SamePos p q := ⟨by have := h.1; simpa using this, fun i => by have := h.2 (i + 1); simpa using this⟩
    have h2 := h1.posN
    unfold Bm.posN at h2 ⊢
    rw [List.countP_cons, List.countP_cons, h2]
    simp at h0
    by_cases ha : 0 < a <;> simp [ha, h0.1] <;> simp_all
theorem sum_le_posN (l : List Nat) (h : ∀ x ∈ l, x ≤ 1) : l.sum ≤ posN l := by
  induction l with
  | nil => simp
  | cons a l ih =>
    have h1 := ih (fun x hx => h x (List.mem_cons_of_mem _ hx))
    have h2 := h a List.mem_cons_self
    unfold posN at h1 ⊢
    rw [List.sum_cons, List.countP_cons]
    by_cases ha : 0 < a
    · simp [ha]; omega
    · simp [ha]; omega
/-- k times one less at the first greatest. -/
def decs : Nat → List Nat → List Nat
  | 0, p => p
  | k + 1, p => decs k (p.modify (firstMax p) (· - 1))
theorem decs_spec (size : Nat) : ∀ (k : Nat) (p : List Nat), posN p ≤ size → p.sum = size + k → (decs k p).sum = size ∧ SamePos (decs k p) p
  | 0, p, _, hs => ⟨by simpa [decs] using hs, SamePos.refl p⟩
  | k + 1, p, hp, hs => by
    have hne : p ≠ [] := by rintro rfl; simp at hs
    have hlt := firstMax_lt p hne
    have hget := firstMax_get p hlt
    have h2 : 2 ≤ maxL p := by
      rcases Nat.lt_or_ge (maxL p) 2 with h1 | h1
      · have := sum_le_posN p (fun x hx => by have := maxL_le p x hx; omega)
        omega
      · exact h1
    have hsum := sum_modify p (firstMax p) (· - 1) hlt
    rw [hget] at hsum
    have hsame : SamePos (p.modify (firstMax p) (· - 1)) p := by
      refine ⟨by simp, fun i => ?_⟩
      rw [get_modify]
      split
      · next e =>
        subst e
        rw [List.getElem?_eq_getElem hlt, hget]
        simp
        omega
      · exact Iff.rfl
    have h3 := decs_spec size k (p.modify (firstMax p) (· - 1)) (by rw [hsame.posN]; exact hp) (by omega)
    exact ⟨h3.1, h3.2.trans hsame⟩
/-- A count's part of the size. -/
def partN (size total c : Nat) : Nat := if c * size / total = 0 ∧ 0 < c then 1 else c * size / total
def parts (cs : List Nat) (size : Nat) : List Nat := cs.map (partN size cs.sum)
/-- The share of counts of a size. -/
def shareM (cs : List Nat) (size : Nat) : List Nat :=
  if (parts cs size).sum < size then (parts cs size).modify (firstMax cs) (· + (size - (parts cs size).sum)) else decs ((parts cs size).sum - size) (parts cs size)
theorem partN_pos (size total c : Nat) : 0 < partN size total c ↔ 0 < c := by
  unfold partN
  split
  · next h => simp [h.2]
  · next h =>
    constructor
    · intro h1
      rcases Nat.eq_zero_or_pos c with h2 | h2
      · subst h2; simp at h1
      · exact h2
    · intro h1
      rcases Nat.eq_zero_or_pos (c * size / total) with h2 | h2
      · exact absurd ⟨h2, h1⟩ h
      · exact h2
theorem parts_same (cs : List Nat) (size : Nat) : SamePos (parts cs size) cs := by
  refine ⟨by simp [parts], fun i => ?_⟩
  unfold parts
  rw [List.getElem?_map]
  cases h : cs[i]? with
  | none => simp
  | some c => simp [partN_pos]
theorem share_spec (cs : List Nat) (size : Nat) (h0 : 0 < cs.sum) (h : posN cs ≤ size) : (shareM cs size).sum = size ∧ SamePos (shareM cs size) cs := by
  have hsame := parts_same cs size
  unfold shareM
  split
  · next hlt =>
    have hne : cs ≠ [] := by rintro rfl; simp at h0
    have hlt2 := firstMax_lt cs hne
    have hlt3 : firstMax cs < (parts cs size).length := by rw [hsame.1]; exact hlt2
    have hs := sum_modify (parts cs size) (firstMax cs) (· + (size - (parts cs size).sum)) hlt3
    refine ⟨by omega, ⟨by simp [hsame.1], fun i => ?_⟩⟩
    rw [get_modify]
    split
    · next e =>
      subst e
      have h1 := hsame.2 (firstMax cs)
      have hp : 0 < cs[firstMax cs]?.getD 0 := by
        rw [List.getElem?_eq_getElem hlt2, firstMax_get cs hlt2]
        simp
        rcases Nat.eq_zero_or_pos (maxL cs) with h2 | h2
        · have h3 : cs.sum = 0 := by
            have : ∀ (l : List Nat), (∀ x ∈ l, x = 0) → l.sum = 0 := fun l => by
              induction l with
              | nil => simp
              | cons a l ih => intro hh; rw [List.sum_cons, hh a List.mem_cons_self, ih (fun x hx => hh x (List.mem_cons_of_mem _ hx))]
            exact this cs (fun x hx => by have := maxL_le cs x hx; omega)
          omega
        · exact h2
      rw [List.getElem?_eq_getElem hlt3] at h1 ⊢
      simp at h1 ⊢
      have := h1.2 hp
      omega
    · exact hsame.2 i
  · next hlt =>
    have h1 := decs_spec size ((parts cs size).sum - size) (parts cs size) (by rw [hsame.posN]; exact h) (by omega)
    exact ⟨h1.1, h1.2.trans hsame⟩
/-- Counts that may be. -/
def Right (l : List Int) : Prop := l.length ≤ 256 ∧ (∀ x ∈ l, 0 ≤ x ∧ x ≤ 1048576) ∧ ∃ x ∈ l, 0 < x
/-- A log for so many symbols, an eighth of whose sum is q. -/
def logM (sym q : Nat) : Nat :=
  if 4 * sym ≤ 32 ∧ q ≤ 32 then 5 else if 4 * sym ≤ 64 ∧ q ≤ 64 then 6 else if 4 * sym ≤ 128 ∧ q ≤ 128 then 7 else if 4 * sym ≤ 256 ∧ q ≤ 256 then 8 else 9
theorem logM_ok (sym q : Nat) (h : sym ≤ 256) : 5 ≤ logM sym q ∧ logM sym q ≤ 9 ∧ sym ≤ 2 ^ logM sym q := by
  unfold logM
  split
  · refine ⟨by omega, by omega, ?_⟩
    have : (2 : Nat) ^ 5 = 32 := by decide
    omega
  split
  · refine ⟨by omega, by omega, ?_⟩
    have : (2 : Nat) ^ 6 = 64 := by decide
    omega
  split
  · refine ⟨by omega, by omega, ?_⟩
    have : (2 : Nat) ^ 7 = 128 := by decide
    omega
  split
  · refine ⟨by omega, by omega, ?_⟩
    have : (2 : Nat) ^ 8 = 256 := by decide
    omega
  · refine ⟨by omega, by omega, ?_⟩
    have : (2 : Nat) ^ 9 = 512 := by decide
    omega
end Go.Proofs.YtgcfdjgfnagmjaaGreat.Bm

namespace Go.Proofs.YtgcfdjgfnagmjaaGreat
open Go.RowKit
namespace Bm
instance (l : List Int) : Decidable (Right l) := by unfold Right; exact inferInstance
def ShareOk (l : List Int) (log : Int) : Prop := Right l ∧ 5 ≤ log ∧ log ≤ 9 ∧ symN l ≤ 2 ^ log.toNat
instance (l : List Int) (log : Int) : Decidable (ShareOk l log) := by unfold ShareOk; exact inferInstance
/-- What Share answers: the numbers (none: there is no share). -/
def shareA (l : List Int) (log : Int) : List Int := if ShareOk l log then (shareM (l.map Int.toNat) (2 ^ log.toNat)).map (fun n : Nat => (n : Int)) else []
/-- What Log answers. -/
def logA (l : List Int) : Nat := if Right l then logM (symN l) (l.sum.toNat / 8) else 0
end Bm
def COf : Prop := ∀ (A : Option Addr) (c : Nat) (bs : List Nat) (w : World), bs.length ≤ 1000000 → (∀ x ∈ bs, x < 256) → Reads w A (u8s bs) →
  Calls Tryz.prog 13 #[.slice A bs.length c] w fun e w' => ∃ A' c', e = .returned (.slice A' (Bm.topB bs) c') ∧ Reads w' A' (i64s (Bm.countsOf bs)) ∧ Below w.heap.size w w'
def CSymbols : Prop := ∀ (A : Option Addr) (c : Nat) (l : List Int) (w : World), l.length ≤ 1000000 → Reads w A (i64z l) →
  Calls Tryz.prog 14 #[.slice A l.length c] w fun e w' => e = .returned (.int .i64 (Bm.symN l : Int)) ∧ Below w.heap.size w w'
end Go.Proofs.YtgcfdjgfnagmjaaGreat

namespace Go.Proofs.YtgcfdjgfnagmjaaGreat
open Go.RowKit
namespace Bm
/-- Counts of bytes, as ints. -/
def countsI (bs : List Nat) : List Int := (countsOf bs).map fun n : Nat => (n : Int)
theorem countsI_length (bs : List Nat) : (countsI bs).length = topB bs := by simp [countsI, countsOf]
theorem countsI_mem (bs : List Nat) (x : Int) (h : x ∈ countsI bs) : 0 ≤ x ∧ x ≤ bs.length := by
  unfold countsI countsOf at h
  rw [List.map_map, List.mem_map] at h
  obtain ⟨s, _, rfl⟩ := h
  have := List.count_le_length (a := s) (l := bs)
  exact ⟨Int.natCast_nonneg _, by simp only [Function.comp_apply]; omega⟩
theorem countsI_right (bs : List Nat) (hlt : ∀ x ∈ bs, x < 256) (hl : bs.length ≤ 1048576) (h0 : 0 < bs.length) : Right (countsI bs) := by
  refine ⟨by rw [countsI_length]; exact topB_le bs hlt, fun x hx => by have := countsI_mem bs x hx; omega, ?_⟩
  obtain ⟨b, hb⟩ : ∃ b, b ∈ bs := by
    cases bs with
    | nil => simp at h0
    | cons b bs => exact ⟨b, List.mem_cons_self⟩
  refine ⟨((bs.count b : Nat) : Int), ?_, ?_⟩
  · unfold countsI countsOf
    rw [List.map_map, List.mem_map]
    exact ⟨b, List.mem_range.2 (topB_mem bs b hb), rfl⟩
  · have := List.count_pos_iff.2 hb
    omega
theorem countsI_share (bs : List Nat) (hlt : ∀ x ∈ bs, x < 256) (hl : bs.length ≤ 1048576) : ShareOk (countsI bs) (logA (countsI bs) : Int) ↔ 0 < bs.length := by
  constructor
  · rintro ⟨⟨_, _, x, hx, h0⟩, _⟩
    have := countsI_mem bs x hx
    omega
  · intro h0
    have hr := countsI_right bs hlt hl h0
    have hs := symN_le (countsI bs)
    rw [countsI_length] at hs
    have ht := topB_le bs hlt
    have h1 := logM_ok (symN (countsI bs)) ((countsI bs).sum.toNat / 8) (by omega)
    unfold logA
    rw [if_pos hr]
    exact ⟨hr, by omega, by omega, by rw [Int.toNat_natCast]; exact h1.2.2⟩
end Bm
end Go.Proofs.YtgcfdjgfnagmjaaGreat

namespace Go.Proofs.YtgcfdjgfnagmjaaGreat.Bm

/-- Literals in code, behind their lengths: a text, and what it says; how many bytes it has. -/
def codeB (ls t : List Nat) (n : Nat) : Option (List Nat × Nat) :=
  if 0 < (firstG t).2 ∧ (firstG t).1 ≤ t.length - (firstG t).2 then (decT ls ((t.drop (firstG t).2).take (firstG t).1) n).map fun b => (b, (firstG t).2 + (firstG t).1) else none
/-- What stands behind the number of literals: these, and how many bytes it has. -/
def bodyL (k n : Nat) (t : List Nat) : Option (List Nat × Nat) :=
  if k = 0 then (if n ≤ t.length then some (t.take n, n) else none)
  else if k = 1 then (if 0 < t.length then some (List.replicate n (t[0]?.getD 0), 1) else none)
  else if k = 2 then (match readL t with
    | none => none
    | some p => (codeB p.1 (t.drop p.2) n).map fun q => (q.1, p.2 + q.2))
  else none
/-- The literals of the section at the beginning, and how many bytes it has. -/
def decL (bs : List Nat) (most : Int) : Option (List Nat × Nat) :=
  match bs with
  | [] => none
  | k :: r => if 0 < (firstG r).2 ∧ ((firstG r).1 : Int) ≤ most ∧ (firstG r).1 ≤ 1048576 then (bodyL k (firstG r).1 (r.drop (firstG r).2)).map fun q => (q.1, 1 + (firstG r).2 + q.2) else none

theorem firstG_append (p q : List Nat) (h : 0 < (firstG p).2) : firstG (p ++ q) = firstG p ∧ (firstG p).2 ≤ p.length := by
  obtain ⟨v, k, e⟩ : ∃ v k, firstG p = (v, k) := ⟨_, _, rfl⟩
  rw [e] at h ⊢
  obtain ⟨h1, h2, h3⟩ := firstG_some p v k h e
  refine ⟨?_, h3⟩
  have e2 : p ++ q = grp v ++ (p.drop k ++ q) := by rw [← List.append_assoc, ← h2, List.take_append_drop]
  rw [e2, firstG_grp v _ h1, ← h2, List.length_take, Nat.min_eq_left h3]
theorem nib_append (p q : List Nat) (i : Nat) (h : 1 + i / 2 < p.length) : nibAt (p ++ q) i = nibAt p i := by
  unfold nibAt
  rw [List.getElem?_append_left h]
theorem readL_append (p q : List Nat) (t : List Nat × Nat) (h : readL p = some t) : readL (p ++ q) = some t := by
  unfold readL at h ⊢
  split at h
  · cases h
  · next h1 =>
    split at h
    · cases h
    · next h2 =>
      have h0 : 0 < p.length := List.length_pos_iff.2 h1
      have e0 : (p ++ q)[0]?.getD 0 = p[0]?.getD 0 := by rw [List.getElem?_append_left h0]
      have en : nibs (p ++ q) (p[0]?.getD 0 + 1) = nibs p (p[0]?.getD 0 + 1) := by
        refine List.map_congr_left fun i hi => nib_append p q i ?_
        have := List.mem_range.1 hi
        omega
      have et : (p ++ q).take (1 + (p[0]?.getD 0 + 2) / 2) = p.take (1 + (p[0]?.getD 0 + 2) / 2) := List.take_append_of_le_length (by omega)
      rw [if_neg (by simp [h1]), e0, if_neg (by rw [List.length_append]; omega), en, et]
      exact h
theorem codeB_append (ls t u : List Nat) (n : Nat) (r : List Nat × Nat) (h : codeB ls t n = some r) : codeB ls (t ++ u) n = some r ∧ r.2 ≤ t.length := by
  unfold codeB at h ⊢
  split at h
  · next hc =>
    obtain ⟨e, hle⟩ := firstG_append t u hc.1
    rw [e, if_pos ⟨hc.1, by rw [List.length_append]; omega⟩, List.drop_append_of_le_length hle, List.take_append_of_le_length (by rw [List.length_drop]; exact hc.2)]
    refine ⟨h, ?_⟩
    cases hd : decT ls ((t.drop (firstG t).2).take (firstG t).1) n with
    | none => rw [hd] at h; cases h
    | some b =>
      rw [hd] at h
      injection h with h
      subst h
      show (firstG t).2 + (firstG t).1 ≤ t.length
      omega
  · cases h
theorem bodyL_append (k n : Nat) (t u : List Nat) (r : List Nat × Nat) (h : bodyL k n t = some r) : bodyL k n (t ++ u) = some r ∧ r.2 ≤ t.length := by
  unfold bodyL at h ⊢
  by_cases h0 : k = 0
  · rw [if_pos h0] at h ⊢
    by_cases hn : n ≤ t.length
    · rw [if_pos hn] at h
      rw [if_pos (by rw [List.length_append]; omega), List.take_append_of_le_length hn]
      injection h with h
      subst h
      exact ⟨rfl, hn⟩
    · rw [if_neg hn] at h; cases h
  · rw [if_neg h0] at h ⊢
    by_cases h1 : k = 1
    · rw [if_pos h1] at h ⊢
      by_cases hn : 0 < t.length
      · rw [if_pos hn] at h
        rw [if_pos (by rw [List.length_append]; omega), List.getElem?_append_left hn]
        injection h with h
        subst h
        exact ⟨rfl, hn⟩
      · rw [if_neg hn] at h; cases h
    · rw [if_neg h1] at h ⊢
      by_cases h2 : k = 2
      · rw [if_pos h2] at h ⊢
        cases hr : readL t with
        | none => rw [hr] at h; cases h
        | some p =>
          rw [hr] at h
          dsimp only at h
          have hp := (readL_at t p.1 p.2 hr).1
          cases hc : codeB p.1 (t.drop p.2) n with
          | none => rw [hc] at h; cases h
          | some q =>
            rw [hc] at h
            injection h with h
            subst h
            obtain ⟨e1, e2⟩ := codeB_append p.1 (t.drop p.2) u n q hc
            rw [readL_append t u p hr]
            dsimp only
            rw [List.drop_append_of_le_length hp, e1]
            rw [List.length_drop] at e2
            refine ⟨rfl, ?_⟩
            show p.2 + q.2 ≤ t.length
            omega
      · rw [if_neg h2] at h; cases h
/-- Whatever stands behind a section, it is read the same; it has no more bytes than there are. -/
theorem decL_append (p u : List Nat) (m : Int) (r : List Nat × Nat) (h : decL p m = some r) : decL (p ++ u) m = some r ∧ r.2 ≤ p.length := by
  cases p with
  | nil => cases h
  | cons k t =>
    rw [List.cons_append]
    unfold decL at h ⊢
    dsimp only at h ⊢
    split at h
    · next hc =>
      obtain ⟨e, hle⟩ := firstG_append t u hc.1
      rw [e, if_pos hc, List.drop_append_of_le_length hle]
      cases hb : bodyL k (firstG t).1 (t.drop (firstG t).2) with
      | none => rw [hb] at h; cases h
      | some q =>
        rw [hb] at h
        injection h with h
        subst h
        obtain ⟨e1, e2⟩ := bodyL_append k _ _ u q hb
        rw [e1]
        rw [List.length_drop] at e2
        refine ⟨rfl, ?_⟩
        rw [List.length_cons]
        show 1 + (firstG t).2 + q.2 ≤ _
        omega
    · cases h
/-- A section that is cut is none. -/
theorem decL_cut (E : List Nat) (m : Int) (x : List Nat) (h : decL E m = some (x, E.length)) (j : Nat) (hj : j < E.length) : decL (E.take j) m = none := by
  cases hc : decL (E.take j) m with
  | none => rfl
  | some r =>
    obtain ⟨h1, h2⟩ := decL_append (E.take j) (E.drop j) m r hc
    rw [List.take_append_drop, h] at h1
    injection h1 with h1
    subst h1
    rw [List.length_take] at h2
    dsimp only at h2
    omega
/-- No more literals than are asked for. -/
theorem decL_few (k n : Nat) (t : List Nat) (m : Int) (hn : n < 2 ^ 64) (h : m < (n : Int)) : decL (k :: (grp n ++ t)) m = none := by
  unfold decL
  dsimp only
  rw [firstG_grp n t hn, if_neg]
  rintro ⟨_, h2, _⟩
  dsimp only at h2
  omega
theorem decL_head (k n : Nat) (t x : List Nat) (hn : n ≤ 1048576) (hb : bodyL k n t = some (x, t.length)) : decL (k :: (grp n ++ t)) (n : Int) = some (x, (k :: (grp n ++ t)).length) := by
  unfold decL
  dsimp only
  rw [firstG_grp n t (by omega)]
  dsimp only
  rw [if_pos ⟨grp_pos n (by omega), Int.le_refl _, hn⟩, List.drop_left, hb, Option.map_some, List.length_cons, List.length_append]
  dsimp only
  rw [show 1 + (grp n).length + t.length = (grp n).length + t.length + 1 by omega]
theorem body_raw (s : List Nat) : bodyL 0 s.length s = some (s, s.length) := by
  unfold bodyL
  rw [if_pos rfl, if_pos (Nat.le_refl _), List.take_length]
theorem body_alike (x n : Nat) : bodyL 1 n [x] = some (List.replicate n x, 1) := by
  unfold bodyL
  rw [if_neg (by decide), if_pos rfl, if_pos (show 0 < [x].length by simp)]
  rfl
theorem body_coded (ls c s : List Nat) (hW : WholeN ls) (hs : shortL ls = ls) (he : encT ls s = some c) (hc : c.length < 2 ^ 64) :
    bodyL 2 s.length (tableL ls ++ (grp c.length ++ c)) = some (s, (tableL ls ++ (grp c.length ++ c)).length) := by
  have h1 := read_table ls (grp c.length ++ c) hW
  rw [hs] at h1
  unfold bodyL
  rw [if_neg (by decide), if_neg (by decide), if_pos rfl, h1]
  dsimp only
  rw [List.drop_left]
  unfold codeB
  rw [firstG_grp _ _ hc]
  dsimp only
  rw [if_pos ⟨grp_pos _ hc, by rw [List.length_append]; omega⟩, List.drop_left, List.take_length, dec_encT ls s c hW he, Option.map_some, Option.map_some]
  simp only [List.length_append]
/-- A section of s that is no longer than the one that tells s itself. -/
def SecP (s E : List Nat) : Prop := (∃ k t, E = k :: (grp s.length ++ t)) ∧ (∀ x ∈ E, x < 256) ∧ E.length ≤ 1 + (grp s.length).length + s.length ∧ decL E (s.length : Int) = some (s, E.length)
/-- The section of kind 0. -/
def rawL (s : List Nat) : List Nat := 0 :: (grp s.length ++ s)
/-- The section of kind 1. -/
def alikeL (s : List Nat) : List Nat := 1 :: (grp s.length ++ s.take 1)
theorem rawL_length (s : List Nat) : (rawL s).length = 1 + (grp s.length).length + s.length := by rw [rawL, List.length_cons, List.length_append]; omega
theorem sec_lt (k n : Nat) (t : List Nat) (hk : k < 256) (hn : n < 2 ^ 64) (ht : ∀ x ∈ t, x < 256) : ∀ x ∈ k :: (grp n ++ t), x < 256 := by
  intro x hx
  rcases List.mem_cons.1 hx with rfl | hx
  · exact hk
  · rcases List.mem_append.1 hx with hx | hx
    · exact grp_lt n hn x hx
    · exact ht x hx
theorem sec_raw (s : List Nat) (hlt : ∀ x ∈ s, x < 256) (hn : s.length ≤ 1048576) : SecP s (rawL s) :=
  ⟨⟨0, s, rfl⟩, sec_lt 0 _ s (by decide) (by omega) hlt, by rw [rawL_length]; exact Nat.le_refl _, decL_head 0 s.length s s hn (body_raw s)⟩
theorem count_two (p : Int → Bool) (l : List Int) (i j : Nat) (hij : i < j) (hj : j < l.length) (hi : p l[i] = true) (hp : p l[j] = true) : 2 ≤ l.countP p := by
  have e : l = l.take j ++ l[j] :: l.drop (j + 1) := by rw [← List.drop_eq_getElem_cons hj, List.take_append_drop]
  have h1 : 0 < (l.take j).countP p := by
    refine List.countP_pos_iff.2 ⟨l[i], ?_, hi⟩
    have hil : i < (l.take j).length := by rw [List.length_take]; omega
    have := List.getElem_mem hil
    rwa [List.getElem_take] at this
  have h2 := congrArg (List.countP p) e
  rw [List.countP_append, List.countP_cons, if_pos hp] at h2
  omega
theorem counts_at (s : List Nat) (b : Nat) (hb : b ∈ s) : ∃ h : b < (countsI s).length, 0 < (countsI s)[b] := by
  have ht := topB_mem s b hb
  refine ⟨by rw [countsI_length]; exact ht, ?_⟩
  have : (countsI s)[b]'(by rw [countsI_length]; exact ht) = ((s.count b : Nat) : Int) := by simp [countsI, countsOf]
  rw [this]
  have := List.count_pos_iff.2 hb
  omega
/-- All bytes are one where one symbol comes. -/
theorem one_alike (s : List Nat) (h : symN (countsI s) = 1) : ∃ x, s = List.replicate s.length x ∧ 0 < s.length := by
  cases s with
  | nil => simp [countsI, countsOf, topB, symN] at h
  | cons x r =>
    refine ⟨x, ?_, by simp⟩
    rw [List.eq_replicate_iff]
    refine ⟨rfl, fun b hb => ?_⟩
    rcases Nat.lt_trichotomy b x with hlt | he | hgt
    · exfalso
      obtain ⟨h1, h2⟩ := counts_at (x :: r) b hb
      obtain ⟨h3, h4⟩ := counts_at (x :: r) x List.mem_cons_self
      have := count_two (fun z => decide (0 < z)) (countsI (x :: r)) b x hlt h3 (decide_eq_true h2) (decide_eq_true h4)
      unfold symN at h
      omega
    · exact he
    · exfalso
      obtain ⟨h1, h2⟩ := counts_at (x :: r) b hb
      obtain ⟨h3, h4⟩ := counts_at (x :: r) x List.mem_cons_self
      have := count_two (fun z => decide (0 < z)) (countsI (x :: r)) x b hgt h1 (decide_eq_true h4) (decide_eq_true h2)
      unfold symN at h
      omega
theorem sec_alike (s : List Nat) (hlt : ∀ x ∈ s, x < 256) (hn : s.length ≤ 1048576) (h : symN (countsI s) = 1) : SecP s (alikeL s) := by
  obtain ⟨x, e, h0⟩ := one_alike s h
  have e1 : s.take 1 = [x] := by
    rw [e, List.take_replicate, Nat.min_eq_left (by omega)]
    rfl
  have hx : x < 256 := hlt x (by rw [e]; exact List.mem_replicate.2 ⟨by omega, rfl⟩)
  refine ⟨⟨1, s.take 1, rfl⟩, sec_lt 1 _ _ (by decide) (by omega) (fun y hy => hlt y (List.mem_of_mem_take hy)), ?_, ?_⟩
  · rw [alikeL, e1, List.length_cons, List.length_append, List.length_cons, List.length_nil]
    omega
  · have hb := body_alike x s.length
    rw [← e, ← e1] at hb
    refine decL_head 1 s.length (s.take 1) s hn ?_
    rw [hb, e1]
    rfl
/-- The section of kind 2. -/
def codedL (ls c s : List Nat) : List Nat := 2 :: (grp s.length ++ (tableL ls ++ (grp c.length ++ c)))
theorem sec_coded (ls c s : List Nat) (hn : s.length ≤ 1048576) (hW : WholeN ls) (hs : shortL ls = ls) (he : encT ls s = some c) (hc : c.length ≤ 1000000000) (hc256 : ∀ x ∈ c, x < 256) (hle : (codedL ls c s).length < (rawL s).length) : SecP s (codedL ls c s) := by
  refine ⟨⟨2, _, rfl⟩, sec_lt 2 _ _ (by decide) (by omega) (fun x hx => ?_), ?_, decL_head 2 s.length _ s hn (body_coded ls c s hW hs he (by omega))⟩
  · rcases List.mem_append.1 hx with hx | hx
    · exact tableL_lt ls hW.2.1 hW.1 x hx
    · rcases List.mem_append.1 hx with hx | hx
      · exact grp_lt _ (by omega) x hx
      · exact hc256 x hx
  · rw [rawL_length] at hle
    omega
end Go.Proofs.YtgcfdjgfnagmjaaGreat.Bm

namespace Go.Proofs.YtgcfdjgfnagmjaaGreat
open Go.RowKit
namespace Bm
theorem all_take9 (p : Int → Prop) (l : List Int) (k : Nat) (h : k < l.length) (h0 : ∀ x ∈ l.take k, p x) (h1 : p l[k]) : ∀ x ∈ l.take (k + 1), p x := by
  rw [List.take_succ_eq_append_getElem h]
  intro x hx
  rcases List.mem_append.1 hx with h2 | h2
  · exact h0 x h2
  · rw [List.mem_singleton.1 h2]; exact h1
theorem ex_take9 (p : Int → Prop) (l : List Int) (k : Nat) (h : k < l.length) : (∃ x ∈ l.take (k + 1), p x) ↔ (∃ x ∈ l.take k, p x) ∨ p l[k] := by
  rw [List.take_succ_eq_append_getElem h]
  constructor
  · rintro ⟨x, hx, hp⟩
    rcases List.mem_append.1 hx with h2 | h2
    · exact .inl ⟨x, h2, hp⟩
    · rw [List.mem_singleton] at h2; subst h2; exact .inr hp
  · rintro (⟨x, hx, hp⟩ | hp)
    · exact ⟨x, List.mem_append_left _ hx, hp⟩
    · exact ⟨_, List.mem_append_right _ (List.mem_singleton.2 rfl), hp⟩
end Bm
theorem dec256 (n : Nat) (r : Bool) (h : decide (n ≤ 256) = r) : decide ((n : Int) ≤ 256) = r := by rw [← h, decide_eq_decide]; omega

set_option maxHeartbeats 1000000 in
set_option maxRecDepth 100000 in
theorem vright_any (A : Option Addr) (c : Nat) (l : List Int) (w : World) (hl : l.length ≤ 1000000000) (hr : Reads w A (i64z l)) :
    Calls Tryz.prog 63 #[.slice A l.length c] w fun e w' => e = .returned (.bool (decide (Bm.LenR l))) ∧ w = w' := by
  have Hr := Lib.hid hr
  obtain ⟨r, hres⟩ : ∃ r, r = decide (Bm.LenR l) := ⟨_, rfl⟩
  rw [← hres]
  have Hres := Lib.hid hres
  have Hno : Hid (¬ Bm.LenR l → false = r) := Lib.hid (fun h => by rw [hres, decide_eq_false h])
  clear hr hres
  go_enter Tryz.func63, Tryz.ntmps63
  go_wp2
  go_loop [3] (fun i => ∃ (k : Nat), k ≤ l.length ∧ i = .int .i64 (k : Int) ∧ Hid (∀ x ∈ l.take k, 0 ≤ x ∧ x ≤ 11)) (fun i => l.length - (intOf i).toNat)
  case atStart => exact ⟨0, by omega, rfl, Lib.hid (by simp)⟩
  case round =>
    obtain ⟨k, hk, rfl, hall⟩ := hrel
    by_cases hkl : k < l.length
    · obtain ⟨g, off, rfl, hc⟩ := reads_iz Hr.out (by omega)
      have c0 := hc k hkl
      have Ha := Lib.hid (Bm.all_take9 (fun x => 0 ≤ x ∧ x ≤ 11) l k hkl hall.out)
      have Hm := Lib.hid (List.getElem_mem hkl)
      clear hc hall
      generalize l[k] = z at c0 Ha Hm
      by_cases hz : z < 0
      · have Hf := Lib.hid (Hno.out (fun h => by have := (h.2 z Hm.out).1; omega))
        go_wp2
        go_ret
        exact ⟨congrArg (fun x => Ending.returned (Value.bool x)) Hf.out, rfl⟩
      by_cases hz2 : 11 < z
      · have Hf := Lib.hid (Hno.out (fun h => by have := (h.2 z Hm.out).2; omega))
        go_wp2
        go_ret
        exact ⟨congrArg (fun x => Ending.returned (Value.bool x)) Hf.out, rfl⟩
      have Hall2 := Lib.hid (Ha.out (by omega))
      clear Ha
      go_wp2
      go_round
      case rel => exact ⟨k + 1, by omega, by go_num, Hall2⟩
      case measure => simp [intOf]; omega
    · obtain rfl : k = l.length := by omega
      have hfin : decide (l.length ≤ 256) = r := by
        have h2 := hall.out
        rw [List.take_length] at h2
        rw [Hres.out, decide_eq_decide]
        exact ⟨fun b => ⟨b, h2⟩, fun h => h.1⟩
      have Hfin := Lib.hid hfin
      clear hfin hall Hres Hno Hr
      generalize l.length = n at *
      go_wp2
      go_ret
      exact ⟨congrArg (fun x => Ending.returned (Value.bool x)) (dec256 n r Hfin.out), rfl⟩
namespace Bm
theorem kr_take (l : List Nat) (k : Nat) (h : k < l.length) : krN (l.take (k + 1)) = krN (l.take k) + partL l[k] ∧ someN (l.take (k + 1)) = someN (l.take k) + if 0 < l[k] then 1 else 0 := by
  unfold krN someN
  rw [List.take_succ_eq_append_getElem h, List.map_append, List.sum_append_nat, List.countP_append, List.countP_singleton]
  simp
theorem part_le (n : Nat) : partL n ≤ 1024 := by
  unfold partL
  split
  · omega
  · exact Nat.pow_le_pow_right (n := 2) (j := 10) (by omega) (by omega)
theorem kr_le (l : List Nat) : krN l ≤ 1024 * l.length := by
  unfold krN
  induction l with
  | nil => simp
  | cons a l ih => have := part_le a; rw [List.map_cons, List.sum_cons, List.length_cons]; omega
theorem some_le (l : List Nat) : someN l ≤ l.length := List.countP_le_length
end Bm

set_option maxHeartbeats 1000000 in
set_option maxRecDepth 100000 in
theorem vwhole_any (A : Option Addr) (c : Nat) (l : List Int) (w : World) (hl : l.length ≤ 1000000000) (hr : Reads w A (i64z l)) :
    Calls Tryz.prog 36 #[.slice A l.length c] w fun e w' => e = .returned (.bool (decide (Bm.WholeI l))) ∧ w = w' := by
  have Hri := Lib.hid (vright_any A c l w hl hr)
  by_cases hR : Bm.LenR l
  · rw [decide_eq_true hR] at Hri
    obtain ⟨e1, h11, elen⟩ := Bm.lenR_nat l hR
    have h256 := hR.1
    have hW : Bm.WholeI l ↔ (Bm.krN (l.map Int.toNat) = 2048 ∨ (Bm.someN (l.map Int.toNat) = 1 ∧ Bm.krN (l.map Int.toNat) = 1024)) := by
      unfold Bm.WholeI Bm.WholeN
      exact ⟨fun h => h.2.2.2, fun h => ⟨hR, by omega, h11, h⟩⟩
    have hd : decide (Bm.WholeI l) = decide (Bm.krN (l.map Int.toNat) = 2048 ∨ (Bm.someN (l.map Int.toNat) = 1 ∧ Bm.krN (l.map Int.toNat) = 1024)) := decide_eq_decide.2 hW
    rw [hd]
    have hr2 : Reads w A (i64s (l.map Int.toNat)) := by rw [← i64z_nat, ← e1]; exact hr
    generalize l.map Int.toNat = ls at *
    clear hd hW hR e1 hr
    have Hr := Lib.hid hr2
    have H11 := Lib.hid h11
    rw [← elen] at Hri ⊢
    have hls : ls.length ≤ 256 := by omega
    clear hr2 h11 elen h256 hl
    obtain ⟨r, hres⟩ : ∃ r, r = decide (Bm.krN ls = 2048 ∨ (Bm.someN ls = 1 ∧ Bm.krN ls = 1024)) := ⟨_, rfl⟩
    rw [← hres]
    have Hres := Lib.hid hres
    clear hres
    go_enter Tryz.func36, Tryz.ntmps36
    go_wp2_with fail
    refine Hri.out.mono ?_
    rintro e w' ⟨rfl, rfl⟩
    clear Hri
    go_wp2
    go_loop [3, 4, 5] (fun s t i => ∃ (k : Nat), k ≤ ls.length ∧ i = .int .i64 (k : Int) ∧ s = .int .i64 (Bm.krN (ls.take k) : Int) ∧ t = .int .i64 (Bm.someN (ls.take k) : Int)) (fun _ _ i => ls.length - (intOf i).toNat)
    case atStart => exact ⟨0, by omega, rfl, rfl, rfl⟩
    case round =>
      obtain ⟨k, hk, rfl, rfl, rfl⟩ := hrel
      by_cases hkl : k < ls.length
      · obtain ⟨g, off, rfl, hc⟩ : ∃ g off, A = some ⟨g, off, none⟩ ∧ w.cell? ⟨g, off + k, none⟩ = some (.int .i64 (ls[k] : Int)) := by
          obtain ⟨g, off, e, hc⟩ := Hr.out (by intro e; have := congrArg List.length e; rw [i64s_length, List.length_nil] at this; omega)
          refine ⟨g, off, e, ?_⟩
          have h1 := hc k (by rw [i64s_length]; exact hkl)
          rw [i64s_get? ls k hkl] at h1
          exact h1
        have Hst := Lib.hid (Bm.kr_take ls k hkl)
        have hkr := Bm.kr_le (ls.take k)
        have hso := Bm.some_le (ls.take k)
        rw [List.length_take, Nat.min_eq_left (by omega)] at hkr hso
        have h11 := H11.out ls[k] (List.getElem_mem hkl)
        have hpl := Bm.part_le ls[k]
        have Hsz : Hid (0 < ls[k] → Calls Tryz.prog 64 #[.int .i64 (11 - (ls[k] : Int))] w fun e w' => e = .returned (.int .i64 (Bm.partL ls[k] : Int)) ∧ w = w') := Lib.hid (fun h0 => by
          have h1 := hsize_any (11 - (ls[k] : Int)) w (by omega)
          rw [show (11 - (ls[k] : Int)).toNat = 11 - ls[k] by omega] at h1
          unfold Bm.partL
          rw [if_neg (by omega)]
          exact h1)
        have Hp0 : Hid (ls[k] = 0 → Bm.partL ls[k] = 0) := Lib.hid (fun h => by unfold Bm.partL; rw [if_pos h])
        generalize Bm.krN (ls.take k) = K at *
        generalize Bm.someN (ls.take k) = M at *
        generalize Bm.partL ls[k] = P at *
        generalize ls[k] = x at *
        by_cases hx : 0 < x
        · have Hsz2 := Lib.hid (Hsz.out hx)
          clear Hsz Hp0
          go_wp2_with fail
          refine Hsz2.out.mono ?_
          rintro e w' ⟨rfl, rfl⟩
          go_wp2
          go_round
          case rel => exact ⟨k + 1, by omega, by go_num, by rw [Hst.out.1]; go_num, by rw [Hst.out.2, if_pos hx]; go_num⟩
          case measure => simp [intOf]; omega
        · have hP0 := Hp0.out (by omega)
          subst hP0
          clear Hsz Hp0
          go_wp2
          go_round
          case rel => exact ⟨k + 1, by omega, by go_num, by rw [Hst.out.1]; go_num, by rw [Hst.out.2, if_neg hx]; go_num⟩
          case measure => simp [intOf]; omega
      · obtain rfl : k = ls.length := by omega
        rw [List.take_length]
        clear Hr H11
        generalize Bm.krN ls = K at *
        generalize Bm.someN ls = M at *
        by_cases h1 : K = 2048
        · have d1 : ((K : Int) == 2048) = true := by rw [h1]; rfl
          have Hf : Hid (true = r) := Lib.hid (by rw [Hres.out, decide_eq_true (.inl h1)])
          clear h1 Hres
          go_wp2
          go_ret
          exact ⟨congrArg (fun x => Ending.returned (Value.bool x)) Hf.out, rfl⟩
        · have d1 : ((K : Int) == 2048) = false := by rw [beq_eq_false_iff_ne]; omega
          by_cases h2 : M = 1
          · have d2 : ((M : Int) == 1) = true := by rw [h2]; rfl
            have Hf : Hid (((K : Int) == 1024) = r) := Lib.hid (by
              rw [Hres.out, Bool.eq_iff_iff, beq_iff_eq, decide_eq_true_iff]
              omega)
            clear h1 h2 Hres
            go_wp2
            go_ret
            exact ⟨congrArg (fun x => Ending.returned (Value.bool x)) Hf.out, rfl⟩
          · have d2 : ((M : Int) == 1) = false := by rw [beq_eq_false_iff_ne]; omega
            have Hf : Hid (false = r) := Lib.hid (by rw [Hres.out, decide_eq_false (by omega)])
            clear h1 h2 Hres
            go_wp2
            go_ret
            exact ⟨congrArg (fun x => Ending.returned (Value.bool x)) Hf.out, rfl⟩
  · rw [decide_eq_false hR] at Hri
    have hf : decide (Bm.WholeI l) = false := decide_eq_false (fun h => hR h.1)
    rw [hf]
    clear hr hf
    go_enter Tryz.func36, Tryz.ntmps36
    go_wp2_with fail
    refine Hri.out.mono ?_
    rintro e w' ⟨rfl, rfl⟩
    go_wp2
    go_ret
    exact ⟨rfl, rfl⟩
end Go.Proofs.YtgcfdjgfnagmjaaGreat

namespace Go.Proofs.YtgcfdjgfnagmjaaGreat
open Go.RowKit
namespace Bm
/-- The first q codes, noughts behind. -/
def codesTo (l : List Nat) (q : Nat) : List Nat := (List.range q).map (codeN9 l) ++ List.replicate (l.length - q) 0
theorem codesTo_zero (l : List Nat) : codesTo l 0 = List.replicate l.length 0 := by simp [codesTo]
theorem codesTo_all (l : List Nat) : codesTo l l.length = codesN l := by simp [codesTo, codesN]
theorem codesTo_length (l : List Nat) (q : Nat) (h : q ≤ l.length) : (codesTo l q).length = l.length := by simp [codesTo]; omega
theorem codesTo_get (l : List Nat) (q : Nat) (h : q < l.length) : (codesTo l q)[q]? = some 0 := by
  unfold codesTo
  have h1 : ((List.range q).map (codeN9 l)).length = q := by simp
  rw [List.getElem?_append_right (by omega), h1, Nat.sub_self, List.getElem?_replicate, if_pos (by omega)]
theorem codesTo_next (l : List Nat) (q : Nat) (h : q < l.length) : codesTo l (q + 1) = (codesTo l q).set q (codeN9 l q) := by
  unfold codesTo
  have h1 : ((List.range q).map (codeN9 l)).length = q := by simp
  rw [List.set_append_right _ _ (by omega), h1, Nat.sub_self, List.range_succ, List.map_append, List.append_assoc]
  congr 1
  obtain ⟨m, hm⟩ : ∃ m, l.length - q = m + 1 := ⟨l.length - q - 1, by omega⟩
  rw [hm, show l.length - (q + 1) = m by omega, List.replicate_succ]
  simp
theorem codesTo_none (l : List Nat) (q : Nat) (h : q < l.length) (h0 : codeN9 l q = 0) : codesTo l (q + 1) = codesTo l q := by
  rw [codesTo_next l q h, h0]
  apply List.ext_getElem?
  intro i
  rw [List.getElem?_set]
  split
  · next e =>
    subst e
    rw [if_pos (by rw [codesTo_length l q (by omega)]; omega), codesTo_get l q h]
  · rfl
theorem aheadQ_le (l : List Nat) (i q : Nat) : aheadQ l i q ≤ 1024 * q := by
  induction q with
  | zero => simp [aheadQ]
  | succ q ih =>
    rw [aheadQ_succ]
    have := part_le (l[q]?.getD 0)
    split <;> omega
end Bm
theorem reads_i9 {w : World} {A : Option Addr} {l : List Nat} (h : Reads w A (i64s l)) (hne : 0 < l.length) : ∃ g off, A = some ⟨g, off, none⟩ ∧ ∀ j (hj : j < l.length), w.cell? ⟨g, off + j, none⟩ = some (.int .i64 (l[j] : Int)) := by
  have hne' : i64s l ≠ [] := fun e => by
    have h1 := congrArg List.length e
    rw [i64s_length, List.length_nil] at h1
    omega
  obtain ⟨g, off, e, hc⟩ := h hne'
  exact ⟨g, off, e, fun j hj => by rw [hc j (by rw [i64s_length]; exact hj), i64s_get? l j hj]⟩

set_option maxHeartbeats 4000000 in
set_option maxRecDepth 100000 in
theorem vcodes_any (A : Option Addr) (c : Nat) (ls : List Nat) (w : World) (hl : ls.length ≤ 1000) (h11 : ∀ x ∈ ls, x ≤ 11) (hr : Reads w A (i64s ls)) :
    Calls Tryz.prog 66 #[.slice A ls.length c] w fun e w' => ∃ g, e = .returned (.slice (some ⟨g, 0, none⟩) ls.length ls.length) ∧ w.heap.size ≤ g ∧ Row w' g 3 (i64s (Bm.codesN ls)) ∧ Below w.heap.size w w' := by
  obtain ⟨i0, hi, hz0, hz1, hz2⟩ := info_parts info_in
  have Hr := Lib.hid hr
  have H11 := Lib.hid h11
  clear hr h11
  obtain ⟨g0, hg0⟩ : ∃ g, g = w.heap.size := ⟨_, rfl⟩
  have Hg0 := Lib.hid hg0
  clear hg0
  go_enter Tryz.func66, Tryz.ntmps66
  go_wp2_with (at_make; refine wpList_make_full _ rfl _ _ 33 rfl w.heap.size 3 i0 (.int .i64 0) 1 Tryz.underlying33 hi hz0 hz1 .i64 .i64 _ _ ls.length rfl rfl ?c1 ?c1 ?c2 ?c3 ?c4 ?_)
  case c1 => omega
  case c2 => first | omega | (rw [hz2]; omega)
  case c3 => unfold maxLen; omega
  try case c4 => exact Nat.le_refl _
  intro w1 hown1 hg1
  have hb1 := below_of_grown hg1
  have hr1 := row_of_ownI hown1
  rw [← Hg0.out] at hr1 ⊢
  have Hb1 := Lib.hid hb1
  rw [← Bm.codesTo_zero ls] at hr1
  have Hr1 := Lib.hid hr1
  clear hown1 hg1 hb1 hr1 hi hz0 hz1 hz2
  go_wp2
  go_loopw [4] (fun i wr => ∃ q : Nat, q ≤ ls.length ∧ i = .int .i64 (q : Int) ∧ Hid (Row wr g0 3 (i64s (Bm.codesTo ls q))) ∧ Hid (Below w.heap.size w wr)) (fun i _ => ls.length - (intOf i).toNat)
  case atStart => exact ⟨0, by omega, rfl, Hr1, Hb1⟩
  case round =>
    obtain ⟨q, hq, rfl, hrow, hbel⟩ := hrel
    clear Hr1 Hb1
    by_cases hql : q < ls.length
    · obtain ⟨g, off, hA, hc⟩ : ∃ g off, A = some ⟨g, off, none⟩ ∧ ∀ W, Below w.heap.size w W → ∀ j (hj : j < ls.length), W.cell? ⟨g, off + j, none⟩ = some (.int .i64 (ls[j] : Int)) := by
        obtain ⟨g, off, e, _⟩ := reads_i9 Hr.out (by omega)
        subst e
        exact ⟨g, off, rfl, fun W hb j hj => by
          obtain ⟨g', off', e, hc⟩ := reads_i9 (reads_on Hr.out hb) (by omega)
          injection e with e
          injection e with e1 e2
          subst e1 e2
          exact hc j hj⟩
      subst hA
      have Hc := Lib.hid hc
      have c0 := hc wr hbel.out q hql
      have hq11 := H11.out ls[q] (List.getElem_mem hql)
      have Hcell : Hid (wr.cell? ⟨g0, q, none⟩ = some (.int .i64 0)) := Lib.hid (by
        have h1 := hrow.out.cell q
        have h2 := Bm.codesTo_get ls q hql
        simp only [i64s, List.getElem?_map, h2, Option.map_some] at h1
        exact h1)
      have hgq : ls[q]?.getD 0 = ls[q] := by rw [List.getElem?_eq_getElem hql, Option.getD_some]
      have Hn := Lib.hid (Bm.codesTo_next ls q hql)
      have Hn0 := Lib.hid (Bm.codesTo_none ls q hql)
      have Hcz : Hid (ls[q] = 0 → Bm.codeN9 ls q = 0) := Lib.hid (fun h => by unfold Bm.codeN9; rw [hgq, if_pos h])
      have Hcn : Hid (ls[q] ≠ 0 → Bm.codeN9 ls q = Bm.aheadN ls q / 2 ^ (11 - ls[q])) := Lib.hid (fun h => by unfold Bm.codeN9; rw [hgq, if_neg h])
      have Hgq := Lib.hid hgq
      clear hc hgq
      obtain ⟨b, hb⟩ : ∃ b, b = ls[q] := ⟨_, rfl⟩
      rw [← hb] at c0 hq11 Hcz Hcn Hgq
      have Hb := Lib.hid hb
      clear hb
      by_cases hb0 : b = 0
      · subst hb0
        have H2 := Lib.hid (Hn0.out (Hcz.out rfl))
        clear Hcn Hcz Hn Hn0 Hcell
        go_wp2
        go_roundw
        case rel => exact ⟨q + 1, by omega, by go_num, Lib.hid (by rw [H2.out]; exact hrow.out), hbel⟩
        case measure => simp [intOf]; omega
      · have hbne : ((b : Int) == 0) = false := by rw [beq_eq_false_iff_ne]; omega
        have Hce := Lib.hid (Hcn.out hb0)
        clear Hcn Hcz Hn0
        obtain ⟨wo, rfl⟩ : ∃ wo : World, wo = wr := ⟨_, rfl⟩
        go_wp2
        clear c0
        go_loopw [5, 6] (fun s k wr => ∃ t : Nat, t ≤ ls.length ∧ k = .int .i64 (t : Int) ∧ s = .int .i64 (Bm.aheadQ ls q t : Int) ∧ ∃ m, wr = wo.drewN m) (fun _ k _ => ls.length - (intOf k).toNat)
        case atStart => exact ⟨0, by omega, rfl, rfl, 0, rfl⟩
        case round =>
          obtain ⟨t, ht, rfl, rfl, m, rfl⟩ := hrel
          have hbd := below_drewN hbel.out m
          by_cases htl : t < ls.length
          · have c1 := Hc.out _ hbel.out t htl
            have c2 := Hc.out _ hbel.out q hql
            rw [← Hb.out] at c2
            have ht11 := H11.out ls[t] (List.getElem_mem htl)
            have hgt : ls[t]?.getD 0 = ls[t] := by rw [List.getElem?_eq_getElem htl, Option.getD_some]
            have Hs := Lib.hid (Bm.aheadQ_succ ls q t)
            have hal := Bm.aheadQ_le ls q t
            have hpl := Bm.part_le ls[t]
            have hbf : Bm.beforeB ls t q = (decide (0 < ls[t]) && (decide (ls[t] < b) || (decide (ls[t] = b) && decide (t < q)))) := by
              unfold Bm.beforeB
              rw [hgt, Hgq.out]
            rw [hbf, hgt] at Hs
            have Hsz : Hid (∀ W, 0 < ls[t] → Calls Tryz.prog 64 #[.int .i64 (11 - (ls[t] : Int))] W fun e w' => e = .returned (.int .i64 (Bm.partL ls[t] : Int)) ∧ W = w') := Lib.hid (fun W h0 => by
              have h1 := hsize_any (11 - (ls[t] : Int)) W (by omega)
              rw [show (11 - (ls[t] : Int)).toNat = 11 - ls[t] by omega] at h1
              unfold Bm.partL
              rw [if_neg (by omega)]
              exact h1)
            clear hbf hgt
            generalize Bm.aheadQ ls q t = S at *
            generalize Bm.partL ls[t] = P at *
            generalize ls[t] = a at *
            have hi1 : (0 : Int) ≤ (t : Int) := by omega
            have hi2 : (0 : Int) ≤ (q : Int) := by omega
            by_cases k1 : 0 < a
            · have d1 : decide ((0 : Int) < (a : Int)) = true := decide_eq_true (by omega)
              have Hsz2 := Lib.hid (fun W => Hsz.out W k1)
              clear Hsz
              by_cases k2 : a < b ∨ (a = b ∧ t < q)
              · have Hs2 : Hid (Bm.aheadQ ls q (t + 1) = S + P) := Lib.hid (by rw [Hs.out, if_pos]; simp; omega)
                clear Hs
                by_cases k3 : a < b
                · have d3 : decide (a < b) = true := decide_eq_true k3
                  go_wp2_with fail
                  go_quiet (fail)
                  go_wp2_with fail
                  refine (Hsz2.out _).mono ?_
                  rintro e w' ⟨rfl, rfl⟩
                  go_wp2
                  go_roundw
                  case rel => exact ⟨t + 1, by omega, by go_num, by rw [Hs2.out]; go_num, _, rfl⟩
                  case measure => simp [intOf]; omega
                · have d3 : decide (a < b) = false := decide_eq_false k3
                  obtain ⟨rfl, k4⟩ : a = b ∧ t < q := by omega
                  have d4 : decide (t < q) = true := decide_eq_true k4
                  go_wp2_with fail
                  go_quiet (fail)
                  go_wp2_with fail
                  refine (Hsz2.out _).mono ?_
                  rintro e w' ⟨rfl, rfl⟩
                  go_wp2
                  go_roundw
                  case rel => exact ⟨t + 1, by omega, by go_num, by rw [Hs2.out]; go_num, _, rfl⟩
                  case measure => simp [intOf]; omega
              · have Hs2 : Hid (Bm.aheadQ ls q (t + 1) = S) := Lib.hid (by rw [Hs.out, if_neg (by simp; omega)]; omega)
                have d3 : decide (a < b) = false := decide_eq_false (by omega)
                clear Hs Hsz2
                by_cases k4 : a = b
                · subst k4
                  have d4 : decide (t < q) = false := decide_eq_false (by omega)
                  go_wp2_with fail
                  go_quiet (fail)
                  go_wp2
                  go_roundw
                  case rel => exact ⟨t + 1, by omega, by go_num, by rw [Hs2.out], _, rfl⟩
                  case measure => simp [intOf]; omega
                · have d4 : ((a : Int) == (b : Int)) = false := by rw [beq_eq_false_iff_ne]; omega
                  go_wp2_with fail
                  go_quiet (fail)
                  go_wp2
                  go_roundw
                  case rel => exact ⟨t + 1, by omega, by go_num, by rw [Hs2.out], _, rfl⟩
                  case measure => simp [intOf]; omega
            · have d1 : decide ((0 : Int) < (a : Int)) = false := decide_eq_false (by omega)
              have Hs2 : Hid (Bm.aheadQ ls q (t + 1) = S) := Lib.hid (by rw [Hs.out, if_neg (by simp; omega)]; omega)
              clear Hs Hsz
              go_wp2_with fail
              go_quiet (fail)
              go_wp2
              go_roundw
              case rel => exact ⟨t + 1, by omega, by go_num, by rw [Hs2.out], _, rfl⟩
              case measure => simp [intOf]; omega
          · obtain rfl : t = ls.length := by omega
            have c2 := Hc.out _ hbel.out q hql
            rw [← Hb.out] at c2
            have Hsz : Hid (∀ W, Calls Tryz.prog 64 #[.int .i64 (11 - (b : Int))] W fun e w' => e = .returned (.int .i64 ((2 ^ (11 - b) : Nat) : Int)) ∧ W = w') := Lib.hid (fun W => by
              have h1 := hsize_any (11 - (b : Int)) W (by omega)
              rw [show (11 - (b : Int)).toNat = 11 - b by omega] at h1
              exact h1)
            have hal := Bm.aheadQ_le ls q ls.length
            have hP0 : 0 < 2 ^ (11 - b) := Nat.two_pow_pos _
            have Hfin : Hid (Bm.codeN9 ls q = Bm.aheadQ ls q ls.length / 2 ^ (11 - b)) := Lib.hid Hce.out
            have hcd : (wo.drewN m).cell? ⟨g0, q, none⟩ = some (.int .i64 0) := Hcell.out
            have hfd : (wo.drewN m).frozen? ⟨g0, q, none⟩ = false := hrow.out.free q
            generalize Bm.aheadQ ls q ls.length = S at *
            generalize 2 ^ (11 - b) = P at *
            have hdv : (S : Int) / (P : Int) = ((S / P : Nat) : Int) := by simp
            have hq0 : 0 ≤ (S : Int) / (P : Int) := by rw [hdv]; exact Int.natCast_nonneg _
            have hq1 : (S : Int) / (P : Int) ≤ (S : Int) := by rw [hdv]; exact Int.ofNat_le.2 (Nat.div_le_self S P)
            have Hdv := Lib.hid hdv
            clear hdv
            go_wp2_with fail
            refine (Hsz.out _).mono ?_
            rintro e w' ⟨rfl, rfl⟩
            go_wp2
            go_roundw
            case rel =>
              refine ⟨q + 1, by omega, by go_num, Lib.hid ?_, Lib.hid (hbd.setCell (by rw [Hg0.out]; exact Nat.le_refl _) _)⟩
              have h0 : Row (wo.drewN m) g0 3 (i64s (Bm.codesTo ls q)) := hrow.out
              rw [Hn.out, Hfin.out]
              have h1 := h0.set_ q (.int .i64 ((S : Int) / (P : Int)))
              rw [show i64s ((Bm.codesTo ls q).set q (S / P)) = (i64s (Bm.codesTo ls q)).set q (.int .i64 ((S / P : Nat) : Int)) by simp [i64s, List.map_set], ← Hdv.out]
              exact h1
            case measure => simp [intOf]; omega
    · obtain rfl : q = ls.length := by omega
      rw [Bm.codesTo_all] at hrow
      go_wp2
      go_ret
      exact ⟨g0, rfl, by rw [Hg0.out]; exact Nat.le_refl _, hrow.out, hbel.out⟩
end Go.Proofs.YtgcfdjgfnagmjaaGreat

namespace Go.Proofs.YtgcfdjgfnagmjaaGreat
open Go.RowKit

set_option maxRecDepth 100000 in
theorem cut_to (A : Option Addr) (L c q : Nat) (W : World) (h : q ≤ L) (hc : L ≤ c) : (Instr.slice 33 (.slice A L c) none (some (.int .i64 (q : Int))) none).run Tryz.prog W = .ok (.slice A q c) W := by
  have h1 : q ≤ c := by omega
  rcases A with _ | a
  · go_simp
  · go_simp
/-- Where a slice goes on behind q of its elements. -/
def behindA (A : Option Addr) (c q : Nat) : Option Addr := if c = q then A else A.map (·.add q)
set_option maxRecDepth 100000 in
theorem cut_from (A : Option Addr) (L c q : Nat) (W : World) (h : q ≤ L) (hc : L ≤ c) : (Instr.slice 33 (.slice A L c) (some (.int .i64 (q : Int))) none none).run Tryz.prog W = .ok (.slice (behindA A c q) (L - q) (c - q)) W := by
  have h1 : q ≤ c := by omega
  unfold behindA
  by_cases hcq : c = q
  · subst hcq
    rcases A with _ | a
    · go_simp
    · go_simp
  · rcases A with _ | a
    · go_simp
    · go_simp
theorem reads_behind {w : World} {A : Option Addr} {l : List Nat} {c q : Nat} (h : Reads w A (i64s l)) (hc : l.length ≤ c) : Reads w (behindA A c q) (i64s (l.drop q)) := fun hne => by
  have h0 : q < l.length := by
    rcases Nat.lt_or_ge q l.length with e | e
    · exact e
    · rw [List.drop_of_length_le e] at hne; simp [i64s] at hne
  obtain ⟨g, off, e, hcell⟩ := h (by intro e; have := congrArg List.length e; rw [i64s_length, List.length_nil] at this; omega)
  refine ⟨g, off + q, ?_, fun j hj => ?_⟩
  · unfold behindA
    rw [if_neg (by omega), e]
    show some _ = _
    congr 1
    unfold Addr.add
    split <;> simp_all
  · rw [i64s_length, List.length_drop] at hj
    rw [Nat.add_assoc, hcell (q + j) (by rw [i64s_length]; omega), i64s_get? _ _ (by omega), i64s_get? _ _ (by rw [List.length_drop]; omega), List.getElem_drop]
theorem reads_far {w : World} {A : Option Addr} {xs : List Value} {p : Addr} {u : Value} (h : Reads w A xs) (hA : ∀ a, A = some a → a.block ≠ p.block) : Reads (w.setCell p u) A xs := fun hx => by
  obtain ⟨g, off, e, hc⟩ := h hx
  refine ⟨g, off, e, fun j hj => ?_⟩
  rw [World.cell?_of_block (a := ⟨g, off + j, none⟩) (Below.heap_setCell w p u g (hA _ e))]
  exact hc j hj
theorem own_capA {w : World} {base n c : Nat} {A : Option Addr} {e : TypeId} {xs : List Value} (h : w.ownsRow base e 1 (.slice A n c) n xs) : n ≤ c ∧ c ≤ maxLen := by
  rcases h.2 with ⟨hv, h0⟩ | ⟨g', cap', cur, hv, hb, hh, h1, h2, _⟩
  · injection hv with _ _ e3
    subst h0 e3
    exact ⟨Nat.le_refl _, by unfold maxLen; omega⟩
  · injection hv with _ _ e3
    subst e3
    exact ⟨h1, h2⟩
theorem cell_in {w : World} {g j : Nat} {v : Value} (h : w.cell? ⟨g, j, none⟩ = some v) : g < w.heap.size := by
  rcases Nat.lt_or_ge g w.heap.size with h2 | h2
  · exact h2
  · simp [World.cell?, Array.getElem?_eq_none h2] at h
theorem quiet_leftC {P : Program} {f : FuncId} {args : Array Value} {w : World} {n : Nat} {v : Value}
    (h : Calls P f args (w.drewN n) fun e w' => e = .returned v ∧ w.drewN n = w') : Calls P f args (w.drewN n) fun e w'' => e = .returned v ∧ ∃ m, w'' = w.drewN m :=
  h.mono fun _ _ ⟨he, hm⟩ => ⟨he, n, hm.symm⟩
end Go.Proofs.YtgcfdjgfnagmjaaGreat

namespace Go.Proofs.YtgcfdjgfnagmjaaGreat
open Go.RowKit

set_option maxRecDepth 100000 in
theorem cut_ints (A : Option Addr) (L c q : Nat) (W : World) (h : q ≤ L) (hc : L ≤ c) : (Instr.slice 33 (.slice A L c) none (some (.int .i64 (q : Int))) none).run Tryz.prog W = .ok (.slice A q c) W := by
  have h1 : q ≤ c := by omega
  rcases A with _ | a
  · go_simp
  · go_simp
/-- Behind k all are 0, and the last one of the first k isn't. -/
def EndsAt (l : List Int) (k : Nat) : Prop := k ≤ l.length ∧ (∀ j (h : j < l.length), k ≤ j → l[j] = 0) ∧ (k = 0 ∨ ∃ h : k - 1 < l.length, l[k - 1] ≠ 0)
set_option maxHeartbeats 1000000 in
set_option maxRecDepth 100000 in
theorem gshort_any (A : Option Addr) (c : Nat) (l : List Int) (w : World) (hl : l.length ≤ 1000000000) (hc : l.length ≤ c) (hr : Reads w A (i64z l)) :
    Calls Tryz.prog 65 #[.slice A l.length c] w fun e w' => ∃ k, e = .returned (.slice A k c) ∧ EndsAt l k ∧ w = w' := by
  have Hr := Lib.hid hr
  have Hcut := Lib.hid (fun q (hq : q ≤ l.length) W => cut_ints A l.length c q W hq hc)
  clear hr
  go_enter Tryz.func65, Tryz.ntmps65
  go_wp2
  go_loop [3] (fun n => ∃ k : Nat, k ≤ l.length ∧ n = .int .i64 (k : Int) ∧ Hid (∀ j (h : j < l.length), k ≤ j → l[j] = 0)) (fun n => (intOf n).toNat)
  case atStart => exact ⟨l.length, Nat.le_refl _, rfl, Lib.hid (fun j h hk => by omega)⟩
  case round =>
    obtain ⟨k, hk, rfl, hz⟩ := hrel
    have hcut := Hcut.out k hk
    rcases Nat.eq_zero_or_pos k with h0 | h0
    · subst h0
      clear Hr Hcut
      go_wp2
      go_ret
      exact ⟨0, rfl, ⟨by omega, hz.out, .inl rfl⟩, rfl⟩
    · obtain ⟨q, rfl⟩ : ∃ q, k = q + 1 := ⟨k - 1, by omega⟩
      obtain ⟨g, off, rfl, hcell⟩ := reads_iz Hr.out (by omega)
      have c0 := hcell q (by omega)
      have hnz : l[q] ≠ 0 → EndsAt l (q + 1) := fun h => ⟨hk, hz.out, .inr ⟨by omega, h⟩⟩
      have hnx : l[q] = 0 → ∀ j (h : j < l.length), q ≤ j → l[j] = 0 := fun h j hj hq => by
        by_cases e : j = q
        · subst e; exact h
        · exact hz.out j hj (by omega)
      have Hnz := Lib.hid hnz
      have Hnx := Lib.hid hnx
      have hqi : ((q + 1 : Nat) : Int) - 1 = (q : Int) := by omega
      clear hcell hnz hnx Hr Hcut
      generalize l[q] = z at c0 Hnz Hnx
      by_cases hzz : z = 0
      · subst hzz
        have Hn := Lib.hid (Hnx.out rfl)
        clear Hnz Hnx hcut
        go_wp2
        go_round
        case rel => exact ⟨q, by omega, by go_num, Hn⟩
        case measure => simp [intOf]
      · have hd : (z == 0) = false := by simpa using hzz
        have He := Lib.hid (Hnz.out hzz)
        clear Hnz Hnx
        go_wp2
        go_ret
        exact ⟨q + 1, rfl, He.out, rfl⟩
end Go.Proofs.YtgcfdjgfnagmjaaGreat

namespace Go.Proofs.YtgcfdjgfnagmjaaGreat
open Go.RowKit
namespace Bm
theorem short_take : ∀ (ls : List Nat) (k : Nat), k ≤ ls.length → (∀ j, k ≤ j → ls[j]?.getD 0 = 0) → (k = 0 ∨ ls[k - 1]?.getD 0 ≠ 0) → shortL ls = ls.take k
  | [], k, hk, _, _ => by simp [shortL]
  | n :: l, k, hk, hz, hl => by
    have hsum : ∀ l : List Nat, (∀ j, l[j]?.getD 0 = 0) → l.sum = 0 := fun l => by
      induction l with
      | nil => simp
      | cons a l ih =>
        intro h
        have h0 := h 0
        rw [List.getElem?_cons_zero, Option.getD_some] at h0
        rw [List.sum_cons, h0, ih (fun j => by have := h (j + 1); rwa [List.getElem?_cons_succ] at this)]
    have hsum2 : ∀ (l : List Nat) (j : Nat), l.sum = 0 → l[j]?.getD 0 = 0 := fun l => by
      induction l with
      | nil => intro j _; simp
      | cons a l ih =>
        intro j h
        rw [List.sum_cons] at h
        cases j with
        | zero => rw [List.getElem?_cons_zero, Option.getD_some]; omega
        | succ j => rw [List.getElem?_cons_succ]; exact ih j (by omega)
    unfold shortL
    rcases k with _ | k
    · rw [if_pos (by have := hsum (n :: l) (fun j => hz j (by omega)); rwa [List.sum_cons] at this), List.take_zero]
    · have hne : ¬ (n + l.sum = 0) := fun h => by
        rcases hl with h1 | h1
        · omega
        · exact h1 (hsum2 (n :: l) _ (by rw [List.sum_cons]; exact h))
      rw [if_neg hne, List.take_succ_cons]
      congr 1
      refine short_take l k (by simpa using hk) (fun j hj => by have := hz (j + 1) (by omega); rwa [List.getElem?_cons_succ] at this) ?_
      rcases hl with h1 | h1
      · omega
      · rcases k with _ | k
        · exact .inl rfl
        · refine .inr ?_
          rw [Nat.add_sub_cancel, List.getElem?_cons_succ] at h1
          rw [Nat.add_sub_cancel]
          exact h1
end Bm
/-- What the reference's Short cuts off is what has no bits. -/
theorem short_ends (ls : List Nat) (k : Nat) (h : EndsAt (ls.map (fun n : Nat => (n : Int))) k) : Bm.shortL ls = ls.take k ∧ k = (Bm.shortL ls).length ∧ k ≤ ls.length := by
  obtain ⟨h1, h2, h3⟩ := h
  rw [List.length_map] at h1
  have e : Bm.shortL ls = ls.take k := by
    refine Bm.short_take ls k h1 (fun j hj => ?_) ?_
    · rcases Nat.lt_or_ge j ls.length with h4 | h4
      · have h5 := h2 j (by rw [List.length_map]; exact h4) hj
        rw [List.getElem_map] at h5
        rw [List.getElem?_eq_getElem h4, Option.getD_some]
        omega
      · rw [List.getElem?_eq_none h4]; rfl
    · rcases h3 with h4 | ⟨h4, h5⟩
      · exact .inl h4
      · right
        rw [List.length_map] at h4
        rw [List.getElem_map] at h5
        rw [List.getElem?_eq_getElem h4, Option.getD_some]
        omega
  exact ⟨e, by rw [e, List.length_take]; omega, h1⟩
theorem reads_take {w : World} {A : Option Addr} {xs : List Value} (h : Reads w A xs) (k : Nat) : Reads w A (xs.take k) := fun hne => by
  obtain ⟨g, off, e, hc⟩ := h (by rintro rfl; simp at hne)
  refine ⟨g, off, e, fun j hj => ?_⟩
  rw [List.length_take] at hj
  rw [hc j (by omega), List.getElem?_take, if_pos (by omega)]
end Go.Proofs.YtgcfdjgfnagmjaaGreat

namespace Go.Proofs.YtgcfdjgfnagmjaaGreat
open Go.RowKit
/-- What math/bits.ReverseBytes32, math/bits.Reverse32 reckon. -/
def rsI (k m x : Int) : Int := bits .or .u32 (bits .and .u32 (x / k) m) (bits .and .u32 x m * k % 4294967296)
def rbI (x : Int) : Int := bits .or .u32 (rsI 256 16711935 x / 65536) (rsI 256 16711935 x * 65536 % 4294967296)
def rvI (x : Int) : Int := rbI (rsI 16 252645135 (rsI 4 858993459 (rsI 2 1431655765 x)))
set_option maxRecDepth 100000 in
theorem revb_any (x : Int) (w : World) :
    Calls Tryz.prog 101 #[.int .u32 x] w fun e w' => e = .returned (.int .u32 (rbI x)) ∧ w = w' := by
  go_enter Tryz.func101, Tryz.ntmps101
  go_wp2
  go_ret
  exact ⟨rfl, rfl⟩
set_option maxRecDepth 100000 in
theorem rev_any (x : Int) (w : World) :
    Calls Tryz.prog 90 #[.int .u32 x] w fun e w' => e = .returned (.int .u32 (rvI x)) ∧ w = w' := by
  have H := Lib.hid (fun y => revb_any y w)
  go_enter Tryz.func90, Tryz.ntmps90
  go_wp2_with fail
  refine (H.out _).mono ?_
  rintro e w' ⟨rfl, rfl⟩
  go_wp2
  go_ret
  exact ⟨rfl, rfl⟩
namespace Bm
/-- The bits of a number of n bits, the highest one first. -/
def litB (n c : Nat) : List Nat := (List.range n).map fun j => c / 2 ^ (n - 1 - j) % 2
theorem cbits_top (ls : List Nat) (s : Nat) : cbits ls s = litB (ls[s]?.getD 0) (codeN9 ls s) := rfl
end Bm
theorem rv_all : ((List.range 12).all fun n => (List.range (2 ^ n)).all fun c => rvI (c : Int) / 2 ^ (32 - n) == ((Bm.bitsV (Bm.litB n c) : Nat) : Int)) = true := by kernel_rfl
theorem rv_at (n c : Nat) (hn : n ≤ 11) (hc : c < 2 ^ n) : rvI (c : Int) / 2 ^ (32 - n) = ((Bm.bitsV (Bm.litB n c) : Nat) : Int) := by
  have h := rv_all
  rw [List.all_eq_true] at h
  have h1 := h n (List.mem_range.2 (by omega))
  rw [List.all_eq_true] at h1
  exact beq_iff_eq.1 (h1 c (List.mem_range.2 hc))
set_option maxRecDepth 100000 in
theorem litfl_any (n c : Nat) (w : World) (hn : n ≤ 11) (hc : c < 2 ^ n) :
    Calls Tryz.prog 62 #[.int .i64 (c : Int), .int .i64 (n : Int)] w fun e w' => e = .returned (.int .u32 (Bm.bitsV (Bm.litB n c) : Int)) ∧ w = w' := by
  have H := Lib.hid (rev_any (c : Int) w)
  have hc2 : c < 2048 := Nat.lt_of_lt_of_le hc (Nat.pow_le_pow_right (n := 2) (j := 11) (by omega) hn)
  have Hv := Lib.hid (rv_at n c hn hc)
  have hcu : IntKind.u32.wrap (c : Int) = (c : Int) := by simp [IntKind.wrap, IntKind.bits, IntKind.signed]; omega
  clear hc
  go_enter Tryz.func62, Tryz.ntmps62
  go_wp2_with fail
  refine H.out.mono ?_
  rintro e w' ⟨rfl, rfl⟩
  go_wp2
  go_ret
  exact ⟨congrArg (fun x => Ending.returned (Value.int .u32 x)) Hv.out, rfl⟩
end Go.Proofs.YtgcfdjgfnagmjaaGreat

namespace Go.Proofs.YtgcfdjgfnagmjaaGreat.Bm

theorem codes_get (ls : List Nat) (i : Nat) (h : i < ls.length) : (codesN ls)[i]'(by simpa [codesN] using h) = codeN9 ls i := by simp [codesN]
theorem codes_length (ls : List Nat) : (codesN ls).length = ls.length := by simp [codesN]
/-- Where a fork leads. -/
def entF (F : List (Int × Int)) (a b : Nat) : Int := if b = 0 then (F[a]?.getD (0, 0)).1 else (F[a]?.getD (0, 0)).2
def setF (F : List (Int × Int)) (a b : Nat) (z : Int) : List (Int × Int) := F.set a (if b = 0 then (z, (F[a]?.getD (0, 0)).2) else ((F[a]?.getD (0, 0)).1, z))
theorem setF_length (F : List (Int × Int)) (a b : Nat) (z : Int) : (setF F a b z).length = F.length := by simp [setF]
theorem ent_same (F : List (Int × Int)) (a b : Nat) (z : Int) (ha : a < F.length) : entF (setF F a b z) a b = z := by
  unfold entF setF
  rw [List.getElem?_set_self ha, Option.getD_some]
  split <;> rfl
theorem ent_other (F : List (Int × Int)) (a b a' b' : Nat) (z : Int) (hb : b < 2) (hb' : b' < 2) (h : ¬ (a' = a ∧ b' = b)) : entF (setF F a b z) a' b' = entF F a' b' := by
  unfold entF setF
  by_cases ha : a' = a
  · subst ha
    have hne : b' ≠ b := fun e => h ⟨rfl, e⟩
    rcases Nat.lt_or_ge a' F.length with hl | hl
    · rw [List.getElem?_set_self hl, Option.getD_some]
      by_cases h0 : b = 0
      · rw [if_pos h0, if_neg (show ¬ b' = 0 by omega), if_neg (show ¬ b' = 0 by omega)]
      · rw [if_neg h0, if_pos (show b' = 0 by omega), if_pos (show b' = 0 by omega)]
    · rw [List.set_eq_of_length_le hl]
  · rw [List.getElem?_set_ne (fun e => ha e.symm)]
theorem ent_app (F : List (Int × Int)) (a b : Nat) (t : Int × Int) (ha : a < F.length) : entF (F ++ [t]) a b = entF F a b := by
  unfold entF
  rw [List.getElem?_append_left ha]
theorem ent_new (F : List (Int × Int)) (b : Nat) : entF (F ++ [(0, 0)]) F.length b = 0 := by
  unfold entF
  rw [List.getElem?_append_right (Nat.le_refl _), Nat.sub_self]
  simp
/-- What a fork's way says. -/
def EntOk (ls : List Nat) (q : Nat) (P : List (List Nat)) (z : Int) (p : List Nat) : Prop :=
  (0 < z → P[z.toNat]? = some p) ∧ (z = 0 → p ∉ P ∧ ∀ k, k < q → 0 < ls[k]?.getD 0 → cbits ls k ≠ p) ∧ (z < 0 → ∃ k : Nat, k < q ∧ z = -1 - (k : Int) ∧ 0 < ls[k]?.getD 0 ∧ cbits ls k = p)
/-- The forks of the first q symbols (and of some beginnings of the next one's code); P: the bits that lead to each. -/
structure Tr (ls : List Nat) (q : Nat) (P : List (List Nat)) (F : List (Int × Int)) : Prop where
  len : F.length = P.length
  root : P[0]? = some []
  nodup : P.Nodup
  clo : ∀ p b, p ++ [b] ∈ P → p ∈ P
  pre : ∀ p ∈ P, p ≠ [] → ∃ k, k ≤ q ∧ 0 < ls[k]?.getD 0 ∧ p <+: cbits ls k ∧ p.length < ls[k]?.getD 0
  all : ∀ k, k < q → 0 < ls[k]?.getD 0 → ∀ i, i < ls[k]?.getD 0 → (cbits ls k).take i ∈ P
  ent : ∀ a p, P[a]? = some p → ∀ b, b < 2 → EntOk ls q P (entF F a b) (p ++ [b])
theorem Tr.start (ls : List Nat) : Tr ls 0 [[]] [(0, 0)] where
  len := rfl
  root := rfl
  nodup := by simp
  clo := fun p b h => by simp at h
  pre := fun p hp h0 => by simp at hp; exact absurd hp h0
  all := fun k hk => by omega
  ent := fun a p ha b hb => by
    rcases a with _ | a
    · simp at ha
      subst ha
      have e : entF [(0, 0)] 0 b = 0 := by unfold entF; simp
      rw [e]
      exact ⟨by omega, fun _ => ⟨by simp, fun k hk => by omega⟩, by omega⟩
    · simp at ha
theorem Tr.skip {ls : List Nat} {q : Nat} {P : List (List Nat)} {F : List (Int × Int)} (h : Tr ls q P F) (h0 : ls[q]?.getD 0 = 0) : Tr ls (q + 1) P F where
  len := h.len
  root := h.root
  nodup := h.nodup
  clo := h.clo
  pre := fun p hp hne => by
    obtain ⟨k, h1, h2⟩ := h.pre p hp hne
    exact ⟨k, by omega, h2⟩
  all := fun k hk hk0 => by
    by_cases e : k = q
    · subst e; omega
    · exact h.all k (by omega) hk0
  ent := fun a p ha b hb => by
    obtain ⟨h1, h2, h3⟩ := h.ent a p ha b hb
    refine ⟨h1, fun hz => ⟨(h2 hz).1, fun k hk hk0 => ?_⟩, fun hz => ?_⟩
    · by_cases e : k = q
      · subst e; omega
      · exact (h2 hz).2 k (by omega) hk0
    · obtain ⟨k, g1, g2⟩ := h3 hz
      exact ⟨k, by omega, g2⟩
theorem take_next (l : List Nat) (j : Nat) (h : j < l.length) : l.take (j + 1) = l.take j ++ [l[j]] := List.take_succ_eq_append_getElem h
theorem mem_at {P : List (List Nat)} {a : Nat} {p : List Nat} (h : P[a]? = some p) : p ∈ P := List.mem_of_getElem? h
theorem at_lt {P : List (List Nat)} {a : Nat} {p : List Nat} (h : P[a]? = some p) : a < P.length := (List.getElem?_eq_some_iff.1 h).1
theorem at_one {P : List (List Nat)} (hn : P.Nodup) {a a' : Nat} {p : List Nat} (h : P[a]? = some p) (h' : P[a']? = some p) : a = a' := by
  have h1 := at_lt h
  exact (List.getElem?_inj h1 hn).1 (h.trans h'.symm)
theorem snoc_inj {p r : List Nat} {b c : Nat} (h : p ++ [b] = r ++ [c]) : p = r ∧ b = c := by
  have := List.append_inj' h rfl
  exact ⟨this.1, by simpa using this.2⟩
section
variable {ls : List Nat} {q : Nat} {P : List (List Nat)} {F : List (Int × Int)}
/-- A way that leads on. -/
theorem Tr.on (h : Tr ls q P F) {a b : Nat} {p : List Nat} (ha : P[a]? = some p) (hb : b < 2) (hz : 0 < entF F a b) : P[(entF F a b).toNat]? = some (p ++ [b]) := (h.ent a p ha b hb).1 hz
/-- Ahead of a code's end no code ends. -/
theorem Tr.pos (h : Tr ls q P F) (hW : WholeN ls) (hq : q < ls.length) {a j : Nat} (hj : j < (cbits ls q).length) (ha : P[a]? = some ((cbits ls q).take j)) : 0 ≤ entF F a (cbits ls q)[j] := by
  have hb := cbits_lt ls q _ (List.getElem_mem hj)
  rcases Int.lt_or_le (entF F a (cbits ls q)[j]) 0 with hz | hz
  · exfalso
    obtain ⟨k, h1, _, h3, h4⟩ := (h.ent a _ ha _ hb).2.2 hz
    rw [← take_next _ j hj] at h4
    have hl := cbits_length ls q
    have := prefix_one ls k q (by omega) hq hW h3 (by omega) (cbits ls q) (by rw [h4]; exact List.take_prefix _ _) (List.prefix_refl _)
    omega
  · exact hz
/-- A new fork. -/
theorem Tr.grow (h : Tr ls q P F) {a j : Nat} (hj : j + 1 < (cbits ls q).length) (ha : P[a]? = some ((cbits ls q).take j)) (hz : entF F a ((cbits ls q)[j]'(by omega)) = 0) :
    Tr ls q (P ++ [(cbits ls q).take (j + 1)]) (setF F a ((cbits ls q)[j]'(by omega)) (P.length : Int) ++ [(0, 0)]) := by
  have hb := cbits_lt ls q _ (List.getElem_mem (show j < (cbits ls q).length by omega))
  have hnx := take_next (cbits ls q) j (by omega)
  have hl := cbits_length ls q
  obtain ⟨hnp, hnc⟩ := (h.ent a _ ha _ hb).2.1 hz
  rw [← hnx] at hnp hnc
  have hal := at_lt ha
  have hpl : ((cbits ls q).take (j + 1)).length = j + 1 := by rw [List.length_take]; omega
  have hap := mem_at ha
  generalize (cbits ls q)[j]'(by omega) = bb at *
  generalize hp : (cbits ls q).take (j + 1) = p at *
  have hpp : p <+: cbits ls q := by rw [← hp]; exact List.take_prefix _ _
  generalize hr : (cbits ls q).take j = r at *
  have hP0 : 0 < P.length := by omega
  refine ⟨by rw [List.length_append, List.length_append, setF_length, h.len]; rfl, by rw [List.getElem?_append_left hP0]; exact h.root, ?_, ?_, ?_, ?_, ?_⟩
  · rw [List.nodup_append]
    exact ⟨h.nodup, by simp, fun x hx y hy => by simp at hy; subst hy; exact fun e => hnp (e ▸ hx)⟩
  · intro p' b' hm
    rcases List.mem_append.1 hm with hm | hm
    · exact List.mem_append_left _ (h.clo p' b' hm)
    · have e := List.mem_singleton.1 hm
      rw [hnx] at e
      rw [(snoc_inj e).1]
      exact List.mem_append_left _ hap
  · intro p' hm hne
    rcases List.mem_append.1 hm with hm | hm
    · exact h.pre p' hm hne
    · have e := List.mem_singleton.1 hm
      rw [e]
      exact ⟨q, Nat.le_refl _, by omega, hpp, by omega⟩
  · intro k hk hk0 i hi
    exact List.mem_append_left _ (h.all k hk hk0 i hi)
  · intro a' p' ha' b' hb'
    rcases Nat.lt_or_ge a' P.length with hl' | hl'
    · rw [List.getElem?_append_left hl'] at ha'
      rw [ent_app _ _ _ _ (by rw [setF_length, h.len]; exact hl')]
      by_cases he : a' = a ∧ b' = bb
      · obtain ⟨e1, e2⟩ := he
        subst e1 e2
        rw [ent_same _ _ _ _ (by rw [h.len]; exact hl')]
        have e : p' = r := by rw [ha] at ha'; injection ha' with ha'; exact ha'.symm
        refine ⟨fun _ => ?_, fun e => by omega, fun e => by omega⟩
        rw [Int.toNat_natCast, List.getElem?_append_right (Nat.le_refl _), Nat.sub_self, e, ← hnx]
        rfl
      · rw [ent_other _ _ _ _ _ _ hb hb' he]
        obtain ⟨h1, h2, h3⟩ := h.ent a' p' ha' b' hb'
        refine ⟨fun hz => ?_, fun hz => ⟨fun hm => ?_, (h2 hz).2⟩, h3⟩
        · have := h1 hz
          rw [List.getElem?_append_left (at_lt this)]
          exact this
        · rcases List.mem_append.1 hm with hm | hm
          · exact (h2 hz).1 hm
          · have e := List.mem_singleton.1 hm
            rw [hnx] at e
            obtain ⟨e1, e2⟩ := snoc_inj e
            rw [e1] at ha'
            exact he ⟨at_one h.nodup ha' ha, e2⟩
    · have e : a' = P.length := by
        have := at_lt ha'
        rw [List.length_append, List.length_singleton] at this
        omega
      subst e
      rw [List.getElem?_append_right (Nat.le_refl _), Nat.sub_self] at ha'
      have e : p = p' := by simpa using ha'
      subst e
      have e2 : entF (setF F a bb (P.length : Int) ++ [(0, 0)]) P.length b' = 0 := by
        have := ent_new (setF F a bb (P.length : Int)) b'
        rwa [setF_length, h.len] at this
      rw [e2]
      refine ⟨fun e => by omega, fun _ => ⟨fun hm => ?_, fun k hk hk0 e => ?_⟩, fun e => by omega⟩
      · rcases List.mem_append.1 hm with hm | hm
        · exact hnp (h.clo p b' hm)
        · have := congrArg List.length (List.mem_singleton.1 hm)
          rw [List.length_append, List.length_singleton] at this
          omega
      · have hkl := cbits_length ls k
        have h1 := congrArg List.length e
        rw [List.length_append, List.length_singleton] at h1
        have h2 := h.all k hk hk0 p.length (by omega)
        rw [e, List.take_left] at h2
        exact hnp h2
/-- A code's end. -/
theorem Tr.leaf (h : Tr ls q P F) {a n : Nat} (hn : n + 1 = (cbits ls q).length) (ha : P[a]? = some ((cbits ls q).take n)) (hall : ∀ i, i ≤ n → (cbits ls q).take i ∈ P) :
    Tr ls (q + 1) P (setF F a ((cbits ls q)[n]'(by omega)) (-1 - (q : Int))) := by
  have hb := cbits_lt ls q _ (List.getElem_mem (show n < (cbits ls q).length by omega))
  have hnx := take_next (cbits ls q) n (by omega)
  rw [hn, List.take_length] at hnx
  have hl := cbits_length ls q
  have hal := at_lt ha
  generalize (cbits ls q)[n]'(by omega) = bb at *
  refine ⟨by rw [setF_length, h.len], h.root, h.nodup, h.clo, ?_, ?_, ?_⟩
  · intro p hp hne
    obtain ⟨k, h1, h2⟩ := h.pre p hp hne
    exact ⟨k, by omega, h2⟩
  · intro k hk hk0 i hi
    by_cases e : k = q
    · subst e
      exact hall i (by omega)
    · exact h.all k (by omega) hk0 i hi
  · intro a' p' ha' b' hb'
    by_cases he : a' = a ∧ b' = bb
    · obtain ⟨e1, e2⟩ := he
      subst e1 e2
      rw [ent_same _ _ _ _ (by rw [h.len]; exact hal)]
      have e : p' = (cbits ls q).take n := by rw [ha] at ha'; injection ha' with ha'; exact ha'.symm
      exact ⟨fun e => by omega, fun e => by omega, fun _ => ⟨q, by omega, rfl, by omega, by rw [e]; exact hnx⟩⟩
    · rw [ent_other _ _ _ _ _ _ hb hb' he]
      obtain ⟨h1, h2, h3⟩ := h.ent a' p' ha' b' hb'
      refine ⟨h1, fun hz => ⟨(h2 hz).1, fun k hk hk0 e => ?_⟩, fun hz => ?_⟩
      · by_cases ek : k = q
        · subst ek
          rw [hnx] at e
          obtain ⟨e1, e2⟩ := snoc_inj e
          rw [← e1] at ha'
          exact he ⟨at_one h.nodup ha' ha, e2.symm⟩
        · exact (h2 hz).2 k (by omega) hk0 e
      · obtain ⟨k, g1, g2⟩ := h3 hz
        exact ⟨k, by omega, g2⟩
end
theorem met_none (ls l : List Nat) (h : ∀ k, 0 < ls[k]?.getD 0 → ¬ cbits ls k <+: l) : metS ls l = none := by
  have : ∀ q, metTo ls l q = none := fun q => by
    induction q with
    | zero => rfl
    | succ q ih =>
      unfold metTo
      rw [if_neg (fun hc => h q hc.1 hc.2), ih]
  exact this _
section
variable {ls : List Nat} {P : List (List Nat)} {F : List (Int × Int)}
/-- No code begins what leads to a fork. -/
theorem Tr.inner (h : Tr ls ls.length P F) (hW : WholeN ls) {r : List Nat} (hr : r ∈ P) (k : Nat) (hk : 0 < ls[k]?.getD 0) : ¬ cbits ls k <+: r := by
  intro hp
  have hkl := cbits_length ls k
  by_cases he : r = []
  · subst he
    have := hp.length_le
    rw [List.length_nil] at this
    omega
  · obtain ⟨k', _, h2, h3, h4⟩ := h.pre r hr he
    have := prefix_one ls k k' (in_of_pos ls k hk) (in_of_pos ls k' h2) hW hk h2 (cbits ls k') (hp.trans h3) (List.prefix_refl _)
    subst this
    have := hp.length_le
    omega
theorem Tr.read_end (h : Tr ls ls.length P F) (hW : WholeN ls) {r : List Nat} (hr : r ∈ P) : metS ls r = none := met_none ls r (fun k hk => h.inner hW hr k hk)
theorem Tr.read_leaf (h : Tr ls ls.length P F) (hW : WholeN ls) {a b : Nat} {r : List Nat} (ha : P[a]? = some r) (hb : b < 2) (hz : entF F a b < 0) (rest : List Nat) :
    ∃ k : Nat, k < ls.length ∧ entF F a b = -1 - (k : Int) ∧ ls[k]?.getD 0 = r.length + 1 ∧ metS ls (r ++ b :: rest) = some k := by
  obtain ⟨k, h1, h2, h3, h4⟩ := (h.ent a r ha b hb).2.2 hz
  refine ⟨k, h1, h2, by rw [← cbits_length, h4, List.length_append]; rfl, metS_is ls _ k hW h1 h3 ?_⟩
  rw [h4]
  exact ⟨rest, by simp⟩
theorem Tr.read_zero (h : Tr ls ls.length P F) (hW : WholeN ls) {a b : Nat} {r : List Nat} (ha : P[a]? = some r) (hb : b < 2) (hz : entF F a b = 0) (rest : List Nat) : metS ls (r ++ b :: rest) = none := by
  obtain ⟨h1, h2⟩ := (h.ent a r ha b hb).2.1 hz
  refine met_none ls _ (fun k hk hp => ?_)
  have hkl := cbits_length ls k
  rcases Nat.lt_or_ge r.length (ls[k]?.getD 0) with hl | hl
  · have e : (cbits ls k).take (r.length + 1) = r ++ [b] := by
      obtain ⟨t, ht⟩ := hp
      have := congrArg (List.take (r.length + 1)) ht
      rw [List.take_append_of_le_length (by omega)] at this
      rw [this, List.take_append, List.take_of_length_le (by omega)]
      simp
    by_cases he : ls[k]?.getD 0 = r.length + 1
    · exact h2 k (in_of_pos ls k hk) hk (by rw [← e, List.take_of_length_le (by omega)])
    · exact h1 (by rw [← e]; exact h.all k (in_of_pos ls k hk) hk _ (by omega))
  · exact h.inner hW (mem_at ha) k hk (List.prefix_of_prefix_length_le hp (List.prefix_append r (b :: rest)) (by omega))
end
end Go.Proofs.YtgcfdjgfnagmjaaGreat.Bm
