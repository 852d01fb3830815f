/-
  Arguments that came in, for layer 1: a slice of bytes, a slice of ints, as lists of numbers. No condition.
  Ints (of either sign) as cells, slices of ints that read as a list; 2 to a power. No condition.
  Plain mathematics for layer 9 (huff): lengths that may be, that are whole; their codes, none of which begins another; their cost. It speaks of no program. No condition.
  Plain mathematics for layer 9 (huff): two lightest at a time: no whole lengths cost less. It speaks of no program. No condition.
  Mathematics of layer 9's answers: lengths that may be answered for counts; whole lengths, above 0 just where the counts are, cost no less than Huffman's. No condition.
  The reference of layer 5 (count), by its walk: Size. Conditions: as each theorem's premises say.
  Plain mathematics for layer 5 (count): the share of counts of a size, and what it sums to; a log for counts. It speaks of no program. No condition.
  The reference of layer 9, by its walk: Right, Whole. Conditions: as each theorem's premises say.
  The references of layer 9 (huff), by their walks: Codes, Cost. Conditions: as each theorem's premises say.
  The reference of layer 9, by its walk: Cost. Conditions: as the theorem's premises say.
  What layer 9's calls (huff) are to answer, as the laws' walks ask for it: definitions, each a premise of a law's walk. No condition.
  Layer 9 (huff): the laws' awake, by its walk: true. Premises: what the calls of layer 9 answer.
  The reference of layer 5 (counts), by its walk: Right. Conditions: as each theorem's premises say.
  HuffCosts (layer 9): the law's function by its walk: true for any counts and lengths. Premises: what the calls of layer 9 answer.
  HuffLengths (layer 9): the law's function by its walk: true for any counts. Premises: what the calls of layer 9 answer; what the reference's Best, Flat answer.
  A slice of numbers in a block of the call's own, wherever in it it begins: what lies in it, a store, a cut, an append onto it. No condition.
  Plain mathematics for layer 5 (count): how many numbers are above 0; one more than the greatest of bytes; how often each comes. No condition.
  The reference of layer 5 (count), by its walk: Fair. Conditions: as each theorem's premises say.
  What layer 5's calls (count) are to answer, as the laws' walks ask for it: definitions alone, each a premise of a law's walk. No condition.
  The program's layer 5 (count), by its walk: sized, Fair. Conditions: as each theorem's premises say.
-/
import Derived.Test.YtmcobnbahkoopaaGac
import Derived.Test.YtmcobnbahkoopaaGaa
import Derived.ProofKit
import Derived.OpenShut
import Derived.BigQuiet
import Derived.IntWalk
import Derived.WalkSmall
import Derived.Deep.QuietTactic
namespace Go.Proofs.Ytmcobnbahkoopaa
open Go.ChangeShapes Go.WideShapes Go.ChangeAt Go.RowKit

/-- What the frame hands over of a slice of integers that came in: nil, or a row of 'cap' cells, the numbers 'zs', each of its kind. -/
def IsRow (k : IntKind) (w : World) (a : Option Addr) (len cap : Nat) (zs : List Int) : Prop :=
  (a = none ∧ len = 0 ∧ cap = 0 ∧ zs = []) ∨
  ∃ x, a = some x ∧ len ≤ cap ∧ cap ≤ maxLen ∧ zs.length = cap ∧ (∀ i, i < zs.length → w.cell? (x.add i) = some (.int k (zs.getD i 0))) ∧ ∀ n ∈ zs, (Lit.int k n).wf = true

/-- A slice of bytes that came in. -/
def ArgB (w : World) (A : Option Addr) (n c : Nat) (bs : List Nat) : Prop := bs.length = n ∧ (∀ x ∈ bs, x < 256) ∧ Reads w A (u8s bs) ∧ (∀ a, A = some a → 0 < n → a.block < w.heap.size) ∧ n ≤ c ∧ c ≤ maxLen
/-- A slice of ints that came in: where there is one, its place and its cells. -/
def ArgI (w : World) (A : Option Addr) (n c : Nat) (zs : List Int) : Prop := zs.length = n ∧ (∀ x ∈ zs, -9223372036854775808 ≤ x ∧ x ≤ 9223372036854775807) ∧
  (0 < n → ∃ g off, A = some ⟨g, off, none⟩ ∧ g < w.heap.size ∧ ∀ j (h : j < zs.length), w.cell? ⟨g, off + j, none⟩ = some (.int .i64 zs[j])) ∧ n ≤ c ∧ c ≤ maxLen

theorem row_place {k : IntKind} {w : World} {x : Addr} {zs : List Int} (hc : ∀ i, i < zs.length → w.cell? (x.add i) = some (.int k (zs.getD i 0))) (h0 : 0 < zs.length) :
    ∃ g off, x = ⟨g, off, none⟩ ∧ g < w.heap.size ∧ ∀ j (h : j < zs.length), w.cell? ⟨g, off + j, none⟩ = some (.int k zs[j]) := by
  obtain ⟨b, off, spot⟩ := x
  have h1 := hc 0 h0
  have hspot : spot = none := by simpa [Addr.add] using World.cell?_spot h1
  subst hspot
  have e : ∀ j, ((⟨b, off, none⟩ : Addr).add j) = ⟨b, off + j, none⟩ := fun j => by unfold Addr.add; split <;> simp_all
  refine ⟨b, off, rfl, ?_, fun j hj => ?_⟩
  · rw [e] at h1
    exact World.block_lt_of_cell? w _ h1
  · rw [← e, hc j hj]
    simp [hj]
theorem arg_b {w : World} {a : Option Addr} {n c : Nat} {zs : List Int} (h : IsRow .u8 w a n c zs) : ∃ bs, ArgB w a n c bs := by
  rcases h with ⟨rfl, rfl, rfl, rfl⟩ | ⟨x, rfl, hl, hm, hz, hc, hwf⟩
  · exact ⟨[], rfl, by simp, fun h => absurd rfl h, fun a e => (by cases e), Nat.le_refl _, by unfold maxLen; omega⟩
  · refine ⟨(zs.take n).map Int.toNat, by simp; omega, ?_, ?_, ?_, hl, hm⟩
    · intro b hb
      obtain ⟨z, hz1, rfl⟩ := List.mem_map.1 hb
      have hb := bounds_u8 (hwf z (List.mem_of_mem_take hz1))
      omega
    · intro hne
      have h0 : 0 < zs.length := by
        rcases Nat.eq_zero_or_pos zs.length with h0 | h0
        · rw [List.eq_nil_of_length_eq_zero h0] at hne; simp [u8s] at hne
        · exact h0
      obtain ⟨g, off, rfl, _, hcell⟩ := row_place hc h0
      refine ⟨g, off, rfl, fun j hj => ?_⟩
      have hj' : j < n ∧ j < zs.length := by simp [u8s] at hj; omega
      rw [hcell j hj'.2]
      have hb := bounds_u8 (hwf zs[j] (List.getElem_mem hj'.2))
      simp only [u8s, List.getElem?_map, List.getElem?_take_of_lt hj'.1, List.getElem?_eq_getElem hj'.2, Option.map_some]
      rw [Int.toNat_of_nonneg hb.1]
    · intro a e hn
      injection e with e
      subst e
      obtain ⟨g, off, rfl, hg, _⟩ := row_place hc (by omega)
      exact hg
theorem arg_i {w : World} {a : Option Addr} {n c : Nat} {zs : List Int} (h : IsRow .i64 w a n c zs) : ∃ l, ArgI w a n c l := by
  rcases h with ⟨rfl, rfl, rfl, rfl⟩ | ⟨x, rfl, hl, hm, hz, hc, hwf⟩
  · exact ⟨[], rfl, by simp, fun h => absurd h (by omega), Nat.le_refl _, by unfold maxLen; omega⟩
  · refine ⟨zs.take n, by simp; omega, ?_, ?_, hl, hm⟩
    · intro b hb
      exact bounds_i64 (hwf b (List.mem_of_mem_take hb))
    · intro hn
      obtain ⟨g, off, rfl, hg, hcell⟩ := row_place hc (by omega)
      refine ⟨g, off, rfl, hg, fun j hj => ?_⟩
      have hj' : j < zs.length := by simp at hj; omega
      rw [hcell j hj']
      simp
end Go.Proofs.Ytmcobnbahkoopaa

namespace Go.Proofs.Ytmcobnbahkoopaa
open Go.RowKit

/-- The cells of a list of ints. -/
def i64z (l : List Int) : List Value := l.map fun z => .int .i64 z
theorem i64z_length (l : List Int) : (i64z l).length = l.length := by simp [i64z]
theorem i64z_get? (l : List Int) (i : Nat) (h : i < l.length) : (i64z l)[i]? = some (.int .i64 l[i]) := by simp [i64z, h]
theorem i64z_set (l : List Int) (i : Nat) (z : Int) : (i64z l).set i (.int .i64 z) = i64z (l.set i z) := by simp [i64z, List.map_set]
theorem i64z_nat (l : List Nat) : i64z (l.map fun n : Nat => (n : Int)) = i64s l := by simp [i64z, i64s]
theorem reads_iz {w : World} {A : Option Addr} {l : List Int} (h : Reads w A (i64z l)) (hne : 0 < l.length) : ∃ g off, A = some ⟨g, off, none⟩ ∧ ∀ j (hj : j < l.length), w.cell? ⟨g, off + j, none⟩ = some (.int .i64 l[j]) := by
  have hne' : i64z l ≠ [] := fun e => by
    have h1 := congrArg List.length e
    rw [i64z_length, List.length_nil] at h1
    omega
  obtain ⟨g, off, e, hc⟩ := h hne'
  exact ⟨g, off, e, fun j hj => by rw [hc j (by rw [i64z_length]; exact hj), i64z_get? l j hj]⟩
theorem argi_reads {w : World} {A : Option Addr} {n c : Nat} {l : List Int} (h : ArgI w A n c l) : Reads w A (i64z l) := fun hne => by
  obtain ⟨hl, _, h1, _⟩ := h
  have h0 : 0 < n := by
    rcases Nat.eq_zero_or_pos n with e | e
    · rw [e] at hl; rw [List.eq_nil_of_length_eq_zero hl] at hne; simp [i64z] at hne
    · exact e
  obtain ⟨g, off, e, _, hc⟩ := h1 h0
  exact ⟨g, off, e, fun j hj => by rw [i64z_length] at hj; rw [hc j hj, i64z_get? l j hj]⟩
/-- What reads goes on reading where the old blocks are as they were. -/
theorem reads_on {w W : World} {A : Option Addr} {xs : List Value} (h : Reads w A xs) (hb : Below w.heap.size w W) : Reads W A xs := fun hne => by
  obtain ⟨g, off, e, hc⟩ := h hne
  refine ⟨g, off, e, fun j hj => ?_⟩
  have h1 := hc j hj
  rw [List.getElem?_eq_getElem hj] at h1 ⊢
  rw [← h1]
  exact hb.cell (p := ⟨g, off + j, none⟩) (World.block_lt_of_cell? w _ h1)
theorem row_below {w W : World} {b : Nat} {t : TypeId} {cs : List Value} (hr : Row w b t cs) (hb : Below w.heap.size w W) : Row W b t cs := hr.keep (hb.block b hr.lt)
theorem reads_new (w : World) (l : List Int) : Reads (w.alloc (.cells (i64z l).toArray 3)) (some ⟨w.heap.size, 0, none⟩) (i64z l) := row_reads (Row.new w 3 (i64z l))
theorem info_in : (Try.prog.info? 3).map (fun i => (i.zero, i.size, i.bytes)) = some (some (.int .i64 0), 1, 8) := by kernel_rfl
theorem row_of_ownI {w : World} {base g n : Nat} (h : w.ownsRow base 3 1 (.slice (some ⟨g, 0, none⟩) n n) n (madeCells #[Value.int .i64 0] n).toList) : Row w g 3 (i64s (List.replicate n 0)) := by
  rcases h.2 with ⟨hv, _⟩ | ⟨g', cap, cur, hv, hb, hh, h1, h2, h3, h4⟩
  · cases hv
  · injection hv with e1 e2 e3
    injection e1 with e1
    injection e1 with e1
    subst e1 e3
    have e : cur.toList = i64s (List.replicate n 0) := by
      rw [List.take_of_length_le (by rw [Array.length_toList]; omega)] at h4
      rw [h4, toList_madeCells_one]
      simp only [i64s, List.map_replicate]
      rfl
    unfold Row
    rw [← e, Array.toArray_toList]
    exact hh
namespace Bm
/-- Numbers as an integer's bounds. -/
def IntOk (z : Int) : Prop := -9223372036854775808 ≤ z ∧ z ≤ 9223372036854775807
end Bm
end Go.Proofs.Ytmcobnbahkoopaa

namespace Go.Proofs.Ytmcobnbahkoopaa.Bm

/-- Lengths that may be. -/
def LenR (l : List Int) : Prop := l.length ≤ 256 ∧ ∀ x ∈ l, 0 ≤ x ∧ x ≤ 11
instance (l : List Int) : Decidable (LenR l) := by unfold LenR; exact inferInstance
/-- A length's part of 2048. -/
def partL (n : Nat) : Nat := if n = 0 then 0 else 2 ^ (11 - n)
def krN (l : List Nat) : Nat := (l.map partL).sum
def someN (l : List Nat) : Nat := l.countP fun n => decide (0 < n)
/-- Are they whole? -/
def WholeN (l : List Nat) : Prop := l.length ≤ 256 ∧ (∀ x ∈ l, x ≤ 11) ∧ (krN l = 2048 ∨ (someN l = 1 ∧ krN l = 1024))
instance (l : List Nat) : Decidable (WholeN l) := by unfold WholeN; exact inferInstance
def WholeI (l : List Int) : Prop := LenR l ∧ WholeN (l.map Int.toNat)
instance (l : List Int) : Decidable (WholeI l) := by unfold WholeI; exact inferInstance
theorem lenR_nat (l : List Int) (h : LenR l) : l = (l.map Int.toNat).map (fun n : Nat => (n : Int)) ∧ (∀ x ∈ l.map Int.toNat, x ≤ 11) ∧ (l.map Int.toNat).length = l.length := by
  refine ⟨?_, ?_, by simp⟩
  · rw [List.map_map]
    conv => lhs; rw [← List.map_id l]
    apply List.map_congr_left
    intro x hx
    have := h.2 x hx
    simp only [Function.comp_apply, id]
    omega
  · intro x hx
    obtain ⟨y, hy, rfl⟩ := List.mem_map.1 hx
    have := h.2 y hy
    omega
/-- Does k's code come ahead of i's? -/
def beforeB (l : List Nat) (k i : Nat) : Bool := decide (0 < l[k]?.getD 0) && (decide (l[k]?.getD 0 < l[i]?.getD 0) || (decide (l[k]?.getD 0 = l[i]?.getD 0) && decide (k < i)))
/-- What comes ahead of i, of the first q. -/
def aheadQ (l : List Nat) (i q : Nat) : Nat := ((List.range q).map fun k => if beforeB l k i then partL (l[k]?.getD 0) else 0).sum
def aheadN (l : List Nat) (i : Nat) : Nat := aheadQ l i l.length
/-- A symbol's code. -/
def codeN9 (l : List Nat) (i : Nat) : Nat := if l[i]?.getD 0 = 0 then 0 else aheadN l i / 2 ^ (11 - l[i]?.getD 0)
def codesN (l : List Nat) : List Nat := (List.range l.length).map (codeN9 l)
theorem aheadQ_succ (l : List Nat) (i q : Nat) : aheadQ l i (q + 1) = aheadQ l i q + if beforeB l q i then partL (l[q]?.getD 0) else 0 := by
  unfold aheadQ
  rw [List.range_succ, List.map_append, List.sum_append_nat]
  simp
theorem sum_map_le {α : Type} (f g : α → Nat) : ∀ (L : List α), (∀ x ∈ L, f x ≤ g x) → (L.map f).sum ≤ (L.map g).sum
  | [], _ => by simp
  | a :: L, h => by
    have h1 := h a List.mem_cons_self
    have h2 := sum_map_le f g L (fun x hx => h x (List.mem_cons_of_mem _ hx))
    rw [List.map_cons, List.map_cons, List.sum_cons, List.sum_cons]
    omega
theorem sum_map_add {α : Type} (f g : α → Nat) : ∀ (L : List α), (L.map fun x => f x + g x).sum = (L.map f).sum + (L.map g).sum
  | [] => by simp
  | a :: L => by
    have h2 := sum_map_add f g L
    simp only [List.map_cons, List.sum_cons]
    omega
theorem krN_range (l : List Nat) : krN l = ((List.range l.length).map fun k => partL (l[k]?.getD 0)).sum := by
  unfold krN
  congr 1
  apply List.ext_getElem
  · simp
  · intro i h1 h2
    simp only [List.length_map] at h1
    simp [h1]
/-- One place's share of a sum. -/
theorem sum_single (i v : Nat) : ∀ q, ((List.range q).map fun k => if k = i then v else 0).sum = if i < q then v else 0
  | 0 => by simp
  | q + 1 => by
    rw [List.range_succ, List.map_append, List.sum_append_nat, sum_single i v q]
    simp only [List.map_cons, List.map_nil, List.sum_cons, List.sum_nil]
    by_cases h1 : i < q
    · have h2 : ¬ q = i := by omega
      have h3 : i < q + 1 := by omega
      simp [h1, h2, h3]
    · by_cases h2 : q = i
      · subst h2
        simp
      · have h3 : ¬ i < q + 1 := by omega
        simp [h1, h2, h3]
/-- What comes ahead of i, and i's own part, come ahead of what i comes ahead of. -/
theorem ahead_before (l : List Nat) (i k : Nat) (hi : i < l.length) (h : beforeB l i k = true) : aheadN l i + partL (l[i]?.getD 0) ≤ aheadN l k := by
  have e : partL (l[i]?.getD 0) = ((List.range l.length).map fun q => if q = i then partL (l[i]?.getD 0) else 0).sum := by
    rw [sum_single, if_pos hi]
  unfold aheadN aheadQ
  rw [e, ← sum_map_add]
  apply sum_map_le
  intro q _
  by_cases hq : q = i
  · subst hq
    have h0 : beforeB l q q = false := by simp [beforeB]
    rw [h0, h]
    simp
  · rw [if_neg hq, Nat.add_zero]
    by_cases hb : beforeB l q i = true
    · have hk : beforeB l q k = true := by
        unfold beforeB at h hb ⊢
        simp only [Bool.and_eq_true, Bool.or_eq_true, decide_eq_true_eq] at h hb ⊢
        omega
      rw [hb, hk]
      exact Nat.le_refl _
    · rw [if_neg hb]; exact Nat.zero_le _
theorem ahead_all (l : List Nat) (i : Nat) (hi : i < l.length) : aheadN l i + partL (l[i]?.getD 0) ≤ krN l := by
  have e : partL (l[i]?.getD 0) = ((List.range l.length).map fun q => if q = i then partL (l[i]?.getD 0) else 0).sum := by
    rw [sum_single, if_pos hi]
  rw [krN_range]
  unfold aheadN aheadQ
  rw [e, ← sum_map_add]
  apply sum_map_le
  intro q _
  by_cases hq : q = i
  · subst hq
    have h0 : beforeB l q q = false := by simp [beforeB]
    rw [h0]
    simp
  · rw [if_neg hq, Nat.add_zero]
    split <;> omega
theorem ahead_dvd (l : List Nat) (i : Nat) : 2 ^ (11 - l[i]?.getD 0) ∣ aheadN l i := by
  unfold aheadN aheadQ
  have : ∀ L : List Nat, 2 ^ (11 - l[i]?.getD 0) ∣ (L.map fun k => if beforeB l k i then partL (l[k]?.getD 0) else 0).sum := fun L => by
    induction L with
    | nil => simp
    | cons k L ih =>
      rw [List.map_cons, List.sum_cons]
      refine Nat.dvd_add ?_ ih
      split
      · next hb =>
        unfold beforeB at hb
        simp only [Bool.and_eq_true, Bool.or_eq_true, decide_eq_true_eq] at hb
        unfold partL
        rw [if_neg (by omega)]
        exact Nat.pow_dvd_pow 2 (by omega)
      · exact Nat.dvd_zero _
  exact this _
/-- A code has no more bits than its length. -/
theorem code_lt9 (l : List Nat) (i : Nat) (hi : i < l.length) (h : WholeN l) (h0 : 0 < l[i]?.getD 0) : codeN9 l i < 2 ^ (l[i]?.getD 0) := by
  have h11 : l[i]?.getD 0 ≤ 11 := by rw [List.getElem?_eq_getElem hi, Option.getD_some]; exact h.2.1 _ (List.getElem_mem hi)
  have ha := ahead_all l i hi
  have hk : krN l ≤ 2048 := by have := h.2.2; omega
  unfold codeN9
  rw [if_neg (by omega)]
  unfold partL at ha
  rw [if_neg (by omega)] at ha
  have hp : 0 < 2 ^ (11 - l[i]?.getD 0) := Nat.two_pow_pos _
  rw [Nat.div_lt_iff_lt_mul hp, ← Nat.pow_add, show l[i]?.getD 0 + (11 - l[i]?.getD 0) = 11 by omega]
  have : (2 : Nat) ^ 11 = 2048 := by decide
  omega
/-- No code begins another one. -/
theorem code_prefix (l : List Nat) (i k : Nat) (hi : i < l.length) (hk : k < l.length) (h : WholeN l) (hik : i ≠ k) (h0 : 0 < l[i]?.getD 0) (h1 : l[i]?.getD 0 ≤ l[k]?.getD 0) : codeN9 l k / 2 ^ (l[k]?.getD 0 - l[i]?.getD 0) ≠ codeN9 l i := by
  have h11 : l[k]?.getD 0 ≤ 11 := by rw [List.getElem?_eq_getElem hk, Option.getD_some]; exact h.2.1 _ (List.getElem_mem hk)
  have hp : 0 < 2 ^ (11 - l[i]?.getD 0) := Nat.two_pow_pos _
  obtain ⟨q, hq⟩ := ahead_dvd l i
  have ei : codeN9 l i = q := by
    unfold codeN9
    rw [if_neg (by omega), hq, Nat.mul_div_cancel_left _ hp]
  have ek : codeN9 l k / 2 ^ (l[k]?.getD 0 - l[i]?.getD 0) = aheadN l k / 2 ^ (11 - l[i]?.getD 0) := by
    unfold codeN9
    rw [if_neg (by omega), Nat.div_div_eq_div_mul, ← Nat.pow_add, show 11 - l[k]?.getD 0 + (l[k]?.getD 0 - l[i]?.getD 0) = 11 - l[i]?.getD 0 by omega]
  rw [ei, ek]
  by_cases hb : beforeB l i k = true
  · have h2 := ahead_before l i k hi hb
    unfold partL at h2
    rw [if_neg (by omega), hq] at h2
    have h3 : q + 1 ≤ aheadN l k / 2 ^ (11 - l[i]?.getD 0) := by
      rw [Nat.le_div_iff_mul_le hp, Nat.add_mul, Nat.one_mul, Nat.mul_comm]
      exact h2
    omega
  · have hb2 : beforeB l k i = true := by
      unfold beforeB at hb ⊢
      simp only [Bool.and_eq_true, Bool.or_eq_true, decide_eq_true_eq] at hb ⊢
      omega
    have he : l[k]?.getD 0 = l[i]?.getD 0 := by
      unfold beforeB at hb2
      simp only [Bool.and_eq_true, Bool.or_eq_true, decide_eq_true_eq] at hb2
      omega
    have h2 := ahead_before l k i hk hb2
    unfold partL at h2
    rw [if_neg (by omega), hq, he] at h2
    have h3 : aheadN l k / 2 ^ (11 - l[i]?.getD 0) < q := by
      rw [Nat.div_lt_iff_lt_mul hp, Nat.mul_comm q]
      omega
    omega
/-- The cost of lengths for counts; none: they don't fit. -/
def costN (cs ls : List Nat) : Nat := ((List.range cs.length).map fun i => cs[i]?.getD 0 * ls[i]?.getD 0).sum
def FitN (cs ls : List Nat) : Prop := ∀ i, i < cs.length → 0 < cs[i]?.getD 0 → 0 < ls[i]?.getD 0
end Go.Proofs.Ytmcobnbahkoopaa.Bm

namespace Go.Proofs.Ytmcobnbahkoopaa.Bm

/-- Into a sorted list; sorted. -/
def ins (x : Nat) : List Nat → List Nat
  | [] => [x]
  | y :: l => if x ≤ y then x :: y :: l else y :: ins x l
def isort : List Nat → List Nat
  | [] => []
  | x :: l => ins x (isort l)
theorem ins_le {x y : Nat} {l : List Nat} (h : x ≤ y) : ins x (y :: l) = x :: y :: l := by rw [ins, if_pos h]
theorem ins_gt {x y : Nat} {l : List Nat} (h : ¬ x ≤ y) : ins x (y :: l) = y :: ins x l := by rw [ins, if_neg h]
theorem ins_comm (x y : Nat) : ∀ l, ins x (ins y l) = ins y (ins x l)
  | [] => by
    show ins x [y] = ins y [x]
    by_cases h1 : x ≤ y
    · by_cases h2 : y ≤ x
      · obtain rfl : x = y := by omega
        rfl
      · rw [ins_le h1, ins_gt h2]; rfl
    · rw [ins_gt h1, ins_le (by omega)]; rfl
  | z :: l => by
    by_cases h1 : x ≤ z <;> by_cases h2 : y ≤ z
    · rw [ins_le h1, ins_le h2]
      by_cases h3 : x ≤ y
      · by_cases h4 : y ≤ x
        · obtain rfl : x = y := by omega
          rfl
        · rw [ins_le h3, ins_gt h4, ins_le h2]
      · rw [ins_gt h3, ins_le (show y ≤ x by omega), ins_le h1]
    · rw [ins_gt h2, ins_le h1, ins_le h1, ins_gt (show ¬ y ≤ x by omega), ins_gt h2]
    · rw [ins_gt h1, ins_le h2, ins_le h2, ins_gt (show ¬ x ≤ y by omega), ins_gt h1]
    · rw [ins_gt h1, ins_gt h2, ins_gt h1, ins_gt h2, ins_comm x y l]
theorem isort_perm_eq {a b : List Nat} (h : a.Perm b) : isort a = isort b := by
  induction h with
  | nil => rfl
  | cons x _ ih => simp only [isort, ih]
  | swap x y l => simp only [isort]; exact ins_comm y x (isort l)
  | trans _ _ ih1 ih2 => exact ih1.trans ih2
theorem ins_perm (x : Nat) : ∀ l, (ins x l).Perm (x :: l)
  | [] => List.Perm.refl _
  | y :: l => by
    unfold ins
    split
    · exact List.Perm.refl _
    · exact ((ins_perm x l).cons y).trans (List.Perm.swap x y l)
theorem isort_perm : ∀ l, (isort l).Perm l
  | [] => List.Perm.refl _
  | x :: l => (ins_perm x (isort l)).trans ((isort_perm l).cons x)
theorem isort_length (l : List Nat) : (isort l).length = l.length := (isort_perm l).length_eq
theorem ins_sorted (x : Nat) : ∀ l : List Nat, l.Pairwise (· ≤ ·) → (ins x l).Pairwise (· ≤ ·)
  | [], _ => by simp [ins]
  | y :: l, h => by
    unfold ins
    rw [List.pairwise_cons] at h
    split
    · next hxy =>
      rw [List.pairwise_cons]
      refine ⟨fun z hz => ?_, List.pairwise_cons.2 h⟩
      rcases List.mem_cons.1 hz with rfl | hz
      · exact hxy
      · exact Nat.le_trans hxy (h.1 z hz)
    · next hxy =>
      rw [List.pairwise_cons]
      refine ⟨fun z hz => ?_, ins_sorted x l h.2⟩
      rcases List.mem_cons.1 ((ins_perm x l).mem_iff.1 hz) with rfl | hz
      · omega
      · exact h.1 z hz
theorem isort_sorted : ∀ l, (isort l).Pairwise (· ≤ ·)
  | [] => by simp [isort]
  | x :: l => ins_sorted x _ (isort_sorted l)
theorem ins_least (x : Nat) (l : List Nat) (h : ∀ y ∈ l, x ≤ y) : ins x l = x :: l := by
  cases l with
  | nil => rfl
  | cons y l => unfold ins; rw [if_pos (h y List.mem_cons_self)]
/-- Two lightest at a time, of a sorted list. -/
def hcost : Nat → List Nat → Nat
  | 0, _ => 0
  | f + 1, a :: b :: l => (a + b) + hcost f (ins (a + b) l)
  | _ + 1, _ => 0
/-- Of any list: the least cost. -/
def hbest (l : List Nat) : Nat := hcost l.length (isort l)
theorem hbest_perm {a b : List Nat} (h : a.Perm b) : hbest a = hbest b := by
  unfold hbest
  rw [isort_perm_eq h, h.length_eq]
/-- A step: the two lightest, wherever the rest stands. -/
theorem hbest_step (a b : Nat) (l : List Nat) (ha : a ≤ b) (hb : ∀ x ∈ l, b ≤ x) : hbest (a :: b :: l) = (a + b) + hbest (l ++ [a + b]) := by
  have hs : isort (a :: b :: l) = a :: b :: isort l := by
    simp only [isort]
    rw [ins_least b (isort l) (fun y hy => hb y ((isort_perm l).mem_iff.1 hy))]
    exact ins_least a _ (fun y hy => by
      rcases List.mem_cons.1 hy with rfl | hy
      · exact ha
      · have := hb y ((isort_perm l).mem_iff.1 hy); omega)
  have h2 : hbest (l ++ [a + b]) = hcost (l.length + 1) (ins (a + b) (isort l)) := by
    rw [hbest_perm (List.perm_append_comm (l₁ := l) (l₂ := [a + b]))]
    rfl
  rw [h2]
  unfold hbest
  rw [hs]
  rfl
theorem hbest_few (l : List Nat) (h : l.length ≤ 1) : hbest l = 0 := by
  rcases l with _ | ⟨a, _ | ⟨b, l⟩⟩
  · rfl
  · rfl
  · simp at h
/-- Weights and lengths: the cost, the parts of 2 to the power M. -/
def wcost (ps : List (Nat × Nat)) : Nat := (ps.map fun p => p.1 * p.2).sum
def kraft (M : Nat) (ps : List (Nat × Nat)) : Nat := (ps.map fun p => 2 ^ (M - p.2)).sum
theorem wcost_perm {a b : List (Nat × Nat)} (h : a.Perm b) : wcost a = wcost b := (h.map _).sum_nat
theorem kraft_perm (M : Nat) {a b : List (Nat × Nat)} (h : a.Perm b) : kraft M a = kraft M b := (h.map _).sum_nat
theorem wcost_cons (p : Nat × Nat) (l : List (Nat × Nat)) : wcost (p :: l) = p.1 * p.2 + wcost l := by simp [wcost]
theorem kraft_cons (M : Nat) (p : Nat × Nat) (l : List (Nat × Nat)) : kraft M (p :: l) = 2 ^ (M - p.2) + kraft M l := by simp [kraft]
/-- One level deeper: twice the parts. -/
theorem kraft_up (M : Nat) : ∀ (l : List (Nat × Nat)), (∀ p ∈ l, p.2 ≤ M) → kraft (M + 1) l = 2 * kraft M l
  | [], _ => rfl
  | p :: l, h => by
    have h1 := h p List.mem_cons_self
    rw [kraft_cons, kraft_cons, kraft_up M l (fun q hq => h q (List.mem_cons_of_mem _ hq)), show M + 1 - p.2 = (M - p.2) + 1 by omega, Nat.pow_succ]
    omega
/-- How many are of the greatest length: as many as the parts, up to twice something. -/
theorem kraft_odd (M : Nat) : ∀ (l : List (Nat × Nat)), (∀ p ∈ l, p.2 ≤ M) → kraft M l % 2 = (l.countP fun p => decide (p.2 = M)) % 2
  | [], _ => rfl
  | p :: l, h => by
    have h1 := h p List.mem_cons_self
    have ih := kraft_odd M l (fun q hq => h q (List.mem_cons_of_mem _ hq))
    rw [kraft_cons, List.countP_cons]
    by_cases he : p.2 = M
    · simp only [he, Nat.sub_self, Nat.pow_zero, decide_true, if_true]
      omega
    · simp only [he, decide_false, Bool.false_eq_true, if_false]
      obtain ⟨q, hq⟩ : ∃ q, M - p.2 = q + 1 := ⟨M - p.2 - 1, by omega⟩
      rw [hq, Nat.pow_succ]
      omega
/-- Where lengths are too great by one level for all, they are whole one level above. -/
theorem kraft_down (M : Nat) (l : List (Nat × Nat)) (h : ∀ p ∈ l, p.2 ≤ M) (hk : kraft (M + 1) l = 2 ^ (M + 1)) : kraft M l = 2 ^ M := by
  have h1 := kraft_up M l h
  rw [hk, Nat.pow_succ] at h1
  omega
/-- Of any list that has an element with this, and another list of weights with the least one: the pair put in front, at no more cost. -/
theorem front (M a : Nat) (ps : List (Nat × Nat)) (ha : a ∈ ps.map (·.1)) (hmin : ∀ p ∈ ps, a ≤ p.1) (hM : ∀ p ∈ ps, p.2 ≤ M) (hex : ∃ p ∈ ps, p.2 = M) :
    ∃ R, (ps.map (·.1)).Perm (a :: R.map (·.1)) ∧ kraft M ps = 1 + kraft M R ∧ a * M + wcost R ≤ wcost ps ∧ (∀ p ∈ R, p.2 ≤ M) ∧ R.length + 1 = ps.length := by
  obtain ⟨p, hp, rfl⟩ := List.mem_map.1 ha
  obtain ⟨s, t, rfl⟩ := List.append_of_mem hp
  have hperm : (s ++ p :: t).Perm (p :: (s ++ t)) := List.perm_middle
  by_cases hpM : p.2 = M
  · refine ⟨s ++ t, hperm.map _, ?_, ?_, fun q hq => hM q (hperm.mem_iff.2 (List.mem_cons_of_mem _ hq)), by simp; omega⟩
    · rw [kraft_perm M hperm, kraft_cons, hpM, Nat.sub_self, Nat.pow_zero]
    · rw [wcost_perm hperm, wcost_cons, hpM]; exact Nat.le_refl _
  · obtain ⟨q, hq, hqM⟩ := hex
    have hq2 : q ∈ s ++ t := by
      rcases List.mem_cons.1 (hperm.mem_iff.1 hq) with rfl | h
      · exact absurd hqM hpM
      · exact h
    obtain ⟨u, v, e⟩ := List.append_of_mem hq2
    have hperm2 : (s ++ p :: t).Perm (p :: q :: (u ++ v)) := hperm.trans (((e ▸ List.Perm.refl (s ++ t) : (s ++ t).Perm (u ++ q :: v)).trans List.perm_middle).cons p)
    have hpl := hM p hp
    have hpq := hmin q hq
    refine ⟨(q.1, p.2) :: (u ++ v), ?_, ?_, ?_, ?_, ?_⟩
    · exact hperm2.map _
    · rw [kraft_perm M hperm2, kraft_cons, kraft_cons, kraft_cons, hqM, Nat.sub_self, Nat.pow_zero]
      dsimp only
      omega
    · rw [wcost_perm hperm2, wcost_cons, wcost_cons, wcost_cons, hqM]
      dsimp only
      obtain ⟨d, hd⟩ : ∃ d, q.1 = p.1 + d := ⟨q.1 - p.1, by omega⟩
      obtain ⟨g, hg⟩ : ∃ g, M = p.2 + g := ⟨M - p.2, by omega⟩
      have h1 : p.1 * M + q.1 * p.2 ≤ p.1 * p.2 + q.1 * M := by
        rw [hd, hg, Nat.add_mul, Nat.add_mul, Nat.mul_add, Nat.mul_add]
        omega
      omega
    · intro r hr
      rcases List.mem_cons.1 hr with rfl | hr
      · exact hpl
      · exact hM r (hperm2.mem_iff.2 (List.mem_cons_of_mem _ (List.mem_cons_of_mem _ hr)))
    · have := hperm2.length_eq
      simp at this ⊢
      omega
/-- No whole lengths cost less. -/
theorem opt : ∀ (n M : Nat) (ps : List (Nat × Nat)), ps.length + M ≤ n → (∀ p ∈ ps, p.2 ≤ M) → kraft M ps = 2 ^ M → hbest (ps.map (·.1)) ≤ wcost ps
  | 0, M, ps, hn, _, _ => by
    have : ps.length = 0 := by omega
    rw [List.eq_nil_of_length_eq_zero this]
    exact Nat.zero_le _
  | n + 1, M, ps, hn, hM, hk => by
    by_cases hlen : ps.length ≤ 1
    · rw [hbest_few _ (by simpa using hlen)]; exact Nat.zero_le _
    · rcases M with _ | M
      · have : ∀ l : List (Nat × Nat), kraft 0 l = l.length := fun l => by
          induction l with
          | nil => rfl
          | cons p l ih => rw [kraft_cons, ih, Nat.zero_sub, List.length_cons]; omega
        rw [this] at hk
        omega
      · by_cases hex : ∃ p ∈ ps, p.2 = M + 1
        · -- two of the greatest length
          have hs : ∃ a b l, isort (ps.map (·.1)) = a :: b :: l := by
            have h1 := isort_length (ps.map (·.1))
            rw [List.length_map] at h1
            rcases hsx : isort (ps.map (·.1)) with _ | ⟨a, _ | ⟨b, l⟩⟩
            · rw [hsx, List.length_nil] at h1; omega
            · rw [hsx, List.length_singleton] at h1; omega
            · exact ⟨a, b, l, hsx⟩
          obtain ⟨a, b, l, hs⟩ := hs
          have hperm := (isort_perm (ps.map (·.1)))
          have hsort := isort_sorted (ps.map (·.1))
          rw [hs] at hperm hsort
          rw [List.pairwise_cons, List.pairwise_cons] at hsort
          obtain ⟨ha, hb, _⟩ := hsort
          have hmina : ∀ p ∈ ps, a ≤ p.1 := fun p hp => by
            have h1 := hperm.mem_iff.2 (List.mem_map_of_mem (f := (·.1)) hp)
            rcases List.mem_cons.1 h1 with h1 | h1
            · omega
            · exact ha _ h1
          obtain ⟨R, hR1, hR2, hR3, hR4, hR5⟩ := front (M + 1) a ps (hperm.mem_iff.1 List.mem_cons_self) hmina hM hex
          have hRp : (b :: l).Perm (R.map (·.1)) := (List.perm_cons a).1 (hperm.trans hR1)
          have hex2 : ∃ p ∈ R, p.2 = M + 1 := by
            have h1 := kraft_odd (M + 1) R hR4
            have h2 : 0 < R.countP fun p => decide (p.2 = M + 1) := by
              rw [hk] at hR2
              have h3 : 2 ^ (M + 1) % 2 = 0 := by rw [Nat.pow_succ]; omega
              omega
            obtain ⟨p, hp, he⟩ := List.countP_pos_iff.1 h2
            exact ⟨p, hp, by simpa using he⟩
          obtain ⟨R2, k1, k2, k3, k4, k5⟩ := front (M + 1) b R (hRp.mem_iff.1 List.mem_cons_self) (fun p hp => by
            have h1 := hRp.mem_iff.2 (List.mem_map_of_mem (f := (·.1)) hp)
            rcases List.mem_cons.1 h1 with h1 | h1
            · omega
            · exact hb _ h1) hR4 hex2
          have hR2p : l.Perm (R2.map (·.1)) := (List.perm_cons b).1 (hRp.trans k1)
          have ih := opt n (M + 1) ((a + b, M) :: R2) (by rw [List.length_cons]; omega) (by
            intro p hp
            rcases List.mem_cons.1 hp with rfl | hp
            · exact Nat.le_succ M
            · exact k4 p hp) (by
            rw [kraft_cons, show M + 1 - M = 1 by omega]
            omega)
          rw [wcost_cons, List.map_cons] at ih
          dsimp only at ih
          have hstep := hbest_step a b l (ha b List.mem_cons_self) hb
          have e1 : hbest (ps.map (·.1)) = hbest (a :: b :: l) := (hbest_perm hperm).symm
          have e2 : hbest (l ++ [a + b]) = hbest ((a + b) :: R2.map (·.1)) := hbest_perm ((List.perm_append_comm (l₁ := l) (l₂ := [a + b])).trans (hR2p.cons (a + b)))
          rw [e1, hstep, e2]
          have h6 : a * (M + 1) + b * (M + 1) = (a + b) * M + (a + b) := by
            rw [← Nat.add_mul, Nat.mul_succ]
          omega
        · have hM2 : ∀ p ∈ ps, p.2 ≤ M := fun p hp => by
            have h1 := hM p hp
            have h2 : p.2 ≠ M + 1 := fun e => hex ⟨p, hp, e⟩
            omega
          exact opt n M ps (by omega) hM2 (kraft_down M ps hM2 hk)
end Go.Proofs.Ytmcobnbahkoopaa.Bm

namespace Go.Proofs.Ytmcobnbahkoopaa
open Go.RowKit
namespace Bm
/-- The counts above 0. -/
def posC : List Nat → List Nat
  | [] => []
  | c :: cs => if 0 < c then c :: posC cs else posC cs
/-- Huffman's cost; of one symbol its count. -/
def bestN (cs : List Nat) : Nat := if (posC cs).length = 1 then (posC cs).sum else hbest (posC cs)
/-- The flattest codes' cost. -/
def flatN (cs : List Nat) : Nat := if (posC cs).length = 1 then (posC cs).sum else
  (posC cs).sum * wid ((posC cs).length - 1) - ((isort (posC cs)).reverse.take (2 ^ wid ((posC cs).length - 1) - (posC cs).length)).sum
/-- Lengths that may be answered for counts. -/
structure GoodN (cs ls : List Nat) : Prop where
  len : ls.length = cs.length
  whole : WholeN ls
  just : ∀ i, i < cs.length → (0 < ls[i]?.getD 0 ↔ 0 < cs[i]?.getD 0)
  cost : costN cs ls ≤ max (flatN cs) (bestN cs)
theorem GoodN.fit {cs ls : List Nat} (h : GoodN cs ls) : FitN cs ls := fun i hi h0 => (h.just i hi).2 h0
/-- Counts with their lengths, where there are any. -/
def prs : List Nat → List Nat → List (Nat × Nat)
  | c :: cs, l :: ls => if 0 < l then (c, l) :: prs cs ls else prs cs ls
  | _, _ => []
theorem costN_cons (c l : Nat) (cs ls : List Nat) : costN (c :: cs) (l :: ls) = c * l + costN cs ls := by
  unfold costN
  rw [List.length_cons, List.range_succ_eq_map, List.map_cons, List.sum_cons, List.map_map]
  simp only [List.getElem?_cons_zero, Option.getD_some]
  congr 2
theorem prs_all : ∀ (cs ls : List Nat), ls.length = cs.length → (∀ i, i < cs.length → (0 < ls[i]?.getD 0 ↔ 0 < cs[i]?.getD 0)) → (∀ x ∈ ls, x ≤ 11) →
    (prs cs ls).map (·.1) = posC cs ∧ wcost (prs cs ls) = costN cs ls ∧ kraft 11 (prs cs ls) = krN ls ∧ (∀ p ∈ prs cs ls, 0 < p.2 ∧ p.2 ≤ 11) ∧ (prs cs ls).length = someN ls
  | [], [], _, _, _ => by simp [prs, posC, wcost, kraft, krN, someN, costN]
  | [], _ :: _, h, _, _ => by simp at h
  | _ :: _, [], h, _, _ => by simp at h
  | c :: cs, l :: ls, h, hj, h11 => by
    obtain ⟨i1, i2, i3, i4, i5⟩ := prs_all cs ls (by simpa using h) (fun i hi => by
      have := hj (i + 1) (by simpa using hi)
      simpa using this) (fun x hx => h11 x (List.mem_cons_of_mem _ hx))
    have h0 := hj 0 (by simp)
    simp only [List.getElem?_cons_zero, Option.getD_some] at h0
    have hl := h11 l List.mem_cons_self
    rw [costN_cons]
    unfold prs posC krN someN
    rw [List.map_cons, List.sum_cons, List.countP_cons]
    by_cases hp : 0 < l
    · rw [if_pos hp, if_pos (h0.1 hp), List.map_cons, i1, wcost_cons, kraft_cons, i2, i3]
      refine ⟨rfl, rfl, ?_, ?_, ?_⟩
      · unfold krN partL
        rw [if_neg (by omega)]
      · intro p hm
        rcases List.mem_cons.1 hm with rfl | hm
        · exact ⟨hp, hl⟩
        · exact i4 p hm
      · rw [List.length_cons, i5, if_pos (decide_eq_true hp)]
        rfl
    · have hl0 : l = 0 := by omega
      subst hl0
      rw [if_neg hp, if_neg (fun h => hp (h0.2 h)), i2, i3, i5]
      refine ⟨i1, by omega, ?_, i4, ?_⟩
      · unfold krN partL
        simp
      · unfold someN
        simp
/-- No whole lengths cost less than Huffman's. -/
theorem best_le (cs ls : List Nat) (h : GoodN cs ls) : bestN cs ≤ costN cs ls := by
  obtain ⟨i1, i2, i3, i4, i5⟩ := prs_all cs ls h.len h.just h.whole.2.1
  have hw := h.whole.2.2
  unfold bestN
  rw [← i1, ← i2, List.length_map]
  generalize prs cs ls = ps at *
  split
  · next h1 =>
    obtain ⟨p, rfl⟩ := List.length_eq_one_iff.1 h1
    have h2 := (i4 p (by simp)).1
    have := Nat.mul_le_mul_left p.1 h2
    simp [wcost]
    omega
  · next h1 => exact opt _ 11 ps (Nat.le_refl _) (fun p hp => (i4 p hp).2) (by rw [i3]; omega)
/-- Three counts' lengths. -/
theorem three_fin : ∀ a b c : Fin 12, (decide (krN [a.1, b.1, c.1] = 2048) && decide (costN [5, 2, 1] [a.1, b.1, c.1] ≤ 11) && decide (0 < a.1) && decide (0 < b.1) && decide (0 < c.1)) = true → (a.1 == 1 && b.1 == 2 && c.1 == 2) = true := by decide +kernel
theorem three_lens (a : Nat) (ha : a < 12) (b : Nat) (hb : b < 12) (c : Nat) (hc : c < 12) (h1 : krN [a, b, c] = 2048) (h2 : costN [5, 2, 1] [a, b, c] ≤ 11) (h3 : 0 < a) (h4 : 0 < b) (h5 : 0 < c) : a = 1 ∧ b = 2 ∧ c = 2 := by
  have h := three_fin ⟨a, ha⟩ ⟨b, hb⟩ ⟨c, hc⟩ (by simp only [h1, h2, h3, h4, h5, decide_true, Bool.and_self])
  simpa [and_assoc] using h
theorem good_521 (ls : List Nat) (h : GoodN [5, 2, 1] ls) : ls = [1, 2, 2] := by
  have hl := h.len
  match ls, hl with
  | [a, b, c], _ =>
    have h11 := h.whole.2.1
    have hc := h.cost
    have h0 := h.just 0 (by simp)
    have h1 := h.just 1 (by simp)
    have h2 := h.just 2 (by simp)
    simp at h0 h1 h2
    have hm : max (flatN [5, 2, 1]) (bestN [5, 2, 1]) = 11 := by decide +kernel
    rw [hm] at hc
    have hs : someN [a, b, c] = 3 := by simp [someN, h0, h1, h2]
    have hk : krN [a, b, c] = 2048 := by have := h.whole.2.2; omega
    have ha := h11 a (by simp)
    have hb := h11 b (by simp)
    have hcc := h11 c (by simp)
    obtain ⟨rfl, rfl, rfl⟩ := three_lens a (by omega) b (by omega) c (by omega) hk hc h0 h1 h2
    rfl
theorem whole_122 : WholeI [1, 2, 2] := by decide +kernel
theorem codes_122 : codesN [1, 2, 2] = [0, 2, 3] := by decide +kernel
end Bm
namespace Bm
instance (cs ls : List Nat) : Decidable (FitN cs ls) := by unfold FitN; exact inferInstance
end Bm
/-- What Cost answers. -/
def costV (cs ls : List Nat) : Value := .tuple #[.int .i64 ((if Bm.FitN cs ls then Bm.costN cs ls else 0 : Nat) : Int), .bool (decide (Bm.FitN cs ls))]

end Go.Proofs.Ytmcobnbahkoopaa

namespace Go.Proofs.Ytmcobnbahkoopaa
open Go.RowKit
set_option maxHeartbeats 400000 in
set_option maxRecDepth 100000 in
theorem hsize_any (n : Int) (w : World) (hn : n ≤ 40) :
    Calls Try.prog 26 #[.int .i64 n] w fun e w' => e = .returned (.int .i64 ((2 ^ n.toNat : Nat) : Int)) ∧ w = w' := by
  obtain ⟨r, hres⟩ : ∃ r, r = 2 ^ n.toNat := ⟨_, rfl⟩
  rw [← hres]
  have Hres := Lib.hid hres
  clear hres
  go_enter Try.func26, Try.ntmps26
  go_wp2
  go_loop [3, 4] (fun x i => ∃ k : Nat, k ≤ n.toNat ∧ i = .int .i64 (k : Int) ∧ x = .int .i64 ((2 ^ k : Nat) : Int)) (fun _ i => n.toNat - (intOf i).toNat)
  case atStart => exact ⟨0, by omega, rfl, rfl⟩
  case round =>
    obtain ⟨k, hk, rfl, rfl⟩ := hrel
    have h40 : 2 ^ k ≤ 2 ^ 40 := Nat.pow_le_pow_right (by omega) (by omega)
    have h40' : (2 : Nat) ^ 40 = 1099511627776 := by decide
    rw [h40'] at h40
    clear h40'
    have hs : 2 ^ (k + 1) = 2 ^ k * 2 := Nat.pow_succ 2 k
    have Hs := Lib.hid hs
    have He : Hid (k = n.toNat → 2 ^ k = r) := Lib.hid (fun e => by rw [e, Hres.out])
    clear hs Hres
    generalize 2 ^ k = m at h40 Hs He ⊢
    by_cases hkl : (k : Int) < n
    · go_wp2
      go_round
      case rel => exact ⟨k + 1, by omega, by go_num, by rw [Hs.out]; go_num⟩
      case measure => simp [intOf]; omega
    · rw [He.out (by omega)]
      go_wp2
      go_ret
      exact ⟨rfl, rfl⟩
end Go.Proofs.Ytmcobnbahkoopaa

namespace Go.Proofs.Ytmcobnbahkoopaa.Bm

/-- The greatest of these (0: there are none), and the first place where it lies. -/
def maxL : List Nat → Nat
  | [] => 0
  | x :: l => max x (maxL l)
def firstMax (l : List Nat) : Nat := l.idxOf (maxL l)
theorem maxL_le (l : List Nat) : ∀ x ∈ l, x ≤ maxL l := by
  induction l with
  | nil => intro x h; cases h
  | cons a l ih =>
    intro x h
    rw [maxL]
    rcases List.mem_cons.1 h with rfl | h
    · omega
    · have := ih x h; omega
theorem maxL_mem (l : List Nat) (h : l ≠ []) : maxL l ∈ l := by
  induction l with
  | nil => exact absurd rfl h
  | cons a l ih =>
    rw [maxL]
    by_cases hl : l = []
    · subst hl; simp [maxL]
    · have h1 := ih hl
      by_cases h2 : maxL l ≤ a
      · rw [Nat.max_eq_left h2]; exact List.mem_cons_self
      · rw [Nat.max_eq_right (by omega)]; exact List.mem_cons_of_mem _ h1
theorem firstMax_lt (l : List Nat) (h : l ≠ []) : firstMax l < l.length := List.idxOf_lt_length_of_mem (maxL_mem l h)
theorem firstMax_get (l : List Nat) (h : firstMax l < l.length) : l[firstMax l] = maxL l := List.getElem_idxOf h
theorem maxL_append (a b : List Nat) : maxL (a ++ b) = max (maxL a) (maxL b) := by
  induction a with
  | nil => simp [maxL]
  | cons x a ih => rw [List.cons_append, maxL, ih, maxL]; omega
/-- One number more: the place of the first greatest goes on only if it is greater than all. -/
theorem firstMax_snoc (a : List Nat) (x : Nat) (h : a ≠ []) : firstMax (a ++ [x]) = if maxL a < x then a.length else firstMax a := by
  have hm := maxL_mem a h
  have e : maxL [x] = x := by simp [maxL]
  unfold firstMax
  rw [maxL_append, e]
  split
  · next hlt =>
    rw [Nat.max_eq_right (by omega), List.idxOf_append, if_neg (fun hx => by have := maxL_le a x hx; omega)]
    simp
  · next hlt =>
    rw [Nat.max_eq_left (by omega), List.idxOf_append, if_pos hm]
theorem sum_modify (p : List Nat) (k : Nat) (f : Nat → Nat) (h : k < p.length) : (p.modify k f).sum + p[k] = p.sum + f p[k] := by
  induction p generalizing k with
  | nil => simp at h
  | cons a p ih =>
    cases k with
    | zero => simp; omega
    | succ k =>
      have := ih k (by simpa using h)
      simp [List.modify_succ_cons] at this ⊢
      omega
theorem get_modify (p : List Nat) (k i : Nat) (f : Nat → Nat) : (p.modify k f)[i]? = if k = i then p[i]?.map f else p[i]? := by
  rw [List.getElem?_modify]
  cases h : p[i]? <;> split <;> simp
/-- Are they above 0 at the same places? -/
def SamePos (p q : List Nat) : Prop := p.length = q.length ∧ ∀ i : Nat, 0 < p[i]?.getD 0 ↔ 0 < q[i]?.getD 0
theorem SamePos.refl (p : List Nat) : SamePos p p := ⟨rfl, fun _ => Iff.rfl⟩
theorem SamePos.trans {p q r : List Nat} (h : SamePos p q) (k : SamePos q r) : SamePos p r := ⟨h.1.trans k.1, fun i => (h.2 i).trans (k.2 i)⟩
/-- How many are above 0. -/
def posN (l : List Nat) : Nat := l.countP fun n => decide (0 < n)
theorem SamePos.posN : ∀ {p q : List Nat}, SamePos p q → posN p = posN q
  | [], [], _ => rfl
  | [], _ :: _, h => by have := h.1; simp at this
  | _ :: _, [], h => by have := h.1; simp at this
  | a :: p, b :: q, h => by
    have h0 := h.2 0
    have h1 : SamePos p q := ⟨by have := h.1; simpa using this, fun i => by have := h.2 (i + 1); simpa using this⟩
    have h2 := h1.posN
    unfold Bm.posN at h2 ⊢
    rw [List.countP_cons, List.countP_cons, h2]
    simp at h0
    by_cases ha : 0 < a <;> simp [ha, h0.1] <;> simp_all
theorem sum_le_posN (l : List Nat) (h : ∀ x ∈ l, x ≤ 1) : l.sum ≤ posN l := by
  induction l with
  | nil => simp
  | cons a l ih =>
    have h1 := ih (fun x hx => h x (List.mem_cons_of_mem _ hx))
    have h2 := h a List.mem_cons_self
    unfold posN at h1 ⊢
    rw [List.sum_cons, List.countP_cons]
    by_cases ha : 0 < a
    · simp [ha]; omega
    · simp [ha]; omega
/-- k times one less at the first greatest. -/
def decs : Nat → List Nat → List Nat
  | 0, p => p
  | k + 1, p => decs k (p.modify (firstMax p) (· - 1))
theorem decs_spec (size : Nat) : ∀ (k : Nat) (p : List Nat), posN p ≤ size → p.sum = size + k → (decs k p).sum = size ∧ SamePos (decs k p) p
  | 0, p, _, hs => ⟨by simpa [decs] using hs, SamePos.refl p⟩
  | k + 1, p, hp, hs => by
    have hne : p ≠ [] := by rintro rfl; simp at hs
    have hlt := firstMax_lt p hne
    have hget := firstMax_get p hlt
    have h2 : 2 ≤ maxL p := by
      rcases Nat.lt_or_ge (maxL p) 2 with h1 | h1
      · have := sum_le_posN p (fun x hx => by have := maxL_le p x hx; omega)
        omega
      · exact h1
    have hsum := sum_modify p (firstMax p) (· - 1) hlt
    rw [hget] at hsum
    have hsame : SamePos (p.modify (firstMax p) (· - 1)) p := by
      refine ⟨by simp, fun i => ?_⟩
      rw [get_modify]
      split
      · next e =>
        subst e
        rw [List.getElem?_eq_getElem hlt, hget]
        simp
        omega
      · exact Iff.rfl
    have h3 := decs_spec size k (p.modify (firstMax p) (· - 1)) (by rw [hsame.posN]; exact hp) (by omega)
    exact ⟨h3.1, h3.2.trans hsame⟩
/-- A count's part of the size. -/
def partN (size total c : Nat) : Nat := if c * size / total = 0 ∧ 0 < c then 1 else c * size / total
def parts (cs : List Nat) (size : Nat) : List Nat := cs.map (partN size cs.sum)
/-- The share of counts of a size. -/
def shareM (cs : List Nat) (size : Nat) : List Nat :=
  if (parts cs size).sum < size then (parts cs size).modify (firstMax cs) (· + (size - (parts cs size).sum)) else decs ((parts cs size).sum - size) (parts cs size)
theorem partN_pos (size total c : Nat) : 0 < partN size total c ↔ 0 < c := by
  unfold partN
  split
  · next h => simp [h.2]
  · next h =>
    constructor
    · intro h1
      rcases Nat.eq_zero_or_pos c with h2 | h2
      · subst h2; simp at h1
      · exact h2
    · intro h1
      rcases Nat.eq_zero_or_pos (c * size / total) with h2 | h2
      · exact absurd ⟨h2, h1⟩ h
      · exact h2
theorem parts_same (cs : List Nat) (size : Nat) : SamePos (parts cs size) cs := by
  refine ⟨by simp [parts], fun i => ?_⟩
  unfold parts
  rw [List.getElem?_map]
  cases h : cs[i]? with
  | none => simp
  | some c => simp [partN_pos]
theorem share_spec (cs : List Nat) (size : Nat) (h0 : 0 < cs.sum) (h : posN cs ≤ size) : (shareM cs size).sum = size ∧ SamePos (shareM cs size) cs := by
  have hsame := parts_same cs size
  unfold shareM
  split
  · next hlt =>
    have hne : cs ≠ [] := by rintro rfl; simp at h0
    have hlt2 := firstMax_lt cs hne
    have hlt3 : firstMax cs < (parts cs size).length := by rw [hsame.1]; exact hlt2
    have hs := sum_modify (parts cs size) (firstMax cs) (· + (size - (parts cs size).sum)) hlt3
    refine ⟨by omega, ⟨by simp [hsame.1], fun i => ?_⟩⟩
    rw [get_modify]
    split
    · next e =>
      subst e
      have h1 := hsame.2 (firstMax cs)
      have hp : 0 < cs[firstMax cs]?.getD 0 := by
        rw [List.getElem?_eq_getElem hlt2, firstMax_get cs hlt2]
        simp
        rcases Nat.eq_zero_or_pos (maxL cs) with h2 | h2
        · have h3 : cs.sum = 0 := by
            have : ∀ (l : List Nat), (∀ x ∈ l, x = 0) → l.sum = 0 := fun l => by
              induction l with
              | nil => simp
              | cons a l ih => intro hh; rw [List.sum_cons, hh a List.mem_cons_self, ih (fun x hx => hh x (List.mem_cons_of_mem _ hx))]
            exact this cs (fun x hx => by have := maxL_le cs x hx; omega)
          omega
        · exact h2
      rw [List.getElem?_eq_getElem hlt3] at h1 ⊢
      simp at h1 ⊢
      have := h1.2 hp
      omega
    · exact hsame.2 i
  · next hlt =>
    have h1 := decs_spec size ((parts cs size).sum - size) (parts cs size) (by rw [hsame.posN]; exact h) (by omega)
    exact ⟨h1.1, h1.2.trans hsame⟩
/-- Counts that may be. -/
def Right (l : List Int) : Prop := l.length ≤ 256 ∧ (∀ x ∈ l, 0 ≤ x ∧ x ≤ 1048576) ∧ ∃ x ∈ l, 0 < x
/-- A log for so many symbols, an eighth of whose sum is q. -/
def logM (sym q : Nat) : Nat :=
  if 4 * sym ≤ 32 ∧ q ≤ 32 then 5 else if 4 * sym ≤ 64 ∧ q ≤ 64 then 6 else if 4 * sym ≤ 128 ∧ q ≤ 128 then 7 else if 4 * sym ≤ 256 ∧ q ≤ 256 then 8 else 9
theorem logM_ok (sym q : Nat) (h : sym ≤ 256) : 5 ≤ logM sym q ∧ logM sym q ≤ 9 ∧ sym ≤ 2 ^ logM sym q := by
  unfold logM
  split
  · refine ⟨by omega, by omega, ?_⟩
    have : (2 : Nat) ^ 5 = 32 := by decide
    omega
  split
  · refine ⟨by omega, by omega, ?_⟩
    have : (2 : Nat) ^ 6 = 64 := by decide
    omega
  split
  · refine ⟨by omega, by omega, ?_⟩
    have : (2 : Nat) ^ 7 = 128 := by decide
    omega
  split
  · refine ⟨by omega, by omega, ?_⟩
    have : (2 : Nat) ^ 8 = 256 := by decide
    omega
  · refine ⟨by omega, by omega, ?_⟩
    have : (2 : Nat) ^ 9 = 512 := by decide
    omega
end Go.Proofs.Ytmcobnbahkoopaa.Bm

namespace Go.Proofs.Ytmcobnbahkoopaa
open Go.RowKit
namespace Bm
theorem all_take9 (p : Int → Prop) (l : List Int) (k : Nat) (h : k < l.length) (h0 : ∀ x ∈ l.take k, p x) (h1 : p l[k]) : ∀ x ∈ l.take (k + 1), p x := by
  rw [List.take_succ_eq_append_getElem h]
  intro x hx
  rcases List.mem_append.1 hx with h2 | h2
  · exact h0 x h2
  · rw [List.mem_singleton.1 h2]; exact h1
theorem ex_take9 (p : Int → Prop) (l : List Int) (k : Nat) (h : k < l.length) : (∃ x ∈ l.take (k + 1), p x) ↔ (∃ x ∈ l.take k, p x) ∨ p l[k] := by
  rw [List.take_succ_eq_append_getElem h]
  constructor
  · rintro ⟨x, hx, hp⟩
    rcases List.mem_append.1 hx with h2 | h2
    · exact .inl ⟨x, h2, hp⟩
    · rw [List.mem_singleton] at h2; subst h2; exact .inr hp
  · rintro (⟨x, hx, hp⟩ | hp)
    · exact ⟨x, List.mem_append_left _ hx, hp⟩
    · exact ⟨_, List.mem_append_right _ (List.mem_singleton.2 rfl), hp⟩
end Bm
theorem dec256 (n : Nat) (r : Bool) (h : decide (n ≤ 256) = r) : decide ((n : Int) ≤ 256) = r := by rw [← h, decide_eq_decide]; omega

set_option maxHeartbeats 1000000 in
set_option maxRecDepth 100000 in
theorem vright_any (A : Option Addr) (c : Nat) (l : List Int) (w : World) (hl : l.length ≤ 1000000000) (hr : Reads w A (i64z l)) :
    Calls Try.prog 20 #[.slice A l.length c] w fun e w' => e = .returned (.bool (decide (Bm.LenR l))) ∧ w = w' := by
  have Hr := Lib.hid hr
  obtain ⟨r, hres⟩ : ∃ r, r = decide (Bm.LenR l) := ⟨_, rfl⟩
  rw [← hres]
  have Hres := Lib.hid hres
  have Hno : Hid (¬ Bm.LenR l → false = r) := Lib.hid (fun h => by rw [hres, decide_eq_false h])
  clear hr hres
  go_enter Try.func20, Try.ntmps20
  go_wp2
  go_loop [3] (fun i => ∃ (k : Nat), k ≤ l.length ∧ i = .int .i64 (k : Int) ∧ Hid (∀ x ∈ l.take k, 0 ≤ x ∧ x ≤ 11)) (fun i => l.length - (intOf i).toNat)
  case atStart => exact ⟨0, by omega, rfl, Lib.hid (by simp)⟩
  case round =>
    obtain ⟨k, hk, rfl, hall⟩ := hrel
    by_cases hkl : k < l.length
    · obtain ⟨g, off, rfl, hc⟩ := reads_iz Hr.out (by omega)
      have c0 := hc k hkl
      have Ha := Lib.hid (Bm.all_take9 (fun x => 0 ≤ x ∧ x ≤ 11) l k hkl hall.out)
      have Hm := Lib.hid (List.getElem_mem hkl)
      clear hc hall
      generalize l[k] = z at c0 Ha Hm
      by_cases hz : z < 0
      · have Hf := Lib.hid (Hno.out (fun h => by have := (h.2 z Hm.out).1; omega))
        go_wp2
        go_ret
        exact ⟨congrArg (fun x => Ending.returned (Value.bool x)) Hf.out, rfl⟩
      by_cases hz2 : 11 < z
      · have Hf := Lib.hid (Hno.out (fun h => by have := (h.2 z Hm.out).2; omega))
        go_wp2
        go_ret
        exact ⟨congrArg (fun x => Ending.returned (Value.bool x)) Hf.out, rfl⟩
      have Hall2 := Lib.hid (Ha.out (by omega))
      clear Ha
      go_wp2
      go_round
      case rel => exact ⟨k + 1, by omega, by go_num, Hall2⟩
      case measure => simp [intOf]; omega
    · obtain rfl : k = l.length := by omega
      have hfin : decide (l.length ≤ 256) = r := by
        have h2 := hall.out
        rw [List.take_length] at h2
        rw [Hres.out, decide_eq_decide]
        exact ⟨fun b => ⟨b, h2⟩, fun h => h.1⟩
      have Hfin := Lib.hid hfin
      clear hfin hall Hres Hno Hr
      generalize l.length = n at *
      go_wp2
      go_ret
      exact ⟨congrArg (fun x => Ending.returned (Value.bool x)) (dec256 n r Hfin.out), rfl⟩
namespace Bm
theorem kr_take (l : List Nat) (k : Nat) (h : k < l.length) : krN (l.take (k + 1)) = krN (l.take k) + partL l[k] ∧ someN (l.take (k + 1)) = someN (l.take k) + if 0 < l[k] then 1 else 0 := by
  unfold krN someN
  rw [List.take_succ_eq_append_getElem h, List.map_append, List.sum_append_nat, List.countP_append, List.countP_singleton]
  simp
theorem part_le (n : Nat) : partL n ≤ 1024 := by
  unfold partL
  split
  · omega
  · exact Nat.pow_le_pow_right (n := 2) (j := 10) (by omega) (by omega)
theorem kr_le (l : List Nat) : krN l ≤ 1024 * l.length := by
  unfold krN
  induction l with
  | nil => simp
  | cons a l ih => have := part_le a; rw [List.map_cons, List.sum_cons, List.length_cons]; omega
theorem some_le (l : List Nat) : someN l ≤ l.length := List.countP_le_length
end Bm

set_option maxHeartbeats 1000000 in
set_option maxRecDepth 100000 in
theorem vwhole_any (A : Option Addr) (c : Nat) (l : List Int) (w : World) (hl : l.length ≤ 1000000000) (hr : Reads w A (i64z l)) :
    Calls Try.prog 11 #[.slice A l.length c] w fun e w' => e = .returned (.bool (decide (Bm.WholeI l))) ∧ w = w' := by
  have Hri := Lib.hid (vright_any A c l w hl hr)
  by_cases hR : Bm.LenR l
  · rw [decide_eq_true hR] at Hri
    obtain ⟨e1, h11, elen⟩ := Bm.lenR_nat l hR
    have h256 := hR.1
    have hW : Bm.WholeI l ↔ (Bm.krN (l.map Int.toNat) = 2048 ∨ (Bm.someN (l.map Int.toNat) = 1 ∧ Bm.krN (l.map Int.toNat) = 1024)) := by
      unfold Bm.WholeI Bm.WholeN
      exact ⟨fun h => h.2.2.2, fun h => ⟨hR, by omega, h11, h⟩⟩
    have hd : decide (Bm.WholeI l) = decide (Bm.krN (l.map Int.toNat) = 2048 ∨ (Bm.someN (l.map Int.toNat) = 1 ∧ Bm.krN (l.map Int.toNat) = 1024)) := decide_eq_decide.2 hW
    rw [hd]
    have hr2 : Reads w A (i64s (l.map Int.toNat)) := by rw [← i64z_nat, ← e1]; exact hr
    generalize l.map Int.toNat = ls at *
    clear hd hW hR e1 hr
    have Hr := Lib.hid hr2
    have H11 := Lib.hid h11
    rw [← elen] at Hri ⊢
    have hls : ls.length ≤ 256 := by omega
    clear hr2 h11 elen h256 hl
    obtain ⟨r, hres⟩ : ∃ r, r = decide (Bm.krN ls = 2048 ∨ (Bm.someN ls = 1 ∧ Bm.krN ls = 1024)) := ⟨_, rfl⟩
    rw [← hres]
    have Hres := Lib.hid hres
    clear hres
    go_enter Try.func11, Try.ntmps11
    go_wp2_with fail
    refine Hri.out.mono ?_
    rintro e w' ⟨rfl, rfl⟩
    clear Hri
    go_wp2
    go_loop [3, 4, 5] (fun s t i => ∃ (k : Nat), k ≤ ls.length ∧ i = .int .i64 (k : Int) ∧ s = .int .i64 (Bm.krN (ls.take k) : Int) ∧ t = .int .i64 (Bm.someN (ls.take k) : Int)) (fun _ _ i => ls.length - (intOf i).toNat)
    case atStart => exact ⟨0, by omega, rfl, rfl, rfl⟩
    case round =>
      obtain ⟨k, hk, rfl, rfl, rfl⟩ := hrel
      by_cases hkl : k < ls.length
      · obtain ⟨g, off, rfl, hc⟩ : ∃ g off, A = some ⟨g, off, none⟩ ∧ w.cell? ⟨g, off + k, none⟩ = some (.int .i64 (ls[k] : Int)) := by
          obtain ⟨g, off, e, hc⟩ := Hr.out (by intro e; have := congrArg List.length e; rw [i64s_length, List.length_nil] at this; omega)
          refine ⟨g, off, e, ?_⟩
          have h1 := hc k (by rw [i64s_length]; exact hkl)
          rw [i64s_get? ls k hkl] at h1
          exact h1
        have Hst := Lib.hid (Bm.kr_take ls k hkl)
        have hkr := Bm.kr_le (ls.take k)
        have hso := Bm.some_le (ls.take k)
        rw [List.length_take, Nat.min_eq_left (by omega)] at hkr hso
        have h11 := H11.out ls[k] (List.getElem_mem hkl)
        have hpl := Bm.part_le ls[k]
        have Hsz : Hid (0 < ls[k] → Calls Try.prog 26 #[.int .i64 (11 - (ls[k] : Int))] w fun e w' => e = .returned (.int .i64 (Bm.partL ls[k] : Int)) ∧ w = w') := Lib.hid (fun h0 => by
          have h1 := hsize_any (11 - (ls[k] : Int)) w (by omega)
          rw [show (11 - (ls[k] : Int)).toNat = 11 - ls[k] by omega] at h1
          unfold Bm.partL
          rw [if_neg (by omega)]
          exact h1)
        have Hp0 : Hid (ls[k] = 0 → Bm.partL ls[k] = 0) := Lib.hid (fun h => by unfold Bm.partL; rw [if_pos h])
        generalize Bm.krN (ls.take k) = K at *
        generalize Bm.someN (ls.take k) = M at *
        generalize Bm.partL ls[k] = P at *
        generalize ls[k] = x at *
        by_cases hx : 0 < x
        · have Hsz2 := Lib.hid (Hsz.out hx)
          clear Hsz Hp0
          go_wp2_with fail
          refine Hsz2.out.mono ?_
          rintro e w' ⟨rfl, rfl⟩
          go_wp2
          go_round
          case rel => exact ⟨k + 1, by omega, by go_num, by rw [Hst.out.1]; go_num, by rw [Hst.out.2, if_pos hx]; go_num⟩
          case measure => simp [intOf]; omega
        · have hP0 := Hp0.out (by omega)
          subst hP0
          clear Hsz Hp0
          go_wp2
          go_round
          case rel => exact ⟨k + 1, by omega, by go_num, by rw [Hst.out.1]; go_num, by rw [Hst.out.2, if_neg hx]; go_num⟩
          case measure => simp [intOf]; omega
      · obtain rfl : k = ls.length := by omega
        rw [List.take_length]
        clear Hr H11
        generalize Bm.krN ls = K at *
        generalize Bm.someN ls = M at *
        by_cases h1 : K = 2048
        · have d1 : ((K : Int) == 2048) = true := by rw [h1]; rfl
          have Hf : Hid (true = r) := Lib.hid (by rw [Hres.out, decide_eq_true (.inl h1)])
          clear h1 Hres
          go_wp2
          go_ret
          exact ⟨congrArg (fun x => Ending.returned (Value.bool x)) Hf.out, rfl⟩
        · have d1 : ((K : Int) == 2048) = false := by rw [beq_eq_false_iff_ne]; omega
          by_cases h2 : M = 1
          · have d2 : ((M : Int) == 1) = true := by rw [h2]; rfl
            have Hf : Hid (((K : Int) == 1024) = r) := Lib.hid (by
              rw [Hres.out, Bool.eq_iff_iff, beq_iff_eq, decide_eq_true_iff]
              omega)
            clear h1 h2 Hres
            go_wp2
            go_ret
            exact ⟨congrArg (fun x => Ending.returned (Value.bool x)) Hf.out, rfl⟩
          · have d2 : ((M : Int) == 1) = false := by rw [beq_eq_false_iff_ne]; omega
            have Hf : Hid (false = r) := Lib.hid (by rw [Hres.out, decide_eq_false (by omega)])
            clear h1 h2 Hres
            go_wp2
            go_ret
            exact ⟨congrArg (fun x => Ending.returned (Value.bool x)) Hf.out, rfl⟩
  · rw [decide_eq_false hR] at Hri
    have hf : decide (Bm.WholeI l) = false := decide_eq_false (fun h => hR h.1)
    rw [hf]
    clear hr hf
    go_enter Try.func11, Try.ntmps11
    go_wp2_with fail
    refine Hri.out.mono ?_
    rintro e w' ⟨rfl, rfl⟩
    go_wp2
    go_ret
    exact ⟨rfl, rfl⟩
end Go.Proofs.Ytmcobnbahkoopaa

namespace Go.Proofs.Ytmcobnbahkoopaa
open Go.RowKit
namespace Bm
/-- The first q codes, noughts behind. -/
def codesTo (l : List Nat) (q : Nat) : List Nat := (List.range q).map (codeN9 l) ++ List.replicate (l.length - q) 0
theorem codesTo_zero (l : List Nat) : codesTo l 0 = List.replicate l.length 0 := by simp [codesTo]
theorem codesTo_all (l : List Nat) : codesTo l l.length = codesN l := by simp [codesTo, codesN]
theorem codesTo_length (l : List Nat) (q : Nat) (h : q ≤ l.length) : (codesTo l q).length = l.length := by simp [codesTo]; omega
theorem codesTo_get (l : List Nat) (q : Nat) (h : q < l.length) : (codesTo l q)[q]? = some 0 := by
  unfold codesTo
  have h1 : ((List.range q).map (codeN9 l)).length = q := by simp
  rw [List.getElem?_append_right (by omega), h1, Nat.sub_self, List.getElem?_replicate, if_pos (by omega)]
theorem codesTo_next (l : List Nat) (q : Nat) (h : q < l.length) : codesTo l (q + 1) = (codesTo l q).set q (codeN9 l q) := by
  unfold codesTo
  have h1 : ((List.range q).map (codeN9 l)).length = q := by simp
  rw [List.set_append_right _ _ (by omega), h1, Nat.sub_self, List.range_succ, List.map_append, List.append_assoc]
  congr 1
  obtain ⟨m, hm⟩ : ∃ m, l.length - q = m + 1 := ⟨l.length - q - 1, by omega⟩
  rw [hm, show l.length - (q + 1) = m by omega, List.replicate_succ]
  simp
theorem codesTo_none (l : List Nat) (q : Nat) (h : q < l.length) (h0 : codeN9 l q = 0) : codesTo l (q + 1) = codesTo l q := by
  rw [codesTo_next l q h, h0]
  apply List.ext_getElem?
  intro i
  rw [List.getElem?_set]
  split
  · next e =>
    subst e
    rw [if_pos (by rw [codesTo_length l q (by omega)]; omega), codesTo_get l q h]
  · rfl
theorem aheadQ_le (l : List Nat) (i q : Nat) : aheadQ l i q ≤ 1024 * q := by
  induction q with
  | zero => simp [aheadQ]
  | succ q ih =>
    rw [aheadQ_succ]
    have := part_le (l[q]?.getD 0)
    split <;> omega
end Bm
theorem reads_i9 {w : World} {A : Option Addr} {l : List Nat} (h : Reads w A (i64s l)) (hne : 0 < l.length) : ∃ g off, A = some ⟨g, off, none⟩ ∧ ∀ j (hj : j < l.length), w.cell? ⟨g, off + j, none⟩ = some (.int .i64 (l[j] : Int)) := by
  have hne' : i64s l ≠ [] := fun e => by
    have h1 := congrArg List.length e
    rw [i64s_length, List.length_nil] at h1
    omega
  obtain ⟨g, off, e, hc⟩ := h hne'
  exact ⟨g, off, e, fun j hj => by rw [hc j (by rw [i64s_length]; exact hj), i64s_get? l j hj]⟩

set_option maxHeartbeats 4000000 in
set_option maxRecDepth 100000 in
theorem vcodes_any (A : Option Addr) (c : Nat) (ls : List Nat) (w : World) (hl : ls.length ≤ 1000) (h11 : ∀ x ∈ ls, x ≤ 11) (hr : Reads w A (i64s ls)) :
    Calls Try.prog 19 #[.slice A ls.length c] w fun e w' => ∃ g, e = .returned (.slice (some ⟨g, 0, none⟩) ls.length ls.length) ∧ w.heap.size ≤ g ∧ Row w' g 3 (i64s (Bm.codesN ls)) ∧ Below w.heap.size w w' := by
  obtain ⟨i0, hi, hz0, hz1, hz2⟩ := info_parts info_in
  have Hr := Lib.hid hr
  have H11 := Lib.hid h11
  clear hr h11
  obtain ⟨g0, hg0⟩ : ∃ g, g = w.heap.size := ⟨_, rfl⟩
  have Hg0 := Lib.hid hg0
  clear hg0
  go_enter Try.func19, Try.ntmps19
  go_wp2_with (at_make; refine wpList_make_full _ rfl _ _ 22 rfl w.heap.size 3 i0 (.int .i64 0) 1 Try.underlying22 hi hz0 hz1 .i64 .i64 _ _ ls.length rfl rfl ?c1 ?c1 ?c2 ?c3 ?c4 ?_)
  case c1 => omega
  case c2 => first | omega | (rw [hz2]; omega)
  case c3 => unfold maxLen; omega
  try case c4 => exact Nat.le_refl _
  intro w1 hown1 hg1
  have hb1 := below_of_grown hg1
  have hr1 := row_of_ownI hown1
  rw [← Hg0.out] at hr1 ⊢
  have Hb1 := Lib.hid hb1
  rw [← Bm.codesTo_zero ls] at hr1
  have Hr1 := Lib.hid hr1
  clear hown1 hg1 hb1 hr1 hi hz0 hz1 hz2
  go_wp2
  go_loopw [4] (fun i wr => ∃ q : Nat, q ≤ ls.length ∧ i = .int .i64 (q : Int) ∧ Hid (Row wr g0 3 (i64s (Bm.codesTo ls q))) ∧ Hid (Below w.heap.size w wr)) (fun i _ => ls.length - (intOf i).toNat)
  case atStart => exact ⟨0, by omega, rfl, Hr1, Hb1⟩
  case round =>
    obtain ⟨q, hq, rfl, hrow, hbel⟩ := hrel
    clear Hr1 Hb1
    by_cases hql : q < ls.length
    · obtain ⟨g, off, hA, hc⟩ : ∃ g off, A = some ⟨g, off, none⟩ ∧ ∀ W, Below w.heap.size w W → ∀ j (hj : j < ls.length), W.cell? ⟨g, off + j, none⟩ = some (.int .i64 (ls[j] : Int)) := by
        obtain ⟨g, off, e, _⟩ := reads_i9 Hr.out (by omega)
        subst e
        exact ⟨g, off, rfl, fun W hb j hj => by
          obtain ⟨g', off', e, hc⟩ := reads_i9 (reads_on Hr.out hb) (by omega)
          injection e with e
          injection e with e1 e2
          subst e1 e2
          exact hc j hj⟩
      subst hA
      have Hc := Lib.hid hc
      have c0 := hc wr hbel.out q hql
      have hq11 := H11.out ls[q] (List.getElem_mem hql)
      have Hcell : Hid (wr.cell? ⟨g0, q, none⟩ = some (.int .i64 0)) := Lib.hid (by
        have h1 := hrow.out.cell q
        have h2 := Bm.codesTo_get ls q hql
        simp only [i64s, List.getElem?_map, h2, Option.map_some] at h1
        exact h1)
      have hgq : ls[q]?.getD 0 = ls[q] := by rw [List.getElem?_eq_getElem hql, Option.getD_some]
      have Hn := Lib.hid (Bm.codesTo_next ls q hql)
      have Hn0 := Lib.hid (Bm.codesTo_none ls q hql)
      have Hcz : Hid (ls[q] = 0 → Bm.codeN9 ls q = 0) := Lib.hid (fun h => by unfold Bm.codeN9; rw [hgq, if_pos h])
      have Hcn : Hid (ls[q] ≠ 0 → Bm.codeN9 ls q = Bm.aheadN ls q / 2 ^ (11 - ls[q])) := Lib.hid (fun h => by unfold Bm.codeN9; rw [hgq, if_neg h])
      have Hgq := Lib.hid hgq
      clear hc hgq
      obtain ⟨b, hb⟩ : ∃ b, b = ls[q] := ⟨_, rfl⟩
      rw [← hb] at c0 hq11 Hcz Hcn Hgq
      have Hb := Lib.hid hb
      clear hb
      by_cases hb0 : b = 0
      · subst hb0
        have H2 := Lib.hid (Hn0.out (Hcz.out rfl))
        clear Hcn Hcz Hn Hn0 Hcell
        go_wp2
        go_roundw
        case rel => exact ⟨q + 1, by omega, by go_num, Lib.hid (by rw [H2.out]; exact hrow.out), hbel⟩
        case measure => simp [intOf]; omega
      · have hbne : ((b : Int) == 0) = false := by rw [beq_eq_false_iff_ne]; omega
        have Hce := Lib.hid (Hcn.out hb0)
        clear Hcn Hcz Hn0
        obtain ⟨wo, rfl⟩ : ∃ wo : World, wo = wr := ⟨_, rfl⟩
        go_wp2
        clear c0
        go_loopw [5, 6] (fun s k wr => ∃ t : Nat, t ≤ ls.length ∧ k = .int .i64 (t : Int) ∧ s = .int .i64 (Bm.aheadQ ls q t : Int) ∧ ∃ m, wr = wo.drewN m) (fun _ k _ => ls.length - (intOf k).toNat)
        case atStart => exact ⟨0, by omega, rfl, rfl, 0, rfl⟩
        case round =>
          obtain ⟨t, ht, rfl, rfl, m, rfl⟩ := hrel
          have hbd := below_drewN hbel.out m
          by_cases htl : t < ls.length
          · have c1 := Hc.out _ hbel.out t htl
            have c2 := Hc.out _ hbel.out q hql
            rw [← Hb.out] at c2
            have ht11 := H11.out ls[t] (List.getElem_mem htl)
            have hgt : ls[t]?.getD 0 = ls[t] := by rw [List.getElem?_eq_getElem htl, Option.getD_some]
            have Hs := Lib.hid (Bm.aheadQ_succ ls q t)
            have hal := Bm.aheadQ_le ls q t
            have hpl := Bm.part_le ls[t]
            have hbf : Bm.beforeB ls t q = (decide (0 < ls[t]) && (decide (ls[t] < b) || (decide (ls[t] = b) && decide (t < q)))) := by
              unfold Bm.beforeB
              rw [hgt, Hgq.out]
            rw [hbf, hgt] at Hs
            have Hsz : Hid (∀ W, 0 < ls[t] → Calls Try.prog 26 #[.int .i64 (11 - (ls[t] : Int))] W fun e w' => e = .returned (.int .i64 (Bm.partL ls[t] : Int)) ∧ W = w') := Lib.hid (fun W h0 => by
              have h1 := hsize_any (11 - (ls[t] : Int)) W (by omega)
              rw [show (11 - (ls[t] : Int)).toNat = 11 - ls[t] by omega] at h1
              unfold Bm.partL
              rw [if_neg (by omega)]
              exact h1)
            clear hbf hgt
            generalize Bm.aheadQ ls q t = S at *
            generalize Bm.partL ls[t] = P at *
            generalize ls[t] = a at *
            have hi1 : (0 : Int) ≤ (t : Int) := by omega
            have hi2 : (0 : Int) ≤ (q : Int) := by omega
            by_cases k1 : 0 < a
            · have d1 : decide ((0 : Int) < (a : Int)) = true := decide_eq_true (by omega)
              have Hsz2 := Lib.hid (fun W => Hsz.out W k1)
              clear Hsz
              by_cases k2 : a < b ∨ (a = b ∧ t < q)
              · have Hs2 : Hid (Bm.aheadQ ls q (t + 1) = S + P) := Lib.hid (by rw [Hs.out, if_pos]; simp; omega)
                clear Hs
                by_cases k3 : a < b
                · have d3 : decide (a < b) = true := decide_eq_true k3
                  go_wp2_with fail
                  go_quiet (fail)
                  go_wp2_with fail
                  refine (Hsz2.out _).mono ?_
                  rintro e w' ⟨rfl, rfl⟩
                  go_wp2
                  go_roundw
                  case rel => exact ⟨t + 1, by omega, by go_num, by rw [Hs2.out]; go_num, _, rfl⟩
                  case measure => simp [intOf]; omega
                · have d3 : decide (a < b) = false := decide_eq_false k3
                  obtain ⟨rfl, k4⟩ : a = b ∧ t < q := by omega
                  have d4 : decide (t < q) = true := decide_eq_true k4
                  go_wp2_with fail
                  go_quiet (fail)
                  go_wp2_with fail
                  refine (Hsz2.out _).mono ?_
                  rintro e w' ⟨rfl, rfl⟩
                  go_wp2
                  go_roundw
                  case rel => exact ⟨t + 1, by omega, by go_num, by rw [Hs2.out]; go_num, _, rfl⟩
                  case measure => simp [intOf]; omega
              · have Hs2 : Hid (Bm.aheadQ ls q (t + 1) = S) := Lib.hid (by rw [Hs.out, if_neg (by simp; omega)]; omega)
                have d3 : decide (a < b) = false := decide_eq_false (by omega)
                clear Hs Hsz2
                by_cases k4 : a = b
                · subst k4
                  have d4 : decide (t < q) = false := decide_eq_false (by omega)
                  go_wp2_with fail
                  go_quiet (fail)
                  go_wp2
                  go_roundw
                  case rel => exact ⟨t + 1, by omega, by go_num, by rw [Hs2.out], _, rfl⟩
                  case measure => simp [intOf]; omega
                · have d4 : ((a : Int) == (b : Int)) = false := by rw [beq_eq_false_iff_ne]; omega
                  go_wp2_with fail
                  go_quiet (fail)
                  go_wp2
                  go_roundw
                  case rel => exact ⟨t + 1, by omega, by go_num, by rw [Hs2.out], _, rfl⟩
                  case measure => simp [intOf]; omega
            · have d1 : decide ((0 : Int) < (a : Int)) = false := decide_eq_false (by omega)
              have Hs2 : Hid (Bm.aheadQ ls q (t + 1) = S) := Lib.hid (by rw [Hs.out, if_neg (by simp; omega)]; omega)
              clear Hs Hsz
              go_wp2_with fail
              go_quiet (fail)
              go_wp2
              go_roundw
              case rel => exact ⟨t + 1, by omega, by go_num, by rw [Hs2.out], _, rfl⟩
              case measure => simp [intOf]; omega
          · obtain rfl : t = ls.length := by omega
            have c2 := Hc.out _ hbel.out q hql
            rw [← Hb.out] at c2
            have Hsz : Hid (∀ W, Calls Try.prog 26 #[.int .i64 (11 - (b : Int))] W fun e w' => e = .returned (.int .i64 ((2 ^ (11 - b) : Nat) : Int)) ∧ W = w') := Lib.hid (fun W => by
              have h1 := hsize_any (11 - (b : Int)) W (by omega)
              rw [show (11 - (b : Int)).toNat = 11 - b by omega] at h1
              exact h1)
            have hal := Bm.aheadQ_le ls q ls.length
            have hP0 : 0 < 2 ^ (11 - b) := Nat.two_pow_pos _
            have Hfin : Hid (Bm.codeN9 ls q = Bm.aheadQ ls q ls.length / 2 ^ (11 - b)) := Lib.hid Hce.out
            have hcd : (wo.drewN m).cell? ⟨g0, q, none⟩ = some (.int .i64 0) := Hcell.out
            have hfd : (wo.drewN m).frozen? ⟨g0, q, none⟩ = false := hrow.out.free q
            generalize Bm.aheadQ ls q ls.length = S at *
            generalize 2 ^ (11 - b) = P at *
            have hdv : (S : Int) / (P : Int) = ((S / P : Nat) : Int) := by simp
            have hq0 : 0 ≤ (S : Int) / (P : Int) := by rw [hdv]; exact Int.natCast_nonneg _
            have hq1 : (S : Int) / (P : Int) ≤ (S : Int) := by rw [hdv]; exact Int.ofNat_le.2 (Nat.div_le_self S P)
            have Hdv := Lib.hid hdv
            clear hdv
            go_wp2_with fail
            refine (Hsz.out _).mono ?_
            rintro e w' ⟨rfl, rfl⟩
            go_wp2
            go_roundw
            case rel =>
              refine ⟨q + 1, by omega, by go_num, Lib.hid ?_, Lib.hid (hbd.setCell (by rw [Hg0.out]; exact Nat.le_refl _) _)⟩
              have h0 : Row (wo.drewN m) g0 3 (i64s (Bm.codesTo ls q)) := hrow.out
              rw [Hn.out, Hfin.out]
              have h1 := h0.set_ q (.int .i64 ((S : Int) / (P : Int)))
              rw [show i64s ((Bm.codesTo ls q).set q (S / P)) = (i64s (Bm.codesTo ls q)).set q (.int .i64 ((S / P : Nat) : Int)) by simp [i64s, List.map_set], ← Hdv.out]
              exact h1
            case measure => simp [intOf]; omega
    · obtain rfl : q = ls.length := by omega
      rw [Bm.codesTo_all] at hrow
      go_wp2
      go_ret
      exact ⟨g0, rfl, by rw [Hg0.out]; exact Nat.le_refl _, hrow.out, hbel.out⟩
end Go.Proofs.Ytmcobnbahkoopaa

namespace Go.Proofs.Ytmcobnbahkoopaa
open Go.RowKit
namespace Bm
def costTo (cs ls : List Nat) (k : Nat) : Nat := ((List.range k).map fun i => cs[i]?.getD 0 * ls[i]?.getD 0).sum
theorem costTo_succ (cs ls : List Nat) (k : Nat) : costTo cs ls (k + 1) = costTo cs ls k + cs[k]?.getD 0 * ls[k]?.getD 0 := by
  unfold costTo
  rw [List.range_succ, List.map_append, List.sum_append_nat]
  simp
theorem costTo_all (cs ls : List Nat) : costTo cs ls cs.length = costN cs ls := rfl
theorem costTo_le (cs ls : List Nat) (hc : ∀ x ∈ cs, x ≤ 1048576) (hl : ∀ x ∈ ls, x ≤ 11) : ∀ k, costTo cs ls k ≤ 11534336 * k
  | 0 => by simp [costTo]
  | k + 1 => by
    have ih := costTo_le cs ls hc hl k
    rw [costTo_succ]
    have h1 : cs[k]?.getD 0 ≤ 1048576 := by
      cases h : cs[k]? with
      | none => simp
      | some v => exact hc v (List.mem_of_getElem? h)
    have h2 : ls[k]?.getD 0 ≤ 11 := by
      cases h : ls[k]? with
      | none => simp
      | some v => exact hl v (List.mem_of_getElem? h)
    have h3 := Nat.mul_le_mul h1 h2
    omega
end Bm
set_option maxHeartbeats 1000000 in
set_option maxRecDepth 100000 in
theorem vcost_any (A B : Option Addr) (c d : Nat) (cs ls : List Nat) (w : World) (hl : cs.length ≤ ls.length) (hl2 : ls.length ≤ 1000) (hc20 : ∀ x ∈ cs, x ≤ 1048576) (h11 : ∀ x ∈ ls, x ≤ 11) (hr : Reads w A (i64s cs)) (hs : Reads w B (i64s ls)) :
    Calls Try.prog 12 #[.slice A cs.length c, .slice B ls.length d] w fun e w' => e = .returned (costV cs ls) ∧ ∃ m, w' = w.drewN m := by
  have Hr := Lib.hid hr
  have Hs := Lib.hid hs
  have H20 := Lib.hid hc20
  have H11 := Lib.hid h11
  have Hle := Lib.hid (Bm.costTo_le cs ls hc20 h11)
  have Hno : Hid (∀ i, i < cs.length → 0 < cs[i]?.getD 0 → ls[i]?.getD 0 = 0 → Value.tuple #[.int .i64 0, .bool false] = costV cs ls) := Lib.hid (fun i h1 h2 h3 => by
    have hn : ¬ Bm.FitN cs ls := fun h => by have := h i h1 h2; omega
    unfold costV
    rw [if_neg hn, decide_eq_false hn]
    rfl)
  have Hyes : Hid (Bm.FitN cs ls → Value.tuple #[.int .i64 (Bm.costN cs ls : Int), .bool true] = costV cs ls) := Lib.hid (fun h => by
    unfold costV
    rw [if_pos h, decide_eq_true h])
  clear hr hs hc20 h11
  go_enter Try.func12, Try.ntmps12
  go_wp2
  go_loopw [6, 7] (fun n i wr => ∃ k : Nat, k ≤ cs.length ∧ i = .int .i64 (k : Int) ∧ n = .int .i64 (Bm.costTo cs ls k : Int) ∧ Hid (∀ i, i < k → 0 < cs[i]?.getD 0 → 0 < ls[i]?.getD 0) ∧ ∃ m, wr = w.drewN m) (fun _ i _ => cs.length - (intOf i).toNat)
  case atStart => exact ⟨0, by omega, rfl, rfl, Lib.hid (fun i h => by omega), 0, rfl⟩
  case round =>
    obtain ⟨k, hk, rfl, rfl, hfit, m, rfl⟩ := hrel
    by_cases hkl : k < cs.length
    · obtain ⟨g, off, rfl, hc⟩ := reads_i9 Hr.out (by omega)
      obtain ⟨g2, off2, rfl, hc2⟩ := reads_i9 Hs.out (by omega)
      have hkl2 : k < ls.length := by omega
      have c0 := hc k hkl
      have c1 := hc2 k hkl2
      have hx := H20.out cs[k] (List.getElem_mem hkl)
      have hy := H11.out ls[k] (List.getElem_mem hkl2)
      have gx : cs[k]?.getD 0 = cs[k] := by rw [List.getElem?_eq_getElem hkl, Option.getD_some]
      have gy : ls[k]?.getD 0 = ls[k] := by rw [List.getElem?_eq_getElem hkl2, Option.getD_some]
      have hst := Bm.costTo_succ cs ls k
      have hle := Hle.out k
      have hno := Hno.out k hkl
      have hfit2 : (0 < cs[k] → 0 < ls[k]) → ∀ i, i < k + 1 → 0 < cs[i]?.getD 0 → 0 < ls[i]?.getD 0 := fun h i hi h1 => by
        by_cases e : i = k
        · subst e; rw [gx] at h1; rw [gy]; exact h h1
        · exact hfit.out i (by omega) h1
      rw [gx, gy] at hst hno
      have Hst := Lib.hid hst
      have Hn := Lib.hid hno
      have Hf2 := Lib.hid hfit2
      clear hc hc2 hst hno hfit2 gx gy hfit
      generalize Bm.costTo cs ls k = S at *
      generalize cs[k] = x at *
      generalize ls[k] = y at *
      by_cases h0 : 0 < x ∧ y = 0
      · obtain ⟨h1, rfl⟩ := h0
        have d1 : decide ((0 : Int) < (x : Int)) = true := decide_eq_true (by omega)
        have Hv := Lib.hid (Hn.out h1 rfl)
        clear Hn Hf2 Hst Hno Hyes
        go_wp2
        go_ret2
        exact ⟨congrArg Ending.returned Hv.out, _, rfl⟩
      · have Hf3 := Lib.hid (Hf2.out (fun h => by omega))
        have hxy : (x : Int) * (y : Int) = ((x * y : Nat) : Int) := by simp
        have hxyb : x * y ≤ 1048576 * 11 := Nat.mul_le_mul hx hy
        have hm0 : 0 ≤ (x : Int) * (y : Int) := by rw [hxy]; omega
        have hm1 : (x : Int) * (y : Int) ≤ 11534336 := by rw [hxy]; omega
        have Hst2 : Hid (((Bm.costTo cs ls (k + 1) : Nat) : Int) = (S : Int) + (x : Int) * (y : Int)) := Lib.hid (by rw [Hst.out, hxy]; omega)
        clear hxy hxyb Hst Hn Hf2 Hno Hyes
        by_cases h1 : 0 < x
        · have d1 : decide ((0 : Int) < (x : Int)) = true := decide_eq_true (by omega)
          have d2 : ((y : Int) == 0) = false := by rw [beq_eq_false_iff_ne]; omega
          have hw1 : IntKind.i64.wrap ((x : Int) * (y : Int)) = (x : Int) * (y : Int) := IntWalk.i64_in _ (by omega)
          have hw2 : IntKind.i64.wrap ((S : Int) + (x : Int) * (y : Int)) = (S : Int) + (x : Int) * (y : Int) := IntWalk.i64_in _ (by omega)
          clear h0
          go_wp2_with fail
          go_quiet (fail)
          clear hw1 hw2
          go_wp2
          go_roundw
          case rel => exact ⟨k + 1, by omega, by go_num, by rw [Hst2.out], Hf3, _, rfl⟩
          case measure => simp [intOf]; omega
        · have d1 : decide ((0 : Int) < (x : Int)) = false := decide_eq_false (by omega)
          have hw1 : IntKind.i64.wrap ((x : Int) * (y : Int)) = (x : Int) * (y : Int) := IntWalk.i64_in _ (by omega)
          have hw2 : IntKind.i64.wrap ((S : Int) + (x : Int) * (y : Int)) = (S : Int) + (x : Int) * (y : Int) := IntWalk.i64_in _ (by omega)
          clear h0
          go_wp2_with fail
          go_quiet (fail)
          clear hw1 hw2
          go_wp2
          go_roundw
          case rel => exact ⟨k + 1, by omega, by go_num, by rw [Hst2.out], Hf3, _, rfl⟩
          case measure => simp [intOf]; omega
    · obtain rfl : k = cs.length := by omega
      rw [Bm.costTo_all]
      have Hv := Lib.hid (Hyes.out hfit.out)
      clear Hyes Hno hfit Hr Hs
      generalize Bm.costN cs ls = S at *
      go_wp2
      go_ret2
      exact ⟨congrArg Ending.returned Hv.out, _, rfl⟩
end Go.Proofs.Ytmcobnbahkoopaa

namespace Go.Proofs.Ytmcobnbahkoopaa
open Go.RowKit
instance (l : List Int) : Decidable (Bm.Right l) := by unfold Bm.Right; exact inferInstance
/-- What the calls of layer 9 answer. -/
structure HuffOk (D : List Int → Prop) : Prop where
  lens : ∀ (w : World) (A : Option Addr) (c : Nat) (l : List Int), l.length ≤ maxLen → (∀ x ∈ l, Bm.IntOk x) → Reads w A (i64z l) → Bm.Right l → D l →
    Calls Try.prog 8 #[.slice A l.length c] w fun e w' => ∃ B d ls, e = .returned (.tuple #[.slice B l.length d, .bool true]) ∧ Reads w' B (i64s ls) ∧ Bm.GoodN (l.map Int.toNat) ls ∧ Below w.heap.size w w'
  noLens : ∀ (w : World) (A : Option Addr) (c : Nat) (l : List Int), l.length ≤ maxLen → (∀ x ∈ l, Bm.IntOk x) → Reads w A (i64z l) → ¬ Bm.Right l →
    Calls Try.prog 8 #[.slice A l.length c] w fun e w' => ∃ B d, e = .returned (.tuple #[.slice B 0 d, .bool false]) ∧ Below w.heap.size w w'
  whole : ∀ (w : World) (A : Option Addr) (c : Nat) (l : List Int), l.length ≤ maxLen → (∀ x ∈ l, Bm.IntOk x) → Reads w A (i64z l) →
    Calls Try.prog 17 #[.slice A l.length c] w fun e w' => e = .returned (.bool (decide (Bm.WholeI l))) ∧ Below w.heap.size w w'
  codes : ∀ (w : World) (A : Option Addr) (c : Nat) (l : List Int), l.length ≤ maxLen → (∀ x ∈ l, Bm.IntOk x) → Reads w A (i64z l) → Bm.WholeI l →
    Calls Try.prog 16 #[.slice A l.length c] w fun e w' => ∃ B d, e = .returned (.tuple #[.slice B l.length d, .bool true]) ∧ Reads w' B (i64s (Bm.codesN (l.map Int.toNat))) ∧ Below w.heap.size w w'
  noCodes : ∀ (w : World) (A : Option Addr) (c : Nat) (l : List Int), l.length ≤ maxLen → (∀ x ∈ l, Bm.IntOk x) → Reads w A (i64z l) → ¬ Bm.WholeI l →
    Calls Try.prog 16 #[.slice A l.length c] w fun e w' => ∃ B d, e = .returned (.tuple #[.slice B 0 d, .bool false]) ∧ Below w.heap.size w w'
  cost : ∀ (w : World) (A B : Option Addr) (c d : Nat) (cs ls : List Int), cs.length ≤ maxLen → ls.length ≤ maxLen → (∀ x ∈ cs, Bm.IntOk x) → (∀ x ∈ ls, Bm.IntOk x) → Reads w A (i64z cs) → Reads w B (i64z ls) →
    Calls Try.prog 14 #[.slice A cs.length c, .slice B ls.length d] w fun e w' => e = .returned (if Bm.Right cs ∧ cs.length ≤ ls.length ∧ Bm.LenR ls then costV (cs.map Int.toNat) (ls.map Int.toNat) else .tuple #[.int .i64 0, .bool false]) ∧ Below w.heap.size w w'
  best : ∀ (w : World) (A : Option Addr) (c : Nat) (l : List Int), l.length ≤ maxLen → (∀ x ∈ l, Bm.IntOk x) → Reads w A (i64z l) →
    Calls Try.prog 10 #[.slice A l.length c] w fun e w' => e = .returned (.int .i64 ((if Bm.Right l then Bm.bestN (l.map Int.toNat) else 0 : Nat) : Int)) ∧ Below w.heap.size w w'
end Go.Proofs.Ytmcobnbahkoopaa

namespace Go.Proofs.Ytmcobnbahkoopaa
open Go.RowKit

theorem int_ok_nat (l : List Nat) (h : ∀ x ∈ l, x ≤ 1048576) : ∀ x ∈ l.map (fun n : Nat => (n : Int)), Bm.IntOk x := fun x hx => by
  obtain ⟨y, hy, rfl⟩ := List.mem_map.1 hx
  have := h y hy
  unfold Bm.IntOk
  omega
set_option maxHeartbeats 1000000 in
set_option maxRecDepth 100000 in
theorem uawake_of {D : List Int → Prop} (hH : HuffOk D) (hD : D [5, 2, 1]) (w : World) : Calls Try.prog 7 #[] w fun e w' => e = .returned (.bool true) ∧ Below w.heap.size w w' := by
  have H1 : Hid (∀ W : World, Calls Try.prog 8 #[.slice (some ⟨W.heap.size, 0, none⟩) 3 3] (W.alloc (.cells #[.int .i64 5, .int .i64 2, .int .i64 1] 3)) fun e w' => ∃ g off d, e = .returned (.tuple #[.slice (some ⟨g, off, none⟩) 3 d, .bool true]) ∧ Reads w' (some ⟨g, off, none⟩) (i64s [1, 2, 2]) ∧ Below W.heap.size W w') := Lib.hid (fun W => by
    have hal := (Below.refl W.heap.size W).alloc (Nat.le_refl _) (.cells #[.int .i64 5, .int .i64 2, .int .i64 1] 3)
    have h := hH.lens _ (some ⟨W.heap.size, 0, none⟩) 3 [5, 2, 1] (by unfold maxLen; decide) (by simp [Bm.IntOk]) (reads_new W [5, 2, 1]) (by decide) hD
    refine h.mono ?_
    rintro e w' ⟨B, d, ls, rfl, hr, hg, hb⟩
    have hl : ls = [1, 2, 2] := Bm.good_521 ls hg
    subst hl
    obtain ⟨g, off, rfl, _⟩ := hr (by simp [i64s])
    exact ⟨g, off, d, rfl, hr, hal.trans (hb.mono hal.size)⟩)
  have H2 : Hid (∀ (W : World) g off d, Reads W (some ⟨g, off, none⟩) (i64s [1, 2, 2]) → Calls Try.prog 16 #[.slice (some ⟨g, off, none⟩) 3 d] W fun e w' => ∃ g2 off2 d2, e = .returned (.tuple #[.slice (some ⟨g2, off2, none⟩) 3 d2, .bool true]) ∧ (w'.cell? ⟨g2, off2, none⟩ = some (.int .i64 0) ∧ w'.cell? ⟨g2, off2 + 1, none⟩ = some (.int .i64 2) ∧ w'.cell? ⟨g2, off2 + 2, none⟩ = some (.int .i64 3)) ∧ Below W.heap.size W w') := Lib.hid (fun W g off d hr => by
    refine (hH.codes W (some ⟨g, off, none⟩) d [1, 2, 2] (by unfold maxLen; decide) (by simp [Bm.IntOk]) hr Bm.whole_122).mono ?_
    rintro e w' ⟨B, d2, rfl, hr2, hb⟩
    rw [show ([1, 2, 2] : List Int).map Int.toNat = [1, 2, 2] by rfl, Bm.codes_122] at hr2
    obtain ⟨g2, off2, rfl, hc⟩ := hr2 (by simp [i64s])
    exact ⟨g2, off2, d2, rfl, ⟨hc 0 (by simp [i64s]), hc 1 (by simp [i64s]), hc 2 (by simp [i64s])⟩, hb⟩)
  clear hH hD
  go_enter Try.func7, Try.ntmps7
  go_wp2_with fail
  refine (H1.out w).mono ?_
  rintro e w1 ⟨g, off, d, rfl, hr1, hb1⟩
  have Hb1 := Lib.hid hb1
  have Hr1 := Lib.hid hr1
  clear hb1 hr1
  go_wp2_with fail
  refine (H2.out w1 g off d Hr1.out).mono ?_
  rintro e w2 ⟨g2, off2, d2, rfl, ⟨c0, c1, c2⟩, hb2⟩
  have Hb2 := Lib.hid (Hb1.out.trans (hb2.mono Hb1.out.size))
  obtain ⟨k0, k1, k2⟩ : w2.cell? ⟨g, off, none⟩ = some (.int .i64 1) ∧ w2.cell? ⟨g, off + 1, none⟩ = some (.int .i64 2) ∧ w2.cell? ⟨g, off + 2, none⟩ = some (.int .i64 2) := by
    obtain ⟨g', off', e, hc⟩ := reads_on Hr1.out hb2 (by simp [i64s])
    injection e with e
    injection e with e1 e2
    subst e1 e2
    exact ⟨hc 0 (by simp [i64s]), hc 1 (by simp [i64s]), hc 2 (by simp [i64s])⟩
  clear hb2 Hb1 Hr1 H1 H2
  go_wp2
  go_ret
  exact ⟨rfl, Hb2.out⟩
end Go.Proofs.Ytmcobnbahkoopaa

namespace Go.Proofs.Ytmcobnbahkoopaa
open Go.RowKit
set_option maxHeartbeats 1000000 in
set_option maxRecDepth 100000 in
theorem hright_any (A : Option Addr) (c : Nat) (l : List Int) (r : Bool) (w : World) (hl : l.length ≤ 1000000000) (hres : r = true ↔ Bm.Right l) (hr : Reads w A (i64z l)) :
    Calls Try.prog 9 #[.slice A l.length c] w fun e w' => e = .returned (.bool r) ∧ w = w' := by
  have Hr := Lib.hid hr
  have Hres := Lib.hid hres
  have Hno : Hid (¬ Bm.Right l → false = r) := Lib.hid (fun h => by cases r with | false => rfl | true => exact absurd (hres.1 rfl) h)
  clear hr hres
  go_enter Try.func9, Try.ntmps9
  go_wp2
  go_loop [3, 4] (fun b i => ∃ (k : Nat) (q : Bool), k ≤ l.length ∧ i = .int .i64 (k : Int) ∧ b = .bool q ∧ Hid (q = true ↔ ∃ x ∈ l.take k, 0 < x) ∧ Hid (∀ x ∈ l.take k, 0 ≤ x ∧ x ≤ 1048576)) (fun _ i => l.length - (intOf i).toNat)
  case atStart => exact ⟨0, false, by omega, rfl, rfl, Lib.hid (by simp), Lib.hid (by simp)⟩
  case round =>
    obtain ⟨k, q, hk, rfl, rfl, hq, hall⟩ := hrel
    by_cases hkl : k < l.length
    · obtain ⟨g, off, rfl, hc⟩ := reads_iz Hr.out (by omega)
      have c0 := hc k hkl
      have Ha := Lib.hid (Bm.all_take9 (fun x => 0 ≤ x ∧ x ≤ 1048576) l k hkl hall.out)
      have He := Lib.hid (Bm.ex_take9 (fun x => 0 < x) l k hkl)
      have Hm := Lib.hid (List.getElem_mem hkl)
      clear hc hall
      generalize l[k] = z at c0 Ha He Hm
      by_cases hz : z < 0
      · have Hf := Lib.hid (Hno.out (fun h => by have := (h.2.1 z Hm.out).1; omega))
        clear hq
        go_wp2
        go_ret
        exact ⟨congrArg (fun x => Ending.returned (Value.bool x)) Hf.out, rfl⟩
      by_cases hz2 : 1048576 < z
      · have Hf := Lib.hid (Hno.out (fun h => by have := (h.2.1 z Hm.out).2; omega))
        clear hq
        go_wp2
        go_ret
        exact ⟨congrArg (fun x => Ending.returned (Value.bool x)) Hf.out, rfl⟩
      have Hq2 : Hid ((q || decide (0 < z)) = true ↔ ∃ x ∈ l.take (k + 1), 0 < x) := Lib.hid (by
        rw [He.out, ← hq.out]
        simp)
      have Hall2 := Lib.hid (Ha.out (by omega))
      clear Ha He hq
      cases q with
      | true =>
        go_wp2
        go_round
        case rel => exact ⟨k + 1, true, by omega, by go_num, rfl, Lib.hid (by have := Hq2.out; simpa using this), Hall2⟩
        case measure => simp [intOf]; omega
      | false =>
        by_cases hz3 : 0 < z
        · have hd : decide (0 < z) = true := decide_eq_true hz3
          go_wp2
          go_round
          case rel => exact ⟨k + 1, true, by omega, by go_num, rfl, Lib.hid (by have := Hq2.out; simpa [hz3] using this), Hall2⟩
          case measure => simp [intOf]; omega
        · have hd : decide (0 < z) = false := decide_eq_false hz3
          go_wp2
          go_round
          case rel => exact ⟨k + 1, false, by omega, by go_num, rfl, Lib.hid (by have := Hq2.out; simpa [hz3] using this), Hall2⟩
          case measure => simp [intOf]; omega
    · obtain rfl : k = l.length := by omega
      have hfin : (q && decide (l.length ≤ 256)) = r := by
        have h1 := hq.out
        have h2 := hall.out
        rw [List.take_length] at h1 h2
        rw [Bool.eq_iff_iff, Hres.out, Bool.and_eq_true, h1, decide_eq_true_eq]
        exact ⟨fun ⟨a, b⟩ => ⟨b, h2, a⟩, fun h => ⟨h.2.2, h.1⟩⟩
      have Hfin := Lib.hid hfin
      clear hfin hq hall Hres Hno Hr
      generalize l.length = n at *
      cases q with
      | true =>
        go_wp2
        go_ret
        exact ⟨congrArg (fun x => Ending.returned (Value.bool x)) (dec256 n r (by have := Hfin.out; rwa [Bool.true_and] at this)), rfl⟩
      | false =>
        go_wp2
        go_ret
        exact ⟨congrArg (fun x => Ending.returned (Value.bool x)) (by have := Hfin.out; simpa using this), rfl⟩
end Go.Proofs.Ytmcobnbahkoopaa

namespace Go.Proofs.Ytmcobnbahkoopaa
open Go.RowKit

set_option maxHeartbeats 400000 in
set_option maxRecDepth 100000 in
theorem ucosts_long {D : List Int → Prop} (hH : HuffOk D) (hD : D [5, 2, 1]) (A B : Option Addr) (n c m d : Nat) (w : World) (h : 260 < n) (hn : n ≤ 9223372036854775807) :
    Calls Try.prog 6 #[.slice A n c, .slice B m d] w fun e w' => e = .returned (.bool true) ∧ Below w.heap.size w w' := by
  have Haw := Lib.hid (uawake_of hH hD)
  clear hH hD
  go_enter Try.func6, Try.ntmps6
  go_wp2_with fail
  refine (Haw.out w).mono ?_
  rintro e w1 ⟨rfl, hb1⟩
  have Hb1 := Lib.hid hb1
  clear hb1
  go_wp2
  go_ret
  exact ⟨rfl, Hb1.out⟩

set_option maxHeartbeats 400000 in
set_option maxRecDepth 100000 in
theorem ucosts_long2 {D : List Int → Prop} (hH : HuffOk D) (hD : D [5, 2, 1]) (A B : Option Addr) (n c m d : Nat) (w : World) (h0 : n ≤ 260) (h : 260 < m) (hn : m ≤ 9223372036854775807) :
    Calls Try.prog 6 #[.slice A n c, .slice B m d] w fun e w' => e = .returned (.bool true) ∧ Below w.heap.size w w' := by
  have Haw := Lib.hid (uawake_of hH hD)
  clear hH hD
  go_enter Try.func6, Try.ntmps6
  go_wp2_with fail
  refine (Haw.out w).mono ?_
  rintro e w1 ⟨rfl, hb1⟩
  have Hb1 := Lib.hid hb1
  clear hb1
  go_wp2
  go_ret
  exact ⟨rfl, Hb1.out⟩

theorem right_nat (l : List Int) (h : Bm.Right l) : l = (l.map Int.toNat).map (fun n : Nat => (n : Int)) ∧ (∀ x ∈ l.map Int.toNat, x ≤ 1048576) ∧ (l.map Int.toNat).length = l.length := by
  refine ⟨?_, ?_, by simp⟩
  · rw [List.map_map]
    conv => lhs; rw [← List.map_id l]
    apply List.map_congr_left
    intro x hx
    have := h.2.1 x hx
    simp only [Function.comp_apply, id]
    omega
  · intro x hx
    obtain ⟨y, hy, rfl⟩ := List.mem_map.1 hx
    have := h.2.1 y hy
    omega

set_option maxHeartbeats 1000000 in
set_option maxRecDepth 100000 in
theorem ucosts_short {D : List Int → Prop} (hH : HuffOk D) (hD : D [5, 2, 1]) (A B : Option Addr) (c d : Nat) (cs ls : List Int) (w : World) (h1 : cs.length ≤ 260) (h2 : ls.length ≤ 260) (hcok : ∀ x ∈ cs, Bm.IntOk x) (hlok : ∀ x ∈ ls, Bm.IntOk x) (hr : Reads w A (i64z cs)) (hs : Reads w B (i64z ls)) :
    Calls Try.prog 6 #[.slice A cs.length c, .slice B ls.length d] w fun e w' => e = .returned (.bool true) ∧ Below w.heap.size w w' := by
  have Haw := Lib.hid (uawake_of hH hD)
  have hm1 : cs.length ≤ maxLen := by unfold maxLen; omega
  have hm2 : ls.length ≤ maxLen := by unfold maxLen; omega
  have H1 := Lib.hid (fun W (hb : Below w.heap.size w W) => hH.cost W A B c d cs ls hm1 hm2 hcok hlok (reads_on hr hb) (reads_on hs hb))
  have H2 : Hid (∀ W, Below w.heap.size w W → Calls Try.prog 9 #[.slice A cs.length c] W fun e w' => e = .returned (.bool (decide (Bm.Right cs))) ∧ W = w') := Lib.hid (fun W hb => hright_any A c cs _ W (by omega) decide_eq_true_iff (reads_on hr hb))
  have H3 : Hid (∀ W, Below w.heap.size w W → Calls Try.prog 20 #[.slice B ls.length d] W fun e w' => e = .returned (.bool (decide (Bm.LenR ls))) ∧ W = w') := Lib.hid (fun W hb => vright_any B d ls W (by omega) (reads_on hs hb))
  clear hH hD
  by_cases hR : Bm.Right cs
  · rw [decide_eq_true hR] at H2
    by_cases hL : cs.length ≤ ls.length
    · by_cases hq : Bm.LenR ls
      · rw [decide_eq_true hq] at H3
        rw [if_pos ⟨hR, hL, hq⟩] at H1
        obtain ⟨e1, h20, k1⟩ := right_nat cs hR
        obtain ⟨e2, h11, k2⟩ := Bm.lenR_nat ls hq
        have H4 : Hid (∀ W, Below w.heap.size w W → Calls Try.prog 12 #[.slice A cs.length c, .slice B ls.length d] W fun e w' => e = .returned (costV (cs.map Int.toNat) (ls.map Int.toNat)) ∧ Below W.heap.size W w') := Lib.hid (fun W hb => by
          have hr2 := reads_on hr hb
          have hs2 := reads_on hs hb
          rw [e1, i64z_nat] at hr2
          rw [e2, i64z_nat] at hs2
          have h3 := vcost_any A B c d (cs.map Int.toNat) (ls.map Int.toNat) W (by omega) (by omega) h20 h11 hr2 hs2
          rw [k1, k2] at h3
          exact h3.mono fun e w' ⟨he, m, hm⟩ => ⟨he, hm ▸ below_drewN (Below.refl _ _) m⟩)
        unfold costV at H1 H4
        clear hR hq hr hs e1 e2 h20 h11 k1 k2 hcok hlok hm1 hm2
        generalize decide (Bm.FitN (cs.map Int.toNat) (ls.map Int.toNat)) = q at *
        generalize (if Bm.FitN (cs.map Int.toNat) (ls.map Int.toNat) then Bm.costN (cs.map Int.toNat) (ls.map Int.toNat) else 0 : Nat) = K at *
        generalize cs.length = n at *
        generalize ls.length = m at *
        go_enter Try.func6, Try.ntmps6
        go_wp2_with fail
        refine (Haw.out w).mono ?_
        rintro e w1 ⟨rfl, hb1⟩
        have Hb1 := Lib.hid hb1
        clear hb1
        go_wp2_with fail
        refine (H1.out w1 Hb1.out).mono ?_
        rintro e w2 ⟨rfl, hb2⟩
        have Hb2 := Lib.hid (Hb1.out.trans (hb2.mono Hb1.out.size))
        clear hb2 Hb1
        go_wp2_with fail
        refine (H2.out w2 Hb2.out).mono ?_
        rintro e w' ⟨rfl, rfl⟩
        go_wp2_with fail
        refine (H3.out w2 Hb2.out).mono ?_
        rintro e w' ⟨rfl, rfl⟩
        go_wp2_with fail
        refine (H4.out w2 Hb2.out).mono ?_
        rintro e w3 ⟨rfl, hb3⟩
        have Hb3 := Lib.hid (Hb2.out.trans (hb3.mono Hb2.out.size))
        clear hb3 Hb2
        cases q
        · go_wp2
          go_ret
          exact ⟨rfl, Hb3.out⟩
        · go_wp2
          go_ret
          exact ⟨rfl, Hb3.out⟩
      · rw [decide_eq_false hq] at H3
        rw [if_neg (fun h => hq h.2.2)] at H1
        clear hR hq hr hs hcok hlok hm1 hm2
        generalize cs.length = n at *
        generalize ls.length = m at *
        go_enter Try.func6, Try.ntmps6
        go_wp2_with fail
        refine (Haw.out w).mono ?_
        rintro e w1 ⟨rfl, hb1⟩
        have Hb1 := Lib.hid hb1
        clear hb1
        go_wp2_with fail
        refine (H1.out w1 Hb1.out).mono ?_
        rintro e w2 ⟨rfl, hb2⟩
        have Hb2 := Lib.hid (Hb1.out.trans (hb2.mono Hb1.out.size))
        clear hb2 Hb1
        go_wp2_with fail
        refine (H2.out w2 Hb2.out).mono ?_
        rintro e w' ⟨rfl, rfl⟩
        go_wp2_with fail
        refine (H3.out w2 Hb2.out).mono ?_
        rintro e w' ⟨rfl, rfl⟩
        go_wp2
        go_ret
        exact ⟨rfl, Hb2.out⟩
    · rw [if_neg (fun h => hL h.2.1)] at H1
      clear hR hr hs hcok hlok hm1 hm2 H3
      generalize cs.length = n at *
      generalize ls.length = m at *
      go_enter Try.func6, Try.ntmps6
      go_wp2_with fail
      refine (Haw.out w).mono ?_
      rintro e w1 ⟨rfl, hb1⟩
      have Hb1 := Lib.hid hb1
      clear hb1
      go_wp2_with fail
      refine (H1.out w1 Hb1.out).mono ?_
      rintro e w2 ⟨rfl, hb2⟩
      have Hb2 := Lib.hid (Hb1.out.trans (hb2.mono Hb1.out.size))
      clear hb2 Hb1
      go_wp2_with fail
      refine (H2.out w2 Hb2.out).mono ?_
      rintro e w' ⟨rfl, rfl⟩
      go_wp2
      go_ret
      exact ⟨rfl, Hb2.out⟩
  · rw [decide_eq_false hR] at H2
    rw [if_neg (fun h => hR h.1)] at H1
    clear hR hr hs hcok hlok hm1 hm2 H3
    generalize cs.length = n at *
    generalize ls.length = m at *
    go_enter Try.func6, Try.ntmps6
    go_wp2_with fail
    refine (Haw.out w).mono ?_
    rintro e w1 ⟨rfl, hb1⟩
    have Hb1 := Lib.hid hb1
    clear hb1
    go_wp2_with fail
    refine (H1.out w1 Hb1.out).mono ?_
    rintro e w2 ⟨rfl, hb2⟩
    have Hb2 := Lib.hid (Hb1.out.trans (hb2.mono Hb1.out.size))
    clear hb2 Hb1
    go_wp2_with fail
    refine (H2.out w2 Hb2.out).mono ?_
    rintro e w' ⟨rfl, rfl⟩
    go_wp2
    go_ret
    exact ⟨rfl, Hb2.out⟩
end Go.Proofs.Ytmcobnbahkoopaa

namespace Go.Proofs.Ytmcobnbahkoopaa
open Go.RowKit

/-- What the reference's Best, Flat answer. -/
structure HuffRef : Prop where
  best : ∀ (w : World) (A : Option Addr) (c : Nat) (cs : List Nat), cs.length ≤ 256 → (∀ x ∈ cs, x ≤ 1048576) → (∃ x ∈ cs, 0 < x) → Reads w A (i64s cs) →
    Calls Try.prog 13 #[.slice A cs.length c] w fun e w' => e = .returned (.int .i64 (Bm.bestN cs : Int)) ∧ Below w.heap.size w w'
  flat : ∀ (w : World) (A : Option Addr) (c : Nat) (cs : List Nat), cs.length ≤ 256 → (∀ x ∈ cs, x ≤ 1048576) → (∃ x ∈ cs, 0 < x) → Reads w A (i64s cs) →
    Calls Try.prog 15 #[.slice A cs.length c] w fun e w' => e = .returned (.int .i64 (Bm.flatN cs : Int)) ∧ Below w.heap.size w w'

set_option maxHeartbeats 400000 in
set_option maxRecDepth 100000 in
theorem ulens_long (hH : HuffOk fun _ => True) (A : Option Addr) (n c : Nat) (w : World) (h : 256 < n) (hn : n ≤ 9223372036854775807) :
    Calls Try.prog 3 #[.slice A n c] w fun e w' => e = .returned (.bool true) ∧ Below w.heap.size w w' := by
  have Haw := Lib.hid (uawake_of hH trivial)
  clear hH
  go_enter Try.func3, Try.ntmps3
  go_wp2_with fail
  refine (Haw.out w).mono ?_
  rintro e w1 ⟨rfl, hb1⟩
  have Hb1 := Lib.hid hb1
  clear hb1
  go_wp2
  go_ret
  exact ⟨rfl, Hb1.out⟩

set_option maxHeartbeats 1000000 in
set_option maxRecDepth 100000 in
theorem ulens_not (hH : HuffOk fun _ => True) (A : Option Addr) (c : Nat) (l : List Int) (w : World) (h : l.length ≤ 256) (hok : ∀ x ∈ l, Bm.IntOk x) (hr : Reads w A (i64z l)) (hR : ¬ Bm.Right l) :
    Calls Try.prog 3 #[.slice A l.length c] w fun e w' => e = .returned (.bool true) ∧ Below w.heap.size w w' := by
  have Haw := Lib.hid (uawake_of hH trivial)
  have hmx : l.length ≤ maxLen := by unfold maxLen; omega
  have H1 : Hid (∀ W, Below w.heap.size w W → Calls Try.prog 8 #[.slice A l.length c] W fun e w' => ∃ B d, e = .returned (.tuple #[.slice B 0 d, .bool false]) ∧ Below W.heap.size W w') := Lib.hid (fun W hb => hH.noLens W A c l hmx hok (reads_on hr hb) hR)
  have H2 : Hid (∀ W, Below w.heap.size w W → Calls Try.prog 9 #[.slice A l.length c] W fun e w' => e = .returned (.bool false) ∧ W = w') := Lib.hid (fun W hb => hright_any A c l false W (by omega) ⟨fun h => (Bool.false_ne_true h).elim, fun h => (hR h).elim⟩ (reads_on hr hb))
  have H3 : Hid (∀ W, Below w.heap.size w W → Calls Try.prog 10 #[.slice A l.length c] W fun e w' => e = .returned (.int .i64 0) ∧ Below W.heap.size W w') := Lib.hid (fun W hb => by
    have h1 := hH.best W A c l hmx hok (reads_on hr hb)
    rw [if_neg hR] at h1
    exact h1)
  clear hH hr hR hok hmx
  generalize l.length = n at *
  go_enter Try.func3, Try.ntmps3
  go_wp2_with fail
  refine (Haw.out w).mono ?_
  rintro e w1 ⟨rfl, hb1⟩
  have Hb1 := Lib.hid hb1
  clear hb1
  go_wp2_with fail
  refine (H1.out w1 Hb1.out).mono ?_
  rintro e w2 ⟨B, d, rfl, hb2⟩
  have Hb2 := Lib.hid (Hb1.out.trans (hb2.mono Hb1.out.size))
  clear hb2 Hb1
  go_wp2_with fail
  refine (H2.out w2 Hb2.out).mono ?_
  rintro e w' ⟨rfl, rfl⟩
  go_wp2_with fail
  refine (H3.out w2 Hb2.out).mono ?_
  rintro e w3 ⟨rfl, hb3⟩
  have Hb3 := Lib.hid (Hb2.out.trans (hb3.mono Hb2.out.size))
  clear hb3 Hb2
  go_wp2
  go_ret
  exact ⟨rfl, Hb3.out⟩

theorem whole_nat (ls : List Nat) (h : Bm.WholeN ls) : Bm.WholeI (ls.map fun n : Nat => (n : Int)) := by
  have e : (ls.map fun n : Nat => (n : Int)).map Int.toNat = ls := by
    rw [List.map_map]
    conv => rhs; rw [← List.map_id ls]
    apply List.map_congr_left
    intro x _
    simp
  refine ⟨⟨by rw [List.length_map]; exact h.1, ?_⟩, by rw [e]; exact h⟩
  intro x hx
  obtain ⟨y, hy, rfl⟩ := List.mem_map.1 hx
  have := h.2.1 y hy
  omega

set_option maxHeartbeats 2000000 in
set_option maxRecDepth 100000 in
theorem ulens_right (hH : HuffOk fun _ => True) (hV : HuffRef) (A : Option Addr) (c : Nat) (l : List Int) (w : World) (h : l.length ≤ 256) (hok : ∀ x ∈ l, Bm.IntOk x) (hr : Reads w A (i64z l)) (hR : Bm.Right l) :
    Calls Try.prog 3 #[.slice A l.length c] w fun e w' => e = .returned (.bool true) ∧ Below w.heap.size w w' := by
  have Haw := Lib.hid (uawake_of hH trivial)
  have hmx : l.length ≤ maxLen := by unfold maxLen; omega
  obtain ⟨e1, h20, elen⟩ := right_nat l hR
  have hex : ∃ x ∈ l.map Int.toNat, 0 < x := by
    obtain ⟨x, hx, h0⟩ := hR.2.2
    exact ⟨x.toNat, List.mem_map_of_mem hx, by omega⟩
  have hrs : Reads w A (i64s (l.map Int.toNat)) := by
    have h1 := hr
    rw [e1, i64z_nat] at h1
    exact h1
  have H1 : Hid (∀ W, Below w.heap.size w W → Calls Try.prog 8 #[.slice A l.length c] W fun e w' => ∃ B d ls, e = .returned (.tuple #[.slice B l.length d, .bool true]) ∧ Reads w' B (i64s ls) ∧ Bm.GoodN (l.map Int.toNat) ls ∧ Below W.heap.size W w') := Lib.hid (fun W hb => hH.lens W A c l hmx hok (reads_on hr hb) hR trivial)
  have H2 : Hid (∀ W, Below w.heap.size w W → Calls Try.prog 9 #[.slice A l.length c] W fun e w' => e = .returned (.bool true) ∧ W = w') := Lib.hid (fun W hb => hright_any A c l true W (by omega) ⟨fun _ => hR, fun _ => rfl⟩ (reads_on hr hb))
  have H3 : Hid (∀ W, Below w.heap.size w W → Calls Try.prog 10 #[.slice A l.length c] W fun e w' => e = .returned (.int .i64 (Bm.bestN (l.map Int.toNat) : Int)) ∧ Below W.heap.size W w') := Lib.hid (fun W hb => by
    have h1 := hH.best W A c l hmx hok (reads_on hr hb)
    rw [if_pos hR] at h1
    exact h1)
  have H4 : Hid (∀ W B d ls, Bm.GoodN (l.map Int.toNat) ls → Below w.heap.size w W → Reads W B (i64s ls) → Calls Try.prog 14 #[.slice A l.length c, .slice B l.length d] W fun e w' => e = .returned (.tuple #[.int .i64 (Bm.costN (l.map Int.toNat) ls : Int), .bool true]) ∧ Below W.heap.size W w') := Lib.hid (fun W B d ls hg hb hs => by
    have hw := whole_nat ls hg.whole
    have el : (ls.map fun n : Nat => (n : Int)).length = l.length := by rw [List.length_map, hg.len, elen]
    have h1 := hH.cost W A B c d l (ls.map fun n : Nat => (n : Int)) hmx (by rw [el]; exact hmx) hok (int_ok_nat ls (fun x hx => by have := hg.whole.2.1 x hx; omega)) (reads_on hr hb) (by rw [i64z_nat]; exact hs)
    rw [if_pos ⟨hR, by rw [el]; exact Nat.le_refl _, hw.1⟩, el] at h1
    have e2 : (ls.map fun n : Nat => (n : Int)).map Int.toNat = ls := by
      rw [List.map_map]
      conv => rhs; rw [← List.map_id ls]
      apply List.map_congr_left
      intro x _
      simp
    unfold costV at h1
    rw [e2, if_pos hg.fit, decide_eq_true hg.fit] at h1
    exact h1)
  have H5 : Hid (∀ W B d ls, Bm.GoodN (l.map Int.toNat) ls → Reads W B (i64s ls) → Calls Try.prog 11 #[.slice B l.length d] W fun e w' => e = .returned (.bool true) ∧ W = w') := Lib.hid (fun W B d ls hg hs => by
    have h1 := vwhole_any B d (ls.map fun n : Nat => (n : Int)) W (by rw [List.length_map, hg.len]; omega) (by rw [i64z_nat]; exact hs)
    rw [List.length_map, hg.len, elen, decide_eq_true (whole_nat ls hg.whole)] at h1
    exact h1)
  have H6 : Hid (∀ W B d ls, Bm.GoodN (l.map Int.toNat) ls → Below w.heap.size w W → Reads W B (i64s ls) → Calls Try.prog 12 #[.slice A l.length c, .slice B l.length d] W fun e w' => e = .returned (.tuple #[.int .i64 (Bm.costN (l.map Int.toNat) ls : Int), .bool true]) ∧ Below W.heap.size W w') := Lib.hid (fun W B d ls hg hb hs => by
    have h1 := vcost_any A B c d (l.map Int.toNat) ls W (by rw [hg.len]; exact Nat.le_refl _) (by rw [hg.len]; omega) h20 hg.whole.2.1 (reads_on hrs hb) hs
    unfold costV at h1
    rw [if_pos hg.fit, decide_eq_true hg.fit, hg.len, elen] at h1
    exact h1.mono fun e w' ⟨he, m, hm⟩ => ⟨he, hm ▸ below_drewN (Below.refl _ _) m⟩)
  have H7 : Hid (∀ W, Below w.heap.size w W → Calls Try.prog 13 #[.slice A l.length c] W fun e w' => e = .returned (.int .i64 (Bm.bestN (l.map Int.toNat) : Int)) ∧ Below W.heap.size W w') := Lib.hid (fun W hb => by
    have h1 := hV.best W A c (l.map Int.toNat) (by omega) h20 hex (reads_on hrs hb)
    rw [elen] at h1
    exact h1)
  have H8 : Hid (∀ W, Below w.heap.size w W → Calls Try.prog 15 #[.slice A l.length c] W fun e w' => e = .returned (.int .i64 (Bm.flatN (l.map Int.toNat) : Int)) ∧ Below W.heap.size W w') := Lib.hid (fun W hb => by
    have h1 := hV.flat W A c (l.map Int.toNat) (by omega) h20 hex (reads_on hrs hb)
    rw [elen] at h1
    exact h1)
  have Hr := Lib.hid hrs
  have hn0 : 0 < l.length := by
    obtain ⟨x, hx, _⟩ := hR.2.2
    exact List.length_pos_of_mem hx
  clear hH hV hr hR hok hmx hex hrs e1 h20
  generalize l.map Int.toNat = cs at *
  generalize l.length = n at *
  go_enter Try.func3, Try.ntmps3
  go_wp2_with fail
  refine (Haw.out w).mono ?_
  rintro e w1 ⟨rfl, hb1⟩
  have Hb1 := Lib.hid hb1
  clear hb1
  go_wp2_with fail
  refine (H1.out w1 Hb1.out).mono ?_
  rintro e w2 ⟨B, d, ls, rfl, hr2, hg2, hb2⟩
  have Hb2 := Lib.hid (Hb1.out.trans (hb2.mono Hb1.out.size))
  have Hr2 := Lib.hid hr2
  have Hg := Lib.hid hg2
  have Hle := Lib.hid (Bm.best_le cs ls hg2)
  have hll : ls.length = n := by rw [hg2.len, elen]
  clear hb2 Hb1 hr2 hg2 H1
  go_wp2_with fail
  refine (H2.out w2 Hb2.out).mono ?_
  rintro e w' ⟨rfl, rfl⟩
  go_wp2_with fail
  refine (H5.out w2 B d ls Hg.out Hr2.out).mono ?_
  rintro e w' ⟨rfl, rfl⟩
  obtain ⟨g, off, hA, hc⟩ := reads_i9 (reads_on Hr.out Hb2.out) (by omega)
  obtain ⟨g2, off2, hB, hc2⟩ := reads_i9 Hr2.out (by omega)
  subst hA hB
  have Hc := Lib.hid hc
  have Hc2 := Lib.hid hc2
  clear hc hc2
  go_wp2
  go_loop [5, 6, 7, 49] (fun m _ _ i => ∃ (q : Nat) (M : Int), q ≤ n ∧ i = .int .i64 (q : Int) ∧ m = .int .i64 M) (fun _ _ _ i => n - (intOf i).toNat)
  case atStart => exact ⟨0, 0, by omega, rfl, rfl⟩
  case round =>
    obtain ⟨q, M, hq, rfl, rfl⟩ := hrel
    by_cases hql : q < n
    · have c0 := Hc.out q (by omega)
      have c1 := Hc2.out q (by omega)
      have hj := Hg.out.just q (by omega)
      rw [List.getElem?_eq_getElem (by omega : q < ls.length), List.getElem?_eq_getElem (by omega : q < cs.length), Option.getD_some, Option.getD_some] at hj
      generalize ls[q] = a at *
      generalize cs[q] = x at *
      clear Hc Hc2 H3 H4 H5 H6 H7 H8 Haw H2 Hle
      by_cases h0 : 0 < a
      · have d1 : decide (0 < a) = true := decide_eq_true h0
        have d2 : decide (0 < x) = true := decide_eq_true (hj.1 h0)
        clear hj
        go_wp2
        go_round
        case rel => exact ⟨q + 1, _, by omega, by go_num, rfl⟩
        case measure => simp [intOf]; omega
      · have d1 : decide (0 < a) = false := decide_eq_false h0
        have d2 : decide (0 < x) = false := decide_eq_false (fun e => h0 (hj.2 e))
        clear hj
        go_wp2
        go_round
        case rel => exact ⟨q + 1, _, by omega, by go_num, rfl⟩
        case measure => simp [intOf]; omega
    · obtain rfl : q = n := by omega
      clear Hc Hc2 H5 Haw H2
      have H4' := Lib.hid (fun W => H4.out W (some ⟨g2, off2, none⟩) d ls Hg.out)
      have H6' := Lib.hid (fun W => H6.out W (some ⟨g2, off2, none⟩) d ls Hg.out)
      have hle := Hle.out
      have hmax := Hg.out.cost
      clear H4 H6 Hle
      generalize Bm.costN cs ls = K at *
      generalize Bm.bestN cs = P at *
      generalize Bm.flatN cs = F at *
      go_wp2_with fail
      refine (H6'.out w2 Hb2.out Hr2.out).mono ?_
      rintro e w3 ⟨rfl, hb3⟩
      have Hr3 := Lib.hid (reads_on Hr2.out hb3)
      have Hb3 := Lib.hid (Hb2.out.trans (hb3.mono Hb2.out.size))
      clear hb3 Hb2 Hr2 H6'
      go_wp2_with fail
      refine (H7.out w3 Hb3.out).mono ?_
      rintro e w4 ⟨rfl, hb4⟩
      have Hr4 := Lib.hid (reads_on Hr3.out hb4)
      have Hb4 := Lib.hid (Hb3.out.trans (hb4.mono Hb3.out.size))
      clear hb4 Hb3 Hr3 H7
      go_wp2_with fail
      refine (H4'.out w4 Hb4.out Hr4.out).mono ?_
      rintro e w5 ⟨rfl, hb5⟩
      have Hb5 := Lib.hid (Hb4.out.trans (hb5.mono Hb4.out.size))
      clear hb5 Hb4 Hr4 H4'
      go_wp2_with fail
      refine (H3.out w5 Hb5.out).mono ?_
      rintro e w6 ⟨rfl, hb6⟩
      have Hb6 := Lib.hid (Hb5.out.trans (hb6.mono Hb5.out.size))
      clear hb6 Hb5 H3
      have d1 : decide (P ≤ K) = true := decide_eq_true hle
      go_wp2_with fail
      refine (H8.out w6 Hb6.out).mono ?_
      rintro e w7 ⟨rfl, hb7⟩
      have Hb7 := Lib.hid (Hb6.out.trans (hb7.mono Hb6.out.size))
      clear hb7 Hb6 H8
      have hm : (K : Int) ≤ max (F : Int) (P : Int) := by omega
      have d2 : decide ((K : Int) ≤ max (F : Int) (P : Int)) = true := decide_eq_true hm
      clear hmax
      go_wp2
      go_ret
      exact ⟨by first | rfl | simp [hm], Hb7.out⟩
end Go.Proofs.Ytmcobnbahkoopaa

namespace Go.Proofs.Ytmcobnbahkoopaa
open Go.RowKit

/-- Block g, the call's own, holds the numbers from place off on; cap of them have room. -/
def Seg (w : World) (base g off cap : Nat) (l : List Nat) : Prop := base ≤ g ∧ cap ≤ maxLen ∧ ∃ pre post : List Value, pre.length = off ∧ l.length + post.length = cap ∧ Row w g 3 (pre ++ (i64s l ++ post))
section
variable {w w' : World} {base g off cap : Nat} {l : List Nat}
theorem Seg.lt (h : Seg w base g off cap l) : g < w.heap.size := by
  obtain ⟨_, _, _, _, _, _, h⟩ := h
  exact h.lt
theorem Seg.fits (h : Seg w base g off cap l) : l.length ≤ cap ∧ cap ≤ maxLen := by
  obtain ⟨_, h2, _, _, _, h4, _⟩ := h
  exact ⟨by omega, h2⟩
theorem Seg.keep (h : Seg w base g off cap l) (hb : w'.heap[g]? = w.heap[g]?) : Seg w' base g off cap l := by
  obtain ⟨h1, h2, pre, post, h3, h4, h5⟩ := h
  exact ⟨h1, h2, pre, post, h3, h4, h5.keep hb⟩
theorem Seg.alloc (h : Seg w base g off cap l) (o : Obj) : Seg (w.alloc o) base g off cap l := h.keep (Below.heap_alloc w o g h.lt)
theorem Seg.cell (h : Seg w base g off cap l) (j : Nat) (hj : j < l.length) : w.cell? ⟨g, off + j, none⟩ = some (.int .i64 (l[j] : Int)) := by
  obtain ⟨_, _, pre, post, rfl, _, h5⟩ := h
  rw [h5.cell, List.getElem?_append_right (Nat.le_add_right _ _), Nat.add_sub_cancel_left, List.getElem?_append_left (by rw [i64s_length]; exact hj), i64s_get? l j hj]
theorem Seg.free (h : Seg w base g off cap l) (i : Nat) : w.frozen? ⟨g, i, none⟩ = false := by
  obtain ⟨_, _, _, _, _, _, h5⟩ := h
  exact h5.free i
theorem Seg.set (h : Seg w base g off cap l) (j : Nat) (hj : j < l.length) (z : Nat) : Seg (w.setCell ⟨g, off + j, none⟩ (.int .i64 (z : Int))) base g off cap (l.set j z) := by
  obtain ⟨h1, h2, pre, post, rfl, h4, h5⟩ := h
  refine ⟨h1, h2, pre, post, rfl, by rw [List.length_set]; exact h4, ?_⟩
  have h6 := h5.set_ (pre.length + j) (.int .i64 (z : Int))
  rw [List.set_append_right _ _ (Nat.le_add_right _ _), Nat.add_sub_cancel_left, List.set_append_left _ _ (by rw [i64s_length]; exact hj)] at h6
  rw [show i64s (l.set j z) = (i64s l).set j (.int .i64 (z : Int)) by simp [i64s, List.map_set]]
  exact h6
theorem Seg.below (h : Seg w base g off cap l) (hb : Below w.heap.size w w') : Seg w' base g off cap l := h.keep (hb.block g h.lt)
theorem Seg.cut {a b : Nat} (h : Seg w base g off cap (a :: b :: l)) : 2 ≤ cap ∧ Seg w base g (off + 2) (cap - 2) l := by
  obtain ⟨h1, h2, pre, post, rfl, h4, h5⟩ := h
  rw [List.length_cons, List.length_cons] at h4
  refine ⟨by omega, h1, by omega, pre ++ i64s [a, b], post, by simp [i64s], by omega, ?_⟩
  have e : pre ++ (i64s (a :: b :: l) ++ post) = pre ++ i64s [a, b] ++ (i64s l ++ post) := by simp [i64s]
  rw [← e]
  exact h5
theorem Seg.room (h : Seg w base g off cap l) (z : Nat) (hr : l.length + 1 ≤ cap) : Seg (w.setCells g (off + l.length) [.int .i64 (z : Int)]) base g off cap (l ++ [z]) := by
  obtain ⟨h1, h2, pre, post, rfl, h4, h5⟩ := h
  match post, h4, h5 with
  | [], h4, _ => simp at h4; omega
  | y :: post, h4, h5 =>
    rw [List.length_cons] at h4
    refine ⟨h1, h2, pre, post, rfl, by rw [List.length_append]; simp; omega, ?_⟩
    have h6 := h5.set_ (pre.length + l.length) (.int .i64 (z : Int))
    rw [List.set_append_right _ _ (Nat.le_add_right _ _), Nat.add_sub_cancel_left, List.set_append_right _ _ (by rw [i64s_length]; exact Nat.le_refl _), i64s_length, Nat.sub_self, List.set_cons_zero] at h6
    have e : pre ++ (i64s (l ++ [z]) ++ post) = pre ++ (i64s l ++ Value.int .i64 (z : Int) :: post) := by simp [i64s]
    rw [e]
    simpa [World.setCells] using h6
/-- Where there is room for one more, there is a cell that may be written. -/
theorem Seg.spare (h : Seg w base g off cap l) (hr : l.length + 1 ≤ cap) : (w.cell? ⟨g, off + l.length, none⟩).isSome = true := by
  obtain ⟨h1, h2, pre, post, rfl, h4, h5⟩ := h
  rw [h5.cell, List.getElem?_append_right (Nat.le_add_right _ _), Nat.add_sub_cancel_left, List.getElem?_append_right (by rw [i64s_length]; exact Nat.le_refl _), i64s_length, Nat.sub_self]
  match post, h4 with
  | [], h4 => simp at h4; omega
  | y :: post, _ => rfl
end
theorem seg_of_own {w : World} {base n : Nat} {v : Value} {l : List Nat} (h : w.ownsRow base 3 1 v n (i64s l)) (hn : 0 < n) : l.length = n ∧ ∃ g cap, v = .slice (some ⟨g, 0, none⟩) n cap ∧ Seg w base g 0 cap l := by
  have hl : l.length = n := by have := h.1; rw [i64s_length, Nat.mul_one] at this; exact this
  rcases h.2 with ⟨_, h0⟩ | ⟨g, cap, cur, rfl, hb, hg, hnc, hcm, hcs, ht⟩
  · omega
  · rw [Nat.mul_one] at ht hcs
    refine ⟨hl, g, cap, rfl, hb, hcm, [], cur.toList.drop n, rfl, by have hcl : cur.toList.length = cur.size := Array.length_toList; rw [List.length_drop]; omega, ?_⟩
    unfold Row
    rw [List.nil_append, ← ht, List.take_append_drop, Array.toArray_toList]
    exact hg
namespace Bm
theorem posC_append (a b : List Nat) : posC (a ++ b) = posC a ++ posC b := by
  induction a with
  | nil => rfl
  | cons x a ih => rw [List.cons_append, posC, posC, ih]; split <;> rfl
theorem posC_take (cs : List Nat) (k : Nat) (h : k < cs.length) : posC (cs.take (k + 1)) = posC (cs.take k) ++ if 0 < cs[k] then [cs[k]] else [] := by
  rw [List.take_succ_eq_append_getElem h, posC_append]
  rfl
theorem posC_le (cs : List Nat) : (posC cs).length ≤ cs.length := by
  induction cs with
  | nil => simp [posC]
  | cons x a ih => rw [posC]; split <;> simp <;> omega
theorem posC_mem (cs : List Nat) (x : Nat) : x ∈ posC cs → x ∈ cs ∧ 0 < x := by
  induction cs with
  | nil => simp [posC]
  | cons y a ih =>
    rw [posC]
    split
    · next h =>
      intro hx
      rcases List.mem_cons.1 hx with rfl | hx
      · exact ⟨List.mem_cons_self, h⟩
      · exact ⟨List.mem_cons_of_mem _ (ih hx).1, (ih hx).2⟩
    · intro hx
      exact ⟨List.mem_cons_of_mem _ (ih hx).1, (ih hx).2⟩
theorem posC_some (cs : List Nat) (h : ∃ x ∈ cs, 0 < x) : 0 < (posC cs).length := by
  obtain ⟨x, hx, h0⟩ := h
  induction cs with
  | nil => simp at hx
  | cons y a ih =>
    rw [posC]
    split
    · simp
    · next hy =>
      rcases List.mem_cons.1 hx with rfl | hx
      · exact absurd h0 hy
      · exact ih hx
end Bm
end Go.Proofs.Ytmcobnbahkoopaa

namespace Go.Proofs.Ytmcobnbahkoopaa
open Go.RowKit
namespace Bm
/-- How many of these are above 0. -/
def symN (l : List Int) : Nat := l.countP fun z => decide (0 < z)
theorem symN_take (l : List Int) (k : Nat) (h : k < l.length) : symN (l.take (k + 1)) = symN (l.take k) + (if 0 < l[k] then 1 else 0) := by
  unfold symN
  rw [List.take_succ_eq_append_getElem h, List.countP_append, List.countP_singleton]
  simp
theorem symN_le (l : List Int) : symN l ≤ l.length := List.countP_le_length
end Bm
namespace Bm
/-- One more than the greatest of these (0: there are none). -/
def topB : List Nat → Nat
  | [] => 0
  | b :: bs => max (b + 1) (topB bs)
/-- How often each symbol comes. -/
def countsOf (bs : List Nat) : List Nat := (List.range (topB bs)).map fun s => bs.count s
theorem topB_append (a b : List Nat) : topB (a ++ b) = max (topB a) (topB b) := by
  induction a with
  | nil => simp [topB]
  | cons x a ih => rw [List.cons_append, topB, ih, topB]; omega
theorem topB_take (bs : List Nat) (k : Nat) (h : k < bs.length) : topB (bs.take (k + 1)) = max (topB (bs.take k)) (bs[k] + 1) := by
  rw [List.take_succ_eq_append_getElem h, topB_append]
  simp [topB]
theorem topB_le (bs : List Nat) (h : ∀ x ∈ bs, x < 256) : topB bs ≤ 256 := by
  induction bs with
  | nil => simp [topB]
  | cons x a ih =>
    have h1 := ih (fun y hy => h y (List.mem_cons_of_mem _ hy))
    have h2 := h x List.mem_cons_self
    rw [topB]; omega
theorem topB_mem (bs : List Nat) (b : Nat) (h : b ∈ bs) : b < topB bs := by
  induction bs with
  | nil => cases h
  | cons x a ih =>
    rw [topB]
    rcases List.mem_cons.1 h with rfl | h1
    · omega
    · have := ih h1; omega
/-- Counts of the first k. -/
def countsTo (bs : List Nat) (k : Nat) : List Nat := (List.range (topB bs)).map fun s => (bs.take k).count s
theorem countsTo_zero (bs : List Nat) : countsTo bs 0 = List.replicate (topB bs) 0 := by
  unfold countsTo
  rw [List.take_zero]
  simp only [List.count_nil]
  rw [List.map_const', List.length_range]
theorem countsTo_all (bs : List Nat) : countsTo bs bs.length = countsOf bs := by unfold countsTo countsOf; rw [List.take_length]
theorem countsTo_length (bs : List Nat) (k : Nat) : (countsTo bs k).length = topB bs := by simp [countsTo]
theorem countsTo_get (bs : List Nat) (k b : Nat) (h : b < topB bs) : (countsTo bs k)[b]? = some ((bs.take k).count b) := by simp [countsTo, h]
theorem countsTo_next (bs : List Nat) (k : Nat) (h : k < bs.length) : countsTo bs (k + 1) = (countsTo bs k).set bs[k] ((bs.take k).count bs[k] + 1) := by
  apply List.ext_getElem
  · simp [countsTo_length]
  · intro i h1 h2
    rw [List.getElem_set]
    simp only [countsTo, List.getElem_map, List.getElem_range]
    rw [List.take_succ_eq_append_getElem h, List.count_append, List.count_singleton]
    by_cases e : bs[k] = i
    · subst e; simp
    · simp [e]
end Bm
theorem max_top (T b : Nat) : max ((T : Int) - 1) (b : Int) = ((max T (b + 1) : Nat) : Int) - 1 := by omega
end Go.Proofs.Ytmcobnbahkoopaa

namespace Go.Proofs.Ytmcobnbahkoopaa
open Go.RowKit
namespace Bm
/-- Are these a share of that log's size? -/
def Fair (l : List Int) (log : Int) : Prop := 5 ≤ log ∧ log ≤ 9 ∧ l.length ≤ 256 ∧ (∀ x ∈ l, 0 ≤ x ∧ x ≤ 1000) ∧ l.sum = ((2 ^ log.toNat : Nat) : Int)
instance (l : List Int) (log : Int) : Decidable (Fair l log) := by unfold Fair; exact inferInstance
def fairB (l : List Int) (log : Int) : Bool := decide (Fair l log)
theorem sum_take (l : List Int) (k : Nat) (h : k < l.length) : (l.take (k + 1)).sum = (l.take k).sum + l[k] := by
  rw [List.take_succ_eq_append_getElem h, List.sum_append_int, List.sum_singleton]
theorem all_take (p : Int → Prop) (l : List Int) (k : Nat) (h : k < l.length) (h0 : ∀ x ∈ l.take k, p x) (h1 : p l[k]) : ∀ x ∈ l.take (k + 1), p x := by
  rw [List.take_succ_eq_append_getElem h]
  intro x hx
  rcases List.mem_append.1 hx with h2 | h2
  · exact h0 x h2
  · rw [List.mem_singleton.1 h2]; exact h1
theorem sum_bound (l : List Int) (h : ∀ x ∈ l, 0 ≤ x ∧ x ≤ 1000) : 0 ≤ l.sum ∧ l.sum ≤ 1000 * l.length := by
  induction l with
  | nil => simp
  | cons a l ih =>
    have h1 := ih (fun x hx => h x (List.mem_cons_of_mem _ hx))
    have h2 := h a List.mem_cons_self
    rw [List.sum_cons, List.length_cons]
    omega
end Bm

end Go.Proofs.Ytmcobnbahkoopaa

namespace Go.Proofs.Ytmcobnbahkoopaa
open Go.RowKit
namespace Bm
instance (l : List Int) : Decidable (Right l) := by unfold Right; exact inferInstance
def ShareOk (l : List Int) (log : Int) : Prop := Right l ∧ 5 ≤ log ∧ log ≤ 9 ∧ symN l ≤ 2 ^ log.toNat
instance (l : List Int) (log : Int) : Decidable (ShareOk l log) := by unfold ShareOk; exact inferInstance
/-- What Share answers: the numbers (none: there is no share). -/
def shareA (l : List Int) (log : Int) : List Int := if ShareOk l log then (shareM (l.map Int.toNat) (2 ^ log.toNat)).map (fun n : Nat => (n : Int)) else []
/-- What Log answers. -/
def logA (l : List Int) : Nat := if Right l then logM (symN l) (l.sum.toNat / 8) else 0
end Bm
def CSymbols : Prop := ∀ (A : Option Addr) (c : Nat) (l : List Int) (w : World), l.length ≤ 1000000 → Reads w A (i64z l) →
  Calls Try.prog 28 #[.slice A l.length c] w fun e w' => e = .returned (.int .i64 (Bm.symN l : Int)) ∧ Below w.heap.size w w'
end Go.Proofs.Ytmcobnbahkoopaa

namespace Go.Proofs.Ytmcobnbahkoopaa
open Go.RowKit
namespace Bm
def sizedB (log : Int) : Bool := decide (5 ≤ log ∧ log ≤ 9)
end Bm
theorem wrap_in (x : Int) (h0 : -9223372036854775808 ≤ x) (h1 : x ≤ 9223372036854775807) : wrap64 x = x := by unfold wrap64; omega
namespace Bm
theorem sum_nn (l : List Int) (h : ∀ x ∈ l, 0 ≤ x) : 0 ≤ l.sum := by
  induction l with
  | nil => simp
  | cons a l ih =>
    have h1 := ih (fun x hx => h x (List.mem_cons_of_mem _ hx))
    have h2 := h a List.mem_cons_self
    rw [List.sum_cons]; omega
theorem sum_take_le (l : List Int) (k : Nat) (h : ∀ x ∈ l, 0 ≤ x) : (l.take k).sum ≤ l.sum := by
  have h1 := sum_nn (l.drop k) (fun x hx => h x (List.mem_of_mem_drop hx))
  have h2 : l.sum = (l.take k).sum + (l.drop k).sum := by
    conv => lhs; rw [← List.take_append_drop k l]
    rw [List.sum_append_int]
  omega
theorem mem_le_sumI (l : List Int) (h : ∀ x ∈ l, 0 ≤ x) (x : Int) (hx : x ∈ l) : x ≤ l.sum := by
  induction l with
  | nil => cases hx
  | cons a l ih =>
    have h1 := sum_nn l (fun x hx => h x (List.mem_cons_of_mem _ hx))
    have h2 := h a List.mem_cons_self
    rw [List.sum_cons]
    rcases List.mem_cons.1 hx with rfl | hx
    · omega
    · have := ih (fun x hx => h x (List.mem_cons_of_mem _ hx)) hx; omega
theorem pow_log (b : Nat) (h5 : 5 ≤ b) (h9 : b ≤ 9) : 32 ≤ 2 ^ b ∧ 2 ^ b ≤ 512 :=
  ⟨Nat.pow_le_pow_right (n := 2) (i := 5) (by omega) h5, Nat.pow_le_pow_right (n := 2) (j := 9) (by omega) h9⟩
end Bm

end Go.Proofs.Ytmcobnbahkoopaa
