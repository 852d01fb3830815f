/-
  Arguments that came in, for layer 1: a slice of bytes, a slice of ints, as lists of numbers. No condition.
-/
import Derived.Test.YtnaocegcnckhmaaGw
import Derived.ProofKit
import Derived.OpenShut
namespace Go.Proofs.Ytnaocegcnckhmaa
open Go.ChangeShapes Go.WideShapes Go.ChangeAt Go.RowKit

/-- What the frame hands over of a slice of integers that came in: nil, or a row of 'cap' cells, the numbers 'zs', each of its kind. -/
def IsRow (k : IntKind) (w : World) (a : Option Addr) (len cap : Nat) (zs : List Int) : Prop :=
  (a = none ∧ len = 0 ∧ cap = 0 ∧ zs = []) ∨
  ∃ x, a = some x ∧ len ≤ cap ∧ cap ≤ maxLen ∧ zs.length = cap ∧ (∀ i, i < zs.length → w.cell? (x.add i) = some (.int k (zs.getD i 0))) ∧ ∀ n ∈ zs, (Lit.int k n).wf = true

/-- A slice of bytes that came in. -/
def ArgB (w : World) (A : Option Addr) (n c : Nat) (bs : List Nat) : Prop := bs.length = n ∧ (∀ x ∈ bs, x < 256) ∧ Reads w A (u8s bs) ∧ (∀ a, A = some a → 0 < n → a.block < w.heap.size) ∧ n ≤ c ∧ c ≤ maxLen
/-- A slice of ints that came in: where there is one, its place and its cells. -/
def ArgI (w : World) (A : Option Addr) (n c : Nat) (zs : List Int) : Prop := zs.length = n ∧ (∀ x ∈ zs, -9223372036854775808 ≤ x ∧ x ≤ 9223372036854775807) ∧
  (0 < n → ∃ g off, A = some ⟨g, off, none⟩ ∧ g < w.heap.size ∧ ∀ j (h : j < zs.length), w.cell? ⟨g, off + j, none⟩ = some (.int .i64 zs[j])) ∧ n ≤ c ∧ c ≤ maxLen

theorem row_place {k : IntKind} {w : World} {x : Addr} {zs : List Int} (hc : ∀ i, i < zs.length → w.cell? (x.add i) = some (.int k (zs.getD i 0))) (h0 : 0 < zs.length) :
    ∃ g off, x = ⟨g, off, none⟩ ∧ g < w.heap.size ∧ ∀ j (h : j < zs.length), w.cell? ⟨g, off + j, none⟩ = some (.int k zs[j]) := by
  obtain ⟨b, off, spot⟩ := x
  have h1 := hc 0 h0
  have hspot : spot = none := by simpa [Addr.add] using World.cell?_spot h1
  subst hspot
  have e : ∀ j, ((⟨b, off, none⟩ : Addr).add j) = ⟨b, off + j, none⟩ := fun j => by unfold Addr.add; split <;> simp_all
  refine ⟨b, off, rfl, ?_, fun j hj => ?_⟩
  · rw [e] at h1
    exact World.block_lt_of_cell? w _ h1
  · rw [← e, hc j hj]
    simp [hj]
theorem arg_b {w : World} {a : Option Addr} {n c : Nat} {zs : List Int} (h : IsRow .u8 w a n c zs) : ∃ bs, ArgB w a n c bs := by
  rcases h with ⟨rfl, rfl, rfl, rfl⟩ | ⟨x, rfl, hl, hm, hz, hc, hwf⟩
  · exact ⟨[], rfl, by simp, fun h => absurd rfl h, fun a e => (by cases e), Nat.le_refl _, by unfold maxLen; omega⟩
  · refine ⟨(zs.take n).map Int.toNat, by simp; omega, ?_, ?_, ?_, hl, hm⟩
    · intro b hb
      obtain ⟨z, hz1, rfl⟩ := List.mem_map.1 hb
      have hb := bounds_u8 (hwf z (List.mem_of_mem_take hz1))
      omega
    · intro hne
      have h0 : 0 < zs.length := by
        rcases Nat.eq_zero_or_pos zs.length with h0 | h0
        · rw [List.eq_nil_of_length_eq_zero h0] at hne; simp [u8s] at hne
        · exact h0
      obtain ⟨g, off, rfl, _, hcell⟩ := row_place hc h0
      refine ⟨g, off, rfl, fun j hj => ?_⟩
      have hj' : j < n ∧ j < zs.length := by simp [u8s] at hj; omega
      rw [hcell j hj'.2]
      have hb := bounds_u8 (hwf zs[j] (List.getElem_mem hj'.2))
      simp only [u8s, List.getElem?_map, List.getElem?_take_of_lt hj'.1, List.getElem?_eq_getElem hj'.2, Option.map_some]
      rw [Int.toNat_of_nonneg hb.1]
    · intro a e hn
      injection e with e
      subst e
      obtain ⟨g, off, rfl, hg, _⟩ := row_place hc (by omega)
      exact hg
theorem arg_i {w : World} {a : Option Addr} {n c : Nat} {zs : List Int} (h : IsRow .i64 w a n c zs) : ∃ l, ArgI w a n c l := by
  rcases h with ⟨rfl, rfl, rfl, rfl⟩ | ⟨x, rfl, hl, hm, hz, hc, hwf⟩
  · exact ⟨[], rfl, by simp, fun h => absurd h (by omega), Nat.le_refl _, by unfold maxLen; omega⟩
  · refine ⟨zs.take n, by simp; omega, ?_, ?_, hl, hm⟩
    · intro b hb
      exact bounds_i64 (hwf b (List.mem_of_mem_take hb))
    · intro hn
      obtain ⟨g, off, rfl, hg, hcell⟩ := row_place hc (by omega)
      refine ⟨g, off, rfl, hg, fun j hj => ?_⟩
      have hj' : j < zs.length := by simp at hj; omega
      rw [hcell j hj']
      simp
end Go.Proofs.Ytnaocegcnckhmaa
