/-
  What layer 6's calls (spread) are to answer, as the laws' walks ask for it: definitions, each a premise of a law's walk; and what a fair share of ints is as numbers. No condition.
-/
import Derived.Test.YtefcahmhfjblpaaTd
import Derived.Test.YtefcahmhfjblpaaNf
namespace Go.Proofs.Ytefcahmhfjblpaa
open Go.RowKit
namespace Bm
theorem fair_n (l : List Int) (log : Int) (h : Fair l log) : FairN (l.map Int.toNat) log.toNat := by
  obtain ⟨h1, h2, h3, h4, h5⟩ := h
  have hs : ∀ l : List Int, (∀ x ∈ l, 0 ≤ x ∧ x ≤ 1000) → (((l.map Int.toNat).sum : Nat) : Int) = l.sum := fun l => by
    induction l with
    | nil => simp
    | cons a l ih =>
      intro hh
      have := hh a List.mem_cons_self
      rw [List.map_cons, List.sum_cons, List.sum_cons, Int.natCast_add, ih (fun x hx => hh x (List.mem_cons_of_mem _ hx))]
      omega
  refine ⟨by omega, by omega, by simpa using h3, ?_⟩
  have := hs l h4
  rw [h5] at this
  exact Int.ofNat_inj.1 this
theorem fair_map (l : List Int) (log : Int) (h : Fair l log) : (l.map Int.toNat).map (fun n : Nat => (n : Int)) = l := by
  rw [List.map_map]
  have : ∀ l : List Int, (∀ x ∈ l, 0 ≤ x ∧ x ≤ 1000) → l.map ((fun n : Nat => (n : Int)) ∘ Int.toNat) = l := fun l => by
    induction l with
    | nil => simp
    | cons a l ih =>
      intro hh
      have := hh a List.mem_cons_self
      rw [List.map_cons, ih (fun x hx => hh x (List.mem_cons_of_mem _ hx))]
      congr 1
      simp only [Function.comp_apply]
      omega
  exact this l h.2.2.2.1
/-- What Cell answers. -/
def cellA (ls : List Nat) (log : Nat) (st : Int) : Cel := if 0 ≤ st ∧ st < ((2 ^ log : Nat) : Int) then (symAt ls log st.toNat, bitsAt ls log st.toNat, baseAt ls log st.toNat) else (0, 0, 0)
/-- May these be a state and the bits behind it? -/
def nextB (ls : List Nat) (log : Nat) (st more : Int) : Bool := decide (0 ≤ st ∧ st < ((2 ^ log : Nat) : Int) ∧ 0 ≤ more ∧ more < ((2 ^ bitsAt ls log st.toNat : Nat) : Int))
def nextA (ls : List Nat) (log : Nat) (st more : Int) : Int := if nextB ls log st more then (baseAt ls log st.toNat : Int) + more else 0
/-- The state ahead, the bits that lead on, how many; none: there is no such state. -/
def backA (ls : List Nat) (log : Nat) (st : Int) (s : Nat) : Option (Nat × Nat × Nat) :=
  if 0 ≤ st ∧ st < ((2 ^ log : Nat) : Int) then (backP ls log st.toNat s).map fun p => (p, st.toNat - baseAt ls log p, bitsAt ls log p) else none
end Bm
/-- A cell as a value. -/
def celV (t : Cel) : Value := .agg #[.int .u8 (t.1 : Int), .int .i64 (t.2.1 : Int), .int .i64 (t.2.2 : Int)]
def backT : Option (Nat × Nat × Nat) → Value
  | none => .tuple #[.int .i64 0, .int .i64 0, .int .i64 0, .bool false]
  | some (p, v, k) => .tuple #[.int .i64 (p : Int), .int .i64 (v : Int), .int .i64 (k : Int), .bool true]
theorem below_of_drewN {w w' : World} (h : ∃ m, w' = w.drewN m) : Below w.heap.size w w' := by
  obtain ⟨m, rfl⟩ := h
  exact below_drewN (Below.refl _ _) m
end Go.Proofs.Ytefcahmhfjblpaa
