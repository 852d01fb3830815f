/-
  What layer 6's calls (spread) are to answer, as the laws' walks ask for it: definitions, each a premise of a law's walk; and what a fair share of ints is as numbers. No condition.
-/
import Derived.Test.YthaahijapkolkaaTd
import Derived.Test.YthaahijapkolkaaNf
namespace Go.Proofs.Ythaahijapkolkaa
open Go.RowKit
namespace Bm
theorem fair_n (l : List Int) (log : Int) (h : Fair l log) : FairN (l.map Int.toNat) log.toNat := by
  obtain ⟨h1, h2, h3, h4, h5⟩ := h
  have hs : ∀ l : List Int, (∀ x ∈ l, 0 ≤ x ∧ x ≤ 1000) → (((l.map Int.toNat).sum : Nat) : Int) = l.sum := fun l => by
    induction l with
    | nil => simp
    | cons a l ih =>
      intro hh
      have := hh a List.mem_cons_self
      rw [List.map_cons, List.sum_cons, List.sum_cons, Int.natCast_add, ih (fun x hx => hh x (List.mem_cons_of_mem _ hx))]
      omega
  refine ⟨by omega, by omega, by simpa using h3, ?_⟩
  have := hs l h4
  rw [h5] at this
  exact Int.ofNat_inj.1 this
theorem fair_map (l : List Int) (log : Int) (h : Fair l log) : (l.map Int.toNat).map (fun n : Nat => (n : Int)) = l := by
  rw [List.map_map]
  have : ∀ l : List Int, (∀ x ∈ l, 0 ≤ x ∧ x ≤ 1000) → l.map ((fun n : Nat => (n : Int)) ∘ Int.toNat) = l := fun l => by
    induction l with
    | nil => simp
    | cons a l ih =>
      intro hh
      have := hh a List.mem_cons_self
      rw [List.map_cons, ih (fun x hx => hh x (List.mem_cons_of_mem _ hx))]
      congr 1
      simp only [Function.comp_apply]
      omega
  exact this l h.2.2.2.1
/-- What Cell answers. -/
def cellA (ls : List Nat) (log : Nat) (st : Int) : Cel := if 0 ≤ st ∧ st < ((2 ^ log : Nat) : Int) then (symAt ls log st.toNat, bitsAt ls log st.toNat, baseAt ls log st.toNat) else (0, 0, 0)
/-- May these be a state and the bits behind it? -/
def nextB (ls : List Nat) (log : Nat) (st more : Int) : Bool := decide (0 ≤ st ∧ st < ((2 ^ log : Nat) : Int) ∧ 0 ≤ more ∧ more < ((2 ^ bitsAt ls log st.toNat : Nat) : Int))
def nextA (ls : List Nat) (log : Nat) (st more : Int) : Int := if nextB ls log st more then (baseAt ls log st.toNat : Int) + more else 0
/-- The state ahead, the bits that lead on, how many; none: there is no such state. -/
def backA (ls : List Nat) (log : Nat) (st : Int) (s : Nat) : Option (Nat × Nat × Nat) :=
  if 0 ≤ st ∧ st < ((2 ^ log : Nat) : Int) then (backP ls log st.toNat s).map fun p => (p, st.toNat - baseAt ls log p, bitsAt ls log p) else none
end Bm
/-- A cell as a value. -/
def celV (t : Cel) : Value := .agg #[.int .u8 (t.1 : Int), .int .i64 (t.2.1 : Int), .int .i64 (t.2.2 : Int)]
def backT : Option (Nat × Nat × Nat) → Value
  | none => .tuple #[.int .i64 0, .int .i64 0, .int .i64 0, .bool false]
  | some (p, v, k) => .tuple #[.int .i64 (p : Int), .int .i64 (v : Int), .int .i64 (k : Int), .bool true]
/-- What the calls of layer 6 answer, TB saying that a table lies at a place. -/
structure TabOk (TB : World → Addr → List Nat → Nat → Prop) : Prop where
  keep : ∀ w W p ls log, TB w p ls log → Below w.heap.size w W → TB W p ls log
  build : ∀ (A : Option Addr) (c : Nat) (l : List Int) (log : Int) (w : World), l.length ≤ 1000000 → (∀ x ∈ l, Bm.IntOk x) → Bm.IntOk log → Reads w A (i64z l) → Bm.Fair l log →
    Calls Try.prog 7 #[.slice A l.length c, .int .i64 log] w fun e w' => ∃ p, e = .returned (.tuple #[.pointer (some p), .bool true]) ∧ TB w' p (l.map Int.toNat) log.toNat ∧ Below w.heap.size w w'
  noBuild : ∀ (A : Option Addr) (c : Nat) (l : List Int) (log : Int) (w : World), l.length ≤ 1000000 → (∀ x ∈ l, Bm.IntOk x) → Bm.IntOk log → Reads w A (i64z l) → ¬ Bm.Fair l log →
    Calls Try.prog 7 #[.slice A l.length c, .int .i64 log] w fun e w' => e = .returned (.tuple #[.pointer none, .bool false]) ∧ Below w.heap.size w w'
  cell : ∀ (w : World) (p : Addr) (ls : List Nat) (log : Nat) (st : Int), Bm.FairN ls log → TB w p ls log → Bm.IntOk st →
    Calls Try.prog 9 #[.pointer (some p), .int .i64 st] w fun e w' => e = .returned (.tuple #[celV (Bm.cellA ls log st), .bool (decide (0 ≤ st ∧ st < ((2 ^ log : Nat) : Int)))]) ∧ Below w.heap.size w w'
  cellNil : ∀ (w : World) (st : Int), Bm.IntOk st → Calls Try.prog 9 #[.pointer none, .int .i64 st] w fun e w' => e = .returned (.tuple #[celV (0, 0, 0), .bool false]) ∧ Below w.heap.size w w'
  size : ∀ (w : World) (p : Addr) (ls : List Nat) (log : Nat), Bm.FairN ls log → TB w p ls log → Calls Try.prog 10 #[.pointer (some p)] w fun e w' => e = .returned (.int .i64 ((2 ^ log : Nat) : Int)) ∧ ∃ m, w' = w.drewN m
  sizeNil : ∀ w : World, Calls Try.prog 10 #[.pointer none] w fun e w' => e = .returned (.int .i64 0) ∧ ∃ m, w' = w.drewN m
  logOf : ∀ (w : World) (p : Addr) (ls : List Nat) (log : Nat), Bm.FairN ls log → TB w p ls log → Calls Try.prog 11 #[.pointer (some p)] w fun e w' => e = .returned (.int .i64 (log : Int)) ∧ ∃ m, w' = w.drewN m
  logNil : ∀ w : World, Calls Try.prog 11 #[.pointer none] w fun e w' => e = .returned (.int .i64 0) ∧ ∃ m, w' = w.drewN m
  next : ∀ (w : World) (p : Addr) (ls : List Nat) (log : Nat) (st more : Int), Bm.FairN ls log → TB w p ls log → Bm.IntOk st → Bm.IntOk more →
    Calls Try.prog 15 #[.pointer (some p), .int .i64 st, .int .i64 more] w fun e w' => e = .returned (.tuple #[.int .i64 (Bm.nextA ls log st more), .bool (Bm.nextB ls log st more)]) ∧ Below w.heap.size w w'
  back : ∀ (w : World) (p : Addr) (ls : List Nat) (log : Nat) (st : Int) (s : Nat), Bm.FairN ls log → TB w p ls log → Bm.IntOk st → s < 256 →
    Calls Try.prog 13 #[.pointer (some p), .int .i64 st, .int .u8 (s : Int)] w fun e w' => e = .returned (backT (Bm.backA ls log st s)) ∧ Below w.heap.size w w'
theorem below_of_drewN {w w' : World} (h : ∃ m, w' = w.drewN m) : Below w.heap.size w w' := by
  obtain ⟨m, rfl⟩ := h
  exact below_drewN (Below.refl _ _) m
end Go.Proofs.Ythaahijapkolkaa
