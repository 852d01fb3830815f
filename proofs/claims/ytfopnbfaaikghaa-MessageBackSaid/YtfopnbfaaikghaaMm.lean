/-
  The reference of layer 25 (message): group, number, by their walks. Conditions: as each theorem's premises say.
-/
import Derived.Test.YtfopnbfaaikghaaMi
import Derived.Test.YtfopnbfaaikghaaCr
import Derived.Test.YtfopnbfaaikghaaCs
namespace Go.Proofs.Ytfopnbfaaikghaa
open Go.RowKit

set_option maxHeartbeats 1000000 in
set_option maxRecDepth 100000 in
theorem rmgroup_any (n : Int) (w : World) (h0 : 0 ≤ n) (h1 : n ≤ 1073741824) : Calls Try.prog 23 #[.int .i64 n] w fun e w' => e = .returned (.string (strOf (Bm.grp n.toNat))) ∧ Below w.heap.size w w' := by
  obtain ⟨v, rfl⟩ : ∃ v : Nat, n = (v : Int) := ⟨n.toNat, by omega⟩
  have Hg := Lib.hid (fun W => fgroup_any v W (by omega))
  have hw := u64_wrap v (by omega)
  rw [Int.toNat_natCast]
  generalize strOf (Bm.grp v) = g at *
  go_enter Try.func23, Try.ntmps23
  go_wp2_with fail
  refine (Hg.out _).mono ?_
  rintro e w1 ⟨rfl, g1⟩
  go_wp2
  go_ret
  exact ⟨rfl, g1⟩
theorem first_le (l : List Nat) : (Bm.firstG l).2 ≤ l.length := by
  by_cases h : 0 < (Bm.firstG l).2
  · exact (Bm.firstG_some l (Bm.firstG l).1 (Bm.firstG l).2 h rfl).2.2
  · omega
set_option maxHeartbeats 1000000 in
set_option maxRecDepth 100000 in
theorem rmnum_any (s : List Nat) (w : World) (hs : ∀ x ∈ s, x < 256) (hl : s.length ≤ 1000000) :
    Calls Try.prog 33 #[.string (strOf s)] w fun e w' => e = .returned (.tuple #[.int .i64 (numR s).1, .string (strOf (numR s).2)]) ∧ Below w.heap.size w w' := by
  have Hf := Lib.hid (fun W => ffirst_any s W (by omega) hs)
  have hN1 : Hid ((Bm.firstG s).2 = 0 ∨ 1073741824 < (Bm.firstG s).1 → numR s = (-1, s)) := Lib.hid (fun h => by unfold numR; rw [if_pos h])
  have hN2 : Hid (¬ ((Bm.firstG s).2 = 0 ∨ 1073741824 < (Bm.firstG s).1) → numR s = (((Bm.firstG s).1 : Int), s.drop (Bm.firstG s).2)) := Lib.hid (fun h => by unfold numR; rw [if_neg h])
  have hc := fun W => str_from s (Bm.firstG s).2 (first_le s) W
  have hk := first_le s
  have hsz := strOf_size s
  generalize numR s = R at *
  generalize (Bm.firstG s).1 = v at *
  generalize (Bm.firstG s).2 = k at *
  have Hc := Lib.hid hc
  clear hc
  go_enter Try.func33, Try.ntmps33
  go_wp2_with fail
  refine (Hf.out _).mono ?_
  rintro e w1 ⟨rfl, g1⟩
  by_cases h1 : k = 0
  · have h2 := hN1.out (.inl h1)
    subst h2
    have h1' : (k : Int) = 0 := by omega
    go_wp2
    go_ret2
    exact ⟨rfl, g1⟩
  · have h1' : ¬ (k : Int) = 0 := by omega
    by_cases h3 : 1073741824 < v
    · have h2 := hN1.out (.inr h3)
      have h3' : (1073741824 : Int) < (v : Int) := by omega
      subst h2
      go_wp2
      go_ret2
      exact ⟨rfl, g1⟩
    · have h2 := hN2.out (by omega)
      have h3' : ¬ (1073741824 : Int) < (v : Int) := by omega
      have hw : IntKind.i64.wrap (v : Int) = (v : Int) := IntWalk.i64_in _ (by omega)
      subst h2
      have e1 : ((k : Int) == 0) = false := by simp; omega
      have e2 : decide ((1073741824 : Int) < (v : Int)) = false := decide_eq_false h3'
      have hc := Hc.out
      go_upto_region 4 with fail
      go_quiet (fail)
      go_wp2
      go_ret2
      exact ⟨rfl, below_drewN g1 _⟩
end Go.Proofs.Ytfopnbfaaikghaa
