/-
  Pieces of a slice of ints, and what they read as. No condition beyond each theorem's premises.
-/
import Derived.Test.YtefcahmhfjblpaaIn
namespace Go.Proofs.Ytefcahmhfjblpaa
open Go.RowKit

set_option maxRecDepth 100000 in
theorem cut_to (A : Option Addr) (L c q : Nat) (W : World) (h : q ≤ L) (hc : L ≤ c) : (Instr.slice 22 (.slice A L c) none (some (.int .i64 (q : Int))) none).run Try.prog W = .ok (.slice A q c) W := by
  have h1 : q ≤ c := by omega
  rcases A with _ | a
  · go_simp
  · go_simp
/-- Where a slice goes on behind q of its elements. -/
def behindA (A : Option Addr) (c q : Nat) : Option Addr := if c = q then A else A.map (·.add q)
set_option maxRecDepth 100000 in
theorem cut_from (A : Option Addr) (L c q : Nat) (W : World) (h : q ≤ L) (hc : L ≤ c) : (Instr.slice 22 (.slice A L c) (some (.int .i64 (q : Int))) none none).run Try.prog W = .ok (.slice (behindA A c q) (L - q) (c - q)) W := by
  have h1 : q ≤ c := by omega
  unfold behindA
  by_cases hcq : c = q
  · subst hcq
    rcases A with _ | a
    · go_simp
    · go_simp
  · rcases A with _ | a
    · go_simp
    · go_simp
theorem reads_behind {w : World} {A : Option Addr} {l : List Nat} {c q : Nat} (h : Reads w A (i64s l)) (hc : l.length ≤ c) : Reads w (behindA A c q) (i64s (l.drop q)) := fun hne => by
  have h0 : q < l.length := by
    rcases Nat.lt_or_ge q l.length with e | e
    · exact e
    · rw [List.drop_of_length_le e] at hne; simp [i64s] at hne
  obtain ⟨g, off, e, hcell⟩ := h (by intro e; have := congrArg List.length e; rw [i64s_length, List.length_nil] at this; omega)
  refine ⟨g, off + q, ?_, fun j hj => ?_⟩
  · unfold behindA
    rw [if_neg (by omega), e]
    show some _ = _
    congr 1
    unfold Addr.add
    split <;> simp_all
  · rw [i64s_length, List.length_drop] at hj
    rw [Nat.add_assoc, hcell (q + j) (by rw [i64s_length]; omega), i64s_get? _ _ (by omega), i64s_get? _ _ (by rw [List.length_drop]; omega), List.getElem_drop]
theorem reads_far {w : World} {A : Option Addr} {xs : List Value} {p : Addr} {u : Value} (h : Reads w A xs) (hA : ∀ a, A = some a → a.block ≠ p.block) : Reads (w.setCell p u) A xs := fun hx => by
  obtain ⟨g, off, e, hc⟩ := h hx
  refine ⟨g, off, e, fun j hj => ?_⟩
  rw [World.cell?_of_block (a := ⟨g, off + j, none⟩) (Below.heap_setCell w p u g (hA _ e))]
  exact hc j hj
theorem own_capA {w : World} {base n c : Nat} {A : Option Addr} {e : TypeId} {xs : List Value} (h : w.ownsRow base e 1 (.slice A n c) n xs) : n ≤ c ∧ c ≤ maxLen := by
  rcases h.2 with ⟨hv, h0⟩ | ⟨g', cap', cur, hv, hb, hh, h1, h2, _⟩
  · injection hv with _ _ e3
    subst h0 e3
    exact ⟨Nat.le_refl _, by unfold maxLen; omega⟩
  · injection hv with _ _ e3
    subst e3
    exact ⟨h1, h2⟩
theorem cell_in {w : World} {g j : Nat} {v : Value} (h : w.cell? ⟨g, j, none⟩ = some v) : g < w.heap.size := by
  rcases Nat.lt_or_ge g w.heap.size with h2 | h2
  · exact h2
  · simp [World.cell?, Array.getElem?_eq_none h2] at h
theorem quiet_leftC {P : Program} {f : FuncId} {args : Array Value} {w : World} {n : Nat} {v : Value}
    (h : Calls P f args (w.drewN n) fun e w' => e = .returned v ∧ w.drewN n = w') : Calls P f args (w.drewN n) fun e w'' => e = .returned v ∧ ∃ m, w'' = w.drewN m :=
  h.mono fun _ _ ⟨he, hm⟩ => ⟨he, n, hm.symm⟩
end Go.Proofs.Ytefcahmhfjblpaa
