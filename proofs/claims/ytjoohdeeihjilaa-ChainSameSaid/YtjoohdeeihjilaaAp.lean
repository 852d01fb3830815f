/-
  A slice of pairs of ints ([][2]int) that came in. No condition.
-/
import Derived.Test.YtjoohdeeihjilaaAr
import Derived.Deep.Slices
import Derived.OpenShut
namespace Go.Proofs.Ytjoohdeeihjilaa
open Go.RowKit Go.ChangeShapes Go.WideShapes

/-- A slice of pairs of ints that came in. -/
def ArgQ (w : World) (A : Option Addr) (n c : Nat) (ps : List (Int × Int)) : Prop := ps.length = n ∧ (∀ p ∈ ps, (-9223372036854775808 ≤ p.1 ∧ p.1 ≤ 9223372036854775807) ∧ -9223372036854775808 ≤ p.2 ∧ p.2 ≤ 9223372036854775807) ∧
  (0 < n → ∃ g off, A = some ⟨g, off, none⟩ ∧ g < w.heap.size ∧ ∀ j (h : j < ps.length), w.cell? ⟨g, off + j * 2, none⟩ = some (.int .i64 ps[j].1) ∧ w.cell? ⟨g, off + j * 2 + 1, none⟩ = some (.int .i64 ps[j].2)) ∧ n ≤ c ∧ c ≤ maxLen

section
variable {H : Type} {enc : TypeId × Value → H}
theorem arg_q {w : World} {base : Nat} {spare : Nat → Bool} {held : Bool} {A : Option Addr} {n c : Nat} {fuel : Nat} {x : DataW H × List MemPlace}
    (h : DataW.trod enc Try.prog w base spare held fuel 22 [.slice A n c] = some x) : ∃ ps, ArgQ w A n c ps := by
  rcases Go.Deep.open_slice Try.underlying22 h with ⟨hcs, _⟩ | ⟨a, len, cap, m, nn, D, Pl, hcs, hb, hl, hm, hmm, hx, hi⟩
  · simp at hcs
    obtain ⟨rfl, rfl, rfl⟩ := hcs
    exact ⟨[], rfl, by simp, fun h => absurd h (by omega), Nat.le_refl _, by unfold maxLen; omega⟩
  · simp at hcs
    obtain ⟨rfl, rfl, rfl⟩ := hcs
    have hC : Try.prog.cellsOf 30 = 2 := by kernel_rfl
    have hone : ∀ i, i < n → ∃ (v z : Int), (-9223372036854775808 ≤ v ∧ v ≤ 9223372036854775807) ∧ (-9223372036854775808 ≤ z ∧ z ≤ 9223372036854775807) ∧ w.cell? (a.add (i * 2)) = some (.int .i64 v) ∧ w.cell? (a.add (i * 2 + 1)) = some (.int .i64 z) := by
      intro i hin
      obtain ⟨cs', hc, ht'⟩ := hi i (by rw [hmm]; split <;> omega)
      rw [hC] at hc
      obtain ⟨_, hcl, hat⟩ := World.cells?_some hc
      have c64 : Try.prog.cellsOf 3 = 1 := by kernel_rfl
      match cs', hcl with
      | [c0, c1], _ =>
        obtain ⟨xs, m, _, _, _, hl, hi⟩ := DataW.trod_array Try.underlying30 ht'
        match xs, hl with
        | [y0, y1], _ =>
          have f0 := hi 0 (by omega)
          have f1 := hi 1 (by omega)
          rw [c64] at f0 f1
          simp only [Nat.zero_mul, Nat.one_mul, List.drop_zero, List.drop_succ_cons, List.take_succ_cons, List.take_zero, List.getElem?_cons_zero, List.getElem?_cons_succ] at f0 f1
          obtain ⟨v, e0, _, wv⟩ := DataW.trod_int Try.underlying3 f0
          obtain ⟨z, e1, _, wz⟩ := DataW.trod_int Try.underlying3 f1
          simp at e0 e1
          subst e0 e1
          have b0 := bounds_i64 wv
          have b1 := bounds_i64 wz
          have h0 := hat 0 (by omega)
          have h1 := hat 1 (by omega)
          simp only [List.getElem?_cons_zero, List.getElem?_cons_succ] at h0 h1
          rw [Go.Deep.add_add] at h0 h1
          rw [Nat.add_zero] at h0
          exact ⟨v, z, b0, b1, h0, h1⟩
    rcases Nat.eq_zero_or_pos n with h0 | h0
    · subst h0
      exact ⟨[], rfl, by simp, fun h => absurd h (by omega), hl, hm⟩
    · obtain ⟨b, off, spot⟩ := a
      obtain ⟨v, z, _, _, h1, _⟩ := hone 0 h0
      have hspot : spot = none := by simpa [Addr.add] using World.cell?_spot h1
      subst hspot
      have e : ∀ j, ((⟨b, off, none⟩ : Addr).add j) = ⟨b, off + j, none⟩ := fun j => by unfold Addr.add; split <;> simp_all
      have hbl : b < w.heap.size := by
        rw [e] at h1
        exact World.block_lt_of_cell? w _ h1
      have hex : ∀ i : Nat, ∃ p : Int × Int, i < n → (-9223372036854775808 ≤ p.1 ∧ p.1 ≤ 9223372036854775807) ∧ (-9223372036854775808 ≤ p.2 ∧ p.2 ≤ 9223372036854775807) ∧ w.cell? ⟨b, off + i * 2, none⟩ = some (.int .i64 p.1) ∧ w.cell? ⟨b, off + i * 2 + 1, none⟩ = some (.int .i64 p.2) := by
        intro i
        by_cases hin : i < n
        · obtain ⟨v, z, hv, hz, h2, h3⟩ := hone i hin
          rw [e] at h2 h3
          exact ⟨(v, z), fun _ => ⟨hv, hz, h2, by rw [Nat.add_assoc]; exact h3⟩⟩
        · exact ⟨(0, 0), fun h => absurd h hin⟩
      obtain ⟨f, hf⟩ := Classical.axiomOfChoice hex
      refine ⟨(List.range n).map f, by simp, ?_, fun _ => ⟨b, off, rfl, hbl, ?_⟩, hl, hm⟩
      · intro p hp
        simp only [List.mem_map, List.mem_range] at hp
        obtain ⟨i, hi, rfl⟩ := hp
        exact ⟨(hf i hi).1, (hf i hi).2.1⟩
      · intro j hj
        have hj' : j < n := by simpa using hj
        simp only [List.getElem_map, List.getElem_range]
        exact (hf j hj').2.2
end
end Go.Proofs.Ytjoohdeeihjilaa
