/-
  Layer 14 (exec): a slice of steps, and an array of two strings, that came in. No condition.
-/
import Derived.Test.YtbdciiiimdbmkaaGreatGap
import Derived.Test.YtbdciiiimdbmkaaGreatGae
import Derived.Deep.Slices
import Derived.Deep.Fields
import Derived.OpenShut
import Derived.ShutString
import Derived.ChangeOld
namespace Go.Proofs.YtbdciiiimdbmkaaGreat
open Go.RowKit Go.ChangeShapes Go.WideShapes Go.ChangeAt

/-- A slice of steps that came in. -/
def ArgS (w : World) (A : Option Addr) (n c : Nat) (l : List Bm.StZ) : Prop := l.length = n ∧ ZOk l ∧ StzR w A l ∧ n ≤ c ∧ c ≤ maxLen

section
variable {H : Type} {enc : TypeId × Value → H}
set_option maxRecDepth 100000 in
theorem arg_s {w : World} {base : Nat} {spare : Nat → Bool} {held : Bool} {A : Option Addr} {n c : Nat} {fuel : Nat} {x : DataW H × List MemPlace}
    (h : DataW.trod enc Tryz.prog w base spare held fuel 22 [.slice A n c] = some x) : ∃ l, ArgS w A n c l := by
  rcases Go.Deep.open_slice Tryz.underlying22 h with ⟨hcs, _⟩ | ⟨a, len, cap, m, nn, D, Pl, hcs, hb, hl, hm, hmm, hx, hi⟩
  · simp at hcs
    obtain ⟨rfl, rfl, rfl⟩ := hcs
    exact ⟨[], rfl, fun s hs => by simp at hs, fun h => absurd h (by simp), Nat.le_refl _, by unfold maxLen; omega⟩
  · simp at hcs
    obtain ⟨rfl, rfl, rfl⟩ := hcs
    have hC : Tryz.prog.cellsOf 38 = 3 := by kernel_rfl
    have hone : ∀ i, i < n → ∃ x : Bm.StZ, (Bm.IntOk x.1 ∧ Bm.IntOk x.2.1 ∧ Bm.IntOk x.2.2) ∧ w.cell? (a.add (i * 3)) = some (.int .i64 x.1) ∧ w.cell? (a.add (i * 3 + 1)) = some (.int .i64 x.2.1) ∧ w.cell? (a.add (i * 3 + 2)) = some (.int .i64 x.2.2) := by
      intro i hin
      obtain ⟨cs', hc, ht'⟩ := hi i (by rw [hmm]; split <;> omega)
      rw [hC] at hc
      obtain ⟨ys, n', hn', hy, hlen, hyl, hf⟩ := DataW.trod_struct Tryz.underlying38 ht'
      obtain ⟨_, hcl, hat⟩ := World.cells?_some hc
      have ci : Tryz.prog.cellsOf 3 = 1 := by kernel_rfl
      match cs', hcl with
      | [c0, c1, c2], _ =>
        have hyl2 : ys.length = 3 := hyl
        match ys, hyl2 with
        | [y0, y1, y2], _ =>
          have f0 : DataW.trod enc Tryz.prog w base spare held n' 3 (([c0, c1, c2].drop 0).take (Tryz.prog.cellsOf 3)) = [y0, y1, y2][0]? := hf 0 _ rfl
          have f1 : DataW.trod enc Tryz.prog w base spare held n' 3 (([c0, c1, c2].drop 1).take (Tryz.prog.cellsOf 3)) = [y0, y1, y2][1]? := hf 1 _ rfl
          have f2 : DataW.trod enc Tryz.prog w base spare held n' 3 (([c0, c1, c2].drop 2).take (Tryz.prog.cellsOf 3)) = [y0, y1, y2][2]? := hf 2 _ rfl
          rw [ci] at f0 f1 f2
          simp only [List.drop_zero, List.drop_succ_cons, List.take_succ_cons, List.take_zero, List.getElem?_cons_zero, List.getElem?_cons_succ] at f0 f1 f2
          obtain ⟨p, e0, _, w0⟩ := DataW.trod_int Tryz.underlying3 f0
          obtain ⟨q, e1, _, w1⟩ := DataW.trod_int Tryz.underlying3 f1
          obtain ⟨r, e2, _, w2⟩ := DataW.trod_int Tryz.underlying3 f2
          simp at e0 e1 e2
          subst e0 e1 e2
          have h0 := hat 0 (by omega)
          have h1 := hat 1 (by omega)
          have h2 := hat 2 (by omega)
          simp only [List.getElem?_cons_zero, List.getElem?_cons_succ] at h0 h1 h2
          rw [Go.Deep.add_add] at h0 h1 h2
          rw [Nat.add_zero] at h0
          exact ⟨(p, q, r), ⟨bounds_i64 w0, bounds_i64 w1, bounds_i64 w2⟩, h0, h1, h2⟩
    rcases Nat.eq_zero_or_pos n with h0 | h0
    · subst h0
      exact ⟨[], rfl, fun s hs => by simp at hs, fun h => absurd h (by simp), hl, hm⟩
    · obtain ⟨b, off, spot⟩ := a
      obtain ⟨_, _, h1, _⟩ := hone 0 h0
      have hspot : spot = none := by simpa [Addr.add] using World.cell?_spot h1
      subst hspot
      have e : ∀ j, ((⟨b, off, none⟩ : Addr).add j) = ⟨b, off + j, none⟩ := fun j => by unfold Addr.add; split <;> simp_all
      have hbl : b < w.heap.size := by
        rw [e] at h1
        exact World.block_lt_of_cell? w _ h1
      have hex : ∀ i : Nat, ∃ x : Bm.StZ, i < n → (Bm.IntOk x.1 ∧ Bm.IntOk x.2.1 ∧ Bm.IntOk x.2.2) ∧ w.cell? ⟨b, off + i * 3, none⟩ = some (.int .i64 x.1) ∧ w.cell? ⟨b, off + i * 3 + 1, none⟩ = some (.int .i64 x.2.1) ∧ w.cell? ⟨b, off + i * 3 + 2, none⟩ = some (.int .i64 x.2.2) := by
        intro i
        by_cases hin : i < n
        · obtain ⟨x, hx, k0, k1, k2⟩ := hone i hin
          rw [e] at k0 k1 k2
          exact ⟨x, fun _ => ⟨hx, k0, by rw [Nat.add_assoc]; exact k1, by rw [Nat.add_assoc]; exact k2⟩⟩
        · exact ⟨(0, 0, 0), fun h => absurd h hin⟩
      obtain ⟨f, hf⟩ := Classical.axiomOfChoice hex
      refine ⟨(List.range n).map f, by simp, ?_, fun _ => ⟨b, off, rfl, hbl, ?_⟩, hl, hm⟩
      · intro p hp
        simp only [List.mem_map, List.mem_range] at hp
        obtain ⟨i, hi, rfl⟩ := hp
        exact (hf i hi).1
      · intro j hj
        have hj' : j < n := by simpa using hj
        simp only [List.getElem_map, List.getElem_range]
        exact (hf j hj').2
end
end Go.Proofs.YtbdciiiimdbmkaaGreat
