/-
  Layer 24 (frame): a slice of frames, a slice of pieces (a bool, a text each) that came in, as lists. No condition.
-/
import Derived.Test.YtckmdeiahpijcaaRi
import Derived.Test.YtckmdeiahpijcaaIn
import Derived.Test.YtckmdeiahpijcaaAr
import Derived.ProofKit
import Derived.OpenShut
import Derived.ShutString
import Derived.Deep.Slices
import Derived.Deep.Fields
namespace Go.Proofs.Ytckmdeiahpijcaa
open Go.RowKit Go.ChangeShapes Go.WideShapes

/-- A piece: put in by others or not, its bytes. -/
abbrev Fpc := Bool × List Nat
def FrOkA (x : Bm.Frm) : Prop := (-9223372036854775808 ≤ x.1 ∧ x.1 ≤ 9223372036854775807) ∧ (∀ c ∈ x.2, c < 256) ∧ x.2.length ≤ maxLen
/-- Its two cells, from this place on. -/
def FrCells (w : World) (g o : Nat) (x : Bm.Frm) : Prop := w.cell? ⟨g, o, none⟩ = some (.int .i64 x.1) ∧ w.cell? ⟨g, o + 1, none⟩ = some (.string (strOf x.2))
def ArgFr (w : World) (A : Option Addr) (n c : Nat) (xs : List Bm.Frm) : Prop := xs.length = n ∧ (∀ x ∈ xs, FrOkA x) ∧
  (0 < n → ∃ g off, A = some ⟨g, off, none⟩ ∧ g < w.heap.size ∧ ∀ j (h : j < xs.length), FrCells w g (off + j * 2) xs[j]) ∧ n ≤ c ∧ c ≤ maxLen
section
variable {H : Type} {enc : TypeId × Value → H}
set_option maxRecDepth 10000 in
theorem arg_fr {w : World} {base : Nat} {spare : Nat → Bool} {held : Bool} {A : Option Addr} {n c : Nat} {fuel : Nat} {x : DataW H × List MemPlace}
    (h : DataW.trod enc Try.prog w base spare held fuel 22 [.slice A n c] = some x) : ∃ xs, ArgFr w A n c xs := by
  rcases Go.Deep.open_slice Try.underlying22 h with ⟨hcs, _⟩ | ⟨a, len, cap, m, nn, D, Pl, hcs, hb, hl, hm, hmm, hx, hi⟩
  · simp at hcs
    obtain ⟨rfl, rfl, rfl⟩ := hcs
    exact ⟨[], rfl, by simp, fun h => absurd h (by omega), Nat.le_refl _, by unfold maxLen; omega⟩
  · simp at hcs
    obtain ⟨rfl, rfl, rfl⟩ := hcs
    have hC : Try.prog.cellsOf 30 = 2 := by kernel_rfl
    have hone : ∀ i, i < n → ∃ x : Bm.Frm, FrOkA x ∧ w.cell? (a.add (i * 2)) = some (.int .i64 x.1) ∧ w.cell? (a.add (i * 2 + 1)) = some (.string (strOf x.2)) := by
      intro i hin
      obtain ⟨cs', hc, ht'⟩ := hi i (by rw [hmm]; split <;> omega)
      rw [hC] at hc
      obtain ⟨ys, n', hn', hy, hlen, hyl, hf⟩ := DataW.trod_struct Try.underlying30 ht'
      obtain ⟨_, hcl, hat⟩ := World.cells?_some hc
      have ck : Try.prog.cellsOf 3 = 1 := by kernel_rfl
      have cst : Try.prog.cellsOf 9 = 1 := by kernel_rfl
      match cs', hcl with
      | [c0, c1], _ =>
        have hyl2 : ys.length = 2 := hyl
        match ys, hyl2 with
        | [y0, y1], _ =>
          have f0 : DataW.trod enc Try.prog w base spare held n' 3 (([c0, c1].drop 0).take (Try.prog.cellsOf 3)) = [y0, y1][0]? := hf 0 _ rfl
          have f1 : DataW.trod enc Try.prog w base spare held n' 9 (([c0, c1].drop 1).take (Try.prog.cellsOf 9)) = [y0, y1][1]? := hf 1 _ rfl
          rw [ck] at f0
          rw [cst] at f1
          simp only [List.drop_zero, List.drop_succ_cons, List.take_succ_cons, List.take_zero, List.getElem?_cons_zero, List.getElem?_cons_succ] at f0 f1
          obtain ⟨z, e0, _, wz⟩ := DataW.trod_int Try.underlying3 f0
          obtain ⟨s, e1, _, ws⟩ := DataW.trod_string Try.underlying9 f1
          simp at e0 e1
          subst e0 e1
          have h0 := hat 0 (by omega)
          have h1 := hat 1 (by omega)
          simp only [List.getElem?_cons_zero, List.getElem?_cons_succ] at h0 h1
          rw [Go.Deep.add_add] at h0 h1
          rw [Nat.add_zero] at h0
          have e := strOf_size (bytesIn s)
          rw [strOf_in] at e
          exact ⟨(z, bytesIn s), ⟨bounds_i64 wz, in_lt s, by show (bytesIn s).length ≤ maxLen; omega⟩, h0, by show _ = some (Value.string (strOf (bytesIn s))); rw [strOf_in]; exact h1⟩
    rcases Nat.eq_zero_or_pos n with h0 | h0
    · subst h0
      exact ⟨[], rfl, by simp, fun h => absurd h (by omega), hl, hm⟩
    · obtain ⟨b, off, spot⟩ := a
      obtain ⟨_, _, h1, _⟩ := hone 0 h0
      have hspot : spot = none := by simpa [Addr.add] using World.cell?_spot h1
      subst hspot
      have e : ∀ j, ((⟨b, off, none⟩ : Addr).add j) = ⟨b, off + j, none⟩ := fun j => by unfold Addr.add; split <;> simp_all
      have hbl : b < w.heap.size := by
        rw [e] at h1
        exact World.block_lt_of_cell? w _ h1
      have hex : ∀ i : Nat, ∃ x : Bm.Frm, i < n → FrOkA x ∧ FrCells w b (off + i * 2) x := by
        intro i
        by_cases hin : i < n
        · obtain ⟨x, hx, k0, k1⟩ := hone i hin
          rw [e] at k0 k1
          exact ⟨x, fun _ => ⟨hx, k0, by rw [Nat.add_assoc]; exact k1⟩⟩
        · exact ⟨(0, []), fun h => absurd h hin⟩
      obtain ⟨f, hf⟩ := Classical.axiomOfChoice hex
      refine ⟨(List.range n).map f, by simp, ?_, fun _ => ⟨b, off, rfl, hbl, ?_⟩, hl, hm⟩
      · intro p hp
        simp only [List.mem_map, List.mem_range] at hp
        obtain ⟨i, hi, rfl⟩ := hp
        exact (hf i hi).1
      · intro j hj
        have hj' : j < n := by simpa using hj
        simp only [List.getElem_map, List.getElem_range]
        exact (hf j hj').2
end
def FpOkA (x : Fpc) : Prop := (∀ c ∈ x.2, c < 256) ∧ x.2.length ≤ maxLen
/-- Its two cells, from this place on. -/
def FpCells (w : World) (g o : Nat) (x : Fpc) : Prop := w.cell? ⟨g, o, none⟩ = some (.bool x.1) ∧ w.cell? ⟨g, o + 1, none⟩ = some (.string (strOf x.2))
def ArgFp (w : World) (A : Option Addr) (n c : Nat) (xs : List Fpc) : Prop := xs.length = n ∧ (∀ x ∈ xs, FpOkA x) ∧
  (0 < n → ∃ g off, A = some ⟨g, off, none⟩ ∧ g < w.heap.size ∧ ∀ j (h : j < xs.length), FpCells w g (off + j * 2) xs[j]) ∧ n ≤ c ∧ c ≤ maxLen
section
variable {H : Type} {enc : TypeId × Value → H}
set_option maxRecDepth 10000 in
theorem arg_fp {w : World} {base : Nat} {spare : Nat → Bool} {held : Bool} {A : Option Addr} {n c : Nat} {fuel : Nat} {x : DataW H × List MemPlace}
    (h : DataW.trod enc Try.prog w base spare held fuel 42 [.slice A n c] = some x) : ∃ xs, ArgFp w A n c xs := by
  rcases Go.Deep.open_slice Try.underlying42 h with ⟨hcs, _⟩ | ⟨a, len, cap, m, nn, D, Pl, hcs, hb, hl, hm, hmm, hx, hi⟩
  · simp at hcs
    obtain ⟨rfl, rfl, rfl⟩ := hcs
    exact ⟨[], rfl, by simp, fun h => absurd h (by omega), Nat.le_refl _, by unfold maxLen; omega⟩
  · simp at hcs
    obtain ⟨rfl, rfl, rfl⟩ := hcs
    have hC : Try.prog.cellsOf 44 = 2 := by kernel_rfl
    have hone : ∀ i, i < n → ∃ x : Fpc, FpOkA x ∧ w.cell? (a.add (i * 2)) = some (.bool x.1) ∧ w.cell? (a.add (i * 2 + 1)) = some (.string (strOf x.2)) := by
      intro i hin
      obtain ⟨cs', hc, ht'⟩ := hi i (by rw [hmm]; split <;> omega)
      rw [hC] at hc
      obtain ⟨ys, n', hn', hy, hlen, hyl, hf⟩ := DataW.trod_struct Try.underlying44 ht'
      obtain ⟨_, hcl, hat⟩ := World.cells?_some hc
      have ck : Try.prog.cellsOf 4 = 1 := by kernel_rfl
      have cst : Try.prog.cellsOf 9 = 1 := by kernel_rfl
      match cs', hcl with
      | [c0, c1], _ =>
        have hyl2 : ys.length = 2 := hyl
        match ys, hyl2 with
        | [y0, y1], _ =>
          have f0 : DataW.trod enc Try.prog w base spare held n' 4 (([c0, c1].drop 0).take (Try.prog.cellsOf 4)) = [y0, y1][0]? := hf 0 _ rfl
          have f1 : DataW.trod enc Try.prog w base spare held n' 9 (([c0, c1].drop 1).take (Try.prog.cellsOf 9)) = [y0, y1][1]? := hf 1 _ rfl
          rw [ck] at f0
          rw [cst] at f1
          simp only [List.drop_zero, List.drop_succ_cons, List.take_succ_cons, List.take_zero, List.getElem?_cons_zero, List.getElem?_cons_succ] at f0 f1
          obtain ⟨z, e0, _⟩ := DataW.trod_bool Try.underlying4 f0
          obtain ⟨s, e1, _, ws⟩ := DataW.trod_string Try.underlying9 f1
          simp at e0 e1
          subst e0 e1
          have h0 := hat 0 (by omega)
          have h1 := hat 1 (by omega)
          simp only [List.getElem?_cons_zero, List.getElem?_cons_succ] at h0 h1
          rw [Go.Deep.add_add] at h0 h1
          rw [Nat.add_zero] at h0
          have e := strOf_size (bytesIn s)
          rw [strOf_in] at e
          exact ⟨(z, bytesIn s), ⟨in_lt s, by show (bytesIn s).length ≤ maxLen; omega⟩, h0, by show _ = some (Value.string (strOf (bytesIn s))); rw [strOf_in]; exact h1⟩
    rcases Nat.eq_zero_or_pos n with h0 | h0
    · subst h0
      exact ⟨[], rfl, by simp, fun h => absurd h (by omega), hl, hm⟩
    · obtain ⟨b, off, spot⟩ := a
      obtain ⟨_, _, h1, _⟩ := hone 0 h0
      have hspot : spot = none := by simpa [Addr.add] using World.cell?_spot h1
      subst hspot
      have e : ∀ j, ((⟨b, off, none⟩ : Addr).add j) = ⟨b, off + j, none⟩ := fun j => by unfold Addr.add; split <;> simp_all
      have hbl : b < w.heap.size := by
        rw [e] at h1
        exact World.block_lt_of_cell? w _ h1
      have hex : ∀ i : Nat, ∃ x : Fpc, i < n → FpOkA x ∧ FpCells w b (off + i * 2) x := by
        intro i
        by_cases hin : i < n
        · obtain ⟨x, hx, k0, k1⟩ := hone i hin
          rw [e] at k0 k1
          exact ⟨x, fun _ => ⟨hx, k0, by rw [Nat.add_assoc]; exact k1⟩⟩
        · exact ⟨(false, []), fun h => absurd h hin⟩
      obtain ⟨f, hf⟩ := Classical.axiomOfChoice hex
      refine ⟨(List.range n).map f, by simp, ?_, fun _ => ⟨b, off, rfl, hbl, ?_⟩, hl, hm⟩
      · intro p hp
        simp only [List.mem_map, List.mem_range] at hp
        obtain ⟨i, hi, rfl⟩ := hp
        exact (hf i hi).1
      · intro j hj
        have hj' : j < n := by simpa using hj
        simp only [List.getElem_map, List.getElem_range]
        exact (hf j hj').2
end
end Go.Proofs.Ytckmdeiahpijcaa
