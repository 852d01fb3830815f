/-
  Layer 23 (link): a slice of deeds (a kind, a bool, a number, a text each) that came in, as a list. No condition.
-/
import Derived.Test.YtecelklpeealaaaQs
import Derived.ProofKit
import Derived.OpenShut
import Derived.ShutString
import Derived.Deep.Slices
import Derived.Deep.Fields
import Derived.Deep.Grids
namespace Go.Proofs.Ytecelklpeealaaa
open Go.RowKit Go.ChangeShapes Go.WideShapes

/-- A deed: its kind, from which side, its number, its text. -/
abbrev Led := Nat × Bool × Int × ByteArray
def Led.Ok (x : Led) : Prop := x.1 < 256 ∧ (-9223372036854775808 ≤ x.2.2.1 ∧ x.2.2.1 ≤ 9223372036854775807)
/-- The four cells of a deed, from this place on. -/
def LdCells (w : World) (g o : Nat) (x : Led) : Prop :=
  w.cell? ⟨g, o, none⟩ = some (.int .u8 (x.1 : Int)) ∧ w.cell? ⟨g, o + 1, none⟩ = some (.bool x.2.1) ∧ w.cell? ⟨g, o + 2, none⟩ = some (.int .i64 x.2.2.1) ∧ w.cell? ⟨g, o + 3, none⟩ = some (.string x.2.2.2)
theorem LdCells.below {w w' : World} {g o : Nat} {x : Led} {B : Nat} (h : LdCells w g o x) (hb : Below B w w') (hg : g < B) : LdCells w' g o x :=
  ⟨(hb.cell (p := ⟨g, o, none⟩) hg).trans h.1, (hb.cell (p := ⟨g, o + 1, none⟩) hg).trans h.2.1, (hb.cell (p := ⟨g, o + 2, none⟩) hg).trans h.2.2.1, (hb.cell (p := ⟨g, o + 3, none⟩) hg).trans h.2.2.2⟩
/-- A slice of deeds that came in. -/
def ArgLd (w : World) (A : Option Addr) (n c : Nat) (xs : List Led) : Prop := xs.length = n ∧ (∀ x ∈ xs, Led.Ok x) ∧
  (0 < n → ∃ g off, A = some ⟨g, off, none⟩ ∧ g < w.heap.size ∧ ∀ j (h : j < xs.length), LdCells w g (off + j * 4) xs[j]) ∧ n ≤ c ∧ c ≤ maxLen

section
variable {H : Type} {enc : TypeId × Value → H}
theorem arg_ld {w : World} {base : Nat} {spare : Nat → Bool} {held : Bool} {A : Option Addr} {n c : Nat} {fuel : Nat} {x : DataW H × List MemPlace}
    (h : DataW.trod enc Try.prog w base spare held fuel 22 [.slice A n c] = some x) : ∃ xs, ArgLd w A n c xs := by
  rcases Go.Deep.open_slice Try.underlying22 h with ⟨hcs, _⟩ | ⟨a, len, cap, m, nn, D, Pl, hcs, hb, hl, hm, hmm, hx, hi⟩
  · simp at hcs
    obtain ⟨rfl, rfl, rfl⟩ := hcs
    exact ⟨[], rfl, by simp, fun h => absurd h (by omega), Nat.le_refl _, by unfold maxLen; omega⟩
  · simp at hcs
    obtain ⟨rfl, rfl, rfl⟩ := hcs
    have hC : Try.prog.cellsOf 29 = 4 := by kernel_rfl
    have hone : ∀ i, i < n → ∃ x : Led, Led.Ok x ∧ w.cell? (a.add (i * 4)) = some (.int .u8 (x.1 : Int)) ∧ w.cell? (a.add (i * 4 + 1)) = some (.bool x.2.1) ∧ w.cell? (a.add (i * 4 + 2)) = some (.int .i64 x.2.2.1) ∧ w.cell? (a.add (i * 4 + 3)) = some (.string x.2.2.2) := by
      intro i hin
      obtain ⟨cs', hc, ht'⟩ := hi i (by rw [hmm]; split <;> omega)
      rw [hC] at hc
      obtain ⟨ys, n', hn', hy, hlen, hyl, hf⟩ := DataW.trod_struct Try.underlying29 ht'
      obtain ⟨_, hcl, hat⟩ := World.cells?_some hc
      have c8 : Try.prog.cellsOf 5 = 1 := by kernel_rfl
      have cb : Try.prog.cellsOf 4 = 1 := by kernel_rfl
      have ci : Try.prog.cellsOf 3 = 1 := by kernel_rfl
      have cst : Try.prog.cellsOf 9 = 1 := by kernel_rfl
      match cs', hcl with
      | [c0, c1, c2, c3], _ =>
        have hyl2 : ys.length = 4 := hyl
        match ys, hyl2 with
        | [y0, y1, y2, y3], _ =>
          have f0 : DataW.trod enc Try.prog w base spare held n' 5 (([c0, c1, c2, c3].drop 0).take (Try.prog.cellsOf 5)) = [y0, y1, y2, y3][0]? := hf 0 _ rfl
          have f1 : DataW.trod enc Try.prog w base spare held n' 4 (([c0, c1, c2, c3].drop 1).take (Try.prog.cellsOf 4)) = [y0, y1, y2, y3][1]? := hf 1 _ rfl
          have f2 : DataW.trod enc Try.prog w base spare held n' 3 (([c0, c1, c2, c3].drop 2).take (Try.prog.cellsOf 3)) = [y0, y1, y2, y3][2]? := hf 2 _ rfl
          have f3 : DataW.trod enc Try.prog w base spare held n' 9 (([c0, c1, c2, c3].drop 3).take (Try.prog.cellsOf 9)) = [y0, y1, y2, y3][3]? := hf 3 _ rfl
          rw [c8] at f0
          rw [cb] at f1
          rw [ci] at f2
          rw [cst] at f3
          simp only [List.drop_zero, List.drop_succ_cons, List.take_succ_cons, List.take_zero, List.getElem?_cons_zero, List.getElem?_cons_succ] at f0 f1 f2 f3
          obtain ⟨k, e0, _, wk⟩ := DataW.trod_int Try.underlying5 f0
          obtain ⟨u, e1, _⟩ := DataW.trod_bool Try.underlying4 f1
          obtain ⟨z, e2, _, wz⟩ := DataW.trod_int Try.underlying3 f2
          obtain ⟨s, e3, _, ws⟩ := DataW.trod_string Try.underlying9 f3
          simp at e0 e1 e2 e3
          subst e0 e1 e2 e3
          have b0 := bounds_u8 wk
          have b1 := bounds_i64 wz
          have h0 := hat 0 (by omega)
          have h1 := hat 1 (by omega)
          have h2 := hat 2 (by omega)
          have h3 := hat 3 (by omega)
          simp only [List.getElem?_cons_zero, List.getElem?_cons_succ] at h0 h1 h2 h3
          rw [Go.Deep.add_add] at h0 h1 h2 h3
          rw [Nat.add_zero] at h0
          refine ⟨(k.toNat, u, z, s), ⟨?_, b1⟩, ?_, h1, h2, h3⟩
          · show k.toNat < 256; omega
          · show _ = some (Value.int .u8 ((k.toNat : Nat) : Int))
            rw [Int.toNat_of_nonneg b0.1]; exact h0
    rcases Nat.eq_zero_or_pos n with h0 | h0
    · subst h0
      exact ⟨[], rfl, by simp, fun h => absurd h (by omega), by omega, hm⟩
    · obtain ⟨b, off, spot⟩ := a
      obtain ⟨x0, _, h1, _⟩ := hone 0 h0
      have hspot : spot = none := by simpa [Addr.add] using World.cell?_spot h1
      subst hspot
      have e : ∀ j, ((⟨b, off, none⟩ : Addr).add j) = ⟨b, off + j, none⟩ := fun j => by unfold Addr.add; split <;> simp_all
      have hch : ∀ m, m ≤ n → ∃ xs : List Led, xs.length = m ∧ (∀ x ∈ xs, Led.Ok x) ∧ ∀ j (h : j < xs.length), LdCells w b (off + j * 4) xs[j] := by
        intro m hm2
        induction m with
        | zero => exact ⟨[], rfl, by simp, fun j h => by simp at h⟩
        | succ m ih =>
          obtain ⟨xs, hxl, hxo, hxc⟩ := ih (by omega)
          obtain ⟨x, hxok, k0, k1, k2, k3⟩ := hone m (by omega)
          rw [e] at k0 k1 k2 k3
          refine ⟨xs ++ [x], by simp [hxl], fun y hy => ?_, fun j hj => ?_⟩
          · rcases List.mem_append.1 hy with hy | hy
            · exact hxo y hy
            · rw [List.mem_singleton.1 hy]; exact hxok
          · rw [List.length_append, List.length_singleton] at hj
            by_cases hjm : j < xs.length
            · rw [List.getElem_append_left hjm]; exact hxc j hjm
            · have : j = m := by omega
              subst this
              rw [List.getElem_append_right (by omega)]
              simp only [hxl, Nat.sub_self, List.getElem_cons_zero]
              exact ⟨k0, by rw [Nat.add_assoc]; exact k1, by rw [Nat.add_assoc]; exact k2, by rw [Nat.add_assoc]; exact k3⟩
      obtain ⟨xs, hxl, hxo, hxc⟩ := hch n (Nat.le_refl _)
      rw [e] at h1
      exact ⟨xs, hxl, hxo, fun _ => ⟨b, off, rfl, World.block_lt_of_cell? w _ h1, hxc⟩, hl, hm⟩
end
end Go.Proofs.Ytecelklpeealaaa
