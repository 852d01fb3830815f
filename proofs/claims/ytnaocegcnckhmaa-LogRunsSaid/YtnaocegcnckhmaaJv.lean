/-
  Layer 26 (log): a slice of deeds (a kind, a number, a text each) that came in, as a list. No condition.
-/
import Derived.Test.YtnaocegcnckhmaaQs
import Derived.ProofKit
import Derived.OpenShut
import Derived.ShutString
import Derived.Deep.Slices
import Derived.Deep.Fields
import Derived.Deep.Grids
namespace Go.Proofs.Ytnaocegcnckhmaa
open Go.RowKit Go.ChangeShapes Go.WideShapes

/-- A deed: its kind, its number, its text. -/
abbrev LgD := Nat × Int × ByteArray
def LgD.Ok (x : LgD) : Prop := x.1 < 256 ∧ (-9223372036854775808 ≤ x.2.1 ∧ x.2.1 ≤ 9223372036854775807)
/-- The three cells of a deed, from this place on. -/
def LgCells (w : World) (g o : Nat) (x : LgD) : Prop :=
  w.cell? ⟨g, o, none⟩ = some (.int .u8 (x.1 : Int)) ∧ w.cell? ⟨g, o + 1, none⟩ = some (.int .i64 x.2.1) ∧ w.cell? ⟨g, o + 2, none⟩ = some (.string x.2.2)
theorem LgCells.below {w w' : World} {g o : Nat} {x : LgD} {B : Nat} (h : LgCells w g o x) (hb : Below B w w') (hg : g < B) : LgCells w' g o x :=
  ⟨(hb.cell (p := ⟨g, o, none⟩) hg).trans h.1, (hb.cell (p := ⟨g, o + 1, none⟩) hg).trans h.2.1, (hb.cell (p := ⟨g, o + 2, none⟩) hg).trans h.2.2⟩
/-- A slice of deeds that came in. -/
def ArgLg (w : World) (A : Option Addr) (n c : Nat) (xs : List LgD) : Prop := xs.length = n ∧ (∀ x ∈ xs, LgD.Ok x) ∧
  (0 < n → ∃ g off, A = some ⟨g, off, none⟩ ∧ g < w.heap.size ∧ ∀ j (h : j < xs.length), LgCells w g (off + j * 3) xs[j]) ∧ n ≤ c ∧ c ≤ maxLen

section
variable {H : Type} {enc : TypeId × Value → H}
theorem arg_lg {w : World} {base : Nat} {spare : Nat → Bool} {held : Bool} {A : Option Addr} {n c : Nat} {fuel : Nat} {x : DataW H × List MemPlace}
    (h : DataW.trod enc Try.prog w base spare held fuel 22 [.slice A n c] = some x) : ∃ xs, ArgLg w A n c xs := by
  rcases Go.Deep.open_slice Try.underlying22 h with ⟨hcs, _⟩ | ⟨a, len, cap, m, nn, D, Pl, hcs, hb, hl, hm, hmm, hx, hi⟩
  · simp at hcs
    obtain ⟨rfl, rfl, rfl⟩ := hcs
    exact ⟨[], rfl, by simp, fun h => absurd h (by omega), Nat.le_refl _, by unfold maxLen; omega⟩
  · simp at hcs
    obtain ⟨rfl, rfl, rfl⟩ := hcs
    have hC : Try.prog.cellsOf 31 = 3 := by kernel_rfl
    have hone : ∀ i, i < n → ∃ x : LgD, LgD.Ok x ∧ w.cell? (a.add (i * 3)) = some (.int .u8 (x.1 : Int)) ∧ w.cell? (a.add (i * 3 + 1)) = some (.int .i64 x.2.1) ∧ w.cell? (a.add (i * 3 + 2)) = some (.string x.2.2) := by
      intro i hin
      obtain ⟨cs', hc, ht'⟩ := hi i (by rw [hmm]; split <;> omega)
      rw [hC] at hc
      obtain ⟨ys, n', hn', hy, hlen, hyl, hf⟩ := DataW.trod_struct Try.underlying31 ht'
      obtain ⟨_, hcl, hat⟩ := World.cells?_some hc
      have c8 : Try.prog.cellsOf 5 = 1 := by kernel_rfl
      have ci : Try.prog.cellsOf 3 = 1 := by kernel_rfl
      have cst : Try.prog.cellsOf 9 = 1 := by kernel_rfl
      match cs', hcl with
      | [c0, c1, c2], _ =>
        have hyl2 : ys.length = 3 := hyl
        match ys, hyl2 with
        | [y0, y1, y2], _ =>
          have f0 : DataW.trod enc Try.prog w base spare held n' 5 (([c0, c1, c2].drop 0).take (Try.prog.cellsOf 5)) = [y0, y1, y2][0]? := hf 0 _ rfl
          have f1 : DataW.trod enc Try.prog w base spare held n' 3 (([c0, c1, c2].drop 1).take (Try.prog.cellsOf 3)) = [y0, y1, y2][1]? := hf 1 _ rfl
          have f2 : DataW.trod enc Try.prog w base spare held n' 9 (([c0, c1, c2].drop 2).take (Try.prog.cellsOf 9)) = [y0, y1, y2][2]? := hf 2 _ rfl
          rw [c8] at f0
          rw [ci] at f1
          rw [cst] at f2
          simp only [List.drop_zero, List.drop_succ_cons, List.take_succ_cons, List.take_zero, List.getElem?_cons_zero, List.getElem?_cons_succ] at f0 f1 f2
          obtain ⟨k, e0, _, wk⟩ := DataW.trod_int Try.underlying5 f0
          obtain ⟨z, e1, _, wz⟩ := DataW.trod_int Try.underlying3 f1
          obtain ⟨s, e2, _, ws⟩ := DataW.trod_string Try.underlying9 f2
          simp at e0 e1 e2
          subst e0 e1 e2
          have b0 := bounds_u8 wk
          have b1 := bounds_i64 wz
          have h0 := hat 0 (by omega)
          have h1 := hat 1 (by omega)
          have h2 := hat 2 (by omega)
          simp only [List.getElem?_cons_zero, List.getElem?_cons_succ] at h0 h1 h2
          rw [Go.Deep.add_add] at h0 h1 h2
          rw [Nat.add_zero] at h0
          refine ⟨(k.toNat, z, s), ⟨?_, b1⟩, ?_, h1, h2⟩
          · show k.toNat < 256; omega
          · show _ = some (Value.int .u8 ((k.toNat : Nat) : Int))
            rw [Int.toNat_of_nonneg b0.1]; exact h0
    rcases Nat.eq_zero_or_pos n with h0 | h0
    · subst h0
      exact ⟨[], rfl, by simp, fun h => absurd h (by omega), by omega, hm⟩
    · obtain ⟨b, off, spot⟩ := a
      obtain ⟨x0, _, h1, _⟩ := hone 0 h0
      have hspot : spot = none := by simpa [Addr.add] using World.cell?_spot h1
      subst hspot
      have e : ∀ j, ((⟨b, off, none⟩ : Addr).add j) = ⟨b, off + j, none⟩ := fun j => by unfold Addr.add; split <;> simp_all
      have hch : ∀ m, m ≤ n → ∃ xs : List LgD, xs.length = m ∧ (∀ x ∈ xs, LgD.Ok x) ∧ ∀ j (h : j < xs.length), LgCells w b (off + j * 3) xs[j] := by
        intro m hm2
        induction m with
        | zero => exact ⟨[], rfl, by simp, fun j h => by simp at h⟩
        | succ m ih =>
          obtain ⟨xs, hxl, hxo, hxc⟩ := ih (by omega)
          obtain ⟨x, hxok, k0, k1, k2⟩ := hone m (by omega)
          rw [e] at k0 k1 k2
          refine ⟨xs ++ [x], by simp [hxl], fun y hy => ?_, fun j hj => ?_⟩
          · rcases List.mem_append.1 hy with hy | hy
            · exact hxo y hy
            · rw [List.mem_singleton.1 hy]; exact hxok
          · rw [List.length_append, List.length_singleton] at hj
            by_cases hjm : j < xs.length
            · rw [List.getElem_append_left hjm]; exact hxc j hjm
            · have : j = m := by omega
              subst this
              rw [List.getElem_append_right (by omega)]
              simp only [hxl, Nat.sub_self, List.getElem_cons_zero]
              exact ⟨k0, by rw [Nat.add_assoc]; exact k1, by rw [Nat.add_assoc]; exact k2⟩
      obtain ⟨xs, hxl, hxo, hxc⟩ := hch n (Nat.le_refl _)
      rw [e] at h1
      exact ⟨xs, hxl, hxo, fun _ => ⟨b, off, rfl, World.block_lt_of_cell? w _ h1, hxc⟩, hl, hm⟩
end
end Go.Proofs.Ytnaocegcnckhmaa
