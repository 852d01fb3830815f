/-
  Layer 24 (frame): frames in memory: compared, a slice of them that the call owns, one more behind it; the laws' same. Conditions: as each theorem's premises say.
-/
import Derived.Test.YtfopnbfaaikghaaXv
import Derived.Deep.AppendLies
import Derived.Lib.OwnKind
import Derived.OneCell
import Derived.Laws.StructEq
import Derived.Deep.DeepCutAuto
namespace Go.Proofs.Ytfopnbfaaikghaa
open Go.RowKit

set_option maxRecDepth 100000 in
theorem fr_equal (f g : Bm.Frm) (W : World) (hf : ∀ x ∈ f.2, x < 256) (hg : ∀ x ∈ g.2, x < 256) : (Op.equalIn 10000 28 (frV f) (frV g)).run Try.prog W = .ok (decide (f = g)) W := by
  obtain ⟨a, l⟩ := f
  obtain ⟨b, m⟩ := g
  unfold frV
  dsimp only at hf hg ⊢
  have hb := strOf_beq l m hf hg
  rw [run_equalIn_struct W 9999 _ _ _ (by kernel_rfl) (by kernel_rfl)]
  have hfl : (Try.prog.fieldsOf 28).toList.map (fun f => (f.name, f.type, f.offset)) = [("Kind", 3, 0), ("Body", 9, 1)] := by kernel_rfl
  generalize (Try.prog.fieldsOf 28).toList = F at hfl
  have hF : ∃ f0 f1, F = [f0, f1] := by
    rcases F with _ | ⟨f0, _ | ⟨f1, _ | ⟨f2, F⟩⟩⟩
    · cases hfl
    · simp at hfl
    · exact ⟨f0, f1, rfl⟩
    · simp at hfl
  obtain ⟨f0, f1, rfl⟩ := hF
  simp only [List.map_cons, List.map_nil, List.cons.injEq, Prod.mk.injEq, and_true] at hfl
  obtain ⟨⟨n0, t0, o0⟩, n1, t1, o1⟩ := hfl
  have c0 : Try.prog.cellsOf 3 = 1 := by kernel_rfl
  have c1 : Try.prog.cellsOf 9 = 1 := by kernel_rfl
  have k1 : "Kind" ≠ "_" := by decide
  have k2 : "Body" ≠ "_" := by decide
  have he0 : ∀ (x y : Int) (W : World), (Op.equalIn 9999 3 (.int .i64 x) (.int .i64 y)).run Try.prog W = .ok (x == y) W := fun x y W => run_equalIn_int W 9998 _ _ _ x y Try.underlying3
  have he1 : ∀ (x y : ByteArray) (W : World), (Op.equalIn 9999 9 (.string x) (.string y)).run Try.prog W = .ok (x.toList == y.toList) W := fun x y W => run_equalIn_string W 9998 _ x y Try.underlying9
  simp only [Op.eqFields, n0, t0, o0, n1, t1, o1]
  rw [if_pos k1, if_pos k2]
  go_simp
  by_cases h1 : a = b
  · by_cases h2 : l = m
    · simp [h1, h2]
    · simp [h1, h2]
  · simp [h1]
theorem fr_guard : Try.prog.eqGuardType Try.prog.depth 28 = false := by kernel_rfl
theorem fr_neq (f g : Bm.Frm) (W : World) (hf : ∀ x ∈ f.2, x < 256) (hg : ∀ x ∈ g.2, x < 256) : (binOp .neq 28 (frV f) (frV g)).run Try.prog W = .ok (.bool (!decide (f = g))) W := by
  have h := fr_equal f g W hf hg
  unfold frV at h ⊢
  rw [run_neq_struct, h]
  rfl
theorem fr_eql (f g : Bm.Frm) (W : World) (hf : ∀ x ∈ f.2, x < 256) (hg : ∀ x ∈ g.2, x < 256) : (binOp .eql 28 (frV f) (frV g)).run Try.prog W = .ok (.bool (decide (f = g))) W := by
  have h := fr_equal f g W hf hg
  unfold frV at h ⊢
  rw [run_eql_struct, h]
  rfl

/-- The cells of frames, one behind the other. -/
def frC (T : List Bm.Frm) : List Value := T.flatMap frL
theorem frC_length (T : List Bm.Frm) : (frC T).length = T.length * 2 := by
  induction T with
  | nil => rfl
  | cons p T ih => simp only [frC, frL, List.flatMap_cons, List.length_append, List.length_cons, List.length_nil] at ih ⊢; omega
theorem frC_snoc (T : List Bm.Frm) (f : Bm.Frm) : frC T ++ frL f = frC (T ++ [f]) := by simp [frC]
theorem frC_append (T S : List Bm.Frm) : frC T ++ frC S = frC (T ++ S) := by simp [frC]
theorem frC_get (T : List Bm.Frm) (j : Nat) (h : j < T.length) : (frC T)[j * 2]? = some (.int .i64 T[j].1) ∧ (frC T)[j * 2 + 1]? = some (.string (strOf T[j].2)) := by
  induction T generalizing j with
  | nil => simp at h
  | cons p T ih =>
    cases j with
    | zero => simp [frC, frL]
    | succ j =>
      have h1 := ih j (by simpa using h)
      have e : frC (p :: T) = .int .i64 p.1 :: .string (strOf p.2) :: frC T := by simp [frC, frL]
      rw [e, show (j + 1) * 2 = j * 2 + 1 + 1 by omega]
      simpa using h1
theorem info_fr : (Try.prog.info? 28).map (fun i => (i.zero, i.size, i.bytes)) = some (some (.agg #[.int .i64 0, .string ⟨#[]⟩]), 2, 24) := by kernel_rfl
/-- Frames where a slice begins. -/
def FrR (w : World) (A : Option Addr) (T : List Bm.Frm) : Prop := 0 < T.length → ∃ g off, A = some ⟨g, off, none⟩ ∧ g < w.heap.size ∧ ∀ j (hj : j < T.length), w.cell? ⟨g, off + j * 2, none⟩ = some (.int .i64 T[j].1) ∧ w.cell? ⟨g, off + j * 2 + 1, none⟩ = some (.string (strOf T[j].2))
theorem FrR.below {w w' : World} {A : Option Addr} {T : List Bm.Frm} (h : FrR w A T) {B : Nat} (hb : Below B w w') (hB : ∀ g off, A = some ⟨g, off, none⟩ → g < B) : FrR w' A T := fun h0 => by
  obtain ⟨g, off, e, hg, hc⟩ := h h0
  have hgB := hB g off e
  exact ⟨g, off, e, Nat.lt_of_lt_of_le hg hb.size, fun j hj => ⟨(hb.cell (p := ⟨g, off + j * 2, none⟩) hgB).trans (hc j hj).1, (hb.cell (p := ⟨g, off + j * 2 + 1, none⟩) hgB).trans (hc j hj).2⟩⟩
/-- Frames that the call owns, nil or a row. -/
def FrO (w : World) (base : Nat) (v : Value) (T : List Bm.Frm) : Prop := w.ownsRow base 28 2 v T.length (frC T)
theorem frO_nil (w : World) (base : Nat) : FrO w base (.slice none 0 0) [] := ⟨rfl, .inl ⟨rfl, rfl⟩⟩
theorem FrO.reads {w : World} {base : Nat} {v : Value} {T : List Bm.Frm} (h : FrO w base v T) : ∃ A c, v = .slice A T.length c ∧ T.length ≤ c ∧ c ≤ maxLen ∧ FrR w A T ∧ ∀ g off, A = some ⟨g, off, none⟩ → base ≤ g ∧ g < w.heap.size ∧ v.ownBlock = some g := by
  have hw := h
  rcases h.2 with ⟨hv, h0⟩ | ⟨g, cap, cur, hv, hb, hh, h1, h2, h3, h4⟩
  · have := List.eq_nil_of_length_eq_zero h0
    subst this
    exact ⟨none, 0, hv, Nat.le_refl _, Nat.zero_le _, fun h => absurd h (by simp), fun g off e => by cases e⟩
  · have hg : g < w.heap.size := by
      rcases Nat.lt_or_ge g w.heap.size with h1 | h1
      · exact h1
      · rw [Array.getElem?_eq_none h1] at hh; cases hh
    refine ⟨some ⟨g, 0, none⟩, cap, hv, h1, h2, fun _ => ⟨g, 0, rfl, hg, fun j hj => ?_⟩, fun g' off e => ?_⟩
    · obtain ⟨h5, h6⟩ := frC_get T j hj
      have c0 := hw.cells (g := g) (by rw [hv]; rfl) (j * 2) _ h5
      have c1 := hw.cells (g := g) (by rw [hv]; rfl) (j * 2 + 1) _ h6
      rw [add_zero_off] at c0 c1
      rw [Nat.zero_add]
      exact ⟨c0, c1⟩
    · injection e with e
      injection e with e _
      subst e
      exact ⟨hb, hg, by rw [hv]; rfl⟩
theorem FrO.below {w w' : World} {base : Nat} {v : Value} {T : List Bm.Frm} (h : FrO w base v T) (hb : Below w.heap.size w w') : FrO w' base v T :=
  h.kept (row := none) (grown_below hb none) (by cases v.ownBlock <;> simp)
theorem FrO.drewN {w : World} {base : Nat} {v : Value} {T : List Bm.Frm} (h : FrO w base v T) (k : Nat) : FrO (w.drewN k) base v T := h.below ⟨rfl, rfl, rfl, Nat.le_refl _, fun _ _ => rfl⟩
/-- What a call of another one's memory leaves. -/
theorem FrO.grown {w w' : World} {base b : Nat} {v : Value} {T : List Bm.Frm} {t : TypeId} {cs : List Value} (h : FrO w base v T) (hg : w.grownBy w' (some b)) (hr : Row w b t cs) (ht : 28 ≠ t) : FrO w' base v T :=
  h.kept hg (by
    rcases hv : v.ownBlock with _ | g
    · exact .inl rfl
    · refine .inr (fun e => ?_)
      injection e with e
      subst e
      obtain ⟨c, fz, hk⟩ := Lib.ownsRow_kind h g hv
      unfold Row at hr
      rw [hr] at hk
      injection hk with hk
      injection hk with _ hk
      exact ht hk.symm)
theorem FrO.ne {w : World} {base b : Nat} {v : Value} {T : List Bm.Frm} {t : TypeId} {cs : List Value} (h : FrO w base v T) (hr : Row w b t cs) (ht : 28 ≠ t) : v.ownBlock ≠ some b := fun e => by
  obtain ⟨c, fz, hk⟩ := Lib.ownsRow_kind h b e
  unfold Row at hr
  rw [hr] at hk
  injection hk with hk
  injection hk with _ hk
  exact ht hk.symm
end Go.Proofs.Ytfopnbfaaikghaa
