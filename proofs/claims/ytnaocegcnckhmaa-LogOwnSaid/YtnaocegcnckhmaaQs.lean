/-
  Strings as cells, slices of strings that read as a list, cuts of such slices, one that came in, one that the call made. No condition beyond each theorem's premises.
-/
import Derived.Test.YtnaocegcnckhmaaIn
import Derived.SizedLaws
import Derived.SliceStrings
namespace Go.Proofs.Ytnaocegcnckhmaa
open Go.RowKit Go.ChangeShapes Go.WideShapes Go.ChangeAt

/-- The cells of a list of strings. -/
def strC (l : List ByteArray) : List Value := l.map Value.string
theorem strC_length (l : List ByteArray) : (strC l).length = l.length := by simp [strC]
theorem strC_get? (l : List ByteArray) (i : Nat) (h : i < l.length) : (strC l)[i]? = some (.string l[i]) := by simp [strC, h]
theorem strC_set (l : List ByteArray) (i : Nat) (s : ByteArray) : (strC l).set i (.string s) = strC (l.set i s) := by simp [strC, List.map_set]
theorem strC_nil {l : List ByteArray} (h : strC l ≠ []) : 0 < l.length := by
  rcases Nat.eq_zero_or_pos l.length with e | e
  · rw [List.eq_nil_of_length_eq_zero e] at h; simp [strC] at h
  · exact e
theorem reads_str {w : World} {A : Option Addr} {l : List ByteArray} (h : Reads w A (strC l)) (hne : 0 < l.length) : ∃ g off, A = some ⟨g, off, none⟩ ∧ ∀ j (hj : j < l.length), w.cell? ⟨g, off + j, none⟩ = some (.string l[j]) := by
  have hne' : strC l ≠ [] := fun e => by
    have h1 := congrArg List.length e
    rw [strC_length, List.length_nil] at h1
    omega
  obtain ⟨g, off, e, hc⟩ := h hne'
  exact ⟨g, off, e, fun j hj => by rw [hc j (by rw [strC_length]; exact hj), strC_get? l j hj]⟩

/-- A slice of strings that came in. -/
def ArgStr (w : World) (A : Option Addr) (n c : Nat) (l : List ByteArray) : Prop := l.length = n ∧ (∀ s ∈ l, s.size ≤ 140737488351232) ∧ Reads w A (strC l) ∧ n ≤ c ∧ c ≤ maxLen

section
variable {H : Type} {enc : TypeId × Value → H}
theorem weights_mem {P : Program} {e : TypeId} : ∀ (l : List ByteArray) (s : ByteArray), s ∈ l → s.data.toList.length ∈ DataW.weightsAll (H := H) P e (Go.ChangeShapes.strs l)
  | x :: l, s, h => by
    simp only [Go.ChangeShapes.strs, List.map_cons, DataW.weightsAll, DataW.weights, List.mem_append, List.mem_singleton]
    rcases List.mem_cons.1 h with h1 | h1
    · subst h1; exact Or.inl rfl
    · exact Or.inr (weights_mem l s h1)
theorem arg_strs {w : World} {base : Nat} {spare : Nat → Bool} {held : Bool} {A : Option Addr} {n c : Nat} {d : DataW H} {ps : List MemPlace}
    (h : DataW.Trod enc Try.prog w base spare held 27 (.slice A n c) d ps) (hz : ∀ m ∈ d.weights Try.prog 27, m ≤ reachBytes) : ∃ l, ArgStr w A n c l := by
  obtain ⟨fuel, hf⟩ := h
  have hC : Try.prog.cellsOf 9 = 1 := by kernel_rfl
  rcases open_strings Try.underlying27 Try.underlying9 hC hf with ⟨hcs, _⟩ | ⟨a, len, cap, ss, hcs, _, hl, hm, hlen, hx, hcell, hsz⟩
  · simp [Value.cells] at hcs
    obtain ⟨rfl, rfl, rfl⟩ := hcs
    exact ⟨[], rfl, fun s hs => by simp at hs, fun h => absurd rfl h, Nat.le_refl _, by unfold maxLen; omega⟩
  · simp [Value.cells] at hcs
    obtain ⟨rfl, rfl, rfl⟩ := hcs
    injection hx with hd _
    subst hd
    have hll : n ≤ ss.length := by
      rw [hlen]
      split <;> omega
    refine ⟨ss.take n, by rw [List.length_take]; omega, fun s hs => ?_, fun hne => ?_, hl, hm⟩
    · have h1 := hz s.data.toList.length (by
        simp only [DataW.weights, Try.underlying27]
        exact List.mem_cons_of_mem _ (List.mem_append_left _ (weights_mem _ s hs)))
      rw [Array.length_toList] at h1
      exact h1
    · have h0 : 0 < n := by
        have := strC_nil hne
        rw [List.length_take] at this
        omega
      have h1 := hcell 0 (by omega)
      obtain ⟨b, off, spot⟩ := a
      have hspot : spot = none := by simpa [Addr.add] using World.cell?_spot h1
      subst hspot
      refine ⟨b, off, rfl, fun j hj => ?_⟩
      rw [strC_length, List.length_take] at hj
      have h2 := hcell j (by omega)
      rw [show ((⟨b, off, none⟩ : Addr).add j) = ⟨b, off + j, none⟩ by unfold Addr.add; split <;> simp_all] at h2
      rw [h2, strC_get? _ _ (by rw [List.length_take]; omega), List.getElem_take, List.getD_eq_getElem?_getD, List.getElem?_eq_getElem (by omega)]
      rfl
end

/-- Where a slice goes on behind q of its elements. -/
def behindS (A : Option Addr) (c q : Nat) : Option Addr := if c = q then A else A.map (·.add q)
set_option maxRecDepth 100000 in
theorem scut_to (A : Option Addr) (L c q : Nat) (W : World) (h : q ≤ L) (hc : L ≤ c) : (Instr.slice 27 (.slice A L c) none (some (.int .i64 (q : Int))) none).run Try.prog W = .ok (.slice A q c) W := by
  have h1 : q ≤ c := by omega
  rcases A with _ | a
  · go_simp
  · go_simp
set_option maxRecDepth 100000 in
theorem scut_from (A : Option Addr) (L c q : Nat) (W : World) (h : q ≤ L) (hc : L ≤ c) : (Instr.slice 27 (.slice A L c) (some (.int .i64 (q : Int))) none none).run Try.prog W = .ok (.slice (behindS A c q) (L - q) (c - q)) W := by
  have h1 : q ≤ c := by omega
  unfold behindS
  by_cases hcq : c = q
  · subst hcq
    rcases A with _ | a
    · go_simp
    · go_simp
  · rcases A with _ | a
    · go_simp
    · go_simp
theorem sreads_behind {w : World} {A : Option Addr} {l : List ByteArray} {c q : Nat} (h : Reads w A (strC l)) (hc : l.length ≤ c) : Reads w (behindS A c q) (strC (l.drop q)) := fun hne => by
  have h0 := strC_nil hne
  rw [List.length_drop] at h0
  obtain ⟨g, off, e, hcell⟩ := reads_str h (by omega)
  refine ⟨g, off + q, ?_, fun j hj => ?_⟩
  · unfold behindS
    rw [if_neg (by omega), e]
    show some _ = _
    congr 1
    unfold Addr.add
    split <;> simp_all
  · rw [strC_length, List.length_drop] at hj
    rw [Nat.add_assoc, hcell (q + j) (by omega), strC_get? _ _ (by rw [List.length_drop]; omega), List.getElem_drop]
theorem sreads_take {w : World} {A : Option Addr} {l : List ByteArray} {k : Nat} (h : Reads w A (strC l)) : Reads w A (strC (l.take k)) := fun hne => by
  have h0 := strC_nil hne
  rw [List.length_take] at h0
  obtain ⟨g, off, e, hcell⟩ := reads_str h (by omega)
  refine ⟨g, off, e, fun j hj => ?_⟩
  rw [strC_length, List.length_take] at hj
  rw [hcell j (by omega), strC_get? _ _ (by rw [List.length_take]; omega), List.getElem_take]

theorem info_str1 : (Try.prog.info? 9).map (fun i => (i.zero, i.size, i.bytes)) = some (some (.string ⟨#[]⟩), 1, 16) := by kernel_rfl
theorem row_of_ownS {w : World} {base g n : Nat} (h : w.ownsRow base 9 1 (.slice (some ⟨g, 0, none⟩) n n) n (madeCells #[Value.string ⟨#[]⟩] n).toList) : Row w g 9 (strC (List.replicate n ⟨#[]⟩)) := by
  rcases h.2 with ⟨hv, _⟩ | ⟨g', cap, cur, hv, hb, hh, h1, h2, h3, h4⟩
  · cases hv
  · injection hv with e1 e2 e3
    injection e1 with e1
    injection e1 with e1
    subst e1 e3
    have e : cur.toList = strC (List.replicate n ⟨#[]⟩) := by
      rw [List.take_of_length_le (by rw [Array.length_toList]; omega)] at h4
      rw [h4, toList_madeCells_one]
      simp only [strC, List.map_replicate]
    unfold Row
    rw [← e, Array.toArray_toList]
    exact hh
end Go.Proofs.Ytnaocegcnckhmaa
