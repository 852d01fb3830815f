/-
  strings.Join with nothing between, slices.Reverse at strings, at this translation, by the shelf's contracts: texts reversed, and put together. Conditions: as each theorem's premises say.
-/
import Derived.Shelf.Strings.OnBuilder
import Derived.Shelf.Slices.ReverseS
import Derived.Sort.OwnSorted
import Derived.Test.YtaebnkeddcbmkaaGx
namespace Go.Proofs.Ytaebnkeddcbmkaa
open Go.Shelf Go.RowKit Go.Lib
def tjRen : Go.Shelf.Ren := ⟨fun | 156 => 22 | 165 => 33 | 166 => 34 | 169 => 35 | 240 => 39 | 241 => 40 | 276 => 42 | 277 => 43 | n => n, fun | 31 => 22 | 9 => 9 | 3 => 3 | 4 => 4 | 0 => 0 | 20 => 20 | 72 => 57 | 76 => 61 | 70 => 54 | 37 => 55 | 75 => 60 | 127 => 72 | 164 => 74 | 5 => 5 | 80 => 63 | n => n, fun | n => n⟩
theorem tjLays : Lays.n156 Try.prog tjRen := {
  mixed := by kernel_rfl
  f156 := Try.func22.trans (congrArg some (by kernel_rfl))
  f165 := Try.func33.trans (congrArg some (by kernel_rfl))
  f166 := Try.func34.trans (congrArg some (by kernel_rfl))
  f169 := Try.func35.trans (congrArg some (by kernel_rfl))
  f240 := Try.func39.trans (congrArg some (by kernel_rfl))
  f241 := Try.func40.trans (congrArg some (by kernel_rfl))
  f276 := Try.func42.trans (congrArg some (by kernel_rfl))
  f277 := Try.func43.trans (congrArg some (by kernel_rfl))
  t0 := Try.underlying0
  a0 := Try.isAgg0
  z0 := Try.sizeOf0
  v0 := Try.zeroValue0
  t3 := Try.underlying3
  a3 := Try.isAgg3
  z3 := Try.sizeOf3
  v3 := Try.zeroValue3
  t4 := Try.underlying4
  a4 := Try.isAgg4
  z4 := Try.sizeOf4
  v4 := Try.zeroValue4
  t9 := Try.underlying9
  a9 := Try.isAgg9
  z9 := Try.sizeOf9
  v9 := Try.zeroValue9
  t20 := Try.underlying20
  a20 := Try.isAgg20
  z20 := Try.sizeOf20
  v20 := Try.zeroValue20
  t31 := Try.underlying22
  a31 := Try.isAgg22
  z31 := Try.sizeOf22
  v31 := Try.zeroValue22
  t37 := Try.underlying55
  a37 := Try.isAgg55
  z37 := Try.sizeOf55
  v37 := Try.zeroValue55
  t70 := Try.underlying54
  a70 := Try.isAgg54
  z70 := Try.sizeOf54
  v70 := Try.zeroValue54
  t72 := Try.underlying57
  a72 := Try.isAgg57
  z72 := Try.sizeOf57
  v72 := Try.zeroValue57
  t75 := Try.underlying60
  a75 := Try.isAgg60
  z75 := Try.sizeOf60
  v75 := Try.zeroValue60
  t76 := Try.underlying61
  a76 := Try.isAgg61
  z76 := Try.sizeOf61
  v76 := Try.zeroValue61
  t127 := Try.underlying72
  a127 := Try.isAgg72
  z127 := Try.sizeOf72
  v127 := Try.zeroValue72
  t164 := Try.underlying74
  a164 := Try.isAgg74
  z164 := Try.sizeOf74
  v164 := Try.zeroValue74 }
theorem tjExtra : Builder.Extra Try.prog tjRen := {
  sizeBuilder := by kernel_rfl
  liesBuilder := by kernel_rfl
  t5 := Try.underlying5
  a5 := Try.isAgg5
  z5 := Try.sizeOf5
  v5 := Try.zeroValue5
  infoByte := by kernel_rfl
  cellsByte := by kernel_rfl
  sizeByte := by kernel_rfl
  neB5 := by decide }
def tvRen : Go.Shelf.Ren := ⟨fun | 17 => 21 | n => n, fun | 24 => 22 | 9 => 9 | 3 => 3 | 4 => 4 | 0 => 0 | n => n, fun | n => n⟩
theorem tvLays : Lays2.n17 Try.prog tvRen := {
  mixed := by kernel_rfl
  f17 := Try.func21.trans (congrArg some (by kernel_rfl))
  t0 := Try.underlying0
  a0 := Try.isAgg0
  z0 := Try.sizeOf0
  v0 := Try.zeroValue0
  t3 := Try.underlying3
  a3 := Try.isAgg3
  z3 := Try.sizeOf3
  v3 := Try.zeroValue3
  t4 := Try.underlying4
  a4 := Try.isAgg4
  z4 := Try.sizeOf4
  v4 := Try.zeroValue4
  t9 := Try.underlying9
  a9 := Try.isAgg9
  z9 := Try.sizeOf9
  v9 := Try.zeroValue9
  t24 := Try.underlying22
  a24 := Try.isAgg22
  z24 := Try.sizeOf22
  v24 := Try.zeroValue22 }
/-- Texts, the last one first, as one. -/
def catR (P : List ByteArray) : ByteArray := ⟨((P.reverse.map fun s => s.data.toList).flatten).toArray⟩
theorem catR_nil : catR [] = ⟨#[]⟩ := rfl
theorem catR_snoc (P : List ByteArray) (s : ByteArray) : catR (P ++ [s]) = s ++ catR P := by
  apply ByteArray.ext
  unfold catR
  rw [List.reverse_append, List.reverse_singleton, List.singleton_append, List.map_cons, List.flatten_cons, ByteArray.data_append]
  apply Array.toList_inj.1
  simp
theorem catR_size (P : List ByteArray) : (catR P).size = Bm.sizeT P := by
  show (((P.reverse.map fun s => s.data.toList).flatten).toArray).size = _
  rw [List.size_toArray, List.length_flatten, List.map_map, List.map_reverse, List.sum_reverse]
  unfold Bm.sizeT
  congr 1
theorem join_none (l : List (List UInt8)) : Lib.join l [] = l.flatten := by
  unfold Lib.join
  induction l with
  | nil => rfl
  | cons x l ih =>
    cases l with
    | nil => simp [List.intercalate]
    | cons y l => simp [List.intercalate] at ih ⊢; exact ih
set_option maxRecDepth 100000 in
/-- Reversed in place. -/
theorem srevs_any (base : Nat) (v : Value) (P : List ByteArray) (w : World) (hP : P.length ≤ 1000000) (ho : OwnS w base v P) (hb : base ≤ w.heap.size) :
    Calls Try.prog 21 #[v] w fun e w' => e = .returned (.tuple #[]) ∧ (∃ A c, v = .slice A P.length c ∧ P.length ≤ c ∧ Reads w' A (strC P.reverse)) ∧ Below base w w' := by
  rcases ho.form with ⟨rfl, rfl⟩ | ⟨g, cap, post, rfl, hg, h1, h2, h3, hr⟩
  · refine (Any.slices_Reverse_string_empty tvLays none 0 w).mono ?_
    rintro e w' ⟨rfl, rfl⟩
    exact ⟨rfl, ⟨none, 0, rfl, Nat.le_refl _, fun h => absurd rfl h⟩, Below.refl _ _⟩
  · have hH : Sort.Holds encStr w g 0 (P.map fun s => s.data.toList).toArray := fun j hj => by
      rw [List.size_toArray, List.length_map] at hj
      rw [Nat.zero_add, hr.cell, List.getElem?_append_left (by rw [strC_length]; exact hj), strC_get? P j hj, hr.free]
      refine ⟨?_, rfl⟩
      rw [getElem!_pos _ j (by rw [List.size_toArray, List.length_map]; exact hj)]
      simp [encStr]
    have h4 := Any.slices_Reverse_string tvLays g 0 cap (P.map fun s => s.data.toList) w hH (by rw [List.length_map]; omega)
    rw [List.length_map] at h4
    refine h4.mono ?_
    rintro e w' ⟨rfl, n, rfl⟩
    have hgr : w.grownBy (Sort.putRow encStr (Sort.ahead w n) g 0 (P.map fun s => s.data.toList).reverse.toArray) (some g) := by
      have := grownBy_sorted (w := w) (g := g) (n := n) (os := #[]) (P.map fun s => s.data.toList).reverse.toArray
      rwa [Sort.grow_empty] at this
    have hH2 : Sort.Holds encStr (Sort.putRow encStr (Sort.ahead w n) g 0 (P.map fun s => s.data.toList).reverse.toArray) g 0 (P.map fun s => s.data.toList).reverse.toArray :=
      Sort.holds_putRow encStr (Sort.ahead w n) g 0 _ _ (show Sort.Holds encStr (Sort.ahead w n) g 0 (P.map fun s => s.data.toList).toArray from hH) (by simp)
    refine ⟨rfl, ⟨_, cap, rfl, h1, fun _ => ⟨g, 0, rfl, fun j hj => ?_⟩⟩, below_grown hgr hg hb⟩
    rw [strC_length, List.length_reverse] at hj
    rw [(hH2 j (by simpa using hj)).1, strC_get? _ j (by rw [List.length_reverse]; exact hj), getElem!_pos _ j (by simpa using hj)]
    simp [encStr]
/-- Put together. -/
theorem sjoin_any (A : Option Addr) (c : Nat) (l : List ByteArray) (w : World) (hl : l.length ≤ 1000000) (hc : l.length ≤ c) (hs : Bm.sizeT l ≤ 1000000) (hr : Reads w A (strC l)) :
    Calls Try.prog 22 #[.slice A l.length c, .string ⟨#[]⟩] w fun e w' => e = .returned (.string (catR l.reverse)) ∧ Below w.heap.size w w' := by
  rcases Nat.eq_zero_or_pos l.length with h0 | h0
  · obtain rfl := List.eq_nil_of_length_eq_zero h0
    refine (Any.strings_Join_none tjLays tjExtra A c ⟨#[]⟩ w).mono ?_
    rintro e w' ⟨rfl, rfl⟩
    exact ⟨rfl, Below.refl _ _⟩
  · obtain ⟨g, off, rfl, hcell⟩ := reads_str hr h0
    have hsz := catR_size l.reverse
    have hsr : Bm.sizeT l.reverse = Bm.sizeT l := by
      unfold Bm.sizeT
      rw [List.map_reverse, List.sum_reverse]
    have hj : (⟨(Lib.join (l.map (·.data.toList)) (⟨#[]⟩ : ByteArray).data.toList).toArray⟩ : ByteArray) = catR l.reverse := by
      rw [join_none]
      unfold catR
      rw [List.reverse_reverse]
    have h1 := Any.strings_Join tjLays tjExtra g off c l ⟨#[]⟩ w (fun j x hx => by
      obtain ⟨hj, rfl⟩ := List.getElem?_eq_some_iff.1 hx
      exact hcell j hj) (World.block_lt_of_cell? w _ (hcell 0 h0)) (by omega) hc (by
      have h2 := congrArg ByteArray.size hj
      rw [hsz, hsr] at h2
      have h3 : (⟨(Lib.join (l.map (·.data.toList)) (⟨#[]⟩ : ByteArray).data.toList).toArray⟩ : ByteArray).size = (Lib.join (l.map (·.data.toList)) (⟨#[]⟩ : ByteArray).data.toList).length := by
        show (_ : Array UInt8).size = _
        rw [List.size_toArray]
      omega)
    refine h1.mono ?_
    rintro e w' ⟨rfl, hb⟩
    exact ⟨by rw [hj], hb⟩
end Go.Proofs.Ytaebnkeddcbmkaa
