/-
  strings.Index at this translation, by the shelf's contract: where a gram of a text is first; the library's own variable that it reads holds some int, and keeps it. Conditions: as each theorem's premises say.
-/
import Derived.Shelf.Strings.Search3
import Derived.Shelf.Strings.Shaped
import Derived.Test.YtaebnkeddcbmkaaGm
import Derived.Test.YtaebnkeddcbmkaaGw
import Derived.Laws.DeepStrings4
namespace Go.Proofs.Ytaebnkeddcbmkaa
open Go.Shelf Go.RowKit Go.Lib
def ixRen : Go.Shelf.Ren := ⟨fun | 143 => 36 | 219 => 41 | 217 => 44 | 225 => 45 | 224 => 46 | 267 => 47 | 266 => 48 | 314 => 49 | n => n, fun | 9 => 9 | 3 => 3 | 4 => 4 | 5 => 5 | 46 => 79 | 146 => 81 | 51 => 80 | n => n, fun | 1 => 0 | n => n⟩
theorem ixLays : LaysM.n143 Try.prog ixRen := {
  mixed := by kernel_rfl
  f143 := Try.func36.trans (congrArg some (by kernel_rfl))
  f217 := Try.func44.trans (congrArg some (by kernel_rfl))
  f219 := Try.func41.trans (congrArg some (by kernel_rfl))
  f224 := Try.func46.trans (congrArg some (by kernel_rfl))
  f225 := Try.func45.trans (congrArg some (by kernel_rfl))
  f266 := Try.func48.trans (congrArg some (by kernel_rfl))
  f267 := Try.func47.trans (congrArg some (by kernel_rfl))
  f314 := Try.func49.trans (congrArg some (by kernel_rfl))
  t3 := Try.underlying3
  a3 := Try.isAgg3
  z3 := Try.sizeOf3
  v3 := Try.zeroValue3
  t4 := Try.underlying4
  a4 := Try.isAgg4
  z4 := Try.sizeOf4
  v4 := Try.zeroValue4
  t5 := Try.underlying5
  a5 := Try.isAgg5
  z5 := Try.sizeOf5
  v5 := Try.zeroValue5
  t9 := Try.underlying9
  a9 := Try.isAgg9
  z9 := Try.sizeOf9
  v9 := Try.zeroValue9
  t46 := Try.underlying79
  a46 := Try.isAgg79
  z46 := Try.sizeOf79
  v46 := Try.zeroValue79
  t51 := Try.underlying80
  a51 := Try.isAgg80
  z51 := Try.sizeOf80
  v51 := Try.zeroValue80
  t146 := Try.underlying81
  a146 := Try.isAgg81
  z146 := Try.sizeOf81
  v146 := Try.zeroValue81
  g1 := by kernel_rfl
  i3 := by kernel_rfl
  i4 := by kernel_rfl
  i5 := by kernel_rfl
  i9 := by kernel_rfl
  i46 := by kernel_rfl
  i51 := by kernel_rfl
  i146 := by kernel_rfl
  m1 := by kernel_rfl
  s1_3 := fun w h => Go.Proofs.cell_of_shapedOpen_int (zero := #[.int .i64 0]) (t := 3) h (of_decide_eq_true (by kernel_rfl)) (by kernel_rfl) rfl (by kernel_rfl) (by kernel_rfl) Try.underlying3 }
/-- The library's variable holds some int, and lies ahead of base. -/
def MaxB (base : Nat) (w : World) : Prop := (∃ m, w.cell? ⟨0, 0, none⟩ = some (.int .i64 m)) ∧ 0 < base
theorem maxB_first {w : World} (h : w.ShapedOpen Try.prog) : MaxB w.heap.size w := by
  obtain ⟨m, hm⟩ := ixLays.s1_3 w h
  exact ⟨⟨m, hm⟩, World.block_lt_of_cell? w (⟨0, 0, none⟩ : Addr) hm⟩
theorem MaxB.below {base : Nat} {w w' : World} (h : MaxB base w) (hb : Below base w w') : MaxB base w' := by
  obtain ⟨⟨m, hm⟩, h2⟩ := h
  exact ⟨⟨m, (hb.cell (p := ⟨0, 0, none⟩) h2).trans hm⟩, h2⟩
theorem MaxB.mono {base base' : Nat} {w : World} (h : MaxB base w) (hb : base ≤ base') : MaxB base' w := ⟨h.1, Nat.lt_of_lt_of_le h.2 hb⟩
/-- A piece of a text, cut out; a gram. -/
theorem scut_any (s : ByteArray) (i j : Nat) (hi : i ≤ j) (hj : j ≤ s.size) (W : World) : (Instr.slice 9 (.string s) (some (.int .i64 (i : Int))) (some (.int .i64 (j : Int))) none).run Try.prog W = .ok (.string (s.extract i j)) W := by
  rw [run_slice_string_if W 9 s .i64 .i64 (i : Int) (j : Int) Try.underlying9, if_pos ⟨by omega, by omega⟩, if_pos ⟨by omega, by omega⟩, Int.toNat_natCast, Int.toNat_natCast]
theorem gcut (s : ByteArray) (i : Nat) (h : i + 6 ≤ s.size) (W : World) : (Instr.slice 9 (.string s) (some (.int .i64 (i : Int))) (some (.int .i64 ((i : Int) + 6))) none).run Try.prog W = .ok (.string (Bm.gr s i)) W := by
  have h1 := scut_any s i (i + 6) (by omega) h W
  rw [show ((i + 6 : Nat) : Int) = (i : Int) + 6 by omega] at h1
  exact h1
theorem sindex_any (s sub : ByteArray) (base : Nat) (w : World) (hs : s.size < 4294967281) (hm : MaxB base w) :
    Calls Try.prog 36 #[.string s, .string sub] w fun e w' => e = .returned (.int .i64 (Lib.index s.data.toList sub.data.toList)) ∧ w' = w := by
  obtain ⟨⟨m, h⟩, _⟩ := hm
  exact Any.strings_Index { ixLays with } s sub m w hs h
end Go.Proofs.Ytaebnkeddcbmkaa
