/-
  strings.Builder at this translation: WriteString, String, by the shelf's contracts. Conditions: as each theorem's premises say (up to a thousand million bytes).
-/
import Derived.Shelf.Strings.BuilderK
import Derived.Test.YtjcehdibklndkaaSt
namespace Go.Proofs.Ytjcehdibklndkaa
open Go.Shelf Go.RowKit
def bdRen : Go.Shelf.Ren := ⟨fun | 166 => 21 | 169 => 22 | 240 => 27 | 276 => 32 | n => n, fun | 0 => 0 | 3 => 3 | 4 => 4 | 5 => 5 | 9 => 9 | 20 => 20 | 37 => 47 | 70 => 46 | 72 => 49 | 75 => 52 | 80 => 55 | 127 => 67 | 164 => 69 | n => n, fun n => n⟩
theorem bdLays166 : Lays.n166 Try.prog bdRen := {
  mixed := by kernel_rfl
  f166 := Try.func21.trans (congrArg some (by kernel_rfl))
  f240 := Try.func27.trans (congrArg some (by kernel_rfl))
  f276 := Try.func32.trans (congrArg some (by kernel_rfl))
  t0 := Try.underlying0
  a0 := Try.isAgg0
  z0 := Try.sizeOf0
  v0 := Try.zeroValue0
  t3 := Try.underlying3
  a3 := Try.isAgg3
  z3 := Try.sizeOf3
  v3 := Try.zeroValue3
  t4 := Try.underlying4
  a4 := Try.isAgg4
  z4 := Try.sizeOf4
  v4 := Try.zeroValue4
  t9 := Try.underlying9
  a9 := Try.isAgg9
  z9 := Try.sizeOf9
  v9 := Try.zeroValue9
  t20 := Try.underlying20
  a20 := Try.isAgg20
  z20 := Try.sizeOf20
  v20 := Try.zeroValue20
  t37 := Try.underlying47
  a37 := Try.isAgg47
  z37 := Try.sizeOf47
  v37 := Try.zeroValue47
  t70 := Try.underlying46
  a70 := Try.isAgg46
  z70 := Try.sizeOf46
  v70 := Try.zeroValue46
  t72 := Try.underlying49
  a72 := Try.isAgg49
  z72 := Try.sizeOf49
  v72 := Try.zeroValue49
  t75 := Try.underlying52
  a75 := Try.isAgg52
  z75 := Try.sizeOf52
  v75 := Try.zeroValue52
  t164 := Try.underlying69
  a164 := Try.isAgg69
  z164 := Try.sizeOf69
  v164 := Try.zeroValue69 }
theorem bdLays169 : Lays.n169 Try.prog bdRen := {
  mixed := by kernel_rfl
  f169 := Try.func22.trans (congrArg some (by kernel_rfl))
  t0 := Try.underlying0
  a0 := Try.isAgg0
  z0 := Try.sizeOf0
  v0 := Try.zeroValue0
  t3 := Try.underlying3
  a3 := Try.isAgg3
  z3 := Try.sizeOf3
  v3 := Try.zeroValue3
  t9 := Try.underlying9
  a9 := Try.isAgg9
  z9 := Try.sizeOf9
  v9 := Try.zeroValue9
  t37 := Try.underlying47
  a37 := Try.isAgg47
  z37 := Try.sizeOf47
  v37 := Try.zeroValue47
  t70 := Try.underlying46
  a70 := Try.isAgg46
  z70 := Try.sizeOf46
  v70 := Try.zeroValue46
  t72 := Try.underlying49
  a72 := Try.isAgg49
  z72 := Try.sizeOf49
  v72 := Try.zeroValue49
  t127 := Try.underlying67
  a127 := Try.isAgg67
  z127 := Try.sizeOf67
  v127 := Try.zeroValue67 }
theorem bdExtra : Builder.Extra Try.prog bdRen := {
  sizeBuilder := by kernel_rfl
  liesBuilder := by kernel_rfl
  t5 := Try.underlying5
  a5 := Try.isAgg5
  z5 := Try.sizeOf5
  v5 := Try.zeroValue5
  infoByte := by kernel_rfl
  cellsByte := by kernel_rfl
  sizeByte := by kernel_rfl
  neB5 := by decide }
/-- A builder of the call's own at block b that holds these bytes. -/
def BD (w : World) (B b : Nat) (l : List Nat) : Prop := Lib.IsBuilderF 49 5 B b (u8s l) w
theorem u8s_bytes (l : List Nat) (h : ∀ x ∈ l, x < 256) : u8s l = Lib.byteCells (l.map UInt8.ofNat) := by
  rw [u8s, Lib.byteCells, List.map_map]
  refine List.map_congr_left fun x hx => ?_
  rw [Function.comp_apply, UInt8.toNat_ofNat_of_lt' (h x hx)]
theorem u8s_str (l : List Nat) (h : ∀ x ∈ l, x < 256) : Lib.strCells (strOf l) = u8s l := by
  rw [u8s_bytes l h, Lib.strCells_eq]
  rfl
theorem u8s_append (a b : List Nat) : u8s a ++ u8s b = u8s (a ++ b) := by simp [u8s]
theorem BD.new (w : World) (B : Nat) (hB : B ≤ w.heap.size) : BD (w.alloc (.cells #[.pointer none, .slice none 0 0] 49)) B w.heap.size [] :=
  .inl ⟨hB, .slice none 0 0, heap_alloc_new w _, ⟨rfl, .inl ⟨rfl, rfl⟩⟩, by simp [Value.ownBlock]⟩
theorem BD.below {w w' : World} {B b : Nat} {l : List Nat} (h : BD w B b l) (hb : Below w.heap.size w w') : BD w' B b l := by
  have key : ∀ p, Lib.BuilderAtF 49 5 B b p (u8s l) w → Lib.BuilderAtF 49 5 B b p (u8s l) w' := fun p h => by
    have hlt := h.lt
    obtain ⟨hB, v, hv, hown, hne⟩ := h
    exact ⟨hB, v, (hb.block b hlt).trans hv, hown.kept (row := none) ⟨hb.os, hb.tape, hb.output, hb.size, fun k hk _ => hb.block k hk⟩ (Classical.em _), hne⟩
  exact h.elim (fun x => .inl (key _ x)) (fun x => .inr (key _ x))
theorem BD.lt {w : World} {B b : Nat} {l : List Nat} (h : BD w B b l) : B ≤ b ∧ b < w.heap.size := h.elim (fun h => ⟨h.1, h.lt⟩) (fun h => ⟨h.1, h.lt⟩)
/-- A row of others than bytes is kept. -/
theorem row_others {w w' : World} {b g : Nat} {t : TypeId} {cs : List Value} (h : Row w g t cs) (ht : t ≠ 5) (hg : g ≠ b) (ho : Lib.OthersKept 5 (some b) w w') : Row w' g t cs :=
  ho g _ h (fun e => hg (by injection e)) (fun c fz e => by injection e with _ e; exact ht e)
theorem bwrite_any (B b : Nat) (l s : List Nat) (w : World) (hl : l.length + s.length ≤ 1000000000) (hs : ∀ x ∈ s, x < 256) (hB : B ≤ w.heap.size) (h : BD w B b l) :
    Calls Try.prog 21 #[.pointer (some ⟨b, 0, none⟩), .string (strOf s)] w fun e w' => e = .returned (.tuple #[.int .i64 (s.length : Int), .nilIface]) ∧ BD w' B b (l ++ s) ∧ Below B w w' ∧ Lib.OthersKept 5 (some b) w w' := by
  have hc : Calls Try.prog 21 #[.pointer (some ⟨b, 0, none⟩), .string (strOf s)] w _ := Any.Builder_WriteString_k bdLays166 bdExtra B b (u8s l) (strOf s) w h (by rw [strOf_size, u8s_length]; omega) hB
  refine hc.mono ?_
  rintro e w' ⟨rfl, hb, hbel, hk⟩
  rw [u8s_str s hs, u8s_append] at hb
  exact ⟨by rw [strOf_size], .inr hb, hbel, hk⟩
theorem bstring_any (B b : Nat) (l : List Nat) (w : World) (hl : ∀ x ∈ l, x < 256) (hB : B ≤ w.heap.size) (h : BD w B b l) :
    Calls Try.prog 22 #[.pointer (some ⟨b, 0, none⟩)] w fun e w' => e = .returned (.string (strOf l)) ∧ Below B w w' := by
  unfold BD at h
  rw [u8s_bytes l hl] at h
  have hc : Calls Try.prog 22 #[.pointer (some ⟨b, 0, none⟩)] w _ := Any.Builder_String_any_k bdLays169 bdExtra B b (l.map UInt8.ofNat) w h hB
  refine hc.mono ?_
  rintro e w' ⟨rfl, _, hbel, _⟩
  exact ⟨rfl, hbel⟩
end Go.Proofs.Ytjcehdibklndkaa
