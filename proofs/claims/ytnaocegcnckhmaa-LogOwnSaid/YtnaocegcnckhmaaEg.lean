/-
  internal/stringslite.Clone and strings.Clone at this translation: the same bytes; only new blocks. The first is laid by the shelf's own contract. Condition: the string has at most 2^48 bytes.
-/
import Derived.Shelf.Pu.Clone
import Derived.Test.YtnaocegcnckhmaaSt
namespace Go.Proofs.Ytnaocegcnckhmaa
open Go.Shelf Go.RowKit
def slRen : Go.Shelf.Ren := ⟨fun | 25 => 24 | n => n, fun | 0 => 0 | 3 => 3 | 4 => 4 | 5 => 5 | 9 => 9 | 37 => 53 | 47 => 54 | n => n, fun | n => n⟩
theorem slLays : Go.Proofs.LaysPu.n25 Try.prog slRen := {
  mixed := by kernel_rfl
  f25 := Try.func24.trans (congrArg some (by kernel_rfl))
  t0 := Try.underlying0
  a0 := Try.isAgg0
  z0 := Try.sizeOf0
  v0 := Try.zeroValue0
  i0 := by kernel_rfl
  t3 := Try.underlying3
  a3 := Try.isAgg3
  z3 := Try.sizeOf3
  v3 := Try.zeroValue3
  i3 := by kernel_rfl
  t4 := Try.underlying4
  a4 := Try.isAgg4
  z4 := Try.sizeOf4
  v4 := Try.zeroValue4
  i4 := by kernel_rfl
  t5 := Try.underlying5
  a5 := Try.isAgg5
  z5 := Try.sizeOf5
  v5 := Try.zeroValue5
  i5 := by kernel_rfl
  t9 := Try.underlying9
  a9 := Try.isAgg9
  z9 := Try.sizeOf9
  v9 := Try.zeroValue9
  i9 := by kernel_rfl
  t37 := Try.underlying53
  a37 := Try.isAgg53
  z37 := Try.sizeOf53
  v37 := Try.zeroValue53
  i37 := by kernel_rfl
  t47 := Try.underlying54
  a47 := Try.isAgg54
  z47 := Try.sizeOf54
  v47 := Try.zeroValue54
  i47 := by kernel_rfl }
theorem slclone_any (s : ByteArray) (w : World) (hlim : s.size ≤ 281474976710656) :
    Calls Try.prog 24 #[.string s] w fun e w' => e = .returned (.string s) ∧ Below w.heap.size w w' := AnyPu.stringslite_Clone slLays s w hlim
set_option maxHeartbeats 400000 in
set_option maxRecDepth 100000 in
theorem sclone_any (s : ByteArray) (w : World) (hlim : s.size ≤ 281474976710656) :
    Calls Try.prog 21 #[.string s] w fun e w' => e = .returned (.string s) ∧ Below w.heap.size w w' := by
  have H := Lib.hid (slclone_any s w hlim)
  go_enter Try.func21, Try.ntmps21
  go_wp2_with fail
  refine H.out.mono ?_
  rintro e w1 ⟨rfl, hb⟩
  go_wp2
  go_ret
  exact ⟨rfl, hb⟩
end Go.Proofs.Ytnaocegcnckhmaa
