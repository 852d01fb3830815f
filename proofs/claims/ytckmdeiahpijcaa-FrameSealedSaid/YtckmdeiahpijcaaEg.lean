/-
  internal/stringslite.Clone and strings.Clone at this translation: the same bytes; only new blocks. The first is laid by the shelf's own contract. Condition: the string has at most 2^48 bytes.
-/
import Derived.Shelf.Pu.Clone
import Derived.Test.YtckmdeiahpijcaaSt
namespace Go.Proofs.Ytckmdeiahpijcaa
open Go.Shelf Go.RowKit
def slRen : Go.Shelf.Ren := ⟨fun | 25 => 51 | n => n, fun | 0 => 0 | 3 => 3 | 4 => 4 | 5 => 5 | 9 => 9 | 37 => 23 | 47 => 105 | n => n, fun | n => n⟩
theorem slLays : Go.Proofs.LaysPu.n25 Try.prog slRen := {
  mixed := by kernel_rfl
  f25 := Try.func51.trans (congrArg some (by kernel_rfl))
  t0 := Try.underlying0
  a0 := Try.isAgg0
  z0 := Try.sizeOf0
  v0 := Try.zeroValue0
  i0 := by kernel_rfl
  t3 := Try.underlying3
  a3 := Try.isAgg3
  z3 := Try.sizeOf3
  v3 := Try.zeroValue3
  i3 := by kernel_rfl
  t4 := Try.underlying4
  a4 := Try.isAgg4
  z4 := Try.sizeOf4
  v4 := Try.zeroValue4
  i4 := by kernel_rfl
  t5 := Try.underlying5
  a5 := Try.isAgg5
  z5 := Try.sizeOf5
  v5 := Try.zeroValue5
  i5 := by kernel_rfl
  t9 := Try.underlying9
  a9 := Try.isAgg9
  z9 := Try.sizeOf9
  v9 := Try.zeroValue9
  i9 := by kernel_rfl
  t37 := Try.underlying23
  a37 := Try.isAgg23
  z37 := Try.sizeOf23
  v37 := Try.zeroValue23
  i37 := by kernel_rfl
  t47 := Try.underlying105
  a47 := Try.isAgg105
  z47 := Try.sizeOf105
  v47 := Try.zeroValue105
  i47 := by kernel_rfl }
theorem slclone_any (s : ByteArray) (w : World) (hlim : s.size ≤ 281474976710656) :
    Calls Try.prog 51 #[.string s] w fun e w' => e = .returned (.string s) ∧ Below w.heap.size w w' := AnyPu.stringslite_Clone slLays s w hlim
set_option maxHeartbeats 400000 in
set_option maxRecDepth 100000 in
theorem sclone_any (s : ByteArray) (w : World) (hlim : s.size ≤ 281474976710656) :
    Calls Try.prog 40 #[.string s] w fun e w' => e = .returned (.string s) ∧ Below w.heap.size w w' := by
  have H := Lib.hid (slclone_any s w hlim)
  go_enter Try.func40, Try.ntmps40
  go_wp2_with fail
  refine H.out.mono ?_
  rintro e w1 ⟨rfl, hb⟩
  go_wp2
  go_ret
  exact ⟨rfl, hb⟩
end Go.Proofs.Ytckmdeiahpijcaa
