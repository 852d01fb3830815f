/- Contracts. -/
import Derived.Test.YtgiicohbigiapaaGreatOad
import Derived.Shelf.Pu.Clone
import Derived.Test.YtgiicohbigiapaaGreatOz1
set_option maxHeartbeats 4000000
set_option maxRecDepth 100000
open Go.Proofs.Tryz Go.Proofs.YtgiicohbigiapaaGreat.am List Nat Option
namespace Go.Proofs.YtgiicohbigiapaaGreat
open Go.Shelf Go.RowKit
def aq8:Go.Shelf.Ren:=⟨fun|25=>125|n=>n,fun|0=>0|3=>3|4=>4|5=>5|9=>9|37=>87|47=>141|n=>n,fun|n=>n⟩
theorem aq7:Go.Proofs.LaysPu.n25 prog aq8:={
 mixed:=by kernel_rfl
 f25:=Tryz.func125.trans (congrArg some (by kernel_rfl))
 t0:=underlying0
 a0:=Tryz.isAgg0
 z0:=Tryz.sizeOf0
 v0:=Tryz.zeroValue0
 i0:=by kernel_rfl
 t3:=underlying3
 a3:=Tryz.isAgg3
 z3:=Tryz.sizeOf3
 v3:=Tryz.zeroValue3
 i3:=by kernel_rfl
 t4:=underlying4
 a4:=Tryz.isAgg4
 z4:=Tryz.sizeOf4
 v4:=Tryz.zeroValue4
 i4:=by kernel_rfl
 t5:=underlying5
 a5:=Tryz.isAgg5
 z5:=Tryz.sizeOf5
 v5:=Tryz.zeroValue5
 i5:=by kernel_rfl
 t9:=underlying9
 a9:=Tryz.isAgg9
 z9:=Tryz.sizeOf9
 v9:=Tryz.zeroValue9
 i9:=by kernel_rfl
 t37:=underlying87
 a37:=Tryz.isAgg87
 z37:=Tryz.sizeOf87
 v37:=Tryz.zeroValue87
 i37:=by kernel_rfl
 t47:=underlying141
 a47:=Tryz.isAgg141
 z47:=Tryz.sizeOf141
 v47:=Tryz.zeroValue141
 i47:=by kernel_rfl}
theorem aq9(s:ByteArray)(w:ah)(hlim:s.size<=281474976710656) :
  Calls prog 125 #[.string s] w λe w'=>e=.returned (.string s)/\av w w':=AnyPu.stringslite_Clone aq7 s w hlim
theorem aqB(s:ByteArray)(w:ah)(hlim:s.size<=281474976710656) :
  Calls prog 92 #[.string s] w λe w'=>e=.returned (.string s)/\av w w':=by
 have H:=I (aq9 s w hlim);go_enter func92,ntmps92
 go_wp2_with fail
 refine H.out.mono ?_;rintro e aw ⟨rfl,ak⟩;go_wp2;go_ret;exact⟨rfl,ak⟩
end Go.Proofs.YtgiicohbigiapaaGreat
