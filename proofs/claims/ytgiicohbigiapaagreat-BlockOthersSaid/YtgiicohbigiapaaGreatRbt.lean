/- Contracts, and what they rest on. Conditions: the theorems' premises. -/
import Derived.Test.YtgiicohbigiapaaGreatRad
import Derived.Shelf.Strings.Repeat
set_option maxHeartbeats 4000000
set_option maxRecDepth 100000
open Go.Proofs.Tryz
namespace Go.Proofs.YtgiicohbigiapaaGreat
open Go.Shelf Go.RowKit
def afF:Go.Shelf.Ren:=⟨fun | 99=>51 | 105=>30 | 165=>52 | 166=>53 | 169=>55 | 170=>54 | 206=>89 | 212=>50 | 240=>90 | 241=>91 | 263=>87 | 264=>88 | 276=>123 | 277=>124 | n=>n,fun | 0=>0 | 3=>3 | 4=>4 | 5=>5 | 9=>9 | 20=>20 | 37=>87 | 46=>88 | 51=>132 | 53=>31 | 70=>92 | 72=>94 | 75=>97 | 76=>98 | 80=>67 | 109=>89 | 127=>141 | 146=>137 | 148=>139 | 164=>182 | n=>n,fun n=>n⟩
theorem ZF:Lays.n105 prog afF:={
 mixed:=by kernel_rfl
 f99:=Tryz.func51.trans (congrArg some (by kernel_rfl))
 f105:=Tryz.func30.trans (congrArg some (by kernel_rfl))
 f165:=Tryz.func52.trans (congrArg some (by kernel_rfl))
 f166:=Tryz.func53.trans (congrArg some (by kernel_rfl))
 f169:=Tryz.func55.trans (congrArg some (by kernel_rfl))
 f170:=Tryz.func54.trans (congrArg some (by kernel_rfl))
 f206:=Tryz.func89.trans (congrArg some (by kernel_rfl))
 f212:=Tryz.func50.trans (congrArg some (by kernel_rfl))
 f240:=Tryz.func90.trans (congrArg some (by kernel_rfl))
 f241:=Tryz.func91.trans (congrArg some (by kernel_rfl))
 f263:=Tryz.func87.trans (congrArg some (by kernel_rfl))
 f264:=Tryz.func88.trans (congrArg some (by kernel_rfl))
 f276:=Tryz.func123.trans (congrArg some (by kernel_rfl))
 f277:=func124.trans (congrArg some (by kernel_rfl))
 t0:=underlying0
 a0:=Tryz.isAgg0
 z0:=Tryz.sizeOf0
 v0:=Tryz.zeroValue0
 t3:=underlying3
 a3:=Tryz.isAgg3
 z3:=Tryz.sizeOf3
 v3:=Tryz.zeroValue3
 t4:=underlying4
 a4:=Tryz.isAgg4
 z4:=Tryz.sizeOf4
 v4:=Tryz.zeroValue4
 t5:=underlying5
 a5:=Tryz.isAgg5
 z5:=Tryz.sizeOf5
 v5:=Tryz.zeroValue5
 t9:=underlying9
 a9:=Tryz.isAgg9
 z9:=Tryz.sizeOf9
 v9:=Tryz.zeroValue9
 t20:=underlying20
 a20:=Tryz.isAgg20
 z20:=Tryz.sizeOf20
 v20:=Tryz.zeroValue20
 t37:=underlying87
 a37:=Tryz.isAgg87
 z37:=Tryz.sizeOf87
 v37:=Tryz.zeroValue87
 t46:=underlying88
 a46:=Tryz.isAgg88
 z46:=Tryz.sizeOf88
 v46:=Tryz.zeroValue88
 t51:=underlying132
 a51:=Tryz.isAgg132
 z51:=Tryz.sizeOf132
 v51:=Tryz.zeroValue132
 t53:=underlying31
 a53:=Tryz.isAgg31
 z53:=Tryz.sizeOf31
 v53:=Tryz.zeroValue31
 t70:=underlying92
 a70:=Tryz.isAgg92
 z70:=Tryz.sizeOf92
 v70:=Tryz.zeroValue92
 t72:=underlying94
 a72:=Tryz.isAgg94
 z72:=Tryz.sizeOf94
 v72:=Tryz.zeroValue94
 t75:=underlying97
 a75:=Tryz.isAgg97
 z75:=Tryz.sizeOf97
 v75:=Tryz.zeroValue97
 t76:=underlying98
 a76:=Tryz.isAgg98
 z76:=Tryz.sizeOf98
 v76:=Tryz.zeroValue98
 t109:=underlying89
 a109:=Tryz.isAgg89
 z109:=Tryz.sizeOf89
 v109:=Tryz.zeroValue89
 t127:=underlying141
 a127:=Tryz.isAgg141
 z127:=Tryz.sizeOf141
 v127:=Tryz.zeroValue141
 t146:=underlying137
 a146:=Tryz.isAgg137
 z146:=Tryz.sizeOf137
 v146:=Tryz.zeroValue137
 t148:=underlying139
 a148:=Tryz.isAgg139
 z148:=Tryz.sizeOf139
 v148:=Tryz.zeroValue139
 t164:=underlying182
 a164:=Tryz.isAgg182
 z164:=Tryz.sizeOf182
 v164:=Tryz.zeroValue182}
theorem SC:Builder.Extra prog afF:={
 sizeBuilder:=by kernel_rfl
 liesBuilder:=by kernel_rfl
 t5:=underlying5
 a5:=Tryz.isAgg5
 z5:=Tryz.sizeOf5
 v5:=Tryz.zeroValue5
 infoByte:=by kernel_rfl
 cellsByte:=by kernel_rfl
 sizeByte:=by kernel_rfl
 neB5:=by decide}
theorem zA(x:UInt8):∀n:Nat,Lib.repeatL [x] n=List.replicate n x
 | 0=>rfl
 | n+1=>by
  rw[List.replicate_succ,←zA x n];rfl
theorem zy:∀n:Nat,Lib.repeatL [] n=[]
 | 0=>rfl
 | n+1=>by
  have:=zy n;rw[Lib.repeatL,this];rfl
theorem oU(x n:Nat)(w:World)(hn:n≤1000000000) :
  Calls prog 30 #[.string (strOf [x]),.int .i64 (n:Int)] w fun e w'=>e=.returned (.string (strOf (List.replicate n x)))∧Below w.heap.size w w':=by
 have h:Calls prog 30 #[.string (strOf [x]),.int .i64 (n:Int)] w _:=Any.strings_Repeat ZF SC (strOf [x]) n w (by omega) (by rw[ay];simp;omega);refine h.mono fun e w' ⟨he,hb⟩=>⟨?_,hb⟩
 rw[he,show(strOf [x]).data.toList=[UInt8.ofNat x]from rfl,zA];unfold strOf;rw[List.map_replicate]
theorem xg(n:Nat)(w:World)(hn:n≤1000000000) :
  Calls prog 30 #[.string (strOf []),.int .i64 (n:Int)] w fun e w'=>e=.returned (.string (strOf []))∧Below w.heap.size w w':=by
 have h:Calls prog 30 #[.string (strOf []),.int .i64 (n:Int)] w _:=Any.strings_Repeat ZF SC (strOf []) n w (by omega) (by rw[ay];simp);refine h.mono fun e w' ⟨he,hb⟩=>⟨?_,hb⟩
 rw[he,show(strOf []).data.toList=[]from rfl,zy];rfl
end Go.Proofs.YtgiicohbigiapaaGreat
