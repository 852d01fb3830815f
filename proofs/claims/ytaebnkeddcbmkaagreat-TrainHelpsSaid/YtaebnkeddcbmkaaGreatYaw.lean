/- Contracts, and what they rest on. Conditions: the theorems' premises. -/
import Derived.Test.YtaebnkeddcbmkaaGreatYaq
import Derived.Test.YtaebnkeddcbmkaaGreatYao
import Derived.Shelf.Strings.OnBuilder
import Derived.Shelf.Slices.ReverseS
import Derived.Sort.OwnSorted
set_option maxHeartbeats 4000000
set_option maxRecDepth 100000
open Go.Lib(hid)
open Go.Proofs.Tryz
namespace Go.Proofs.YtaebnkeddcbmkaaGreat
open Go.Shelf Go.RowKit
def ajQ:Go.Shelf.Ren:=⟨fun | 156=>12 | 165=>27 | 166=>28 | 169=>29 | 240=>54 | 241=>55 | 276=>82 | 277=>83 | n=>n,fun | 31=>22 | 9=>9 | 3=>3 | 4=>4 | 0=>0 | 20=>20 | 72=>62 | 76=>66 | 70=>59 | 37=>60 | 75=>65 | 127=>99 | 164=>136 | 5=>5 | 80=>68 | n=>n,fun | n=>n⟩
theorem adu:Lays.n156 prog ajQ:={
 mixed:=by kernel_rfl
 f156:=Tryz.func12.trans (congrArg some (by kernel_rfl))
 f165:=Tryz.func27.trans (congrArg some (by kernel_rfl))
 f166:=Tryz.func28.trans (congrArg some (by kernel_rfl))
 f169:=Tryz.func29.trans (congrArg some (by kernel_rfl))
 f240:=Tryz.func54.trans (congrArg some (by kernel_rfl))
 f241:=Tryz.func55.trans (congrArg some (by kernel_rfl))
 f276:=Tryz.func82.trans (congrArg some (by kernel_rfl))
 f277:=func83.trans (congrArg some (by kernel_rfl))
 t0:=underlying0
 a0:=Tryz.isAgg0
 z0:=Tryz.sizeOf0
 v0:=Tryz.zeroValue0
 t3:=underlying3
 a3:=Tryz.isAgg3
 z3:=Tryz.sizeOf3
 v3:=Tryz.zeroValue3
 t4:=underlying4
 a4:=Tryz.isAgg4
 z4:=Tryz.sizeOf4
 v4:=Tryz.zeroValue4
 t9:=underlying9
 a9:=Tryz.isAgg9
 z9:=Tryz.sizeOf9
 v9:=Tryz.zeroValue9
 t20:=underlying20
 a20:=Tryz.isAgg20
 z20:=Tryz.sizeOf20
 v20:=Tryz.zeroValue20
 t31:=underlying22
 a31:=Tryz.isAgg22
 z31:=Tryz.sizeOf22
 v31:=Tryz.zeroValue22
 t37:=underlying60
 a37:=Tryz.isAgg60
 z37:=Tryz.sizeOf60
 v37:=Tryz.zeroValue60
 t70:=underlying59
 a70:=Tryz.isAgg59
 z70:=Tryz.sizeOf59
 v70:=Tryz.zeroValue59
 t72:=underlying62
 a72:=Tryz.isAgg62
 z72:=Tryz.sizeOf62
 v72:=Tryz.zeroValue62
 t75:=underlying65
 a75:=Tryz.isAgg65
 z75:=Tryz.sizeOf65
 v75:=Tryz.zeroValue65
 t76:=underlying66
 a76:=Tryz.isAgg66
 z76:=Tryz.sizeOf66
 v76:=Tryz.zeroValue66
 t127:=underlying99
 a127:=Tryz.isAgg99
 z127:=Tryz.sizeOf99
 v127:=Tryz.zeroValue99
 t164:=underlying136
 a164:=Tryz.isAgg136
 z164:=Tryz.sizeOf136
 v164:=Tryz.zeroValue136}
theorem Xg:Builder.Extra prog ajQ:={
 sizeBuilder:=by kernel_rfl
 liesBuilder:=by kernel_rfl
 t5:=underlying5
 a5:=Tryz.isAgg5
 z5:=Tryz.sizeOf5
 v5:=Tryz.zeroValue5
 infoByte:=by kernel_rfl
 cellsByte:=by kernel_rfl
 sizeByte:=by kernel_rfl
 neB5:=by decide}
def aml:Go.Shelf.Ren:=⟨fun | 17=>11 | n=>n,fun | 24=>22 | 9=>9 | 3=>3 | 4=>4 | 0=>0 | n=>n,fun | n=>n⟩
theorem adv:Lays2.n17 prog aml:={
 mixed:=by kernel_rfl
 f17:=Tryz.func11.trans (congrArg some (by kernel_rfl))
 t0:=underlying0
 a0:=Tryz.isAgg0
 z0:=Tryz.sizeOf0
 v0:=Tryz.zeroValue0
 t3:=underlying3
 a3:=Tryz.isAgg3
 z3:=Tryz.sizeOf3
 v3:=Tryz.zeroValue3
 t4:=underlying4
 a4:=Tryz.isAgg4
 z4:=Tryz.sizeOf4
 v4:=Tryz.zeroValue4
 t9:=underlying9
 a9:=Tryz.isAgg9
 z9:=Tryz.sizeOf9
 v9:=Tryz.zeroValue9
 t24:=underlying22
 a24:=Tryz.isAgg22
 z24:=Tryz.sizeOf22
 v24:=Tryz.zeroValue22}
def ahe(P:List ByteArray):ByteArray:=⟨((P.reverse.map fun s=>s.data.toList).flatten).toArray⟩
theorem DX(P:List ByteArray):(ahe P).size=Bm.sizeT P:=by
 show(((P.reverse.map fun s=>s.data.toList).flatten).toArray).size=_;rw[List.size_toArray,List.length_flatten,List.map_map,List.map_reverse,List.sum_reverse];unfold Bm.sizeT;congr 1
theorem join_none(l:List (List UInt8)):Lib.join l []=l.flatten:=by
 unfold Lib.join;induction l with
 | nil=>rfl
 | cons x l ih=>
  cases l with
  | nil=>simp[List.intercalate]
  | cons y l=>simp[List.intercalate]at ih ⊢;exact ih
theorem Wz(base:Nat)(v:Value)(P:List ByteArray)(w:World)(hP:P.length<=1000000)(ho:mG w base v P)(hb:base<=w.heap.size) :
  Calls prog 11 #[v] w fun e w'=>e=.returned (.tuple #[])/\(∃A c,v=.slice A P.length c/\P.length<=c/\Reads w' A (jF P.reverse))/\Below base w w':=by
 rcases ho.form with⟨rfl,rfl⟩ | ⟨g,cap,post,rfl,hg,h1,h2,h3,hr⟩
 ·refine(Any.slices_Reverse_string_empty adv none 0 w).mono ?_;rintro e w' ⟨rfl,rfl⟩;exact⟨rfl,⟨none,0,rfl,Nat.le_refl _,fun h=>absurd rfl h⟩,Below.refl _ _⟩
 ·have hH:Sort.Holds encStr w g 0 (P.map fun s=>s.data.toList).toArray:=fun j hj=>by
   rw[List.size_toArray,List.length_map]at hj;rw[Nat.zero_add,hr.cell,List.getElem?_append_left (by rw[cu];exact hj),kP P j hj,hr.free];refine⟨?_,rfl⟩;rw[getElem!_pos _ j (by rw[List.size_toArray,List.length_map];exact hj)];simp[encStr]
  have h4:=Any.slices_Reverse_string adv g 0 cap (P.map fun s=>s.data.toList) w hH (by rw[List.length_map];omega);rw[List.length_map]at h4;refine h4.mono ?_;rintro e w' ⟨rfl,n,rfl⟩;have hgr:w.grownBy (Sort.putRow encStr (Sort.ahead w n) g 0 (P.map fun s=>s.data.toList).reverse.toArray) (some g):=by
   have:=grownBy_sorted (w:=w) (g:=g) (n:=n) (os:=#[]) (P.map fun s=>s.data.toList).reverse.toArray;rwa [Sort.grow_empty]at this
  have hH2:Sort.Holds encStr (Sort.putRow encStr (Sort.ahead w n) g 0 (P.map fun s=>s.data.toList).reverse.toArray) g 0 (P.map fun s=>s.data.toList).reverse.toArray:=
   Sort.holds_putRow encStr (Sort.ahead w n) g 0 _ _ (show Sort.Holds encStr (Sort.ahead w n) g 0 (P.map fun s=>s.data.toList).toArray from hH) (by simp)
  refine⟨rfl,⟨_,cap,rfl,h1,fun _=>⟨g,0,rfl,fun j hj=>?_⟩⟩,below_grown hgr hg hb⟩;rw[cu,List.length_reverse]at hj;rw[(hH2 j (by simpa using hj)).1,kP _ j (by rw[List.length_reverse];exact hj),getElem!_pos _ j (by simpa using hj)];simp[encStr]
theorem Wt(A:Option Addr)(c:Nat)(l:List ByteArray)(w:World)(hl:l.length<=1000000)(hc:l.length<=c)(hs:Bm.sizeT l<=1000000)(hr:Reads w A (jF l)) :
  Calls prog 12 #[.slice A l.length c,.string ⟨#[]⟩] w fun e w'=>e=.returned (.string (ahe l.reverse))/\Below w.heap.size w w':=by
 rcases Nat.eq_zero_or_pos l.length with h0 | h0
 ·obtain rfl:=List.eq_nil_of_length_eq_zero h0;refine(Any.strings_Join_none adu Xg A c ⟨#[]⟩ w).mono ?_;rintro e w' ⟨rfl,rfl⟩;exact⟨rfl,Below.refl _ _⟩
 ·obtain⟨g,off,rfl,hcell⟩:=iF hr h0;have hsz:=DX l.reverse;have hsr:Bm.sizeT l.reverse=Bm.sizeT l:=by
   unfold Bm.sizeT;rw[List.map_reverse,List.sum_reverse]
  have hj:(⟨(Lib.join (l.map (·.data.toList)) (⟨#[]⟩:ByteArray).data.toList).toArray⟩:ByteArray)=ahe l.reverse:=by
   rw[join_none];unfold ahe;rw[List.reverse_reverse]
  have h1:=Any.strings_Join adu Xg g off c l ⟨#[]⟩ w (fun j x hx=>by
   obtain⟨hj,rfl⟩:=List.getElem?_eq_some_iff.1 hx;exact hcell j hj) (World.block_lt_of_cell? w _ (hcell 0 h0)) (by omega) hc (by
   have h2:=congrArg ByteArray.size hj;rw[hsz,hsr]at h2;have h3:(⟨(Lib.join (l.map (·.data.toList)) (⟨#[]⟩:ByteArray).data.toList).toArray⟩:ByteArray).size=(Lib.join (l.map (·.data.toList)) (⟨#[]⟩:ByteArray).data.toList).length:=by
    show(_:Array UInt8).size=_;rw[List.size_toArray]
   omega)
  refine h1.mono ?_;rintro e w' ⟨rfl,hb⟩;exact⟨by rw[hj],hb⟩
open Go.Maps Go.Proofs.YtaebnkeddcbmkaaGreat.Bm
def szN(sz:Int):Nat:=(min (max sz 0) 256).toNat
def Ba(R:List ByteArray)(sz:Int):ByteArray:=ahe (chosen (brt R) (szN sz))
theorem Kk(R:List ByteArray)(sz:Int):(Ba R sz).size<=szN sz:=by
 unfold Ba;rw[DX];exact oW _ _
theorem WU(sz:Int):szN sz<=256:=by unfold szN;omega
theorem BG(B:List ByteArray)(n:Nat):(chosen B n).length<=n:=by
 have h1:=oW B n;have h2:=GK B n;have key:∀l:List ByteArray,(∀t∈l,6<=t.size)->l.length<=sizeT l:=by
  intro l;induction l with
  | nil=>intro _;simp
  | cons x l ih=>
   intro h;rw[AL,List.length_cons];have:=ih (fun t ht=>h t (List.mem_cons_of_mem _ ht));have:=h x List.mem_cons_self;omega
 have h3:=key (chosen B n) (fun t ht=>by
  obtain⟨i,hi,rfl⟩:=List.mem_iff_getElem.1 ht;exact(BI B _ (h2 i hi).1).1)
 omega
theorem Bb(A:Option Addr)(c:Nat)(R:List ByteArray)(sz:Int)(w:World)(hR:R.length<=9223372036854775807)(hc:R.length<=c)(hs:∀s∈R,s.size<=140737488351232)(hrd:Reads w A (jF R))(hmax:zx w.heap.size w) :
  Calls prog 6 #[.slice A R.length c,.int .i64 sz] w fun e w'=>e=.returned (.string (Ba R sz))/\Below w.heap.size w w':=by
 have Hpc:=hid (yH A c R sz w hR hc hs hrd hmax);obtain⟨d,hd⟩:∃d,d=Ba R sz:=⟨_,rfl⟩;obtain⟨P,hP⟩:∃P,P=chosen (brt R) (szN sz):=⟨_,rfl⟩;have hPl:P.length<=256:=by rw[hP];exact Nat.le_trans (BG _ _) (WU sz)
 have hPs:sizeT P<=256:=by rw[hP];exact Nat.le_trans (oW _ _) (WU sz)
 have hdP:d=ahe P:=by rw[hd,hP];rfl
 rw[show(min (max sz 0) 256).toNat=szN sz from rfl,<-hP]at Hpc;rw[<-hd];have HdP:=hid hdP;have HPl:=hid hPl;have HPs:=hid hPs;clear hR hc hs hrd hmax hd hP hdP hPl hPs;go_enter func6,ntmps6
 go_wp2_with fail
 refine Hpc.out.mono ?_;rintro e w1 ⟨v,rfl,ho,hb1⟩;have Hrv:=hid (Wz w.heap.size v P w1 (Nat.le_trans HPl.out (by decide)) ho hb1.size);have Hb1:=hid hb1;clear ho hb1 Hpc;go_wp2_with fail
 refine Hrv.out.mono ?_;rintro e w2 ⟨rfl,⟨A2,c2,rfl,hc2,hr2⟩,hb2⟩;have Hb2:=hid (Hb1.out.trans hb2);have Hjn:Hid (Calls prog 12 #[.slice A2 P.length c2,.string ⟨#[]⟩] w2 fun e w'=>e=.returned (.string d)/\Below w2.heap.size w2 w'):=hid (by
  have h1:=Wt A2 c2 P.reverse w2 (by rw[List.length_reverse];exact Nat.le_trans HPl.out (by decide)) (by rw[List.length_reverse];exact hc2) (by
   have:sizeT P.reverse=sizeT P:=by
    unfold sizeT;rw[List.map_reverse,List.sum_reverse]
   rw[this];exact Nat.le_trans HPs.out (by decide)) hr2
  rw[List.reverse_reverse,List.length_reverse,<-HdP.out]at h1;exact h1)
 clear hc2 hr2 hb2 Hrv Hb1;go_wp2_with fail
 refine Hjn.out.mono ?_;rintro e w3 ⟨rfl,hb3⟩;have Hb3:=hid (Hb2.out.trans (hb3.mono Hb2.out.size));clear hb3 Hjn;go_wp2;go_ret;exact⟨rfl,Hb3.out⟩
theorem Qf(A:Option Addr)(c:Nat)(R:List ByteArray)(s:ByteArray)(w:World)(hs1:s.size<=100000)(hR:R.length<=9223372036854775807)(hc:R.length<=c)(hs:∀s∈R,s.size<=140737488351232)(hrd:Reads w A (jF R)) :
  Calls prog 9 #[.slice A R.length c,.string s] w fun e w'=>e=.returned (.int .i64 ((jr (brt R) [] s:Nat):Int))/\Below w.heap.size w w':=by
 obtain⟨B,hB⟩:∃B,B=brt R:=⟨_,rfl⟩;have hBl:B.length<=64:=by rw[hB,zF];omega
 have hBs:∀s∈B,s.size<=512:=fun s h=>KH R s (by rw[<-hB];exact h)
 have adF:=hid (uW A c R w hR hc hs hrd);rw[<-hB]at adF ⊢;have HBs:=hid hBs;have HBl:=hid hBl;have HF:Hid (∀g,val (wg0 B) g<=1000):=hid (fun g=>by
  rw[<-Gd,Xw];have:=acO B [] g;omega)
 obtain⟨v,hv⟩:∃v,v=jr B [] s:=⟨_,rfl⟩;have hv2:kD (val (wg0 B)) [] (gms s)=v:=by rw[hv,<-MU,Gd];rfl
 rw[<-hv];have Hv2:=hid hv2;clear hR hc hs hrd hB hBs hBl hv hv2;go_enter func9,ntmps9
 go_wp2_with fail
 refine adF.out.mono ?_;rintro e w1 ⟨u,rfl,hu,hb1⟩;obtain⟨A1,c1,rfl,hc1,apW,hr1⟩:=hu.reads;have Hwg:=hid (Bc A1 c1 B w1 HBl.out HBs.out hr1);have Hb1:=hid hb1;clear hu hb1 hr1 adF;go_wp2_with fail
 refine Hwg.out.mono ?_;rintro e w2 ⟨rfl,hm2,hb2⟩;have Hb2:Hid (Below w.heap.size w w2):=hid (Hb1.out.trans (hb2.mono Hb1.out.size));have Htk:=hid (Ga w1.heap.size 100000 (wg0 B) s w2 hs1 HF.out hm2);rw[Hv2.out]at Htk;clear hm2 hb2 Hwg;go_wp2_with fail
 refine Htk.out.mono ?_;rintro e w3 ⟨rfl,_,hg3⟩;have Hb3:Hid (Below w.heap.size w w3):=hid (Hb2.out.trans (below_grown hg3 Hb1.out.size Hb2.out.size));clear hg3 Htk;go_wp2;go_ret;exact⟨rfl,Hb3.out⟩
def hwT:ByteArray:=⟨#[104,101,108,108,111,32,119,111,114,108,100]⟩
theorem ZB:Ba [hwT,hwT] 99=hwT:=by decide +kernel
theorem ZC:jr (brt [hwT,hwT]) [] hwT=6:=by decide +kernel
theorem TP:(chosen (brt [hwT,hwT]) (min (max 10 0) 256:Int).toNat).length=0:=by decide +kernel
theorem Jb{w W:World}(h:zx w.heap.size w)(hb:Below w.heap.size w W):zx W.heap.size W:=(h.below hb).mono hb.size
theorem Qb(w:World)(hmax:zx w.heap.size w):Calls prog 4 #[] w fun e w'=>e=.returned (.bool true)/\Below w.heap.size w w':=by
 obtain⟨h,hh⟩:∃h,h=hwT:=⟨_,rfl⟩;have hr:Row (w.alloc (.cells #[.string h,.string h] 9)) w.heap.size 9 (jF [h,h]):=Row.new w 9 (jF [h,h]);have hb0:Below w.heap.size w (w.alloc (.cells #[.string h,.string h] 9)):=(Below.refl _ _).alloc (Nat.le_refl _) _;have hs:∀s∈[h,h],s.size<=140737488351232:=fun s hs=>by
  simp at hs;rw[hs,hh];decide
 have hone:Hid (∀W,Below w.heap.size w W->Reads W (some ⟨w.heap.size,0,none⟩) (jF [h,h])->Calls prog 6 #[.slice (some ⟨w.heap.size,0,none⟩) 2 2,.int .i64 99] W fun e w'=>e=.returned (.string h)/\Below W.heap.size W w'):=hid (fun W hW hrd=>by
  have h1:=Bb (some ⟨w.heap.size,0,none⟩) 2 [h,h] 99 W (by simp) (by simp) hs hrd (Jb hmax hW);rw[hh]at h1 ⊢;rw[ZB]at h1;exact h1)
 have aqp:Hid (∀W,Below w.heap.size w W->Reads W (some ⟨w.heap.size,0,none⟩) (jF [h,h])->Calls prog 9 #[.slice (some ⟨w.heap.size,0,none⟩) 2 2,.string h] W fun e w'=>e=.returned (.int .i64 6)/\Below W.heap.size W w'):=hid (fun W hW hrd=>by
  have h1:=Qf (some ⟨w.heap.size,0,none⟩) 2 [h,h] h W (by rw[hh];decide) (by simp) (by simp) hs hrd;rw[hh]at h1 ⊢;rw[ZC]at h1;exact h1)
 have ajt:Hid (∀W,Below w.heap.size w W->Reads W (some ⟨w.heap.size,0,none⟩) (jF [h,h])->Calls prog 10 #[.slice (some ⟨w.heap.size,0,none⟩) 2 2,.int .i64 10] W fun e w'=>(∃A c,e=.returned (.slice A 0 c))/\Below W.heap.size W w'):=hid (fun W hW hrd=>by
  have h1:=yH (some ⟨w.heap.size,0,none⟩) 2 [h,h] 10 W (by simp) (by simp) hs hrd (Jb hmax hW);refine h1.mono ?_;rintro e w' ⟨v,rfl,ho,hb⟩;obtain⟨A,c,rfl,_,_,_⟩:=ho.reads;rw[hh,TP];exact⟨⟨A,c,rfl⟩,hb⟩)
 have heq:(h.toList == (⟨#[104,101,108,108,111,32,119,111,114,108,100]⟩:ByteArray).toList)=true:=by rw[hh];exact beq_self_eq_true _
 have Hr0:=hid (bP hr);have Hb0:=hid hb0;have Hhh:Hid ((⟨#[104,101,108,108,111,32,119,111,114,108,100]⟩:ByteArray)=h):=hid (by rw[hh];rfl);have gF:=hid hr;clear hs hr hb0 hmax hh;go_enter func4,ntmps4
 rw[Hhh.out]at heq ⊢;go_wp2_with fail
 refine(hone.out _ Hb0.out Hr0.out).mono ?_;rintro e w1 ⟨rfl,hb1⟩;have Hb1:=hid (Hb0.out.trans (hb1.mono Hb0.out.size));have Hr1:=hid (aC Hr0.out hb1);clear hb1;go_wp2_with fail
 refine(aqp.out _ Hb1.out Hr1.out).mono ?_;rintro e w2 ⟨rfl,hb2⟩;have Hb2:=hid (Hb1.out.trans (hb2.mono Hb1.out.size));have Hr2:=hid (aC Hr1.out hb2);clear hb2;go_wp2_with fail
 refine(ajt.out _ Hb2.out Hr2.out).mono ?_;rintro e w3 ⟨⟨A,c,rfl⟩,hb3⟩;have Hb3:=hid (Hb2.out.trans (hb3.mono Hb2.out.size));clear hb3;go_wp2;go_ret;exact⟨rfl,Hb3.out⟩
theorem Qe(A:Option Addr)(c:Nat)(R:List ByteArray)(most bytes:Nat)(w:World)(hm:most<=1000)(hb:bytes<=1000)(hR:R.length<=9223372036854775807)(hs:∀s∈R,s.size<=140737488351232)(hrd:Reads w A (jF R)) :
  Calls prog 5 #[.slice A R.length c,.int .i64 (most:Int),.int .i64 (bytes:Int)] w fun e w'=>e=.returned (.bool (decide (R.length<=most/\sizeT R<=bytes)))/\w'=w:=by
 obtain⟨r,hr⟩:∃r,r=decide (R.length<=most/\sizeT R<=bytes):=⟨_,rfl⟩;rw[<-hr];have Hr:=hid hr;have Hrd:=hid hrd;have Hs:=hid hs;clear hr hrd hs;by_cases hmR:most<R.length
 ·have hrf:Hid (r=false):=hid (by rw[Hr.out];exact decide_eq_false (by omega));have d0:decide ((most:Int)<(R.length:Int))=true:=decide_eq_true (by omega);go_enter func5,ntmps5
  go_wp2;go_ret;exact⟨congrArg (fun x=>Ending.returned (Value.bool x)) hrf.out.symm,rfl⟩
 have d0:decide ((most:Int)<(R.length:Int))=false:=decide_eq_false (by omega);go_enter func5,ntmps5
 go_wp2;clear d0;go_loopw [2,15] (fun bv iv wr=>∃i x:Nat,iv=.int .i64 (i:Int)/\i<=R.length/\bv=.int .i64 (x:Int)/\x<=bytes/\Hid (sizeT (R.take i)+x=bytes)/\wr=w) (fun _ iv _=>R.length-(intOf iv).toNat)
 case atStart=>exact⟨0,bytes,rfl,Nat.zero_le _,rfl,Nat.le_refl _,hid (by simp[sizeT]),rfl⟩
 case round=>
  obtain⟨i,x,rfl,hi,rfl,hx,Hx,rfl⟩:=hrel;by_cases hil:i<R.length
  ·obtain⟨gA,oA,eA,hcA⟩:=iF Hrd.out (by omega);subst eA;have hcell:=hcA i hil;obtain⟨s,hsd⟩:∃s,s=R[i]:=⟨_,rfl⟩;rw[<-hsd]at hcell;have hss:s.size<=140737488351232:=by rw[hsd];exact Hs.out _ (List.getElem_mem hil)
   have Hts:Hid (sizeT (R.take (i+1))=sizeT (R.take i)+s.size):=hid (by rw[List.take_succ_eq_append_getElem hil,AO,<-hsd]);have Hle:Hid (sizeT (R.take (i+1))<=sizeT R):=hid (by
    have h1:sizeT R=sizeT (R.take (i+1))+sizeT (R.drop (i+1)):=by
     conv=>lhs;rw[<-List.take_append_drop (i+1) R]
     unfold sizeT;rw[List.map_append,List.sum_append]
    omega)
   clear hcA hsd;by_cases hlt:x<s.size
   ·have hrf:Hid (r=false):=hid (by
     rw[Hr.out];refine decide_eq_false ?_;have h1:=Hx.out;have h2:=Hts.out;have h3:=Hle.out;omega)
    have d0:decide ((x:Int)-(s.size:Int)<0)=true:=decide_eq_true (by omega);go_wp2;go_ret;exact⟨congrArg (fun x=>Ending.returned (Value.bool x)) hrf.out.symm,rfl⟩
   ·have d0:decide ((x:Int)-(s.size:Int)<0)=false:=decide_eq_false (by omega);have Hx2:Hid (sizeT (R.take (i+1))+(x-s.size)=bytes):=hid (by
     have h1:=Hx.out;have h2:=Hts.out;omega)
    go_wp2;go_roundw
    case rel=>exact⟨i+1,x-s.size,by go_num,by omega,by go_num,by omega,Hx2,by first | rfl | trivial⟩
    case measure=>simp[intOf];omega
  ·have hrt:Hid (r=true):=hid (by
    rw[Hr.out];refine decide_eq_true ?_;have h1:=Hx.out;rw[List.take_of_length_le (by omega)]at h1;omega)
   go_wp2;go_ret;exact⟨congrArg (fun x=>Ending.returned (Value.bool x)) hrt.out.symm,rfl⟩
end Go.Proofs.YtaebnkeddcbmkaaGreat
namespace Go.Proofs.YtaebnkeddcbmkaaGreat.Bm
def occ(T:List Pcl)(k i:Nat):Nat:=(bq (T.take k)).count i
theorem vO{L:List Pcl}{i:Nat}:i∈bq L↔∃t∈L,i∈t.2.2:=by simp[bq,List.mem_flatMap]
theorem ZT{cs:List Nat}{S T P T':List Pcl}{t:Nat}(hS:wz cs S)(hT:Lev S t T)(hp:mQ T P)(hs:Stb (S++P) T')(hr:Srt T')(k:Nat)(hk:k<=T'.length) :
  ∃s q,s+q=k/\s<=S.length/\2*q<=T.length/\(∀i,occ T' k i=(bq (S.take s)).count i+occ T (2*q) i)/\(∀i,0<occ T (2*q) i->(bq (S.take s)).count i=1)/\mF (T'.take k)=mF (S.take s)+mF (T.take (2*q)):=by
 obtain⟨sT,okT⟩:=LC hS hT;have okP:=Ma hp okT;have h1:∀t∈S,single t=true:=fun t ht=>(JN hS t ht).2
 have h2:∀t∈P,single t=false:=fun t ht=>by
  have:=(okP t ht).2;unfold single;rw[beq_eq_false_iff_ne];omega
 obtain⟨m1,m2⟩:=merged hS.srt (Vb hp sT) h1 h2 hs hr;obtain⟨s,q,e,hs1,hq1,hperm,f1,f2⟩:=aiv m1 m2 k hk;have hl:=hp.len;obtain⟨p1,p2⟩:=tJ hp q hq1;have hnd:∀i,(bq (S.take s)).count i<=1:=fun i=>by
  have h3:(bq (S.take s)).Nodup:=by
   have h4:=hS.nodup;rw[<-List.take_append_drop s S,fI]at h4;exact(List.nodup_append.1 h4).1
  exact List.nodup_iff_count.1 h3 i
 refine⟨s,q,e,hs1,by omega,fun i=>?_,fun i hi=>?_,?_⟩
 ·unfold occ;rw[(FR hperm).count_eq i,fI,List.count_append,p1]
 ·have h3:0<(bq (S.take s)).count i:=by
   unfold occ at hi;rw[<-p1,List.count_pos_iff,vO]at hi;obtain⟨u,hu,hiu⟩:=hi;have huP:u∈P:=List.mem_of_mem_take hu;obtain⟨⟨w1,w2,w3⟩,w4⟩:=okP u huP;obtain⟨c1,c2⟩:=w3 i hiu;have huT:u∈T'.take k:=(List.mem_filter.1 (by rw[f2];exact hu)).1;have hiS:=hS.all i c2 c1;obtain⟨v,hv,hiv⟩:=vO.1 hiS;obtain⟨j,j1,j2,j3,j4⟩:=hS.one v hv;rw[j1,List.mem_singleton]at hiv;subst hiv;have hlt:v.1<u.1:=by
    rw[w1,j2];obtain⟨A,B,hAB⟩:=List.append_of_mem hiu;rw[hAB,List.map_append,List.map_cons,List.sum_append_nat,List.sum_cons];rw[hAB,List.length_append,List.length_cons]at w4;have hpos:0<(A.map (bH cs)).sum+(B.map (bH cs)).sum:=by
     match A,B,hAB,w4 with
     | a :: A,_,hAB,_=>
      have:=(w3 a (by rw[hAB];simp)).1;rw[List.map_cons,List.sum_cons];omega
     | [],b :: B,hAB,_=>
      have:=(w3 b (by rw[hAB];simp)).1;rw[List.map_cons,List.sum_cons];omega
     | [],[],_,w4=>simp at w4
    omega
   have aoF:v∈T':=hs.1.mem_iff.1 (List.mem_append_left _ hv);have hvk:v∈T'.take k:=by
    rw[<-List.take_append_drop k T']at aoF;rcases List.mem_append.1 aoF with h5 | h5
    ·exact h5
    ·exfalso
     have h6:=hr;rw[<-List.take_append_drop k T']at h6;have:=(List.pairwise_append.1 h6).2.2 u huT v h5;omega
   have hvs:v∈S.take s:=by
    rw[<-f1];exact List.mem_filter.2 ⟨hvk,h1 v hv⟩
   rw[List.count_pos_iff,vO];exact⟨v,hvs,by rw[j1];simp⟩
  have:=hnd i;omega
 ·rw[XA hperm,qd,p2]
theorem Ws{cs:List Nat}{S:List Pcl}(h:wz cs S)(s:Nat):(bq (S.take s)).length=(S.take s).length/\∀y∈bq (S.take s),y<cs.length:=by
 have:∀L:List Pcl,(∀t∈L,t∈S)->(bq L).length=L.length/\∀y∈bq L,y<cs.length:=fun L=>by
  induction L with
  | nil=>intro _;simp[bq]
  | cons t L ih=>
   intro hL;obtain⟨h1,h2⟩:=ih (fun u hu=>hL u (List.mem_cons_of_mem _ hu));obtain⟨i,e1,_,_,e4⟩:=h.one t (hL t List.mem_cons_self);have e:bq (t :: L)=i :: bq L:=by simp[bq,e1]
   rw[e];refine⟨by simp[h1],fun y hy=>?_⟩;rcases List.mem_cons.1 hy with rfl | hy
   ·exact e4
   ·exact h2 y hy
 exact this _ (fun t ht=>List.mem_of_mem_take ht)
theorem wO{cs:List Nat}{S:List Pcl}(h:wz cs S)(s:Nat)(hs:s<=S.length):((List.range cs.length).map fun i=>(bq (S.take s)).count i).sum=s:=by
 obtain⟨h1,h2⟩:=Ws h s;have h3:=wM (fun _=>1) cs.length (bq (S.take s)) h2;simp only[Nat.one_mul]at h3;rw[h3,List.map_const',List.sum_replicate_nat,Nat.mul_one,h1,List.length_take];omega
theorem Un{cs:List Nat}{S:List Pcl}(hS:wz cs S):∀{t:Nat} {T:List Pcl},Lev S t T->∀k,k<=T.length->(∀i,occ T k i<=t+1)/\((List.range cs.length).map fun i=>2^(t+1)-2^(t+1-occ T k i)).sum=k*2^t:=by
 intro t T hT;induction hT with
 | zero=>
  intro k hk;have hnd:∀i,occ S k i<=1:=fun i=>by
   have h4:=hS.nodup;rw[<-List.take_append_drop k S,fI]at h4;exact List.nodup_iff_count.1 (List.nodup_append.1 h4).1 i
  refine⟨fun i=>by have:=hnd i;omega,?_⟩;have h1:=wO hS k hk;rw[Nat.pow_zero,Nat.mul_one];refine Eq.trans ?_ h1;congr 1
  apply List.map_congr_left
  intro i _;have h2:=hnd i;unfold occ at h2 ⊢;generalize (bq (S.take k)).count i=c at *;obtain rfl | rfl:c=0\/c=1:=by omega
  ·simp
  ·simp
 | @succ t T P T' hT hp hs hr ih=>
  intro k hk;obtain⟨s,q,e,hs1,hq1,ho,hpre,_⟩:=ZT hS hT hp hs hr k hk;obtain⟨ih1,ih2⟩:=ih (2*q) hq1;have hc1:∀i,(bq (S.take s)).count i<=1:=fun i=>by
   have h4:=hS.nodup;rw[<-List.take_append_drop s S,fI]at h4;exact List.nodup_iff_count.1 (List.nodup_append.1 h4).1 i
  refine⟨fun i=>by have:=ho i;have:=ih1 i;have:=hc1 i;omega,?_⟩;have h1:=wO hS s hs1;have h2:((List.range cs.length).map fun i=>2^(t+1+1)-2^(t+1+1-occ T' k i)).sum=((List.range cs.length).map fun i=>2^(t+1)*(bq (S.take s)).count i+(2^(t+1)-2^(t+1-occ T (2*q) i))).sum:=by
   congr 1
   apply List.map_congr_left
   intro i _;have a1:=ho i;have a2:=hpre i;have a3:=hc1 i;have a4:=ih1 i;rw[a1];generalize (bq (S.take s)).count i=c at *;generalize occ T (2*q) i=o at *;have hp2:2^(t+1+1)=2*2^(t+1):=by rw[Nat.pow_succ,Nat.mul_comm]
   have hle:2^(t+1-o)<=2^(t+1):=Nat.pow_le_pow_right (by omega) (by omega);obtain rfl | rfl:c=0\/c=1:=by omega
   ·obtain rfl:o=0:=by
     rcases Nat.eq_zero_or_pos o with h | h
     ·exact h
     ·have:=a2 h;omega
    simp
   ·rw[show t+1+1-(1+o)=t+1-o by omega,hp2];omega
  rw[h2,eB,ih2];have h3:((List.range cs.length).map fun i=>2^(t+1)*(bq (S.take s)).count i).sum=2^(t+1)*s:=by
   conv=>rhs;rw[<-h1]
   clear h1 h2 ih2;generalize List.range cs.length=L;induction L with
   | nil=>simp
   | cons a L ih=>rw[List.map_cons,List.sum_cons,ih,List.map_cons,List.sum_cons,Nat.mul_add]
  rw[h3,<-e,Nat.add_mul,Nat.mul_comm s,Nat.pow_succ,show 2*q*2^t=q*(2^t*2) by rw[Nat.mul_comm 2 q,Nat.mul_assoc,Nat.mul_comm 2]]
theorem ZQ{S:List Pcl}(w:Nat)(hw:w<=11)(h1:S.length<=2^w)(h2:2^w<=2*S.length) :
  ∀{t:Nat} {T:List Pcl},Lev S t T->∀j,j<=w->t+j=11->2*S.length-2^j<=T.length/\mF (T.take (2*S.length-2^j))<=(w-j)*mF S+mF (S.take (2*S.length-2^w)):=by
 intro t T hT;induction hT with
 | zero=>
  intro j hj ht;obtain rfl:j=w:=by omega
  exact⟨by omega,by omega⟩
 | @succ t T P T' hT hp hs hr ih=>
  intro j hj ht;have hl:=hs.1.length_eq;rw[List.length_append]at hl;have hPl:=hp.len;by_cases hjw:j=w
  ·subst hjw;have h3:=uP hs.1 hr (2*S.length-2^j) 0 (by omega) (by omega);simp only[Nat.add_zero,List.take_zero]at h3;have h4:mF ([]:List Pcl)=0:=rfl;rw[h4]at h3;exact⟨by omega,by omega⟩
  ·obtain⟨ih1,ih2⟩:=ih (j+1) (by omega) (by omega);have hpj:2^(j+1)=2*2^j:=by rw[Nat.pow_succ,Nat.mul_comm]
   have arb:2^(j+1)<=2^w:=Nat.pow_le_pow_right (by omega) (by omega);have h3:=uP hs.1 hr S.length (S.length-2^j) (Nat.le_refl _) (by omega);rw[List.take_length,(tJ hp (S.length-2^j) (by omega)).2,show 2*(S.length-2^j)=2*S.length-2^(j+1) by omega,show S.length+(S.length-2^j)=2*S.length-2^j by omega]at h3;refine⟨by omega,?_⟩;have h5:(w-j)*mF S=(w-(j+1))*mF S+mF S:=by
    rw[show w-j=(w-(j+1))+1 by omega,Nat.succ_mul]
   omega
def dF(cs:List Nat)(Y:List Nat):List Nat:=(List.range cs.length).map fun i=>Y.count i
theorem agB(f:Nat->Nat)(N a b:Nat)(ha:a<N)(hb:b<N)(hab:a≠b):f a+f b<=((List.range N).map f).sum:=by
 have e:((List.range N).map fun i=>(if i=a then f a else 0)+(if i=b then f b else 0)).sum=f a+f b:=by
  rw[eB,gX,gX,if_pos ha,if_pos hb]
 rw[<-e];apply kQ
 intro i _;by_cases h1:i=a
 ·subst h1;rw[if_pos rfl,if_neg hab];omega
 ·rw[if_neg h1];by_cases h2:i=b
  ·subst h2;rw[if_pos rfl];omega
  ·rw[if_neg h2];omega
theorem abb(l:List Nat)(m:Nat):(l.reverse.take m).sum+(l.take (l.length-m)).sum=l.sum:=by
 rw[List.take_reverse,List.sum_reverse_nat];conv=>rhs;rw[<-List.take_append_drop (l.length-m) l,List.sum_append_nat]
 omega
theorem Np{cs:List Nat}{S T:List Pcl}(hS:wz cs S)(aeI:cs.length<=256)(h2:2<=S.length)(hlen:S.length=(jk cs).length)(hperm:(S.map (·.1)).Perm (jk cs))(hT:Lev S 10 T) :
  2*S.length-2<=T.length/\Bj cs (dF cs (bq (T.take (2*S.length-2)))):=by
 have hSl:S.length<=256:=by rw[hlen];exact Nat.le_trans (Vk cs) aeI
 obtain⟨w,hw⟩:∃w,w=wid (S.length-1):=⟨_,rfl⟩;have hw1:S.length<=2^w:=by have:=rV (S.length-1);rw[<-hw]at this;omega
 have hw0:1<=w:=by rw[hw];exact lS _ (by omega)
 have hw2:2^w<=2*S.length:=by
  have h3:=Bf (S.length-1) (by omega);rw[<-hw]at h3;have:2^w=2*2^(w-1):=by
   conv=>lhs;rw[show w=(w-1)+1 by omega,Nat.pow_succ,Nat.mul_comm]
  omega
 have hw8:w<=8:=by
  rw[hw];refine eF _ 8 ?_;have:(2:Nat)^8=256:=by decide
  omega
 obtain⟨fl1,fl2⟩:=ZQ w (by omega) hw1 hw2 hT 1 hw0 rfl;rw[Nat.pow_one]at fl1 fl2;obtain⟨kr1,kr2⟩:=Un hS hT (2*S.length-2) fl1;obtain⟨_,okT⟩:=LC hS hT;have okY:∀y∈bq (T.take (2*S.length-2)),0<bH cs y/\y<cs.length:=fun y hy=>by
  obtain⟨u,hu,hyu⟩:=vO.1 hy;exact(okT u (List.mem_of_mem_take hu)).2.2 y hyu
 have hwY:mF (T.take (2*S.length-2))=((bq (T.take (2*S.length-2))).map (bH cs)).sum:=by
  have:∀L:List Pcl,(∀u∈L,u∈T)->mF L=((bq L).map (bH cs)).sum:=fun L=>by
   induction L with
   | nil=>intro _;simp[mF,bq]
   | cons u L ih=>
    intro hL;have h3:=ih (fun v hv=>hL v (List.mem_cons_of_mem _ hv));have h4:=(okT u (hL u List.mem_cons_self)).1;have e1:mF (u :: L)=u.1+mF L:=by simp[mF]
    have e2:bq (u :: L)=u.2.2++bq L:=by simp[bq]
    rw[e1,e2,List.map_append,List.sum_append_nat,<-h3,<-h4]
  exact this _ (fun u hu=>List.mem_of_mem_take hu)
 refine⟨fl1,?_⟩;unfold occ at kr1 kr2;generalize bq (T.take (2*S.length-2))=Y at *;rw[hwY]at fl2;have anW:(2:Nat)^(10+1)=2048:=by decide
 have hk10:(2:Nat)^10=1024:=by decide
 rw[anW,hk10]at kr2;have hlv:(lvs cs).length=S.length:=by rw[hlen,<-nk,List.length_map]
 have hN:((List.range cs.length).map fun i=>if 0<bH cs i then 2048 else 0).sum=S.length*2048:=by
  have h3:=Cj cs (fun _=>2048) cs.length;rw[<-h3,List.map_const',List.sum_replicate_nat];rw[show(iR cs cs.length).length=S.length from hlv]
 have hz:∀i,¬0<bH cs i->Y.count i=0:=fun i hi=>List.count_eq_zero.2 (fun hm=>hi (okY i hm).1)
 have hX:((List.range cs.length).map fun i=>if 0<bH cs i then 2^(11-Y.count i)else 0).sum=2048:=by
  have h3:((List.range cs.length).map fun i=>(if 0<bH cs i then 2^(11-Y.count i)else 0)+(2048-2^(10+1-Y.count i))).sum=((List.range cs.length).map fun i=>if 0<bH cs i then 2048 else 0).sum:=by
   congr 1
   apply List.map_congr_left
   intro i _;have hle:2^(10+1-Y.count i)<=2^(10+1):=Nat.pow_le_pow_right (by omega) (by omega);by_cases hi:0<bH cs i
   ·rw[if_pos hi,if_pos hi];rw[show 11-Y.count i=10+1-Y.count i by omega];omega
   ·rw[if_neg hi,if_neg hi,hz i hi,Nat.sub_zero,anW]
  rw[eB,kr2,hN]at h3;omega
 have hpos:∀j,j<cs.length->0<bH cs j->0<Y.count j:=fun j hj hc=>by
  rcases Nat.eq_zero_or_pos (Y.count j)with h0 | h0
  ·exfalso
   have hex:∃u∈lvs cs,u.2≠j:=by
    match hL:lvs cs,hlv with
    | a :: b :: L,_=>
     have hnd:=qO cs cs.length;have e1:iR cs cs.length=a :: b :: L:=hL;rw[e1]at hnd;simp only[List.map_cons,List.nodup_cons,List.mem_cons,not_or]at hnd;by_cases ha:a.2=j
     ·exact⟨b,by simp,fun hb=>hnd.1.1 (by rw[ha,hb])⟩
     ·exact⟨a,by simp,ha⟩
    | [],hl=>simp at hl;omega
    | [a],hl=>simp at hl;omega
   obtain⟨u,hu,huj⟩:=hex;obtain⟨u1,u2,u3⟩:=(bX cs cs.length u).1 hu;have hcu:0<bH cs u.2:=by unfold bH;omega
   have h3:=agB (fun i=>if 0<bH cs i then 2^(11-Y.count i)else 0) cs.length j u.2 hj u1 (fun h=>huj h.symm);rw[hX]at h3;simp only[if_pos hc,if_pos hcu,h0,Nat.sub_zero]at h3;have hp:0<2^(11-Y.count u.2):=Nat.two_pow_pos _;have h11:(2:Nat)^11=2048:=by decide
   omega
  ·exact h0
 have hll:(dF cs Y).length=cs.length:=by simp[dF]
 have hg:∀i,i<cs.length->(dF cs Y)[i]?.getD 0=Y.count i:=fun i hi=>by simp[dF,hi]
 have Zx:∀i,i<cs.length->(0<(dF cs Y)[i]?.getD 0↔0<cs[i]?.getD 0):=fun i hi=>by
  rw[hg i hi];refine⟨fun h=>?_,fun h=>hpos i hi h⟩;exact(okY i (List.count_pos_iff.1 h)).1
 have h11:∀x∈dF cs Y,x<=11:=fun x hx=>by
  simp only[dF,List.mem_map]at hx;obtain⟨i,_,rfl⟩:=hx;exact kr1 i
 refine⟨hll,⟨by omega,h11,.inl ?_⟩,Zx,Nat.le_trans ?_ (Nat.le_max_left _ _)⟩
 ·rw[qK,hll,<-hX];congr 1
  apply List.map_congr_left
  intro i hi;have hi:=List.mem_range.1 hi;rw[hg i hi];unfold dD;by_cases hc:0<bH cs i
  ·have:=hpos i hi hc;rw[if_neg (by omega),if_pos hc]
  ·rw[if_pos (hz i hc),if_neg hc]
 ·have hc1:NG cs (dF cs Y)=(Y.map (bH cs)).sum:=by
   rw[<-wM (bH cs) cs.length Y (fun y hy=>(okY y hy).2)];unfold NG;congr 1
   apply List.map_congr_left
   intro i hi;rw[hg i (List.mem_range.1 hi)]
  have hsort:(S.map (·.1)).Pairwise (·<=·):=List.pairwise_map.2 hS.srt;have his:mD (jk cs)=S.map (·.1):=by rw[<-qJ hperm,Lm _ hsort]
  have hws:mF S=(jk cs).sum:=hperm.sum_nat;have hrev:=abb (S.map (·.1)) (2^w-S.length);rw[List.length_map]at hrev;have hwt:mF (S.take (2*S.length-2^w))=((S.map (·.1)).take (S.length-(2^w-S.length))).sum:=by
   unfold mF;rw[List.map_take];congr 2
   omega
  have hwS:(S.map (·.1)).sum=mF S:=rfl;unfold aiy;rw[if_neg (by omega),his,<-hlen,<-hw,hc1,<-hws];have hmul:mF S*w=(w-1)*mF S+mF S:=by
   conv=>lhs;rw[show w=(w-1)+1 by omega,Nat.mul_succ,Nat.mul_comm]
  rw[hmul];omega
theorem ZR{cs:List Nat}{S:List Pcl}(hS:wz cs S)(hm:∀x∈cs,x<=1048576):∀{t:Nat} {T:List Pcl},Lev S t T->S.length<=T.length/\T.length<=2*S.length/\∀u∈T,u.2.2.length<=2^t/\u.1<=2^t*1048576:=by
 have hone:∀u∈S,u.2.2.length<=1/\u.1<=1048576:=fun u hu=>by
  obtain⟨i,e1,e2,_,e4⟩:=hS.one u hu;rw[e1,e2];refine⟨by simp,?_⟩;unfold bH;rw[List.getElem?_eq_getElem e4,Option.getD_some];exact hm _ (List.getElem_mem e4)
 intro t T hT;induction hT with
 | zero=>exact⟨Nat.le_refl _,by omega,fun u hu=>by have:=hone u hu;simp;omega⟩
 | @succ t T P T' hT hp hs hr ih=>
  obtain⟨i1,i2,i3⟩:=ih;have hl:=hs.1.length_eq;rw[List.length_append,hp.len]at hl;have aql:2^(t+1)=2*2^t:=by rw[Nat.pow_succ,Nat.mul_comm]
  have h1:1<=2^t:=Nat.one_le_two_pow;refine⟨by omega,by omega,fun u hu=>?_⟩;rw[aql];rcases List.mem_append.1 (hs.1.mem_iff.2 hu)with hu | hu
  ·have:=hone u hu;omega
  ·obtain⟨x,hx,rfl⟩:=List.mem_iff_getElem.1 hu;have hl2:=hp.len;have a1:=hp.wt x hx;have a2:=hp.sy x hx;unfold wt at a1;rw[List.getElem?_eq_getElem hx,Option.getD_some]at a1 a2;have b1:=i3 _ (nT (show 2*x<T.length by omega));have b2:=i3 _ (nT (show 2*x+1<T.length by omega));rw[a1,a2,List.length_append];omega
theorem IL(cs Y:List Nat)(y:Nat):dF cs (Y++[y])=(dF cs Y).set y (Y.count y+1):=by
 apply List.ext_getElem
 ·simp[dF]
 ·intro i h1 h2;rw[List.getElem_set];simp only[dF,List.getElem_map,List.getElem_range,List.count_append,List.count_singleton];by_cases e:y=i
  ·subst e;simp
  ·have:(y == i)=false:=by rw[beq_eq_false_iff_ne];exact e
   rw[if_neg e,this];simp
theorem OE(cs:List Nat):dF cs []=List.replicate cs.length 0:=by
 unfold dF;simp only[List.count_nil];rw[List.map_const',List.length_range]
end Go.Proofs.YtaebnkeddcbmkaaGreat.Bm
