/- Contracts, and what they rest on. Conditions: the theorems' premises. -/
import Derived.Test.YtaebnkeddcbmkaaGreatYae
import Derived.Shelf.Pu.Clone
set_option maxHeartbeats 4000000
set_option maxRecDepth 100000
open Go.Lib(hid)
open Go.Proofs.Tryz
namespace Go.Proofs.YtaebnkeddcbmkaaGreat
open Go.RowKit Go.Maps Go.Proofs.YtaebnkeddcbmkaaGreat.Bm
namespace Bm
def val(F:ByteArray->Option Nat)(g:ByteArray):Nat:=(F g).getD 0
def GZ(F:ByteArray->Option Nat)(l:List ByteArray):ByteArray->Option Nat:=fun g=>if g∈l then none else F g
theorem YQ(F:ByteArray->Option Nat):GZ F []=F:=by funext g;simp[GZ]
theorem SB(F:ByteArray->Option Nat)(l:List ByteArray)(g:ByteArray):QJ (GZ F l) g none=GZ F (l++[g]):=by
 funext u
 unfold QJ GZ;by_cases h:u=g
 ·subst h;simp
 ·by_cases h2:u∈l<;>simp[h,h2]
theorem ace(F:ByteArray->Option Nat)(l:List ByteArray)(g:ByteArray):val (GZ F l) g=if g∈l then 0 else val F g:=by
 unfold val GZ;split<;>rfl
end Bm
theorem yJ(base b n:Nat)(F:ByteArray->Option Nat)(s:ByteArray)(w:World)(hs:s.size<=100000)(hF:∀g,val F g<=1000)(hmap:jy w b n F)(hmax:zx base w) :
  Calls prog 48 #[.map (some b),.string s] w fun e w'=>e=.returned (.int .i64 ((kD (val F) [] (gms s):Nat):Int))/\w'=w:=by
 obtain⟨N,hN⟩:∃N,N=(gms s).length:=⟨_,rfl⟩;have hNs:(s.size:Int)-6+1<=(N:Int)/\(N:Int)<=s.size/\(0<N->(s.size:Int)-6+1=(N:Int)):=by rw[hN,dQ];omega
 obtain⟨hN1,hN2,hN3⟩:=hNs;have XJ:=hid hmap;have XK:=hid hmax;have HF:=hid hF;have Hlen:=hid hN;have Hle:Hid (∀k,kD (val F) [] ((gms s).take k)<=100000000):=hid (fun k=>by
  have h1:=MV (val F) (gms s) k;have h2:=uy (val F) 1000 (gms s) [] (fun g _=>hF g);rw[<-hN]at h2;omega)
 clear hmap hmax hF hN;go_enter func48,ntmps48
 go_wp2;go_loopw [5,13] (fun sv iv wr=>∃(i:Nat),iv=.int .i64 (i:Int)/\i<=N/\sv=.int .i64 ((kD (val F) [] ((gms s).take i):Nat):Int)/\wr=w) (fun _ iv _=>N-(intOf iv).toNat)
 case atStart=>exact⟨0,rfl,Nat.zero_le _,rfl,rfl⟩
 case round=>
  obtain⟨i,rfl,hi,rfl,rfl⟩:=hrel;by_cases hiN:i<N
  ·have hlt:(i:Int)<(s.size:Int)-6+1:=by rw[hN3 (by omega)];omega
   have hil:i<(gms s).length:=by rw[<-Hlen.out];exact hiN
   have hi6:i+6<=s.size:=by rw[dQ]at hil;omega
   obtain⟨S,hS⟩:∃S,S=kD (val F) [] ((gms s).take i):=⟨_,rfl⟩;have hS1:S<=100000000:=by rw[hS];exact Hle.out i
   have fC:=hid (Gg (val F) s i hil);rw[<-hS]at fC ⊢;obtain⟨S2,hS2⟩:∃S2,S2=kD (val F) [] ((gms s).take (i+1)):=⟨_,rfl⟩;rw[<-hS2]at fC;have hsz:(gr s i).size<=maxLen:=by rw[BR s i hi6];unfold maxLen;omega
   have hcut:=aly s i hi6;have Hx:=Ou s i hil;obtain⟨g,hg⟩:∃g,g=gr s i:=⟨_,rfl⟩;rw[<-hg]at hcut hsz fC Hx;obtain⟨x,hx⟩:∃x,x=Lib.index s.data.toList g.data.toList:=⟨_,rfl⟩;rw[<-hx]at Hx;have Dl:Hid (Calls prog 79 #[.string s,.string g] wr fun e w'=>e=.returned (.int .i64 x)/\w'=wr):=hid (by rw[hx];exact PO s g base wr (by omega) XK.out);obtain⟨v,hv⟩:∃v,val F g=v:=⟨_,rfl⟩;have hv1:v<=1000:=by rw[<-hv];exact HF.out g
   rw[hv]at fC;have Hv:=hid hv;have HX:=hid Hx;have HS2:=hid hS2;clear hx hv Hx hS hg hS2 hil;by_cases hv0:v=0
   ·subst hv0;have hSS:Hid (S2=S):=hid (by have:=fC.out;split at this<;>omega);clear fC;go_wp2_with (first
     | (at_lookup;refine rW _ rfl _ _ 48 rfl underlying48 b n F rfl XJ.out g 0 Hv.out rfl hsz ?_)
     | go_in)
    go_roundw
    case rel=>exact⟨i+1,by go_num,by omega,by rw[<-HS2.out,hSS.out],by first | rfl | trivial⟩
    case measure=>simp[intOf];omega
   ·have hvp:0<v:=by omega
    by_cases hmem:g∈(gms s).take i
    ·have hd:(x == (i:Int))=false:=by rw[beq_eq_false_iff_ne];intro e;exact(HX.out.1 e) hmem
     have hSS:Hid (S2=S):=hid (by have:=fC.out;rw[if_pos hmem]at this;omega);clear fC hmem;go_wp2_with (first
      | (at_lookup;refine rW _ rfl _ _ 48 rfl underlying48 b n F rfl XJ.out g v Hv.out rfl hsz ?_)
      | (go_at_call 79;refine Dl.out.mono ?_;rintro e w' ⟨rfl,rfl⟩)
      | go_in)
     go_roundw
     case rel=>exact⟨i+1,by go_num,by omega,by rw[<-HS2.out,hSS.out],by first | rfl | trivial⟩
     case measure=>simp[intOf];omega
    ·have hd:(x == (i:Int))=true:=by rw[beq_iff_eq];exact HX.out.2 hmem
     have hSS:Hid (S2=S+v):=hid (by have:=fC.out;rw[if_neg hmem]at this;omega);clear fC hmem;go_wp2_with (first
      | (at_lookup;refine rW _ rfl _ _ 48 rfl underlying48 b n F rfl XJ.out g v Hv.out rfl hsz ?_)
      | (go_at_call 79;refine Dl.out.mono ?_;rintro e w' ⟨rfl,rfl⟩)
      | go_in)
     go_roundw
     case rel=>exact⟨i+1,by go_num,by omega,by rw[<-HS2.out,hSS.out];go_num,by first | rfl | trivial⟩
     case measure=>simp[intOf];omega
  ·have hge:¬(i:Int)<(s.size:Int)-6+1:=by
    by_cases h0:0<N
    ·rw[hN3 h0];omega
    ·omega
   have aiU:i=N:=by omega
   have iy:Hid ((gms s).take i=gms s):=hid (by rw[aiU,Hlen.out,List.take_length]);rw[iy.out];clear hN3 aiU;go_wp2;go_ret;exact⟨rfl,rfl⟩
theorem Ga(b n:Nat)(F:ByteArray->Option Nat)(s:ByteArray)(w:World)(hs:s.size<=100000)(hF:∀g,val F g<=1000)(hmap:jy w b n F) :
  Calls prog 23 #[.map (some b),.string s] w fun e w'=>e=.returned (.int .i64 ((kD (val F) [] (gms s):Nat):Int))/\jy w' b n (GZ F (gms s))/\w.grownBy w' (some b):=by
 obtain⟨N,hN⟩:∃N,N=(gms s).length:=⟨_,rfl⟩;have hNs:(s.size:Int)-6+1<=(N:Int)/\(N:Int)<=s.size/\(0<N->(s.size:Int)-6+1=(N:Int)):=by rw[hN,dQ];omega
 obtain⟨hN1,hN2,hN3⟩:=hNs;have ahT:Hid (jy w b n (GZ F ((gms s).take 0))):=hid (by rw[List.take_zero,YQ];exact hmap);have HF:=hid hF;have Hlen:=hid hN;have Hle:Hid (∀k,kD (val F) [] ((gms s).take k)<=100000000):=hid (fun k=>by
  have h1:=MV (val F) (gms s) k;have h2:=uy (val F) 1000 (gms s) [] (fun g _=>hF g);rw[<-hN]at h2;omega)
 clear hmap hF hN;go_enter func23,ntmps23
 go_wp2;go_loopw [5,12] (fun sv iv wr=>∃(i:Nat),iv=.int .i64 (i:Int)/\i<=N/\sv=.int .i64 ((kD (val F) [] ((gms s).take i):Nat):Int)/\Hid (jy wr b n (GZ F ((gms s).take i)))/\Hid (w.grownBy wr (some b))) (fun _ iv _=>N-(intOf iv).toNat)
 case atStart=>exact⟨0,rfl,Nat.zero_le _,rfl,ahT,hid (aj _ _)⟩
 case round=>
  obtain⟨i,rfl,hi,rfl,XJ,Hg⟩:=hrel;clear ahT;by_cases hiN:i<N
  ·have hlt:(i:Int)<(s.size:Int)-6+1:=by rw[hN3 (by omega)];omega
   have hil:i<(gms s).length:=by rw[<-Hlen.out];exact hiN
   have hi6:i+6<=s.size:=by rw[dQ]at hil;omega
   obtain⟨S,hS⟩:∃S,S=kD (val F) [] ((gms s).take i):=⟨_,rfl⟩;have hS1:S<=100000000:=by rw[hS];exact Hle.out i
   have fC:=hid (Gg (val F) s i hil);rw[<-hS]at fC ⊢;obtain⟨S2,hS2⟩:∃S2,S2=kD (val F) [] ((gms s).take (i+1)):=⟨_,rfl⟩;rw[<-hS2]at fC;have hsz:(gr s i).size<=maxLen:=by rw[BR s i hi6];unfold maxLen;omega
   have hcut:=aly s i hi6;obtain⟨g,hg⟩:∃g,g=gr s i:=⟨_,rfl⟩;have apa:Hid (QJ (GZ F ((gms s).take i)) g none=GZ F ((gms s).take (i+1))):=hid (by rw[SB,lq s i hil,hg]);rw[<-hg]at hcut hsz fC;obtain⟨v,hv⟩:∃v,val (GZ F ((gms s).take i)) g=v:=⟨_,rfl⟩;have hvv:=hv;rw[ace]at hvv;rw[hvv]at fC;have hv1:v<=1000:=by
    have:=HF.out g;rw[<-hvv];split<;>omega
   have Hv:=hid hv;have HS2:=hid hS2;clear hv hvv hS hg hS2 hil;go_wp2_with (first
    | (at_lookup;refine rW _ rfl _ _ 48 rfl underlying48 b n _ rfl XJ.out g v Hv.out rfl hsz ?_)
    | (at_delete;refine Qt _ rfl _ _ 48 rfl underlying48 b n _ rfl XJ.out g rfl hsz ?_;intro w2 hm2 hg2;have Hm2:=hid hm2;have Hg2:=hid hg2;clear hm2 hg2)
    | go_in)
   go_roundw
   case rel=>exact⟨i+1,by go_num,by omega,by rw[<-HS2.out,fC.out];go_num,hid (by rw[<-apa.out];exact Hm2.out),hid (Hg.out.trans Hg2.out)⟩
   case measure=>simp[intOf];omega
  ·have hge:¬(i:Int)<(s.size:Int)-6+1:=by
    by_cases h0:0<N
    ·rw[hN3 h0];omega
    ·omega
   have aiU:i=N:=by omega
   have iy:Hid ((gms s).take i=gms s):=hid (by rw[aiU,Hlen.out,List.take_length]);rw[iy.out]at XJ ⊢;clear hN3 aiU;go_wp2;go_ret;exact⟨rfl,XJ.out,Hg.out⟩
open Go.Shelf
def ami:Go.Shelf.Ren:=⟨fun | 25=>53 | n=>n,fun | 0=>0 | 3=>3 | 4=>4 | 5=>5 | 9=>9 | 37=>60 | 47=>99 | n=>n,fun | n=>n⟩
theorem ajJ:Go.Proofs.LaysPu.n25 prog ami:={
 mixed:=by kernel_rfl
 f25:=Tryz.func53.trans (congrArg some (by kernel_rfl))
 t0:=underlying0
 a0:=Tryz.isAgg0
 z0:=Tryz.sizeOf0
 v0:=Tryz.zeroValue0
 i0:=by kernel_rfl
 t3:=underlying3
 a3:=Tryz.isAgg3
 z3:=Tryz.sizeOf3
 v3:=Tryz.zeroValue3
 i3:=by kernel_rfl
 t4:=underlying4
 a4:=Tryz.isAgg4
 z4:=Tryz.sizeOf4
 v4:=Tryz.zeroValue4
 i4:=by kernel_rfl
 t5:=underlying5
 a5:=Tryz.isAgg5
 z5:=Tryz.sizeOf5
 v5:=Tryz.zeroValue5
 i5:=by kernel_rfl
 t9:=underlying9
 a9:=Tryz.isAgg9
 z9:=Tryz.sizeOf9
 v9:=Tryz.zeroValue9
 i9:=by kernel_rfl
 t37:=underlying60
 a37:=Tryz.isAgg60
 z37:=Tryz.sizeOf60
 v37:=Tryz.zeroValue60
 i37:=by kernel_rfl
 t47:=underlying99
 a47:=Tryz.isAgg99
 z47:=Tryz.sizeOf99
 v47:=Tryz.zeroValue99
 i47:=by kernel_rfl}
theorem JQ(s:ByteArray)(w:World)(hlim:s.size<=281474976710656) :
  Calls prog 53 #[.string s] w fun e w'=>e=.returned (.string s)/\Below w.heap.size w w':=AnyPu.stringslite_Clone ajJ s w hlim
theorem Ay(s:ByteArray)(w:World)(hlim:s.size<=281474976710656) :
  Calls prog 26 #[.string s] w fun e w'=>e=.returned (.string s)/\Below w.heap.size w w':=by
 have H:=hid (JQ s w hlim);go_enter func26,ntmps26
 go_wp2_with fail
 refine H.out.mono ?_;rintro e w1 ⟨rfl,hb⟩;go_wp2;go_ret;exact⟨rfl,hb⟩
end Go.Proofs.YtaebnkeddcbmkaaGreat
