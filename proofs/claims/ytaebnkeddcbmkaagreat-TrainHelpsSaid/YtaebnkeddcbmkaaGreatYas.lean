/- Contracts, and what they rest on. Conditions: the theorems' premises. -/
import Derived.Test.YtaebnkeddcbmkaaGreatYar
import Derived.Deep.RegionHeld3
set_option maxHeartbeats 4000000
set_option maxRecDepth 100000
open Go.Lib(hid)
open Go.Proofs.Tryz Go.Proofs.YtaebnkeddcbmkaaGreat.Bm
namespace Go.Proofs.YtaebnkeddcbmkaaGreat
open Go.RowKit
theorem Jj(T P:List Nat)(n:Nat)(h:n+3<=T.length):Ji T P (n:Int)=!decide (n∈P):=by
 have hr:rz T (n:Int)=true:=decide_eq_true ⟨by omega,by omega⟩;rw[Ji,hr,Bool.true_and];by_cases hn:n∈P
 ·rw[decide_eq_true hn,List.any_eq_true.2 ⟨n,hn,decide_eq_true rfl⟩]
 ·rw[decide_eq_false hn,List.any_eq_false.2 (fun p hp=>by
   simp only[decide_eq_true_eq];intro e;have e2:p=n:=by omega
   subst e2;exact hn hp)]
theorem Gi(b:Nat)(T P:List Nat)(a:Int)(w:World)(hT:T.length<=2000)(hlt:∀x∈T,x<256)(ha:bO a)(h:PF w b T P) :
  Calls prog 87 #[.pointer (some ⟨b,0,none⟩),.int .i64 a] w fun e w'=>e=.returned (.bool (Ji T P a))/\PF w' b T (jU T P a)/\w.grownBy w' (some b):=by
 have Qz:=hid (XE (some ⟨b,0,none⟩) T.length a w (by omega) (Dk b T w h.text));obtain⟨r,hr⟩:∃r,r=Ji T P a:=⟨_,rfl⟩;have Hno:Hid (r=false->PF w b T (jU T P a)):=hid (fun hf=>by unfold jU;rw[<-hr,hf,if_neg Bool.false_ne_true];exact h);by_cases hri:0<=a/\a+3<=T.length
 ·rw[decide_eq_true hri]at Qz;obtain⟨n,rfl⟩:=Int.eq_ofNat_of_zero_le hri.1;have hn:n+3<=T.length:=by omega
  have hrn:=Jj T P n hn;obtain⟨C,L,A,hrow,hpc,hok,hpl⟩:=h;have c1:=(hrow.cell (1+n)).trans (hpc.noted n (by omega));by_cases hnP:n∈P
  ·rw[decide_eq_true hnP]at c1 hrn;have hrf:r=false:=by rw[hr,hrn];rfl
   rw[<-hr,hrf];have dV:=hid (Hno.out hrf);clear Hno hr hrf hri hrn hrow hpc hok hpl hnP hlt ha;go_enter func87,ntmps87
   go_wp2_with fail
   refine Qz.out.mono ?_;rintro e w1 ⟨rfl,m,rfl⟩;go_wp2;go_ret;exact⟨rfl,dV.out.keep rfl,bL (aj w _) m⟩
  ·rw[decide_eq_false hnP]at c1 hrn;have hrt:r=true:=by rw[hr,hrn];rfl
   have HP2:Hid (jU T P (n:Int)=P++[n]):=hid (by unfold jU;rw[<-hr,hrt,if_pos rfl,Int.toNat_natCast]);obtain⟨c,hc⟩:∃c,c=yV T n:=⟨_,rfl⟩;have hc3:c<2003:=by rw[hc];exact TM T n
   have Hch:=hid (fun m=>Bg b n T (w.drewN m) hlt hT hn ((hrow.cell 0).trans hpc.c0));rw[<-hc]at Hch;have hok2:=hok.note n hnP;rw[<-hc]at hok2;have pG:Bm.Places T (P++[n]):=fun p hp=>by
    rcases List.mem_append.1 hp with hp | hp
    ·exact hpl p hp
    ·rw[List.mem_singleton.1 hp];exact hn
   have Hok:=hid hok2;have Hpl:=hid pG;have gF:=hid hrow;have Hpc:=hid hpc;rw[<-hr,hrt,HP2.out];clear Hno hr hrt hri hrn hrow hpc hok hok2 hpl pG hnP hlt ha hc HP2;go_enter func87,ntmps87
   go_wp2_with fail
   refine Qz.out.mono ?_;rintro e w1 ⟨rfl,m,rfl⟩;clear Qz;go_wp2_with fail
   refine(Hch.out m).mono ?_;rintro e w2 ⟨rfl,hb2⟩;have hrow2:Row w2 b 149 C:=gF.out.keep (hb2.block b gF.out.lt);have c2:=(hrow2.cell (1+n)).trans (Hpc.out.noted n (by omega));have f2:=hrow2.free (1+n);have Hg2:=hid (show w.grownBy w2 (some b)from ak (show Below w.heap.size w w2 from⟨hb2.os,hb2.tape,hb2.output,hb2.size,hb2.block⟩) _);have dL:=hid hrow2;clear hb2 hrow2 Hch c1;go_wp2;have hrow3:=dL.out.aT (1+n) (.bool true);have hg3:=aB Hg2.out (1+n) (.bool true);have c3:=(hrow3.cell (2001+c)).trans ((aZ _ _ _ _ (by omega)).trans (Hpc.out.last c hc3));have d3:=(hrow3.cell (4004+n)).trans ((aZ _ _ _ _ (by omega)).trans (Hpc.out.ahead n (by omega)));have f3:=hrow3.free (4004+n);have kg:=hid hrow3;have Hg3:=hid hg3;clear hrow3 hg3 c2 f2 dL Hg2 gF;generalize w2.setCell ⟨b,1+n,none⟩ (.bool true)=w3 at *;go_region
   have hrow4:Row (w3.setCell ⟨b,4004+n,none⟩ (.int .i16 (L c:Int))).drew b 149 ((C.set (1+n) (.bool true)).set (4004+n) (.int .i16 (L c:Int))):=(kg.out.aT (4004+n) (.int .i16 (L c:Int))).keep rfl;have hg4:=bf (aB Hg3.out (4004+n) (.int .i16 (L c:Int)));have c4:=(hrow4.cell (2001+c)).trans ((aZ _ _ _ _ (by omega)).trans ((aZ _ _ _ _ (by omega)).trans (Hpc.out.last c hc3)));have f4:=hrow4.free (2001+c);have Dy:=hid hrow4;have Hg4:=hid hg4;clear hrow4 hg4 c3 d3 f3 kg Hg3;generalize (w3.setCell ⟨b,4004+n,none⟩ (.int .i16 (L c:Int))).drew=w4 at *;have iy:Hid (PF (w4.setCell ⟨b,2001+c,none⟩ (.int .i16 ((n+1:Nat):Int))) b T (P++[n])/\w.grownBy (w4.setCell ⟨b,2001+c,none⟩ (.int .i16 ((n+1:Nat):Int))) (some b)):=hid
    ⟨⟨_,_,_,Dy.out.aT (2001+c) _,Hpc.out.note n c (by omega) hc3,Hok.out,Hpl.out⟩,aB Hg4.out _ _⟩
   rw[Int.natCast_add]at iy;clear Hok Hpl Hpc Dy Hg4;go_wp2;go_ret;exact⟨rfl,iy.out.1,iy.out.2⟩
 ·rw[decide_eq_false hri]at Qz;have hrf:r=false:=by rw[hr,Ji,show rz T a=false from decide_eq_false hri,Bool.false_and]
  rw[<-hr,hrf];have dV:=hid (Hno.out hrf);clear Hno hr hrf hri h hlt ha;go_enter func87,ntmps87
  go_wp2_with fail
  refine Qz.out.mono ?_;rintro e w1 ⟨rfl,m,rfl⟩;go_wp2;go_ret;exact⟨rfl,dV.out.keep rfl,bL (aj w _) m⟩
theorem XD(b:Nat)(T P:List Nat)(a depth:Int)(w:World)(hT:T.length<=2000)(hlt:∀x∈T,x<256)(ha:bO a)(hd:bO depth)(h:PF w b T P) :
  Calls prog 89 #[.pointer (some ⟨b,0,none⟩),.int .i64 a,.int .i64 depth] w fun e w'=>e=.returned (.tuple #[.int .i64 ((dO T P a depth).1:Int),.int .i64 ((dO T P a depth).2:Int)])/\Below w.heap.size w w':=by
 have Qz:=hid (XE (some ⟨b,0,none⟩) T.length a w (by omega) (Dk b T w h.text));obtain⟨hd0,hd1⟩:=hd;by_cases hri:0<=a/\a+3<=T.length
 ·rw[decide_eq_true hri]at Qz;obtain⟨n,rfl⟩:=Int.eq_ofNat_of_zero_le hri.1;have hn:n+3<=T.length:=by omega
  obtain⟨C,L,A,hrow,hpc,hok,hpl⟩:=h;obtain⟨r,hr⟩:∃r,r=dO T P (n:Int) depth:=⟨_,rfl⟩;have hr2:=hr.trans (aeE T P n depth hn hpl);rw[<-hr];obtain⟨c,hc⟩:∃c,c=yV T n:=⟨_,rfl⟩;have hc3:c<2003:=by rw[hc];exact TM T n
  have Hch:=hid (fun W=>Bg b n T W hlt hT hn);rw[<-hc]at hr2 Hch;have hlk:=hok c hc3;have hcp:∀p∈GI T P c,p+3<=T.length:=fun p hp=>hpl p (BF hp)
  have hcl:=GJ T P c;have Hpl:=hid hcp;have Hlk:=hid hlk;have Hr:=hid hr2;have gF:=hid hrow;have Hpc:=hid hpc;have Yh:=hid (fun W (p:Nat) (hp:p+3<=T.length)=>Qy T (p:Int) (n:Int) W (by omega) hlt (by constructor<;>omega) (by constructor<;>omega));have hL:L c<=T.length:=adf hlk (fun p hp=>by have:=hcp p hp;omega);clear hr hr2 hri hrow hpc hok hpl hlt ha hlk hcp hc;obtain⟨ch,hch⟩:∃ch,ch=GI T P c:=⟨_,rfl⟩;rw[<-hch]at hcl Hpl Hlk Hr;clear hch;go_enter func89,ntmps89
  go_wp2_with fail
  refine Qz.out.mono ?_;rintro e w1 ⟨rfl,m,rfl⟩;clear Qz;go_wp2;obtain⟨D,hD⟩:∃D,D=min depth 1000:=⟨_,rfl⟩;have hD0:-9223372036854775808<=D:=by omega
  have hD1:D<=1000:=by omega
  rw[<-hD];rw[<-hD]at Hr;clear hD hd0 hd1;have hcL:∀W,Below w.heap.size w W->W.cell? ⟨b,2001+c,none⟩=some (.int .i16 (L c:Int)):=fun W hb=>((gF.out.keep (hb.block b gF.out.lt)).cell _).trans (Hpc.out.last c hc3)
  have hc0:Hid (∀W,Below w.heap.size w W->W.cell? ⟨b,0,none⟩=some (.string (strOf T))):=hid fun W hb=>((gF.out.keep (hb.block b gF.out.lt)).cell _).trans Hpc.out.c0
  have hb0:Below w.heap.size w (w.drewN m):=below_drewN (Below.refl _ _) m;generalize w.drewN m=w1 at *;have aqU:(0:Int)<=(c:Int):=by omega
  have hci:(c:Int)<2003:=by omega
  go_region_held3 (fun W=>Below w.heap.size w W) (first | with_reducible assumption | exact hb0.drew) (first | (go_at_call 112;(with_reducible refine(Hch.out _ (hc0.out _ (by with_reducible assumption))).mono ?_);rintro e wX ⟨rfl,hbX⟩;have HX:Below w.heap.size w wX:=Below.trans (by with_reducible assumption) (hbX.mono (Below.size (by with_reducible assumption)));clear hbX))
  have afb:Row wX b 149 C:=gF.out.keep (HX.block b gF.out.lt);have HbX:=hid HX;have cT:=(afb.cell 0).trans Hpc.out.c0;have cA:Hid (∀i,i<2000->wX.cell? ⟨b,4004+i,none⟩=some (.int .i16 (A i:Int))):=hid fun i hi=>(afb.cell _).trans (Hpc.out.ahead i hi)
  clear afb HX hcL hc0 hb0 Hch gF Hpc;go_wp2;go_loopw [8,9,10,11,12,13] (fun ov nv lv xv _ _ wr=>∃(o l v m:Nat) (q:Int) (ps:List Nat),ov=.int .i64 (o:Int)/\nv=.int .i64 (l:Int)/\lv=.int .i64 q/\xv=.int .i16 (v:Int)/\o<=2000/\l<=2000/\-9223372036854775808<=q/\q<=1000/\Hid (Lnk A v ps)/\Hid (∀p∈ps,p+3<=T.length)/\ps.length<=P.length/\Hid (r=mo T n ps o l q.toNat)/\Hid (wr=wX.drewN m)) (fun _ _ _ xv _ _ _=>ZW A P.length (intOf xv).toNat)
  case atStart=>exact⟨0,0,L c,0,D,ch,rfl,rfl,rfl,rfl,by omega,by omega,hD0,hD1,Hlk,Hpl,hcl,Hr,hid rfl⟩
  case round=>
   obtain⟨o,l,v,m,q,ps,rfl,rfl,rfl,rfl,ho,hl,hq0,hq1,hlk,hpp,hpl,hres,hw⟩:=hrel;have hwr:=hw.out;subst hwr;clear hw Hr Hlk Hpl hcl hD0 hD1 hL;cases ps with
   | nil=>
    obtain rfl:v=0:=hlk.out;have hx:=hres.out;rw[mo]at hx;have Hx:=hid hx;clear hx hres hlk hpp hpl Yh cA cT;go_wp2;go_ret2;rw[Hx.out];exact⟨rfl,below_drewN HbX.out m⟩
   | cons p ps=>
    obtain⟨hv,hlk2⟩:=hlk.out;subst hv;by_cases hq:q<=0
    ·have hx:=hres.out;rw[show q.toNat=0 by omega,zR]at hx;have Hx:=hid hx;clear hx hres hlk hlk2 hpp hpl Yh cA cT;go_wp2;go_ret2;rw[Hx.out];exact⟨rfl,below_drewN HbX.out m⟩
    ·have hp3:=hpp.out p List.mem_cons_self;have aeV:Hid (∀x∈ps,x+3<=T.length):=hid fun x hx=>hpp.out x (List.mem_cons_of_mem _ hx)
     have alN:ps.length+1<=P.length:=hpl;have hm1:ZW A P.length (p+1)=ps.length+1:=IV P.length (p+1) (p :: ps) hlk.out alN;have hm2:ZW A P.length (A p)=ps.length:=IV P.length (A p) ps hlk2 (by omega);have apt:=hid alN;have Hm1:=hid hm1;have Hm2:=hid hm2;have agV:=hid hlk2;have hAp:A p<=T.length:=adf hlk2 (fun x hx=>by have:=aeV.out x hx;omega);have hsI:Pz T (p:Int) (n:Int)=dI T p n:=by rw[Pz,if_pos ⟨by omega,by omega,by omega,by omega⟩,Int.toNat_natCast,Int.toNat_natCast]
     have hsm:=fun W=>Yh.out W p hp3
     rw[hsI]at hsm;have Hsm:=hid hsm;have arv:=(CG T p n).1;have hx:=hres.out;rw[mo,if_neg (by omega:¬q.toNat=0)]at hx;have Hx:=hid hx;have cp:=cA.out p (by omega);clear hx hres hlk hlk2 hpp hpl Yh hsI hsm cA hm1 hm2 alN;generalize dI T p n=y at *;go_wp2_with fail
     refine(Hsm.out _).mono ?_;rintro e wY ⟨rfl,m2,rfl⟩;rw[World.drewN_drewN];have pG:ps.length<=P.length:=Nat.le_trans (Nat.le_succ _) apt.out;have Hms:Hid (ZW A P.length (A p)<ZW A P.length (p+1)):=hid (by rw[Hm1.out,Hm2.out];omega);have hqt:q.toNat-1=(q-1).toNat:=by omega
     rw[hqt]at Hx;clear Hm1 Hm2 Hsm hqt;by_cases hy:y<3
     ·have Hx2:=hid (show r=mo T n ps o l q.toNat by rw[Hx.out,if_pos hy]);clear Hx;go_wp2;go_roundw
      case rel=>exact⟨o,l,A p,_,q,ps,by go_num,by go_num,by go_num,rfl,by omega,by omega,by omega,by omega,agV,aeV,by omega,Hx2,hid rfl⟩
      case measure=>exact Hms.out
     ·rw[if_neg hy]at Hx;by_cases hpn:p<n
      ·by_cases hly:l<y
       ·have Hx2:=hid (show r=mo T n ps (n-p) y (q-1).toNat by rw[Hx.out,if_pos ⟨hpn,.inl hly⟩]);clear Hx;go_wp2;go_roundw
        case rel=>exact⟨n-p,y,A p,_,q-1,ps,by go_num,by go_num,by go_num,rfl,by omega,by omega,by omega,by omega,agV,aeV,by omega,Hx2,hid rfl⟩
        case measure=>exact Hms.out
       ·by_cases hyl:y=l
        ·subst hyl;by_cases hno:n-p<o
         ·have Hx2:=hid (show r=mo T n ps (n-p) y (q-1).toNat by rw[Hx.out,if_pos ⟨hpn,.inr ⟨rfl,hno⟩⟩]);clear Hx;go_wp2;go_roundw
          case rel=>exact⟨n-p,y,A p,_,q-1,ps,by go_num,by go_num,by go_num,rfl,by omega,by omega,by omega,by omega,agV,aeV,by omega,Hx2,hid rfl⟩
          case measure=>exact Hms.out
         ·have Hx2:=hid (show r=mo T n ps o y (q-1).toNat by rw[Hx.out,if_neg (fun h=>by omega)]);clear Hx;go_wp2;go_roundw
          case rel=>exact⟨o,y,A p,_,q-1,ps,by go_num,by go_num,by go_num,rfl,by omega,by omega,by omega,by omega,agV,aeV,by omega,Hx2,hid rfl⟩
          case measure=>exact Hms.out
        ·have Hx2:=hid (show r=mo T n ps o l (q-1).toNat by rw[Hx.out,if_neg (fun h=>by omega)]);clear Hx;go_wp2;go_roundw
         case rel=>exact⟨o,l,A p,_,q-1,ps,by go_num,by go_num,by go_num,rfl,by omega,by omega,by omega,by omega,agV,aeV,by omega,Hx2,hid rfl⟩
         case measure=>exact Hms.out
      ·have Hx2:=hid (show r=mo T n ps o l (q-1).toNat by rw[Hx.out,if_neg (fun h=>by omega)]);clear Hx;go_wp2;go_roundw
       case rel=>exact⟨o,l,A p,_,q-1,ps,by go_num,by go_num,by go_num,rfl,by omega,by omega,by omega,by omega,agV,aeV,by omega,Hx2,hid rfl⟩
       case measure=>exact Hms.out
 ·rw[decide_eq_false hri]at Qz;have hrf:dO T P a depth=(0,0):=by
   have h1:rz T a=false:=decide_eq_false hri;rw[dO,h1,if_neg Bool.false_ne_true]
  rw[hrf];clear hrf hri h hlt ha;go_enter func89,ntmps89
  go_wp2_with fail
  refine Qz.out.mono ?_;rintro e w1 ⟨rfl,m,rfl⟩;go_wp2;go_ret2;exact⟨rfl,below_drewN (Below.refl _ _) m⟩
theorem Fa(v:Int)(hv:bO v)(w:World):Calls prog 60 #[.int .i64 v] w fun e w'=>e=.returned (.int .i64 (BM v:Int))/\Below w.heap.size w w':=by
 obtain⟨hv0,hv1⟩:=hv;by_cases h0:v<=0
 ·have hr:BM v=0:=by unfold BM;rw[if_pos h0]
  rw[hr];have d0:decide (v<=0)=true:=decide_eq_true h0;go_enter func60,ntmps60
  go_wp2;go_ret;exact⟨rfl,Below.refl _ _⟩
 ·have d0:decide (v<=0)=false:=decide_eq_false h0;obtain⟨m,hm,hm3⟩:∃m:Int,min v 3=m/\((m=1/\BM v=4)\/(m=2/\BM v=16)\/(m=3/\BM v=64)):=by
   by_cases h1:v=1
   ·subst h1;exact⟨1,by omega,.inl ⟨rfl,rfl⟩⟩
   ·by_cases h2:v=2
    ·subst h2;exact⟨2,by omega,.inr (.inl ⟨rfl,rfl⟩)⟩
    ·exact⟨3,by omega,.inr (.inr ⟨rfl,by unfold BM;rw[if_neg h0,if_neg h1,if_neg h2]⟩)⟩
  rcases hm3 with⟨rfl,hr⟩ | ⟨rfl,hr⟩ | ⟨rfl,hr⟩
  all_goals
   rw[hr];clear hr h0;go_enter func60,ntmps60
   go_wp2;go_ret;exact⟨rfl,Below.refl _ _⟩
theorem Cy(n:Nat)(T:List Nat)(w:World)(hn:n<=T.length):Calls prog 72 #[.int .i64 (n:Int),.string (strOf T)] w fun e w'=>e=.returned (.int .i64 (n:Int))/\w'=w:=by
 have hsz:=aA T;have m1:max (n:Int) 0=(n:Int):=by omega
 have m2:min (n:Int) (T.length:Int)=(n:Int):=by omega
 go_enter func72,ntmps72
 go_wp2;go_ret;exact⟨rfl,rfl⟩
theorem xL(b:Nat)(T P:List Nat)(x y:Nat)(w:World)(hT:T.length<=2000)(hlt:∀z∈T,z<256)(hxy:x<=y)(hy:y<=1000000)(h:PF w b T P) :
  Calls prog 62 #[.pointer (some ⟨b,0,none⟩),.int .i64 (x:Int),.int .i64 (y:Int)] w fun e w'=>e=.returned (.tuple #[])/\PF w' b T (iE T P x (y-x))/\w.grownBy w' (some b):=by
 have Yb:=hid (fun w P (k:Nat) (hk:k<=1000000) (h:PF w b T P)=>Gi b T P (k:Int) w hT hlt ⟨by omega,by omega⟩ h);obtain⟨R,hR⟩:∃R,R=iE T P x (y-x):=⟨_,rfl⟩;rw[<-hR];have HR:=hid hR;have H:=hid h;clear hR h hlt hT;go_enter func62,ntmps62
 go_wp2;go_loopw [6] (fun iv wr=>∃(k:Nat) (Q:List Nat),k<=y/\iv=.int .i64 (k:Int)/\Hid (R=iE T Q k (y-k))/\Hid (PF wr b T Q)/\Hid (w.grownBy wr (some b))) (fun iv _=>y-(intOf iv).toNat)
 case atStart=>exact⟨x,P,hxy,rfl,HR,H,hid (aj _ _)⟩
 case round=>
  obtain⟨k,Q,hk,rfl,hq,hf,hg⟩:=hrel;clear HR H;by_cases hky:k<y
  ·have d0:decide ((k:Int)<(y:Int))=true:=decide_eq_true (by omega);have Hn:=hid (Yb.out wr Q k (by omega) hf.out);have Hq2:Hid (R=iE T (jU T Q (k:Int)) (k+1) (y-(k+1))):=hid (by rw[hq.out,show y-k=(y-(k+1))+1 by omega,iE]);clear hq hf;go_wp2_with fail
   refine Hn.out.mono ?_;rintro e w1 ⟨rfl,hf1,hg1⟩;have Hf1:=hid hf1;have Hg1:=hid (iP hg.out hg1);clear hf1 hg1 hg Hn;go_wp2;go_roundw
   case rel=>exact⟨k+1,_,by omega,by go_num,Hq2,Hf1,Hg1⟩
   case measure=>simp[intOf];omega
  ·obtain rfl:k=y:=by omega
   have d0:decide ((k:Int)<(k:Int))=false:=decide_eq_false (by omega);have e:R=Q:=by rw[hq.out,Nat.sub_self];rfl
   go_wp2;go_end0
   exact⟨rfl,by rw[e];exact hf.out,hg.out⟩
theorem ZG(d L0:Nat)(A:Option Addr)(c:Nat)(l:List StZ)(lim:Nat)(w:World)(hd:d<=1000000000)(hL:L0<=1000000000)(hl:l.length<=1000000000)(hlim:lim<=1000000000)(hok:ZOk l)(hr:XO w A l) :
  Calls prog 108 #[.int .i64 (d:Int),.int .i64 (L0:Int),.slice A l.length c,.int .i64 (lim:Int)] w fun e w'=>e=.returned (.tuple #[.int .i64 ((mI d lim 0 L0 l).1:Int),.int .i64 ((mI d lim 0 L0 l).2:Int)])/\Below w.heap.size w w':=by
 have Hr:=hid hr;have Hok:=hid hok;obtain⟨N,E,hNE⟩:∃N E,mI d lim 0 L0 l=(N,E):=⟨_,_,rfl⟩;rw[hNE];have HNE:=hid hNE;have Hhd:=hid (fun n L k (hk:k<l.length) (h:mI d lim n L (l.drop k)=(N,E))=>(Lx hk).symm.trans h);clear hr hok hNE;go_enter func108,ntmps108
 go_wp2;go_loopw [1,10,15] (fun Lv nv kv wr=>∃(L n k:Nat),k<=l.length/\L<=L0/\n<=lim/\Lv=.int .i64 (L:Int)/\nv=.int .i64 (n:Int)/\kv=.int .i64 (k:Int)/\Hid (mI d lim n L (l.drop k)=(N,E))/\Hid (Below w.heap.size w wr)) (fun _ _ kv _=>l.length-(intOf kv).toNat)
 case atStart=>exact⟨L0,0,0,Nat.zero_le _,Nat.le_refl _,Nat.zero_le _,rfl,rfl,rfl,HNE,hid (Below.refl _ _)⟩
 case round=>
  obtain⟨L,n,k,hk,hLL,hn,rfl,rfl,rfl,hq,hbel⟩:=hrel;clear HNE;by_cases hkl:k<l.length
  ·obtain⟨g,off,rfl,hg,hc⟩:=(Hr.out.below hbel.out) (by omega);obtain⟨c0,c1,c2⟩:=hc k hkl;have hq2:=Hhd.out n L k hkl hq.out;obtain⟨⟨x0,x1⟩,⟨m0,m1⟩,o0,o1⟩:=Hok.out l[k] (List.getElem_mem hkl);have dd:decide ((k:Int)<(l.length:Int))=true:=decide_eq_true (by omega);obtain⟨x,m,o,hs⟩:∃x m o,l[k]=(x,m,o):=⟨_,_,_,rfl⟩;rw[hs]at hq2 c0 c1 c2 x0 x1 m0 m1 o0 o1;simp only at c0 c1 c2 x0 x1 m0 m1 o0 o1;rw[qL]at hq2;have hbA:=(Below.refl wr.heap.size wr).alloc (Nat.le_refl _) (.cells #[.int .i64 x,.int .i64 m,.int .i64 o] 121);have HbA:=hid (hbel.out.trans (hbA.mono hbel.out.size));clear hc hq hs Hhd hbA hbel;by_cases h1:x<0\/(L:Int)<x
   ·rw[if_pos h1]at hq2;injection hq2 with e1 e2
    subst e1 e2;by_cases h2:x<0
    ·have d1:decide (x<0)=true:=decide_eq_true h2;go_wp2;go_ret2;exact⟨rfl,HbA.out⟩
    ·have d1:decide (x<0)=false:=decide_eq_false h2;have d2:decide (x > (L:Int))=true:=decide_eq_true (by omega);have d3:decide ((L:Int)<x)=true:=decide_eq_true (by omega);go_wp2;go_ret2;exact⟨rfl,HbA.out⟩
   ·rw[if_neg h1]at hq2;have d1:decide (x<0)=false:=decide_eq_false (by omega);have d2:decide (x > (L:Int))=false:=decide_eq_false (by omega);have d3:decide ((L:Int)<x)=false:=decide_eq_false (by omega);obtain⟨x,rfl⟩:=Int.eq_ofNat_of_zero_le (by omega:0<=x);rw[Int.toNat_natCast]at hq2;clear x0 x1;by_cases h2:lim<n+x
    ·rw[if_pos h2]at hq2;injection hq2 with e1 e2
     subst e1 e2;have d4:decide ((x:Int) > (lim:Int)-(n:Int))=true:=decide_eq_true (by omega);have d5:decide ((lim:Int)-(n:Int)<(x:Int))=true:=decide_eq_true (by omega);go_wp2;go_ret2;exact⟨rfl,HbA.out⟩
    ·rw[if_neg h2]at hq2;have d4:decide ((x:Int) > (lim:Int)-(n:Int))=false:=decide_eq_false (by omega);have d5:decide ((lim:Int)-(n:Int)<(x:Int))=false:=decide_eq_false (by omega);by_cases h3:m<3\/o<1\/((d+n+x:Nat):Int)<o
     ·rw[if_pos h3]at hq2;injection hq2 with e1 e2
      subst e1 e2;by_cases h4:m<3
      ·have d6:decide (m<3)=true:=decide_eq_true h4;go_wp2;go_ret2;exact⟨rfl,HbA.out⟩
      ·have d6:decide (m<3)=false:=decide_eq_false h4;by_cases h5:o<1
       ·have d7:decide (o<1)=true:=decide_eq_true h5;go_wp2;go_ret2;exact⟨rfl,HbA.out⟩
       ·have d7:decide (o<1)=false:=decide_eq_false h5;have d8:decide (o-(d:Int) > (n:Int)+(x:Int))=true:=decide_eq_true (by omega);have d9:decide ((n:Int)+(x:Int)<o-(d:Int))=true:=decide_eq_true (by omega);go_wp2;go_ret2;exact⟨rfl,HbA.out⟩
     ·rw[if_neg h3]at hq2;have d6:decide (m<3)=false:=decide_eq_false (by omega);have d7:decide (o<1)=false:=decide_eq_false (by omega);have d8:decide (o-(d:Int) > (n:Int)+(x:Int))=false:=decide_eq_false (by omega);have d9:decide ((n:Int)+(x:Int)<o-(d:Int))=false:=decide_eq_false (by omega);obtain⟨m,rfl⟩:=Int.eq_ofNat_of_zero_le (by omega:0<=m);rw[Int.toNat_natCast]at hq2;by_cases h4:lim<n+x+m
      ·rw[if_pos h4]at hq2;injection hq2 with e1 e2
       subst e1 e2;have f1:decide ((m:Int) > (lim:Int)-((n:Int)+(x:Int)))=true:=decide_eq_true (by omega);have f2:decide ((lim:Int)-((n:Int)+(x:Int))<(m:Int))=true:=decide_eq_true (by omega);go_wp2;go_ret2;exact⟨rfl,HbA.out⟩
      ·rw[if_neg h4]at hq2;have f1:decide ((m:Int) > (lim:Int)-((n:Int)+(x:Int)))=false:=decide_eq_false (by omega);have f2:decide ((lim:Int)-((n:Int)+(x:Int))<(m:Int))=false:=decide_eq_false (by omega);have Hq2:=hid hq2;have hL2:L-x<=L0:=by omega
       clear hq2;go_wp2;go_roundw
       case rel=>exact⟨L-x,n+x+m,k+1,by omega,hL2,by omega,by go_num,by go_num,by go_num,Hq2,HbA⟩
       case measure=>simp[intOf];omega
  ·obtain rfl:k=l.length:=by omega
   have dd:decide ((l.length:Int)<(l.length:Int))=false:=decide_eq_false (by omega);have e:=hq.out;rw[List.drop_length,mI]at e;by_cases h1:lim<n+L
   ·rw[if_pos h1]at e;injection e with e1 e2
    subst e1 e2;have d4:decide ((L:Int) > (lim:Int)-(n:Int))=true:=decide_eq_true (by omega);have d5:decide ((lim:Int)-(n:Int)<(L:Int))=true:=decide_eq_true (by omega);go_wp2;go_ret2;exact⟨rfl,hbel.out⟩
   ·rw[if_neg h1]at e;injection e with e1 e2
    subst e1 e2;have d4:decide ((L:Int) > (lim:Int)-(n:Int))=false:=decide_eq_false (by omega);have d5:decide ((lim:Int)-(n:Int)<(L:Int))=false:=decide_eq_false (by omega);go_wp2;go_ret2;exact⟨rfl,hbel.out⟩
def mU(A:Option Addr)(c q:Nat):Option Addr:=if c=q then A else A.map (·.add q)
theorem Ry(A:Option Addr)(L c q:Nat)(W:World)(h:q<=L)(hc:L<=c):(Instr.slice 60 (.slice A L c) (some (.int .i64 (q:Int))) none none).run prog W=.ok (.slice (mU A c q) (L-q) (c-q)) W:=by
 have h1:q<=c:=by omega
 unfold mU;by_cases hcq:c=q
 ·subst hcq;rcases A with _ | a
  ·go_simp
  ·go_simp
 ·rcases A with _ | a
  ·go_simp
  ·go_simp
theorem Bu{w:World}{A:Option Addr}{l:List Nat}{c q:Nat}(h:Reads w A (u8s l))(hc:l.length<=c):Reads w (mU A c q) (u8s (l.drop q)):=fun hne=>by
 have h0:q<l.length:=by
  rcases Nat.lt_or_ge q l.length with e | e
  ·exact e
  ·rw[List.drop_of_length_le e]at hne;simp[u8s]at hne
 obtain⟨g,off,e,hcell⟩:=h (by intro e;have:=congrArg List.length e;rw[aO,List.length_nil]at this;omega);refine⟨g,off+q,?_,fun j hj=>?_⟩
 ·unfold mU;rw[if_neg (by omega),e];show some _=_;congr 1
  unfold Addr.add;split<;>simp_all
 ·rw[aO,List.length_drop]at hj;rw[Nat.add_assoc,hcell (q+j) (by rw[aO];omega),bD _ _ (by omega),bD _ _ (by rw[List.length_drop];omega),List.getElem_drop]
theorem RO{w:World}{base n c:Nat}{A:Option Addr}{e:TypeId}{xs:List Value}(h:w.ownsRow base e 1 (.slice A n c) n xs):n<=c/\c<=maxLen:=by
 rcases h.2 with⟨hv,h0⟩ | ⟨g',cap',cur,hv,hb,hh,h1,h2,_⟩
 ·injection hv with _ _ e3
  subst h0 e3;exact⟨Nat.le_refl _,by unfold maxLen;omega⟩
 ·injection hv with _ _ e3
  subst e3;exact⟨h1,h2⟩
theorem own_ne{w:World}{base n m k:Nat}{v:Value}{e:TypeId}{xs:List Value}(h:w.ownsRow base e m v n xs)(hk:k<base\/w.heap.size<=k):some k≠v.ownBlock:=fun e=>by
 have:=h.lt k e.symm;omega
theorem OT{w:World}{base n m q:Nat}{v:Value}{e t:TypeId}{xs cs:List Value}(h:w.ownsRow base e m v n xs)(hr:Row w q t cs)(hne:e≠t):some q≠v.ownBlock:=fun he=>by
 rcases h.2 with⟨rfl,_⟩ | ⟨g,cap,cur,rfl,_,hh,_⟩
 ·cases he
 ·injection he with he
  subst he;unfold Row at hr;rw[hr]at hh;injection hh with hh
  injection hh with _ h2
  exact hne h2.symm
theorem Ub(D L0:List Nat)(A:Option Addr)(c:Nat)(l:List StZ)(lim N:Nat)(w:World)(hD:D.length<=1000000000)(hL:L0.length<=1000000000)(hl:l.length<=1000000000)(hlim:lim<=1000000000)(hDlt:∀x∈D,x<256)(Ev:∀x∈L0,x<256)
  (hok:mI D.length lim 0 L0.length l=(N,0)) (hr:XO w A l) :
  Calls prog 109 #[.string (strOf D),.string (strOf L0),.slice A l.length c,.int .i64 (N:Int)] w fun e w'=>e=.returned (.string (strOf ((rO D L0 l).drop D.length)))/\Below w.heap.size w w':=by
 obtain⟨i0,hi,hz0,hz1,hz2⟩:=info_parts jh;have hsD:=aA D;have hNl:=(xB hok).2;obtain⟨d,hd⟩:∃d,d=D.length:=⟨_,rfl⟩;have Hr:=hid hr;have Hok:=hid hok;rw[<-hd]at Hok hsD hD;obtain⟨R,hR⟩:∃R,R=rO D L0 l:=⟨_,rfl⟩;have hRl:R.length=d+N:=by rw[hR,nH hok rfl,hd]
 have aoT:=hid (show ∀x∈R,x<256 from by rw[hR];exact CZ l D L0 hDlt Ev);rw[<-hR,<-hd];have HR:=hid hR;have Hd:=hid hd;have amo:=hid hDlt;have amq:=hid Ev;have Hhd:=hid (fun n L k (hk:k<l.length) (h:mI d lim n L (l.drop k)=(N,0))=>Cv ((Lx hk).symm.trans h));have Htx:=hid (fun A L k (hk:k<l.length)=>congrArg (rO A L) (List.drop_eq_getElem_cons hk));clear hr hok hR hd hDlt Ev;go_enter func109,ntmps109
 go_wp2_with (at_make;refine wpList_make_own _ rfl _ _ 60 rfl w.heap.size 5 i0 (.int .u8 0) 1 underlying60 hi hz0 hz1 .i64 .i64 _ (d+N) rfl rfl ?c1 ?c2 ?c3 ?c4 ?_)
 case c1=>go_num
 case c2=>rw[hz2];omega
 case c3=>unfold maxLen;omega
 case c4=>exact Nat.le_refl _
 intro w1 hown1 hg1;have hb1:=aJ hg1;go_wp2_with (at_builtin;refine gY rfl _ _ rfl w.heap.size i0 hi hz0 hz1 hz2 _ 0 d [] D Hd.out.symm amo.out rfl rfl hown1 (by omega) (by omega) hb1.size ?_)
 intro v2 w2 hown2 hg2;have Hb2:=hid (hb1.grown hg2 hb1.size (fun q hq=>(hown1.lt q hq).1));have sF:=hid hown2;clear hown1 hg1 hb1 hg2 hown2;go_wp2;go_loopw [1,9,22] (fun Lv bv kv wr=>∃(B L:List Nat) (n k:Nat),k<=l.length/\L.length<=1000000000/\n<=N/\B.length=d+n/\Lv=.string (strOf L)/\kv=.int .i64 (k:Int)/\Hid (∀x∈L,x<256)/\Hid (mI d lim n L.length (l.drop k)=(N,0))/\Hid (R=rO B L (l.drop k))/\Hid (wr.ownsRow w.heap.size 5 1 bv (d+n) (u8s B))/\Hid (Below w.heap.size w wr)) (fun _ _ kv _=>l.length-(intOf kv).toNat)
 case atStart=>exact⟨D,L0,0,0,Nat.zero_le _,hL,Nat.zero_le _,Hd.out.symm,rfl,rfl,amq,Hok,HR,sF,Hb2⟩
 case round=>
  obtain⟨B,L,n,k,hk,hLL,hn,hB,rfl,rfl,Ev,hq,ht,hown,hbel⟩:=hrel;clear HR Hok sF Hb2 amq amo;have hws:=hbel.out.size;by_cases hkl:k<l.length
  ·obtain⟨g,off,rfl,hg,hc⟩:=(Hr.out.below hbel.out) (by omega);obtain⟨c0,c1,c2⟩:=hc k hkl;obtain⟨x,m,o,hs,e1,e2,e3,e4,e5,e6⟩:=Hhd.out n L.length k hkl hq.out;have ht2:=ht.out.trans (Htx.out B L k hkl);rw[hs]at c0 c1 c2 ht2;rw[ou]at ht2;simp only[Int.toNat_natCast]at c0 c1 c2 ht2;have dd:decide ((k:Int)<(l.length:Int))=true:=decide_eq_true (by omega);have hxl:(L.take x).length=x:=by rw[List.length_take];omega
   have Hl2:Hid (mI d lim (n+x+m) (L.drop x).length (l.drop (k+1))=(N,0)):=hid (by rw[List.length_drop];exact e6);have hnm:=(xB e6).1;have amL:=hid (iN Ev.out x);have akc:=hid (dG Ev.out x);have s1:=fun W=>uU L x e1 W
   have s2:=fun W=>nZ L x e1 W
   have hL2:(L.drop x).length<=1000000000:=by rw[List.length_drop];omega
   have Ht2:=hid ht2;clear hs hc ht ht2 Hhd Htx hq e6 Ev hLL hg;obtain⟨P,hP⟩:∃P,P=L.take x:=⟨_,rfl⟩;obtain⟨Q,hQ⟩:∃Q,Q=L.drop x:=⟨_,rfl⟩;rw[<-hP]at hxl amL Ht2 s1;rw[<-hQ]at hL2 Hl2 akc Ht2 s2;clear hP hQ;have hbA:=(Below.refl wr.heap.size wr).alloc (Nat.le_refl _) (.cells #[.int .i64 (x:Int),.int .i64 (m:Int),.int .i64 (o:Int)] 121);have HbA:=hid (hbel.out.trans (hbA.mono hbel.out.size));have adN:=hid (hown.out.alloc (.cells #[.int .i64 (x:Int),.int .i64 (m:Int),.int .i64 (o:Int)] 121));have vZ:=hid (Row.new wr 121 [.int .i64 (x:Int),.int .i64 (m:Int),.int .i64 (o:Int)]);have Hne:=hid (own_ne (k:=wr.heap.size) hown.out (.inr (Nat.le_refl _)));clear hbA hbel hown;go_wp2_with (at_builtin;refine gY rfl _ _ rfl w.heap.size i0 hi hz0 hz1 hz2 _ (d+n) x B P hxl amL.out rfl rfl adN.out (by omega) (by omega) HbA.out.size ?_)
   intro v3 w3 hown3 hg3;have hrow3:Row w3 wr.heap.size 121 [.int .i64 (x:Int),.int .i64 (m:Int),.int .i64 (o:Int)]:=vZ.out.keep (hg3.block _ vZ.out.lt Hne.out);have Hb3:=hid (HbA.out.grown hg3 HbA.out.size (fun q hq=>(adN.out.lt q hq).1));have kV:=hid hown3;have kg:=hid hrow3;have k0:=hrow3.cell 0;have k1:=hrow3.cell 1;have k2:=hrow3.cell 2;simp only[List.getElem?_cons_succ,List.getElem?_cons_zero]at k0 k1 k2;obtain⟨q,hq⟩:∃q,q=wr.heap.size:=⟨_,rfl⟩;have Hqs:Hid (w.heap.size<=q):=hid (by omega);rw[<-hq]at kg k0 k1 k2;rw[<-hq];have hBP:(B++P).length=d+n+x:=by rw[List.length_append,hB,hxl]
   obtain⟨C,hC⟩:∃C,C=sJ o m (B++P):=⟨_,rfl⟩;rw[<-hC]at Ht2;have HC:=hid hC;clear hown3 hg3 hrow3 vZ HbA adN Hne c0 c1 c2 s1 hq hC;go_wp2;go_loopw [9,38] (fun bv jv wr2=>∃(E:List Nat) (j:Nat),j<=m/\jv=.int .i64 (j:Int)/\E.length=d+n+x+j/\Hid (C=sJ o (m-j) E)/\Hid (wr2.ownsRow w.heap.size 5 1 bv (d+n+x+j) (u8s E))/\Hid (Row wr2 q 121 [.int .i64 (x:Int),.int .i64 (m:Int),.int .i64 (o:Int)])/\Hid (Below w.heap.size w wr2)) (fun _ jv _=>m-(intOf jv).toNat)
   case atStart=>exact⟨B++P,0,Nat.zero_le _,rfl,hBP,by rw[Nat.sub_zero];exact HC,kV,kg,Hb3⟩
   case round=>
    obtain⟨E,j,hj,rfl,hE,hcn,hown,hrow,hbel⟩:=hrel;clear kV kg Hb3 HC k0 k1 k2;have k0:=hrow.out.cell 0;have k1:=hrow.out.cell 1;have k2:=hrow.out.cell 2;simp only[List.getElem?_cons_succ,List.getElem?_cons_zero]at k0 k1 k2;by_cases hjm:j<m
    ·have dj:decide ((j:Int)<(m:Int))=true:=decide_eq_true (by omega);obtain⟨gb,cb,rfl,hgb,hgs⟩:=Cx hown.out (by omega);have hcb:=UZ hown.out;have hcell:=hown.out.cells (g:=gb) rfl (d+n+x+j-o) _ (bD E _ (by omega));rw[iB,<-Bm.getD_at (by omega:d+n+x+j-o<E.length)]at hcell;have hc2:C=sJ o (m-(j+1)) (E++[E.getD (d+n+x+j-o) 0]):=by rw[hcn.out,show m-j=(m-(j+1))+1 by omega,sJ,hE]
     obtain⟨y,hy⟩:∃y,y=d+n+x+j-o:=⟨_,rfl⟩;obtain⟨z,hz⟩:∃z,z=d+n+x+j:=⟨_,rfl⟩;have ey:(z:Int)-(o:Int)=(y:Int):=by omega
     have hyz:y<z:=by omega
     have hz9:z<=2000000000:=by omega
     have hE2:(E++[E.getD y 0]).length=z+1:=by rw[List.length_append,hE,hz];rfl
     rw[<-hy]at hcell hc2;rw[<-hz]at hcb hown;rw[<-hz];have HC2:=hid hc2;have Hz:=hid hz;have qg:=hid (hown.out.alloc (.cells #[.int .u8 ((E.getD y 0:Nat):Int)] 5));have hbA:=(Below.refl wr.heap.size wr).alloc (Nat.le_refl _) (.cells #[.int .u8 ((E.getD y 0:Nat):Int)] 5);have HbA:=hid (hbel.out.trans (hbA.mono hbel.out.size));have vZ:=hid (hrow.out.alloc (.cells #[.int .u8 ((E.getD y 0:Nat):Int)] 5));have Hne:=hid (OT qg.out vZ.out (by decide));have HE2:=hid hE2;clear hc2 hcn hy hz hbA hbel hrow hown hE hE2;generalize E.getD y 0=b at *;go_wp2_with (at_builtin;refine wpList_append_own _ rfl _ _ 60 rfl w.heap.size 5 i0 (.int .u8 0) 1 1 underlying60 hi hz0 hz1 hz2 rfl (by decide) _ _ _ rfl qg.out ⟨wr.heap.size,0,none⟩ 1 1 [.int .u8 (b:Int)] rfl rfl ?d1 ?d2 ?d3 ?d4 ?d5 ?_)
     case d1=>
      intro j u hj;match j,hj with
      | 0,hj=>simp at hj;subst hj;simp[Addr.add]
     case d2=>intro u hu;simp at hu;subst hu;rfl
     case d3=>unfold maxLen;omega
     case d4=>omega
     case d5=>exact HbA.out.size
     intro u' w4 wZ hg4 _;rw[show [Value.int .u8 (b:Int)]=u8s [b]from rfl,Xj]at wZ;have Dy:=hid (vZ.out.keep (hg4.block _ vZ.out.lt Hne.out));have Hb4:=hid (HbA.out.grown hg4 HbA.out.size (fun q hq=>(qg.out.lt q hq).1));have Dv:=hid wZ;clear wZ hg4 vZ Hne qg HbA hcell ey;go_wp2;go_roundw
     case rel=>exact⟨E++[b],j+1,by omega,by go_num,by rw[HE2.out,Hz.out];rfl,HC2,by rw[<-Nat.add_assoc,<-Hz.out];exact Dv,Dy,Hb4⟩
     case measure=>simp[intOf];omega
    ·obtain rfl:j=m:=by omega
     have dj:decide ((j:Int)<(j:Int))=false:=decide_eq_false (by omega);have ec:C=E:=by rw[hcn.out,Nat.sub_self];rfl
     rw[ec]at Ht2;have QZ:=hid hown.out;clear hcn hown hrow k0 k1 k2 ec;go_wp2;go_roundw
     case rel=>exact⟨E,Q,n+x+j,k+1,by omega,hL2,by omega,by omega,rfl,by go_num,akc,Hl2,Ht2,by rw[<-Nat.add_assoc,<-Nat.add_assoc];exact QZ,hbel⟩
     case measure=>simp[intOf];omega
  ·obtain rfl:k=l.length:=by omega
   have dd:decide ((l.length:Int)<(l.length:Int))=false:=decide_eq_false (by omega);have eN:N=n+L.length:=by
    have e:=hq.out;rw[List.drop_length,mI]at e;split at e
    ·simp at e
    ·injection e with e;exact e.symm
   have eR:R=B++L:=by rw[ht.out,List.drop_length];rfl
   have HeR:=hid eR;have HeN:=hid eN;obtain⟨t,ht2⟩:∃t,t=L.length:=⟨_,rfl⟩;have htl:t<=1000000000:=by omega
   have Ht2:=hid ht2;clear hq ht Hhd Htx eN eR ht2 hLL;go_wp2_with (at_builtin;refine gY rfl _ _ rfl w.heap.size i0 hi hz0 hz1 hz2 _ (d+n) t B L Ht2.out.symm Ev.out rfl rfl hown.out (by omega) (by omega) hws ?_)
   intro v3 w3 hown3 hg3;rw[<-HeR.out]at hown3;have Hb3:=hid (hbel.out.grown hg3 hws (fun q hq=>(hown.out.lt q hq).1));rw[show d+n+t=d+N by rw[HeN.out,Ht2.out];omega]at hown3;obtain⟨A3,c3,rfl,TK,_⟩:=dP hown3;have hc3:=RO hown3;have s1:∀W:World,(Instr.slice 60 (.slice A3 (d+N) c3) (some (.int .i64 (d:Int))) none none).run prog W=.ok (.slice (mU A3 c3 d) N (c3-d)) W:=fun W=>by
    have h:=Ry A3 (d+N) c3 d W (by omega) hc3.1;rwa [Nat.add_sub_cancel_left]at h
   have s2:(convert 60 9 (.slice (mU A3 c3 d) N (c3-d))).run prog w3=.ok (.string (strOf (R.drop d))) w3:=by
    have h:=bS w3 (mU A3 c3 d) (c3-d) (R.drop d) (dG aoT.out d) (Bu TK (by omega));rwa [List.length_drop,hRl,Nat.add_sub_cancel_left]at h
   clear hown3 hg3 TK hown hbel;generalize mU A3 c3 d=A4 at *;go_wp2;go_ret;exact⟨rfl,Hb3.out⟩
theorem ZI(D L:List Nat)(A:Option Addr)(c:Nat)(l:List StZ)(limit:Int)(lim:Nat)(w:World)(hD:D.length<=1000000000)(hL:L.length<=1000000000)(hl:l.length<=1000000000)(hli:bO limit)(hlm:max limit 0=(lim:Int))(hlim:lim<=1000000000)
  (hDlt:∀x∈D,x<256) (Ev:∀x∈L,x<256) (hok:ZOk l) (hr:XO w A l) :
  Calls prog 77 #[.string (strOf D),.string (strOf L),.slice A l.length c,.int .i64 limit] w fun e w'=>e=.returned (.tuple #[.string (strOf (vC D L l lim).1),.int .i64 ((vC D L l lim).2:Int)])/\Below w.heap.size w w':=by
 have hsD:=aA D;have hsL:=aA L;have Hlen:=hid (ZG D.length L.length A c l lim w hD hL hl hlim hok hr);have alc:=hid (fun N h w hr=>Ub D L A c l lim N w hD hL hl hlim hDlt Ev h hr);have Hr:=hid hr;have Hle:=hid (fun N=>xB (a:=D.length) (lim:=lim) (N:=N) (l:=l) (n:=0) (L:=L.length));obtain⟨arh,ari⟩:=hli;by_cases h0:(mI D.length lim 0 L.length l).2=0
 ·have h1:=LA h0;have hA:vC D L l lim=((rO D L l).drop D.length,0):=by rw[vC,if_pos h0]
  rw[hA];have hN:=(Hle.out _ h1).2;have Htx:=hid (alc.out _ h1);rw[h0]at Hlen;clear hA h1 h0 alc Hle hDlt Ev hok hr;generalize (mI D.length lim 0 L.length l).1=N at *;have dN:decide ((N:Int) > 2147483647)=false:=decide_eq_false (by omega);have dN2:decide ((2147483647:Int)<(N:Int))=false:=decide_eq_false (by omega);go_enter func77,ntmps77
  go_wp2_with fail
  refine Hlen.out.mono ?_;rintro e w1 ⟨rfl,hb1⟩;have Hb1:=hid hb1;have XL:=hid (Htx.out w1 (Hr.out.below hb1));clear hb1 Htx Hlen;go_wp2_with fail
  refine XL.out.mono ?_;rintro e w2 ⟨rfl,hb2⟩;have Hb2:=hid (Hb1.out.trans (hb2.mono Hb1.out.size));clear hb2 Hb1 XL;go_wp2;go_ret2;exact⟨rfl,Hb2.out⟩
 ·have hA:vC D L l lim=([],(mI D.length lim 0 L.length l).2):=by rw[vC,if_neg h0]
  rw[hA];have he:=(Ce (a:=D.length) (lim:=lim) l 0 L.length).resolve_left h0;clear hA h0 alc Hle hDlt Ev hok hr;rcases he with he | he
  all_goals
   rw[he]at Hlen ⊢;clear he;go_enter func77,ntmps77
   go_wp2_with fail
   refine Hlen.out.mono ?_;rintro e w1 ⟨rfl,hb1⟩;have Hb1:=hid hb1;clear hb1 Hlen;go_wp2;go_ret2;exact⟨rfl,Hb1.out⟩
theorem qQ{w w':World}{base b n m:Nat}{e:TypeId}{v:Value}{xs:List Value}(h:w.ownsRow base e m v n xs)(hg:w.grownBy w' (some b))(hb:b<base):w'.ownsRow base e m v n xs:=
 h.kept hg (by
  cases hv:v.ownBlock with
  | none=>exact .inl rfl
  | some k=>
   refine .inr (fun e=>?_);injection e with e
   have:=(h.lt k hv).1;omega)
theorem Vd(b:Nat)(T P:List Nat)(a:Nat)(D:Int)(w:World)(hT:T.length<=2000)(hlt:∀z∈T,z<256)(ha:a<=T.length)(hD:bO D)(h:PF w b T P) :
  Calls prog 63 #[.pointer (some ⟨b,0,none⟩),.int .i64 (a:Int),.int .i64 D] w fun e w'=>∃A c,e=.returned (.slice A (fQ T D (T.length-a) a P 0).length c)/\Dp w' A (fQ T D (T.length-a) a P 0)/\w.grownBy w' (some b):=by
 obtain⟨i0,hi,hz0,hz1,hz2⟩:=info_parts Lh;have hbw:b<w.heap.size:=h.lt;have Hlen:=hid (fun w P (h:PF w b T P)=>Dk b T w h.text);have Yb:=hid (fun w P (k:Nat) (hk:k<=1000000) (h:PF w b T P)=>Gi b T P (k:Int) w hT hlt ⟨by omega,by omega⟩ h);have adJ:=hid (fun w P (k:Int) (h0:0<=k) (hk:k<=1000000) (h:PF w b T P)=>XD b T P k D w hT hlt ⟨by omega,by omega⟩ hD h);have ahW:=hid (fun w P (x y:Nat) hxy hy (h:PF w b T P)=>xL b T P x y w hT hlt hxy hy h);have Hfl:=hid (fun P (k:Nat) h=>aeF T P k D h);have Hfo:=hid (fun P (k:Nat) h=>Bm.find_ok T P k D h);have dR:=hid (fun k P n=>show fQ T D k T.length P n=[] by cases k with
  | zero=>rfl
  | succ k=>rw[fQ,if_pos (Nat.le_refl _)])
 have Hpl:=hid (fun P a h=>lF T P a h);obtain⟨R,hR⟩:∃R,R=fQ T D (T.length-a) a P 0:=⟨_,rfl⟩;rw[<-hR];have HR:=hid hR;have H:=hid h;have HF:=hid (fun(w:World) P (h:PF w b T P)=>show Bm.Places T P from by obtain⟨C,L,A,_,_,_,h4⟩:=h;exact h4);obtain⟨hD0,hD1⟩:=hD;clear hR h hlt;go_enter func63,ntmps63
 go_wp2;go_loopw [1,7,8] (fun av lv nv wr=>∃(k a n:Nat) (Q:List Nat) (acc:List Bm.Stp),a<=T.length/\n<=a/\acc.length<=a/\T.length-a<=k/\av=.int .i64 (a:Int)/\nv=.int .i64 (n:Int)/\Hid (R=acc++fQ T D k a Q n)/\Hid (wr.ownsRow w.heap.size 121 3 lv acc.length (sqs acc))/\Hid (PF wr b T Q)/\Hid (w.grownBy wr (some b))) (fun av _ _ _=>T.length-(intOf av).toNat)
 case atStart=>exact⟨T.length-a,a,0,P,[],ha,by omega,by simp,Nat.le_refl _,rfl,rfl,hid (by rw[HR.out];rfl),hid (World.ownsRow_nil _ _ _ _),H,hid (aj _ _)⟩
 case round=>
  obtain⟨k,p,n,Q,acc,hp,hn,hacc,hk,rfl,rfl,hq,hown,hf,hg⟩:=hrel;clear HR H ha;have Hl:=hid (Hlen.out wr Q hf.out);by_cases hpt:p<T.length
  ·obtain⟨k',rfl⟩:∃k',k=k'+1:=⟨k-1,by omega⟩;have hq2:=hq.out;rw[JW,if_neg (by omega)]at hq2;have Hq:=hid hq2;have d0:decide ((p:Int)<(T.length:Int))=true:=decide_eq_true (by omega);have Hpq:=hid (HF.out wr Q hf.out);have Hfi:=hid (adJ.out wr Q (p:Int) (by omega) (by omega) hf.out);have hfl:=Hfl.out Q p Hpq.out;have akb:=hid (Hfo.out Q p Hpq.out);have Hno:=hid (fun w h=>Yb.out w Q p (by omega) h);have akI:=hid (fun w h=>adJ.out w (jU T Q (p:Int)) ((p:Int)+1) (by omega) (by omega) h);have acT:=Hfl.out (jU T Q (p:Int)) (p+1) (Hpl.out Q p Hpq.out);rw[Int.natCast_add]at acT;have anK:=acT.2;have aqb:=hfl.1;have aqa:=hfl.2;have Hnt:=hid (fun w (y:Nat) h1 h2 h=>ahW.out w (jU T Q (p:Int)) (p+1) y h1 h2 h);clear hq hq2 hfl acT dR Hlen Yb adJ ahW Hfl Hfo Hpl Hpq HF;rw[show((p:Int)+((1:Nat):Int))=(p:Int)+1 from rfl]at anK;generalize jU T Q (p:Int)=Q1 at *;generalize (dO T Q1 ((p:Int)+1) D)=r2 at *;generalize (dO T Q (p:Int) D)=r at *;obtain⟨o,m⟩:=r;obtain⟨o2,m2⟩:=r2;simp only at Hq Hfi akb akI anK aqb aqa;have hf0:=hf;have hown0:=hown;have hg0:=hg;clear hf hown hg;go_wp2_with fail
   refine Hl.out.mono ?_;rintro e w0 ⟨rfl,rfl⟩;go_wp2_with fail
   refine Hfi.out.mono ?_;rintro e w1 ⟨rfl,hb1⟩;have Hf1:=hid (hf0.out.keep (hb1.block b hf0.out.lt));have Hg1:=hid (BS hg0.out hb1);have Yd:=hid (qQ hown0.out (ak hb1 _) hbw);clear hb1 hf0 hown0 hg0 Hfi Hl;go_wp2_with fail
   refine(Hno.out _ Hf1.out).mono ?_;rintro e w2 ⟨rfl,hf2,hg2⟩;have Hf2:=hid hf2;have Hg2:=hid (iP Hg1.out hg2);have sF:=hid (qQ Yd.out hg2 hbw);clear hf2 hg2 Hf1 Hg1 Yd Hno;go_wp2_with fail
   refine(akI.out _ Hf2.out).mono ?_;rintro e w3 ⟨rfl,hb3⟩;have Hf3:=hid (Hf2.out.keep (hb3.block b Hf2.out.lt));have Hg3:=hid (BS Hg2.out hb3);have kV:=hid (qQ sF.out (ak hb3 _) hbw);clear hb3 Hf2 sF Hg2 akI;by_cases hm0:m=0\/m<m2
   ·rw[if_pos hm0]at Hq;have Hq2:=hid Hq;clear akb Hnt;by_cases hmz:m=0
    ·subst hmz;go_wp2;go_roundw
     case rel=>exact⟨k',p+1,n+1,Q1,acc,by omega,by omega,by omega,by omega,by go_num,by go_num,Hq,kV,Hf3,Hg3⟩
     case measure=>simp[intOf];omega
    ·have d1:((m:Int) == 0)=false:=by simp;omega
     have d2:decide ((m2:Int) > (m:Int))=true:=decide_eq_true (by omega);have d3:decide ((m:Int)<(m2:Int))=true:=decide_eq_true (by omega);go_wp2;go_roundw
     case rel=>exact⟨k',p+1,n+1,Q1,acc,by omega,by omega,by omega,by omega,by go_num,by go_num,Hq,kV,Hf3,Hg3⟩
     case measure=>simp[intOf];omega
   ·rw[if_neg hm0]at Hq;have d1:((m:Int) == 0)=false:=by simp;omega
    have d2:decide ((m2:Int) > (m:Int))=false:=decide_eq_false (by omega);have d3:decide ((m:Int)<(m2:Int))=false:=decide_eq_false (by omega);obtain⟨h3,ho1,ho2,hpm,_⟩:=akb.out (by omega);clear akb;obtain⟨la,hla⟩:∃la,la=acc.length:=⟨_,rfl⟩;rw[<-hla]at kV hacc;have Hla:=hid hla;have hws:=Hg3.out.size;clear hla;go_wp2_with (at_builtin;refine wpList_append_own _ rfl _ _ 77 rfl w.heap.size 121 i0 (.agg #[.int .i64 0,.int .i64 0,.int .i64 0]) 3 24 underlying77 hi hz0 hz1 hz2 rfl (by decide) _ _ _ rfl (kV.out.alloc _) ⟨w3.heap.size,0,none⟩ 1 1 [.int .i64 (n:Int),.int .i64 (m:Int),.int .i64 (o:Int)] rfl rfl ?d1 ?d2 ?d3 ?d4 ?d5 ?_)
    case d1=>
     intro j u hj;match j,hj with
     | 0,hj=>simp at hj;subst hj;simp[Addr.add]
     | 1,hj=>simp at hj;subst hj;simp[Addr.add]
     | 2,hj=>simp at hj;subst hj;simp[Addr.add]
    case d2=>
     intro u hu;simp at hu;rcases hu with rfl | rfl | rfl<;>rfl
    case d3=>unfold maxLen;omega
    case d4=>omega
    case d5=>simp;omega
    intro u' w7 bM fO _;have hbA:=(Below.refl w3.heap.size w3).alloc (Nat.le_refl _) (.cells #[.int .i64 (n:Int),.int .i64 (m:Int),.int .i64 (o:Int)] 121);have hgA:w.grownBy (w3.alloc (.cells #[.int .i64 (n:Int),.int .i64 (m:Int),.int .i64 (o:Int)] 121)) (some b):=BS Hg3.out hbA;have hfA:PF (w3.alloc (.cells #[.int .i64 (n:Int),.int .i64 (m:Int),.int .i64 (o:Int)] 121)) b T Q1:=Hf3.out.keep (hbA.block b Hf3.out.lt);have hne:∀j,j<w.heap.size->some j≠_:=fun j hj e=>by have:=(kV.out.lt j e.symm).1;omega
    have Hf7:=hid (hfA.keep (fO.block b hfA.lt (hne b hbw)));have Hg7:Hid (w.grownBy w7 (some b)):=hid ⟨fO.os.trans hgA.os,fO.tape.trans hgA.tape,fO.output.trans hgA.output,Nat.le_trans hgA.size fO.size,fun j hj hn=>(fO.block j (Nat.lt_of_lt_of_le hj hgA.size) (hne j hj)).trans (hgA.block j hj hn)⟩;have hs2:sqs acc++[.int .i64 (n:Int),.int .i64 (m:Int),.int .i64 (o:Int)]=sqs (acc++[(n,m,o)]):=by rw[PS];rfl
    rw[hs2]at bM;have oC:Hid (w7.ownsRow w.heap.size 121 3 u' (acc++[(n,m,o)]).length (sqs (acc++[(n,m,o)]))):=hid (by rw[List.length_append,<-Hla.out];exact bM);have Hq3:Hid (R=(acc++[(n,m,o)])++fQ T D k' (p+m) (iE T Q1 (p+1) (m-1)) 0):=hid (by rw[List.append_assoc];exact Hq.out);have Hn7:=hid (Hnt.out w7 (p+m) (by omega) (by omega) Hf7.out);rw[show p+m-(p+1)=m-1 by omega,Int.natCast_add,Int.natCast_add]at Hn7;have hl7:(acc++[(n,m,o)]).length<=p+m:=by rw[List.length_append,<-Hla.out];simp;omega
    clear hbA hgA hfA hne hs2 bM fO kV Hf3 Hg3 Hq Hnt Hf7;go_wp2_with fail
    refine Hn7.out.mono ?_;rintro e w8 ⟨rfl,hf8,hg8⟩;have Hf8:=hid hf8;have Hg8:=hid (iP Hg7.out hg8);have akQ:=hid (qQ oC.out hg8 hbw);clear hf8 hg8 Hg7 oC Hn7;go_wp2;go_roundw
    case rel=>exact⟨k',p+m,0,_,_,by omega,by omega,hl7,by omega,by go_num,rfl,Hq3,akQ,Hf8,Hg8⟩
    case measure=>simp[intOf];omega
  ·obtain rfl:p=T.length:=by omega
   have d0:decide ((T.length:Int)<(T.length:Int))=false:=decide_eq_false (by omega);have He:=hid (show R=acc by rw[hq.out,dR.out,List.append_nil]);obtain⟨A,c,hv,hr,hc⟩:=agx hown.out;subst hv;have Hr:=hid hr;clear hr hown hq;go_wp2_with fail
   refine Hl.out.mono ?_;rintro e w0 ⟨rfl,rfl⟩;go_wp2;go_ret;exact⟨A,c,by rw[He.out];rfl,by rw[He.out];exact Hr.out,hg.out⟩
theorem aew(v:Int):BM v<=64:=by
 unfold BM;split
 ·omega
 ·split
  ·omega
  ·split<;>omega
theorem Fb(D X:List Nat)(v:Int)(w:World)(hDl:D.length<=1000000000)(hXl:X.length<=1000000000)(hD:∀z∈D,z<256)(hX:∀z∈X,z<256)(hv:bO v) :
  Calls prog 35 #[.string (strOf D),.string (strOf X),.int .i64 v] w fun e w'=>∃A c,e=.returned (.slice A (mh D X v).length c)/\Dp w' A (mh D X v)/\Below w.heap.size w w':=by
 have ahK:=hid (Fa v hv w);have apZ:=aew v;by_cases h0:BM v=0
 ·have Hr:Hid (mh D X v=[]):=hid (by rw[mh,if_pos h0]);rw[h0]at ahK;clear hD hX hDl hXl h0 apZ;go_enter func35,ntmps35
  go_wp2_with fail
  refine ahK.out.mono ?_;rintro e w1 ⟨rfl,hb1⟩;have Hb1:=hid hb1;clear hb1 ahK;go_wp2;go_ret;exact⟨none,0,by rw[Hr.out];rfl,by rw[Hr.out];exact Dp.nil _ _,Hb1.out⟩
 ·obtain⟨R,hR⟩:∃R,R=mh D X v:=⟨_,rfl⟩;rw[<-hR];have hdz:((BM v:Int) == 0)=false:=by simp;omega
  obtain⟨D',hD'⟩:∃D',D'=D.drop (D.length-600):=⟨_,rfl⟩;obtain⟨X',hX'⟩:∃X',X'=X.take 600:=⟨_,rfl⟩;have aqG:D'.length<=600:=by rw[hD',List.length_drop];omega
  have aqO:X'.length<=600:=by rw[hX',List.length_take];omega
  have hDs:=aA D;have hXs:=aA X;have aqH:=aA D';have m1:max ((D.length:Int)-600) 0=((D.length-600:Nat):Int):=by omega
  have m2:min (X.length:Int) 600=((min X.length 600:Nat):Int):=by omega
  have c1:∀W:World,(Instr.slice 9 (.string (strOf D)) (some (.int .i64 ((D.length-600:Nat):Int))) none none).run prog W=.ok (.string (strOf D')) W:=fun W=>by rw[hD'];exact nZ D _ (by omega) W
  have c2:∀W:World,(Instr.slice 9 (.string (strOf X)) none (some (.int .i64 ((min X.length 600:Nat):Int))) none).run prog W=.ok (.string (strOf X')) W:=fun W=>by
   have h:=uU X (min X.length 600) (by omega) W;rwa [show X.take (min X.length 600)=X' by
     rw[hX'];by_cases h6:X.length<=600
     ·rw[Nat.min_eq_left h6,List.take_of_length_le (Nat.le_refl _),List.take_of_length_le h6]
     ·rw[Nat.min_eq_right (by omega)]]at h
  have hadd:=fun W=>WG D' X' (by omega) W
  have hTl:(D'++X').length<=2000:=by rw[List.length_append];omega
  have Tf:∀z∈D'++X',z<256:=mR (by rw[hD'];exact dG hD _) (by rw[hX'];exact iN hX _);have HR:Hid (R=fQ (D'++X') (BM v:Int) ((D'++X').length-D'.length) D'.length (iE (D'++X') [] 0 D'.length) 0):=hid (by
   rw[hR,mh,if_neg h0,<-hD',<-hX',List.length_append,Nat.add_sub_cancel_left])
  have uY:=hid (fun w=>acp w (D'++X') hTl);have ahW:Hid (∀w b,PF w b (D'++X') []->Calls prog 62 #[.pointer (some ⟨b,0,none⟩),.int .i64 0,.int .i64 (D'.length:Int)] w fun e w'=>e=.returned (.tuple #[])/\PF w' b (D'++X') (iE (D'++X') [] 0 D'.length)/\w.grownBy w' (some b)):=hid (fun w b h=>xL b (D'++X') [] 0 D'.length w hTl Tf (Nat.zero_le _) (by omega) h);have Hst:=hid (fun w b h=>Vd b (D'++X') (iE (D'++X') [] 0 D'.length) D'.length (BM v:Int) w hTl Tf (by rw[List.length_append];omega) ⟨by omega,by omega⟩ h);have HRl:=hid (show R.length<=600 from by rw[hR];exact rE D X v);rw[<-HR.out]at Hst;clear hD hX hD' hX' hR HR Tf h0;obtain⟨n1,hn1⟩:∃n1,n1=D.length-600:=⟨_,rfl⟩;obtain⟨n2,hn2⟩:∃n2,n2=min X.length 600:=⟨_,rfl⟩;rw[<-hn1]at m1 c1;rw[<-hn2]at m2 c2;clear hn1 hn2;generalize D'++X'=T at *;generalize iE T [] 0 D'.length=P1 at *;generalize BM v=dp at *;generalize strOf D=sD at *;generalize strOf X=sX at *;generalize strOf D'=sD' at *;generalize strOf X'=sX' at *;go_enter func35,ntmps35
  go_wp2_with fail
  refine ahK.out.mono ?_;rintro e w1 ⟨rfl,hb1⟩;have Hb1:=hid hb1;clear hb1 ahK;go_wp2_with fail
  refine(uY.out w1).mono ?_;rintro e w2 ⟨b,rfl,hf2,hb,hb2⟩;have Hf2:=hid hf2;have Hb2:=hid (Hb1.out.trans (hb2.mono Hb1.out.size));have hwb:w.heap.size<=b:=Nat.le_trans Hb1.out.size hb;have Hn2:=hid (ahW.out w2 b hf2);clear hf2 hb2 Hb1 hb uY ahW;go_wp2_with fail
  refine Hn2.out.mono ?_;rintro e w3 ⟨rfl,hf3,hg3⟩;have Hb3:=hid (Hb2.out.trans (below_grown hg3 hwb Hb2.out.size));have Hs3:=hid (Hst.out w3 b hf3);clear hf3 hg3 Hb2 Hf2 Hn2 Hst;go_wp2_with fail
  refine Hs3.out.mono ?_;rintro e w4 ⟨A,c,rfl,hr4,hg4⟩;have Hb4:=hid (Hb3.out.trans (below_grown hg4 hwb Hb3.out.size));have Hr4:=hid hr4;clear hr4 hg4 Hb3 Hs3;go_wp2;go_ret;exact⟨A,c,rfl,Hr4.out,Hb4.out⟩
theorem ZV{T:List Nat}{l:List Bm.Stp}{k:Nat}(hk:k<l.length)(h:yU 0 (l.drop k)<=T.length):l[k].1+l[k].2.1<=T.length/\yU 0 (l.drop (k+1))<=((T.drop l[k].1).drop l[k].2.1).length /\
  oG T 0 (l.drop k)=T.take l[k].1++oG ((T.drop l[k].1).drop l[k].2.1) 0 (l.drop (k+1)):=by
 rw[List.drop_eq_getElem_cons hk,yU]at h;have h1:=Ic (l.drop (k+1)) (0+l[k].1+l[k].2.1);have h2:=vJ (l.drop (k+1)) (l[k].1+l[k].2.1) 0;rw[Nat.add_zero]at h2;rw[Nat.zero_add]at h h1;refine⟨by omega,by rw[List.length_drop,List.length_drop];omega,?_⟩;have h3:=Cg T (l.drop (k+1)) 0 (l[k].1+l[k].2.1);rw[Nat.add_zero]at h3;rw[List.drop_eq_getElem_cons hk,oG,Nat.zero_add,List.drop_zero,List.drop_drop,h3]
theorem Jp(X:List Nat)(A:Option Addr)(c:Nat)(l:List Bm.Stp)(w:World)(hX:X.length<=100000000)(hl:l.length<=100000000)(hlt:∀z∈X,z<256)(hend:yU 0 l<=X.length)(hr:Dp w A l) :
  Calls prog 38 #[.string (strOf X),.slice A l.length c] w fun e w'=>e=.returned (.string (strOf (oG X 0 l)))/\Below w.heap.size w w':=by
 have Hr:=hid hr;obtain⟨b,hb⟩:∃b,b=w.heap.size:=⟨_,rfl⟩;obtain⟨R,hR⟩:∃R,R=oG X 0 l:=⟨_,rfl⟩;rw[<-hR];have HRl:=hid (show ∀z∈R,z<256 from by rw[hR];exact IQ hlt l 0);have HR:=hid hR;have Hlt:=hid hlt;have Hb:=hid hb;have Hhd:=hid (fun(T:List Nat) (k:Nat) (hk:k<l.length) (h:yU 0 (l.drop k)<=T.length)=>ZV hk h);have Hw:=hid (fun n T w h=>Cy n T w h);have dR:=hid hend;clear hr hR hlt hb hend;go_enter func38,ntmps38
 go_wp2;rw[<-Hb.out];have hb0:=(Below.refl w.heap.size w).alloc (Nat.le_refl _) (.cells #[.pointer none,.slice none 0 0] 62);have anw:BD (w.alloc (.cells #[.pointer none,.slice none 0 0] 62)) w.heap.size b []:=by rw[Hb.out];exact BD.new w _ (Nat.le_refl _)
 have Hb0:=hid hb0;have amu:=hid anw;clear hb0 anw;generalize w.alloc (.cells #[.pointer none,.slice none 0 0] 62)=w0 at *;go_loopw [0,11] (fun tv iv wr=>∃(T acc:List Nat) (k:Nat),k<=l.length/\tv=.string (strOf T)/\iv=.int .i64 (k:Int)/\T.length<=100000000/\acc.length+T.length<=100000000/\Hid (∀z∈T,z<256)/\Hid (yU 0 (l.drop k)<=T.length)/\Hid (R=acc++oG T 0 (l.drop k))/\Hid (BD wr w.heap.size b acc)/\Hid (Below w.heap.size w wr)) (fun _ iv _=>l.length-(intOf iv).toNat)
 case atStart=>exact⟨X,[],0,Nat.zero_le _,rfl,rfl,hX,by simp;omega,Hlt,dR,hid (by rw[HR.out];rfl),amu,Hb0⟩
 case round=>
  obtain⟨T,acc,k,hk,rfl,rfl,hT,hacc,htl,hen,hq,hbd,hbel⟩:=hrel;clear HR Hlt dR Hb0 amu;have hws:=hbel.out.size;by_cases hkl:k<l.length
  ·obtain⟨g,off,rfl,hg,hc⟩:=(Hr.out.below hbel.out) (by omega);obtain⟨c0,c1,c2⟩:=hc k hkl;obtain⟨e1,e2,e3⟩:=Hhd.out T k hkl hen.out;have Hq2:=hq.out;rw[e3,<-List.append_assoc]at Hq2;have HQ:=hid Hq2;have HE:=hid e2;have Hpc:=hid hc;clear hc e3 Hq2 hq hen Hhd e2;have dd:decide ((k:Int)<(l.length:Int))=true:=decide_eq_true (by omega);generalize l[k].1=n at *;generalize l[k].2.1=m at *;generalize l[k].2.2=o at *;have s1:=fun W=>uU T n (by omega) W
   have s2:=fun W=>nZ T n (by omega) W
   have s3:=fun W=>nZ (T.drop n) m (by rw[List.length_drop];omega) W
   have W1:=hid (fun W=>Hw.out n T W (by omega));have W2:=hid (fun W=>Hw.out m (T.drop n) W (by rw[List.length_drop];omega));have htk:=List.length_take_le n T;have aqo:=hid (iN htl.out n);have aoA:=hid (show ∀z∈(T.drop n).drop m,z<256 from dG (dG htl.out n) m);have hl1:(T.take n).length=n:=by rw[List.length_take];omega
   have hl2:((T.drop n).drop m).length=T.length-n-m:=by rw[List.length_drop,List.length_drop]
   have Hbd:=hid (hbd.out.below ((Below.refl wr.heap.size wr).alloc (Nat.le_refl _) (.cells #[.int .i64 (n:Int),.int .i64 (m:Int),.int .i64 (o:Int)] 121)));have vZ:=hid (Row.new wr 121 [.int .i64 (n:Int),.int .i64 (m:Int),.int .i64 (o:Int)]);have HbA:=hid (hbel.out.trans (((Below.refl wr.heap.size wr).alloc (Nat.le_refl _) (.cells #[.int .i64 (n:Int),.int .i64 (m:Int),.int .i64 (o:Int)] 121)).mono hws));have hqb:wr.heap.size≠b:=by have:=hbd.out.lt.2;omega
   have Hwr:=hid (zG w.heap.size b acc (T.take n) _ (by omega) aqo.out HbA.out.size Hbd.out);clear hbd hbel htl hg;generalize T.take n=T1 at *;generalize (T.drop n).drop m=T3 at *;generalize T.drop n=T2 at *;go_wp2_with fail
   refine(W1.out _).mono ?_;rintro e w1 ⟨rfl,rfl⟩;go_wp2_with fail
   refine Hwr.out.mono ?_;rintro e w2 ⟨rfl,aiI,hb2,hk2⟩;have hrow2:=Pw vZ.out (by decide) hqb hk2;have k1:=hrow2.cell 1;simp only[List.getElem?_cons_succ,List.getElem?_cons_zero]at k1;have aoW:=hid aiI;have Hb2:=hid (HbA.out.trans hb2);clear hrow2 aiI hb2 hk2 vZ HbA Hbd Hwr W1 s1 c0 c1 c2;go_wp2_with fail
   refine(W2.out _).mono ?_;rintro e w3 ⟨rfl,rfl⟩;go_wp2;go_roundw
   case rel=>exact⟨T3,acc++T1,k+1,by omega,rfl,by go_num,by omega,by rw[List.length_append];omega,aoA,HE,HQ,aoW,Hb2⟩
   case measure=>simp[intOf];omega
  ·obtain rfl:k=l.length:=by omega
   have dd:decide ((l.length:Int)<(l.length:Int))=false:=decide_eq_false (by omega);have e:acc++T=R:=by rw[hq.out,List.drop_length];rfl
   have Hwr:=hid (zG w.heap.size b acc T wr (by omega) htl.out hws hbd.out);rw[e]at Hwr;have Hst:=hid (fun w' h1 h=>Gy w.heap.size b R w' HRl.out h1 h);clear hq htl hen hbd e;go_wp2_with fail
   refine Hwr.out.mono ?_;rintro e w2 ⟨rfl,aiI,hb2,_⟩;have Hb2:=hid (hbel.out.trans hb2);have Hs2:=hid (Hst.out w2 Hb2.out.size aiI);clear aiI hb2 Hst Hwr hbel;go_wp2_with fail
   refine Hs2.out.mono ?_;rintro e w3 ⟨rfl,hb3⟩;have Hb3:=hid (Hb2.out.trans hb3);clear hb3 Hb2 Hs2;go_wp2;go_ret;exact⟨rfl,Hb3.out⟩
def ail:Prop:=∀(w:World) (D X:List Nat) (v:Int),D.length<=1000000000->X.length<=1000000000->(∀z∈D,z<256)->(∀z∈X,z<256)->bO v->Calls prog 35 #[.string (strOf D),.string (strOf X),.int .i64 v] w fun e w'=>
 ∃A c l,e=.returned (.slice A l.length c)/\Dp w' A l/\l.length<=600/\OkS (D.drop (D.length-600)++X.take 600) (D.drop (D.length-600)).length l/\(v<=0->l=[])/\Below w.heap.size w w'
def alo:Prop:=∀(w:World) (X:List Nat) (A:Option Addr) (c:Nat) (l:List Bm.Stp),X.length<=100000000->l.length<=100000000->(∀z∈X,z<256)->yU 0 l<=X.length->Dp w A l->Calls prog 38 #[.string (strOf X),.slice A l.length c] w fun e w'=>e=.returned (.string (strOf (oG X 0 l)))/\Below w.heap.size w w'
theorem Vu:ail:=fun w D X v hD hX hDl hXl hv=>(Fb D X v w hD hX hDl hXl hv).mono fun _ _ ⟨A,c,he,hr,hb⟩=>
 ⟨A,c,_,he,hr,rE D X v,WE D X v,JV D X v,hb⟩
theorem aaB:alo:=fun w X A c l hX hl hlt he hr=>Jp X A c l w hX hl hlt he hr
end Go.Proofs.YtaebnkeddcbmkaaGreat
