/- Contracts. -/
import Derived.Test.YtgiicohbigiapaaGreatQat
import Derived.Test.YtgiicohbigiapaaGreatQz1
import Derived.Test.YtgiicohbigiapaaGreatQz0
set_option maxHeartbeats 4000000
set_option maxRecDepth 100000
open Go.Proofs.Tryz Go.Proofs.YtgiicohbigiapaaGreat.ao List Nat Option
namespace Go.Proofs.YtgiicohbigiapaaGreat
open Go.RowKit
theorem amU(T P:ae)(n:Nat)(h:n+3<=T.length):zL T P (n:Int)=!decide (n∈P):=by
 have aj:wh T (n:Int)=true:=bG ⟨by omega,by omega⟩;rw[zL,aj,Bool.true_and];by_cases az:n∈P
 .rw[bG az,List.any_eq_true.2 ⟨n,az,bG rfl⟩]
 .rw[bF az,List.any_eq_false.2 (λp aw=>by
   simp only[decide_eq_true_eq];intro e;have e2:p=n:=by omega
   subst e2;exact az aw)]
theorem acb(b:Nat)(T P:ae)(a:Int)(w:ai)(cp:T.length<=2000)(av:∀x∈T,x<256)(aS:en a)(h:jK w b T P) :
  Calls prog 93 #[.pointer (some ⟨b,0,none⟩),.int .i64 a] w λe w'=>e=.returned (.bool (zL T P a))/\jK w' b T (lR T P a)/\w.grownBy w' (some b):=by
 have qT:=I (aca (some ⟨b,0,none⟩) T.length a w (by omega) (Qp b T w h.text));obtain⟨r,aj⟩:∃r,r=zL T P a:=⟨_,rfl⟩;have c8:Hid (r=false->jK w b T (lR T P a)):=I (λaL=>by unfold lR;rw[<-aj,aL,ay Bool.false_ne_true];exact h);by_cases kD:0<=a/\a+3<=T.length
 .rw[bG kD]at qT;obtain⟨n,rfl⟩:=Int.eq_ofNat_of_zero_le kD.1;have az:n+3<=T.length:=by omega
  have e8:=amU T P n az;obtain⟨C,L,A,hrow,sN,cW,cm⟩:=h;have c1:=(hrow.cell (1+n)).trans (sN.noted n (by omega));by_cases Eb:n∈P
  .rw[bG Eb]at c1 e8;have uf:r=false:=by rw[aj,e8];rfl
   rw[<-aj,uf];have bt:=I (c8.out uf);clear c8 aj uf kD e8 hrow sN cW cm Eb av aS;go_enter func93,ntmps93
   go_wp2_with fail
   refine qT.out.mono ?_;rintro e au ⟨rfl,m,rfl⟩;go_wp2;go_ret;exact⟨rfl,bt.out.keep rfl,qq (dl w _) m⟩
  .rw[bF Eb]at c1 e8;have lO:r=true:=by rw[aj,e8];rfl
   have QD:Hid (lR T P (n:Int)=P++[n]):=I (by unfold lR;rw[<-aj,lO,aA rfl,cY]);obtain⟨c,hc⟩:∃c,c=ll T n:=⟨_,rfl⟩;have lh:c<2003:=by rw[hc];exact XE T n
   have yj:=I (λm=>ab8 b n T (w.drewN m) av cp az ((hrow.cell 0).trans sN.c0));rw[<-hc]at yj;have hok2:=cW.note n Eb;rw[<-hc]at hok2;have qw:ao.Places T (P++[n]):=λp aw=>by
    rcases List.mem_append.1 aw with aw | aw
    .exact cm p aw
    .rw[List.mem_singleton.1 aw];exact az
   have iQ:=I hok2;have my:=I qw;have da:=I hrow;have m9:=I sN;rw[<-aj,lO,QD.out];clear c8 aj lO kD e8 hrow sN cW hok2 cm qw Eb av aS hc QD;go_enter func93,ntmps93
   go_wp2_with fail
   refine qT.out.mono ?_;rintro e au ⟨rfl,m,rfl⟩;clear qT;go_wp2_with fail
   refine(yj.out m).mono ?_;rintro e aB ⟨rfl,aI⟩;have hrow2:Row aB b 147 C:=da.out.keep (aI.block b da.out.lt);have c2:=(hrow2.cell (1+n)).trans (m9.out.noted n (by omega));have f2:=hrow2.free (1+n);have cN:=I (show w.grownBy aB (some b)from dr (show Below w.heap.size w aB from⟨aI.os,aI.tape,aI.output,aI.size,aI.block⟩) _);have gh:=I hrow2;clear aI hrow2 yj c1;go_wp2;have hrow3:=gh.out.bm (1+n) (.bool true);have cs:=hz cN.out (1+n) (.bool true);have c3:=(hrow3.cell (2001+c)).trans ((mK _ _ _ _ (by omega)).trans (m9.out.last c lh));have d3:=(hrow3.cell (4004+n)).trans ((mK _ _ _ _ (by omega)).trans (m9.out.ahead n (by omega)));have f3:=hrow3.free (4004+n);have kq:=I hrow3;have jf:=I cs;clear hrow3 cs c2 f2 gh cN da;generalize aB.setCell ⟨b,1+n,none⟩ (.bool true)=a1 at *;go_region
   have hrow4:Row (a1.setCell ⟨b,4004+n,none⟩ (.int .i16 (L c))).drew b 147 ((C.set (1+n) (.bool true)).set (4004+n) (.int .i16 (L c))):=(kq.out.bm (4004+n) (.int .i16 (L c))).keep rfl;have cA:=nR (hz jf.out (4004+n) (.int .i16 (L c)));have c4:=(hrow4.cell (2001+c)).trans ((mK _ _ _ _ (by omega)).trans ((mK _ _ _ _ (by omega)).trans (m9.out.last c lh)));have f4:=hrow4.free (2001+c);have r3:=I hrow4;have gQ:=I cA;clear hrow4 cA c3 d3 f3 kq jf;generalize (a1.setCell ⟨b,4004+n,none⟩ (.int .i16 (L c))).drew=bA at *;have ey:Hid (jK (bA.setCell ⟨b,2001+c,none⟩ (.int .i16 ((n+1:Nat):Int))) b T (P++[n])/\w.grownBy (bA.setCell ⟨b,2001+c,none⟩ (.int .i16 ((n+1:Nat):Int))) (some b)):=I
    ⟨⟨_,_,_,r3.out.bm (2001+c) _,m9.out.note n c (by omega) lh,iQ.out,my.out⟩,hz gQ.out _ _⟩
   rw[Int.natCast_add]at ey;clear iQ my m9 r3 gQ;go_wp2;go_ret;exact⟨rfl,ey.out.1,ey.out.2⟩
 .rw[bF kD]at qT;have uf:r=false:=by rw[aj,zL,show wh T a=false from bF kD,Bool.false_and]
  rw[<-aj,uf];have bt:=I (c8.out uf);clear c8 aj uf kD h av aS;go_enter func93,ntmps93
  go_wp2_with fail
  refine qT.out.mono ?_;rintro e au ⟨rfl,m,rfl⟩;go_wp2;go_ret;exact⟨rfl,bt.out.keep rfl,qq (dl w _) m⟩
theorem atw(b:Nat)(T P:ae)(a depth:Int)(w:ai)(cp:T.length<=2000)(av:∀x∈T,x<256)(aS:en a)(aG:en depth)(h:jK w b T P) :
  Calls prog 95 #[.pointer (some ⟨b,0,none⟩),.int .i64 a,.int .i64 depth] w λe w'=>e=.returned (.tuple #[.int .i64 ((ha T P a depth).1:Int),.int .i64 ((ha T P a depth).2:Int)])/\Below w.heap.size w w':=by
 have qT:=I (aca (some ⟨b,0,none⟩) T.length a w (by omega) (Qp b T w h.text));obtain⟨j3,ox⟩:=aG;by_cases kD:0<=a/\a+3<=T.length
 .rw[bG kD]at qT;obtain⟨n,rfl⟩:=Int.eq_ofNat_of_zero_le kD.1;have az:n+3<=T.length:=by omega
  obtain⟨C,L,A,hrow,sN,cW,cm⟩:=h;obtain⟨r,aj⟩:∃r,r=ha T P (n:Int) depth:=⟨_,rfl⟩;have bS:=aj.trans (ahG T P n depth az cm);rw[<-aj];obtain⟨c,hc⟩:∃c,c=ll T n:=⟨_,rfl⟩;have lh:c<2003:=by rw[hc];exact XE T n
  have yj:=I (λW=>ab8 b n T W av cp az);rw[<-hc]at bS yj;have pM:=cW c lh;have li:∀p∈o2 T P c,p+3<=T.length:=λp aw=>cm p (Le aw)
  have hL:=agf T P c;have my:=I li;have Am:=I pM;have aU:=I bS;have da:=I hrow;have m9:=I sN;have Gb:=I (λW (p:Nat) (aw:p+3<=T.length)=>atF T (p:Int) (n:Int) W (by omega) av (by constructor<;>omega) (by constructor<;>omega));have bR:L c<=T.length:=Y0 pM (λp aw=>by have:=li p aw;omega);clear aj bS kD hrow sN cW cm av aS pM li hc;obtain⟨Lc,sB⟩:∃Lc,Lc=o2 T P c:=⟨_,rfl⟩;rw[<-sB]at hL my Am aU;clear sB;go_enter func95,ntmps95
  go_wp2_with fail
  refine qT.out.mono ?_;rintro e au ⟨rfl,m,rfl⟩;clear qT;go_wp2;obtain⟨D,cR⟩:∃D,D=min depth 1000:=⟨_,rfl⟩;have L1:-9223372036854775808<=D:=by omega
  have L2:D<=1000:=by omega
  rw[<-cR];rw[<-cR]at aU;clear cR j3 ox;have aiO:∀W,Below w.heap.size w W->W.cell? ⟨b,2001+c,none⟩=some (.int .i16 (L c)):=λW ak=>((da.out.keep (ak.block b da.out.lt)).cell _).trans (m9.out.last c lh)
  have h7:Hid (∀W,Below w.heap.size w W->W.cell? ⟨b,0,none⟩=some (.string (strOf T))):=I λW ak=>((da.out.keep (ak.block b da.out.lt)).cell _).trans m9.out.c0
  have dg:Below w.heap.size w (w.drewN m):=below_drewN dQ m;generalize w.drewN m=au at *;have avl:(0:Int)<=c:=by omega
  have rh:(c:Int)<2003:=by omega
  go_region_held3 (λW=>Below w.heap.size w W) (first | with_reducible assumption | exact dg.drew) (first | (go_at_call 127;(with_reducible refine(yj.out _ (h7.out _ (by with_reducible assumption))).mono ?_);rintro e x5 ⟨rfl,DT⟩;have hP:Below w.heap.size w x5:=Below.trans (by with_reducible assumption) (DT.mono (Below.size (by with_reducible assumption)));clear DT))
  have Nv:Row x5 b 147 C:=da.out.keep (hP.block b da.out.lt);have QW:=I hP;have Tr:=(Nv.cell 0).trans m9.out.c0;have GD:Hid (∀i,i<2000->x5.cell? ⟨b,4004+i,none⟩=some (.int .i16 (A i))):=I λi ax=>(Nv.cell _).trans (m9.out.ahead i ax)
  clear Nv hP aiO h7 dg yj da m9;go_wp2;go_loopw [8,9,10,11,12,13] (λv7 v6 vW Qn _ _ wr=>∃(o l v m:Nat) (q:Int) (ps:ae),v7=.int .i64 o/\v6=.int .i64 l/\vW=.int .i64 q/\Qn=.int .i16 v/\o<=2000/\l<=2000/\-9223372036854775808<=q/\q<=1000/\Hid (sc A v ps)/\Hid (∀p∈ps,p+3<=T.length)/\ps.length<=P.length/\Hid (r=nj T n ps o l q.toNat)/\Hid (wr=x5.drewN m)) (λ_ _ _ Qn _ _ _=>vV A P.length (intOf Qn).toNat)
  case atStart=>exact⟨0,0,L c,0,D,Lc,rfl,rfl,rfl,rfl,by omega,by omega,L1,L2,Am,my,hL,aU,I rfl⟩
  case round=>
   obtain⟨o,l,v,m,q,ps,rfl,rfl,rfl,rfl,b8,hl,Np,Ek,pM,nZ,cm,hres,hw⟩:=hrel;have lP:=hw.out;subst lP;clear hw aU Am my hL L1 L2 bR;cases ps with
   | nil=>
    obtain rfl:v=0:=pM.out;have ah:=hres.out;rw[nj]at ah;have b2:=I ah;clear ah hres pM nZ cm Gb GD Tr;go_wp2;go_ret2;rw[b2.out];exact⟨rfl,below_drewN QW.out m⟩
   | cons p ps=>
    obtain⟨aE,hlk2⟩:=pM.out;subst aE;by_cases hq:q<=0
    .have ah:=hres.out;rw[show q.toNat=0 by omega,Ux]at ah;have b2:=I ah;clear ah hres pM hlk2 nZ cm Gb GD Tr;go_wp2;go_ret2;rw[b2.out];exact⟨rfl,below_drewN QW.out m⟩
    .have Ng:=nZ.out p ea;have zs:Hid (∀x∈ps,x+3<=T.length):=I λx ah=>nZ.out x (ew _ ah)
     have Ni:ps.length+1<=P.length:=cm;have l8:vV A P.length (p+1)=ps.length+1:=Oo P.length (p+1) (p :: ps) pM.out Ni;have ho:vV A P.length (A p)=ps.length:=Oo P.length (A p) ps hlk2 (by omega);have adK:=I Ni;have RT:=I l8;have CM:=I ho;have An:=I hlk2;have auD:A p<=T.length:=Y0 hlk2 (λx ah=>by have:=zs.out x ah;omega);have Xx:B6 T (p:Int) (n:Int)=gX T p n:=by rw[B6,aA ⟨by omega,by omega,by omega,by omega⟩,cY,cY]
     have jj:=λW=>Gb.out W p Ng
     rw[Xx]at jj;have tG:=I jj;have awn:=(Py T p n).1;have ah:=hres.out;rw[nj,ay (by omega:¬q.toNat=0)]at ah;have b2:=I ah;have at5:=GD.out p (by omega);clear ah hres pM hlk2 nZ cm Gb Xx jj GD l8 ho Ni;generalize gX T p n=y at *;go_wp2_with fail
     refine(tG.out _).mono ?_;rintro e axm ⟨rfl,m2,rfl⟩;rw[World.drewN_drewN];have qw:ps.length<=P.length:=du (le_succ _) adK.out;have Ar:Hid (vV A P.length (A p)<vV A P.length (p+1)):=I (by rw[RT.out,CM.out];omega);have W9:q.toNat-1=(q-1).toNat:=by omega
     rw[W9]at b2;clear RT CM tG W9;by_cases hy:y<3
     .have sa:=I (show r=nj T n ps o l q.toNat by rw[b2.out,aA hy]);clear b2;go_wp2;go_roundw
      case rel=>exact⟨o,l,A p,_,q,ps,by go_num,by go_num,by go_num,rfl,by omega,by omega,by omega,by omega,An,zs,by omega,sa,I rfl⟩
      case measure=>exact Ar.out
     .rw[ay hy]at b2;by_cases rq:p<n
      .by_cases Ea:l<y
       .have sa:=I (show r=nj T n ps (n-p) y (q-1).toNat by rw[b2.out,aA ⟨rq,.inl Ea⟩]);clear b2;go_wp2;go_roundw
        case rel=>exact⟨n-p,y,A p,_,q-1,ps,by go_num,by go_num,by go_num,rfl,by omega,by omega,by omega,by omega,An,zs,by omega,sa,I rfl⟩
        case measure=>exact Ar.out
       .by_cases akI:y=l
        .subst akI;by_cases fe:n-p<o
         .have sa:=I (show r=nj T n ps (n-p) y (q-1).toNat by rw[b2.out,aA ⟨rq,.inr ⟨rfl,fe⟩⟩]);clear b2;go_wp2;go_roundw
          case rel=>exact⟨n-p,y,A p,_,q-1,ps,by go_num,by go_num,by go_num,rfl,by omega,by omega,by omega,by omega,An,zs,by omega,sa,I rfl⟩
          case measure=>exact Ar.out
         .have sa:=I (show r=nj T n ps o y (q-1).toNat by rw[b2.out,ay (λh=>by omega)]);clear b2;go_wp2;go_roundw
          case rel=>exact⟨o,y,A p,_,q-1,ps,by go_num,by go_num,by go_num,rfl,by omega,by omega,by omega,by omega,An,zs,by omega,sa,I rfl⟩
          case measure=>exact Ar.out
        .have sa:=I (show r=nj T n ps o l (q-1).toNat by rw[b2.out,ay (λh=>by omega)]);clear b2;go_wp2;go_roundw
         case rel=>exact⟨o,l,A p,_,q-1,ps,by go_num,by go_num,by go_num,rfl,by omega,by omega,by omega,by omega,An,zs,by omega,sa,I rfl⟩
         case measure=>exact Ar.out
      .have sa:=I (show r=nj T n ps o l (q-1).toNat by rw[b2.out,ay (λh=>by omega)]);clear b2;go_wp2;go_roundw
       case rel=>exact⟨o,l,A p,_,q-1,ps,by go_num,by go_num,by go_num,rfl,by omega,by omega,by omega,by omega,An,zs,by omega,sa,I rfl⟩
       case measure=>exact Ar.out
 .rw[bF kD]at qT;have uf:ha T P a depth=(0,0):=by
   have h1:wh T a=false:=bF kD;rw[ha,h1,ay Bool.false_ne_true]
  rw[uf];clear uf kD h av aS;go_enter func95,ntmps95
  go_wp2_with fail
  refine qT.out.mono ?_;rintro e au ⟨rfl,m,rfl⟩;go_wp2;go_ret2;exact⟨rfl,below_drewN dQ m⟩
theorem anv(v:Int)(aE:en v)(w:ai):Calls prog 57 #[.int .i64 v] w λe w'=>e=.returned (.int .i64 (mI v))/\Below w.heap.size w w':=by
 obtain⟨Ey,awu⟩:=aE;by_cases am:v<=0
 .have aj:mI v=0:=by unfold mI;rw[aA am]
  rw[aj];have d0:decide (v<=0)=true:=bG am;go_enter func57,ntmps57
  go_wp2;go_ret;exact⟨rfl,Below.refl _ _⟩
 .have d0:decide (v<=0)=false:=bF am;obtain⟨m,hm,zp⟩:∃m:Int,min v 3=m/\((m=1/\mI v=4)\/(m=2/\mI v=16)\/(m=3/\mI v=64)):=by
   by_cases h1:v=1
   .subst h1;exact⟨1,by omega,.inl ⟨rfl,rfl⟩⟩
   .by_cases af:v=2
    .subst af;exact⟨2,by omega,.inr (.inl ⟨rfl,rfl⟩)⟩
    .exact⟨3,by omega,.inr (.inr ⟨rfl,by unfold mI;rw[ay am,ay h1,ay af]⟩)⟩
  rcases zp with⟨rfl,aj⟩ | ⟨rfl,aj⟩ | ⟨rfl,aj⟩
  all_goals
   rw[aj];clear aj am;go_enter func57,ntmps57
   go_wp2;go_ret;exact⟨rfl,Below.refl _ _⟩
theorem anJ(n:Nat)(T:ae)(w:ai)(az:n<=T.length):Calls prog 69 #[.int .i64 n,.string (strOf T)] w λe w'=>e=.returned (.int .i64 n)/\w'=w:=by
 have bI:=cZ T;have m1:max (n:Int) 0=(n:Int):=by omega
 have m2:min (n:Int) (T.length:Int)=n:=by omega
 go_enter func69,ntmps69
 go_wp2;go_ret;exact⟨rfl,rfl⟩
theorem ZT(b:Nat)(T P:ae)(x y:Nat)(w:ai)(cp:T.length<=2000)(av:∀z∈T,z<256)(vU:x<=y)(hy:y<=1000000)(h:jK w b T P) :
  Calls prog 59 #[.pointer (some ⟨b,0,none⟩),.int .i64 x,.int .i64 y] w λe w'=>e=.returned (.tuple #[])/\jK w' b T (n3 T P x (y-x))/\w.grownBy w' (some b):=by
 have F1:=I (λw P (k:Nat) (hk:k<=1000000) (h:jK w b T P)=>acb b T P (k:Int) w cp av ⟨by omega,by omega⟩ h);obtain⟨R,cS⟩:∃R,R=n3 T P x (y-x):=⟨_,rfl⟩;rw[<-cS];have dO:=I cS;have H:=I h;clear cS h av cp;go_enter func59,ntmps59
 go_wp2;go_loopw [6] (λbV wr=>∃(k:Nat) (Q:ae),k<=y/\bV=.int .i64 k/\Hid (R=n3 T Q k (y-k))/\Hid (jK wr b T Q)/\Hid (w.grownBy wr (some b))) (λbV _=>y-(intOf bV).toNat)
 case atStart=>exact⟨x,P,vU,rfl,dO,H,I (dl _ _)⟩
 case round=>
  obtain⟨k,Q,hk,rfl,hq,aL,aD⟩:=hrel;clear dO H;by_cases avP:k<y
  .have d0:decide ((k:Int)<y)=true:=cl;have bX:=I (F1.out wr Q k (by omega) aL.out);have q0:Hid (R=n3 T (lR T Q (k:Int)) (k+1) (y-(k+1))):=I (by rw[hq.out,show y-k=(y-(k+1))+1 by omega,n3]);clear hq aL;go_wp2_with fail
   refine bX.out.mono ?_;rintro e au ⟨rfl,xu,aZ⟩;have qc:=I xu;have cv:=I (He aD.out aZ);clear xu aZ aD bX;go_wp2;go_roundw
   case rel=>exact⟨k+1,_,by omega,by go_num,q0,qc,cv⟩
   case measure=>simp[intOf];omega
  .obtain rfl:k=y:=by omega
   have d0:decide ((k:Int)<k)=false:=aT;have e:R=Q:=by rw[hq.out,Nat.sub_self];rfl
   go_wp2;go_end0
   exact⟨rfl,by rw[e];exact aL,aD⟩
theorem ak1(d j0:Nat)(A:a7)(c:Nat)(l:List fc)(lim:Nat)(w:ai)(aG:d<=1000000000)(bR:j0<=1000000000)(hl:l.length<=1000000000)(hlim:lim<=1000000000)(cW:xa l)(aj:sj w A l) :
  Calls prog 114 #[.int .i64 d,.int .i64 j0,.slice A l.length c,.int .i64 lim] w λe w'=>e=.returned (.tuple #[.int .i64 ((gM d lim 0 j0 l).1:Int),.int .i64 ((gM d lim 0 j0 l).2:Int)])/\Below w.heap.size w w':=by
 have aU:=I aj;have iQ:=I cW;obtain⟨N,E,xo⟩:∃N E,gM d lim 0 j0 l=(N,E):=⟨_,_,rfl⟩;rw[xo];have Ck:=I xo;have qU:=I (λn L k (hk:k<l.length) (h:gM d lim n L (l.drop k)=(N,E))=>(Ok hk).symm.trans h);clear aj cW xo;go_enter func114,ntmps114
 go_wp2;go_loopw [1,10,15] (λDb v6 iJ wr=>∃(L n k:Nat),k<=l.length/\L<=j0/\n<=lim/\Db=.int .i64 L/\v6=.int .i64 n/\iJ=.int .i64 k/\Hid (gM d lim n L (l.drop k)=(N,E))/\Hid (Below w.heap.size w wr)) (λ_ _ iJ _=>l.length-(intOf iJ).toNat)
 case atStart=>exact⟨j0,0,0,zero_le _,Nat.le_refl _,zero_le _,rfl,rfl,rfl,Ck,I dQ⟩
 case round=>
  obtain⟨L,n,k,hk,Hn,az,rfl,rfl,rfl,hq,hbel⟩:=hrel;clear Ck;by_cases bb:k<l.length
  .obtain⟨g,off,rfl,aD,hc⟩:=(aU.out.below hbel.out) (by omega);obtain⟨c0,c1,c2⟩:=hc k bb;have eG:=qU.out n L k bb hq.out;obtain⟨⟨x0,je⟩,⟨m0,m1⟩,un,uo⟩:=iQ.out l[k] (b7 bb);have dd:decide ((k:Int)<(l.length:Int))=true:=cl;obtain⟨x,m,o,ap⟩:∃x m o,l[k]=(x,m,o):=⟨_,_,_,rfl⟩;rw[ap]at eG c0 c1 c2 x0 je m0 m1 un uo;simp only at c0 c1 c2 x0 je m0 m1 un uo;rw[EJ]at eG;have nn:=(Below.refl wr.heap.size wr).alloc bh (.cells #[.int .i64 x,.int .i64 m,.int .i64 o] 118);have eZ:=b9 hbel nn;clear hc hq ap qU nn hbel;by_cases h1:x<0\/(L:Int)<x
   .rw[aA h1]at eG;injection eG with aF e2
    subst aF e2;by_cases af:x<0
    .have d1:decide (x<0)=true:=bG af;go_wp2;go_ret2;exact⟨rfl,eZ⟩
    .have d1:decide (x<0)=false:=bF af;have d2:decide (x > (L:Int))=true:=cl;have d3:decide ((L:Int)<x)=true:=cl;go_wp2;go_ret2;exact⟨rfl,eZ⟩
   .rw[ay h1]at eG;have d1:decide (x<0)=false:=aT;have d2:decide (x > (L:Int))=false:=aT;have d3:decide ((L:Int)<x)=false:=aT;obtain⟨x,rfl⟩:=Int.eq_ofNat_of_zero_le (by omega:0<=x);rw[cY]at eG;clear x0 je;by_cases af:lim<n+x
    .rw[aA af]at eG;injection eG with aF e2
     subst aF e2;have d4:decide ((x:Int) > (lim:Int)-n)=true:=cl;have d5:decide ((lim:Int)-n<x)=true:=cl;go_wp2;go_ret2;exact⟨rfl,eZ⟩
    .rw[ay af]at eG;have d4:decide ((x:Int) > (lim:Int)-n)=false:=aT;have d5:decide ((lim:Int)-n<x)=false:=aT;by_cases aq:m<3\/o<1\/((d+n+x:Nat):Int)<o
     .rw[aA aq]at eG;injection eG with aF e2
      subst aF e2;by_cases aJ:m<3
      .have d6:decide (m<3)=true:=bG aJ;go_wp2;go_ret2;exact⟨rfl,eZ⟩
      .have d6:decide (m<3)=false:=bF aJ;by_cases aR:o<1
       .have d7:decide (o<1)=true:=bG aR;go_wp2;go_ret2;exact⟨rfl,eZ⟩
       .have d7:decide (o<1)=false:=bF aR;have d8:decide (o-(d:Int) > (n:Int)+x)=true:=cl;have d9:decide ((n:Int)+x<o-(d:Int))=true:=cl;go_wp2;go_ret2;exact⟨rfl,eZ⟩
     .rw[ay aq]at eG;have d6:decide (m<3)=false:=aT;have d7:decide (o<1)=false:=aT;have d8:decide (o-(d:Int) > (n:Int)+x)=false:=aT;have d9:decide ((n:Int)+x<o-(d:Int))=false:=aT;obtain⟨m,rfl⟩:=Int.eq_ofNat_of_zero_le (by omega:0<=m);rw[cY]at eG;by_cases aJ:lim<n+x+m
      .rw[aA aJ]at eG;injection eG with aF e2
       subst aF e2;have f1:decide ((m:Int) > (lim:Int)-((n:Int)+x))=true:=cl;have f2:decide ((lim:Int)-((n:Int)+x)<(m:Int))=true:=cl;go_wp2;go_ret2;exact⟨rfl,eZ⟩
      .rw[ay aJ]at eG;have f1:decide ((m:Int) > (lim:Int)-((n:Int)+x))=false:=aT;have f2:decide ((lim:Int)-((n:Int)+x)<(m:Int))=false:=aT;have q0:=I eG;have A9:L-x<=j0:=by omega
       clear eG;go_wp2;go_roundw
       case rel=>exact⟨L-x,n+x+m,k+1,by omega,A9,by omega,by go_num,by go_num,by go_num,q0,eZ⟩
       case measure=>simp[intOf];omega
  .obtain rfl:k=l.length:=by omega
   have dd:decide ((l.length:Int)<(l.length:Int))=false:=aT;have e:=hq.out;rw[drop_length,gM]at e;by_cases h1:lim<n+L
   .rw[aA h1]at e;injection e with aF e2
    subst aF e2;have d4:decide ((L:Int) > (lim:Int)-n)=true:=cl;have d5:decide ((lim:Int)-n<L)=true:=cl;go_wp2;go_ret2;exact⟨rfl,hbel⟩
   .rw[ay h1]at e;injection e with aF e2
    subst aF e2;have d4:decide ((L:Int) > (lim:Int)-n)=false:=aT;have d5:decide ((lim:Int)-n<L)=false:=aT;go_wp2;go_ret2;exact⟨rfl,hbel⟩
def xc(A:a7)(c q:Nat):a7:=if c=q then A else A.map (·.add q)
theorem ae0(A:a7)(L c q:Nat)(W:ai)(h:q<=L)(hc:L<=c):(Instr.slice 87 (.slice A L c) (some (.int .i64 q)) none none).run prog W=.ok (.slice (xc A c q) (L-q) (c-q)) W:=by
 have h1:q<=c:=by omega
 unfold xc;by_cases DY:c=q
 .subst DY;rcases A with _ | a
  .go_simp
  .go_simp
 .rcases A with _ | a
  .go_simp
  .go_simp
theorem afJ{w:ai}{A:a7}{l:ae}{c q:Nat}(h:Reads w A (aN l))(hc:l.length<=c):Reads w (xc A c q) (aN (l.drop q)):=λaX=>by
 have am:q<l.length:=by
  rcases eP q l.length with e | e
  .exact e
  .rw[drop_of_length_le e]at aX;simp[aN]at aX
 obtain⟨g,off,e,hcell⟩:=h (by intro e;have:=congrArg List.length e;rw[jn,length_nil]at this;omega);refine⟨g,off+q,?_,λj ar=>?_⟩
 .unfold xc;rw[ay (by omega),e];show some _=_;congr 1
  unfold Addr.add;split<;>simp_all
 .rw[jn,cC]at ar;rw[jb,hcell (q+j) (by rw[jn];omega),jF _ _ (by omega),jF _ _ (by rw[cC];omega),getElem_drop]
theorem afD{w:ai}{base n c:Nat}{A:a7}{e:TypeId}{xs:b3}(h:w.ownsRow base e 1 (.slice A n c) n xs):n<=c/\c<=maxLen:=by
 rcases h.2 with⟨aE,am⟩ | ⟨fd,cap',fg,aE,ak,hh,h1,af,_⟩
 .injection aE with _ _ e3
  subst am e3;exact⟨Nat.le_refl _,by unfold maxLen;omega⟩
 .injection aE with _ _ e3
  subst e3;exact⟨h1,af⟩
theorem own_ne{w:ai}{base n m k:Nat}{v:Value}{e:TypeId}{xs:b3}(h:w.ownsRow base e m v n xs)(hk:k<base\/w.heap.size<=k):some k≠v.ownBlock:=λe=>by
 have:=h.lt k e.symm;omega
theorem ano{w:ai}{base n m q:Nat}{v:Value}{e t:TypeId}{xs ag:b3}(h:w.ownsRow base e m v n xs)(aj:Row w q t ag)(aX:e≠t):some q≠v.ownBlock:=λhe=>by
 rcases h.2 with⟨rfl,_⟩ | ⟨g,cap,fg,rfl,_,hh,_⟩
 .cases he
 .injection he with he
  subst he;unfold Row at aj;rw[aj]at hh;injection hh with hh
  injection hh with _ af
  exact aX af.symm
theorem ak8(D j0:ae)(A:a7)(c:Nat)(l:List fc)(lim N:Nat)(w:ai)(cR:D.length<=1000000000)(bR:j0.length<=1000000000)(hl:l.length<=1000000000)(hlim:lim<=1000000000)(hDlt:∀x∈D,x<256)(nU:∀x∈j0,x<256)
  (cW:gM D.length lim 0 j0.length l=(N,0)) (aj:sj w A l) :
  Calls prog 115 #[.string (strOf D),.string (strOf j0),.slice A l.length c,.int .i64 N] w λe w'=>e=.returned (.string (strOf ((nC D j0 l).drop D.length)))/\Below w.heap.size w w':=by
 obtain⟨i0,ax,bB,bK,bw⟩:=info_parts oG;have vQ:=cZ D;have Mc:=(EK cW).2;obtain⟨d,aG⟩:∃d,d=D.length:=⟨_,rfl⟩;have aU:=I aj;have iQ:=I cW;rw[<-aG]at iQ vQ cR;obtain⟨R,cS⟩:∃R,R=nC D j0 l:=⟨_,rfl⟩;have aiu:R.length=d+N:=by rw[cS,PY cW rfl,aG]
 have acD:=I (show ∀x∈R,x<256 from by rw[cS];exact PZ l D j0 hDlt nU);rw[<-cS,<-aG];have dO:=I cS;have dS:=I aG;have QA:=I hDlt;have QB:=I nU;have qU:=I (λn L k (hk:k<l.length) (h:gM d lim n L (l.drop k)=(N,0))=>OS ((Ok hk).symm.trans h));have iz:=I (λA L k (hk:k<l.length)=>congrArg (nC A L) (drop_eq_getElem_cons hk));clear aj cW cS aG hDlt nU;go_enter func115,ntmps115
 go_wp2_with (at_make;refine wpList_make_own _ rfl _ _ 87 rfl w.heap.size 5 i0 (.int .u8 0) 1 underlying87 ax bB bK .i64 .i64 _ (d+N) rfl rfl ?c1 ?c2 ?c3 ?c4 ?_)
 case c1=>go_num
 case c2=>rw[bw];omega
 case c3=>unfold maxLen;omega
 case c4=>exact Nat.le_refl _
 intro au hown1 aZ;have aH:=k8 aZ;go_wp2_with (at_builtin;refine Ql rfl _ _ rfl w.heap.size i0 ax bB bK bw _ 0 d [] D dS.out.symm QA.out rfl rfl hown1 (by omega) (by omega) aH.size ?_)
 intro v2 aB hown2 bl;have aV:=I (aH.grown bl aH.size (λq hq=>(hown1.lt q hq).1));have mv:=I hown2;clear hown1 aZ aH bl hown2;go_wp2;go_loopw [1,9,22] (λDb bv iJ wr=>∃(B L:ae) (n k:Nat),k<=l.length/\L.length<=1000000000/\n<=N/\B.length=d+n/\Db=.string (strOf L)/\iJ=.int .i64 k/\Hid (∀x∈L,x<256)/\Hid (gM d lim n L.length (l.drop k)=(N,0))/\Hid (R=nC B L (l.drop k))/\Hid (wr.ownsRow w.heap.size 5 1 bv (d+n) (aN B))/\Hid (Below w.heap.size w wr)) (λ_ _ iJ _=>l.length-(intOf iJ).toNat)
 case atStart=>exact⟨D,j0,0,0,zero_le _,bR,zero_le _,dS.out.symm,rfl,rfl,QB,iQ,dO,mv,aV⟩
 case round=>
  obtain⟨B,L,n,k,hk,Hn,az,bu,rfl,rfl,nU,hq,aC,hown,hbel⟩:=hrel;clear dO iQ mv aV QB QA;have dZ:=hbel.out.size;by_cases bb:k<l.length
  .obtain⟨g,off,rfl,aD,hc⟩:=(aU.out.below hbel.out) (by omega);obtain⟨c0,c1,c2⟩:=hc k bb;obtain⟨x,m,o,ap,aF,e2,e3,e4,e5,gR⟩:=qU.out n L.length k bb hq.out;have i7:=aC.out.trans (iz.out B L k bb);rw[ap]at c0 c1 c2 i7;rw[Fo]at i7;simp only[cY]at c0 c1 c2 i7;have dd:decide ((k:Int)<(l.length:Int))=true:=cl;have kF:(L.take x).length=x:=by rw[cq];omega
   have nF:Hid (gM d lim (n+x+m) (L.drop x).length (l.drop (k+1))=(N,0)):=I (by rw[cC];exact gR);have HM:=(EK gR).1;have RS:=I (p3 nU.out x);have FY:=I (jw nU.out x);have s1:=λW=>ti L x aF W
   have s2:=λW=>pm L x aF W
   have A9:(L.drop x).length<=1000000000:=by rw[cC];omega
   have fC:=I i7;clear ap hc aC i7 qU iz hq gR nU Hn aD;obtain⟨P,cJ⟩:∃P,P=L.take x:=⟨_,rfl⟩;obtain⟨Q,j2⟩:∃Q,Q=L.drop x:=⟨_,rfl⟩;rw[<-cJ]at kF RS fC s1;rw[<-j2]at A9 nF FY fC s2;clear cJ j2;have nn:=(Below.refl wr.heap.size wr).alloc bh (.cells #[.int .i64 x,.int .i64 m,.int .i64 o] 118);have eZ:=b9 hbel nn;have Kj:=I (hown.out.alloc (.cells #[.int .i64 x,.int .i64 m,.int .i64 o] 118));have r4:=I (Row.new wr 118 [.int .i64 x,.int .i64 m,.int .i64 o]);have jY:=I (own_ne (k:=wr.heap.size) hown.out (.inr bh));clear nn hbel hown;go_wp2_with (at_builtin;refine Ql rfl _ _ rfl w.heap.size i0 ax bB bK bw _ (d+n) x B P kF RS.out rfl rfl Kj.out (by omega) (by omega) eZ.out.size ?_)
   intro v3 a1 hown3 cs;have hrow3:Row a1 wr.heap.size 118 [.int .i64 x,.int .i64 m,.int .i64 o]:=r4.out.keep (cs.block _ r4.out.lt jY);have bE:=I (eZ.out.grown cs eZ.out.size (λq hq=>(Kj.out.lt q hq).1));have mw:=I hown3;have kq:=I hrow3;have bC:=hrow3.cell 0;have bf:=hrow3.cell 1;have bM:=hrow3.cell 2;simp only[dU,dR]at bC bf bM;obtain⟨q,hq⟩:∃q,q=wr.heap.size:=⟨_,rfl⟩;have atU:Hid (w.heap.size<=q):=I (by omega);rw[<-hq]at kq bC bf bM;rw[<-hq];have aie:(B++P).length=d+n+x:=by rw[aY,bu,kF]
   obtain⟨C,j1⟩:∃C,C=nP o m (B++P):=⟨_,rfl⟩;rw[<-j1]at fC;have kc:=I j1;clear hown3 cs hrow3 r4 eZ Kj jY c0 c1 c2 s1 hq j1;go_wp2;go_loopw [9,38] (λbv hM pr=>∃(E:ae) (j:Nat),j<=m/\hM=.int .i64 j/\E.length=d+n+x+j/\Hid (C=nP o (m-j) E)/\Hid (pr.ownsRow w.heap.size 5 1 bv (d+n+x+j) (aN E))/\Hid (Row pr q 118 [.int .i64 x,.int .i64 m,.int .i64 o])/\Hid (Below w.heap.size w pr)) (λ_ hM _=>m-(intOf hM).toNat)
   case atStart=>exact⟨B++P,0,zero_le _,rfl,aie,by rw[Nat.sub_zero];exact kc,mw,kq,bE⟩
   case round=>
    obtain⟨E,j,ar,rfl,fD,l7,hown,hrow,hbel⟩:=hrel;clear mw kq bE kc bC bf bM;have bC:=hrow.out.cell 0;have bf:=hrow.out.cell 1;have bM:=hrow.out.cell 2;simp only[dU,dR]at bC bf bM;by_cases vI:j<m
    .have o4:decide ((j:Int)<m)=true:=cl;obtain⟨h5,ij,rfl,lM,oy⟩:=Iq hown.out (by omega);have fo:=ZK hown.out;have hcell:=hown.out.cells (g:=h5) rfl (d+n+x+j-o) _ (jF E _ (by omega));rw[AN,<-ao.getD_at (by omega:d+n+x+j-o<E.length)]at hcell;have db:C=nP o (m-(j+1)) (E++[E.getD (d+n+x+j-o) 0]):=by rw[l7.out,show m-j=(m-(j+1))+1 by omega,nP,fD]
     obtain⟨y,hy⟩:∃y,y=d+n+x+j-o:=⟨_,rfl⟩;obtain⟨z,aO⟩:∃z,z=d+n+x+j:=⟨_,rfl⟩;have Up:(z:Int)-o=y:=by omega
     have EA:y<z:=by omega
     have NY:z<=2000000000:=by omega
     have Hl:(E++[E.getD y 0]).length=z+1:=by rw[aY,fD,aO];rfl
     rw[<-hy]at hcell db;rw[<-aO]at fo hown;rw[<-aO];have act:=I db;have iT:=I aO;have hQ:=I (hown.out.alloc (.cells #[.int .u8 ((E.getD y 0:Nat):Int)] 5));have nn:=(Below.refl wr.heap.size wr).alloc bh (.cells #[.int .u8 ((E.getD y 0:Nat):Int)] 5);have eZ:=b9 hbel nn;have r4:=I (hrow.out.alloc (.cells #[.int .u8 ((E.getD y 0:Nat):Int)] 5));have jY:=I (ano hQ.out r4.out (by decide));have acu:=I Hl;clear db l7 hy aO nn hbel hrow hown fD Hl;generalize E.getD y 0=b at *;go_wp2_with (at_builtin;refine wpList_append_own _ rfl _ _ 87 rfl w.heap.size 5 i0 (.int .u8 0) 1 1 underlying87 ax bB bK bw rfl (by decide) _ _ _ rfl hQ.out ⟨wr.heap.size,0,none⟩ 1 1 [.int .u8 b] rfl rfl ?d1 ?d2 ?d3 ?d4 ?d5 ?_)
     case d1=>
      intro j u ar;match j,ar with
      | 0,ar=>simp at ar;subst ar;simp[Addr.add]
     case d2=>intro u hu;simp at hu;subst hu;rfl
     case d3=>unfold maxLen;omega
     case d4=>omega
     case d5=>exact eZ.out.size
     intro gZ bA sM cA _;rw[show [Value.int .u8 b]=aN [b]from rfl,abU]at sM;have r3:=I (r4.out.keep (cA.block _ r4.out.lt jY));have cx:=I (eZ.out.grown cA eZ.out.size (λq hq=>(hQ.out.lt q hq).1));have wO:=I sM;clear sM cA r4 jY hQ eZ hcell Up;go_wp2;go_roundw
     case rel=>exact⟨E++[b],j+1,by omega,by go_num,by rw[acu.out,iT.out];rfl,act,by rw[<-jb,<-iT.out];exact wO,r3,cx⟩
     case measure=>simp[intOf];omega
    .obtain rfl:j=m:=by omega
     have o4:decide ((j:Int)<j)=false:=aT;have mJ:C=E:=by rw[l7.out,Nat.sub_self];rfl
     rw[mJ]at fC;have CW:=I hown.out;clear l7 hown hrow bC bf bM mJ;go_wp2;go_roundw
     case rel=>exact⟨E,Q,n+x+j,k+1,by omega,A9,by omega,by omega,rfl,by go_num,FY,nF,fC,by rw[<-jb,<-jb];exact CW,hbel⟩
     case measure=>simp[intOf];omega
  .obtain rfl:k=l.length:=by omega
   have dd:decide ((l.length:Int)<(l.length:Int))=false:=aT;have A0:N=n+L.length:=by
    have e:=hq.out;rw[drop_length,gM]at e;split at e
    .simp at e
    .injection e with e;exact e.symm
   have Uc:R=B++L:=by rw[aC.out,drop_length];rfl
   have ac2:=I Uc;have ac1:=I A0;obtain⟨t,i7⟩:∃t,t=L.length:=⟨_,rfl⟩;have fj:t<=1000000000:=by omega
   have fC:=I i7;clear hq aC qU iz A0 Uc i7 Hn;go_wp2_with (at_builtin;refine Ql rfl _ _ rfl w.heap.size i0 ax bB bK bw _ (d+n) t B L fC.out.symm nU.out rfl rfl hown.out (by omega) (by omega) dZ ?_)
   intro v3 a1 hown3 cs;rw[<-ac2.out]at hown3;have bE:=I (hbel.out.grown cs dZ (λq hq=>(hown.out.lt q hq).1));rw[show d+n+t=d+N by rw[ac1.out,fC.out];omega]at hown3;obtain⟨ww,c3,rfl,pR,_⟩:=kU hown3;have lh:=afD hown3;have s1:∀W:ai,(Instr.slice 87 (.slice ww (d+N) c3) (some (.int .i64 d)) none none).run prog W=.ok (.slice (xc ww c3 d) N (c3-d)) W:=λW=>by
    have h:=ae0 ww (d+N) c3 d W (by omega) lh.1;rwa [Nat.add_sub_cancel_left]at h
   have s2:(convert 87 9 (.slice (xc ww c3 d) N (c3-d))).run prog a1=.ok (.string (strOf (R.drop d))) a1:=by
    have h:=o3 a1 (xc ww c3 d) (c3-d) (R.drop d) (jw acD.out d) (afJ pR (by omega));rwa [cC,aiu,Nat.add_sub_cancel_left]at h
   clear hown3 cs pR hown hbel;generalize xc ww c3 d=p4 at *;go_wp2;go_ret;exact⟨rfl,bE⟩
theorem ak7(D L:ae)(A:a7)(c:Nat)(l:List fc)(limit:Int)(lim:Nat)(w:ai)(cR:D.length<=1000000000)(bR:L.length<=1000000000)(hl:l.length<=1000000000)(zk:en limit)(M0:max limit 0=(lim:Int))(hlim:lim<=1000000000)
  (hDlt:∀x∈D,x<256) (nU:∀x∈L,x<256) (cW:xa l) (aj:sj w A l) :
  Calls prog 74 #[.string (strOf D),.string (strOf L),.slice A l.length c,.int .i64 limit] w λe w'=>e=.returned (.tuple #[.string (strOf (iV D L l lim).1),.int .i64 ((iV D L l lim).2:Int)])/\Below w.heap.size w w':=by
 have vQ:=cZ D;have aka:=cZ L;have Hlen:=I (ak1 D.length L.length A c l lim w cR bR hl hlim cW aj);have KF:=I (λN h w aj=>ak8 D L A c l lim N w cR bR hl hlim hDlt nU h aj);have aU:=I aj;have m7:=I (λN=>EK (a:=D.length) (lim:=lim) (N:=N) (l:=l) (n:=0) (L:=L.length));obtain⟨WC,WD⟩:=zk;by_cases am:(gM D.length lim 0 L.length l).2=0
 .have h1:=YW am;have hA:iV D L l lim=((nC D L l).drop D.length,0):=by rw[iV,aA am]
  rw[hA];have cV:=(m7.out _ h1).2;have iz:=I (KF.out _ h1);rw[am]at Hlen;clear hA h1 am KF m7 hDlt nU cW aj;generalize (gM D.length lim 0 L.length l).1=N at *;have aua:decide ((N:Int) > 2147483647)=false:=aT;have aub:decide ((2147483647:Int)<N)=false:=aT;go_enter func74,ntmps74
  go_wp2_with fail
  refine Hlen.out.mono ?_;rintro e au ⟨rfl,aH⟩;have aK:=I aH;have tI:=I (iz.out au (aU.out.below aH));clear aH iz Hlen;go_wp2_with fail
  refine tI.out.mono ?_;rintro e aB ⟨rfl,aI⟩;have aV:=b9 aK aI;clear aI aK tI;go_wp2;go_ret2;exact⟨rfl,aV⟩
 .have hA:iV D L l lim=([],(gM D.length lim 0 L.length l).2):=by rw[iV,ay am]
  rw[hA];have he:=(Oj (a:=D.length) (lim:=lim) l 0 L.length).resolve_left am;clear hA am KF m7 hDlt nU cW aj;rcases he with he | he
  all_goals
   rw[he]at Hlen ⊢;clear he;go_enter func74,ntmps74
   go_wp2_with fail
   refine Hlen.out.mono ?_;rintro e au ⟨rfl,aH⟩;have aK:=I aH;clear aH Hlen;go_wp2;go_ret2;exact⟨rfl,aK⟩
theorem Ir{w w':ai}{base b n m:Nat}{e:TypeId}{v:Value}{xs:b3}(h:w.ownsRow base e m v n xs)(aD:w.grownBy w' (some b))(ak:b<base):w'.ownsRow base e m v n xs:=
 h.kept aD (by
  cases aE:v.ownBlock with
  | none=>exact .inl rfl
  | some k=>
   refine .inr (λe=>?_);injection e with e
   have:=(h.lt k aE).1;omega)
theorem anx(b:Nat)(T P:ae)(a:Nat)(D:Int)(w:ai)(cp:T.length<=2000)(av:∀z∈T,z<256)(aS:a<=T.length)(cR:en D)(h:jK w b T P) :
  Calls prog 60 #[.pointer (some ⟨b,0,none⟩),.int .i64 a,.int .i64 D] w λe w'=>∃A c,e=.returned (.slice A (mq T D (T.length-a) a P 0).length c)/\l2 w' A (mq T D (T.length-a) a P 0)/\w.grownBy w' (some b):=by
 obtain⟨i0,ax,bB,bK,bw⟩:=info_parts N3;have mM:b<w.heap.size:=h.lt;have Hlen:=I (λw P (h:jK w b T P)=>Qp b T w h.text);have F1:=I (λw P (k:Nat) (hk:k<=1000000) (h:jK w b T P)=>acb b T P (k:Int) w cp av ⟨by omega,by omega⟩ h);have J3:=I (λw P (k:Int) (am:0<=k) (hk:k<=1000000) (h:jK w b T P)=>atw b T P k D w cp av ⟨by omega,by omega⟩ cR h);have CU:=I (λw P (x y:Nat) vU hy (h:jK w b T P)=>ZT b T P x y w cp av vU hy h);have tB:=I (λP (k:Nat) h=>ahH T P k D h);have Ry:=I (λP (k:Nat) h=>ao.find_ok T P k D h);have dw:=I (λk P n=>show mq T D k T.length P n=[] by cases k with
  | zero=>rfl
  | succ k=>rw[mq,aA bh])
 have my:=I (λP a h=>Iv T P a h);obtain⟨R,cS⟩:∃R,R=mq T D (T.length-a) a P 0:=⟨_,rfl⟩;rw[<-cS];have dO:=I cS;have H:=I h;have jo:=I (λ(w:ai) P (h:jK w b T P)=>show ao.Places T P from by obtain⟨C,L,A,_,_,_,aJ⟩:=h;exact aJ);obtain⟨L1,L2⟩:=cR;clear cS h av;go_enter func60,ntmps60
 go_wp2;go_loopw [1,7,8] (λjh vW v6 wr=>∃(k a n:Nat) (Q:ae) (acc:List ao.dC),a<=T.length/\n<=a/\acc.length<=a/\T.length-a<=k/\jh=.int .i64 a/\v6=.int .i64 n/\Hid (R=acc++mq T D k a Q n)/\Hid (wr.ownsRow w.heap.size 118 3 vW acc.length (gP acc))/\Hid (jK wr b T Q)/\Hid (w.grownBy wr (some b))) (λjh _ _ _=>T.length-(intOf jh).toNat)
 case atStart=>exact⟨T.length-a,a,0,P,[],aS,by omega,by simp,Nat.le_refl _,rfl,rfl,I (by rw[dO.out];rfl),I (World.ownsRow_nil _ _ _ _),H,I (dl _ _)⟩
 case round=>
  obtain⟨k,p,n,Q,acc,aw,az,hacc,hk,rfl,rfl,hq,hown,aL,aD⟩:=hrel;clear dO H aS;have e1:=I (Hlen.out wr Q aL);by_cases Ei:p<T.length
  .obtain⟨k',rfl⟩:∃k',k=k'+1:=⟨k-1,by omega⟩;have eG:=hq.out;rw[ard,ay (by omega)]at eG;have iR:=I eG;have d0:decide ((p:Int)<(T.length:Int))=true:=cl;have F5:=I (jo.out wr Q aL);have J1:=I (J3.out wr Q (p:Int) (by omega) (by omega) aL.out);have lL:=tB.out Q p F5.out;have FT:=I (Ry.out Q p F5);have c8:=I (λw h=>F1.out w Q p (by omega) h);have J2:=I (λw h=>J3.out w (lR T Q (p:Int)) ((p:Int)+1) (by omega) (by omega) h);have xw:=tB.out (lR T Q (p:Int)) (p+1) (my.out Q p F5);rw[Int.natCast_add]at xw;have V3:=xw.2;have ajl:=lL.1;have ajk:=lL.2;have Kh:=I (λw (y:Nat) h1 af h=>CU.out w (lR T Q (p:Int)) (p+1) y h1 af h);clear hq eG lL xw dw Hlen F1 J3 CU tB Ry my F5 jo;rw[show((p:Int)+((1:Nat):Int))=(p:Int)+1 from rfl]at V3;generalize lR T Q (p:Int)=Q1 at *;generalize (ha T Q1 ((p:Int)+1) D)=dc at *;generalize (ha T Q (p:Int) D)=r at *;obtain⟨o,m⟩:=r;obtain⟨qD,m2⟩:=dc;simp only at iR J1 FT J2 V3 ajl ajk;have rk:=aL;have hown0:=hown;have hW:=aD;clear aL hown aD;go_wp2_with fail
   refine e1.out.mono ?_;rintro e w0 ⟨rfl,rfl⟩;go_wp2_with fail
   refine J1.out.mono ?_;rintro e au ⟨rfl,aH⟩;have qc:=I (rk.out.keep (aH.block b rk.out.lt));have cv:=I (LR hW.out aH);have F3:=I (Ir hown0.out (dr aH _) mM);clear aH rk hown0 hW J1 e1;go_wp2_with fail
   refine(c8.out _ qc).mono ?_;rintro e aB ⟨rfl,vE,bl⟩;have qd:=I vE;have cN:=I (He cv.out bl);have mv:=I (Ir F3.out bl mM);clear vE bl qc cv F3 c8;go_wp2_with fail
   refine(J2.out _ qd).mono ?_;rintro e a1 ⟨rfl,bz⟩;have CC:=I (qd.out.keep (bz.block b qd.out.lt));have jf:=I (LR cN.out bz);have mw:=I (Ir mv.out (dr bz _) mM);clear bz qd mv cN J2;by_cases ip:m=0\/m<m2
   .rw[aA ip]at iR;have q0:=I iR;clear FT Kh;by_cases ajQ:m=0
    .subst ajQ;go_wp2;go_roundw
     case rel=>exact⟨k',p+1,n+1,Q1,acc,by omega,by omega,by omega,by omega,by go_num,by go_num,iR,mw,CC,jf⟩
     case measure=>simp[intOf];omega
    .have d1:((m:Int) == 0)=false:=by simp;omega
     have d2:decide ((m2:Int) > (m:Int))=true:=cl;have d3:decide ((m:Int)<m2)=true:=cl;go_wp2;go_roundw
     case rel=>exact⟨k',p+1,n+1,Q1,acc,by omega,by omega,by omega,by omega,by go_num,by go_num,iR,mw,CC,jf⟩
     case measure=>simp[intOf];omega
   .rw[ay ip]at iR;have d1:((m:Int) == 0)=false:=by simp;omega
    have d2:decide ((m2:Int) > (m:Int))=false:=aT;have d3:decide ((m:Int)<m2)=false:=aT;obtain⟨aq,ajT,WR,j5,_⟩:=FT.out (by omega);clear FT;obtain⟨YP,MY⟩:∃YP,YP=acc.length:=⟨_,rfl⟩;rw[<-MY]at mw hacc;have RL:=I MY;have dZ:=jf.out.size;clear MY;go_wp2_with (at_builtin;refine wpList_append_own _ rfl _ _ 68 rfl w.heap.size 118 i0 (.agg #[.int .i64 0,.int .i64 0,.int .i64 0]) 3 24 underlying68 ax bB bK bw rfl (by decide) _ _ _ rfl (mw.out.alloc _) ⟨a1.heap.size,0,none⟩ 1 1 [.int .i64 n,.int .i64 m,.int .i64 o] rfl rfl ?d1 ?d2 ?d3 ?d4 ?d5 ?_)
    case d1=>
     intro j u ar;match j,ar with
     | 0,ar=>simp at ar;subst ar;simp[Addr.add]
     | 1,ar=>simp at ar;subst ar;simp[Addr.add]
     | 2,ar=>simp at ar;subst ar;simp[Addr.add]
    case d2=>
     intro u hu;simp at hu;rcases hu with rfl | rfl | rfl<;>rfl
    case d3=>unfold maxLen;omega
    case d4=>omega
    case d5=>simp;omega
    intro gZ dt di dn _;have nn:=(Below.refl a1.heap.size a1).alloc bh (.cells #[.int .i64 n,.int .i64 m,.int .i64 o] 118);have ua:w.grownBy (a1.alloc (.cells #[.int .i64 n,.int .i64 m,.int .i64 o] 118)) (some b):=LR jf.out nn;have MG:jK (a1.alloc (.cells #[.int .i64 n,.int .i64 m,.int .i64 o] 118)) b T Q1:=CC.out.keep (nn.block b CC.out.lt);have aX:∀j,j<w.heap.size->some j≠_:=λj ar e=>by have:=(mw.out.lt j e.symm).1;omega
    have Rx:=I (MG.keep (dn.block b MG.lt (aX b mM)));have wI:Hid (w.grownBy dt (some b)):=I ⟨dn.os.trans ua.os,dn.tape.trans ua.tape,dn.output.trans ua.output,du ua.size dn.size,λj ar az=>(dn.block j (gV ar ua.size) (aX j ar)).trans (ua.block j ar az)⟩;have gT:gP acc++[.int .i64 n,.int .i64 m,.int .i64 o]=gP (acc++[(n,m,o)]):=by rw[aa0];rfl
    rw[gT]at di;have jq:Hid (dt.ownsRow w.heap.size 118 3 gZ (acc++[(n,m,o)]).length (gP (acc++[(n,m,o)]))):=I (by rw[aY,<-RL.out];exact di);have Kq:Hid (R=(acc++[(n,m,o)])++mq T D k' (p+m) (n3 T Q1 (p+1) (m-1)) 0):=I (by rw[dj];exact iR);have Kf:=I (Kh.out dt (p+m) (by omega) (by omega) Rx.out);rw[show p+m-(p+1)=m-1 by omega,Int.natCast_add,Int.natCast_add]at Kf;have sH:(acc++[(n,m,o)]).length<=p+m:=by rw[aY,<-RL.out];simp;omega
    clear nn ua MG aX gT di dn mw CC jf iR Kh Rx;go_wp2_with fail
    refine Kf.out.mono ?_;rintro e oQ ⟨rfl,Bj,Bl⟩;have FR:=I Bj;have ada:=I (He wI.out Bl);have adD:=I (Ir jq.out Bl mM);clear Bj Bl wI jq Kf;go_wp2;go_roundw
    case rel=>exact⟨k',p+m,0,_,_,by omega,by omega,sH,by omega,by go_num,rfl,Kq,adD,FR,ada⟩
    case measure=>simp[intOf];omega
  .obtain rfl:p=T.length:=by omega
   have d0:decide ((T.length:Int)<(T.length:Int))=false:=aT;have eS:=I (show R=acc by rw[hq.out,dw.out,append_nil]);obtain⟨A,c,aE,aj,hc⟩:=abe hown.out;subst aE;have aU:=I aj;clear aj hown hq;go_wp2_with fail
   refine e1.out.mono ?_;rintro e w0 ⟨rfl,rfl⟩;go_wp2;go_ret;exact⟨A,c,by rw[eS.out];rfl,by rw[eS.out];exact aU,aD⟩
theorem agX(v:Int):mI v<=64:=by
 unfold mI;split
 .omega
 .split
  .omega
  .split<;>omega
theorem anz(D X:ae)(v:Int)(w:ai)(L3:D.length<=1000000000)(DN:X.length<=1000000000)(cR:∀z∈D,z<256)(cK:∀z∈X,z<256)(aE:en v) :
  Calls prog 35 #[.string (strOf D),.string (strOf X),.int .i64 v] w λe w'=>∃A c,e=.returned (.slice A (rI D X v).length c)/\l2 w' A (rI D X v)/\Below w.heap.size w w':=by
 have Cz:=I (anv v aE w);have ai0:=agX v;by_cases am:mI v=0
 .have aU:Hid (rI D X v=[]):=I (by rw[rI,aA am]);rw[am]at Cz;clear cR cK L3 DN am ai0;go_enter func35,ntmps35
  go_wp2_with fail
  refine Cz.out.mono ?_;rintro e au ⟨rfl,aH⟩;have aK:=I aH;clear aH Cz;go_wp2;go_ret;exact⟨none,0,by rw[aU.out];rfl,by rw[aU.out];exact l2.nil _ _,aK⟩
 .obtain⟨R,cS⟩:∃R,R=rI D X v:=⟨_,rfl⟩;rw[<-cS];have avs:((mI v:Int) == 0)=false:=by simp;omega
  obtain⟨fN,yU⟩:∃fN,fN=D.drop (D.length-600):=⟨_,rfl⟩;obtain⟨dJ,DM⟩:∃dJ,dJ=X.take 600:=⟨_,rfl⟩;have auI:fN.length<=600:=by rw[yU,cC];omega
  have au9:dJ.length<=600:=by rw[DM,cq];omega
  have auJ:=cZ D;have ava:=cZ X;have auK:=cZ fN;have m1:max ((D.length:Int)-600) 0=((D.length-600:Nat):Int):=by omega
  have m2:min (X.length:Int) 600=((min X.length 600:Nat):Int):=by omega
  have c1:∀W:ai,(Instr.slice 9 (.string (strOf D)) (some (.int .i64 ((D.length-600:Nat):Int))) none none).run prog W=.ok (.string (strOf fN)) W:=λW=>by rw[yU];exact pm D _ (by omega) W
  have c2:∀W:ai,(Instr.slice 9 (.string (strOf X)) none (some (.int .i64 ((min X.length 600:Nat):Int))) none).run prog W=.ok (.string (strOf dJ)) W:=λW=>by
   have h:=ti X (min X.length 600) (by omega) W;rwa [show X.take (min X.length 600)=dJ by
     rw[DM];by_cases cg:X.length<=600
     .rw[Nat.min_eq_left cg,take_of_length_le bh,take_of_length_le cg]
     .rw[Nat.min_eq_right (by omega)]]at h
  have hadd:=λW=>B8 fN dJ (by omega) W
  have Bc:(fN++dJ).length<=2000:=by rw[aY];omega
  have sx:∀z∈fN++dJ,z<256:=Di (by rw[yU];exact jw cR _) (by rw[DM];exact p3 cK _);have dO:Hid (R=mq (fN++dJ) (mI v:Int) ((fN++dJ).length-fN.length) fN.length (n3 (fN++dJ) [] 0 fN.length) 0):=I (by
   rw[cS,rI,ay am,<-yU,<-DM,aY,Nat.add_sub_cancel_left])
  have lB:=I (λw=>atD w (fN++dJ) Bc);have CU:Hid (∀w b,jK w b (fN++dJ) []->Calls prog 59 #[.pointer (some ⟨b,0,none⟩),.int .i64 0,.int .i64 (fN.length:Int)] w λe w'=>e=.returned (.tuple #[])/\jK w' b (fN++dJ) (n3 (fN++dJ) [] 0 fN.length)/\w.grownBy w' (some b)):=I (λw b h=>ZT b (fN++dJ) [] 0 fN.length w Bc sx (zero_le _) (by omega) h);have cb:=I (λw b h=>anx b (fN++dJ) (n3 (fN++dJ) [] 0 fN.length) fN.length (mI v:Int) w Bc sx (by rw[aY];omega) ⟨by omega,by omega⟩ h);have QJ:=I (show R.length<=600 from by rw[cS];exact abb D X v);rw[<-dO.out]at cb;clear cR cK yU DM cS dO sx am;obtain⟨b4,iZ⟩:∃b4,b4=D.length-600:=⟨_,rfl⟩;obtain⟨bT,lk⟩:∃bT,bT=min X.length 600:=⟨_,rfl⟩;rw[<-iZ]at m1 c1;rw[<-lk]at m2 c2;clear iZ lk;generalize fN++dJ=T at *;generalize n3 T [] 0 fN.length=atW at *;generalize mI v=G3 at *;generalize strOf D=nB at *;generalize strOf X=rF at *;generalize strOf fN=aw4 at *;generalize strOf dJ=aw5 at *;go_enter func35,ntmps35
  go_wp2_with fail
  refine Cz.out.mono ?_;rintro e au ⟨rfl,aH⟩;have aK:=I aH;clear aH Cz;go_wp2_with fail
  refine(lB.out au).mono ?_;rintro e aB ⟨b,rfl,vE,ak,aI⟩;have qd:=I vE;have aV:=b9 aK aI;have xL:w.heap.size<=b:=du aK.out.size ak;have qY:=I (CU.out aB b vE);clear vE aI aK ak lB CU;go_wp2_with fail
  refine qY.out.mono ?_;rintro e a1 ⟨rfl,V1,cs⟩;have bE:=I (aV.out.trans (below_grown cs xL aV.out.size));have wV:=I (cb.out a1 b V1);clear V1 cs aV qd qY cb;go_wp2_with fail
  refine wV.out.mono ?_;rintro e bA ⟨A,c,rfl,j6,cA⟩;have cx:=I (bE.out.trans (below_grown cA xL bE.out.size));have q1:=I j6;clear j6 cA bE wV;go_wp2;go_ret;exact⟨A,c,rfl,q1,cx⟩
theorem al0{T:ae}{l:List ao.dC}{k:Nat}(hk:k<l.length)(h:k9 0 (l.drop k)<=T.length):l[k].1+l[k].2.1<=T.length/\k9 0 (l.drop (k+1))<=((T.drop l[k].1).drop l[k].2.1).length /\
  ia T 0 (l.drop k)=T.take l[k].1++ia ((T.drop l[k].1).drop l[k].2.1) 0 (l.drop (k+1)):=by
 rw[drop_eq_getElem_cons hk,k9]at h;have h1:=LB (l.drop (k+1)) (0+l[k].1+l[k].2.1);have af:=G7 (l.drop (k+1)) (l[k].1+l[k].2.1) 0;rw[ga]at af;rw[eH]at h h1;refine⟨by omega,by rw[cC,cC];omega,?_⟩;have aq:=Om T (l.drop (k+1)) 0 (l[k].1+l[k].2.1);rw[ga]at aq;rw[drop_eq_getElem_cons hk,ia,eH,drop_zero,drop_drop,aq]
theorem anw(X:ae)(A:a7)(c:Nat)(l:List ao.dC)(w:ai)(cK:X.length<=100000000)(hl:l.length<=100000000)(av:∀z∈X,z<256)(hend:k9 0 l<=X.length)(aj:l2 w A l) :
  Calls prog 38 #[.string (strOf X),.slice A l.length c] w λe w'=>e=.returned (.string (strOf (ia X 0 l)))/\Below w.heap.size w w':=by
 have aU:=I aj;obtain⟨b,ak⟩:∃b,b=w.heap.size:=⟨_,rfl⟩;obtain⟨R,cS⟩:∃R,R=ia X 0 l:=⟨_,rfl⟩;rw[<-cS];have QJ:=I (show ∀z∈R,z<256 from by rw[cS];exact On av l 0);have dO:=I cS;have b5:=I av;have bO:=I ak;have qU:=I (λ(T:ae) (k:Nat) (hk:k<l.length) (h:k9 0 (l.drop k)<=T.length)=>al0 hk h);have fP:=I (λn T w h=>anJ n T w h);have dw:=I hend;clear aj cS av ak hend;go_enter func38,ntmps38
 go_wp2;rw[<-bO.out];have dg:=(Below.refl w.heap.size w).alloc bh (.cells #[.pointer none,.slice none 0 0] 94);have VA:pu (w.alloc (.cells #[.pointer none,.slice none 0 0] 94)) w.heap.size b []:=by rw[bO.out];exact pu.new w _ bh
 have dW:=I dg;have QX:=I VA;clear dg VA;generalize w.alloc (.cells #[.pointer none,.slice none 0 0] 94)=w0 at *;go_loopw [0,11] (λP5 bV wr=>∃(T acc:ae) (k:Nat),k<=l.length/\P5=.string (strOf T)/\bV=.int .i64 k/\T.length<=100000000/\acc.length+T.length<=100000000/\Hid (∀z∈T,z<256)/\Hid (k9 0 (l.drop k)<=T.length)/\Hid (R=acc++ia T 0 (l.drop k))/\Hid (pu wr w.heap.size b acc)/\Hid (Below w.heap.size w wr)) (λ_ bV _=>l.length-(intOf bV).toNat)
 case atStart=>exact⟨X,[],0,zero_le _,rfl,rfl,cK,by simp;omega,b5,dw,I (by rw[dO.out];rfl),QX,dW⟩
 case round=>
  obtain⟨T,acc,k,hk,rfl,rfl,cp,hacc,fj,mO,hq,np,hbel⟩:=hrel;clear dO b5 dw dW QX;have dZ:=hbel.out.size;by_cases bb:k<l.length
  .obtain⟨g,off,rfl,aD,hc⟩:=(aU.out.below hbel.out) (by omega);obtain⟨c0,c1,c2⟩:=hc k bb;obtain⟨aF,e2,e3⟩:=qU.out T k bb mO.out;have q0:=hq.out;rw[e3,<-dj]at q0;have wy:=I q0;have lx:=I e2;have m9:=I hc;clear hc e3 q0 hq mO qU e2;have dd:decide ((k:Int)<(l.length:Int))=true:=cl;generalize l[k].1=n at *;generalize l[k].2.1=m at *;generalize l[k].2.2=o at *;have s1:=λW=>ti T n (by omega) W
   have s2:=λW=>pm T n (by omega) W
   have jd:=λW=>pm (T.drop n) m (by rw[cC];omega) W
   have gI:=I (λW=>fP.out n T W (by omega));have kt:=I (λW=>fP.out m (T.drop n) W (by rw[cC];omega));have iH:=length_take_le n T;have aki:=I (p3 fj.out n);have XR:=I (show ∀z∈(T.drop n).drop m,z<256 from jw (jw fj.out n) m);have pK:(T.take n).length=n:=by rw[cq];omega
   have eF:((T.drop n).drop m).length=T.length-n-m:=by rw[cC,cC]
   have wz:=I (np.out.below ((Below.refl wr.heap.size wr).alloc bh (.cells #[.int .i64 n,.int .i64 m,.int .i64 o] 118)));have r4:=I (Row.new wr 118 [.int .i64 n,.int .i64 m,.int .i64 o]);have eZ:=I (hbel.out.trans (((Below.refl wr.heap.size wr).alloc bh (.cells #[.int .i64 n,.int .i64 m,.int .i64 o] 118)).mono dZ));have W8:wr.heap.size≠b:=by have:=np.out.lt.2;omega
   have w5:=I (To w.heap.size b acc (T.take n) _ (by omega) aki.out eZ.out.size wz.out);clear np hbel fj aD;generalize T.take n=aex at *;generalize (T.drop n).drop m=aez at *;generalize T.drop n=aey at *;go_wp2_with fail
   refine(gI.out _).mono ?_;rintro e au ⟨rfl,rfl⟩;go_wp2_with fail
   refine w5.out.mono ?_;rintro e aB ⟨rfl,DU,aI,fy⟩;have hrow2:=apS r4.out (by decide) W8 fy;have bf:=hrow2.cell 1;simp only[dU,dR]at bf;have acQ:=I DU;have aV:=I (eZ.out.trans aI);clear hrow2 DU aI fy r4 eZ wz w5 gI s1 c0 c1 c2;go_wp2_with fail
   refine(kt.out _).mono ?_;rintro e a1 ⟨rfl,rfl⟩;go_wp2;go_roundw
   case rel=>exact⟨aez,acc++aex,k+1,by omega,rfl,by go_num,by omega,by rw[aY];omega,XR,lx,wy,acQ,aV⟩
   case measure=>simp[intOf];omega
  .obtain rfl:k=l.length:=by omega
   have dd:decide ((l.length:Int)<(l.length:Int))=false:=aT;have e:acc++T=R:=by rw[hq.out,drop_length];rfl
   have w5:=I (To w.heap.size b acc T wr (by omega) fj.out dZ np.out);rw[e]at w5;have cb:=I (λw' h1 h=>afP w.heap.size b R w' QJ.out h1 h);clear hq fj mO np e;go_wp2_with fail
   refine w5.out.mono ?_;rintro e aB ⟨rfl,DU,aI,_⟩;have aV:=I (hbel.out.trans aI);have hS:=I (cb.out aB aV.out.size DU);clear DU aI cb w5 hbel;go_wp2_with fail
   refine hS.out.mono ?_;rintro e a1 ⟨rfl,bz⟩;have bE:=I (aV.out.trans bz);clear bz aV hS;go_wp2;go_ret;exact⟨rfl,bE⟩
def aet:Prop:=∀(w:ai) (D X:ae) (v:Int),D.length<=1000000000->X.length<=1000000000->(∀z∈D,z<256)->(∀z∈X,z<256)->en v->Calls prog 35 #[.string (strOf D),.string (strOf X),.int .i64 v] w λe w'=>
 ∃A c l,e=.returned (.slice A l.length c)/\l2 w' A l/\l.length<=600/\pB (D.drop (D.length-600)++X.take 600) (D.drop (D.length-600)).length l/\(v<=0->l=[])/\Below w.heap.size w w'
def aes:Prop:=∀(w:ai) (X:ae) (A:a7) (c:Nat) (l:List ao.dC),X.length<=100000000->l.length<=100000000->(∀z∈X,z<256)->k9 0 l<=X.length->l2 w A l->Calls prog 38 #[.string (strOf X),.slice A l.length c] w λe w'=>e=.returned (.string (strOf (ia X 0 l)))/\Below w.heap.size w w'
theorem aoa:aet:=λw D X v cR cK L3 DN aE=>(anz D X v w cR cK L3 DN aE).mono λ_ _ ⟨A,c,he,aj,ak⟩=>
 ⟨A,c,_,he,aj,abb D X v,arc D X v,arb D X v,ak⟩
theorem anR:aes:=λw X A c l cK hl av he aj=>anw X A c l w cK hl av he aj
theorem ak6(D j0:ae)(A:a7)(c:Nat)(l:List fc)(limit:Int)(lim:Nat)(w:ai)(cR:D.length<=1000000)(bR:j0.length<=1000000)(hl:l.length<=1000000)(zk:en limit)(M0:(limit<0/\lim=0)\/limit=(lim:Int))(hlim:lim<=1000000)
  (cW:xa l) (aj:sj w A l) :
  Calls prog 49 #[.string (strOf D),.string (strOf j0),.slice A l.length c,.int .i64 limit] w λe w'=>e=.returned (.tuple #[.string (strOf (iV D j0 l lim).1),.int .i64 ((iV D j0 l lim).2:Int)])/\Below w.heap.size w w':=by
 have vQ:=cZ D;have aU:=I aj;have iQ:=I cW;obtain⟨d,aG⟩:∃d,d=D.length:=⟨_,rfl⟩;obtain⟨N,E,xo⟩:∃N E,gM d lim 0 j0.length l=(N,E):=⟨_,_,rfl⟩;obtain⟨R,cS⟩:∃R,R=nC D j0 l:=⟨_,rfl⟩;obtain⟨X,cK⟩:∃X,X=iV D j0 l lim:=⟨_,rfl⟩;have Vo:E=0->X=(R.drop d,0):=λh=>by rw[cK,iV,<-aG,xo,aA h,cS]
 have yZ:E≠0->X=([],E):=λh=>by rw[cK,iV,<-aG,xo,ay h]
 rw[<-cK];have yi:=I Vo;have rQ:=I yZ;have Ck:=I xo;have dO:=I cS;have dS:=I aG;rw[<-aG]at vQ cR;have qU:=I (λn L k (hk:k<l.length) (h:gM d lim n L (l.drop k)=(N,E))=>(Ok hk).symm.trans h);have iz:=I (λA L k (hk:k<l.length)=>congrArg (nC A L) (drop_eq_getElem_cons hk));have qP:=I (λ(a b:ae) (h:a.length+b.length<=1000000000) W=>B8 a b h W);obtain⟨WC,WD⟩:=zk;clear aj cW xo cS cK Vo yZ aG;go_enter func49,ntmps49
 go_upto_if 17 with fail
 go_cut [3]from 18 to 18 (λjd eY=>eY=w/\jd=.int .i64 lim)
 case first=>
  rcases M0 with⟨az,rfl⟩ | rfl
  .have d0:decide (limit<0)=true:=bG az;go_wp2;go_meet
   exact⟨rfl,rfl⟩
  .have d0:decide ((lim:Int)<0)=false:=aT;go_wp2;go_meet
   exact⟨rfl,rfl⟩
 case rest=>
 obtain⟨NN,rfl⟩:=hcut;have aku:=NN.symm;subst aku;clear M0 WC WD;go_wp2_with fail
 go_loopw [1,10,11] (λDb v7 bV wr=>∃(L O:ae) (k:Nat),k<=l.length/\L.length<=1000000/\O.length<=lim/\Db=.string (strOf L)/\v7=.string (strOf O)/\bV=.int .i64 k/\Hid (gM d lim O.length L.length (l.drop k)=(N,E))/\Hid (R=nC (D++O) L (l.drop k))/\Hid (Below w.heap.size w wr)) (λ_ _ bV _=>l.length-(intOf bV).toNat)
 case atStart=>exact⟨j0,[],0,zero_le _,bR,zero_le _,rfl,rfl,rfl,Ck,by rw[append_nil];exact dO,I dQ⟩
 case round=>
  obtain⟨L,O,k,hk,Hn,auW,rfl,rfl,rfl,hq,aC,hbel⟩:=hrel;clear dO Ck;have BB:=cZ O;have aka:=cZ L;by_cases bb:k<l.length
  .obtain⟨g,off,rfl,aD,hc⟩:=(aU.out.below hbel.out) (by omega);obtain⟨c0,c1,c2⟩:=hc k bb;have eG:=qU.out O.length L.length k bb hq.out;have i7:=aC.out.trans (iz.out (D++O) L k bb);obtain⟨⟨x0,je⟩,⟨m0,m1⟩,un,uo⟩:=iQ.out l[k] (b7 bb);have dd:decide ((k:Int)<(l.length:Int))=true:=cl;obtain⟨x,m,o,ap⟩:∃x m o,l[k]=(x,m,o):=⟨_,_,_,rfl⟩;rw[ap]at eG c0 c1 c2 x0 je m0 m1 un uo i7;simp only at c0 c1 c2 x0 je m0 m1 un uo;rw[EJ]at eG;rw[Fo]at i7;have nn:=(Below.refl wr.heap.size wr).alloc bh (.cells #[.int .i64 x,.int .i64 m,.int .i64 o] 118);have eZ:=b9 hbel nn;have fC:=I i7;clear hc hq aC i7 ap qU iz nn hbel aD;by_cases h1:x<0\/(L.length:Int)<x
   .rw[aA h1]at eG;injection eG with aF e2
    have b2:=I (rQ.out (by omega));rw[<-e2]at b2;clear aF e2 yi rQ;by_cases af:x<0
    .have d1:decide (x<0)=true:=bG af;go_wp2;go_ret2;rw[b2.out];exact⟨rfl,eZ⟩
    .have d1:decide (x<0)=false:=bF af;have d2:decide (x > (L.length:Int))=true:=cl;have d3:decide ((L.length:Int)<x)=true:=cl;go_wp2;go_ret2;rw[b2.out];exact⟨rfl,eZ⟩
   .rw[ay h1]at eG;have d1:decide (x<0)=false:=aT;have d2:decide (x > (L.length:Int))=false:=aT;have d3:decide ((L.length:Int)<x)=false:=aT;obtain⟨x,rfl⟩:=Int.eq_ofNat_of_zero_le (by omega:0<=x);rw[cY]at eG fC;clear x0 je;have kF:(L.take x).length=x:=by rw[cq];omega
    have s1:=λW=>ti L x (by omega) W
    have s2:=λW=>pm L x (by omega) W
    have jd:=λW=>qP.out O (L.take x) (by rw[kF];omega) W
    have Nx:(strOf (O++L.take x)).size=O.length+x:=by rw[cZ,aY,kF]
    obtain⟨n,lk⟩:∃n,n=O.length+x:=⟨_,rfl⟩;rw[show d+O.length+x=d+n by omega,<-lk]at eG;rw[<-lk]at Nx;have M6:n<=2000000:=by omega
    obtain⟨P,cJ⟩:∃P,P=L.take x:=⟨_,rfl⟩;obtain⟨Q,j2⟩:∃Q,Q=L.drop x:=⟨_,rfl⟩;have U3:Q.length=L.length-x:=by rw[j2,cC]
    rw[<-U3]at eG;rw[<-cJ]at s1 jd Nx fC;rw[<-j2]at s2 fC;obtain⟨B,bu⟩:∃B,B=O++P:=⟨_,rfl⟩;rw[<-bu]at jd Nx;rw[dj,<-bu]at fC;have aif:B.length=n:=by rw[bu,aY,cJ,kF,lk]
    clear bu cJ j2 kF lk;by_cases af:lim<n
    .rw[aA af]at eG;injection eG with aF e2
     have b2:=I (rQ.out (by omega));rw[<-e2]at b2;clear aF e2 yi rQ;have d4:decide ((n:Int) > (lim:Int))=true:=cl;have d5:decide ((lim:Int)<n)=true:=cl;go_wp2;go_ret2;rw[b2.out];exact⟨rfl,eZ⟩
    .rw[ay af]at eG;have d4:decide ((n:Int) > (lim:Int))=false:=aT;have d5:decide ((lim:Int)<n)=false:=aT;by_cases aq:m<3\/o<1\/((d+n:Nat):Int)<o
     .rw[aA aq]at eG;injection eG with aF e2
      have b2:=I (rQ.out (by omega));rw[<-e2]at b2;clear aF e2 yi rQ;by_cases aJ:m<3
      .have d6:decide (m<3)=true:=bG aJ;go_wp2;go_ret2;rw[b2.out];exact⟨rfl,eZ⟩
      .have d6:decide (m<3)=false:=bF aJ;by_cases aR:o<1
       .have d7:decide (o<1)=true:=bG aR;go_wp2;go_ret2;rw[b2.out];exact⟨rfl,eZ⟩
       .have d7:decide (o<1)=false:=bF aR;have d8:decide (o > (d:Int)+n)=true:=cl;have d9:decide ((d:Int)+n<o)=true:=cl;go_wp2;go_ret2;rw[b2.out];exact⟨rfl,eZ⟩
     .rw[ay aq]at eG;have d6:decide (m<3)=false:=aT;have d7:decide (o<1)=false:=aT;have d8:decide (o > (d:Int)+n)=false:=aT;have d9:decide ((d:Int)+n<o)=false:=aT;obtain⟨m,rfl⟩:=Int.eq_ofNat_of_zero_le (by omega:0<=m);obtain⟨o,rfl⟩:=Int.eq_ofNat_of_zero_le (by omega:0<=o);rw[cY]at eG fC;rw[cY]at fC;have ajT:1<=o:=by omega
      have av7:o<=d+n:=by omega
      have q0:=I eG;obtain⟨C,j1⟩:∃C,C=nP o m (D++B):=⟨_,rfl⟩;rw[<-j1]at fC;have kc:=I j1;have hrow:=Row.new wr 118 [.int .i64 x,.int .i64 m,.int .i64 o];obtain⟨b,ak⟩:∃b,b=wr.heap.size:=⟨_,rfl⟩;go_wp2_with fail
      rw[<-ak]at hrow ⊢;have da:=I hrow;have ait:Q.length<=1000000:=by omega
      clear hrow ak eG j1 aq s1 s2 jd U3;generalize wr.alloc (.cells #[.int .i64 x,.int .i64 m,.int .i64 o] 118)=dv at *;go_loopw [10,13] (λv7 hM pr=>∃(aP:ae) (j:Nat),j<=m/\aP.length=n+j/\n+j<=lim/\v7=.string (strOf aP)/\hM=.int .i64 j/\Hid (C=nP o (m-j) (D++aP))/\Hid (∃z,pr=dv.drewN z)) (λ_ hM _=>m-(intOf hM).toNat)
      case atStart=>exact⟨B,0,zero_le _,aif,by omega,rfl,rfl,by rw[Nat.sub_zero];exact kc,I ⟨0,rfl⟩⟩
      case round=>
       obtain⟨aP,j,ar,ki,av5,rfl,rfl,l7,aO⟩:=hrel;obtain⟨z,rfl⟩:=aO.out;clear kc aO;have bf:=da.out.cell 1;have bM:=da.out.cell 2;simp only[dU,dR]at bf bM;by_cases vI:j<m
       .have o4:decide ((j:Int)<m)=true:=cl;have cp:(D++aP).length=d+n+j:=by rw[aY,<-dS.out,ki,jb]
        have db:C=nP o (m-(j+1)) (D++(aP++[(D++aP).getD (d+n+j-o) 0])):=by rw[l7.out,show m-j=(m-(j+1))+1 by omega,nP,cp,dj]
        obtain⟨y,hy⟩:∃y,y=d+n+j-o:=⟨_,rfl⟩;obtain⟨t,aC⟩:∃t,t=d+n+j:=⟨_,rfl⟩;have Up:(t:Int)-o=y:=by omega
        have awr:t<=3000000:=by omega
        have awJ:y<t:=by omega
        have s1:=λW=>qP.out D aP (by rw[<-dS.out,ki];omega) W
        have awj:(strOf (D++aP)).size=t:=by rw[cZ,cp,aC]
        have s2:∀W:ai,(Instr.slice 9 (.string (strOf (D++aP))) (some (.int .i64 y)) (some (.int .i64 ((y:Int)+1))) none).run prog W=.ok (.string (strOf [(D++aP).getD y 0])) W:=λW=>by
         have h:=abl (D++aP) y (y+1) (by omega) (by omega) W;rw[Int.natCast_add,gb (by omega:y<(D++aP).length),drop_left' (by rw[cq];omega),<-ao.getD_at (by omega:y<(D++aP).length)]at h;exact h
        rw[<-hy]at db;generalize (D++aP).getD y 0=v at *;have jd:=λW=>qP.out aP [v] (by rw[ki,length_singleton];omega) W
        have Vh:(aP++[v]).length=n+j+1:=by rw[aY,ki,length_singleton]
        have awk:(strOf (aP++[v])).size=n+j+1:=by rw[cZ,Vh]
        have gp:=I db;generalize strOf (D++aP)=rE at *;clear db l7 cp hy aC;by_cases cg:lim<n+j+1
        .have eG:=q0.out;rw[aA (by omega)]at eG;injection eG with aF e2
         have b2:=I (rQ.out (by omega));rw[<-e2]at b2;clear aF e2 yi rQ;have f1:decide ((n:Int)+j+1 > (lim:Int))=true:=cl;have f2:decide ((lim:Int)<n+(j:Int)+1)=true:=cl;have aV:=I (below_drewN eZ.out z);go_wp2;go_ret2;rw[b2.out];exact⟨rfl,aV⟩
        .have f1:decide ((n:Int)+j+1 > (lim:Int))=false:=aT;have f2:decide ((lim:Int)<n+(j:Int)+1)=false:=aT;go_wp2;go_roundw
         case rel=>exact⟨aP++[v],j+1,by omega,Vh,by omega,rfl,by go_num,gp,I ⟨_,rfl⟩⟩
         case measure=>simp[intOf];omega
       .obtain rfl:j=m:=by omega
        have o4:decide ((j:Int)<j)=false:=aT;have eG:=q0.out;rw[ay (by omega),<-ki]at eG;have Kq:=I eG;have mJ:C=D++aP:=by rw[l7.out,Nat.sub_self];rfl
        rw[mJ]at fC;have aV:=I (below_drewN eZ.out z);clear eG q0 l7 mJ;go_wp2;go_roundw
        case rel=>exact⟨Q,aP,k+1,by omega,ait,by omega,rfl,rfl,by go_num,Kq,fC,aV⟩
        case measure=>simp[intOf];omega
  .obtain rfl:k=l.length:=by omega
   have dd:decide ((l.length:Int)<(l.length:Int))=false:=aT;have e:=hq.out;rw[drop_length,gM]at e;have A2:R=D++O++L:=by rw[aC.out,drop_length,nC]
   have s1:=λW=>qP.out O L (by omega) W
   have gT:(strOf (O++L)).size=O.length+L.length:=by rw[cZ,aY]
   by_cases h1:lim<O.length+L.length
   .rw[aA h1]at e;injection e with aF e2
    have b2:=I (rQ.out (by omega));rw[<-e2]at b2;have d4:decide ((O.length:Int)+(L.length:Int) > (lim:Int))=true:=cl;have d5:decide ((lim:Int)<(O.length:Int)+(L.length:Int))=true:=cl;clear aF e2 yi rQ A2 hq aC;go_wp2;go_ret2;rw[b2.out];exact⟨rfl,hbel⟩
   .rw[ay h1]at e;injection e with aF e2
    have ah:=yi.out e2.symm;rw[A2,dS.out,dj,drop_left]at ah;have b2:=I ah;have d4:decide ((O.length:Int)+(L.length:Int) > (lim:Int))=false:=aT;have d5:decide ((lim:Int)<(O.length:Int)+(L.length:Int))=false:=aT;clear aF e2 yi rQ A2 hq aC ah;go_wp2;go_ret2;rw[b2.out];exact⟨rfl,hbel⟩
end Go.Proofs.YtgiicohbigiapaaGreat
