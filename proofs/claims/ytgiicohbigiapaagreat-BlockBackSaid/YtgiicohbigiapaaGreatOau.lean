/- Contracts. -/
import Derived.Test.YtgiicohbigiapaaGreatOat
import Derived.Test.YtgiicohbigiapaaGreatOz1
import Derived.Test.YtgiicohbigiapaaGreatOz0
set_option maxHeartbeats 4000000
set_option maxRecDepth 100000
open Go.Proofs.Tryz Go.Proofs.YtgiicohbigiapaaGreat.am List Nat Option
namespace Go.Proofs.YtgiicohbigiapaaGreat
open Go.RowKit
theorem ani(T P:ae)(n:Nat)(h:n+3<=T.length):yT T P (n:Int)=!decide (n∈P):=by
 have aj:vr T (n:Int)=true:=bE ⟨by omega,by omega⟩;rw[yT,aj,Bool.true_and];by_cases aA:n∈P
 .rw[bE aA,List.any_eq_true.2 ⟨n,aA,bE rfl⟩]
 .rw[bG aA,List.any_eq_false.2 (λp ax=>by
   simp only[decide_eq_true_eq];intro e;have e2:p=n:=by omega
   subst e2;exact aA ax)]
theorem aaj(b:Nat)(T P:ae)(a:Int)(w:ah)(cq:T.length<=2000)(au:∀x∈T,x<256)(aV:ec a)(h:jv w b T P) :
  Calls prog 93 #[.pointer (some ⟨b,0,none⟩),.int .i64 a] w λe w'=>e=.returned (.bool (yT T P a))/\jv w' b T (ly T P a)/\w.grownBy w' (some b):=by
 have sV:=I (aai (some ⟨b,0,none⟩) T.length a w (by omega) (Ps b T w h.text));obtain⟨r,aj⟩:∃r,r=yT T P a:=⟨_,rfl⟩;have ff:Hid (r=false->jv w b T (ly T P a)):=I (λaL=>by unfold ly;rw[<-aj,aL,az Bool.false_ne_true];exact h);by_cases kt:0<=a/\a+3<=T.length
 .rw[bE kt]at sV;obtain⟨n,rfl⟩:=Int.eq_ofNat_of_zero_le kt.1;have aA:n+3<=T.length:=by omega
  have eO:=ani T P n aA;obtain⟨C,L,A,hrow,sc,cV,cn⟩:=h;have c1:=(hrow.cell (1+n)).trans (sc.noted n (by omega));by_cases Di:n∈P
  .rw[bE Di]at c1 eO;have tu:r=false:=by rw[aj,eO];rfl
   rw[<-aj,tu];have b4:=I (ff.out tu);clear aj tu kt eO hrow sc cV cn Di au aV;go_enter func93,ntmps93
   go_wp2_with fail
   refine sV.out.mono ?_;rintro e aw ⟨rfl,m,rfl⟩;go_wp2;go_ret;exact⟨rfl,b4.out.keep rfl,qa (dg w _) m⟩
  .rw[bG Di]at c1 eO;have lv:r=true:=by rw[aj,eO];rfl
   have aaO:Hid (ly T P (n:Int)=P++[n]):=I (by unfold ly;rw[<-aj,lv,aB rfl,cX]);obtain⟨c,hc⟩:∃c,c=k8 T n:=⟨_,rfl⟩;have k5:c<2003:=by rw[hc];exact VK T n
   have BD:=I (λm=>aag b n T (w.drewN m) au cq aA ((hrow.cell 0).trans sc.c0));rw[<-hc]at BD;have hok2:=cV.note n Di;rw[<-hc]at hok2;have qg:am.Places T (P++[n]):=λp ax=>by
    rcases List.mem_append.1 ax with ax|ax
    .exact cn p ax
    .rw[List.mem_singleton.1 ax];exact aA
   have kh:=I hok2;have ng:=I qg;have dr:=I hrow;have oA:=I sc;rw[<-aj,lv,aaO.out];clear aj lv kt eO hrow sc cV hok2 cn qg Di au aV hc;go_enter func93,ntmps93
   go_wp2_with fail
   refine sV.out.mono ?_;rintro e aw ⟨rfl,m,rfl⟩;go_wp2_with fail
   refine(BD.out m).mono ?_;rintro e aC ⟨rfl,aJ⟩;have hrow2:Row aC b 147 C:=dr.out.keep (aJ.block b dr.out.lt);have c2:=(hrow2.cell (1+n)).trans (oA.out.noted n (by omega));have f2:=hrow2.free (1+n);have du:=I (show w.grownBy aC (some b)from dj (show av w aC from⟨aJ.os,aJ.tape,aJ.output,aJ.size,aJ.block⟩) _);have hi:=I hrow2;clear aJ hrow2 c1;go_wp2;have hrow3:=hi.out.bq (1+n) (.bool true);have ct:=ho du.out (1+n) (.bool true);have c3:=(hrow3.cell (2001+c)).trans ((ml _ _ _ _ (by omega)).trans (oA.out.last c k5));have d3:=(hrow3.cell (4004+n)).trans ((ml _ _ _ _ (by omega)).trans (oA.out.ahead n (by omega)));have f3:=hrow3.free (4004+n);have kU:=I hrow3;have jJ:=I ct;clear hrow3 ct c2 f2;generalize aC.setCell ⟨b,1+n,none⟩ (.bool true)=a6 at *;go_region
   have hrow4:Row (a6.setCell ⟨b,4004+n,none⟩ (.int .i16 (L c))).drew b 147 ((C.set (1+n) (.bool true)).set (4004+n) (.int .i16 (L c))):=(kU.out.bq (4004+n) (.int .i16 (L c))).keep rfl;have cx:=ns (ho jJ.out (4004+n) (.int .i16 (L c)));have c4:=(hrow4.cell (2001+c)).trans ((ml _ _ _ _ (by omega)).trans ((ml _ _ _ _ (by omega)).trans (oA.out.last c k5)));have f4:=hrow4.free (2001+c);have ug:=I hrow4;have hQ:=I cx;clear hrow4 cx c3 d3 f3;generalize (a6.setCell ⟨b,4004+n,none⟩ (.int .i16 (L c))).drew=bH at *;have fe:Hid (jv (bH.setCell ⟨b,2001+c,none⟩ (.int .i16 ((n+1:Nat):Int))) b T (P++[n])/\w.grownBy (bH.setCell ⟨b,2001+c,none⟩ (.int .i16 ((n+1:Nat):Int))) (some b)):=I
    ⟨⟨_,_,_,ug.out.bq (2001+c) _,oA.out.note n c (by omega) k5,kh.out,ng.out⟩,ho hQ.out _ _⟩
   rw[Int.natCast_add]at fe;go_wp2;go_ret;exact⟨rfl,fe.out.1,fe.out.2⟩
 .rw[bG kt]at sV;have tu:r=false:=by rw[aj,yT,show vr T a=false from bG kt,Bool.false_and]
  rw[<-aj,tu];have b4:=I (ff.out tu);clear aj tu kt h au aV;go_enter func93,ntmps93
  go_wp2_with fail
  refine sV.out.mono ?_;rintro e aw ⟨rfl,m,rfl⟩;go_wp2;go_ret;exact⟨rfl,b4.out.keep rfl,qa (dg w _) m⟩
theorem atQ(b:Nat)(T P:ae)(a depth:Int)(w:ah)(cq:T.length<=2000)(au:∀x∈T,x<256)(aV:ec a)(aI:ec depth)(h:jv w b T P) :
  Calls prog 95 #[.pointer (some ⟨b,0,none⟩),.int .i64 a,.int .i64 depth] w λe w'=>e=.returned (.tuple #[.int .i64 ((gS T P a depth).1:Int),.int .i64 ((gS T P a depth).2:Int)])/\av w w':=by
 have sV:=I (aai (some ⟨b,0,none⟩) T.length a w (by omega) (Ps b T w h.text));obtain⟨jP,n2⟩:=aI;by_cases kt:0<=a/\a+3<=T.length
 .rw[bE kt]at sV;obtain⟨n,rfl⟩:=Int.eq_ofNat_of_zero_le kt.1;have aA:n+3<=T.length:=by omega
  obtain⟨C,L,A,hrow,sc,cV,cn⟩:=h;obtain⟨r,aj⟩:∃r,r=gS T P (n:Int) depth:=⟨_,rfl⟩;have bS:=aj.trans (ahZ T P n depth aA cn);rw[<-aj];obtain⟨c,hc⟩:∃c,c=k8 T n:=⟨_,rfl⟩;have k5:c<2003:=by rw[hc];exact VK T n
  have BD:=I (λW=>aag b n T W au cq aA);rw[<-hc]at bS BD;have px:=cV c k5;have k6:∀p∈oK T P c,p+3<=T.length:=λp ax=>cn p (Ki ax)
  have hz:=agy T P c;have ng:=I k6;have BP:=I px;have bj:=I bS;have dr:=I hrow;have oA:=I sc;have adS:=I (λW (p:Nat) (ax:p+3<=T.length)=>atZ T (p:Int) (n:Int) W (by omega) au (by constructor<;>omega) (by constructor<;>omega));have bR:L c<=T.length:=W8 px (λp ax=>by have:=k6 p ax;omega);clear aj bS kt hrow sc cV cn au aV px k6 hc;obtain⟨Kg,r0⟩:∃Kg,Kg=oK T P c:=⟨_,rfl⟩;rw[<-r0]at hz ng BP bj;clear r0;go_enter func95,ntmps95
  go_wp2_with fail
  refine sV.out.mono ?_;rintro e aw ⟨rfl,m,rfl⟩;go_wp2;obtain⟨D,cH⟩:∃D,D=min depth 1000:=⟨_,rfl⟩;have K5:-9223372036854775808<=D:=by omega
  have K6:D<=1000:=by omega
  rw[<-cH];rw[<-cH]at bj;clear cH jP n2;have aja:∀W,av w W->W.cell? ⟨b,2001+c,none⟩=some (.int .i16 (L c)):=λW ak=>((dr.out.keep (ak.block b dr.out.lt)).cell _).trans (oA.out.last c k5)
  have hW:Hid (∀W,av w W->W.cell? ⟨b,0,none⟩=some (.string (strOf T))):=I λW ak=>((dr.out.keep (ak.block b dr.out.lt)).cell _).trans oA.out.c0
  have dc:Below w.heap.size w (w.drewN m):=below_drewN dM m;generalize w.drewN m=aw at *;have avH:(0:Int)<=c:=by omega
  have qN:(c:Int)<2003:=by omega
  go_region_held3 (λW=>av w W) (first|with_reducible assumption|exact dc.drew) (first|(go_at_call 127;(with_reducible refine(BD.out _ (hW.out _ (by with_reducible assumption))).mono ?_);rintro e xb ⟨rfl,C1⟩;have ib:av w xb:=Below.trans (by with_reducible assumption) (C1.mono (Below.size (by with_reducible assumption)));clear C1))
  have Mw:Row xb b 147 C:=dr.out.keep (ib.block b dr.out.lt);have EH:=I ib;have Rt:=(Mw.cell 0).trans oA.out.c0;have Fv:Hid (∀i,i<2000->xb.cell? ⟨b,4004+i,none⟩=some (.int .i16 (A i))):=I λi ay=>(Mw.cell _).trans (oA.out.ahead i ay)
  clear Mw aja hW dc;go_wp2;go_loopw [8,9,10,11,12,13] (λvn vm vj Pq _ _ wr=>∃(o l v m:Nat) (q:Int) (ps:ae),vn=.int .i64 o/\vm=.int .i64 l/\vj=.int .i64 q/\Pq=.int .i16 v/\o<=2000/\l<=2000/\-9223372036854775808<=q/\q<=1000/\Hid (rE A v ps)/\Hid (∀p∈ps,p+3<=T.length)/\ps.length<=P.length/\Hid (r=mP T n ps o l q.toNat)/\Hid (wr=xb.drewN m)) (λ_ _ _ Pq _ _ _=>vi A P.length (intOf Pq).toNat)
  case atStart=>exact⟨0,0,L c,0,D,Kg,rfl,rfl,rfl,rfl,by omega,by omega,K5,K6,BP,ng,hz,bj,I rfl⟩
  case round=>
   obtain⟨o,l,v,m,q,ps,rfl,rfl,rfl,rfl,b9,hl,Mq,Dr,px,nz,cn,hres,hw⟩:=hrel;have lw:=hw.out;subst lw;clear hw hz K5 K6 bR;cases ps with
  |nil=>
    obtain rfl:v=0:=px.out;have ai:=hres.out;rw[mP]at ai;have cc:=I ai;clear ai hres px nz cn Fv Rt;go_wp2;go_ret2;rw[cc.out];exact⟨rfl,below_drewN EH.out m⟩
  |cons p ps=>
    obtain⟨aD,hlk2⟩:=px.out;subst aD;by_cases hq:q<=0
    .have ai:=hres.out;rw[show q.toNat=0 by omega,Sx]at ai;have cc:=I ai;clear ai hres px hlk2 nz cn Fv Rt;go_wp2;go_ret2;rw[cc.out];exact⟨rfl,below_drewN EH.out m⟩
    .have Mi:=nz.out p dU;have yA:Hid (∀x∈ps,x+3<=T.length):=I λx ai=>nz.out x (eo _ ai)
     have Mk:ps.length+1<=P.length:=cn;have lS:vi A P.length (p+1)=ps.length+1:=Nq P.length (p+1) (p::ps) px.out Mk;have gZ:vi A P.length (A p)=ps.length:=Nq P.length (A p) ps hlk2 (by omega);have adr:=I Mk;have acU:=I lS;have I8:=I gZ;have zq:=I hlk2;have au0:A p<=T.length:=W8 hlk2 (λx ai=>by have:=yA.out x ai;omega);have VD:Bd T (p:Int) (n:Int)=gL T p n:=by rw[Bd,aB ⟨by omega,by omega,by omega,by omega⟩,cX,cX]
     have iX:=λW=>adS.out W p Mi
     rw[VD]at iX;have vU:=I iX;have awJ:=(Ox T p n).1;have ai:=hres.out;rw[mP,az (by omega:¬q.toNat=0)]at ai;have cc:=I ai;have aup:=Fv.out p (by omega);clear ai hres px hlk2 nz cn VD iX Fv lS gZ Mk;generalize gL T p n=y at *;go_wp2_with fail
     refine(vU.out _).mono ?_;rintro e axO ⟨rfl,m2,rfl⟩;rw[World.drewN_drewN];have qg:ps.length<=P.length:=dl (le_succ _) adr.out;have zs:Hid (vi A P.length (A p)<vi A P.length (p+1)):=I (by rw[acU.out,I8.out];omega);have Vf:q.toNat-1=(q-1).toNat:=by omega
     rw[Vf]at cc;clear Vf;by_cases hy:y<3
     .have rC:=I (show r=mP T n ps o l q.toNat by rw[cc.out,aB hy]);go_wp2;go_roundw
      case rel=>exact⟨o,l,A p,_,q,ps,by go_num,by go_num,by go_num,rfl,by omega,by omega,by omega,by omega,zq,yA,by omega,rC,I rfl⟩
      case measure=>exact zs.out
     .rw[az hy]at cc;by_cases qV:p<n
      .by_cases Dh:l<y
       .have rC:=I (show r=mP T n ps (n-p) y (q-1).toNat by rw[cc.out,aB ⟨qV,.inl Dh⟩]);go_wp2;go_roundw
        case rel=>exact⟨n-p,y,A p,_,q-1,ps,by go_num,by go_num,by go_num,rfl,by omega,by omega,by omega,by omega,zq,yA,by omega,rC,I rfl⟩
        case measure=>exact zs.out
       .by_cases ak5:y=l
        .subst ak5;by_cases eU:n-p<o
         .have rC:=I (show r=mP T n ps (n-p) y (q-1).toNat by rw[cc.out,aB ⟨qV,.inr ⟨rfl,eU⟩⟩]);go_wp2;go_roundw
          case rel=>exact⟨n-p,y,A p,_,q-1,ps,by go_num,by go_num,by go_num,rfl,by omega,by omega,by omega,by omega,zq,yA,by omega,rC,I rfl⟩
          case measure=>exact zs.out
         .have rC:=I (show r=mP T n ps o y (q-1).toNat by rw[cc.out,az (λh=>by omega)]);go_wp2;go_roundw
          case rel=>exact⟨o,y,A p,_,q-1,ps,by go_num,by go_num,by go_num,rfl,by omega,by omega,by omega,by omega,zq,yA,by omega,rC,I rfl⟩
          case measure=>exact zs.out
        .have rC:=I (show r=mP T n ps o l (q-1).toNat by rw[cc.out,az (λh=>by omega)]);go_wp2;go_roundw
         case rel=>exact⟨o,l,A p,_,q-1,ps,by go_num,by go_num,by go_num,rfl,by omega,by omega,by omega,by omega,zq,yA,by omega,rC,I rfl⟩
         case measure=>exact zs.out
      .have rC:=I (show r=mP T n ps o l (q-1).toNat by rw[cc.out,az (λh=>by omega)]);go_wp2;go_roundw
       case rel=>exact⟨o,l,A p,_,q-1,ps,by go_num,by go_num,by go_num,rfl,by omega,by omega,by omega,by omega,zq,yA,by omega,rC,I rfl⟩
       case measure=>exact zs.out
 .rw[bG kt]at sV;have tu:gS T P a depth=(0,0):=by
   have h1:vr T a=false:=bG kt;rw[gS,h1,az Bool.false_ne_true]
  rw[tu];clear tu kt h au aV;go_enter func95,ntmps95
  go_wp2_with fail
  refine sV.out.mono ?_;rintro e aw ⟨rfl,m,rfl⟩;go_wp2;go_ret2;exact⟨rfl,below_drewN dM m⟩
theorem anT(v:Int)(aD:ec v)(w:ah):Calls prog 57 #[.int .i64 v] w λe w'=>e=.returned (.int .i64 (mh v))/\av w w':=by
 obtain⟨DF,awQ⟩:=aD;by_cases ao:v<=0
 .have aj:mh v=0:=by unfold mh;rw[aB ao]
  rw[aj];have d0:decide (v<=0)=true:=bE ao;go_enter func57,ntmps57
  go_wp2;go_ret;exact⟨rfl,Below.refl _ _⟩
 .have d0:decide (v<=0)=false:=bG ao;obtain⟨m,hm,yx⟩:∃m:Int,min v 3=m/\((m=1/\mh v=4)\/(m=2/\mh v=16)\/(m=3/\mh v=64)):=by
   by_cases h1:v=1
   .subst h1;exact⟨1,by omega,.inl ⟨rfl,rfl⟩⟩
   .by_cases af:v=2
    .subst af;exact⟨2,by omega,.inr (.inl ⟨rfl,rfl⟩)⟩
    .exact⟨3,by omega,.inr (.inr ⟨rfl,by unfold mh;rw[az ao,az h1,az af]⟩)⟩
  rcases yx with⟨rfl,aj⟩|⟨rfl,aj⟩|⟨rfl,aj⟩
  all_goals
   rw[aj];clear aj ao;go_enter func57,ntmps57
   go_wp2;go_ret;exact⟨rfl,Below.refl _ _⟩
theorem an6(n:Nat)(T:ae)(w:ah)(aA:n<=T.length):Calls prog 69 #[.int .i64 n,.string (strOf T)] w λe w'=>e=.returned (.int .i64 n)/\w'=w:=by
 have bB:=cy T;have m1:max (n:Int) 0=(n:Int):=by omega
 have m2:min (n:Int) (T.length:Int)=n:=by omega
 go_enter func69,ntmps69
 go_wp2;go_ret;exact⟨rfl,rfl⟩
theorem X2(b:Nat)(T P:ae)(x y:Nat)(w:ah)(cq:T.length<=2000)(au:∀z∈T,z<256)(vh:x<=y)(hy:y<=1000000)(h:jv w b T P) :
  Calls prog 59 #[.pointer (some ⟨b,0,none⟩),.int .i64 x,.int .i64 y] w λe w'=>e=.returned (.tuple #[])/\jv w' b T (nD T P x (y-x))/\w.grownBy w' (some b):=by
 have Je:=I (λw P (k:Nat) (hk:k<=1000000) (h:jv w b T P)=>aaj b T P (k:Int) w cq au ⟨by omega,by omega⟩ h);obtain⟨R,cK⟩:∃R,R=nD T P x (y-x):=⟨_,rfl⟩;rw[<-cK];have fc:=I cK;have H:=I h;clear cK h au cq;go_enter func59,ntmps59
 go_wp2;go_loopw [6] (λbV wr=>∃(k:Nat) (Q:ae),k<=y/\bV=.int .i64 k/\Hid (R=nD T Q k (y-k))/\Hid (jv wr b T Q)/\Hid (w.grownBy wr (some b))) (λbV _=>y-(intOf bV).toNat)
 case atStart=>exact⟨x,P,vh,rfl,fc,H,I (dg _ _)⟩
 case round=>
  obtain⟨k,Q,hk,rfl,hq,aL,aF⟩:=hrel;by_cases awb:k<y
  .have d0:decide ((k:Int)<y)=true:=cf;have b0:=I (Je.out wr Q k (by omega) aL.out);have sY:Hid (R=nD T (ly T Q (k:Int)) (k+1) (y-(k+1))):=I (by rw[hq.out,show y-k=(y-(k+1))+1 by omega,nD]);clear hq aL;go_wp2_with fail
   refine b0.out.mono ?_;rintro e aw ⟨rfl,wB,a1⟩;have tX:=I wB;have dm:=I (F0 aF.out a1);clear wB a1 aF;go_wp2;go_roundw
   case rel=>exact⟨k+1,_,by omega,by go_num,sY,tX,dm⟩
   case measure=>simp[intOf];omega
  .obtain rfl:k=y:=by omega
   have d0:decide ((k:Int)<k)=false:=aU;have e:R=Q:=by rw[hq.out,Nat.sub_self];rfl
   go_wp2;go_end0
   exact⟨rfl,by rw[e];exact aL,aF⟩
theorem alp(d jN:Nat)(A:a7)(c:Nat)(l:List eS)(lim:Nat)(w:ah)(aI:d<=1000000000)(bR:jN<=1000000000)(hl:l.length<=1000000000)(hlim:lim<=1000000000)(cV:wa l)(aj:rL w A l) :
  Calls prog 114 #[.int .i64 d,.int .i64 jN,.slice A l.length c,.int .i64 lim] w λe w'=>e=.returned (.tuple #[.int .i64 ((gC d lim 0 jN l).1:Int),.int .i64 ((gC d lim 0 jN l).2:Int)])/\av w w':=by
 have bj:=I aj;have kh:=I cV;obtain⟨N,E,ww⟩:∃N E,gC d lim 0 jN l=(N,E):=⟨_,_,rfl⟩;rw[ww];have Iq:=I ww;have ub:=I (λn L k (hk:k<l.length) (h:gC d lim n L (l.drop k)=(N,E))=>(Nk hk).symm.trans h);clear aj cV ww;go_enter func114,ntmps114
 go_wp2;go_loopw [1,10,15] (λCi vm iy wr=>∃(L n k:Nat),k<=l.length/\L<=jN/\n<=lim/\Ci=.int .i64 L/\vm=.int .i64 n/\iy=.int .i64 k/\Hid (gC d lim n L (l.drop k)=(N,E))/\Hid (av w wr)) (λ_ _ iy _=>l.length-(intOf iy).toNat)
 case atStart=>exact⟨jN,0,0,zero_le _,Nat.le_refl _,zero_le _,rfl,rfl,rfl,Iq,I dM⟩
 case round=>
  obtain⟨L,n,k,hk,F9,aA,rfl,rfl,rfl,hq,hbel⟩:=hrel;by_cases a8:k<l.length
  .obtain⟨g,off,rfl,aF,hc⟩:=(bj.out.below hbel.out) (by omega);obtain⟨c0,c1,c2⟩:=hc k a8;have ey:=ub.out n L k a8 hq.out;obtain⟨⟨x0,iQ⟩,⟨m0,m1⟩,tG,tH⟩:=kh.out l[k] (b8 a8);have dd:decide ((k:Int)<(l.length:Int))=true:=cf;obtain⟨x,m,o,ap⟩:∃x m o,l[k]=(x,m,o):=⟨_,_,_,rfl⟩;rw[ap]at ey c0 c1 c2 x0 iQ m0 m1 tG tH;simp only at c0 c1 c2 x0 iQ m0 m1 tG tH;rw[DR]at ey;have jy:=(Below.refl wr.heap.size wr).alloc bl (.cells #[.int .i64 x,.int .i64 m,.int .i64 o] 118);have e6:=b3 hbel jy;clear hc hq ap jy hbel;by_cases h1:x<0\/(L:Int)<x
   .rw[aB h1]at ey;injection ey with aG e2
    subst aG e2;by_cases af:x<0
    .have d1:decide (x<0)=true:=bE af;go_wp2;go_ret2;exact⟨rfl,e6⟩
    .have d1:decide (x<0)=false:=bG af;have d2:decide (x > (L:Int))=true:=cf;have d3:decide ((L:Int)<x)=true:=cf;go_wp2;go_ret2;exact⟨rfl,e6⟩
   .rw[az h1]at ey;have d1:decide (x<0)=false:=aU;have d2:decide (x > (L:Int))=false:=aU;have d3:decide ((L:Int)<x)=false:=aU;obtain⟨x,rfl⟩:=Int.eq_ofNat_of_zero_le (by omega:0<=x);rw[cX]at ey;clear x0 iQ;by_cases af:lim<n+x
    .rw[aB af]at ey;injection ey with aG e2
     subst aG e2;have d4:decide ((x:Int) > (lim:Int)-n)=true:=cf;have d5:decide ((lim:Int)-n<x)=true:=cf;go_wp2;go_ret2;exact⟨rfl,e6⟩
    .rw[az af]at ey;have d4:decide ((x:Int) > (lim:Int)-n)=false:=aU;have d5:decide ((lim:Int)-n<x)=false:=aU;by_cases aq:m<3\/o<1\/((d+n+x:Nat):Int)<o
     .rw[aB aq]at ey;injection ey with aG e2
      subst aG e2;by_cases aK:m<3
      .have d6:decide (m<3)=true:=bE aK;go_wp2;go_ret2;exact⟨rfl,e6⟩
      .have d6:decide (m<3)=false:=bG aK;by_cases aT:o<1
       .have d7:decide (o<1)=true:=bE aT;go_wp2;go_ret2;exact⟨rfl,e6⟩
       .have d7:decide (o<1)=false:=bG aT;have d8:decide (o-(d:Int) > (n:Int)+x)=true:=cf;have d9:decide ((n:Int)+x<o-(d:Int))=true:=cf;go_wp2;go_ret2;exact⟨rfl,e6⟩
     .rw[az aq]at ey;have d6:decide (m<3)=false:=aU;have d7:decide (o<1)=false:=aU;have d8:decide (o-(d:Int) > (n:Int)+x)=false:=aU;have d9:decide ((n:Int)+x<o-(d:Int))=false:=aU;obtain⟨m,rfl⟩:=Int.eq_ofNat_of_zero_le (by omega:0<=m);rw[cX]at ey;by_cases aK:lim<n+x+m
      .rw[aB aK]at ey;injection ey with aG e2
       subst aG e2;have f1:decide ((m:Int) > (lim:Int)-((n:Int)+x))=true:=cf;have f2:decide ((lim:Int)-((n:Int)+x)<(m:Int))=true:=cf;go_wp2;go_ret2;exact⟨rfl,e6⟩
      .rw[az aK]at ey;have f1:decide ((m:Int) > (lim:Int)-((n:Int)+x))=false:=aU;have f2:decide ((lim:Int)-((n:Int)+x)<(m:Int))=false:=aU;have sY:=I ey;have Ae:L-x<=jN:=by omega
       clear ey;go_wp2;go_roundw
       case rel=>exact⟨L-x,n+x+m,k+1,by omega,Ae,by omega,by go_num,by go_num,by go_num,sY,e6⟩
       case measure=>simp[intOf];omega
  .obtain rfl:k=l.length:=by omega
   have dd:decide ((l.length:Int)<(l.length:Int))=false:=aU;have e:=hq.out;rw[drop_length,gC]at e;by_cases h1:lim<n+L
   .rw[aB h1]at e;injection e with aG e2
    subst aG e2;have d4:decide ((L:Int) > (lim:Int)-n)=true:=cf;have d5:decide ((lim:Int)-n<L)=true:=cf;go_wp2;go_ret2;exact⟨rfl,hbel⟩
   .rw[az h1]at e;injection e with aG e2
    subst aG e2;have d4:decide ((L:Int) > (lim:Int)-n)=false:=aU;have d5:decide ((lim:Int)-n<L)=false:=aU;go_wp2;go_ret2;exact⟨rfl,hbel⟩
def wh(A:a7)(c q:Nat):a7:=if c=q then A else A.map (·.add q)
theorem afe(A:a7)(L c q:Nat)(W:ah)(h:q<=L)(hc:L<=c):(Instr.slice 87 (.slice A L c) (some (.int .i64 q)) none none).run prog W=.ok (.slice (wh A c q) (L-q) (c-q)) W:=by
 have h1:q<=c:=by omega
 unfold wh;by_cases C6:c=q
 .subst C6;rcases A with _|a
  .go_simp
  .go_simp
 .rcases A with _|a
  .go_simp
  .go_simp
theorem afZ{w:ah}{A:a7}{l:ae}{c q:Nat}(h:Reads w A (aO l))(hc:l.length<=c):Reads w (wh A c q) (aO (l.drop q)):=λaZ=>by
 have ao:q<l.length:=by
  rcases eF q l.length with e|e
  .exact e
  .rw[drop_of_length_le e]at aZ;simp[aO]at aZ
 obtain⟨g,off,e,hcell⟩:=h (by intro e;have:=congrArg List.length e;rw[i7,length_nil]at this;omega);refine⟨g,off+q,?_,λj ar=>?_⟩
 .unfold wh;rw[az (by omega),e];show some _=_;congr 1
  unfold Addr.add;split<;>simp_all
 .rw[i7,cB]at ar;rw[iO,hcell (q+j) (by rw[i7];omega),jq _ _ (by omega),jq _ _ (by rw[cB];omega),getElem_drop]
theorem afT{w:ah}{base n c:Nat}{A:a7}{e:TypeId}{xs:b1}(h:w.ownsRow base e 1 (.slice A n c) n xs):n<=c/\c<=maxLen:=by
 rcases h.2 with⟨aD,ao⟩|⟨eT,cap',eW,aD,ak,hh,h1,af,_⟩
 .injection aD with _ _ e3
  subst ao e3;exact⟨Nat.le_refl _,by unfold maxLen;omega⟩
 .injection aD with _ _ e3
  subst e3;exact⟨h1,af⟩
theorem own_ne{w:ah}{base n m k:Nat}{v:Value}{e:TypeId}{xs:b1}(h:w.ownsRow base e m v n xs)(hk:k<base\/w.heap.size<=k):some k≠v.ownBlock:=λe=>by
 have:=h.lt k e.symm;omega
theorem anM{w:ah}{base n m q:Nat}{v:Value}{e t:TypeId}{xs ag:b1}(h:w.ownsRow base e m v n xs)(aj:Row w q t ag)(aZ:e≠t):some q≠v.ownBlock:=λhe=>by
 rcases h.2 with⟨rfl,_⟩|⟨g,cap,eW,rfl,_,hh,_⟩
 .cases he
 .injection he with he
  subst he;unfold Row at aj;rw[aj]at hh;injection hh with hh
  injection hh with _ af
  exact aZ af.symm
theorem alx(D jN:ae)(A:a7)(c:Nat)(l:List eS)(lim N:Nat)(w:ah)(cH:D.length<=1000000000)(bR:jN.length<=1000000000)(hl:l.length<=1000000000)(hlim:lim<=1000000000)(hDlt:∀x∈D,x<256)(nu:∀x∈jN,x<256)
  (cV:gC D.length lim 0 jN.length l=(N,0))(aj:rL w A l) :
  Calls prog 115 #[.string (strOf D),.string (strOf jN),.slice A l.length c,.int .i64 N] w λe w'=>e=.returned (.string (strOf ((na D jN l).drop D.length)))/\av w w':=by
 obtain⟨i0,ay,bC,bL,bz⟩:=info_parts ob;have vd:=cy D;have Lg:=(DS cV).2;obtain⟨d,aI⟩:∃d,d=D.length:=⟨_,rfl⟩;have bj:=I aj;have kh:=I cV;rw[<-aI]at kh vd cH;obtain⟨R,cK⟩:∃R,R=na D jN l:=⟨_,rfl⟩;have aiP:R.length=d+N:=by rw[cK,O0 cV rfl,aI]
 have aaY:=I (show ∀x∈R,x<256 from by rw[cK];exact O1 l D jN hDlt nu);rw[<-cK,<-aI];have fc:=I cK;have fC:=I aI;have aaG:=I hDlt;have aaL:=I nu;have ub:=I (λn L k (hk:k<l.length) (h:gC d lim n L (l.drop k)=(N,0))=>NN ((Nk hk).symm.trans h));have lK:=I (λA L k (hk:k<l.length)=>congrArg (na A L) (drop_eq_getElem_cons hk));clear aj cV cK aI hDlt nu;go_enter func115,ntmps115
 go_wp2_with (at_make;refine wpList_make_own _ rfl _ _ 87 rfl w.heap.size 5 i0 (.int .u8 0) 1 underlying87 ay bC bL .i64 .i64 _ (d+N) rfl rfl ?c1 ?c2 ?c3 ?c4 ?_)
 case c1=>go_num
 case c2=>rw[bz];omega
 case c3=>unfold maxLen;omega
 case c4=>exact Nat.le_refl _
 intro aw hown1 a1;have aH:=kZ a1;go_wp2_with (at_builtin;refine Po rfl _ _ rfl w.heap.size i0 ay bC bL bz _ 0 d [] D fC.out.symm aaG.out rfl rfl hown1 (by omega) (by omega) aH.size ?_)
 intro v2 aC hown2 bp;have bm:=I (aH.grown bp aH.size (λq hq=>(hown1.lt q hq).1));have oz:=I hown2;clear hown1 a1 aH bp hown2;go_wp2;go_loopw [1,9,22] (λCi bv iy wr=>∃(B L:ae) (n k:Nat),k<=l.length/\L.length<=1000000000/\n<=N/\B.length=d+n/\Ci=.string (strOf L)/\iy=.int .i64 k/\Hid (∀x∈L,x<256)/\Hid (gC d lim n L.length (l.drop k)=(N,0))/\Hid (R=na B L (l.drop k))/\Hid (wr.ownsRow w.heap.size 5 1 bv (d+n) (aO B))/\Hid (av w wr)) (λ_ _ iy _=>l.length-(intOf iy).toNat)
 case atStart=>exact⟨D,jN,0,0,zero_le _,bR,zero_le _,fC.out.symm,rfl,rfl,aaL,kh,fc,oz,bm⟩
 case round=>
  obtain⟨B,L,n,k,hk,F9,aA,bx,rfl,rfl,nu,hq,aE,hown,hbel⟩:=hrel;have dT:=hbel.out.size;by_cases a8:k<l.length
  .obtain⟨g,off,rfl,aF,hc⟩:=(bj.out.below hbel.out) (by omega);obtain⟨c0,c1,c2⟩:=hc k a8;obtain⟨x,m,o,ap,aG,e2,e3,e4,e5,gG⟩:=ub.out n L.length k a8 hq.out;have iM:=aE.out.trans (lK.out B L k a8);rw[ap]at c0 c1 c2 iM;rw[Ev]at iM;simp only[cX]at c0 c1 c2 iM;have dd:decide ((k:Int)<(l.length:Int))=true:=cf;have kv:(L.take x).length=x:=by rw[cr];omega
   have ox:Hid (gC d lim (n+x+m) (L.drop x).length (l.drop (k+1))=(N,0)):=I (by rw[cB];exact gG);have GA:=(DS gG).1;have Qi:=I (pN nu.out x);have EV:=I (jh nu.out x);have s1:=λW=>rb L x aG W
   have s2:=λW=>o2 L x aG W
   have Ae:(L.drop x).length<=1000000000:=by rw[cB];omega
   have gQ:=I iM;clear ap hc aE iM hq gG nu F9 aF;obtain⟨P,cJ⟩:∃P,P=L.take x:=⟨_,rfl⟩;obtain⟨Q,jO⟩:∃Q,Q=L.drop x:=⟨_,rfl⟩;rw[<-cJ]at kv Qi gQ s1;rw[<-jO]at Ae ox EV gQ s2;clear cJ jO;have jy:=(Below.refl wr.heap.size wr).alloc bl (.cells #[.int .i64 x,.int .i64 m,.int .i64 o] 118);have e6:=b3 hbel jy;have Qm:=I (hown.out.alloc (.cells #[.int .i64 x,.int .i64 m,.int .i64 o] 118));have vT:=I (Row.new wr 118 [.int .i64 x,.int .i64 m,.int .i64 o]);have mI:=I (own_ne (k:=wr.heap.size) hown.out (.inr bl));clear jy hbel hown;go_wp2_with (at_builtin;refine Po rfl _ _ rfl w.heap.size i0 ay bC bL bz _ (d+n) x B P kv Qi.out rfl rfl Qm.out (by omega) (by omega) e6.out.size ?_)
   intro v3 a6 hown3 ct;have hrow3:Row a6 wr.heap.size 118 [.int .i64 x,.int .i64 m,.int .i64 o]:=vT.out.keep (ct.block _ vT.out.lt mI);have b6:=I (e6.out.grown ct e6.out.size (λq hq=>(Qm.out.lt q hq).1));have pg:=I hown3;have kU:=I hrow3;have bD:=hrow3.cell 0;have bh:=hrow3.cell 1;have bN:=hrow3.cell 2;simp only[dJ,dH]at bD bh bN;obtain⟨q,hq⟩:∃q,q=wr.heap.size:=⟨_,rfl⟩;have auf:Hid (w.heap.size<=q):=I (by omega);rw[<-hq]at kU bD bh bN;rw[<-hq];have aiz:(B++P).length=d+n+x:=by rw[aY,bx,kv]
   obtain⟨C,ji⟩:∃C,C=np o m (B++P):=⟨_,rfl⟩;rw[<-ji]at gQ;have mG:=I ji;clear hown3 ct hrow3 c0 c1 c2 s1 hq ji;go_wp2;go_loopw [9,38] (λbv hB o6=>∃(E:ae) (j:Nat),j<=m/\hB=.int .i64 j/\E.length=d+n+x+j/\Hid (C=np o (m-j) E)/\Hid (o6.ownsRow w.heap.size 5 1 bv (d+n+x+j) (aO E))/\Hid (Row o6 q 118 [.int .i64 x,.int .i64 m,.int .i64 o])/\Hid (av w o6)) (λ_ hB _=>m-(intOf hB).toNat)
   case atStart=>exact⟨B++P,0,zero_le _,rfl,aiz,by rw[Nat.sub_zero];exact mG,pg,kU,b6⟩
   case round=>
    obtain⟨E,j,ar,rfl,fx,lR,hown,hrow,hbel⟩:=hrel;clear bD bh bN;have bD:=hrow.out.cell 0;have bh:=hrow.out.cell 1;have bN:=hrow.out.cell 2;simp only[dJ,dH]at bD bh bN;by_cases uZ:j<m
    .have oM:decide ((j:Int)<m)=true:=cf;obtain⟨hU,h5,rfl,ls,n3⟩:=Hj hown.out (by omega);have fh:=XT hown.out;have hcell:=hown.out.cells (g:=hU) rfl (d+n+x+j-o) _ (jq E _ (by omega));rw[zO,<-am.getD_at (by omega:d+n+x+j-o<E.length)]at hcell;have c8:C=np o (m-(j+1)) (E++[E.getD (d+n+x+j-o) 0]):=by rw[lR.out,show m-j=(m-(j+1))+1 by omega,np,fx]
     obtain⟨y,hy⟩:∃y,y=d+n+x+j-o:=⟨_,rfl⟩;obtain⟨z,aQ⟩:∃z,z=d+n+x+j:=⟨_,rfl⟩;have So:(z:Int)-o=y:=by omega
     have DH:y<z:=by omega
     have MY:z<=2000000000:=by omega
     have F7:(E++[E.getD y 0]).length=z+1:=by rw[aY,fx,aQ];rfl
     rw[<-hy]at hcell c8;rw[<-aQ]at fh hown;rw[<-aQ];have aaE:=I c8;have jM:=I aQ;have iR:=I (hown.out.alloc (.cells #[.int .u8 ((E.getD y 0:Nat):Int)] 5));have jy:=(Below.refl wr.heap.size wr).alloc bl (.cells #[.int .u8 ((E.getD y 0:Nat):Int)] 5);have e6:=b3 hbel jy;have vT:=I (hrow.out.alloc (.cells #[.int .u8 ((E.getD y 0:Nat):Int)] 5));have mI:=I (anM iR.out vT.out (by decide));have aaH:=I F7;clear c8 lR hy aQ jy hbel hrow hown fx F7;generalize E.getD y 0=b at *;go_wp2_with (at_builtin;refine wpList_append_own _ rfl _ _ 87 rfl w.heap.size 5 i0 (.int .u8 0) 1 1 underlying87 ay bC bL bz rfl (by decide) _ _ _ rfl iR.out ⟨wr.heap.size,0,none⟩ 1 1 [.int .u8 b] rfl rfl ?d1 ?d2 ?d3 ?d4 ?d5 ?_)
     case d1=>
      intro j u ar;match j,ar with
     |0,ar=>simp at ar;subst ar;simp[Addr.add]
     case d2=>intro u hu;simp at hu;subst hu;rfl
     case d3=>unfold maxLen;omega
     case d4=>omega
     case d5=>exact e6.out.size
     intro gN bH sb cx _;rw[show [Value.int .u8 b]=aO [b]from rfl,Z0]at sb;have ug:=I (vT.out.keep (cx.block _ vT.out.lt mI));have dt:=I (e6.out.grown cx e6.out.size (λq hq=>(iR.out.lt q hq).1));have zv:=I sb;clear sb cx hcell So;go_wp2;go_roundw
     case rel=>exact⟨E++[b],j+1,by omega,by go_num,by rw[aaH.out,jM.out];rfl,aaE,by rw[<-iO,<-jM.out];exact zv,ug,dt⟩
     case measure=>simp[intOf];omega
    .obtain rfl:j=m:=by omega
     have oM:decide ((j:Int)<j)=false:=aU;have mj:C=E:=by rw[lR.out,Nat.sub_self];rfl
     rw[mj]at gQ;have EX:=I hown.out;clear lR hown hrow bD bh bN mj;go_wp2;go_roundw
     case rel=>exact⟨E,Q,n+x+j,k+1,by omega,Ae,by omega,by omega,rfl,by go_num,EV,ox,gQ,by rw[<-iO,<-iO];exact EX,hbel⟩
     case measure=>simp[intOf];omega
  .obtain rfl:k=l.length:=by omega
   have dd:decide ((l.length:Int)<(l.length:Int))=false:=aU;have zZ:N=n+L.length:=by
    have e:=hq.out;rw[drop_length,gC]at e;split at e
    .simp at e
    .injection e with e;exact e.symm
   have Sb:R=B++L:=by rw[aE.out,drop_length];rfl
   have ace:=I Sb;have acd:=I zZ;obtain⟨t,iM⟩:∃t,t=L.length:=⟨_,rfl⟩;have e1:t<=1000000000:=by omega
   have gQ:=I iM;clear hq aE zZ Sb iM F9;go_wp2_with (at_builtin;refine Po rfl _ _ rfl w.heap.size i0 ay bC bL bz _ (d+n) t B L gQ.out.symm nu.out rfl rfl hown.out (by omega) (by omega) dT ?_)
   intro v3 a6 hown3 ct;rw[<-ace.out]at hown3;have b6:=I (hbel.out.grown ct dT (λq hq=>(hown.out.lt q hq).1));rw[show d+n+t=d+N by rw[acd.out,gQ.out];omega]at hown3;obtain⟨vD,c3,rfl,pC,_⟩:=kJ hown3;have k5:=afT hown3;have s1:∀W:ah,(Instr.slice 87 (.slice vD (d+N) c3) (some (.int .i64 d)) none none).run prog W=.ok (.slice (wh vD c3 d) N (c3-d)) W:=λW=>by
    have h:=afe vD (d+N) c3 d W (by omega) k5.1;rwa [Nat.add_sub_cancel_left]at h
   have s2:(convert 87 9 (.slice (wh vD c3 d) N (c3-d))).run prog a6=.ok (.string (strOf (R.drop d))) a6:=by
    have h:=oL a6 (wh vD c3 d) (c3-d) (R.drop d) (jh aaY.out d) (afZ pC (by omega));rwa [cB,aiP,Nat.add_sub_cancel_left]at h
   clear hown3 ct pC hown hbel;generalize wh vD c3 d=pO at *;go_wp2;go_ret;exact⟨rfl,b6⟩
theorem alw(D L:ae)(A:a7)(c:Nat)(l:List eS)(limit:Int)(lim:Nat)(w:ah)(cH:D.length<=1000000000)(bR:L.length<=1000000000)(hl:l.length<=1000000000)(yq:ec limit)(L3:max limit 0=(lim:Int))(hlim:lim<=1000000000)
  (hDlt:∀x∈D,x<256)(nu:∀x∈L,x<256)(cV:wa l)(aj:rL w A l) :
  Calls prog 74 #[.string (strOf D),.string (strOf L),.slice A l.length c,.int .i64 limit] w λe w'=>e=.returned (.tuple #[.string (strOf (iG D L l lim).1),.int .i64 ((iG D L l lim).2:Int)])/\av w w':=by
 have vd:=cy D;have akx:=cy L;have Hlen:=I (alp D.length L.length A c l lim w cH bR hl hlim cV aj);have aed:=I (λN h w aj=>alx D L A c l lim N w cH bR hl hlim hDlt nu h aj);have bj:=I aj;have pe:=I (λN=>DS (a:=D.length) (lim:=lim) (N:=N) (l:=l) (n:=0) (L:=L.length));obtain⟨UG,UH⟩:=yq;by_cases ao:(gC D.length lim 0 L.length l).2=0
 .have h1:=W4 ao;have hA:iG D L l lim=((na D L l).drop D.length,0):=by rw[iG,aB ao]
  rw[hA];have cU:=(pe.out _ h1).2;have lK:=I (aed.out _ h1);rw[ao]at Hlen;clear hA h1 ao hDlt nu cV aj;generalize (gC D.length lim 0 L.length l).1=N at *;have auw:decide ((N:Int) > 2147483647)=false:=aU;have aux:decide ((2147483647:Int)<N)=false:=aU;go_enter func74,ntmps74
  go_wp2_with fail
  refine Hlen.out.mono ?_;rintro e aw ⟨rfl,aH⟩;have aN:=I aH;have xJ:=I (lK.out aw (bj.out.below aH));clear aH;go_wp2_with fail
  refine xJ.out.mono ?_;rintro e aC ⟨rfl,aJ⟩;have bm:=b3 aN aJ;clear aJ;go_wp2;go_ret2;exact⟨rfl,bm⟩
 .have hA:iG D L l lim=([],(gC D.length lim 0 L.length l).2):=by rw[iG,az ao]
  rw[hA];have he:=(Nj (a:=D.length) (lim:=lim) l 0 L.length).resolve_left ao;clear hA ao hDlt nu cV aj;rcases he with he|he
  all_goals
   rw[he]at Hlen ⊢;clear he;go_enter func74,ntmps74
   go_wp2_with fail
   refine Hlen.out.mono ?_;rintro e aw ⟨rfl,aH⟩;have aN:=I aH;clear aH;go_wp2;go_ret2;exact⟨rfl,aN⟩
theorem Hk{w w':ah}{base b n m:Nat}{e:TypeId}{v:Value}{xs:b1}(h:w.ownsRow base e m v n xs)(aF:w.grownBy w' (some b))(ak:b<base):w'.ownsRow base e m v n xs:=
 h.kept aF (by
  cases aD:v.ownBlock with
 |none=>exact .inl rfl
 |some k=>
   refine .inr (λe=>?_);injection e with e
   have:=(h.lt k aD).1;omega)
theorem anV(b:Nat)(T P:ae)(a:Nat)(D:Int)(w:ah)(cq:T.length<=2000)(au:∀z∈T,z<256)(aV:a<=T.length)(cH:ec D)(h:jv w b T P) :
  Calls prog 60 #[.pointer (some ⟨b,0,none⟩),.int .i64 a,.int .i64 D] w λe w'=>∃A c,e=.returned (.slice A (l2 T D (T.length-a) a P 0).length c)/\lL w' A (l2 T D (T.length-a) a P 0)/\w.grownBy w' (some b):=by
 obtain⟨i0,ay,bC,bL,bz⟩:=info_parts M3;have mq:b<w.heap.size:=h.lt;have Hlen:=I (λw P (h:jv w b T P)=>Ps b T w h.text);have Je:=I (λw P (k:Nat) (hk:k<=1000000) (h:jv w b T P)=>aaj b T P (k:Int) w cq au ⟨by omega,by omega⟩ h);have P2:=I (λw P (k:Int) (ao:0<=k) (hk:k<=1000000) (h:jv w b T P)=>atQ b T P k D w cq au ⟨by omega,by omega⟩ cH h);have Jg:=I (λw P (x y:Nat) vh hy (h:jv w b T P)=>X2 b T P x y w cq au vh hy h);have zo:=I (λP (k:Nat) h=>ah0 T P k D h);have acn:=I (λP (k:Nat) h=>am.find_ok T P k D h);have dO:=I (λk P n=>show l2 T D k T.length P n=[] by cases k with
 |zero=>rfl
 |succ k=>rw[l2,aB bl])
 have ng:=I (λP a h=>Hn T P a h);obtain⟨R,cK⟩:∃R,R=l2 T D (T.length-a) a P 0:=⟨_,rfl⟩;rw[<-cK];have fc:=I cK;have H:=I h;have lF:=I (λ(w:ah) P (h:jv w b T P)=>show am.Places T P from by obtain⟨C,L,A,_,_,_,aK⟩:=h;exact aK);obtain⟨K5,K6⟩:=cH;clear cK h au;go_enter func60,ntmps60
 go_wp2;go_loopw [1,7,8] (λiV vj vm wr=>∃(k a n:Nat) (Q:ae) (acc:List am.dx),a<=T.length/\n<=a/\acc.length<=a/\T.length-a<=k/\iV=.int .i64 a/\vm=.int .i64 n/\Hid (R=acc++l2 T D k a Q n)/\Hid (wr.ownsRow w.heap.size 118 3 vj acc.length (gF acc))/\Hid (jv wr b T Q)/\Hid (w.grownBy wr (some b))) (λiV _ _ _=>T.length-(intOf iV).toNat)
 case atStart=>exact⟨T.length-a,a,0,P,[],aV,by omega,by simp,Nat.le_refl _,rfl,rfl,I (by rw[fc.out];rfl),I (World.ownsRow_nil _ _ _ _),H,I (dg _ _)⟩
 case round=>
  obtain⟨k,p,n,Q,acc,ax,aA,hacc,hk,rfl,rfl,hq,hown,aL,aF⟩:=hrel;clear aV;have gj:=I (Hlen.out wr Q aL);by_cases Dp:p<T.length
  .obtain⟨k',rfl⟩:∃k',k=k'+1:=⟨k-1,by omega⟩;have ey:=hq.out;rw[arA,az (by omega)]at ey;have jt:=I ey;have d0:decide ((p:Int)<(T.length:Int))=true:=cf;have Jn:=I (lF.out wr Q aL);have P0:=I (P2.out wr Q (p:Int) (by omega) (by omega) aL.out);have lr:=zo.out Q p Jn.out;have P4:=I (acn.out Q p Jn);have ff:=I (λw h=>Je.out w Q p (by omega) h);have P1:=I (λw h=>P2.out w (ly T Q (p:Int)) ((p:Int)+1) (by omega) (by omega) h);have wD:=zo.out (ly T Q (p:Int)) (p+1) (ng.out Q p Jn);rw[Int.natCast_add]at wD;have T8:=wD.2;have ajI:=lr.1;have ajH:=lr.2;have ac9:=I (λw (y:Nat) h1 af h=>Jg.out w (ly T Q (p:Int)) (p+1) y h1 af h);clear hq ey lr wD;rw[show((p:Int)+((1:Nat):Int))=(p:Int)+1 from rfl]at T8;generalize ly T Q (p:Int)=Q1 at *;generalize (gS T Q1 ((p:Int)+1) D)=c9 at *;generalize (gS T Q (p:Int) D)=r at *;obtain⟨o,m⟩:=r;obtain⟨qn,m2⟩:=c9;simp only at jt P0 P4 P1 T8 ajI ajH;have qQ:=aL;have hown0:=hown;have hJ:=aF;clear aL hown aF;go_wp2_with fail
   refine gj.out.mono ?_;rintro e w0 ⟨rfl,rfl⟩;go_wp2_with fail
   refine P0.out.mono ?_;rintro e aw ⟨rfl,aH⟩;have tX:=I (qQ.out.keep (aH.block b qQ.out.lt));have dm:=I (KW hJ.out aH);have Jk:=I (Hk hown0.out (dj aH _) mq);clear aH qQ hown0 hJ;go_wp2_with fail
   refine(ff.out _ tX).mono ?_;rintro e aC ⟨rfl,uV,bp⟩;have tY:=I uV;have du:=I (F0 dm.out bp);have oz:=I (Hk Jk.out bp mq);clear uV bp;go_wp2_with fail
   refine(P1.out _ tY).mono ?_;rintro e a6 ⟨rfl,bA⟩;have ER:=I (tY.out.keep (bA.block b tY.out.lt));have jJ:=I (KW du.out bA);have pg:=I (Hk oz.out (dj bA _) mq);clear bA;by_cases h8:m=0\/m<m2
   .rw[aB h8]at jt;have sY:=I jt;by_cases akd:m=0
    .subst akd;go_wp2;go_roundw
     case rel=>exact⟨k',p+1,n+1,Q1,acc,by omega,by omega,by omega,by omega,by go_num,by go_num,jt,pg,ER,jJ⟩
     case measure=>simp[intOf];omega
    .have d1:((m:Int)==0)=false:=by simp;omega
     have d2:decide ((m2:Int) > (m:Int))=true:=cf;have d3:decide ((m:Int)<m2)=true:=cf;go_wp2;go_roundw
     case rel=>exact⟨k',p+1,n+1,Q1,acc,by omega,by omega,by omega,by omega,by go_num,by go_num,jt,pg,ER,jJ⟩
     case measure=>simp[intOf];omega
   .rw[az h8]at jt;have d1:((m:Int)==0)=false:=by simp;omega
    have d2:decide ((m2:Int) > (m:Int))=false:=aU;have d3:decide ((m:Int)<m2)=false:=aU;obtain⟨aq,akg,UX,jR,_⟩:=P4.out (by omega);obtain⟨WX,L1⟩:∃WX,WX=acc.length:=⟨_,rfl⟩;rw[<-L1]at pg hacc;have Qd:=I L1;have dT:=jJ.out.size;clear L1;go_wp2_with (at_builtin;refine wpList_append_own _ rfl _ _ 68 rfl w.heap.size 118 i0 (.agg #[.int .i64 0,.int .i64 0,.int .i64 0]) 3 24 underlying68 ay bC bL bz rfl (by decide) _ _ _ rfl (pg.out.alloc _) ⟨a6.heap.size,0,none⟩ 1 1 [.int .i64 n,.int .i64 m,.int .i64 o] rfl rfl ?d1 ?d2 ?d3 ?d4 ?d5 ?_)
    case d1=>
     intro j u ar;match j,ar with
    |0,ar=>simp at ar;subst ar;simp[Addr.add]
    |1,ar=>simp at ar;subst ar;simp[Addr.add]
    |2,ar=>simp at ar;subst ar;simp[Addr.add]
    case d2=>
     intro u hu;simp at hu;rcases hu with rfl|rfl|rfl<;>rfl
    case d3=>unfold maxLen;omega
    case d4=>omega
    case d5=>simp;omega
    intro gN dk de di _;have jy:=(Below.refl a6.heap.size a6).alloc bl (.cells #[.int .i64 n,.int .i64 m,.int .i64 o] 118);have tp:w.grownBy (a6.alloc (.cells #[.int .i64 n,.int .i64 m,.int .i64 o] 118)) (some b):=KW jJ.out jy;have LK:jv (a6.alloc (.cells #[.int .i64 n,.int .i64 m,.int .i64 o] 118)) b T Q1:=ER.out.keep (jy.block b ER.out.lt);have aZ:∀j,j<w.heap.size->some j≠_:=λj ar e=>by have:=(pg.out.lt j e.symm).1;omega
    have acj:=I (LK.keep (di.block b LK.lt (aZ b mq)));have xt:Hid (w.grownBy dk (some b)):=I ⟨di.os.trans tp.os,di.tape.trans tp.tape,di.output.trans tp.output,dl tp.size di.size,λj ar aA=>(di.block j (gJ ar tp.size) (aZ j ar)).trans (tp.block j ar aA)⟩;have gd:gF acc++[.int .i64 n,.int .i64 m,.int .i64 o]=gF (acc++[(n,m,o)]):=by rw[Y9];rfl
    rw[gd]at de;have js:Hid (dk.ownsRow w.heap.size 118 3 gN (acc++[(n,m,o)]).length (gF (acc++[(n,m,o)]))):=I (by rw[aY,<-Qd.out];exact de);have Jp:Hid (R=(acc++[(n,m,o)])++l2 T D k' (p+m) (nD T Q1 (p+1) (m-1)) 0):=I (by rw[df];exact jt);have Qj:=I (ac9.out dk (p+m) (by omega) (by omega) acj.out);rw[show p+m-(p+1)=m-1 by omega,Int.natCast_add,Int.natCast_add]at Qj;have r6:(acc++[(n,m,o)]).length<=p+m:=by rw[aY,<-Qd.out];simp;omega
    clear jy tp LK aZ gd de di;go_wp2_with fail
    refine Qj.out.mono ?_;rintro e oo ⟨rfl,Ao,Aq⟩;have IV:=I Ao;have acv:=I (F0 xt.out Aq);have adf:=I (Hk js.out Aq mq);clear Ao Aq;go_wp2;go_roundw
    case rel=>exact⟨k',p+m,0,_,_,by omega,by omega,r6,by omega,by go_num,rfl,Jp,adf,IV,acv⟩
    case measure=>simp[intOf];omega
  .obtain rfl:p=T.length:=by omega
   have d0:decide ((T.length:Int)<(T.length:Int))=false:=aU;have e7:=I (show R=acc by rw[hq.out,dO.out,append_nil]);obtain⟨A,c,aD,aj,hc⟩:=Zl hown.out;subst aD;have bj:=I aj;clear aj hown hq;go_wp2_with fail
   refine gj.out.mono ?_;rintro e w0 ⟨rfl,rfl⟩;go_wp2;go_ret;exact⟨A,c,by rw[e7.out];rfl,by rw[e7.out];exact bj,aF⟩
theorem ahg(v:Int):mh v<=64:=by
 unfold mh;split
 .omega
 .split
  .omega
  .split<;>omega
theorem anW(D X:ae)(v:Int)(w:ah)(K7:D.length<=1000000000)(CW:X.length<=1000000000)(cH:∀z∈D,z<256)(ck:∀z∈X,z<256)(aD:ec v) :
  Calls prog 35 #[.string (strOf D),.string (strOf X),.int .i64 v] w λe w'=>∃A c,e=.returned (.slice A (q9 D X v).length c)/\lL w' A (q9 D X v)/\av w w':=by
 have IQ:=I (anT v aD w);have ajm:=ahg v;by_cases ao:mh v=0
 .have bj:Hid (q9 D X v=[]):=I (by rw[q9,aB ao]);rw[ao]at IQ;clear cH ck K7 CW ao ajm;go_enter func35,ntmps35
  go_wp2_with fail
  refine IQ.out.mono ?_;rintro e aw ⟨rfl,aH⟩;have aN:=I aH;clear aH;go_wp2;go_ret;exact⟨none,0,by rw[bj.out];rfl,by rw[bj.out];exact lL.nil _ _,aN⟩
 .obtain⟨R,cK⟩:∃R,R=q9 D X v:=⟨_,rfl⟩;rw[<-cK];have avO:((mh v:Int)==0)=false:=by simp;omega
  obtain⟨fI,xZ⟩:∃fI,fI=D.drop (D.length-600):=⟨_,rfl⟩;obtain⟨dE,CV⟩:∃dE,dE=X.take 600:=⟨_,rfl⟩;have au5:fI.length<=600:=by rw[xZ,cB];omega
  have avv:dE.length<=600:=by rw[CV,cr];omega
  have au6:=cy D;have avw:=cy X;have au7:=cy fI;have m1:max ((D.length:Int)-600) 0=((D.length-600:Nat):Int):=by omega
  have m2:min (X.length:Int) 600=((min X.length 600:Nat):Int):=by omega
  have c1:∀W:ah,(Instr.slice 9 (.string (strOf D)) (some (.int .i64 ((D.length-600:Nat):Int))) none none).run prog W=.ok (.string (strOf fI)) W:=λW=>by rw[xZ];exact o2 D _ (by omega) W
  have c2:∀W:ah,(Instr.slice 9 (.string (strOf X)) none (some (.int .i64 ((min X.length 600:Nat):Int))) none).run prog W=.ok (.string (strOf dE)) W:=λW=>by
   have h:=rb X (min X.length 600) (by omega) W;rwa [show X.take (min X.length 600)=dE by
     rw[CV];by_cases ci:X.length<=600
     .rw[Nat.min_eq_left ci,take_of_length_le bl,take_of_length_le ci]
     .rw[Nat.min_eq_right (by omega)]]at h
  have hadd:=λW=>ra fI dE (by omega) W
  have Ah:(fI++dE).length<=2000:=by rw[aY];omega
  have rW:∀z∈fI++dE,z<256:=Cp (by rw[xZ];exact jh cH _) (by rw[CV];exact pN ck _);have fc:Hid (R=l2 (fI++dE) (mh v:Int) ((fI++dE).length-fI.length) fI.length (nD (fI++dE) [] 0 fI.length) 0):=I (by
   rw[cK,q9,az ao,<-xZ,<-CV,aY,Nat.add_sub_cancel_left])
  have pf:=I (λw=>atX w (fI++dE) Ah);have Jg:Hid (∀w b,jv w b (fI++dE) []->Calls prog 59 #[.pointer (some ⟨b,0,none⟩),.int .i64 0,.int .i64 (fI.length:Int)] w λe w'=>e=.returned (.tuple #[])/\jv w' b (fI++dE) (nD (fI++dE) [] 0 fI.length)/\w.grownBy w' (some b)):=I (λw b h=>X2 b (fI++dE) [] 0 fI.length w Ah rW (zero_le _) (by omega) h);have cN:=I (λw b h=>anV b (fI++dE) (nD (fI++dE) [] 0 fI.length) fI.length (mh v:Int) w Ah rW (by rw[aY];omega) ⟨by omega,by omega⟩ h);have PG:=I (show R.length<=600 from by rw[cK];exact Zj D X v);rw[<-fc.out]at cN;clear cH ck xZ CV cK rW ao;obtain⟨b2,iK⟩:∃b2,b2=D.length-600:=⟨_,rfl⟩;obtain⟨bU,k7⟩:∃bU,bU=min X.length 600:=⟨_,rfl⟩;rw[<-iK]at m1 c1;rw[<-k7]at m2 c2;clear iK k7;generalize fI++dE=T at *;generalize nD T [] 0 fI.length=auh at *;generalize mh v=FP at *;generalize strOf D=jY at *;generalize strOf X=kM at *;generalize strOf fI=axu at *;generalize strOf dE=axw at *;go_enter func35,ntmps35
  go_wp2_with fail
  refine IQ.out.mono ?_;rintro e aw ⟨rfl,aH⟩;have aN:=I aH;clear aH;go_wp2_with fail
  refine(pf.out aw).mono ?_;rintro e aC ⟨b,rfl,uV,ak,aJ⟩;have tY:=I uV;have bm:=b3 aN aJ;have wR:w.heap.size<=b:=dl aN.out.size ak;have ud:=I (Jg.out aC b uV);clear uV aJ ak;go_wp2_with fail
  refine ud.out.mono ?_;rintro e a6 ⟨rfl,T6,ct⟩;have b6:=I (bm.out.trans (below_grown ct wR bm.out.size));have zz:=I (cN.out a6 b T6);clear T6 ct;go_wp2_with fail
  refine zz.out.mono ?_;rintro e bH ⟨A,c,rfl,jS,cx⟩;have dt:=I (b6.out.trans (below_grown cx wR b6.out.size));have vS:=I jS;clear jS cx;go_wp2;go_ret;exact⟨A,c,rfl,vS,dt⟩
theorem amm{T:ae}{l:List am.dx}{k:Nat}(hk:k<l.length)(h:k0 0 (l.drop k)<=T.length):l[k].1+l[k].2.1<=T.length/\k0 0 (l.drop (k+1))<=((T.drop l[k].1).drop l[k].2.1).length /\
  hZ T 0 (l.drop k)=T.take l[k].1++hZ ((T.drop l[k].1).drop l[k].2.1) 0 (l.drop (k+1)):=by
 rw[drop_eq_getElem_cons hk,k0]at h;have h1:=KF (l.drop (k+1)) (0+l[k].1+l[k].2.1);have af:=FT (l.drop (k+1)) (l[k].1+l[k].2.1) 0;rw[fX]at af;rw[ez]at h h1;refine⟨by omega,by rw[cB,cB];omega,?_⟩;have aq:=Nn T (l.drop (k+1)) 0 (l[k].1+l[k].2.1);rw[fX]at aq;rw[drop_eq_getElem_cons hk,hZ,ez,drop_zero,drop_drop,aq]
theorem anU(X:ae)(A:a7)(c:Nat)(l:List am.dx)(w:ah)(ck:X.length<=100000000)(hl:l.length<=100000000)(au:∀z∈X,z<256)(hend:k0 0 l<=X.length)(aj:lL w A l) :
  Calls prog 38 #[.string (strOf X),.slice A l.length c] w λe w'=>e=.returned (.string (strOf (hZ X 0 l)))/\av w w':=by
 have bj:=I aj;obtain⟨b,ak⟩:∃b,b=w.heap.size:=⟨_,rfl⟩;obtain⟨R,cK⟩:∃R,R=hZ X 0 l:=⟨_,rfl⟩;rw[<-cK];have PG:=I (show ∀z∈R,z<256 from by rw[cK];exact Np au l 0);have fc:=I cK;have ce:=I au;have b5:=I ak;have ub:=I (λ(T:ae) (k:Nat) (hk:k<l.length) (h:k0 0 (l.drop k)<=T.length)=>amm hk h);have fm:=I (λn T w h=>an6 n T w h);have dO:=I hend;clear aj cK au ak hend;go_enter func38,ntmps38
 go_wp2;rw[<-b5.out];have dc:=(Below.refl w.heap.size w).alloc bl (.cells #[.pointer none,.slice none 0 0] 94);have TF:o7 (w.alloc (.cells #[.pointer none,.slice none 0 0] 94)) w.heap.size b []:=by rw[b5.out];exact o7.new w _ bl
 have fd:=I dc;have abp:=I TF;clear dc TF;generalize w.alloc (.cells #[.pointer none,.slice none 0 0] 94)=w0 at *;go_loopw [0,11] (λO7 bV wr=>∃(T acc:ae) (k:Nat),k<=l.length/\O7=.string (strOf T)/\bV=.int .i64 k/\T.length<=100000000/\acc.length+T.length<=100000000/\Hid (∀z∈T,z<256)/\Hid (k0 0 (l.drop k)<=T.length)/\Hid (R=acc++hZ T 0 (l.drop k))/\Hid (o7 wr w.heap.size b acc)/\Hid (av w wr)) (λ_ bV _=>l.length-(intOf bV).toNat)
 case atStart=>exact⟨X,[],0,zero_le _,rfl,rfl,ck,by simp;omega,ce,dO,I (by rw[fc.out];rfl),abp,fd⟩
 case round=>
  obtain⟨T,acc,k,hk,rfl,rfl,cq,hacc,e1,mu,hq,mS,hbel⟩:=hrel;have dT:=hbel.out.size;by_cases a8:k<l.length
  .obtain⟨g,off,rfl,aF,hc⟩:=(bj.out.below hbel.out) (by omega);obtain⟨c0,c1,c2⟩:=hc k a8;obtain⟨aG,e2,e3⟩:=ub.out T k a8 mu.out;have sY:=hq.out;rw[e3,<-df]at sY;have Bs:=I sY;have l4:=I e2;have oA:=I hc;clear hc e3 hq mu e2;have dd:decide ((k:Int)<(l.length:Int))=true:=cf;generalize l[k].1=n at *;generalize l[k].2.1=m at *;generalize l[k].2.2=o at *;have s1:=λW=>rb T n (by omega) W
   have s2:=λW=>o2 T n (by omega) W
   have iB:=λW=>o2 (T.drop n) m (by rw[cB];omega) W
   have gw:=I (λW=>fm.out n T W (by omega));have kj:=I (λW=>fm.out m (T.drop n) W (by rw[cB];omega));have iw:=length_take_le n T;have akF:=I (pN e1.out n);have VX:=I (show ∀z∈(T.drop n).drop m,z<256 from jh (jh e1.out n) m);have pv:(T.take n).length=n:=by rw[cr];omega
   have ew:((T.drop n).drop m).length=T.length-n-m:=by rw[cB,cB]
   have By:=I (mS.out.below ((Below.refl wr.heap.size wr).alloc bl (.cells #[.int .i64 n,.int .i64 m,.int .i64 o] 118)));have vT:=I (Row.new wr 118 [.int .i64 n,.int .i64 m,.int .i64 o]);have e6:=I (hbel.out.trans (((Below.refl wr.heap.size wr).alloc bl (.cells #[.int .i64 n,.int .i64 m,.int .i64 o] 118)).mono dT));have Ve:wr.heap.size≠b:=by have:=mS.out.lt.2;omega
   have zG:=I (Rq w.heap.size b acc (T.take n) _ (by omega) akF.out e6.out.size By.out);clear mS hbel e1 aF;generalize T.take n=aeJ at *;generalize (T.drop n).drop m=aeL at *;generalize T.drop n=aeK at *;go_wp2_with fail
   refine(gw.out _).mono ?_;rintro e aw ⟨rfl,rfl⟩;go_wp2_with fail
   refine zG.out.mono ?_;rintro e aC ⟨rfl,C2,aJ,ft⟩;have hrow2:=aqe vT.out (by decide) Ve ft;have bh:=hrow2.cell 1;simp only[dJ,dH]at bh;have abq:=I C2;have bm:=I (e6.out.trans aJ);clear hrow2 C2 aJ ft gw s1 c0 c1 c2;go_wp2_with fail
   refine(kj.out _).mono ?_;rintro e a6 ⟨rfl,rfl⟩;go_wp2;go_roundw
   case rel=>exact⟨aeL,acc++aeJ,k+1,by omega,rfl,by go_num,by omega,by rw[aY];omega,VX,l4,Bs,abq,bm⟩
   case measure=>simp[intOf];omega
  .obtain rfl:k=l.length:=by omega
   have dd:decide ((l.length:Int)<(l.length:Int))=false:=aU;have e:acc++T=R:=by rw[hq.out,drop_length];rfl
   have zG:=I (Rq w.heap.size b acc T wr (by omega) e1.out dT mS.out);rw[e]at zG;have cN:=I (λw' h1 h=>af7 w.heap.size b R w' PG.out h1 h);clear hq e1 mu mS e;go_wp2_with fail
   refine zG.out.mono ?_;rintro e aC ⟨rfl,C2,aJ,_⟩;have bm:=I (hbel.out.trans aJ);have iT:=I (cN.out aC bm.out.size C2);clear C2 aJ hbel;go_wp2_with fail
   refine iT.out.mono ?_;rintro e a6 ⟨rfl,bA⟩;have b6:=I (bm.out.trans bA);clear bA;go_wp2;go_ret;exact⟨rfl,b6⟩
def aeF:Prop:=∀(w:ah) (D X:ae) (v:Int),D.length<=1000000000->X.length<=1000000000->(∀z∈D,z<256)->(∀z∈X,z<256)->ec v->Calls prog 35 #[.string (strOf D),.string (strOf X),.int .i64 v] w λe w'=>
 ∃A c l,e=.returned (.slice A l.length c)/\lL w' A l/\l.length<=600/\pi (D.drop (D.length-600)++X.take 600) (D.drop (D.length-600)).length l/\(v<=0->l=[])/\av w w'
def aeE:Prop:=∀(w:ah) (X:ae) (A:a7) (c:Nat) (l:List am.dx),X.length<=100000000->l.length<=100000000->(∀z∈X,z<256)->k0 0 l<=X.length->lL w A l->Calls prog 38 #[.string (strOf X),.slice A l.length c] w λe w'=>e=.returned (.string (strOf (hZ X 0 l)))/\av w w'
theorem aox:aeF:=λw D X v cH ck K7 CW aD=>(anW D X v w cH ck K7 CW aD).mono λ_ _ ⟨A,c,he,aj,ak⟩=>
 ⟨A,c,_,he,aj,Zj D X v,arz D X v,ary D X v,ak⟩
theorem aoe:aeE:=λw X A c l ck hl au he aj=>anU X A c l w ck hl au he aj
theorem alv(D jN:ae)(A:a7)(c:Nat)(l:List eS)(limit:Int)(lim:Nat)(w:ah)(cH:D.length<=1000000)(bR:jN.length<=1000000)(hl:l.length<=1000000)(yq:ec limit)(L3:(limit<0/\lim=0)\/limit=(lim:Int))(hlim:lim<=1000000)
  (cV:wa l)(aj:rL w A l) :
  Calls prog 49 #[.string (strOf D),.string (strOf jN),.slice A l.length c,.int .i64 limit] w λe w'=>e=.returned (.tuple #[.string (strOf (iG D jN l lim).1),.int .i64 ((iG D jN l lim).2:Int)])/\av w w':=by
 have vd:=cy D;have bj:=I aj;have kh:=I cV;obtain⟨d,aI⟩:∃d,d=D.length:=⟨_,rfl⟩;obtain⟨N,E,ww⟩:∃N E,gC d lim 0 jN.length l=(N,E):=⟨_,_,rfl⟩;obtain⟨R,cK⟩:∃R,R=na D jN l:=⟨_,rfl⟩;obtain⟨X,ck⟩:∃X,X=iG D jN l lim:=⟨_,rfl⟩;have Tr:E=0->X=(R.drop d,0):=λh=>by rw[ck,iG,<-aI,ww,aB h,cK]
 have x5:E≠0->X=([],E):=λh=>by rw[ck,iG,<-aI,ww,az h]
 rw[<-ck];have aa9:=I Tr;have Bu:=I x5;have Iq:=I ww;have fc:=I cK;have fC:=I aI;rw[<-aI]at vd cH;have ub:=I (λn L k (hk:k<l.length) (h:gC d lim n L (l.drop k)=(N,E))=>(Nk hk).symm.trans h);have lK:=I (λA L k (hk:k<l.length)=>congrArg (na A L) (drop_eq_getElem_cons hk));have rp:=I (λ(a b:ae) (h:a.length+b.length<=1000000000) W=>ra a b h W);obtain⟨UG,UH⟩:=yq;clear aj cV ww cK ck Tr x5 aI;go_enter func49,ntmps49
 go_upto_if 17 with fail
 go_cut [3]from 18 to 18 (λiB eQ=>eQ=w/\iB=.int .i64 lim)
 case first=>
  rcases L3 with⟨aA,rfl⟩|rfl
  .have d0:decide (limit<0)=true:=bE aA;go_wp2;go_meet
   exact⟨rfl,rfl⟩
  .have d0:decide ((lim:Int)<0)=false:=aU;go_wp2;go_meet
   exact⟨rfl,rfl⟩
 case rest=>
 obtain⟨MP,rfl⟩:=hcut;have akR:=MP.symm;subst akR;clear L3 UG UH;go_wp2_with fail
 go_loopw [1,10,11] (λCi vn bV wr=>∃(L O:ae) (k:Nat),k<=l.length/\L.length<=1000000/\O.length<=lim/\Ci=.string (strOf L)/\vn=.string (strOf O)/\bV=.int .i64 k/\Hid (gC d lim O.length L.length (l.drop k)=(N,E))/\Hid (R=na (D++O) L (l.drop k))/\Hid (av w wr)) (λ_ _ bV _=>l.length-(intOf bV).toNat)
 case atStart=>exact⟨jN,[],0,zero_le _,bR,zero_le _,rfl,rfl,rfl,Iq,by rw[append_nil];exact fc,I dM⟩
 case round=>
  obtain⟨L,O,k,hk,F9,avj,rfl,rfl,rfl,hq,aE,hbel⟩:=hrel;have AH:=cy O;have akx:=cy L;by_cases a8:k<l.length
  .obtain⟨g,off,rfl,aF,hc⟩:=(bj.out.below hbel.out) (by omega);obtain⟨c0,c1,c2⟩:=hc k a8;have ey:=ub.out O.length L.length k a8 hq.out;have iM:=aE.out.trans (lK.out (D++O) L k a8);obtain⟨⟨x0,iQ⟩,⟨m0,m1⟩,tG,tH⟩:=kh.out l[k] (b8 a8);have dd:decide ((k:Int)<(l.length:Int))=true:=cf;obtain⟨x,m,o,ap⟩:∃x m o,l[k]=(x,m,o):=⟨_,_,_,rfl⟩;rw[ap]at ey c0 c1 c2 x0 iQ m0 m1 tG tH iM;simp only at c0 c1 c2 x0 iQ m0 m1 tG tH;rw[DR]at ey;rw[Ev]at iM;have jy:=(Below.refl wr.heap.size wr).alloc bl (.cells #[.int .i64 x,.int .i64 m,.int .i64 o] 118);have e6:=b3 hbel jy;have gQ:=I iM;clear hc hq aE iM ap jy hbel aF;by_cases h1:x<0\/(L.length:Int)<x
   .rw[aB h1]at ey;injection ey with aG e2
    have cc:=I (Bu.out (by omega));rw[<-e2]at cc;clear aG e2;by_cases af:x<0
    .have d1:decide (x<0)=true:=bE af;go_wp2;go_ret2;rw[cc.out];exact⟨rfl,e6⟩
    .have d1:decide (x<0)=false:=bG af;have d2:decide (x > (L.length:Int))=true:=cf;have d3:decide ((L.length:Int)<x)=true:=cf;go_wp2;go_ret2;rw[cc.out];exact⟨rfl,e6⟩
   .rw[az h1]at ey;have d1:decide (x<0)=false:=aU;have d2:decide (x > (L.length:Int))=false:=aU;have d3:decide ((L.length:Int)<x)=false:=aU;obtain⟨x,rfl⟩:=Int.eq_ofNat_of_zero_le (by omega:0<=x);rw[cX]at ey gQ;clear x0 iQ;have kv:(L.take x).length=x:=by rw[cr];omega
    have s1:=λW=>rb L x (by omega) W
    have s2:=λW=>o2 L x (by omega) W
    have iB:=λW=>rp.out O (L.take x) (by rw[kv];omega) W
    have My:(strOf (O++L.take x)).size=O.length+x:=by rw[cy,aY,kv]
    obtain⟨n,k7⟩:∃n,n=O.length+x:=⟨_,rfl⟩;rw[show d+O.length+x=d+n by omega,<-k7]at ey;rw[<-k7]at My;have L9:n<=2000000:=by omega
    obtain⟨P,cJ⟩:∃P,P=L.take x:=⟨_,rfl⟩;obtain⟨Q,jO⟩:∃Q,Q=L.drop x:=⟨_,rfl⟩;have S4:Q.length=L.length-x:=by rw[jO,cB]
    rw[<-S4]at ey;rw[<-cJ]at s1 iB My gQ;rw[<-jO]at s2 gQ;obtain⟨B,bx⟩:∃B,B=O++P:=⟨_,rfl⟩;rw[<-bx]at iB My;rw[df,<-bx]at gQ;have aiA:B.length=n:=by rw[bx,aY,cJ,kv,k7]
    clear bx cJ jO kv k7;by_cases af:lim<n
    .rw[aB af]at ey;injection ey with aG e2
     have cc:=I (Bu.out (by omega));rw[<-e2]at cc;clear aG e2;have d4:decide ((n:Int) > (lim:Int))=true:=cf;have d5:decide ((lim:Int)<n)=true:=cf;go_wp2;go_ret2;rw[cc.out];exact⟨rfl,e6⟩
    .rw[az af]at ey;have d4:decide ((n:Int) > (lim:Int))=false:=aU;have d5:decide ((lim:Int)<n)=false:=aU;by_cases aq:m<3\/o<1\/((d+n:Nat):Int)<o
     .rw[aB aq]at ey;injection ey with aG e2
      have cc:=I (Bu.out (by omega));rw[<-e2]at cc;clear aG e2;by_cases aK:m<3
      .have d6:decide (m<3)=true:=bE aK;go_wp2;go_ret2;rw[cc.out];exact⟨rfl,e6⟩
      .have d6:decide (m<3)=false:=bG aK;by_cases aT:o<1
       .have d7:decide (o<1)=true:=bE aT;go_wp2;go_ret2;rw[cc.out];exact⟨rfl,e6⟩
       .have d7:decide (o<1)=false:=bG aT;have d8:decide (o > (d:Int)+n)=true:=cf;have d9:decide ((d:Int)+n<o)=true:=cf;go_wp2;go_ret2;rw[cc.out];exact⟨rfl,e6⟩
     .rw[az aq]at ey;have d6:decide (m<3)=false:=aU;have d7:decide (o<1)=false:=aU;have d8:decide (o > (d:Int)+n)=false:=aU;have d9:decide ((d:Int)+n<o)=false:=aU;obtain⟨m,rfl⟩:=Int.eq_ofNat_of_zero_le (by omega:0<=m);obtain⟨o,rfl⟩:=Int.eq_ofNat_of_zero_le (by omega:0<=o);rw[cX]at ey gQ;rw[cX]at gQ;have akg:1<=o:=by omega
      have awt:o<=d+n:=by omega
      have sY:=I ey;obtain⟨C,ji⟩:∃C,C=np o m (D++B):=⟨_,rfl⟩;rw[<-ji]at gQ;have mG:=I ji;have hrow:=Row.new wr 118 [.int .i64 x,.int .i64 m,.int .i64 o];obtain⟨b,ak⟩:∃b,b=wr.heap.size:=⟨_,rfl⟩;go_wp2_with fail
      rw[<-ak]at hrow ⊢;have dr:=I hrow;have aiO:Q.length<=1000000:=by omega
      clear hrow ak ey ji aq s1 s2 iB S4;generalize wr.alloc (.cells #[.int .i64 x,.int .i64 m,.int .i64 o] 118)=dK at *;go_loopw [10,13] (λvn hB o6=>∃(aR:ae) (j:Nat),j<=m/\aR.length=n+j/\n+j<=lim/\vn=.string (strOf aR)/\hB=.int .i64 j/\Hid (C=np o (m-j) (D++aR))/\Hid (∃z,o6=dK.drewN z)) (λ_ hB _=>m-(intOf hB).toNat)
      case atStart=>exact⟨B,0,zero_le _,aiA,by omega,rfl,rfl,by rw[Nat.sub_zero];exact mG,I ⟨0,rfl⟩⟩
      case round=>
       obtain⟨aR,j,ar,j9,awr,rfl,rfl,lR,aQ⟩:=hrel;obtain⟨z,rfl⟩:=aQ.out;clear aQ;have bh:=dr.out.cell 1;have bN:=dr.out.cell 2;simp only[dJ,dH]at bh bN;by_cases uZ:j<m
       .have oM:decide ((j:Int)<m)=true:=cf;have cq:(D++aR).length=d+n+j:=by rw[aY,<-fC.out,j9,iO]
        have c8:C=np o (m-(j+1)) (D++(aR++[(D++aR).getD (d+n+j-o) 0])):=by rw[lR.out,show m-j=(m-(j+1))+1 by omega,np,cq,df]
        obtain⟨y,hy⟩:∃y,y=d+n+j-o:=⟨_,rfl⟩;obtain⟨t,aE⟩:∃t,t=d+n+j:=⟨_,rfl⟩;have So:(t:Int)-o=y:=by omega
        have awN:t<=3000000:=by omega
        have aw6:y<t:=by omega
        have s1:=λW=>rp.out D aR (by rw[<-fC.out,j9];omega) W
        have awG:(strOf (D++aR)).size=t:=by rw[cy,cq,aE]
        have s2:∀W:ah,(Instr.slice 9 (.string (strOf (D++aR))) (some (.int .i64 y)) (some (.int .i64 ((y:Int)+1))) none).run prog W=.ok (.string (strOf [(D++aR).getD y 0])) W:=λW=>by
         have h:=Zr (D++aR) y (y+1) (by omega) (by omega) W;rw[Int.natCast_add,fY (by omega:y<(D++aR).length),drop_left' (by rw[cr];omega),<-am.getD_at (by omega:y<(D++aR).length)]at h;exact h
        rw[<-hy]at c8;generalize (D++aR).getD y 0=v at *;have iB:=λW=>rp.out aR [v] (by rw[j9,length_singleton];omega) W
        have Tk:(aR++[v]).length=n+j+1:=by rw[aY,j9,length_singleton]
        have awH:(strOf (aR++[v])).size=n+j+1:=by rw[cy,Tk]
        have ig:=I c8;generalize strOf (D++aR)=q6 at *;clear c8 lR cq hy aE;by_cases ci:lim<n+j+1
        .have ey:=sY.out;rw[aB (by omega)]at ey;injection ey with aG e2
         have cc:=I (Bu.out (by omega));rw[<-e2]at cc;clear aG e2;have f1:decide ((n:Int)+j+1 > (lim:Int))=true:=cf;have f2:decide ((lim:Int)<n+(j:Int)+1)=true:=cf;have bm:=I (below_drewN e6.out z);go_wp2;go_ret2;rw[cc.out];exact⟨rfl,bm⟩
        .have f1:decide ((n:Int)+j+1 > (lim:Int))=false:=aU;have f2:decide ((lim:Int)<n+(j:Int)+1)=false:=aU;go_wp2;go_roundw
         case rel=>exact⟨aR++[v],j+1,by omega,Tk,by omega,rfl,by go_num,ig,I ⟨_,rfl⟩⟩
         case measure=>simp[intOf];omega
       .obtain rfl:j=m:=by omega
        have oM:decide ((j:Int)<j)=false:=aU;have ey:=sY.out;rw[az (by omega),<-j9]at ey;have Jp:=I ey;have mj:C=D++aR:=by rw[lR.out,Nat.sub_self];rfl
        rw[mj]at gQ;have bm:=I (below_drewN e6.out z);clear ey lR mj;go_wp2;go_roundw
        case rel=>exact⟨Q,aR,k+1,by omega,aiO,by omega,rfl,rfl,by go_num,Jp,gQ,bm⟩
        case measure=>simp[intOf];omega
  .obtain rfl:k=l.length:=by omega
   have dd:decide ((l.length:Int)<(l.length:Int))=false:=aU;have e:=hq.out;rw[drop_length,gC]at e;have z6:R=D++O++L:=by rw[aE.out,drop_length,na]
   have s1:=λW=>rp.out O L (by omega) W
   have gd:(strOf (O++L)).size=O.length+L.length:=by rw[cy,aY]
   by_cases h1:lim<O.length+L.length
   .rw[aB h1]at e;injection e with aG e2
    have cc:=I (Bu.out (by omega));rw[<-e2]at cc;have d4:decide ((O.length:Int)+(L.length:Int) > (lim:Int))=true:=cf;have d5:decide ((lim:Int)<(O.length:Int)+(L.length:Int))=true:=cf;clear aG e2 z6 hq aE;go_wp2;go_ret2;rw[cc.out];exact⟨rfl,hbel⟩
   .rw[az h1]at e;injection e with aG e2
    have ai:=aa9.out e2.symm;rw[z6,fC.out,df,drop_left]at ai;have cc:=I ai;have d4:decide ((O.length:Int)+(L.length:Int) > (lim:Int))=false:=aU;have d5:decide ((lim:Int)<(O.length:Int)+(L.length:Int))=false:=aU;clear aG e2 z6 hq aE ai;go_wp2;go_ret2;rw[cc.out];exact⟨rfl,hbel⟩
end Go.Proofs.YtgiicohbigiapaaGreat
