/- Contracts. -/
import Derived.Test.YtgiicohbigiapaaGreatQaj
import Derived.Test.YtgiicohbigiapaaGreatQz1
import Derived.Test.YtgiicohbigiapaaGreatQz0
set_option maxHeartbeats 4000000
set_option maxRecDepth 100000
open Go.Proofs.Tryz Go.Proofs.YtgiicohbigiapaaGreat.ao List Nat Option
namespace Go.Proofs.YtgiicohbigiapaaGreat
open Go.RowKit
def hcells(k e n s:Nat):b3:=[.int .u64 k,.int .i64 e,.int .i64 n,.int .u64 s]
def JZ(w':ai)(b:Nat)(bs:ae)(e:Ending):Option ao.dN->Prop
 | none=>e=.returned (.tuple #[.agg (hcells 0 0 0 0).toArray,.int .i64 3])
 | some h=>e=.returned (.tuple #[.agg (hcells h.1 h.2.1 h.2.2.1 h.2.2.2.1).toArray,.int .i64 0])/\bJ w' b (some (bs.drop h.2.2.2.2))
theorem ajb(bs:ae)(av:∀x∈bs,x<256)(k e n s:Nat)(s1 s2 jd pY:Left)(h1:eR (hi 1) (some bs)=([k],s1)\/(eR (hi 1) (some bs)=([],s1)/\k=0))(af:lQ 1073741824 s1=(e,s2))(aq:lQ 1099511627776 s2=(n,jd))(aJ:bd (eR (hi 8) jd).1=s)(aR:(eR (hi 8) jd).2=pY) :
  ((pY=none\/3<=k)/\im bs=none)\/(∃at_,pY=some (bs.drop at_)/\k<3/\im bs=some (k,e,n,s,at_)):=by
 have az:∀m,lQ m none=(0,none):=λm=>by unfold lQ;rw[aA (.inl rfl)]
 have aj:eR (hi 8) none=([],none):=rfl;cases bs with
 | nil=>
  refine .inl ⟨.inl ?_,rfl⟩;have am:eR (hi 1) (some [])=([],none):=rfl;rw[am]at h1;have aF:s1=none:=by rcases h1 with h1 | ⟨h1,_⟩<;>(injection h1 with _ h1;exact h1.symm)
  rw[aF,az]at af;injection af with _ af
  rw[<-af,az]at aq;injection aq with _ aq
  rw[<-aR,<-aq,aj]
 | cons x r=>
  rw[Ha]at h1;obtain⟨rfl,rfl⟩:x=k/\s1=some r:=by
   rcases h1 with h1 | ⟨h1,_⟩
   .injection h1 with am h1;injection am with am;exact⟨am,h1.symm⟩
   .injection h1 with am h1;cases am
  unfold im;dsimp only;by_cases c4:2<x
  .rw[aA c4];exact .inl ⟨.inr c4,rfl⟩
  rw[ay c4];unfold qK;by_cases c1:0<(aW r).2/\(aW r).1<=1073741824
  .rw[aA c1];rw[xP _ _ c1.1 (by omega)]at af;injection af with ah4 UN
   by_cases c2:0<(aW (r.drop (aW r).2)).2/\(aW (r.drop (aW r).2)).1<=1099511627776
   .rw[<-UN,xP _ _ c2.1 (by omega)]at aq;injection aq with ah9 LU
    have ca:=(sn r _ _ c1.1 rfl).2.2;have cT:=(sn (r.drop (aW r).2) _ _ c2.1 rfl).2.2;rw[cC]at cT;rw[drop_drop]at LU;by_cases c3:(aW r).2+(aW (r.drop (aW r).2)).2+8<=r.length
    .have o5:hi 8=8:=by decide
     rw[<-LU,o5,E4 8 _ (by rw[cC];omega)]at aJ aR;rw[aA ⟨c2.1,c2.2,c3⟩,map_some];dsimp only at aJ aR ⊢;rw[ah4,ah9,aJ];refine .inr ⟨_,?_,by omega,rfl⟩;rw[<-aR,drop_drop,Nat.add_comm 1,drop_succ_cons]
    .refine .inl ⟨.inl ?_,?_⟩
     .have o5:hi 8=8:=by decide
      rw[<-LU,o5,E3 8 _ (by rw[cC];omega)]at aR;exact aR.symm
     .rw[ay (λc=>c3 c.2.2),map_none]
   .refine .inl ⟨.inl ?_,?_⟩
    .rw[<-UN,BN _ _ (λc=>c2 ⟨c.1,by omega⟩)]at aq;injection aq with _ aq
     rw[<-aR,<-aq,aj]
    .rw[ay (λc=>c2 ⟨c.1,c.2.1⟩),map_none]
  .refine .inl ⟨.inl ?_,?_⟩
   .rw[BN _ _ (λc=>c1 ⟨c.1,by omega⟩)]at af;injection af with _ af
    rw[<-af,az]at aq;injection aq with _ aq
    rw[<-aR,<-aq,aj]
   .rw[ay c1,map_none]
structure cI(w au:ai)(b:Nat)(ag:b3):Prop where
 lt:b<w.heap.size
 eb:Row au w.heap.size 49 (hcells 0 0 0 0)
 bN:Row au (w.heap.size+1) 49 ag
 gr:w.grownBy au (some b)
theorem DB{w w':ai}{row:Option Nat}(h:w.grownBy w' row)(p:Addr)(u:Value)(aw:w.heap.size<=p.block):w.grownBy (w'.setCell p u) row:=
 ⟨h.os,h.tape,h.output,by simpa [World.setCell]using h.size,λi ax aX=>(Below.heap_setCell w' p u i (λe=>by omega)).trans (h.block i ax aX)⟩
theorem cI.call{w au aB:ai}{b:Nat}{ag:b3}(h:cI w au b ag)(aD:au.grownBy aB (some b)):cI w aB b ag:=by
 have:=h.lt;exact⟨h.lt,h.eb.keep (aD.block _ h.eb.lt (by simp;omega)),h.bN.keep (aD.block _ h.bN.lt (by simp;omega)),ei h.gr aD⟩
theorem cI.set{w au:ai}{b:Nat}{ag:b3}(h:cI w au b ag)(i:Nat)(u:Value):cI w (au.setCell ⟨w.heap.size+1,i,none⟩ u) b (ag.set i u):=
 ⟨h.lt,h.eb.cG (by simp) u,h.bN.bm i u,DB h.gr _ u (by simp)⟩
theorem cI.Dn{w au:ai}{b:Nat}{ag:b3}{st:Left}(h:cI w au b ag)(hc:bJ au b st)(i:Nat)(u:Value):bJ (au.setCell ⟨w.heap.size+1,i,none⟩ u) b st:=by
 have:=h.lt;exact hc.keep (row:=some (w.heap.size+1)) ⟨rfl,rfl,rfl,by simp[World.setCell],λi ax aX=>Below.heap_setCell au _ u i (λe=>aX (by rw[e]))⟩ (by simp;omega)
theorem cI.start(w:ai)(b:Nat)(ak:b<w.heap.size):cI w ((w.alloc (.cells (hcells 0 0 0 0).toArray 49)).alloc (.cells (hcells 0 0 0 0).toArray 49)) b (hcells 0 0 0 0):=by
 have cX:=Row.new (w.alloc (.cells (hcells 0 0 0 0).toArray 49)) 49 (hcells 0 0 0 0);rw[show(w.alloc (.cells (hcells 0 0 0 0).toArray 49)).heap.size=w.heap.size+1 by simp]at cX;exact⟨ak,(Row.new w 49 (hcells 0 0 0 0)).alloc _,cX,iD (iD (dl w _) _) _⟩
theorem KX(b:Nat)(bs:ae)(w:ai)(hl:bs.length<=100000000)(av:∀x∈bs,x<256)(h:bJ w b (some bs)) :
  Calls prog 19 #[.pointer (some ⟨b,0,none⟩)] w λe w'=>JZ w' b bs e (im bs)/\w.grownBy w' (some b):=by
 have hok0:pA (some bs):=⟨av,hl⟩;have xu:=λW (hc:bJ W b (some bs))=>E6 b (some bs) 1 W (by omega) (by omega) hok0 hc
 obtain⟨⟨gO,s1⟩,aF⟩:∃z,z=eR (hi 1) (some bs):=⟨_,rfl⟩;have hok1:pA s1:=by have:=(ZH (n:=hi 1) hok0).1;rw[<-aF]at this;exact this
 obtain⟨⟨e,s2⟩,e2⟩:∃z,z=lQ 1073741824 s1:=⟨_,rfl⟩;have hok2:pA s2/\(e:Int)<=1073741824:=by
  have:=(ok_int (most:=1073741824) hok1 (by omega)).1;rw[<-e2]at this;refine⟨this,?_⟩;unfold lQ at e2;split at e2
  .injection e2 with e2 _;omega
  .next c=>
   have:e=(lI s1).1:=by rw[<-e2]
   omega
 obtain⟨⟨n,jd⟩,e3⟩:∃z,z=lQ 1099511627776 s2:=⟨_,rfl⟩;have WS:pA jd/\(n:Int)<=1099511627776:=by
  have:=(ok_int (most:=1099511627776) hok2.1 (by omega)).1;rw[<-e3]at this;refine⟨this,?_⟩;unfold lQ at e3;split at e3
  .injection e3 with e3 _;omega
  .next c=>
   have:n=(lI s2).1:=by rw[<-e3]
   omega
 obtain⟨k,hk⟩:∃k,k=bd gO:=⟨_,rfl⟩;have eu:(eR (hi 1) (some bs)=([k],s1)\/(eR (hi 1) (some bs)=([],s1)/\k=0)):=by
  cases bs with
  | nil=>right;injection aF with aF Lv;subst aF;exact⟨by rw[Lv];rfl,hk⟩
  | cons x r=>
   left
   rw[Ha]at aF ⊢;injection aF with aF Lv
   subst aF;rw[Lv,hk];simp[bd]
 have hcase:=ajb bs av k e n _ s1 s2 jd _ eu e2.symm e3.symm rfl rfl;have H1:=xu;have dk:=I (λW (hc:bJ W b s1)=>B5 b s1 1073741824 W (by omega) (by omega) hok1 hc);have gD:=I (λW (hc:bJ W b s2)=>B5 b s2 1099511627776 W (by omega) (by omega) hok2.1 hc);have nD:=I (λW (hc:bJ W b jd)=>E6 b jd 8 W (by omega) (by omega) WS.1 hc);rw[<-aF]at H1;rw[<-e2]at dk;rw[<-e3]at gD;dsimp only at H1 dk gD;rw[<-hk]at H1;have H1:=I H1;obtain⟨s,ap⟩:∃s,s=bd (eR (hi 8) jd).1:=⟨_,rfl⟩;obtain⟨pY,zC⟩:∃s,s=(eR (hi 8) jd).2:=⟨_,rfl⟩;rw[<-ap,<-zC]at nD hcase;have JP:=I hcase;have p6:=I (λW (hc:bJ W b pY)=>gB b pY W hc);clear xu hok0 hok1 hok2 WS aF e2 e3 hk eu ap zC hcase;have cb:=I (cI.start w b h.lt);have py:=I (((h.below ((Below.refl w.heap.size w).alloc bh (.cells (hcells 0 0 0 0).toArray 49))).below (dQ.alloc bh (.cells (hcells 0 0 0 0).toArray 49))));clear h av;go_enter func19,ntmps19
 go_wp2_with fail
 refine(H1.out _ py).mono ?_;rintro aF au ⟨rfl,bL,aZ⟩;have nI:=I (cb.out.call aZ);have k0:=I bL;have f0:=nI.out.bN.free 0;have g0:au.cell? ⟨w.heap.size+1,0,none⟩=some (.int .u64 0):=nI.out.bN.cell 0;clear cb py bL aZ H1;go_wp2_with fail
 clear f0 g0;refine(dk.out _ (nI.out.Dn k0.out 0 (.int .u64 k))).mono ?_;rintro aF aB ⟨rfl,db,bl⟩;have hS:=I ((nI.out.set 0 (.int .u64 k)).call bl);have gp:=I db;have f1:=hS.out.bN.free 1;have g1:aB.cell? ⟨w.heap.size+1,1,none⟩=some (.int .i64 0):=hS.out.bN.cell 1;clear nI k0 db bl dk;go_wp2_with fail
 clear f1 g1;refine(gD.out _ (hS.out.Dn gp.out 1 (.int .i64 e))).mono ?_;rintro aF a1 ⟨rfl,lh,cs⟩;have wV:=I ((hS.out.set 1 (.int .i64 e)).call cs);have wD:=I lh;have f2:=wV.out.bN.free 2;have g2:a1.cell? ⟨w.heap.size+1,2,none⟩=some (.int .i64 0):=wV.out.bN.cell 2;clear hS gp lh cs gD;go_wp2_with fail
 clear f2 g2;refine(nD.out _ (wV.out.Dn wD.out 2 (.int .i64 n))).mono ?_;rintro aF bA ⟨rfl,nV,cA⟩;have Ay:=I ((wV.out.set 2 (.int .i64 n)).call cA);have qQ:=I nV;have f3:=Ay.out.bN.free 3;have g3:bA.cell? ⟨w.heap.size+1,3,none⟩=some (.int .u64 0):=Ay.out.bN.cell 3;clear wV wD nV cA nD;go_wp2_with fail
 clear f3 g3;have cL:=p6.out _ (Ay.out.Dn qQ.out 3 (.int .u64 s));have wW:=I (show cI w (bA.setCell ⟨w.heap.size+1,3,none⟩ (.int .u64 s)) b (hcells k e n s)from Ay.out.set 3 (.int .u64 s));have k1:=I (Ay.out.Dn qQ.out 3 (.int .u64 s));clear Ay qQ p6;refine cL.mono ?_;rintro aF dG ⟨rfl,rfl⟩;clear cL;generalize bA.setCell ⟨w.heap.size+1,3,none⟩ (.int .u64 s)=dG at *;have cX:=wW.out.bN;have e7:=wW.out.eb;have c0:=cX.cell 0;have c1:=cX.cell 1;have c2:=cX.cell 2;have c3:=cX.cell 3;have d0:dG.cell? ⟨w.heap.size,0,none⟩=some (.int .u64 0):=e7.cell 0;have d1:dG.cell? ⟨w.heap.size,1,none⟩=some (.int .i64 0):=e7.cell 1;have d2:dG.cell? ⟨w.heap.size,2,none⟩=some (.int .i64 0):=e7.cell 2;have d3:dG.cell? ⟨w.heap.size,3,none⟩=some (.int .u64 0):=e7.cell 3;have f0:=e7.free 0;have f1:=e7.free 1;have f2:=e7.free 2;have f3:=e7.free 3;simp only[hcells,dR,dU]at c0 c1 c2 c3;have ua:∀u0 u1 u2 u3,w.grownBy ((((dG.setCell ⟨w.heap.size,0,none⟩ u0).setCell ⟨w.heap.size,1,none⟩ u1).setCell ⟨w.heap.size,2,none⟩ u2).setCell ⟨w.heap.size,3,none⟩ u3) (some b):=λu0 u1 u2 u3=>
  DB (DB (DB (DB wW.out.gr _ u0 bh) _ u1 bh) _ u2 bh) _ u3 bh
 have FU:=I ua;have hcs:∀u0 u1 u2 u3:Value,(dG.setCell ⟨w.heap.size,0,none⟩ u0).cell? ⟨w.heap.size,0,none⟩=some u0/\((dG.setCell ⟨w.heap.size,0,none⟩ u0).setCell ⟨w.heap.size,1,none⟩ u1).cell? ⟨w.heap.size,1,none⟩=some u1 /\
   (((dG.setCell ⟨w.heap.size,0,none⟩ u0).setCell ⟨w.heap.size,1,none⟩ u1).setCell ⟨w.heap.size,2,none⟩ u2).cell? ⟨w.heap.size,2,none⟩=some u2 /\
   ((((dG.setCell ⟨w.heap.size,0,none⟩ u0).setCell ⟨w.heap.size,1,none⟩ u1).setCell ⟨w.heap.size,2,none⟩ u2).setCell ⟨w.heap.size,3,none⟩ u3).cell? ⟨w.heap.size,3,none⟩=some u3:=λu0 u1 u2 u3=>
  ⟨(e7.bm 0 u0).cell 0,((e7.bm 0 u0).bm 1 u1).cell 1,(((e7.bm 0 u0).bm 1 u1).bm 2 u2).cell 2,((((e7.bm 0 u0).bm 1 u1).bm 2 u2).bm 3 u3).cell 3⟩
 have tA:=I hcs;have VL:∀u0 u1 u2 u3,bJ ((((dG.setCell ⟨w.heap.size,0,none⟩ u0).setCell ⟨w.heap.size,1,none⟩ u1).setCell ⟨w.heap.size,2,none⟩ u2).setCell ⟨w.heap.size,3,none⟩ u3) b pY:=λu0 u1 u2 u3=>by
  have av:=wW.out.lt;exact k1.out.keep (row:=some w.heap.size) (hz (hz (hz (hz (dl dG _) 0 u0) 1 u1) 2 u2) 3 u3) (by simp;omega)
 have JV:=I VL;clear hcs ua VL wW k1 cX e7;rcases JP.out with⟨hbad,hnone⟩ | ⟨at_,zC,kB,hsome⟩
 .have hend:∀(W:ai),JZ W b bs (.returned (.tuple #[.agg (hcells 0 0 0 0).toArray,.int .i64 3])) (im bs):=λW=>by rw[hnone];exact rfl
  have dw:=I hend;obtain⟨s0,oL,oM,IK⟩:=tA.out (.int .u64 0) (.int .i64 0) (.int .i64 0) (.int .u64 0);have aD:=FU.out (.int .u64 0) (.int .i64 0) (.int .i64 0) (.int .u64 0);clear tA FU JV hend hnone JP;cases pY with
  | none=>
   go_wp2;exact bodyPost_ret (v:=.tuple #[.agg (hcells 0 0 0 0).toArray,.int .i64 3]) (by simp[results,results19,go_sem,hcells,s0,oL,oM,IK]) rfl ⟨dw.out _,aD⟩
  | some z=>
   have bz:3<=k:=by rcases hbad with hbad | hbad;cases hbad;exact hbad
   have d5:decide ((3:Int)<=k)=true:=cl;go_wp2;exact bodyPost_ret (v:=.tuple #[.agg (hcells 0 0 0 0).toArray,.int .i64 3]) (by simp[results,results19,go_sem,hcells,s0,oL,oM,IK]) rfl ⟨dw.out _,aD⟩
 .subst zC;have hend:∀(W:ai),bJ W b (some (bs.drop at_))->JZ W b bs (.returned (.tuple #[.agg (hcells k e n s).toArray,.int .i64 0])) (im bs):=λW hc=>by rw[hsome];exact⟨rfl,hc⟩
  have dw:=I hend;obtain⟨s0,oL,oM,IK⟩:=tA.out (.int .u64 k) (.int .i64 e) (.int .i64 n) (.int .u64 s);have aD:=FU.out (.int .u64 k) (.int .i64 e) (.int .i64 n) (.int .u64 s);have fh:=JV.out (.int .u64 k) (.int .i64 e) (.int .i64 n) (.int .u64 s);have d5:decide ((3:Int)<=k)=false:=aT;clear tA FU JV hend hsome JP;go_wp2;exact bodyPost_ret (v:=.tuple #[.agg (hcells k e n s).toArray,.int .i64 0]) (by simp[results,results19,go_sem,hcells,s0,oL,oM,IK]) rfl ⟨dw.out _ fh,aD⟩
theorem S5(bs:ae)(w:ai)(hl:bs.length<=100000000)(av:∀x∈bs,x<256) :
  Calls prog 13 #[.string (strOf bs)] w λe w'=>e=.returned (match im bs with
   | none=>.tuple #[.int .i64 0,.int .i64 3]
   | some h=>.tuple #[.int .i64 (h.2.1:Int),.int .i64 0])/\Below w.heap.size w w':=by
 obtain⟨V,bY⟩:∃V:Value,V=(match im bs with
   | none=>.tuple #[.int .i64 0,.int .i64 3]
   | some h=>.tuple #[.int .i64 (h.2.1:Int),.int .i64 0]):=⟨_,rfl⟩
 rw[<-bY];have bX:=I (Lf bs w);have fB:=I (λW hc=>KX w.heap.size bs W hl av hc);clear hl av;go_enter func13,ntmps13
 go_wp2_with fail
 refine bX.out.mono ?_;rintro e au ⟨rfl,bL,aH⟩;have aK:=I aH;have wJ:=I (fB.out au bL);clear bL aH bX fB;go_wp2_with fail
 refine wJ.out.mono ?_;rintro e aB ⟨aw,bl⟩;have aV:=I (aK.out.trans (below_grown bl bh aK.out.size));clear bl aK wJ;have tt:=I (λu=>aV.out.alloc aV.out.size u);clear aV;cases aG:im bs with
 | none=>
  rw[aG]at aw bY;subst bY;obtain rfl:e=.returned (.tuple #[.agg #[.int .u64 0,.int .i64 0,.int .i64 0,.int .u64 0],.int .i64 3]):=aw;clear aG;go_wp2;go_ret2;exact⟨rfl,tt.out _⟩
 | some h=>
  rw[aG]at aw bY;subst bY;obtain⟨k,a6,n,s,at_⟩:=h;obtain rfl:e=.returned (.tuple #[.agg #[.int .u64 k,.int .i64 a6,.int .i64 n,.int .u64 s],.int .i64 0]):=aw.1;clear aG aw;dsimp only;go_wp2;go_ret2;exact⟨rfl,tt.out _⟩
theorem Tl(bs:ae)(w:ai)(hl:bs.length<=100000000)(av:∀x∈bs,x<256) :
  Calls prog 14 #[.string (strOf bs)] w λe w'=>e=.returned (match im bs with
   | none=>.tuple #[.int .i64 0,.int .i64 3]
   | some h=>.tuple #[.int .i64 (h.2.2.1:Int),.int .i64 0])/\Below w.heap.size w w':=by
 obtain⟨V,bY⟩:∃V:Value,V=(match im bs with
   | none=>.tuple #[.int .i64 0,.int .i64 3]
   | some h=>.tuple #[.int .i64 (h.2.2.1:Int),.int .i64 0]):=⟨_,rfl⟩
 rw[<-bY];have bX:=I (Lf bs w);have fB:=I (λW hc=>KX w.heap.size bs W hl av hc);clear hl av;go_enter func14,ntmps14
 go_wp2_with fail
 refine bX.out.mono ?_;rintro e au ⟨rfl,bL,aH⟩;have aK:=I aH;have wJ:=I (fB.out au bL);clear bL aH bX fB;go_wp2_with fail
 refine wJ.out.mono ?_;rintro e aB ⟨aw,bl⟩;have aV:=I (aK.out.trans (below_grown bl bh aK.out.size));clear bl aK wJ;have tt:=I (λu=>aV.out.alloc aV.out.size u);clear aV;cases aG:im bs with
 | none=>
  rw[aG]at aw bY;subst bY;obtain rfl:e=.returned (.tuple #[.agg #[.int .u64 0,.int .i64 0,.int .i64 0,.int .u64 0],.int .i64 3]):=aw;clear aG;go_wp2;go_ret2;exact⟨rfl,tt.out _⟩
 | some h=>
  rw[aG]at aw bY;subst bY;obtain⟨k,a6,n,s,at_⟩:=h;obtain rfl:e=.returned (.tuple #[.agg #[.int .u64 k,.int .i64 a6,.int .i64 n,.int .u64 s],.int .i64 0]):=aw.1;clear aG aw;dsimp only;go_wp2;go_ret2;exact⟨rfl,tt.out _⟩
namespace ao
theorem SU(p:Int->Prop)(l:List Int)(k:Nat)(h:k<l.length)(am:∀x∈l.take k,p x)(h1:p l[k]):∀x∈l.take (k+1),p x:=by
 rw[gb h];intro x ah;rcases List.mem_append.1 ah with af | af
 .exact am x af
 .rw[List.mem_singleton.1 af];exact h1
end ao
theorem agR(n:Nat)(r:Bool)(h:decide (n<=256)=r):decide ((n:Int)<=256)=r:=by rw[<-h,decide_eq_decide];omega
theorem as4(A:a7)(c:Nat)(l:List Int)(w:ai)(hl:l.length<=1000000000)(aj:Reads w A (gL l)) :
  Calls prog 152 #[.slice A l.length c] w λe w'=>e=.returned (.bool (decide (oY l)))/\w=w':=by
 have aU:=I aj;obtain⟨r,hres⟩:∃r,r=decide (oY l):=⟨_,rfl⟩;rw[<-hres];have bt:=I hres;have c8:Hid (¬oY l->false=r):=I (λh=>by rw[hres,bF h]);clear aj hres;go_enter func152,ntmps152
 go_wp2;go_loop [3] (λi=>∃(k:Nat),k<=l.length/\i=.int .i64 k/\Hid (∀x∈l.take k,0<=x/\x<=11)) (λi=>l.length-(intOf i).toNat)
 case atStart=>exact⟨0,by omega,rfl,I (by simp)⟩
 case round=>
  obtain⟨k,hk,rfl,hall⟩:=hrel;by_cases bb:k<l.length
  .obtain⟨g,off,rfl,hc⟩:=wb aU.out (by omega);have c0:=hc k bb;have jp:=I (SU (λx=>0<=x/\x<=11) l k bb hall);have ci:=I (b7 bb);clear hc hall;generalize l[k]=z at c0 jp ci;by_cases aO:z<0
   .have bk:=I (c8.out (λh=>by have:=(h.2 z ci).1;omega));go_wp2;go_ret;exact⟨congrArg (λx=>Ending.returned (Value.bool x)) bk,rfl⟩
   by_cases bw:11<z
   .have bk:=I (c8.out (λh=>by have:=(h.2 z ci).2;omega));go_wp2;go_ret;exact⟨congrArg (λx=>Ending.returned (Value.bool x)) bk,rfl⟩
   have rS:=I (jp.out (by omega));clear jp;go_wp2;go_round
   case rel=>exact⟨k+1,by omega,by go_num,rS⟩
   case measure=>simp[intOf];omega
  .obtain rfl:k=l.length:=by omega
   have hfin:decide (l.length<=256)=r:=by
    have af:=hall.out;rw[take_length]at af;rw[bt.out,decide_eq_decide];exact⟨λb=>⟨b,af⟩,λh=>h.1⟩
   have ey:=I hfin;clear hfin hall bt c8 aU;generalize l.length=n at *;go_wp2;go_ret;exact⟨congrArg (λx=>Ending.returned (Value.bool x)) (agR n r ey),rfl⟩
namespace ao
theorem Oc(l:ae)(k:Nat)(h:k<l.length):fF (l.take (k+1))=fF (l.take k)+fl l[k]/\jm (l.take (k+1))=jm (l.take k)+if 0<l[k]then 1 else 0:=by
 unfold fF jm;rw[gb h,map_append,sum_append_nat,countP_append,countP_singleton];simp
theorem EU(n:Nat):fl n<=1024:=by
 unfold fl;split
 .omega
 .exact dD (n:=2) (j:=10) (by omega) (by omega)
theorem YJ(l:ae):fF l<=1024*l.length:=by
 unfold fF;induction l with
 | nil=>simp
 | cons a l ih=>have:=EU a;rw[map_cons,sum_cons,b1];omega
theorem aaZ(l:ae):jm l<=l.length:=countP_le_length
end ao
theorem as5(A:a7)(c:Nat)(l:List Int)(w:ai)(hl:l.length<=1000000000)(aj:Reads w A (gL l)) :
  Calls prog 116 #[.slice A l.length c] w λe w'=>e=.returned (.bool (decide (mD l)))/\w=w':=by
 have iy:=I (as4 A c l w hl aj);by_cases cS:oY l
 .rw[bG cS]at iy;obtain⟨aF,dV,Ds⟩:=H2 l cS;have tS:=cS.1;have bg:mD l↔(fF (l.map Int.toNat)=2048\/(jm (l.map Int.toNat)=1/\fF (l.map Int.toNat)=1024)):=by
   unfold mD fw;exact⟨λh=>h.2.2.2,λh=>⟨cS,by omega,dV,h⟩⟩
  have aG:decide (mD l)=decide (fF (l.map Int.toNat)=2048\/(jm (l.map Int.toNat)=1/\fF (l.map Int.toNat)=1024)):=decide_eq_decide.2 bg;rw[aG];have bS:Reads w A (aM (l.map Int.toNat)):=by rw[<-jT,<-aF];exact aj
  generalize l.map Int.toNat=U at *;clear aG bg cS aF aj;have aU:=I bS;have lw:=I dV;rw[<-Ds]at iy ⊢;have h8:U.length<=256:=by omega
  clear bS dV Ds tS hl;obtain⟨r,hres⟩:∃r,r=decide (fF U=2048\/(jm U=1/\fF U=1024)):=⟨_,rfl⟩;rw[<-hres];have bt:=I hres;clear hres;go_enter func116,ntmps116
  go_wp2_with fail
  refine iy.out.mono ?_;rintro e w' ⟨rfl,rfl⟩;clear iy;go_wp2;go_loop [3,4,5] (λs t i=>∃(k:Nat),k<=U.length/\i=.int .i64 k/\s=.int .i64 (fF (U.take k):Int)/\t=.int .i64 (jm (U.take k):Int)) (λ_ _ i=>U.length-(intOf i).toNat)
  case atStart=>exact⟨0,by omega,rfl,rfl,rfl⟩
  case round=>
   obtain⟨k,hk,rfl,rfl,rfl⟩:=hrel;by_cases bb:k<U.length
   .obtain⟨g,off,rfl,hc⟩:∃g off,A=some ⟨g,off,none⟩/\w.cell? ⟨g,off+k,none⟩=some (.int .i64 (U[k]:Int)):=by
     obtain⟨g,off,e,hc⟩:=aU.out (by intro e;have:=congrArg List.length e;rw[gw,length_nil]at this;omega);refine⟨g,off,e,?_⟩;have h1:=hc k (by rw[gw];exact bb);rw[ja U k bb]at h1;exact h1
    have cb:=I (Oc U k bb);have ud:=YJ (U.take k);have Ev:=aaZ (U.take k);rw[cq,Nat.min_eq_left (by omega)]at ud Ev;have dV:=lw.out U[k] (b7 bb);have cm:=EU U[k];have eT:Hid (0<U[k]->Calls prog 82 #[.int .i64 (11-(U[k]:Int))] w λe w'=>e=.returned (.int .i64 (fl U[k]:Int))/\w=w'):=I (λam=>by
     have h1:=vR (11-(U[k]:Int)) w (by omega);rw[show(11-(U[k]:Int)).toNat=11-U[k] by omega]at h1;unfold fl;rw[ay (by omega)];exact h1)
    have wP:Hid (U[k]=0->fl U[k]=0):=I (λh=>by unfold fl;rw[aA h]);generalize fF (U.take k)=K at *;generalize jm (U.take k)=M at *;generalize fl U[k]=P at *;generalize U[k]=x at *;by_cases ah:0<x
    .have C7:=I (eT.out ah);clear eT wP;go_wp2_with fail
     refine C7.out.mono ?_;rintro e w' ⟨rfl,rfl⟩;go_wp2;go_round
     case rel=>exact⟨k+1,by omega,by go_num,by rw[cb.out.1];go_num,by rw[cb.out.2,aA ah];go_num⟩
     case measure=>simp[intOf];omega
    .have vt:=wP.out (by omega);subst vt;clear eT wP;go_wp2;go_round
     case rel=>exact⟨k+1,by omega,by go_num,by rw[cb.out.1];go_num,by rw[cb.out.2,ay ah];go_num⟩
     case measure=>simp[intOf];omega
   .obtain rfl:k=U.length:=by omega
    rw[take_length];clear aU lw;generalize fF U=K at *;generalize jm U=M at *;by_cases h1:K=2048
    .have d1:((K:Int) == 2048)=true:=by rw[h1];rfl
     have bk:Hid (true=r):=I (by rw[bt.out,bG (.inl h1)]);clear h1 bt;go_wp2;go_ret;exact⟨congrArg (λx=>Ending.returned (Value.bool x)) bk,rfl⟩
    .have d1:((K:Int) == 2048)=false:=cz
     by_cases af:M=1
     .have d2:((M:Int) == 1)=true:=by rw[af];rfl
      have bk:Hid (((K:Int) == 1024)=r):=I (by
       rw[bt.out,Bool.eq_iff_iff,beq_iff_eq,decide_eq_true_iff];omega)
      clear h1 af bt;go_wp2;go_ret;exact⟨congrArg (λx=>Ending.returned (Value.bool x)) bk,rfl⟩
     .have d2:((M:Int) == 1)=false:=cz
      have bk:Hid (false=r):=I (by rw[bt.out,bF (by omega)]);clear h1 af bt;go_wp2;go_ret;exact⟨congrArg (λx=>Ending.returned (Value.bool x)) bk,rfl⟩
 .rw[bF cS]at iy;have aL:decide (mD l)=false:=bF (λh=>cS h.1);rw[aL];clear aj aL;go_enter func116,ntmps116
  go_wp2_with fail
  refine iy.out.mono ?_;rintro e w' ⟨rfl,rfl⟩;go_wp2;go_ret;exact⟨rfl,rfl⟩
namespace ao
def nO(l:ae)(q:Nat):ae:=(List.range q).map (hg l)++List.replicate (l.length-q) 0
theorem agD(l:ae):nO l 0=List.replicate l.length 0:=by simp[nO]
theorem agA(l:ae):nO l l.length=lH l:=by simp[nO,lH]
theorem agB(l:ae)(q:Nat)(h:q<=l.length):(nO l q).length=l.length:=by simp[nO];omega
theorem TI(l:ae)(q:Nat)(h:q<l.length):(nO l q)[q]?=some 0:=by
 unfold nO;have h1:((List.range q).map (hg l)).length=q:=by simp
 rw[jk (by omega),h1,Nat.sub_self,getElem?_replicate,aA (by omega)]
theorem TJ(l:ae)(q:Nat)(h:q<l.length):nO l (q+1)=(nO l q).set q (hg l q):=by
 unfold nO;have h1:((List.range q).map (hg l)).length=q:=by simp
 rw[set_append_right _ _ (by omega),h1,Nat.sub_self,range_succ,map_append,dj];congr 1
 obtain⟨m,hm⟩:∃m,l.length-q=m+1:=⟨l.length-q-1,by omega⟩;rw[hm,show l.length-(q+1)=m by omega,replicate_succ];simp
theorem agC(l:ae)(q:Nat)(h:q<l.length)(am:hg l q=0):nO l (q+1)=nO l q:=by
 rw[TJ l q h,am];apply ext_getElem?
 intro i;rw[getElem?_set];split
 .next e=>
  subst e;rw[aA (by rw[agB l q (by omega)];omega),TI l q h]
 .rfl
theorem KS(l:ae)(i q:Nat):nK l i q<=1024*q:=by
 induction q with
 | zero=>simp[nK]
 | succ q ih=>
  rw[SR];have:=EU (l[q]?.getD 0);split<;>omega
end ao
theorem kW{w:ai}{A:a7}{l:ae}(h:Reads w A (aM l))(aX:0<l.length):∃g off,A=some ⟨g,off,none⟩/\∀j (ar:j<l.length),w.cell? ⟨g,off+j,none⟩=some (.int .i64 (l[j]:Int)):=by
 have hne':aM l≠[]:=λe=>by
  have h1:=congrArg List.length e;rw[gw,length_nil]at h1;omega
 obtain⟨g,off,e,hc⟩:=h hne';exact⟨g,off,e,λj ar=>by rw[hc j (by rw[gw];exact ar),ja l j ar]⟩
theorem as3(A:a7)(c:Nat)(U:ae)(w:ai)(hl:U.length<=1000)(dV:∀x∈U,x<=11)(aj:Reads w A (aM U)) :
  Calls prog 154 #[.slice A U.length c] w λe w'=>∃g,e=.returned (.slice (some ⟨g,0,none⟩) U.length U.length)/\w.heap.size<=g/\Row w' g 3 (aM (lH U))/\Below w.heap.size w w':=by
 obtain⟨i0,ax,bB,bK,bw⟩:=info_parts oF;have aU:=I aj;have lw:=I dV;clear aj dV;obtain⟨g0,hW⟩:∃g,g=w.heap.size:=⟨_,rfl⟩;have fA:=I hW;clear hW;go_enter func154,ntmps154
 go_wp2_with (at_make;refine wpList_make_full _ rfl _ _ 112 rfl w.heap.size 3 i0 (.int .i64 0) 1 underlying112 ax bB bK .i64 .i64 _ _ U.length rfl rfl ?c1 ?c1 ?c2 ?c3 ?c4 ?_)
 case c1=>omega
 case c2=>first | omega | (rw[bw];omega)
 case c3=>unfold maxLen;omega
 try case c4=>exact Nat.le_refl _
 intro au hown1 aZ;have aH:=k8 aZ;have cd:=ut hown1;rw[<-fA.out]at cd ⊢;have aK:=I aH;rw[<-agD U]at cd;have dx:=I cd;clear hown1 aZ aH cd ax bB bK bw;go_wp2;go_loopw [4] (λi wr=>∃q:Nat,q<=U.length/\i=.int .i64 q/\Hid (Row wr g0 3 (aM (nO U q)))/\Hid (Below w.heap.size w wr)) (λi _=>U.length-(intOf i).toNat)
 case atStart=>exact⟨0,by omega,rfl,dx,aK⟩
 case round=>
  obtain⟨q,hq,rfl,hrow,hbel⟩:=hrel;clear dx aK;by_cases hX:q<U.length
  .obtain⟨g,off,hA,hc⟩:∃g off,A=some ⟨g,off,none⟩/\∀W,Below w.heap.size w W->∀j (ar:j<U.length),W.cell? ⟨g,off+j,none⟩=some (.int .i64 (U[j]:Int)):=by
    obtain⟨g,off,e,_⟩:=kW aU.out (by omega);subst e;exact⟨g,off,rfl,λW ak j ar=>by
     obtain⟨fd,off',e,hc⟩:=kW (c9 aU.out ak) (by omega);injection e with e
     injection e with aF e2
     subst aF e2;exact hc j ar⟩
   subst hA;have gn:=I hc;have c0:=hc wr hbel.out q hX;have hq11:=lw.out U[q] (b7 hX);have lY:Hid (wr.cell? ⟨g0,q,none⟩=some (.int .i64 0)):=I (by
    have h1:=hrow.out.cell q;have af:=TI U q hX;simp only[aM,getElem?_map,af,map_some]at h1;exact h1)
   have pH:U[q]?.getD 0=U[q]:=by rw[bH hX,b6]
   have bX:=I (TJ U q hX);have uP:=I (agC U q hX);have FQ:Hid (U[q]=0->hg U q=0):=I (λh=>by unfold hg;rw[pH,aA h]);have tv:Hid (U[q]≠0->hg U q=pC U q/2^(11-U[q])):=I (λh=>by unfold hg;rw[pH,ay h]);have uN:=I pH;clear hc pH;obtain⟨b,ak⟩:∃b,b=U[q]:=⟨_,rfl⟩;rw[<-ak]at c0 hq11 FQ tv uN;have bO:=I ak;clear ak;by_cases dg:b=0
   .subst dg;have dk:=I (uP.out (FQ.out rfl));clear tv FQ bX uP lY;go_wp2;go_roundw
    case rel=>exact⟨q+1,by omega,by go_num,I (by rw[dk.out];exact hrow),hbel⟩
    case measure=>simp[intOf];omega
   .have hbne:((b:Int) == 0)=false:=cz
    have acV:=I (tv.out dg);clear tv FQ uP;obtain⟨tp,rfl⟩:∃tp:ai,tp=wr:=⟨_,rfl⟩;go_wp2;clear c0;go_loopw [5,6] (λs k wr=>∃t:Nat,t<=U.length/\k=.int .i64 t/\s=.int .i64 (nK U q t)/\∃m,wr=tp.drewN m) (λ_ k _=>U.length-(intOf k).toNat)
    case atStart=>exact⟨0,by omega,rfl,rfl,0,rfl⟩
    case round=>
     obtain⟨t,aC,rfl,rfl,m,rfl⟩:=hrel;have np:=below_drewN hbel.out m;by_cases fj:t<U.length
     .have c1:=gn.out _ hbel.out t fj;have c2:=gn.out _ hbel.out q hX;rw[<-bO.out]at c2;have awq:=lw.out U[t] (b7 fj);have nr:U[t]?.getD 0=U[t]:=by rw[bH fj,b6]
      have bU:=I (SR U q t);have dA:=KS U q t;have cm:=EU U[t];have VD:mF U t q=(decide (0<U[t]) && (decide (U[t]<b) || (decide (U[t]=b) && decide (t<q)))):=by
       unfold mF;rw[nr,uN.out]
      rw[VD,nr]at bU;have eT:Hid (∀W,0<U[t]->Calls prog 82 #[.int .i64 (11-(U[t]:Int))] W λe w'=>e=.returned (.int .i64 (fl U[t]:Int))/\W=w'):=I (λW am=>by
       have h1:=vR (11-(U[t]:Int)) W (by omega);rw[show(11-(U[t]:Int)).toNat=11-U[t] by omega]at h1;unfold fl;rw[ay (by omega)];exact h1)
      clear VD nr;generalize nK U q t=S at *;generalize fl U[t]=P at *;generalize U[t]=a at *;have HF:(0:Int)<=t:=by omega
      have zc:(0:Int)<=q:=by omega
      by_cases bf:0<a
      .have d1:decide ((0:Int)<a)=true:=cl;have C7:=I (λW=>eT.out W bf);clear eT;by_cases bM:a<b\/(a=b/\t<q)
       .have hS:Hid (nK U q (t+1)=S+P):=I (by rw[bU.out,aA];simp;omega);clear bU;by_cases ev:a<b
        .have d3:decide (a<b)=true:=bG ev;go_wp2_with fail
         go_quiet (fail)
         go_wp2_with fail
         refine(C7.out _).mono ?_;rintro e w' ⟨rfl,rfl⟩;go_wp2;go_roundw
         case rel=>exact⟨t+1,by omega,by go_num,by rw[hS.out];go_num,_,rfl⟩
         case measure=>simp[intOf];omega
        .have d3:decide (a<b)=false:=bF ev;obtain⟨rfl,gx⟩:a=b/\t<q:=by omega
         have d4:decide (t<q)=true:=bG gx;go_wp2_with fail
         go_quiet (fail)
         go_wp2_with fail
         refine(C7.out _).mono ?_;rintro e w' ⟨rfl,rfl⟩;go_wp2;go_roundw
         case rel=>exact⟨t+1,by omega,by go_num,by rw[hS.out];go_num,_,rfl⟩
         case measure=>simp[intOf];omega
       .have hS:Hid (nK U q (t+1)=S):=I (by rw[bU.out,ay (by simp;omega)];omega);have d3:decide (a<b)=false:=aT;clear bU C7;by_cases gx:a=b
        .subst gx;have d4:decide (t<q)=false:=aT;go_wp2_with fail
         go_quiet (fail)
         go_wp2;go_roundw
         case rel=>exact⟨t+1,by omega,by go_num,by rw[hS.out],_,rfl⟩
         case measure=>simp[intOf];omega
        .have d4:((a:Int) == (b:Int))=false:=cz
         go_wp2_with fail
         go_quiet (fail)
         go_wp2;go_roundw
         case rel=>exact⟨t+1,by omega,by go_num,by rw[hS.out],_,rfl⟩
         case measure=>simp[intOf];omega
      .have d1:decide ((0:Int)<a)=false:=aT;have hS:Hid (nK U q (t+1)=S):=I (by rw[bU.out,ay (by simp;omega)];omega);clear bU eT;go_wp2_with fail
       go_quiet (fail)
       go_wp2;go_roundw
       case rel=>exact⟨t+1,by omega,by go_num,by rw[hS.out],_,rfl⟩
       case measure=>simp[intOf];omega
     .obtain rfl:t=U.length:=by omega
      have c2:=gn.out _ hbel.out q hX;rw[<-bO.out]at c2;have eT:Hid (∀W,Calls prog 82 #[.int .i64 (11-(b:Int))] W λe w'=>e=.returned (.int .i64 ((2^(11-b):Nat):Int))/\W=w'):=I (λW=>by
       have h1:=vR (11-(b:Int)) W (by omega);rw[show(11-(b:Int)).toNat=11-b by omega]at h1;exact h1)
      have dA:=KS U q U.length;have vt:0<2^(11-b):=eW _;have ey:Hid (hg U q=nK U q U.length/2^(11-b)):=I acV.out;have jO:(tp.drewN m).cell? ⟨g0,q,none⟩=some (.int .i64 0):=lY.out;have HA:(tp.drewN m).frozen? ⟨g0,q,none⟩=false:=hrow.out.free q;generalize nK U q U.length=S at *;generalize 2^(11-b)=P at *;have Hz:(S:Int)/(P:Int)=((S/P:Nat):Int):=by simp
      have Np:0<=(S:Int)/(P:Int):=by rw[Hz];exact Int.natCast_nonneg _
      have Ek:(S:Int)/(P:Int)<=S:=by rw[Hz];exact Int.ofNat_le.2 (div_le_self S P)
      have ac0:=I Hz;clear Hz;go_wp2_with fail
      refine(eT.out _).mono ?_;rintro e w' ⟨rfl,rfl⟩;go_wp2;go_roundw
      case rel=>
       refine⟨q+1,by omega,by go_num,I ?_,I (np.setCell (by rw[fA.out];exact Nat.le_refl _) _)⟩;have am:Row (tp.drewN m) g0 3 (aM (nO U q)):=hrow.out;rw[bX.out,ey.out];have h1:=am.bm q (.int .i64 ((S:Int)/(P:Int)));rw[show aM ((nO U q).set q (S/P))=(aM (nO U q)).set q (.int .i64 ((S/P:Nat):Int)) by simp[aM,map_set],<-ac0.out];exact h1
      case measure=>simp[intOf];omega
  .obtain rfl:q=U.length:=by omega
   rw[agA]at hrow;go_wp2;go_ret;exact⟨g0,rfl,by rw[fA.out];exact Nat.le_refl _,hrow,hbel⟩
namespace ao
theorem af4(U:ae)(s k:Nat)(h:k<U[s]?.getD 0):(cU U s).take (k+1)=(cU U s).take k++[hg U s/2^(U[s]?.getD 0-1-k)%2]:=by
 have hk:k<(cU U s).length:=by rw[lG];exact h
 rw[gb hk,GF]
theorem agr(U:ae)(s:Nat):hg U s<=1024*U.length:=by
 unfold hg;split
 .omega
 .exact du (div_le_self _ _) (KS U s U.length)
end ao
theorem atn(A:a7)(c:Nat)(U:ae)(s:Nat)(w:ai)(hl:U.length<=1000)(dV:∀x∈U,x<=11)(ap:s<U.length)(aj:Reads w A (aM U)) :
  Calls prog 118 #[.slice A U.length c,.int .i64 s] w λe w'=>∃u,e=.returned u/\w'.ownsRow w.heap.size 3 1 u (U[s]?.getD 0) (aM (cU U s))/\Below w.heap.size w w':=by
 obtain⟨i0,ax,bB,bK,bw⟩:=info_parts oF;have gn:=I (as3 A c U w hl dV aj);have hL:=agr U s;have hget:(aM (lH U))[s]?=some (.int .i64 (hg U s)):=by
  rw[ja _ _ (by unfold lH;simpa using ap)];simp[lH]
 have aut:U[s]?.getD 0<=11:=by
  rw[bH ap,b6];exact dV _ (b7 ap)
 obtain⟨g0,off,rfl,hcell⟩:=kW aj (by omega);have ah:∀W,Below w.heap.size w W->W.cell? ⟨g0,off+s,none⟩=some (.int .i64 (U[s]?.getD 0:Int)):=λW ak=>by
  have h1:=c9 aj ak;obtain⟨g1,off1,e,bL⟩:=kW h1 (by omega);injection e with e
  injection e with aF e2
  subst aF e2;rw[bL s ap,bH ap,b6]
 have b2:=I ah;have qS:=I hget;have JQ:=I (λk h=>af4 U s k h);have l7:=I (lG U s);clear aj hcell hget ah dV;generalize hg U s=C at *;generalize cU U s=ij at *;generalize U[s]?.getD 0=n at *;go_enter func118,ntmps118
 go_wp2_with fail
 refine gn.out.mono ?_;rintro e au ⟨g,rfl,aD,hrow,aH⟩;have d1:=(hrow.cell s).trans qS.out;have d2:=b2.out au aH;have aK:=I aH;clear aH hrow qS b2 gn;go_wp2;go_loopw [5,7] (λu i wr=>∃k:Nat,k<=n/\i=.int .i64 ((n:Int)-1-k)/\Hid (wr.ownsRow w.heap.size 3 1 u k (aM (ij.take k)))/\Hid (Below w.heap.size w wr)) (λ_ i _=>(intOf i+1).toNat)
 case atStart=>exact⟨0,by omega,by simp,I (by rw[take_zero];exact World.ownsRow_nil _ _ _ _),aK⟩
 case round=>
  obtain⟨k,hk,rfl,hown,hbel⟩:=hrel;by_cases lj:k<n
  .obtain⟨q,hq⟩:∃q,n=q+k+1:=⟨n-k-1,by omega⟩;have aF:(n:Int)-1-k=q:=by omega
   rw[aF];have aC:=JQ.out k lj;rw[show n-1-k=q by omega]at aC;have eT:=I (vR (q:Int) wr (by omega));rw[cY]at eT;have cJ:0<2^q:=eW q;have Ba:2^q<=2048:=by
    have af:2^q<=2^11:=dD (by omega) (by omega);have aq:(2:Nat)^11=2048:=by decide
    omega
   have iR:=I hq;have eM:=I aC;clear aC hq;generalize 2^q=P at *;have j3:(C:Int)/(P:Int)=((C/P:Nat):Int):=by simp
   have ox:C/P<=C:=div_le_self _ _;have sC:((C/P:Nat):Int)%2=((C/P%2:Nat):Int):=by omega
   have auZ:((P:Int) == 0)=false:=cz
   have avp:C/P%2<=1:=by omega
   generalize C/P%2=y at *;generalize C/P=x at *;go_wp2_with fail
   refine eT.out.mono ?_;rintro e w' ⟨rfl,rfl⟩;go_wp2_with (at_builtin;refine wpList_append_own _ rfl _ _ 112 rfl w.heap.size 3 i0 (.int .i64 0) 1 8 underlying112 ax bB bK bw rfl (by decide) _ _ _ rfl (hown.out.alloc _) ⟨wr.heap.size,0,none⟩ 1 1 [.int .i64 y] rfl rfl ?c1 ?c2 ?c3 ?c4 ?c5 ?_)
   case c1=>
    intro j u ar;match j,ar with
    | 0,ar=>simp at ar;subst ar;simp[Addr.add]
   case c2=>intro u hu;simp at hu;subst hu;rfl
   case c3=>unfold maxLen;omega
   case c4=>omega
   case c5=>have:=hbel.out.size;simp;omega
   intro gZ aB hown2 rm _;have jy:Below w.heap.size w aB:=(hbel.out.alloc hbel.out.size _).grown rm (by have:=hbel.out.size;simp;omega) (λx e=>(hown.out.lt x e).1);have e:aM (ij.take k)++[Value.int .i64 y]=aM (ij.take (k+1)):=by rw[eM.out];simp[aM]
   rw[e]at hown2;have mv:=I hown2;have rU:=I jy;clear hown2 jy rm e hown hbel;go_wp2;go_roundw
   case rel=>exact⟨k+1,by omega,by have hq:=iR.out;congr 1;omega,mv,rU⟩
   case measure=>simp[intOf]
  .obtain rfl:k=n:=by omega
   have aF:(k:Int)-1-k=-1:=by omega
   rw[aF];go_wp2;go_ret;exact⟨_,rfl,by have h:=hown.out;rwa [take_of_length_le (by rw[l7.out];exact Nat.le_refl _)]at h,hbel⟩
def Fg:Option (ae)->Value
 | none=>.tuple #[.string (strOf []),.bool false]
 | some s=>.tuple #[.string (strOf s),.bool true]
theorem an9(l ag:ae)(h:ag.length<=l.length)(k:Nat)(hk:k<ag.length):l.take (k+1)=ag.take (k+1)↔l.take k=ag.take k/\l[k]=ag[k]:=by
 rw[gb hk,gb (show k<l.length by omega)];constructor
 .intro e;have h1:=append_inj' e rfl;exact⟨h1.1,by simpa using h1.2⟩
 .rintro⟨h1,af⟩;rw[h1,af]
theorem Pb(l ag:ae):ag <+: l↔ag.length<=l.length/\l.take ag.length=ag.take ag.length:=by
 rw[take_length];constructor
 .rintro⟨t,rfl⟩;exact⟨by simp,by rw[take_left'];rfl⟩
 .rintro⟨_,h⟩;exact⟨l.drop ag.length,(congrArg (·++l.drop ag.length) h.symm).trans (gA ag.length l)⟩
theorem atm(A B:a7)(c d:Nat)(l ag:ae)(w:ai)(hl:l.length<=1000000)(hL:ag.length<=1000000)(aj:Reads w A (aM l))(ap:Reads w B (aM ag)) :
  Calls prog 119 #[.slice A l.length c,.slice B ag.length d] w λe w'=>e=.returned (.bool (decide (ag <+: l)))/\∃m,w'=w.drewN m:=by
 obtain⟨r,hres⟩:∃r,r=decide (ag <+: l):=⟨_,rfl⟩;rw[<-hres];have bt:=I hres;have aU:=I aj;have bU:=I ap;clear hres aj ap;by_cases hlen:l.length<ag.length
 .have d1:decide (l.length<ag.length)=true:=bG hlen;have ah:false=r:=by rw[bt.out];exact(bF (λh=>by have:=((Pb l ag).1 h).1;omega)).symm
  have b2:=I ah;clear ah bt;go_enter func119,ntmps119
  go_wp2;go_ret;exact⟨congrArg (λx=>Ending.returned (Value.bool x)) b2,0,rfl⟩
 .have d1:decide (l.length<ag.length)=false:=bF hlen;have c8:Hid (∀k,k<ag.length->l.take (k+1)≠ag.take (k+1)->false=r):=I (λk hk aX=>by
   rw[bt.out];refine(bF (λh=>aX ?_)).symm;have af:=((Pb l ag).1 h).2;have aq:=congrArg (List.take (k+1)) af;rwa [take_take,take_take,Nat.min_eq_left (by omega)]at aq)
  have yG:Hid (l.take ag.length=ag.take ag.length->true=r):=I (λh=>by rw[bt.out];exact(bG ((Pb l ag).2 ⟨by omega,h⟩)).symm);have cb:=I (λk hk=>an9 l ag (by omega) k hk);clear bt;go_enter func119,ntmps119
  go_wp2;go_loopw [5] (λi wr=>∃k m:Nat,k<=ag.length/\i=.int .i64 k/\Hid (l.take k=ag.take k)/\Hid (wr=w.drewN m)) (λi _=>ag.length-(intOf i).toNat)
  case atStart=>exact⟨0,0,by omega,rfl,I (by simp),I rfl⟩
  case round=>
   obtain⟨k,m,hk,rfl,aC,hw⟩:=hrel;have lP:=hw.out;subst lP;by_cases uc:k<ag.length
   .have ak:Below w.heap.size w (w.drewN m):=below_drewN dQ m;obtain⟨g,off,rfl,hc⟩:=kW aU.out (by omega);obtain⟨g1,off1,rfl,bL⟩:=kW bU.out (by omega);have bC:=hc k (by omega);have bf:=bL k uc;have aQ:=cb.out k uc;have fe:=c8.out k uc;have bb:k<l.length:=by omega
    have fb:=I aQ;have Kg:=I fe;clear hc bL aQ fe;generalize l[k]'bb=x at *;generalize ag[k]'uc=y at *;by_cases vU:x=y
    .subst vU;have aG:((x:Int) != (x:Int))=false:=by simp
     have fC:=I (fb.out.2 ⟨aC,rfl⟩);clear fb Kg;go_wp2_with fail
     go_quiet (fail)
     go_wp2;go_roundw
     case rel=>exact⟨k+1,_,by omega,by go_num,fC,I rfl⟩
     case measure=>simp[intOf];omega
    .have aG:((x:Int) != (y:Int))=true:=by rw[bne_iff_ne];omega
     have ah:=Kg.out (λh=>vU (fb.out.1 h).2);have b2:=I ah;clear fb Kg ah;go_wp2_with fail
     go_quiet (fail)
     go_wp2;go_ret;exact⟨congrArg (λx=>Ending.returned (Value.bool x)) b2,_,World.drewN_drewN _ _ _⟩
   .obtain rfl:k=ag.length:=by omega
    have ah:=yG.out aC.out;have b2:=I ah;clear ah;go_wp2;go_ret;exact⟨congrArg (λx=>Ending.returned (Value.bool x)) b2,m,rfl⟩
def Fy(w':ai)(e:Ending):Option (ae)->Prop
 | none=>∃A c,e=.returned (.tuple #[.slice A 0 c,.bool false])
 | some bs=>∃A c,e=.returned (.tuple #[.slice A bs.length c,.bool true])/\bs.length<=c/\Reads w' A (aN bs)
def mV(W:ai)(g:Nat)(U:ae)(q:Nat):Prop:=∃vs:b3,Row W g 178 vs/\vs.length=256 /\
 ∀j,j<q->0<U[j]?.getD 0->∃A c,vs[j]?=some (.slice A (U[j]?.getD 0) c)/\(∀a,A=some a->g<a.block)/\Reads W A (aM (cU U j))
theorem mV.below{W bc:ai}{g q:Nat}{U:ae}(h:mV W g U q)(ak:Below W.heap.size W bc):mV bc g U q:=by
 obtain⟨vs,h1,af,aq⟩:=h;refine⟨vs,h1.keep (ak.block g h1.lt),af,λj ar am=>?_⟩;obtain⟨A,c,e,aS,aj⟩:=aq j ar am;exact⟨A,c,e,aS,c9 aj ak⟩
theorem mV.skip{W:ai}{g q:Nat}{U:ae}(h:mV W g U q)(am:U[q]?.getD 0=0):mV W g U (q+1):=by
 obtain⟨vs,h1,af,aq⟩:=h;refine⟨vs,h1,af,λj ar aw=>?_⟩;rcases eP j q with e | e
 .exact aq j e aw
 .obtain rfl:j=q:=by omega
  omega
theorem mV.set{W:ai}{g q c:Nat}{U:ae}{A:a7}(h:mV W g U q)(hq:q<256)(hA:∀a,A=some a->g<a.block)(aj:Reads W A (aM (cU U q))) :
  mV (W.setCell ⟨g,q,none⟩ (.slice A (U[q]?.getD 0) c)) g U (q+1):=by
 obtain⟨vs,h1,af,aq⟩:=h;refine⟨vs.set q (.slice A (U[q]?.getD 0) c),h1.bm q _,by rw[length_set,af],λj ar aw=>?_⟩;by_cases e:j=q
 .subst e;exact⟨A,c,by rw[getElem?_set_self (by omega)],hA,aah aj (λa e=>by have:=hA a e;show a.block≠g;omega)⟩
 .obtain⟨de,df,e',aS,nt⟩:=aq j (by omega) aw;exact⟨de,df,by rw[getElem?_set_ne (by omega)];exact e',aS,aah nt (λa e=>by have:=aS a e;show a.block≠g;omega)⟩
theorem mV.cell{W:ai}{g q j:Nat}{U:ae}(h:mV W g U q)(ar:j<q)(am:0<U[j]?.getD 0):∃A c,W.cell? ⟨g,j,none⟩=some (.slice A (U[j]?.getD 0) c)/\Reads W A (aM (cU U j)):=by
 obtain⟨vs,h1,af,aq⟩:=h;obtain⟨A,c,e,_,aj⟩:=aq j ar am;exact⟨A,c,(h1.cell j).trans e,aj⟩
theorem mV.any{W:ai}{g q:Nat}{U:ae}(h:mV W g U q)(hq:q<256):(∃v,W.cell? ⟨g,q,none⟩=some v)/\W.frozen? ⟨g,q,none⟩=false/\g<W.heap.size:=by
 obtain⟨vs,h1,af,_⟩:=h;exact⟨⟨vs[q]'(by omega),by rw[h1.cell q,bH (by omega)]⟩,h1.free q,h1.lt⟩
theorem atv(W:ai):Sem.run prog (zeroValue 178) W=.ok (.agg (Array.replicate 256 (.slice none 0 0))) W:=by kernel_rfl
def OA:Option Nat->Int
 | none=>-1
 | some k=>(k:Int)
theorem ato(A:a7)(c n:Nat)(U s:ae)(w:ai)(bg:fw U)(az:n<=100000)(hl:s.length<=1000)(ap:∀x∈s,x<256)(aj:Reads w A (aM U)) :
  Calls prog 77 #[.slice A U.length c,.string (strOf s),.int .i64 n] w λe w'=>Fy w' e (oq U s n)/\Below w.heap.size w w':=by
 obtain⟨i0,ax,bB,bK,bw⟩:=info_parts oG;obtain⟨vL,dV,_⟩:=bg;have akL:=atv;obtain⟨Z,vx⟩:∃Z,Z=Array.replicate 256 (Value.slice none 0 0):=⟨_,rfl⟩;rw[<-vx]at akL;have Rf:=I (λW k (ak:Below w.heap.size w W) (h:k<U.length)=>atn A c U k W (by omega) dV h (c9 aj ak));have aU:=I aj;have lw:=I dV;have hrow:Row (w.alloc (.cells Z 178)) w.heap.size 178 (List.replicate 256 (Value.slice none 0 0)):=by
  rw[vx,<-toArray_replicate];exact Row.new w _ _
 have mN:mV (w.alloc (.cells Z 178)) w.heap.size U 0:=⟨_,hrow,by simp,λj ar=>by omega⟩;have FN:=I mN;have jW:=I ((Below.refl w.heap.size w).alloc bh (.cells Z 178));clear aj dV vx hrow mN;obtain⟨res,hres⟩:∃r,r=oq U s n:=⟨_,rfl⟩;rw[<-hres];have bt:=I hres;clear hres;go_enter func77,ntmps77
 go_wp2;generalize w.alloc (.cells Z 178)=au at *;go_loopw [9] (λi wr=>∃k:Nat,k<=U.length/\i=.int .i64 k/\Hid (mV wr w.heap.size U k)/\Hid (Below w.heap.size w wr)) (λi _=>U.length-(intOf i).toNat)
 case atStart=>exact⟨0,by omega,rfl,FN,jW⟩
 case round=>
  obtain⟨k,hk,rfl,mN,hbel⟩:=hrel;by_cases bb:k<U.length
  .obtain⟨g1,off1,rfl,bL⟩:=kW (c9 aU.out hbel.out) (by omega);have c1:=bL k bb;have fq:U[k]?.getD 0=U[k]:=by rw[bH bb,b6]
   have ix:=I (Rf.out wr k hbel.out bb);have Gd:=I (λh=>mV.skip (q:=k) mN.out h);have gG:=I (λW A c (h:mV W w.heap.size U k)=>mV.set (c:=c) (A:=A) h (by omega));rw[fq]at ix Gd gG;clear bL fq;generalize U[k]=m at *;by_cases hm:m=0
   .have NB:=I (Gd.out hm);subst hm;clear Gd gG mN ix;go_wp2;go_roundw
    case rel=>exact⟨k+1,by omega,by go_num,NB,hbel⟩
    case measure=>simp[intOf];omega
   .have ip:0<m:=by omega
    clear Gd;go_wp2_with fail
    refine ix.out.mono ?_;rintro e aB ⟨u,rfl,b8,aI⟩;obtain⟨fa,c2,rfl,bp,vq⟩:=kU b8;have MB:=mN.out.below aI;obtain⟨⟨v0,d0⟩,f0,hW⟩:=MB.any (show k<256 by omega);obtain⟨_,_,aZ⟩:=mN.out.any (show k<256 by omega);have JW:=I (gG.out aB fa c2 MB (λa e=>by have:=(vq a e).1;omega) bp);have aV:=I ((hbel.out.trans (aI.mono hbel.out.size)).setCell (p:=⟨w.heap.size,k,none⟩) bh (.slice fa m c2));clear b8 bp vq MB aI gG ix mN hbel;go_wp2;go_roundw
    case rel=>exact⟨k+1,by omega,by go_num,JW,aV⟩
    case measure=>simp[intOf];omega
  .obtain rfl:k=U.length:=by omega
   obtain⟨aB,cap2,hcv,hcell,aI⟩:=oo wr s ap;have zy:Reads aB (some ⟨wr.heap.size,0,none⟩) (aN s):=λ_=>⟨_,_,rfl,λj ar=>by
    rw[jn]at ar;rw[eH,hcell j ar,jF s j ar]⟩
   have jz:=IE (some ⟨wr.heap.size,0,none⟩) cap2 s aB (by omega) ap zy (λa e am=>by injection e with e;subst e;exact TA (hcell 0 am));have jX:=I jz;have aV:=b9 hbel aI;have Rm:=I (mN.out.below aI);have vK:(ao.bitsOf (bd s) (8*s.length)).length=8*s.length:=hf _ _;have hres2:res=(iY U n (ao.bitsOf (bd s) (8*s.length))).bind tN:=bt.out;have hR:=I hres2;clear jz aI hcell zy mN hbel Rf bt hres2 FN jW;generalize ao.bitsOf (bd s) (8*s.length)=lm at *;go_wp2_with fail
   refine jX.out.mono ?_;rintro e a1 ⟨u3,rfl,M8,bz⟩;obtain⟨ww,c3,rfl,pR,_⟩:=kU M8;obtain⟨avk,aiN⟩:=BZ M8;have bE:=b9 aV bz;have JW:=I (Rm.out.below bz);have F7:=I pR;clear M8 bz pR aV Rm jX hcv;go_wp2;go_loopw [10,11,12,13,14] (λvW v7 bV _ _ eY=>∃(i vf:Nat) (l acc:ae) (z8:a7),i<=n/\bV=.int .i64 i/\vW=.slice z8 l.length vf/\l.length<=8*s.length/\l.length<=vf/\vf<=maxLen/\acc.length=i/\Hid (Reads a1 z8 (aM l))/\Hid (eY.ownsRow a1.heap.size 5 1 v7 i (aN acc))/\Hid (Below a1.heap.size a1 eY)/\Hid (res=((iY U (n-i) l).map λt=>(acc++t.1,t.2)).bind tN)) (λ_ _ bV _ _ _=>n-(intOf bV).toNat)
   case atStart=>exact⟨0,c3,lm,[],ww,by omega,rfl,by rw[vK],by omega,by omega,aiN,rfl,F7,I (World.ownsRow_nil _ _ _ _),I dQ,I (by rw[hR.out,Nat.sub_zero];cases iY U n lm<;>rfl)⟩
   case round=>
    obtain⟨i,vf,l,acc,z8,avD,rfl,rfl,zj,D5,hj,hacc,bp,hown,hbel,ff⟩:=hrel;rename ai=>eY
    clear F7 hR;by_cases eO:i<n
    .have hdec:iY U (n-i) l=(ny U l).bind λk=>(iY U (n-(i+1)) (l.drop (U[k]?.getD 0))).map λt=>(k :: t.1,t.2):=by
      rw[show n-i=(n-(i+1))+1 by omega,iY]
     rw[hdec]at ff;clear hdec;have AG:=I (bE.out.trans (hbel.out.mono bE.out.size));have JX:=I (JW.out.below hbel);have C2:=I (c9 bp.out hbel);go_wp2;go_loopw [13,14] (λamI iJ Ce=>∃(q m:Nat) (z:Int),q<=U.length/\iJ=.int .i64 q/\amI=.int .i64 z/\-1<=z/\z<=256/\Hid (z=OA (rA U l q))/\Hid (Ce=eY.drewN m)) (λ_ iJ _=>U.length-(intOf iJ).toNat)
     case atStart=>exact⟨0,0,-1,by omega,rfl,rfl,by omega,by omega,I rfl,I rfl⟩
     case round=>
      obtain⟨q,m,z,hq,rfl,rfl,Yj,Yk,aO,hw⟩:=hrel;have NP:=hw.out;subst NP;clear hw;by_cases hX:q<U.length
      .obtain⟨g1,off1,rfl,bL⟩:=kW (c9 aU.out AG.out) (by omega);have c1:=bL q hX;have fq:U[q]?.getD 0=U[q]:=by rw[bH hX,b6]
       have hstep:rA U l (q+1)=if 0<U[q]/\cU U q <+: l then some q else rA U l q:=by rw[rA,fq]
       have kd:=I hstep;have hcell:=λam=>JX.out.cell hX am
       have My:=lG U q;rw[fq]at hcell My;have hle:=lw.out U[q] (b7 hX);clear bL fq hstep;generalize cU U q=ij at *;generalize U[q]=Zj at *;by_cases hm:Zj=0
       .subst hm;have aQ:=kd.out;rw[ay (λh=>by omega)]at aQ;have cb:=I aQ;clear aQ kd hcell My;go_wp2;go_roundw
        case rel=>exact⟨q+1,m,z,by omega,by go_num,rfl,Yj,Yk,I (by rw[cb.out];exact aO),I rfl⟩
        case measure=>simp[intOf];omega
       .have ip:0<Zj:=by omega
        obtain⟨acf,c5,d5,Xd⟩:=hcell ip;subst My;have Q5:=I (λW (ak:Below eY.heap.size eY W)=>atm z8 acf vf c5 l ij W (by omega) (by omega) (c9 C2.out ak) (c9 Xd ak));clear hcell Xd;go_wp2_with fail
        refine(Q5.out _ (below_drewN dQ m)).mono ?_;rintro e axn ⟨rfl,m2,rfl⟩;have aQ:=kd.out;clear Q5 kd;by_cases aw:ij <+: l
        .rw[aA ⟨ip,aw⟩]at aQ;have cb:=I aQ;have vC:decide (ij <+: l)=true:=bG aw;rw[vC];clear aQ vC;go_wp2;go_roundw
         case rel=>exact⟨q+1,_,(q:Int),by omega,by go_num,rfl,by omega,by omega,I (by rw[cb.out];rfl),I rfl⟩
         case measure=>simp[intOf];omega
        .rw[ay (λh=>aw h.2)]at aQ;have cb:=I aQ;have vC:decide (ij <+: l)=false:=bF aw;rw[vC];clear aQ vC;go_wp2;go_roundw
         case rel=>exact⟨q+1,_,z,by omega,by go_num,rfl,Yj,Yk,I (by rw[cb.out];exact aO),I rfl⟩
         case measure=>simp[intOf];omega
      .obtain rfl:q=U.length:=by omega
       have dg:Below eY.heap.size eY (eY.drewN m):=below_drewN dQ m;generalize eY.drewN m=Ce at *;have SL:=b9 AG dg;have lC:=ff;cases pN:ny U l with
       | none=>
        have kk:z=-1:=by rw[aO.out];show OA (ny U l)=-1;rw[pN];rfl
        subst kk;have ah:res=none:=by rw[ff.out,pN];rfl
        have b2:=I ah;clear ah ff lC pN aO hown bp JX C2;go_wp2;go_ret2;rw[b2.out];exact⟨⟨_,_,rfl⟩,SL⟩
       | some k=>
        obtain⟨bb,gv,Wq⟩:=OB U l _ k pN;have kk:z=(k:Int):=by rw[aO.out];show OA (ny U l)=(k:Int);rw[pN];rfl
        subst kk;rw[pN,Option.bind_some]at lC;have qu:=Wq.length_le;rw[lG]at qu;obtain⟨g1,off1,rfl,bL⟩:=kW (c9 aU.out SL.out) (by omega);have fq:U[k]?.getD 0=U[k]:=by rw[bH bb,b6]
        rw[fq]at lC qu gv;have Rd:=I (λW (ak:Below w.heap.size w W)=>show W.cell? ⟨g1,off1+k,none⟩=some (.int .i64 (U[k]:Int))from by
         obtain⟨g2,off2,e,db⟩:=kW (c9 aU.out ak) (by omega);injection e with e
         injection e with aF e2
         subst aF e2;exact db k bb)
        clear ff bL fq Wq pN aO;generalize U[k]=mk at *;have awC:(k:Int)%256=(k:Int):=by omega
        have Kl:=I (own_below hown.out dg);have Cp:=b9 hbel dg;have wE:=I (λW=>Do z8 l.length vf mk W qu D5);have acS:=I (Po (c:=vf) (q:=mk) bp.out D5);have kz:(l.drop mk).length=l.length-mk:=cC ..;have avI:k<256:=by omega
        clear hown hbel C2 JX;go_wp2_with (at_builtin;refine wpList_append_own _ rfl _ _ 87 rfl a1.heap.size 5 i0 (.int .u8 0) 1 1 underlying87 ax bB bK bw rfl (by decide) _ _ _ rfl (Kl.out.alloc _) ⟨Ce.heap.size,0,none⟩ 1 1 [.int .u8 k] rfl rfl ?d1 ?d2 ?d3 ?d4 ?d5 ?_)
        case d1=>
         intro j u ar;match j,ar with
         | 0,ar=>simp at ar;subst ar;simp[Addr.add]
        case d2=>intro u hu;simp at hu;subst hu;rfl
        case d3=>unfold maxLen;omega
        case d4=>omega
        case d5=>have:=Cp.out.size;simp;omega
        intro gZ dt di dn _;have jN:Below a1.heap.size a1 dt:=(Cp.out.alloc Cp.out.size _).grown dn (by have:=Cp.out.size;simp;omega) (λx e=>(Kl.out.lt x e).1);have e:aN acc++[Value.int .u8 k]=aN (acc++[k]):=by simp[aN]
        rw[e]at di;have jq:=I di;have nE:=I jN;have hc17:=Rd.out dt (bE.out.trans (jN.mono bE.out.size));have vA:=wE.out;clear di dn jN e Kl Cp Rd;go_wp2;clear vA;go_roundw
        case rel=>
         refine⟨i+1,vf-mk,l.drop mk,acc++[k],nh z8 vf mk,by omega,by go_num,by rw[kz],by omega,by omega,by omega,by simp[hacc],acS,jq,nE,I ?_⟩;rw[lC.out];cases iY U (n-(i+1)) (l.drop mk)with
         | none=>rfl
         | some t=>simp
        case measure=>simp[intOf];omega
    .obtain rfl:i=n:=by omega
     rw[Nat.sub_self]at ff;have Xo:res=tN (acc,l):=by rw[ff.out];simp[iY]
     have lC:=I Xo;have AG:=I (bE.out.trans (hbel.out.mono bE.out.size));have C2:=I (c9 bp.out hbel);obtain⟨Cf,Dl,rfl,En,_⟩:=kU hown.out;have adR:=I En;have Aj:=I (BZ hown).1;clear ff Xo hown En;go_wp2;go_loopw [15] (λhM Ce=>∃j:Nat,j<=l.length/\j<=7/\hM=.int .i64 j/\Hid (∀x∈l.take j,x=0)/\Hid (Ce=eY)) (λhM _=>l.length-(intOf hM).toNat)
     case atStart=>exact⟨0,by omega,by omega,rfl,I (by simp),I rfl⟩
     case round=>
      obtain⟨j,fr,ajA,rfl,aO,hw⟩:=hrel;have NP:=hw.out;subst NP;clear hw;by_cases ar:j<l.length
      .obtain⟨g1,off1,rfl,bL⟩:=kW C2.out (by omega);have c1:=bL j ar;have fe:¬(l.length<=7/\∀x∈l,x=0)->res=none:=λh=>by rw[lC.out,tN,ay h]
       have hmem:=b7 ar;have iH:l[j]=0->∀x∈l.take (j+1),x=0:=λh x ah=>by
        rw[gb ar]at ah;rcases List.mem_append.1 ah with h1 | h1
        .exact aO.out x h1
        .rw[List.mem_singleton.1 h1];exact h
       have c8:=I (λ(h:l[j]≠0)=>fe (λhh=>h (hh.2 _ hmem)));have F0:=I (λ(h:7<=j)=>fe (λhh=>by omega));have ek:=I iH;clear bL fe hmem iH aO;generalize l[j]=x at *;by_cases nw:x=0
       .subst nw;by_cases c7:j=7
        .subst c7;have b2:=I (F0.out (by omega));clear c8 F0 ek;go_wp2;go_ret2;rw[b2.out];exact⟨⟨_,_,rfl⟩,AG⟩
        .have aed:=I (ek.out rfl);have d7:decide (7<=j)=false:=aT;clear c8 F0 ek;go_wp2;go_roundw
         case rel=>exact⟨j+1,by omega,by omega,by go_num,aed,I (by first | rfl | trivial)⟩
         case measure=>simp[intOf];omega
       .have aup:((x:Int) == 0)=false:=cz
        have b2:=I (c8.out nw);clear c8 F0 ek;go_wp2;go_ret2;rw[b2.out];exact⟨⟨_,_,rfl⟩,AG⟩
      .obtain rfl:j=l.length:=by omega
       have ah:res=some acc:=by
        have h:=aO.out;rw[take_of_length_le bh]at h;rw[lC.out,tN,aA ⟨ajA,h⟩]
       have b2:=I ah;have e1:=I hacc;clear ah aO hacc;go_wp2;go_ret2;rw[b2.out];exact⟨⟨Cf,Dl,by rw[e1.out];rfl,by rw[e1.out];exact Aj,adR⟩,AG⟩
theorem T1(A:a7)(L c q:Nat)(W:ai)(h:q<=L)(hc:L<=c):(Instr.slice 112 (.slice A L c) none (some (.int .i64 q)) none).run prog W=.ok (.slice A q c) W:=by
 have h1:q<=c:=by omega
 rcases A with _ | a
 .go_simp
 .go_simp
def Ci(l:List Int)(k:Nat):Prop:=k<=l.length/\(∀j (h:j<l.length),k<=j->l[j]=0)/\(k=0\/∃h:k-1<l.length,l[k-1]≠0)
theorem ah0(A:a7)(c:Nat)(l:List Int)(w:ai)(hl:l.length<=1000000000)(hc:l.length<=c)(aj:Reads w A (gL l)) :
  Calls prog 153 #[.slice A l.length c] w λe w'=>∃k,e=.returned (.slice A k c)/\Ci l k/\w=w':=by
 have aU:=I aj;have k2:=I (λq (hq:q<=l.length) W=>T1 A l.length c q W hq hc);clear aj;go_enter func153,ntmps153
 go_wp2;go_loop [3] (λn=>∃k:Nat,k<=l.length/\n=.int .i64 k/\Hid (∀j (h:j<l.length),k<=j->l[j]=0)) (λn=>(intOf n).toNat)
 case atStart=>exact⟨l.length,Nat.le_refl _,rfl,I (λj h hk=>by omega)⟩
 case round=>
  obtain⟨k,hk,rfl,aO⟩:=hrel;have hcut:=k2.out k hk;rcases eq_zero_or_pos k with am | am
  .subst am;clear aU k2;go_wp2;go_ret;exact⟨0,rfl,⟨by omega,aO.out,.inl rfl⟩,rfl⟩
  .obtain⟨q,rfl⟩:∃q,k=q+1:=⟨k-1,by omega⟩;obtain⟨g,off,rfl,hcell⟩:=wb aU.out (by omega);have c0:=hcell q (by omega);have Ed:l[q]≠0->Ci l (q+1):=λh=>⟨hk,aO.out,.inr ⟨by omega,h⟩⟩
   have gS:l[q]=0->∀j (h:j<l.length),q<=j->l[j]=0:=λh j ar hq=>by
    by_cases e:j=q
    .subst e;exact h
    .exact aO.out j ar (by omega)
   have uQ:=I Ed;have nG:=I gS;have zu:((q+1:Nat):Int)-1=q:=by omega
   clear hcell Ed gS aU k2;generalize l[q]=z at c0 uQ nG;by_cases kk:z=0
   .subst kk;have bX:=I (nG.out rfl);clear uQ nG hcut;go_wp2;go_round
    case rel=>exact⟨q,by omega,by go_num,bX⟩
    case measure=>simp[intOf]
   .have aG:(z == 0)=false:=by simpa using kk
    have eS:=I (uQ.out kk);clear uQ nG;go_wp2;go_ret;exact⟨q+1,rfl,eS,rfl⟩
namespace ao
theorem PE:∀(U:ae) (k:Nat),k<=U.length->(∀j,k<=j->U[j]?.getD 0=0)->(k=0\/U[k-1]?.getD 0≠0)->cB U=U.take k
 | [],k,hk,_,_=>by simp[cB]
 | n :: l,k,hk,aO,hl=>by
  have hsum:∀l:ae,(∀j,l[j]?.getD 0=0)->l.sum=0:=λl=>by
   induction l with
   | nil=>simp
   | cons a l ih=>
    intro h;have am:=h 0;rw[dR,b6]at am;rw[sum_cons,am,ih (λj=>by have:=h (j+1);rwa [dU]at this)]
  have akg:∀(l:ae) (j:Nat),l.sum=0->l[j]?.getD 0=0:=λl=>by
   induction l with
   | nil=>intro j _;simp
   | cons a l ih=>
    intro j h;rw[sum_cons]at h;cases j with
    | zero=>rw[dR,b6];omega
    | succ j=>rw[dU];exact ih j (by omega)
  unfold cB;rcases k with _ | k
  .rw[aA (by have:=hsum (n :: l) (λj=>aO j (by omega));rwa [sum_cons]at this),take_zero]
  .have aX:¬(n+l.sum=0):=λh=>by
    rcases hl with h1 | h1
    .omega
    .exact h1 (akg (n :: l) _ (by rw[sum_cons];exact h))
   rw[ay aX,take_succ_cons];congr 1
   refine PE l k (by simpa using hk) (λj ar=>by have:=aO (j+1) (by omega);rwa [dU]at this) ?_;rcases hl with h1 | h1
   .omega
   .rcases k with _ | k
    .exact .inl rfl
    .refine .inr ?_;rw[Nat.add_sub_cancel,dU]at h1;rw[Nat.add_sub_cancel];exact h1
end ao
theorem aaQ(U:ae)(k:Nat)(h:Ci (U.map (λn:Nat=>(n:Int))) k):cB U=U.take k/\k=(cB U).length/\k<=U.length:=by
 obtain⟨h1,af,aq⟩:=h;rw[cQ]at h1;have e:cB U=U.take k:=by
  refine PE U k h1 (λj ar=>?_) ?_
  .rcases eP j U.length with aJ | aJ
   .have aR:=af j (by rw[cQ];exact aJ) ar;rw[getElem_map]at aR;rw[bH aJ,b6];omega
   .rw[getElem?_eq_none aJ];rfl
  .rcases aq with aJ | ⟨aJ,aR⟩
   .exact .inl aJ
   .right
    rw[cQ]at aJ;rw[getElem_map]at aR;rw[bH aJ,b6];omega
 exact⟨e,by rw[e,cq];omega,h1⟩
theorem aak{w:ai}{A:a7}{xs:b3}(h:Reads w A xs)(k:Nat):Reads w A (xs.take k):=λaX=>by
 obtain⟨g,off,e,hc⟩:=h (by rintro rfl;simp at aX);refine⟨g,off,e,λj ar=>?_⟩;rw[cq]at ar;rw[hc j (by omega),getElem?_take,aA (by omega)]
def E8(k m x:Int):Int:=bits .or .u32 (bits .and .u32 (x/k) m) (bits .and .u32 x m*k%4294967296)
def aae(x:Int):Int:=bits .or .u32 (E8 256 16711935 x/65536) (E8 256 16711935 x*65536%4294967296)
def Pt(x:Int):Int:=aae (E8 16 252645135 (E8 4 858993459 (E8 2 1431655765 x)))
theorem apy(x:Int)(w:ai) :
  Calls prog 209 #[.int .u32 x] w λe w'=>e=.returned (.int .u32 (aae x))/\w=w':=by
 go_enter func209,ntmps209
 go_wp2;go_ret;exact⟨rfl,rfl⟩
theorem apw(x:Int)(w:ai) :
  Calls prog 176 #[.int .u32 x] w λe w'=>e=.returned (.int .u32 (Pt x))/\w=w':=by
 have H:=I (λy=>apy y w);go_enter func176,ntmps176
 go_wp2_with fail
 refine(H.out _).mono ?_;rintro e w' ⟨rfl,rfl⟩;go_wp2;go_ret;exact⟨rfl,rfl⟩
namespace ao
def H4(n c:Nat):ae:=(List.range n).map λj=>c/2^(n-1-j)%2
theorem af5(U:ae)(s:Nat):cU U s=H4 (U[s]?.getD 0) (hg U s):=rfl
end ao
theorem ap2:((List.range 12).all λn=>(List.range (2^n)).all λc=>Pt (c:Int)/2^(32-n) == ((hJ (H4 n c):Nat):Int))=true:=by kernel_rfl
theorem ap3(n c:Nat)(az:n<=11)(hc:c<2^n):Pt (c:Int)/2^(32-n)=((hJ (H4 n c):Nat):Int):=by
 have h:=ap2;rw[List.all_eq_true]at h;have h1:=h n (List.mem_range.2 (by omega));rw[List.all_eq_true]at h1;exact beq_iff_eq.1 (h1 c (List.mem_range.2 hc))
theorem al2(n c:Nat)(w:ai)(az:n<=11)(hc:c<2^n) :
  Calls prog 143 #[.int .i64 c,.int .i64 n] w λe w'=>e=.returned (.int .u32 (hJ (H4 n c):Int))/\w=w':=by
 have H:=I (apw (c:Int) w);have db:c<2048:=gV hc (dD (n:=2) (j:=11) (by omega) az);have fI:=I (ap3 n c az hc);have ri:IntKind.u32.wrap (c:Int)=c:=by simp[IntKind.wrap,IntKind.bits,IntKind.signed];omega
 clear hc;go_enter func143,ntmps143
 go_wp2_with fail
 refine H.out.mono ?_;rintro e w' ⟨rfl,rfl⟩;go_wp2;go_ret;exact⟨congrArg (λx=>Ending.returned (Value.int .u32 x)) fI,rfl⟩
theorem Qc(A:a7)(c:Nat)(l:List Int)(w:ai)(hl:l.length<=9223372036854775807)(aj:Reads w A (gL l)) :
  Calls prog 138 #[.slice A l.length c] w λe w'=>e=.returned (.bool (decide (oY l)))/\w=w':=by
 have aU:=I aj;obtain⟨r,hres⟩:∃r,r=decide (oY l):=⟨_,rfl⟩;rw[<-hres];have fe:∀P:Prop,(oY l->P)->¬P->false=r:=λP h aw=>by
  rw[hres];symm;exact bF (λh1=>aw (h h1))
 have c8:=I fe;have bt:=I hres;clear aj hres fe;by_cases aq:256<l.length
 .have aL:false=r:=c8.out (l.length<=256) (λh=>h.1) (by omega);rw[<-aL];go_enter func138,ntmps138
  go_wp2;go_ret;exact⟨rfl,rfl⟩
 go_enter func138,ntmps138
 go_wp2;go_loop [10] (λi=>∃k:Nat,k<=l.length/\i=.int .i64 k/\∀x∈l.take k,0<=x/\x<=11) (λi=>l.length-(intOf i).toNat)
 case atStart=>exact⟨0,by omega,rfl,by simp⟩
 case round=>
  obtain⟨k,hk,rfl,hall⟩:=hrel;by_cases bb:k<l.length
  .obtain⟨g,off,rfl,hc⟩:=wb aU.out (by omega);have c0:=hc k bb;have jp:=I (SU (λx=>0<=x/\x<=11) l k bb hall);have ci:=I (b7 bb);clear hc hall bt;generalize l[k]=z at c0 jp ci;by_cases aO:z<0
   .have aL:false=r:=c8.out (0<=z) (λh=>(h.2 z ci.out).1) (by omega);have bk:=I aL;clear aL;go_wp2;go_ret;exact⟨congrArg (λx=>Ending.returned (Value.bool x)) bk,rfl⟩
   by_cases bw:11<z
   .have aL:false=r:=c8.out (z<=11) (λh=>(h.2 z ci.out).2) (by omega);have bk:=I aL;clear aL;go_wp2;go_ret;exact⟨congrArg (λx=>Ending.returned (Value.bool x)) bk,rfl⟩
   go_wp2;go_round
   case rel=>exact⟨k+1,by omega,by go_num,jp.out (by omega)⟩
   case measure=>simp[intOf];omega
  .obtain rfl:k=l.length:=by omega
   rw[take_length]at hall;have hres:true=r:=by
    rw[bt.out];symm
    exact bG ⟨by omega,hall⟩
   clear aU c8 bt hall;have bk:=I hres;clear hres;go_wp2;go_ret;exact⟨congrArg (λx=>Ending.returned (Value.bool x)) bk,rfl⟩
namespace ao
theorem alK(U:ae)(k L:Nat)(h:k<U.length)(am:jm (U.take k)=0->fF (U.take k)=0)(h1:jm (U.take k)=1->fF (U.take k)=fl L) :
  (jm (U.take (k+1))=0->fF (U.take (k+1))=0)/\(jm (U.take (k+1))=1->fF (U.take (k+1))=fl (if 0<U[k]then U[k]else L)):=by
 obtain⟨aF,e2⟩:=Oc U k h;rw[aF,e2];by_cases aw:0<U[k]
 .rw[aA aw,aA aw];exact⟨λh=>by omega,λh=>by rw[am (by omega)];omega⟩
 .have aO:U[k]=0:=by omega
  have Nn:fl U[k]=0:=by unfold fl;rw[aA aO]
  rw[ay aw,ay aw,Nn];exact⟨λh=>by rw[am (by omega)],λh=>by rw[h1 (by omega)];rfl⟩
theorem anD(L:Nat)(h:L<=11):fl L=1024↔L=1:=by
 have:∀n:Fin 12,(fl n.1=1024)↔n.1=1:=by decide
 exact this ⟨L,by omega⟩
theorem anE(n:Nat)(h:n<=11)(am:0<n):2048/2^n=fl n:=by
 have:∀n:Fin 12,0<n.1->2048/2^n.1=fl n.1:=by decide
 exact this ⟨n,by omega⟩ am
end ao
theorem asT(A:a7)(c:Nat)(l:List Int)(w:ai)(hl:l.length<=9223372036854775807)(aj:Reads w A (gL l))(cS:¬oY l) :
  Calls prog 140 #[.slice A l.length c] w λe w'=>e=.returned (.bool false)/\w=w':=by
 have iy:=I (Qc A c l w hl aj);rw[bF cS]at iy;clear aj cS;go_enter func140,ntmps140
 go_wp2_with fail
 refine iy.out.mono ?_;rintro e w' ⟨rfl,rfl⟩;go_wp2;go_ret;exact⟨rfl,rfl⟩
theorem asS(A:a7)(c:Nat)(U:ae)(w:ai)(hl:U.length<=256)(dV:∀x∈U,x<=11)(aj:Reads w A (aM U))(hmay:Calls prog 138 #[.slice A U.length c] w λe w'=>e=.returned (.bool true)/\w=w') :
  Calls prog 140 #[.slice A U.length c] w λe w'=>e=.returned (.bool (decide (fF U=2048\/(jm U=1/\fF U=1024))))/\w=w':=by
 have iy:=I hmay;have aU:=I aj;have lw:=I dV;clear aj dV hmay;obtain⟨r,hres⟩:∃r,r=decide (fF U=2048\/(jm U=1/\fF U=1024)):=⟨_,rfl⟩;rw[<-hres];have bt:=I hres;clear hres;go_enter func140,ntmps140
 go_wp2_with fail
 refine iy.out.mono ?_;rintro e w' ⟨rfl,rfl⟩;clear iy;go_wp2;go_loop [3,4,5,13] (λt s z i=>∃(k L:Nat),k<=U.length/\L<=11/\i=.int .i64 k/\s=.int .i64 (fF (U.take k):Int)/\t=.int .i64 (jm (U.take k):Int)/\z=.int .i64 L/\Hid ((jm (U.take k)=0->fF (U.take k)=0)/\(jm (U.take k)=1->fF (U.take k)=fl L))) (λ_ _ _ i=>U.length-(intOf i).toNat)
 case atStart=>exact⟨0,0,by omega,by omega,rfl,rfl,rfl,rfl,I ⟨λ_=>rfl,λh=>by simp[jm]at h⟩⟩
 case round=>
  obtain⟨k,L,hk,bR,rfl,rfl,rfl,rfl,hlast⟩:=hrel;by_cases bb:k<U.length
  .obtain⟨g,off,rfl,hc⟩:=kW aU.out (by omega);have c0:=hc k bb;have cb:=I (Oc U k bb);have oe:=I (alK U k L bb hlast.out.1 hlast.out.2);have ud:=YJ (U.take k);have Ev:=aaZ (U.take k);rw[cq,Nat.min_eq_left (by omega)]at ud Ev;have dV:=lw.out U[k] (b7 bb);have cm:=EU U[k];have oW:=I (anE U[k] dV);have wP:Hid (U[k]=0->fl U[k]=0):=I (λh=>by unfold fl;rw[aA h]);clear hc hlast;generalize fF (U.take k)=K at *;generalize jm (U.take k)=M at *;generalize cJ:fl U[k]=P at cm oW wP cb;clear cJ;generalize U[k]=x at *;by_cases ah:0<x
   .have nu:=oW.out ah;have h8:=oe.out;simp only[aA ah]at h8;have Ap:=I h8;clear oW wP oe h8;have awm:(2048:Int)/2^x=(P:Int):=by rw[<-nu];simp
    clear nu;go_wp2;go_round
    case rel=>exact⟨k+1,x,by omega,by omega,by go_num,by rw[cb.out.1];go_num,by rw[cb.out.2,aA ah];go_num,rfl,Ap⟩
    case measure=>simp[intOf];omega
   .have vt:=wP.out (by omega);have h8:=oe.out;simp only[ay ah]at h8;have Ap:=I h8;subst vt;clear oW wP oe h8;go_wp2;go_round
    case rel=>exact⟨k+1,L,by omega,by omega,by go_num,by rw[cb.out.1];go_num,by rw[cb.out.2,ay ah];go_num,rfl,Ap⟩
    case measure=>simp[intOf];omega
  .obtain rfl:k=U.length:=by omega
   rw[take_length]at hlast;rw[take_length];clear aU lw;have i6:=anD L bR;generalize fl L=P at *;generalize fF U=K at *;generalize jm U=M at *;by_cases h1:K=2048
   .have d1:((K:Int) == 2048)=true:=by rw[h1];rfl
    have bk:Hid (true=r):=I (by rw[bt.out,bG (.inl h1)]);clear h1 bt i6;go_wp2;go_ret;exact⟨congrArg (λx=>Ending.returned (Value.bool x)) bk,rfl⟩
   .have d1:((K:Int) == 2048)=false:=cz
    by_cases af:M=1
    .have d2:((M:Int) == 1)=true:=by rw[af];rfl
     have hK:=hlast.out.2 af;have bk:Hid (((L:Int) == 1)=r):=I (by
      rw[bt.out,Bool.eq_iff_iff,beq_iff_eq,decide_eq_true_iff];omega)
     clear h1 af bt i6 hK hlast;go_wp2;go_ret;exact⟨congrArg (λx=>Ending.returned (Value.bool x)) bk,rfl⟩
    .have d2:((M:Int) == 1)=false:=cz
     have bk:Hid (false=r):=I (by rw[bt.out,bF (by omega)]);clear h1 af bt i6 hlast;go_wp2;go_ret;exact⟨congrArg (λx=>Ending.returned (Value.bool x)) bk,rfl⟩
theorem Qe(A:a7)(c:Nat)(l:List Int)(w:ai)(hl:l.length<=9223372036854775807)(aj:Reads w A (gL l)) :
  Calls prog 140 #[.slice A l.length c] w λe w'=>e=.returned (.bool (decide (mD l)))/\w=w':=by
 by_cases cS:oY l
 .have hm:=Qc A c l w hl aj;rw[bG cS]at hm;obtain⟨aF,dV,Ds⟩:=H2 l cS;have tS:=cS.1;have bg:mD l↔(fF (l.map Int.toNat)=2048\/(jm (l.map Int.toNat)=1/\fF (l.map Int.toNat)=1024)):=by
   unfold mD fw;exact⟨λh=>h.2.2.2,λh=>⟨cS,by omega,dV,h⟩⟩
  have aG:decide (mD l)=decide (fF (l.map Int.toNat)=2048\/(jm (l.map Int.toNat)=1/\fF (l.map Int.toNat)=1024)):=decide_eq_decide.2 bg;rw[aG];have bS:Reads w A (aM (l.map Int.toNat)):=by rw[<-jT,<-aF];exact aj
  have h:=asS A c (l.map Int.toNat) w (by omega) dV bS (by rw[Ds];exact hm);rw[Ds]at h;exact h
 .have aL:decide (mD l)=false:=bF (λh=>cS h.1);rw[aL];exact asT A c l w hl aj cS
namespace ao
theorem apD(l:List Int)(h:Right l):l=(l.map Int.toNat).map (λn:Nat=>(n:Int))/\(∀x∈l.map Int.toNat,x<=1048576)/\(l.map Int.toNat).length=l.length:=by
 refine⟨?_,?_,by simp⟩
 .rw[List.map_map];conv=>lhs;rw[<-List.map_id l]
  apply map_congr_left
  intro x ah;have:=h.2.1 x ah;simp only[Function.comp_apply,id];omega
 .intro x ah;obtain⟨y,hy,rfl⟩:=List.mem_map.1 ah;have:=h.2.1 y hy;omega
end ao
theorem Zu(A:a7)(c:Nat)(l:List Int)(w:ai)(hl:l.length<=maxLen)(aj:Reads w A (gL l)) :
  Calls prog 136 #[.slice A l.length c] w λe w'=>e=.returned (.bool (rD l))/\w=w':=by
 by_cases h:l.length<=1000000000
 .exact OL A c l w h aj
 .unfold maxLen at hl;have aL:rD l=false:=bF (λh1=>by have:=h1.1;omega);rw[aL];clear aj aL;go_enter func136,ntmps136
  go_wp2;go_ret;exact⟨rfl,rfl⟩
namespace ao
theorem zG{p q:Prop} [Decidable p] [Decidable q](h:p↔q)(a b:Nat):(if p then a else b)=if q then a else b:=by
 by_cases hq:q
 .rw[aA hq,aA (h.2 hq)]
 .rw[ay hq,ay (λaw=>hq (h.1 aw))]
def kQ(U:ae)(m q k:Nat):Prop:=0<U[k]?.getD 0/\(U[k]?.getD 0<m\/(U[k]?.getD 0=m/\k<q))
instance (U:ae) (m q k:Nat):Decidable (kQ U m q k):=by unfold kQ;exact inferInstance
def mo(U:ae)(m q:Nat):Nat:=((List.range U.length).map λk=>if kQ U m q k then fl (U[k]?.getD 0)else 0).sum
def kP(U:ae)(m q:Nat):ae:=(List.range U.length).map λk=>if kQ U m q k then hg U k else 0
theorem TH(U:ae)(m q:Nat):(kP U m q).length=U.length:=by simp[kP]
theorem an5(U:ae)(m q:Nat)(h:q<U.length)(am:0<m)(he:U[q]?.getD 0=m):mo U m (q+1)=mo U m q+fl m:=by
 have e:fl m=((List.range U.length).map λk=>if k=q then fl m else 0).sum:=by rw[zW,aA h]
 conv=>rhs;rw[e]
 unfold mo;rw[<-xY];congr 1
 apply map_congr_left
 intro k _;by_cases hk:k=q
 .subst hk;rw[aA (show kQ U m (k+1) k by unfold kQ;omega),ay (show ¬kQ U m k k by unfold kQ;omega),aA rfl,he,eH]
 .rw[ay hk,ga];exact zG (by unfold kQ;omega) _ _
theorem Ua(U:ae)(m q:Nat)(he:U[q]?.getD 0≠m)(k:Nat):kQ U m (q+1) k↔kQ U m q k:=by
 unfold kQ;by_cases hk:k=q
 .subst hk;omega
 .omega
theorem an7(U:ae)(m q:Nat)(he:U[q]?.getD 0≠m):mo U m (q+1)=mo U m q:=by
 unfold mo;congr 1
 apply map_congr_left
 intro k _;exact zG (Ua U m q he k) _ _
theorem agy(U:ae)(m q:Nat)(he:U[q]?.getD 0≠m):kP U m (q+1)=kP U m q:=by
 unfold kP;apply map_congr_left
 intro k _;exact zG (Ua U m q he k) _ _
theorem T9(U:ae)(m:Nat)(k:Nat)(hk:k<U.length):kQ U m U.length k↔kQ U (m+1) 0 k:=by unfold kQ;omega
theorem an6(U:ae)(m:Nat):mo U m U.length=mo U (m+1) 0:=by
 unfold mo;congr 1
 apply map_congr_left
 intro k hk;exact zG (T9 U m k (List.mem_range.1 hk)) _ _
theorem agx(U:ae)(m:Nat):kP U m U.length=kP U (m+1) 0:=by
 unfold kP;apply map_congr_left
 intro k hk;exact zG (T9 U m k (List.mem_range.1 hk)) _ _
theorem an8(U:ae):mo U 1 0=0:=by
 unfold mo;have:∀L:ae,(L.map λk=>if kQ U 1 0 k then fl (U[k]?.getD 0)else 0).sum=0:=λL=>by
  induction L with
  | nil=>rfl
  | cons k L ih=>
   rw[map_cons,sum_cons,ih,ay (by unfold kQ;omega)]
 exact this _
theorem agz(U:ae):kP U 1 0=List.replicate U.length 0:=by
 unfold kP;rw[map_congr_left (g:=λ_=>0) (λk _=>ay (by unfold kQ;omega)),map_const',length_range]
theorem agv(U:ae)(h:∀x∈U,x<=11):kP U 12 0=lH U:=by
 unfold kP lH;apply map_congr_left
 intro k hk;have hk:=List.mem_range.1 hk;have h1:U[k]?.getD 0<=11:=by rw[bH hk,b6];exact h _ (b7 hk)
 by_cases am:U[k]?.getD 0=0
 .rw[ay (by unfold kQ;omega)];unfold hg;rw[aA am]
 .rw[aA (by unfold kQ;omega)]
theorem an3(U:ae)(m q:Nat)(he:U[q]?.getD 0=m):pC U q=mo U m q:=by
 unfold pC nK mo;congr 1
 apply map_congr_left
 intro k _;refine zG ?_ _ _;unfold mF kQ;rw[he];simp only[Bool.and_eq_true,Bool.or_eq_true,decide_eq_true_eq]
theorem an4(U:ae)(m q:Nat):mo U m q<=fF U:=by
 rw[HY];unfold mo;apply Fi
 intro k _;split
 .exact Nat.le_refl _
 .exact zero_le _
theorem agw(U:ae)(m q:Nat)(am:0<m)(he:U[q]?.getD 0=m):kP U m (q+1)=(kP U m q).set q (hg U q):=by
 apply ext_getElem
 .simp[TH]
 .intro k h1 af;rw[getElem_set];simp only[kP,getElem_map,getElem_range];by_cases hk:q=k
  .subst hk;rw[aA rfl,aA (by unfold kQ;omega)]
  .rw[ay hk];exact zG (by unfold kQ;omega) _ _
theorem agq(U:ae)(m q N:Nat)(am:0<m)(he:U[q]?.getD 0=m)(cV:N*2^(11-m)=mo U m q):hg U q=N:=by
 unfold hg;rw[he,ay (by omega),an3 U m q he,<-cV,Nat.mul_div_cancel _ (eW _)]
theorem ara(N m X:Nat)(am:0<m)(h:m<=11)(cV:N*2^(12-m)=X):2*N*2^(11-m)=X:=by
 rw[<-cV,show 12-m=(11-m)+1 by omega,ej,eQ 2 N,Nat.mul_assoc,eQ 2]
theorem aq9(N m X:Nat)(h:m<=11)(am:0<m)(cV:N*2^(11-m)=X):(N+1)*2^(11-m)=X+fl m:=by
 unfold fl;rw[ay (by omega),Nat.add_mul,cV,Nat.one_mul]
theorem TG(N e X:Nat)(h:N*2^e=X)(cK:X<=2048):N<=2048:=du (by rw[<-h];exact Nat.le_mul_of_pos_right _ (eW _)) cK
end ao
theorem ase(A:a7)(c:Nat)(U:ae)(w:ai)(hl:U.length<=256)(dV:∀x∈U,x<=11)(ud:fF U<=2048)(aj:Reads w A (aM U))(mg:Calls prog 140 #[.slice A U.length c] w λe w'=>e=.returned (.bool true)/\w=w') :
  Calls prog 142 #[.slice A U.length c] w λe w'=>∃g,e=.returned (.tuple #[.slice (some ⟨g,0,none⟩) U.length U.length,.bool true])/\Row w' g 3 (aM (lH U))/\w.heap.size<=g/\Below w.heap.size w w':=by
 obtain⟨i0,ax,bB,bK,bw⟩:=info_parts oF;have aU:=I aj;have lw:=I dV;have lD:=I mg;have m7:=I (λm q=>du (an4 U m q) ud);clear aj dV mg ud;obtain⟨g0,hW⟩:∃g,g=w.heap.size:=⟨_,rfl⟩;have fA:=I hW;clear hW;go_enter func142,ntmps142
 go_wp2_with fail
 refine lD.out.mono ?_;rintro e w' ⟨rfl,rfl⟩;clear lD;go_wp2_with (at_make;refine wpList_make_full _ rfl _ _ 112 rfl w.heap.size 3 i0 (.int .i64 0) 1 underlying112 ax bB bK .i64 .i64 _ _ U.length rfl rfl ?c1 ?c1 ?c2 ?c3 ?c4 ?_)
 case c1=>omega
 case c2=>first | omega | (rw[bw];omega)
 case c3=>unfold maxLen;omega
 try case c4=>exact Nat.le_refl _
 intro au hown1 aZ;have aH:=k8 aZ;have cd:=ut hown1;rw[<-fA.out]at cd ⊢;have aK:=I aH;rw[<-agz U]at cd;have dx:=I cd;clear hown1 aZ aH cd ax bB bK bw;go_wp2;go_loopw [5,6] (λBX H6 wr=>∃(N m:Nat),BX=.int .i64 N/\H6=.int .i64 m/\0<m/\m<=12/\N<=2048/\Hid (N*2^(12-m)=mo U m 0)/\Hid (Row wr g0 3 (aM (kP U m 0)))/\Hid (Below w.heap.size w wr)) (λ_ H6 _=>12-(intOf H6).toNat)
 case atStart=>exact⟨0,1,rfl,rfl,by omega,by omega,by omega,I (by rw[an8,Nat.zero_mul]),dx,aK⟩
 case round=>
  obtain⟨N,m,rfl,rfl,ip,avZ,cV,hpre,hrow,hbel⟩:=hrel;clear dx aK;by_cases hm:m<=11
  .have CY:=I (ara N m _ ip hm hpre);have Hq:=TG _ _ _ CY.out (m7.out m 0);clear hpre;go_wp2;rename ai=>eY
   go_loopw [5,23] (λBX bV wr=>∃(mB q:Nat),q<=U.length/\BX=.int .i64 mB/\bV=.int .i64 q/\mB<=2048/\Hid (mB*2^(11-m)=mo U m q)/\Hid (Row wr g0 3 (aM (kP U m q)))/\Hid (Below w.heap.size w wr)) (λ_ bV _=>U.length-(intOf bV).toNat)
   case atStart=>exact⟨2*N,0,by omega,by go_num,rfl,Hq,CY,hrow,hbel⟩
   case round=>
    obtain⟨mB,q,hq,rfl,rfl,UX,zt,hrow2,jy⟩:=hrel;clear hrow hbel CY;by_cases hX:q<U.length
    .obtain⟨g,off,rfl,hc⟩:=kW (c9 aU.out jy.out) (by omega);have c0:=hc q hX;have Ye:=lw.out U[q] (b7 hX);have pH:U[q]?.getD 0=U[q]:=by rw[bH hX,b6]
     have uN:=I pH;clear hc pH;obtain⟨x,ah⟩:∃x,x=U[q]:=⟨_,rfl⟩;rw[<-ah]at c0 Ye uN;clear ah;by_cases NQ:x=m
     .subst NQ;have nH:=I (aq9 mB x _ hm ip zt);rw[<-an5 U x q hX ip uN.out]at nH;have aio:=TG _ _ _ nH.out (m7.out x (q+1));have ix:=I (agw U x q ip uN);rw[agq U x q mB ip uN.out zt.out]at ix;have hlen:(aM (kP U x q)).length=U.length:=by rw[gw,TH]
      have hcell:∃v,wr.cell? ⟨g0,q,none⟩=some v:=⟨_,(hrow2.out.cell q).trans (bH (by omega))⟩;obtain⟨v0,jO⟩:=hcell;have HA:wr.frozen? ⟨g0,q,none⟩=false:=hrow2.out.free q;have hrow3:Row (wr.setCell ⟨g0,q,none⟩ (.int .i64 mB)) g0 3 (aM (kP U x (q+1))):=by
       have h1:=hrow2.out.bm q (.int .i64 mB);rw[ix.out,show aM ((kP U x q).set q mB)=(aM (kP U x q)).set q (.int .i64 mB) by simp[aM,map_set]];exact h1
      have kq:=I hrow3;have JN:=I (jy.out.setCell (p:=⟨g0,q,none⟩) (by rw[fA.out];exact Nat.le_refl _) (.int .i64 mB));clear hrow3 hlen hrow2 jy zt ix;go_wp2;go_roundw
      case rel=>exact⟨mB+1,q+1,by omega,by go_num,by go_num,aio,nH,kq,JN⟩
      case measure=>simp[intOf];omega
     .have nH:Hid (mB*2^(11-m)=mo U m (q+1)):=I (by rw[an7 U m q (by rw[uN.out];exact NQ)];exact zt);have kq:Hid (Row wr g0 3 (aM (kP U m (q+1)))):=I (by rw[agy U m q (by rw[uN.out];exact NQ)];exact hrow2);have aX:((x:Int) == (m:Int))=false:=cz
      clear hrow2 zt;go_wp2;go_roundw
      case rel=>exact⟨mB,q+1,by omega,rfl,by go_num,UX,nH,kq,jy⟩
      case measure=>simp[intOf];omega
    .obtain rfl:q=U.length:=by omega
     have adF:Hid (mB*2^(12-(m+1))=mo U (m+1) 0):=I (by rw[<-an6,show 12-(m+1)=11-m by omega];exact zt);have kq:Hid (Row wr g0 3 (aM (kP U (m+1) 0))):=I (by rw[<-agx];exact hrow2);clear hrow2 zt;go_wp2;go_roundw
     case rel=>exact⟨mB,m+1,rfl,by go_num,by omega,by omega,UX,adF,kq,jy⟩
     case measure=>simp[intOf];omega
  .obtain rfl:m=12:=by omega
   have gh:Hid (Row wr g0 3 (aM (lH U))):=I (by rw[<-agv U lw.out];exact hrow);clear hrow hpre;go_wp2;go_ret2;exact⟨g0,rfl,gh.out,by rw[fA.out];exact Nat.le_refl _,hbel⟩
theorem al4(A:a7)(c:Nat)(l:List Int)(w:ai)(hl:l.length<=1000000000)(hc:l.length<=c)(aj:Reads w A (gL l)) :
  Calls prog 141 #[.slice A l.length c] w λe w'=>∃k,e=.returned (.slice A k c)/\Ci l k/\w=w':=by
 have aU:=I aj;have k2:=I (λq (hq:q<=l.length) W=>T1 A l.length c q W hq hc);clear aj;go_enter func141,ntmps141
 go_wp2;go_loop [3] (λn=>∃k:Nat,k<=l.length/\n=.int .i64 k/\Hid (∀j (h:j<l.length),k<=j->l[j]=0)) (λn=>(intOf n).toNat)
 case atStart=>exact⟨l.length,Nat.le_refl _,rfl,I (λj h hk=>by omega)⟩
 case round=>
  obtain⟨k,hk,rfl,aO⟩:=hrel;have hcut:=k2.out k hk;rcases eq_zero_or_pos k with am | am
  .subst am;clear aU k2;go_wp2;go_ret;exact⟨0,rfl,⟨by omega,aO.out,.inl rfl⟩,rfl⟩
  .obtain⟨q,rfl⟩:∃q,k=q+1:=⟨k-1,by omega⟩;obtain⟨g,off,rfl,hcell⟩:=wb aU.out (by omega);have c0:=hcell q (by omega);have Ed:l[q]≠0->Ci l (q+1):=λh=>⟨hk,aO.out,.inr ⟨by omega,h⟩⟩
   have gS:l[q]=0->∀j (h:j<l.length),q<=j->l[j]=0:=λh j ar hq=>by
    by_cases e:j=q
    .subst e;exact h
    .exact aO.out j ar (by omega)
   have uQ:=I Ed;have nG:=I gS;have zu:((q+1:Nat):Int)-1=q:=by omega
   clear hcell Ed gS aU k2;generalize l[q]=z at c0 uQ nG;by_cases kk:z=0
   .subst kk;have bX:=I (nG.out rfl);clear uQ nG hcut;go_wp2;go_round
    case rel=>exact⟨q,by omega,by go_num,bX⟩
    case measure=>simp[intOf]
   .have aG:(z == 0)=false:=by simpa using kk
    have eS:=I (uQ.out kk);clear uQ nG;go_wp2;go_ret;exact⟨q+1,rfl,eS,rfl⟩
theorem al3(A:a7)(c:Nat)(U:ae)(w:ai)(hl:U.length<=256)(hc:U.length<=c)(aj:Reads w A (aM U)) :
  Calls prog 141 #[.slice A U.length c] w λe w'=>e=.returned (.slice A (cB U).length c)/\w=w':=by
 have h:=al4 A c (U.map λn:Nat=>(n:Int)) w (by simp;omega) (by simpa using hc) (by rw[jT];exact aj);rw[cQ]at h;exact h.mono λe w' ⟨k,he,hk,hw⟩=>by
  obtain⟨_,e2,_⟩:=aaQ U k hk;exact⟨by rw[<-e2];exact he,hw⟩
namespace ao
theorem ag4(V n p:Nat):(bitsOf V n).drop p=bitsOf (V/2^p) (n-p):=by
 apply ext_getElem
 .simp[hf]
 .intro i h1 af;rw[getElem_drop,l3,l3,km,<-dM]
theorem afj(V n:Nat)(h:V<2^n):(∀x∈bitsOf V n,x=0)↔V=0:=by
 constructor
 .intro h1;rw[<-Gu V n h,K0 _ h1]
 .intro e x ah;subst e;unfold bitsOf at ah;obtain⟨i,_,rfl⟩:=List.mem_map.1 ah;simp
def o7(s:ae)(pos:Nat):Prop:=((bitsOf (bd s) (8*s.length)).drop pos).length<=7/\∀x∈(bitsOf (bd s) (8*s.length)).drop pos,x=0
instance (s:ae) (pos:Nat):Decidable (o7 s pos):=by unfold o7;exact inferInstance
theorem YU(s:ae)(ap:∀x∈s,x<256)(pos:Nat)(aw:pos<=8*s.length):o7 s pos↔(8*s.length-pos<=7/\bd s/2^pos%2^(8*s.length-pos)=0):=by
 have aE:=po s ap;rw[ib]at aE;have h1:bd s/2^pos<2^(8*s.length-pos):=by
  rw[div_lt_iff_lt_mul (eW _),<-dM,Nat.sub_add_cancel aw];exact aE
 unfold o7;rw[ag4 _ _ _,hf,afj _ _ h1,mod_eq_of_lt h1]
end ao
theorem YZ(b:Nat)(bs:ae)(pos:Nat)(w:ai)(ap:bs.length<=10000)(cr:∀x∈bs,x<256)(aw:pos<=8*bs.length)(h:eB w b 0 bs pos) :
  Calls prog 178 #[.pointer (some ⟨b,0,none⟩)] w λe w'=>e=.returned (.bool (decide (o7 bs pos)))/\w.grownBy w' (some b):=by
 have hl:=H0 b 0 bs pos w (by omega) aw h;obtain⟨mh,Br⟩:∃mh,mh=8*bs.length-pos:=⟨_,rfl⟩;have aG:o7 bs pos↔(mh<=7/\bd bs/2^pos%2^mh=0):=by rw[Br];exact YU bs cr pos aw
 have hdd:decide (o7 bs pos)=decide (mh<=7/\bd bs/2^pos%2^mh=0):=decide_eq_decide.2 aG;rw[hdd];have ek:Hid (mh<=32->∀k,Calls prog 177 #[.pointer (some ⟨b,0,none⟩),.int .i64 mh] (w.drewN k) λe w'=>e=.returned (.tuple #[.int .u32 ((bd bs/2^pos%2^mh:Nat):Int),.bool true])/\eB w' b 0 bs (pos+mh)/\(w.drewN k).grownBy w' (some b)):=I (λh1 k=>ux b 0 bs pos mh _ (by omega) cr h1 (by omega) (h.drewN k));have p8:Hid (32<mh->∀k,Calls prog 177 #[.pointer (some ⟨b,0,none⟩),.int .i64 mh] (w.drewN k) λe w'=>e=.returned (.tuple #[.int .u32 0,.bool false])/\w.drewN k=w'):=I (λh1 k=>abH ⟨b,0,none⟩ (mh:Int) _ (.inr (by omega)));rw[<-Br]at hl;have e1:=I hl;have avV:mh<=80000:=by omega
 clear hl h hdd aG Br;generalize cK:bd bs/2^pos%2^mh=X at *;clear cK;by_cases c7:mh<=7
 .have aG:decide (mh<=7/\X=0)=((X:Int) == 0):=by
   by_cases am:X=0
   .subst am;simp[c7]
   .rw[bF (λh=>am h.2)];symm
    rw[beq_eq_false_iff_ne];omega
  rw[aG];clear aG;go_enter func178,ntmps178
  go_wp2_with fail
  refine e1.out.mono ?_;rintro e w' ⟨rfl,dI,rfl⟩;clear e1;have eM:=I (ek.out (by omega) dI);clear p8 ek;go_wp2_with fail
  refine eM.out.mono ?_;rintro e aB ⟨rfl,_,aD⟩;have kp:Hid (w.grownBy aB (some b)):=I ⟨aD.os,aD.tape,aD.output,aD.size,aD.block⟩;clear aD eM;go_wp2;go_ret;exact⟨rfl,kp⟩
 .have aG:decide (mh<=7/\X=0)=false:=bF (λh=>c7 h.1);rw[aG];clear aG;go_enter func178,ntmps178
  go_wp2_with fail
  refine e1.out.mono ?_;rintro e w' ⟨rfl,dI,rfl⟩;clear e1;by_cases LS:mh<=32
  .have eM:=I (ek.out LS dI);clear p8 ek;go_wp2_with fail
   refine eM.out.mono ?_;rintro e aB ⟨rfl,_,aD⟩;have kp:Hid (w.grownBy aB (some b)):=I ⟨aD.os,aD.tape,aD.output,aD.size,aD.block⟩;clear aD eM;go_wp2;go_ret;exact⟨rfl,kp⟩
  .have eM:=I (p8.out (by omega) dI);clear p8 ek;go_wp2_with fail
   refine eM.out.mono ?_;rintro e aB ⟨rfl,rfl⟩;clear eM;go_wp2;go_ret;exact⟨rfl,qq (dl _ _) _⟩
instance (l:List Int):Decidable (ao.Right l):=by unfold ao.Right;exact inferInstance
def jL(w:ai)(base g off cap:Nat)(l:ae):Prop:=base<=g/\cap<=maxLen/\∃pre post:b3,pre.length=off/\l.length+post.length=cap/\Row w g 3 (pre++(aM l++post))
section
variable {w w':ai} {base g off cap:Nat} {l:ae}
theorem jL.lt(h:jL w base g off cap l):g<w.heap.size:=by
 obtain⟨_,_,_,_,_,_,h⟩:=h;exact h.lt
theorem jL.keep(h:jL w base g off cap l)(ak:w'.heap[g]?=w.heap[g]?):jL w' base g off cap l:=by
 obtain⟨h1,af,pre,post,aq,aJ,aR⟩:=h;exact⟨h1,af,pre,post,aq,aJ,aR.keep ak⟩
theorem jL.cell(h:jL w base g off cap l)(j:Nat)(ar:j<l.length):w.cell? ⟨g,off+j,none⟩=some (.int .i64 (l[j]:Int)):=by
 obtain⟨_,_,pre,post,rfl,_,aR⟩:=h;rw[aR.cell,jk (le_add_right _ _),Nat.add_sub_cancel_left,hZ (by rw[gw];exact ar),ja l j ar]
theorem jL.free(h:jL w base g off cap l)(i:Nat):w.frozen? ⟨g,i,none⟩=false:=by
 obtain⟨_,_,_,_,_,_,aR⟩:=h;exact aR.free i
theorem jL.set(h:jL w base g off cap l)(j:Nat)(ar:j<l.length)(z:Nat):jL (w.setCell ⟨g,off+j,none⟩ (.int .i64 z)) base g off cap (l.set j z):=by
 obtain⟨h1,af,pre,post,rfl,aJ,aR⟩:=h;refine⟨h1,af,pre,post,rfl,by rw[length_set];exact aJ,?_⟩;have cg:=aR.bm (pre.length+j) (.int .i64 z);rw[set_append_right _ _ (le_add_right _ _),Nat.add_sub_cancel_left,set_append_left _ _ (by rw[gw];exact ar)]at cg;rw[show aM (l.set j z)=(aM l).set j (.int .i64 z) by simp[aM,map_set]];exact cg
theorem jL.below(h:jL w base g off cap l)(ak:Below w.heap.size w w'):jL w' base g off cap l:=h.keep (ak.block g h.lt)
end
theorem aqx{w:ai}{base n:Nat}{v:Value}{l:ae}(h:w.ownsRow base 3 1 v n (aM l))(az:0<n):l.length=n/\∃g cap,v=.slice (some ⟨g,0,none⟩) n cap/\jL w base g 0 cap l:=by
 have hl:l.length=n:=by have:=h.1;rw[gw,Nat.mul_one]at this;exact this
 rcases h.2 with⟨_,am⟩ | ⟨g,cap,fg,rfl,ak,aD,qv,hj,hcs,aC⟩
 .omega
 .rw[Nat.mul_one]at aC hcs;refine⟨hl,g,cap,rfl,ak,hj,[],fg.toList.drop n,rfl,by have hL:fg.toList.length=fg.size:=Array.length_toList;rw[cC];omega,?_⟩;unfold Row;rw[nil_append,<-aC,gA,Array.toArray_toList];exact aD
namespace ao
theorem anW(a b:ae):fz (a++b)=fz a++fz b:=by
 induction a with
 | nil=>rfl
 | cons x a ih=>rw[cons_append,fz,fz,ih];split<;>rfl
theorem an0(ag:ae)(k:Nat)(h:k<ag.length):fz (ag.take (k+1))=fz (ag.take k)++if 0<ag[k]then [ag[k]]else []:=by
 rw[gb h,anW];rfl
theorem Z5(ag:ae):(fz ag).length<=ag.length:=by
 induction ag with
 | nil=>simp[fz]
 | cons x a ih=>rw[fz];split<;>simp<;>omega
theorem anX(ag:ae)(x:Nat):x∈fz ag->x∈ag/\0<x:=by
 induction ag with
 | nil=>simp[fz]
 | cons y a ih=>
  rw[fz];split
  .next h=>
   intro ah;rcases List.mem_cons.1 ah with rfl | ah
   .exact⟨ea,h⟩
   .exact⟨ew _ (ih ah).1,(ih ah).2⟩
  .intro ah;exact⟨ew _ (ih ah).1,(ih ah).2⟩
theorem anY(ag:ae)(h:∃x∈ag,0<x):0<(fz ag).length:=by
 obtain⟨x,ah,am⟩:=h;induction ag with
 | nil=>simp at ah
 | cons y a ih=>
  rw[fz];split
  .simp
  .next hy=>
   rcases List.mem_cons.1 ah with rfl | ah
   .exact absurd am hy
   .exact ih ah
theorem I5(bs:ae)(h:bs≠[]):0<eX bs:=by
 cases bs with
 | nil=>exact absurd rfl h
 | cons x a=>rw[eX];omega
def oI(ag:ae)(size k:Nat):ae:=(ag.take k).map (pi size ag.sum)++List.replicate (ag.length-k) 0
theorem anI(ag:ae)(size:Nat):oI ag size 0=List.replicate ag.length 0:=by simp[oI]
theorem anF(ag:ae)(size:Nat):oI ag size ag.length=parts ag size:=by simp[oI,parts]
theorem anG(ag:ae)(size k:Nat)(h:k<=ag.length):(oI ag size k).length=ag.length:=by simp[oI];omega
theorem ZU(ag:ae)(size k:Nat)(h:k<ag.length):(oI ag size k)[k]?=some 0:=by
 unfold oI;have h1:((ag.take k).map (pi size ag.sum)).length=k:=by simp;omega
 rw[jk (by omega),h1,Nat.sub_self,getElem?_replicate,aA (by omega)]
theorem ZV(ag:ae)(size k:Nat)(h:k<ag.length):oI ag size (k+1)=(oI ag size k).set k (pi size ag.sum ag[k]):=by
 unfold oI;have h1:((ag.take k).map (pi size ag.sum)).length=k:=by simp;omega
 rw[set_append_right _ _ (by omega),h1,Nat.sub_self,gb h,map_append,dj];congr 1
 obtain⟨m,hm⟩:∃m,ag.length-k=m+1:=⟨ag.length-k-1,by omega⟩;rw[hm,show ag.length-(k+1)=m by omega,replicate_succ];simp
theorem anH(ag:ae)(size k:Nat)(h:k<ag.length)(am:ag[k]=0):oI ag size (k+1)=oI ag size k:=by
 have aO:pi size ag.sum 0=0:=by simp[pi]
 rw[ZV ag size k h,am,aO];apply ext_getElem?
 intro i;rw[getElem?_set];split
 .next e=>
  subst e;rw[aA (by rw[anG ag size k (by omega)];omega),ZU ag size k h]
 .rfl
theorem Y8(l:ae)(x:Nat)(h:x∈l):x<=l.sum:=by
 induction l with
 | nil=>cases h
 | cons a l ih=>
  rw[sum_cons];rcases List.mem_cons.1 h with rfl | h1
  .omega
  .have:=ih h1;omega
theorem anA(size total c:Nat)(h:0<c):max ((c:Int)*size/total) 1=(pi size total c:Int):=by
 have e:(c:Int)*size/total=((c*size/total:Nat):Int):=by simp
 unfold pi;rw[e];split
 .next h1=>rw[h1.1];rfl
 .next h1=>
  have af:c*size/total≠0:=λe=>h1 ⟨e,h⟩
  generalize c*size/total=q at af ⊢;omega
theorem PU(l:ae)(m:Nat)(h:∀x∈l,x<=m):l.sum<=m*l.length:=by
 induction l with
 | nil=>simp
 | cons a l ih=>
  have h1:=ih (λx ah=>h x (ew _ ah));have af:=h a ea;rw[sum_cons,b1,mul_succ];omega
end ao
theorem Zr(A:a7)(c:Nat)(bs:ae)(w:ai)(hl:bs.length<=1000000000)(am:0<bs.length)(av:∀x∈bs,x<256)(aj:Reads w A (aN bs)) :
  Calls prog 105 #[.slice A bs.length c] w λe w'=>e=.returned (.int .u8 ((eX bs:Int)-1))/\w=w':=by
 have aX:bs≠[]:=by intro e;rw[e]at am;simp at am
 obtain⟨g,off,rfl,hc⟩:=nA aj aX;have gn:=I hc;have b5:=I av;have c0:=hc 0 am;have dg:=av bs[0] (b7 am);have kZ:Hid (eX (bs.take 1)=bs[0]+1):=I (by
  have h1:=abS bs 0 am;rw[take_zero]at h1;rw[h1];simp[eX])
 obtain⟨r,hres⟩:∃r,r=eX bs:=⟨_,rfl⟩;rw[<-hres];have bt:=I hres;clear aj av hc hres;rw[ga]at c0;generalize bs[0]=bD at c0 dg kZ;go_enter func105,ntmps105
 go_wp2;go_loop [3,4] (λm i=>∃k:Nat,1<=k/\k<=bs.length/\i=.int .i64 k/\m=.int .u8 ((eX (bs.take k):Int)-1)) (λ_ i=>bs.length-(intOf i).toNat)
 case atStart=>exact⟨1,by omega,by omega,rfl,by rw[kZ.out];go_num⟩
 case round=>
  obtain⟨k,eu,hk,rfl,rfl⟩:=hrel;clear c0;by_cases bb:k<bs.length
  .have c1:=gn.out k bb;have ak:=b5.out bs[k] (b7 bb);have DJ:=uy (bs.take k) (λx ah=>b5.out x (mem_of_mem_take ah));have bU:=I (abS bs k bb);have aw:0<eX (bs.take k):=I5 _ (λe=>by
    have h1:=congrArg List.length e;rw[cq,length_nil]at h1;omega)
   generalize eX (bs.take k)=T at DJ bU aw ⊢;generalize bs[k]=b at c1 ak bU;have hmx:=amE T b;generalize max T (b+1)=aey at hmx bU;go_wp2;go_round
   case rel=>exact⟨k+1,by omega,by omega,by go_num,by rw[bU.out]⟩
   case measure=>simp[intOf];omega
  .obtain rfl:k=bs.length:=by omega
   rw[take_length,<-bt.out];go_wp2;go_ret;exact⟨rfl,rfl⟩
theorem Zt:aci:=by
 intro A c bs w hl av aj;rcases eq_zero_or_pos bs.length with am | am
 .have ak:bs=[]:=lq am;subst ak;go_enter func64,ntmps64
  go_wp2;go_ret;exact⟨none,0,rfl,λh=>absurd rfl h,Below.refl _ _⟩
 have aO:((bs.length:Int) == 0)=false:=cz
 obtain⟨i0,ax,bB,bK,bw⟩:=info_parts oF;have aU:=I aj;have b5:=I av;have cp:=uy bs av;have Ml:=I5 bs (by intro e;rw[e]at am;simp at am);have CP:=I (Zr A c bs w (by omega) am av aj);clear aj av;obtain⟨g0,hW⟩:∃g,g=w.heap.size:=⟨_,rfl⟩;have fA:=I hW;obtain⟨T,vu⟩:∃T,T=eX bs:=⟨_,rfl⟩;have yh:=I vu;have CQ:Hid (Calls prog 105 #[.slice A bs.length c] w λe w'=>e=.returned (.int .u8 ((T:Int)-1))/\w=w'):=I (by rw[vu];exact CP);rw[<-vu]at cp Ml ⊢;clear hW vu CP;go_enter func64,ntmps64
 go_wp2_with fail
 refine CQ.out.mono ?_;rintro e w' ⟨rfl,rfl⟩;clear CQ;have aF:((T:Int)-1)+1=(T:Int):=by omega
 go_wp2_with (at_make;refine wpList_make_full _ rfl _ _ 112 rfl w.heap.size 3 i0 (.int .i64 0) 1 underlying112 ax bB bK .i64 .i64 _ _ T rfl rfl ?c1 ?c1 ?c2 ?c3 ?c4 ?_)
 case c1=>omega
 case c2=>first | omega | (rw[bw];omega)
 case c3=>unfold maxLen;omega
 try case c4=>exact Nat.le_refl _
 intro au hown1 aZ;have aH:=k8 aZ;have cd:=ut hown1;rw[<-fA.out]at cd ⊢;have aK:=I aH;rw[yh.out,<-TX]at cd;have dx:=I cd;clear hown1 aZ aH cd ax bB bK bw aF aO;go_wp2;go_loopw [16] (λi wr=>∃k:Nat,k<=bs.length/\i=.int .i64 k/\Hid (Row wr g0 3 (aM (nQ bs k)))/\Hid (Below w.heap.size w wr)) (λi _=>bs.length-(intOf i).toNat)
 case atStart=>exact⟨0,by omega,rfl,dx,aK⟩
 case round=>
  obtain⟨k,hk,rfl,hrow,hbel⟩:=hrel;clear dx aK;by_cases bb:k<bs.length
  .have aX:bs≠[]:=by intro e;rw[e]at bb;simp at bb
   obtain⟨g,off,rfl,hc⟩:=nA (c9 aU.out hbel) aX;have c0:=hc k bb;have ak:=b5.out bs[k] (b7 bb);have DS:bs[k]<T:=by rw[yh.out];exact x2 bs _ (b7 bb)
   have fo:(bs.take k).count bs[k]<=bs.length:=du count_le_length (by rw[cq];omega);have hcell:=hrow.out.cell bs[k];have nr:=TV bs k bs[k] (by rw[<-yh.out];exact DS);simp only[aM,getElem?_map,nr,map_some]at hcell;have hfree:=hrow.out.free bs[k];have bX:=I (TW bs k bb);clear hc nr;generalize (bs.take k).count bs[k]=q at fo hcell bX;generalize bs[k]=b at c0 ak DS hcell hfree bX;go_wp2;go_roundw
   case rel=>
    refine⟨k+1,by omega,by go_num,I ?_,I (hbel.out.setCell (by rw[fA.out];exact Nat.le_refl _) _)⟩;rw[bX.out];have h1:=hrow.out.bm b (.int .i64 ((q:Int)+1));rw[show aM ((nQ bs k).set b (q+1))=(aM (nQ bs k)).set b (.int .i64 ((q:Int)+1)) by simp[aM,map_set]];exact h1
   case measure=>simp[intOf];omega
  .obtain rfl:k=bs.length:=by omega
   rw[TU]at hrow;go_wp2;go_ret;exact⟨some ⟨g0,0,none⟩,T,rfl,oK hrow,hbel⟩
theorem amV(A:a7)(c:Nat)(ag:ae)(size:Nat)(w:ai)(hl:ag.length<=256)(hm:∀x∈ag,x<=1048576)(bI:size<=512)(aj:Reads w A (aM ag)) :
  Calls prog 193 #[.slice A ag.length c,.int .i64 size] w λe w'=>∃g,e=.returned (.slice (some ⟨g,0,none⟩) ag.length ag.length)/\w.heap.size<=g/\Row w' g 3 (aM (ao.parts ag size))/\Below w.heap.size w w':=by
 obtain⟨i0,ax,bB,bK,bw⟩:=info_parts oF;have hsum:=PU ag 1048576 hm;have aU:=I aj;have ci:=I hm;have yE:=I (OO A c ag w (by omega) (by omega) aj);obtain⟨S,cu⟩:∃S,S=ag.sum:=⟨_,rfl⟩;have cI:=I cu;rw[<-cu]at yE hsum;clear aj hm cu;obtain⟨g0,hW⟩:∃g,g=w.heap.size:=⟨_,rfl⟩;have fA:=I hW;clear hW;go_enter func193,ntmps193
 go_wp2_with fail
 refine yE.out.mono ?_;rintro e w' ⟨rfl,rfl⟩;clear yE;go_wp2_with (at_make;refine wpList_make_full _ rfl _ _ 112 rfl w.heap.size 3 i0 (.int .i64 0) 1 underlying112 ax bB bK .i64 .i64 _ _ ag.length rfl rfl ?c1 ?c1 ?c2 ?c3 ?c4 ?_)
 case c1=>omega
 case c2=>first | omega | (rw[bw];omega)
 case c3=>unfold maxLen;omega
 try case c4=>exact Nat.le_refl _
 intro au hown1 aZ;have aH:=k8 aZ;have cd:=ut hown1;rw[<-fA.out]at cd ⊢;have aK:=I aH;rw[<-anI ag size]at cd;have dx:=I cd;clear hown1 aZ aH cd ax bB bK bw;go_wp2;go_loopw [16] (λi wr=>∃k:Nat,k<=ag.length/\i=.int .i64 k/\Hid (Row wr g0 3 (aM (oI ag size k)))/\Hid (Below w.heap.size w wr)) (λi _=>ag.length-(intOf i).toNat)
 case atStart=>exact⟨0,by omega,rfl,dx,aK⟩
 case round=>
  obtain⟨k,hk,rfl,hrow,hbel⟩:=hrel;clear dx aK;by_cases bb:k<ag.length
  .obtain⟨g,off,rfl,hc⟩:=Pp (c9 aU.out hbel.out) (by omega);have c0:=hc k bb;have ak:=ci.out ag[k] (b7 bb);have hcell:=hrow.out.cell k;have nr:=ZU ag size k bb;simp only[aM,getElem?_map,nr,map_some]at hcell;have hfree:=hrow.out.free k;have NB:ag[k]<=S:=by rw[cI.out];exact Y8 ag _ (b7 bb)
   have bX:=I (ZV ag size k bb);have uP:=I (anH ag size k bb);have j5:=anA size S ag[k];rw[<-cI.out]at bX;have qZ:=I j5;have Nn:(ag[k]:Int)*size<=1048576*512:=by
    rw[<-Int.natCast_mul];have:=Nat.mul_le_mul ak bI;omega
   have W7:0<=(ag[k]:Int)*size:=by rw[<-Int.natCast_mul];omega
   clear hc nr j5;generalize ag[k]=z at c0 ak NB bX uP qZ Nn W7;by_cases aO:0<z
   .have hmax:=qZ.out aO;have adu:=I hmax;clear hmax;have Np:0<=(z:Int)*size/S:=Int.ediv_nonneg W7 (by omega);go_wp2;go_roundw
    case rel=>
     refine⟨k+1,by omega,by go_num,I ?_,I (hbel.out.setCell (by rw[fA.out];exact Nat.le_refl _) _)⟩;rw[bX.out];have h1:=hrow.out.bm k (.int .i64 (pi size S z));rw[show aM ((oI ag size k).set k (pi size S z))=(aM (oI ag size k)).set k (.int .i64 (pi size S z)) by simp[aM,map_set]];rw[<-adu.out]at h1 ⊢;exact h1
    case measure=>simp[intOf];omega
   .have e0:z=0:=by omega
    have dk:=I (uP.out e0);clear e0;go_wp2;go_roundw
    case rel=>exact⟨k+1,by omega,by go_num,I (by rw[dk.out];exact hrow),hbel⟩
    case measure=>simp[intOf];omega
  .obtain rfl:k=ag.length:=by omega
   rw[anF]at hrow;go_wp2;go_ret;exact⟨g0,rfl,by rw[fA.out];exact Nat.le_refl _,hrow,hbel⟩
namespace ao
theorem Yx:∀(l:ae),l.Pairwise (·<=·)->nx l=l
 | [],_=>rfl
 | x :: l,h=>by
  rw[pairwise_cons]at h;rw[nx,Yx l h.2,N5 x l h.1]
end ao
theorem atF(T:ae)(a b:Int)(w:ai)(cp:T.length<=1000000)(av:∀x∈T,x<256)(aS:en a)(ak:en b) :
  Calls prog 128 #[.string (strOf T),.int .i64 a,.int .i64 b] w λe w'=>e=.returned (.int .i64 (B6 T a b))/\∃m,w'=w.drewN m:=by
 have bI:=cZ T;obtain⟨Mq,Mr⟩:=aS;obtain⟨dg,aH⟩:=ak;obtain⟨r,aj⟩:∃r,r=B6 T a b:=⟨_,rfl⟩;rw[<-aj];by_cases h:0<=a/\0<=b
 .obtain⟨i,rfl⟩:=Int.eq_ofNat_of_zero_le h.1;obtain⟨j,rfl⟩:=Int.eq_ofNat_of_zero_le h.2;have bS:r=gX T i j:=by
   rw[aj,B6];split
   .rw[cY,cY]
   .rw[aaG T i j (by omega)]
  have aU:=I bS;have ic:=I (λW k (h:k<T.length)=>pT T k W h (av _ (b7 h)));obtain⟨x,ah⟩:∃x,x=max i j:=⟨_,rfl⟩;have hmx:max (i:Int) (j:Int)=x:=by omega
  have ue:decide (min (i:Int) (j:Int)<0)=false:=aT;have akB:i<=x:=by omega
  have akC:j<=x:=by omega
  have awH:x=i\/x=j:=by omega
  clear h aj bS av ah;go_enter func128,ntmps128
  go_wp2;clear hmx ue;go_loopw [8] (λv6 wr=>∃n m:Nat,v6=.int .i64 n/\n<=T.length/\Hid (r=n+gX T (i+n) (j+n))/\Hid (wr=w.drewN m)) (λv6 _=>T.length-(intOf v6).toNat)
  case atStart=>exact⟨0,0,rfl,by omega,I (by rw[aU.out];simp),I rfl⟩
  case round=>
   obtain⟨n,m,rfl,eO,e8,hw⟩:=hrel;have lP:=hw.out;subst lP;clear hw;by_cases hA:x+n<T.length
   .have LY:i+n<T.length:=by omega
    have LZ:j+n<T.length:=by omega
    have hstep:=IL T (i+n) (j+n) LY LZ;have bf:∀W:ai,(Instr.index 9 (.string (strOf T)) (.int .i64 ((i:Int)+n))).run prog W=.ok (.int .u8 ((T[i+n]:Nat):Int)) W:=λW=>by
     have h:=ic.out W (i+n) LY;rwa [Int.natCast_add]at h
    have bM:∀W:ai,(Instr.index 9 (.string (strOf T)) (.int .i64 ((j:Int)+n))).run prog W=.ok (.int .u8 ((T[j+n]:Nat):Int)) W:=λW=>by
     have h:=ic.out W (j+n) LZ;rwa [Int.natCast_add]at h
    rw[hstep]at e8;clear hstep;have agQ:decide ((n:Int)<(T.length:Int)-x)=true:=cl;generalize T[i+n]'LY=y at *;generalize T[j+n]'LZ=z at *;by_cases vU:y=z
    .subst vU;rw[aA rfl]at e8;have nb:=I (show r=(n+1)+gX T (i+(n+1)) (j+(n+1)) by rw[e8.out,jb i,jb j];omega);clear e8 ic aU;go_wp2_with fail
     go_quiet (fail)
     go_wp2;go_roundw
     case rel=>exact⟨n+1,_,by go_num,by omega,nb,I rfl⟩
     case measure=>simp[intOf];omega
    .rw[ay vU,ga]at e8;have dq:((y:Int) == (z:Int))=false:=cz
     have nb:=I (show(n:Int)=r by rw[e8.out]);clear e8 ic aU;go_wp2_with fail
     go_quiet (fail)
     go_wp2;go_ret;rw[<-nb.out];exact⟨rfl,_,World.drewN_drewN _ _ _⟩
   .have agQ:decide ((n:Int)<(T.length:Int)-x)=false:=aT;have nb:=I (show(n:Int)=r by rw[e8.out,aaG T _ _ (by omega)];omega);clear e8 ic aU;go_wp2_with fail
    go_quiet (fail)
    go_wp2;go_ret;rw[<-nb.out];exact⟨rfl,_,World.drewN_drewN _ _ _⟩
 .have bS:r=0:=by rw[aj,B6,ay (λaf=>h ⟨af.1,af.2.1⟩)]
  subst bS;have ue:decide (min a b<0)=true:=cl;clear aj av;go_enter func128,ntmps128
  go_wp2;go_ret;exact⟨rfl,0,rfl⟩
theorem Qp(b:Nat)(T:ae)(w:ai)(hc:w.cell? ⟨b,0,none⟩=some (.string (strOf T))) :
  Calls prog 94 #[.pointer (some ⟨b,0,none⟩)] w λe w'=>e=.returned (.int .i64 (T.length:Int))/\w'=w:=by
 have bI:=cZ T;generalize strOf T=ss at *;go_enter func94,ntmps94
 go_wp2;go_ret;exact⟨rfl,rfl⟩
theorem aca(p:a7)(n:Nat)(a:Int)(w:ai)(az:n<=1000000)(hlen:Calls prog 94 #[.pointer p] w λe w'=>e=.returned (.int .i64 n)/\w'=w) :
  Calls prog 126 #[.pointer p,.int .i64 a] w λe w'=>e=.returned (.bool (decide (0<=a/\a+3<=n)))/\∃m,w'=w.drewN m:=by
 have Hlen:=I hlen;clear hlen;by_cases h:0<=a
 .by_cases af:a+3<=n
  .have d:decide (0<=a/\a+3<=n)=true:=bG ⟨h,af⟩;rw[d];clear d;have d1:decide (0<=a)=true:=bG h;have d2:decide (a<=(n:Int)-3)=true:=cl;go_enter func126,ntmps126
   go_wp2_with fail
   refine Hlen.out.mono ?_;rintro e w' ⟨rfl,rfl⟩;go_wp2;go_ret;exact⟨rfl,0,rfl⟩
  .have d:decide (0<=a/\a+3<=n)=false:=bF (λaq=>af aq.2);rw[d];clear d;have d1:decide (0<=a)=true:=bG h;have d2:decide (a<=(n:Int)-3)=false:=aT;go_enter func126,ntmps126
   go_wp2_with fail
   refine Hlen.out.mono ?_;rintro e w' ⟨rfl,rfl⟩;go_wp2;go_ret;exact⟨rfl,0,rfl⟩
 .have d:decide (0<=a/\a+3<=n)=false:=bF (λaq=>h aq.1);rw[d];clear d;have d1:decide (0<=a)=false:=bF h;clear Hlen;go_enter func126,ntmps126
  go_wp2;go_ret;exact⟨rfl,0,rfl⟩
end Go.Proofs.YtgiicohbigiapaaGreat
