/- Contracts. -/
import Derived.Test.YtgiicohbigiapaaGreatOaj
import Derived.Test.YtgiicohbigiapaaGreatOz1
import Derived.Test.YtgiicohbigiapaaGreatOz0
set_option maxHeartbeats 4000000
set_option maxRecDepth 100000
open Go.Proofs.Tryz Go.Proofs.YtgiicohbigiapaaGreat.am List Nat Option
namespace Go.Proofs.YtgiicohbigiapaaGreat
open Go.RowKit
def hcells(k e n s:Nat):b1:=[.int .u64 k,.int .i64 e,.int .i64 n,.int .u64 s]
def IU(w':ah)(b:Nat)(bs:ae)(e:Ending):Option am.eb->Prop
|none=>e=.returned (.tuple #[.agg (hcells 0 0 0 0).toArray,.int .i64 3])
|some h=>e=.returned (.tuple #[.agg (hcells h.1 h.2.1 h.2.2.1 h.2.2.2.1).toArray,.int .i64 0])/\bK w' b (some (bs.drop h.2.2.2.2))
theorem ajy(bs:ae)(au:∀x∈bs,x<256)(k e n s:Nat)(s1 s2 iB o0:Left)(h1:eH (fO 1) (some bs)=([k],s1)\/(eH (fO 1) (some bs)=([],s1)/\k=0))(af:lx 1073741824 s1=(e,s2))(aq:lx 1099511627776 s2=(n,iB))(aK:bd (eH (fO 8) iB).1=s)(aT:(eH (fO 8) iB).2=o0) :
  ((o0=none\/3<=k)/\ip bs=none)\/(∃at_,o0=some (bs.drop at_)/\k<3/\ip bs=some (k,e,n,s,at_)):=by
 have aA:∀m,lx m none=(0,none):=λm=>by unfold lx;rw[aB (.inl rfl)]
 have aj:eH (fO 8) none=([],none):=rfl;cases bs with
|nil=>
  refine .inl ⟨.inl ?_,rfl⟩;have ao:eH (fO 1) (some [])=([],none):=rfl;rw[ao]at h1;have aG:s1=none:=by rcases h1 with h1|⟨h1,_⟩<;>(injection h1 with _ h1;exact h1.symm)
  rw[aG,aA]at af;injection af with _ af
  rw[<-af,aA]at aq;injection aq with _ aq
  rw[<-aT,<-aq,aj]
|cons x r=>
  rw[FW]at h1;obtain⟨rfl,rfl⟩:x=k/\s1=some r:=by
   rcases h1 with h1|⟨h1,_⟩
   .injection h1 with ao h1;injection ao with ao;exact⟨ao,h1.symm⟩
   .injection h1 with ao h1;cases ao
  unfold ip;dsimp only;by_cases c4:2<x
  .rw[aB c4];exact .inl ⟨.inr c4,rfl⟩
  rw[az c4];unfold qu;by_cases c1:0<(aX r).2/\(aX r).1<=1073741824
  .rw[aB c1];rw[wV _ _ c1.1 (by omega)]at af;injection af with aip SN
   by_cases c2:0<(aX (r.drop (aX r).2)).2/\(aX (r.drop (aX r).2)).1<=1099511627776
   .rw[<-SN,wV _ _ c2.1 (by omega)]at aq;injection aq with aiu KY
    have cb:=(rP r _ _ c1.1 rfl).2.2;have cR:=(rP (r.drop (aX r).2) _ _ c2.1 rfl).2.2;rw[cB]at cR;rw[drop_drop]at KY;by_cases c3:(aX r).2+(aX (r.drop (aX r).2)).2+8<=r.length
    .have oN:fO 8=8:=by decide
     rw[<-KY,oN,Ec 8 _ (by rw[cB];omega)]at aK aT;rw[aB ⟨c2.1,c2.2,c3⟩,map_some];dsimp only at aK aT ⊢;rw[aip,aiu,aK];refine .inr ⟨_,?_,by omega,rfl⟩;rw[<-aT,drop_drop,Nat.add_comm 1,drop_succ_cons]
    .refine .inl ⟨.inl ?_,?_⟩
     .have oN:fO 8=8:=by decide
      rw[<-KY,oN,Eb 8 _ (by rw[cB];omega)]at aT;exact aT.symm
     .rw[az (λc=>c3 c.2.2),map_none]
   .refine .inl ⟨.inl ?_,?_⟩
    .rw[<-SN,AU _ _ (λc=>c2 ⟨c.1,by omega⟩)]at aq;injection aq with _ aq
     rw[<-aT,<-aq,aj]
    .rw[az (λc=>c2 ⟨c.1,c.2.1⟩),map_none]
  .refine .inl ⟨.inl ?_,?_⟩
   .rw[AU _ _ (λc=>c1 ⟨c.1,by omega⟩)]at af;injection af with _ af
    rw[<-af,aA]at aq;injection aq with _ aq
    rw[<-aT,<-aq,aj]
   .rw[az c1,map_none]
structure cS(w aw:ah)(b:Nat)(ag:b1):Prop where
 lt:b<w.heap.size
 dV:Row aw w.heap.size 49 (hcells 0 0 0 0)
 bO:Row aw (w.heap.size+1) 49 ag
 gr:w.grownBy aw (some b)
theorem CL{w w':ah}{row:Option Nat}(h:w.grownBy w' row)(p:Addr)(u:Value)(ax:w.heap.size<=p.block):w.grownBy (w'.setCell p u) row:=
 ⟨h.os,h.tape,h.output,by simpa [World.setCell]using h.size,λi ay aZ=>(Below.heap_setCell w' p u i (λe=>by omega)).trans (h.block i ay aZ)⟩
theorem cS.call{w aw aC:ah}{b:Nat}{ag:b1}(h:cS w aw b ag)(aF:aw.grownBy aC (some b)):cS w aC b ag:=by
 have:=h.lt;exact⟨h.lt,h.dV.keep (aF.block _ h.dV.lt (by simp;omega)),h.bO.keep (aF.block _ h.bO.lt (by simp;omega)),ef h.gr aF⟩
theorem cS.set{w aw:ah}{b:Nat}{ag:b1}(h:cS w aw b ag)(i:Nat)(u:Value):cS w (aw.setCell ⟨w.heap.size+1,i,none⟩ u) b (ag.set i u):=
 ⟨h.lt,h.dV.cG (by simp) u,h.bO.bq i u,CL h.gr _ u (by simp)⟩
theorem cS.Cv{w aw:ah}{b:Nat}{ag:b1}{st:Left}(h:cS w aw b ag)(hc:bK aw b st)(i:Nat)(u:Value):bK (aw.setCell ⟨w.heap.size+1,i,none⟩ u) b st:=by
 have:=h.lt;exact hc.keep (row:=some (w.heap.size+1)) ⟨rfl,rfl,rfl,by simp[World.setCell],λi ay aZ=>Below.heap_setCell aw _ u i (λe=>aZ (by rw[e]))⟩ (by simp;omega)
theorem cS.start(w:ah)(b:Nat)(ak:b<w.heap.size):cS w ((w.alloc (.cells (hcells 0 0 0 0).toArray 49)).alloc (.cells (hcells 0 0 0 0).toArray 49)) b (hcells 0 0 0 0):=by
 have cW:=Row.new (w.alloc (.cells (hcells 0 0 0 0).toArray 49)) 49 (hcells 0 0 0 0);rw[show(w.alloc (.cells (hcells 0 0 0 0).toArray 49)).heap.size=w.heap.size+1 by simp]at cW;exact⟨ak,(Row.new w 49 (hcells 0 0 0 0)).alloc _,cW,im (im (dg w _) _) _⟩
theorem J1(b:Nat)(bs:ae)(w:ah)(hl:bs.length<=100000000)(au:∀x∈bs,x<256)(h:bK w b (some bs)) :
  Calls prog 19 #[.pointer (some ⟨b,0,none⟩)] w λe w'=>IU w' b bs e (ip bs)/\w.grownBy w' (some b):=by
 have hok0:ph (some bs):=⟨au,hl⟩;have wB:=λW (hc:bK W b (some bs))=>Ee b (some bs) 1 W (by omega) (by omega) hok0 hc
 obtain⟨⟨gE,s1⟩,aG⟩:∃z,z=eH (fO 1) (some bs):=⟨_,rfl⟩;have hok1:ph s1:=by have:=(XQ (n:=fO 1) hok0).1;rw[<-aG]at this;exact this
 obtain⟨⟨e,s2⟩,e2⟩:∃z,z=lx 1073741824 s1:=⟨_,rfl⟩;have hok2:ph s2/\(e:Int)<=1073741824:=by
  have:=(ok_int (most:=1073741824) hok1 (by omega)).1;rw[<-e2]at this;refine⟨this,?_⟩;unfold lx at e2;split at e2
  .injection e2 with e2 _;omega
  .next c=>
   have:e=(ln s1).1:=by rw[<-e2]
   omega
 obtain⟨⟨n,iB⟩,e3⟩:∃z,z=lx 1099511627776 s2:=⟨_,rfl⟩;have UY:ph iB/\(n:Int)<=1099511627776:=by
  have:=(ok_int (most:=1099511627776) hok2.1 (by omega)).1;rw[<-e3]at this;refine⟨this,?_⟩;unfold lx at e3;split at e3
  .injection e3 with e3 _;omega
  .next c=>
   have:n=(ln s2).1:=by rw[<-e3]
   omega
 obtain⟨k,hk⟩:∃k,k=bd gE:=⟨_,rfl⟩;have ek:(eH (fO 1) (some bs)=([k],s1)\/(eH (fO 1) (some bs)=([],s1)/\k=0)):=by
  cases bs with
 |nil=>right;injection aG with aG Kz;subst aG;exact⟨by rw[Kz];rfl,hk⟩
 |cons x r=>
   left
   rw[FW]at aG ⊢;injection aG with aG Kz
   subst aG;rw[Kz,hk];simp[bd]
 have hcase:=ajy bs au k e n _ s1 s2 iB _ ek e2.symm e3.symm rfl rfl;have H1:=wB;have dN:=I (λW (hc:bK W b s1)=>Bc b s1 1073741824 W (by omega) (by omega) hok1 hc);have hD:=I (λW (hc:bK W b s2)=>Bc b s2 1099511627776 W (by omega) (by omega) hok2.1 hc);have ot:=I (λW (hc:bK W b iB)=>Ee b iB 8 W (by omega) (by omega) UY.1 hc);rw[<-aG]at H1;rw[<-e2]at dN;rw[<-e3]at hD;dsimp only at H1 dN hD;rw[<-hk]at H1;have H1:=I H1;obtain⟨s,ap⟩:∃s,s=bd (eH (fO 8) iB).1:=⟨_,rfl⟩;obtain⟨o0,yK⟩:∃s,s=(eH (fO 8) iB).2:=⟨_,rfl⟩;rw[<-ap,<-yK]at ot hcase;have abI:=I hcase;have rn:=I (λW (hc:bK W b o0)=>gu b o0 W hc);clear wB hok0 hok1 hok2 UY aG e2 e3 hk ek ap yK hcase;have cN:=I (cS.start w b h.lt);have ou:=I (((h.below ((Below.refl w.heap.size w).alloc bl (.cells (hcells 0 0 0 0).toArray 49))).below (dM.alloc bl (.cells (hcells 0 0 0 0).toArray 49))));clear h au;go_enter func19,ntmps19
 go_wp2_with fail
 refine(H1.out _ ou).mono ?_;rintro aG aw ⟨rfl,bM,a1⟩;have nQ:=I (cN.out.call a1);have kQ:=I bM;have f0:=nQ.out.bO.free 0;have g0:aw.cell? ⟨w.heap.size+1,0,none⟩=some (.int .u64 0):=nQ.out.bO.cell 0;clear bM a1;go_wp2_with fail
 clear f0 g0;refine(dN.out _ (nQ.out.Cv kQ.out 0 (.int .u64 k))).mono ?_;rintro aG aC ⟨rfl,c8,bp⟩;have iT:=I ((nQ.out.set 0 (.int .u64 k)).call bp);have ig:=I c8;have f1:=iT.out.bO.free 1;have g1:aC.cell? ⟨w.heap.size+1,1,none⟩=some (.int .i64 0):=iT.out.bO.cell 1;clear c8 bp;go_wp2_with fail
 clear f1 g1;refine(hD.out _ (iT.out.Cv ig.out 1 (.int .i64 e))).mono ?_;rintro aG a6 ⟨rfl,k5,ct⟩;have zz:=I ((iT.out.set 1 (.int .i64 e)).call ct);have BB:=I k5;have f2:=zz.out.bO.free 2;have g2:a6.cell? ⟨w.heap.size+1,2,none⟩=some (.int .i64 0):=zz.out.bO.cell 2;clear k5 ct;go_wp2_with fail
 clear f2 g2;refine(ot.out _ (zz.out.Cv BB.out 2 (.int .i64 n))).mono ?_;rintro aG bH ⟨rfl,nv,cx⟩;have B9:=I ((zz.out.set 2 (.int .i64 n)).call cx);have vI:=I nv;have f3:=B9.out.bO.free 3;have g3:bH.cell? ⟨w.heap.size+1,3,none⟩=some (.int .u64 0):=B9.out.bO.cell 3;clear nv cx;go_wp2_with fail
 clear f3 g3;have cL:=rn.out _ (B9.out.Cv vI.out 3 (.int .u64 s));have zA:=I (show cS w (bH.setCell ⟨w.heap.size+1,3,none⟩ (.int .u64 s)) b (hcells k e n s)from B9.out.set 3 (.int .u64 s));have nc:=I (B9.out.Cv vI.out 3 (.int .u64 s));refine cL.mono ?_;rintro aG dp ⟨rfl,rfl⟩;clear cL;generalize bH.setCell ⟨w.heap.size+1,3,none⟩ (.int .u64 s)=dp at *;have cW:=zA.out.bO;have eN:=zA.out.dV;have c0:=cW.cell 0;have c1:=cW.cell 1;have c2:=cW.cell 2;have c3:=cW.cell 3;have d0:dp.cell? ⟨w.heap.size,0,none⟩=some (.int .u64 0):=eN.cell 0;have d1:dp.cell? ⟨w.heap.size,1,none⟩=some (.int .i64 0):=eN.cell 1;have d2:dp.cell? ⟨w.heap.size,2,none⟩=some (.int .i64 0):=eN.cell 2;have d3:dp.cell? ⟨w.heap.size,3,none⟩=some (.int .u64 0):=eN.cell 3;have f0:=eN.free 0;have f1:=eN.free 1;have f2:=eN.free 2;have f3:=eN.free 3;simp only[hcells,dH,dJ]at c0 c1 c2 c3;have tp:∀u0 u1 u2 u3,w.grownBy ((((dp.setCell ⟨w.heap.size,0,none⟩ u0).setCell ⟨w.heap.size,1,none⟩ u1).setCell ⟨w.heap.size,2,none⟩ u2).setCell ⟨w.heap.size,3,none⟩ u3) (some b):=λu0 u1 u2 u3=>
  CL (CL (CL (CL zA.out.gr _ u0 bl) _ u1 bl) _ u2 bl) _ u3 bl
 have P6:=I tp;have hcs:∀u0 u1 u2 u3:Value,(dp.setCell ⟨w.heap.size,0,none⟩ u0).cell? ⟨w.heap.size,0,none⟩=some u0/\((dp.setCell ⟨w.heap.size,0,none⟩ u0).setCell ⟨w.heap.size,1,none⟩ u1).cell? ⟨w.heap.size,1,none⟩=some u1 /\
   (((dp.setCell ⟨w.heap.size,0,none⟩ u0).setCell ⟨w.heap.size,1,none⟩ u1).setCell ⟨w.heap.size,2,none⟩ u2).cell? ⟨w.heap.size,2,none⟩=some u2 /\
   ((((dp.setCell ⟨w.heap.size,0,none⟩ u0).setCell ⟨w.heap.size,1,none⟩ u1).setCell ⟨w.heap.size,2,none⟩ u2).setCell ⟨w.heap.size,3,none⟩ u3).cell? ⟨w.heap.size,3,none⟩=some u3:=λu0 u1 u2 u3=>
  ⟨(eN.bq 0 u0).cell 0,((eN.bq 0 u0).bq 1 u1).cell 1,(((eN.bq 0 u0).bq 1 u1).bq 2 u2).cell 2,((((eN.bq 0 u0).bq 1 u1).bq 2 u2).bq 3 u3).cell 3⟩
 have xp:=I hcs;have TR:∀u0 u1 u2 u3,bK ((((dp.setCell ⟨w.heap.size,0,none⟩ u0).setCell ⟨w.heap.size,1,none⟩ u1).setCell ⟨w.heap.size,2,none⟩ u2).setCell ⟨w.heap.size,3,none⟩ u3) b o0:=λu0 u1 u2 u3=>by
  have au:=zA.out.lt;exact nc.out.keep (row:=some w.heap.size) (ho (ho (ho (ho (dg dp _) 0 u0) 1 u1) 2 u2) 3 u3) (by simp;omega)
 have abS:=I TR;clear hcs tp TR cW eN;rcases abI.out with⟨hbad,hnone⟩|⟨at_,yK,kq,hsome⟩
 .have hend:∀(W:ah),IU W b bs (.returned (.tuple #[.agg (hcells 0 0 0 0).toArray,.int .i64 3])) (ip bs):=λW=>by rw[hnone];exact rfl
  have dO:=I hend;obtain⟨s0,oh,oi,HB⟩:=xp.out (.int .u64 0) (.int .i64 0) (.int .i64 0) (.int .u64 0);have aF:=P6.out (.int .u64 0) (.int .i64 0) (.int .i64 0) (.int .u64 0);clear hend hnone;cases o0 with
 |none=>
   go_wp2;exact bodyPost_ret (v:=.tuple #[.agg (hcells 0 0 0 0).toArray,.int .i64 3]) (by simp[results,results19,go_sem,hcells,s0,oh,oi,HB]) rfl ⟨dO.out _,aF⟩
 |some z=>
   have bA:3<=k:=by rcases hbad with hbad|hbad;cases hbad;exact hbad
   have d5:decide ((3:Int)<=k)=true:=cf;go_wp2;exact bodyPost_ret (v:=.tuple #[.agg (hcells 0 0 0 0).toArray,.int .i64 3]) (by simp[results,results19,go_sem,hcells,s0,oh,oi,HB]) rfl ⟨dO.out _,aF⟩
 .subst yK;have hend:∀(W:ah),bK W b (some (bs.drop at_))->IU W b bs (.returned (.tuple #[.agg (hcells k e n s).toArray,.int .i64 0])) (ip bs):=λW hc=>by rw[hsome];exact⟨rfl,hc⟩
  have dO:=I hend;obtain⟨s0,oh,oi,HB⟩:=xp.out (.int .u64 k) (.int .i64 e) (.int .i64 n) (.int .u64 s);have aF:=P6.out (.int .u64 k) (.int .i64 e) (.int .i64 n) (.int .u64 s);have eX:=abS.out (.int .u64 k) (.int .i64 e) (.int .i64 n) (.int .u64 s);have d5:decide ((3:Int)<=k)=false:=aU;clear hend hsome;go_wp2;exact bodyPost_ret (v:=.tuple #[.agg (hcells k e n s).toArray,.int .i64 0]) (by simp[results,results19,go_sem,hcells,s0,oh,oi,HB]) rfl ⟨dO.out _ eX,aF⟩
theorem afp(bs:ae)(w:ah)(hl:bs.length<=100000000)(au:∀x∈bs,x<256) :
  Calls prog 13 #[.string (strOf bs)] w λe w'=>e=.returned (match ip bs with
  |none=>.tuple #[.int .i64 0,.int .i64 3]
  |some h=>.tuple #[.int .i64 (h.2.1:Int),.int .i64 0])/\av w w':=by
 obtain⟨V,bW⟩:∃V:Value,V=(match ip bs with
  |none=>.tuple #[.int .i64 0,.int .i64 3]
  |some h=>.tuple #[.int .i64 (h.2.1:Int),.int .i64 0]):=⟨_,rfl⟩
 rw[<-bW];have b0:=I (Kj bs w);have hg:=I (λW hc=>J1 w.heap.size bs W hl au hc);clear hl au;go_enter func13,ntmps13
 go_wp2_with fail
 refine b0.out.mono ?_;rintro e aw ⟨rfl,bM,aH⟩;have aN:=I aH;have BM:=I (hg.out aw bM);clear bM aH;go_wp2_with fail
 refine BM.out.mono ?_;rintro e aC ⟨ax,bp⟩;have bm:=I (aN.out.trans (below_grown bp bl aN.out.size));clear bp;have sR:=I (λu=>bm.out.alloc bm.out.size u);cases aI:ip bs with
|none=>
  rw[aI]at ax bW;subst bW;obtain rfl:e=.returned (.tuple #[.agg #[.int .u64 0,.int .i64 0,.int .i64 0,.int .u64 0],.int .i64 3]):=ax;clear aI;go_wp2;go_ret2;exact⟨rfl,sR.out _⟩
|some h=>
  rw[aI]at ax bW;subst bW;obtain⟨k,aP,n,s,at_⟩:=h;obtain rfl:e=.returned (.tuple #[.agg #[.int .u64 k,.int .i64 aP,.int .i64 n,.int .u64 s],.int .i64 0]):=ax.1;clear aI ax;dsimp only;go_wp2;go_ret2;exact⟨rfl,sR.out _⟩
theorem af6(bs:ae)(w:ah)(hl:bs.length<=100000000)(au:∀x∈bs,x<256) :
  Calls prog 14 #[.string (strOf bs)] w λe w'=>e=.returned (match ip bs with
  |none=>.tuple #[.int .i64 0,.int .i64 3]
  |some h=>.tuple #[.int .i64 (h.2.2.1:Int),.int .i64 0])/\av w w':=by
 obtain⟨V,bW⟩:∃V:Value,V=(match ip bs with
  |none=>.tuple #[.int .i64 0,.int .i64 3]
  |some h=>.tuple #[.int .i64 (h.2.2.1:Int),.int .i64 0]):=⟨_,rfl⟩
 rw[<-bW];have b0:=I (Kj bs w);have hg:=I (λW hc=>J1 w.heap.size bs W hl au hc);clear hl au;go_enter func14,ntmps14
 go_wp2_with fail
 refine b0.out.mono ?_;rintro e aw ⟨rfl,bM,aH⟩;have aN:=I aH;have BM:=I (hg.out aw bM);clear bM aH;go_wp2_with fail
 refine BM.out.mono ?_;rintro e aC ⟨ax,bp⟩;have bm:=I (aN.out.trans (below_grown bp bl aN.out.size));clear bp;have sR:=I (λu=>bm.out.alloc bm.out.size u);cases aI:ip bs with
|none=>
  rw[aI]at ax bW;subst bW;obtain rfl:e=.returned (.tuple #[.agg #[.int .u64 0,.int .i64 0,.int .i64 0,.int .u64 0],.int .i64 3]):=ax;clear aI;go_wp2;go_ret2;exact⟨rfl,sR.out _⟩
|some h=>
  rw[aI]at ax bW;subst bW;obtain⟨k,aP,n,s,at_⟩:=h;obtain rfl:e=.returned (.tuple #[.agg #[.int .u64 k,.int .i64 aP,.int .i64 n,.int .u64 s],.int .i64 0]):=ax.1;clear aI ax;dsimp only;go_wp2;go_ret2;exact⟨rfl,sR.out _⟩
namespace am
theorem QW(p:Int->Prop)(l:List Int)(k:Nat)(h:k<l.length)(ao:∀x∈l.take k,p x)(h1:p l[k]):∀x∈l.take (k+1),p x:=by
 rw[fY h];intro x ai;rcases List.mem_append.1 ai with af|af
 .exact ao x af
 .rw[List.mem_singleton.1 af];exact h1
end am
theorem aha(n:Nat)(r:Bool)(h:decide (n<=256)=r):decide ((n:Int)<=256)=r:=by rw[<-h,decide_eq_decide];omega
theorem ato(A:a7)(c:Nat)(l:List Int)(w:ah)(hl:l.length<=1000000000)(aj:Reads w A (gB l)) :
  Calls prog 152 #[.slice A l.length c] w λe w'=>e=.returned (.bool (decide (oG l)))/\w=w':=by
 have bj:=I aj;obtain⟨r,hres⟩:∃r,r=decide (oG l):=⟨_,rfl⟩;rw[<-hres];have b4:=I hres;have ff:Hid (¬oG l->false=r):=I (λh=>by rw[hres,bG h]);clear aj hres;go_enter func152,ntmps152
 go_wp2;go_loop [3] (λi=>∃(k:Nat),k<=l.length/\i=.int .i64 k/\Hid (∀x∈l.take k,0<=x/\x<=11)) (λi=>l.length-(intOf i).toNat)
 case atStart=>exact⟨0,by omega,rfl,I (by simp)⟩
 case round=>
  obtain⟨k,hk,rfl,hall⟩:=hrel;by_cases a8:k<l.length
  .obtain⟨g,off,rfl,hc⟩:=vq bj.out (by omega);have c0:=hc k a8;have iE:=I (QW (λx=>0<=x/\x<=11) l k a8 hall);have cj:=I (b8 a8);clear hc hall;generalize l[k]=z at c0 iE cj;by_cases aQ:z<0
   .have br:=I (ff.out (λh=>by have:=(h.2 z cj).1;omega));go_wp2;go_ret;exact⟨congrArg (λx=>Ending.returned (Value.bool x)) br,rfl⟩
   by_cases bz:11<z
   .have br:=I (ff.out (λh=>by have:=(h.2 z cj).2;omega));go_wp2;go_ret;exact⟨congrArg (λx=>Ending.returned (Value.bool x)) br,rfl⟩
   have rq:=I (iE.out (by omega));go_wp2;go_round
   case rel=>exact⟨k+1,by omega,by go_num,rq⟩
   case measure=>simp[intOf];omega
  .obtain rfl:k=l.length:=by omega
   have hfin:decide (l.length<=256)=r:=by
    have af:=hall.out;rw[take_length]at af;rw[b4.out,decide_eq_decide];exact⟨λb=>⟨b,af⟩,λh=>h.1⟩
   have fe:=I hfin;clear hfin hall;generalize l.length=n at *;go_wp2;go_ret;exact⟨congrArg (λx=>Ending.returned (Value.bool x)) (aha n r fe),rfl⟩
namespace am
theorem Nc(l:ae)(k:Nat)(h:k<l.length):fz (l.take (k+1))=fz (l.take k)+fa l[k]/\i6 (l.take (k+1))=i6 (l.take k)+if 0<l[k]then 1 else 0:=by
 unfold fz i6;rw[fY h,map_append,sum_append_nat,countP_append,countP_singleton];simp
theorem D2(n:Nat):fa n<=1024:=by
 unfold fa;split
 .omega
 .exact dy (n:=2) (j:=10) (by omega) (by omega)
theorem WQ(l:ae):fz l<=1024*l.length:=by
 unfold fz;induction l with
|nil=>simp
|cons a l ih=>have:=D2 a;rw[map_cons,sum_cons,bY];omega
theorem Y8(l:ae):i6 l<=l.length:=countP_le_length
end am
theorem atp(A:a7)(c:Nat)(l:List Int)(w:ah)(hl:l.length<=1000000000)(aj:Reads w A (gB l)) :
  Calls prog 116 #[.slice A l.length c] w λe w'=>e=.returned (.bool (decide (mb l)))/\w=w':=by
 have jL:=I (ato A c l w hl aj);by_cases cK:oG l
 .rw[bE cK]at jL;obtain⟨aG,dQ,CB⟩:=GX l cK;have tg:=cK.1;have bk:mb l↔(fz (l.map Int.toNat)=2048\/(i6 (l.map Int.toNat)=1/\fz (l.map Int.toNat)=1024)):=by
   unfold mb fq;exact⟨λh=>h.2.2.2,λh=>⟨cK,by omega,dQ,h⟩⟩
  have aI:decide (mb l)=decide (fz (l.map Int.toNat)=2048\/(i6 (l.map Int.toNat)=1/\fz (l.map Int.toNat)=1024)):=decide_eq_decide.2 bk;rw[aI];have bS:Reads w A (aM (l.map Int.toNat)):=by rw[<-jF,<-aG];exact aj
  generalize l.map Int.toNat=U at *;clear aI bk cK aG aj;have bj:=I bS;have mE:=I dQ;rw[<-CB]at jL ⊢;have hX:U.length<=256:=by omega
  clear bS dQ CB tg hl;obtain⟨r,hres⟩:∃r,r=decide (fz U=2048\/(i6 U=1/\fz U=1024)):=⟨_,rfl⟩;rw[<-hres];have b4:=I hres;clear hres;go_enter func116,ntmps116
  go_wp2_with fail
  refine jL.out.mono ?_;rintro e w' ⟨rfl,rfl⟩;go_wp2;go_loop [3,4,5] (λs t i=>∃(k:Nat),k<=U.length/\i=.int .i64 k/\s=.int .i64 (fz (U.take k):Int)/\t=.int .i64 (i6 (U.take k):Int)) (λ_ _ i=>U.length-(intOf i).toNat)
  case atStart=>exact⟨0,by omega,rfl,rfl,rfl⟩
  case round=>
   obtain⟨k,hk,rfl,rfl,rfl⟩:=hrel;by_cases a8:k<U.length
   .obtain⟨g,off,rfl,hc⟩:∃g off,A=some ⟨g,off,none⟩/\w.cell? ⟨g,off+k,none⟩=some (.int .i64 (U[k]:Int)):=by
     obtain⟨g,off,e,hc⟩:=bj.out (by intro e;have:=congrArg List.length e;rw[gm,length_nil]at this;omega);refine⟨g,off,e,?_⟩;have h1:=hc k (by rw[gm];exact a8);rw[iN U k a8]at h1;exact h1
    have cN:=I (Nc U k a8);have ts:=WQ (U.take k);have DB:=Y8 (U.take k);rw[cr,Nat.min_eq_left (by omega)]at ts DB;have dQ:=mE.out U[k] (b8 a8);have cn:=D2 U[k];have fS:Hid (0<U[k]->Calls prog 82 #[.int .i64 (11-(U[k]:Int))] w λe w'=>e=.returned (.int .i64 (fa U[k]:Int))/\w=w'):=I (λao=>by
     have h1:=ve (11-(U[k]:Int)) w (by omega);rw[show(11-(U[k]:Int)).toNat=11-U[k] by omega]at h1;unfold fa;rw[az (by omega)];exact h1)
    have EZ:Hid (U[k]=0->fa U[k]=0):=I (λh=>by unfold fa;rw[aB h]);generalize fz (U.take k)=K at *;generalize i6 (U.take k)=M at *;generalize fa U[k]=P at *;generalize U[k]=x at *;by_cases ai:0<x
    .have E8:=I (fS.out ai);go_wp2_with fail
     refine E8.out.mono ?_;rintro e w' ⟨rfl,rfl⟩;go_wp2;go_round
     case rel=>exact⟨k+1,by omega,by go_num,by rw[cN.out.1];go_num,by rw[cN.out.2,aB ai];go_num⟩
     case measure=>simp[intOf];omega
    .have uK:=EZ.out (by omega);subst uK;go_wp2;go_round
     case rel=>exact⟨k+1,by omega,by go_num,by rw[cN.out.1];go_num,by rw[cN.out.2,az ai];go_num⟩
     case measure=>simp[intOf];omega
   .obtain rfl:k=U.length:=by omega
    rw[take_length];generalize fz U=K at *;generalize i6 U=M at *;by_cases h1:K=2048
    .have d1:((K:Int)==2048)=true:=by rw[h1];rfl
     have br:Hid (true=r):=I (by rw[b4.out,bE (.inl h1)]);clear h1;go_wp2;go_ret;exact⟨congrArg (λx=>Ending.returned (Value.bool x)) br,rfl⟩
    .have d1:((K:Int)==2048)=false:=cz
     by_cases af:M=1
     .have d2:((M:Int)==1)=true:=by rw[af];rfl
      have br:Hid (((K:Int)==1024)=r):=I (by
       rw[b4.out,Bool.eq_iff_iff,beq_iff_eq,decide_eq_true_iff];omega)
      clear h1 af;go_wp2;go_ret;exact⟨congrArg (λx=>Ending.returned (Value.bool x)) br,rfl⟩
     .have d2:((M:Int)==1)=false:=cz
      have br:Hid (false=r):=I (by rw[b4.out,bG (by omega)]);clear h1 af;go_wp2;go_ret;exact⟨congrArg (λx=>Ending.returned (Value.bool x)) br,rfl⟩
 .rw[bG cK]at jL;have aL:decide (mb l)=false:=bG (λh=>cK h.1);rw[aL];clear aj aL;go_enter func116,ntmps116
  go_wp2_with fail
  refine jL.out.mono ?_;rintro e w' ⟨rfl,rfl⟩;go_wp2;go_ret;exact⟨rfl,rfl⟩
namespace am
def nn(l:ae)(q:Nat):ae:=(List.range q).map (gW l)++List.replicate (l.length-q) 0
theorem agW(l:ae):nn l 0=List.replicate l.length 0:=by simp[nn]
theorem agT(l:ae):nn l l.length=lm l:=by simp[nn,lm]
theorem agU(l:ae)(q:Nat)(h:q<=l.length):(nn l q).length=l.length:=by simp[nn];omega
theorem RJ(l:ae)(q:Nat)(h:q<l.length):(nn l q)[q]?=some 0:=by
 unfold nn;have h1:((List.range q).map (gW l)).length=q:=by simp
 rw[iY (by omega),h1,Nat.sub_self,getElem?_replicate,aB (by omega)]
theorem RK(l:ae)(q:Nat)(h:q<l.length):nn l (q+1)=(nn l q).set q (gW l q):=by
 unfold nn;have h1:((List.range q).map (gW l)).length=q:=by simp
 rw[set_append_right _ _ (by omega),h1,Nat.sub_self,range_succ,map_append,df];congr 1
 obtain⟨m,hm⟩:∃m,l.length-q=m+1:=⟨l.length-q-1,by omega⟩;rw[hm,show l.length-(q+1)=m by omega,replicate_succ];simp
theorem agV(l:ae)(q:Nat)(h:q<l.length)(ao:gW l q=0):nn l (q+1)=nn l q:=by
 rw[RK l q h,ao];apply ext_getElem?
 intro i;rw[getElem?_set];split
 .next e=>
  subst e;rw[aB (by rw[agU l q (by omega)];omega),RJ l q h]
 .rfl
theorem JV(l:ae)(i q:Nat):ni l i q<=1024*q:=by
 induction q with
|zero=>simp[ni]
|succ q ih=>
  rw[QU];have:=D2 (l[q]?.getD 0);split<;>omega
end am
theorem kL{w:ah}{A:a7}{l:ae}(h:Reads w A (aM l))(aZ:0<l.length):∃g off,A=some ⟨g,off,none⟩/\∀j (ar:j<l.length),w.cell? ⟨g,off+j,none⟩=some (.int .i64 (l[j]:Int)):=by
 have hne':aM l≠[]:=λe=>by
  have h1:=congrArg List.length e;rw[gm,length_nil]at h1;omega
 obtain⟨g,off,e,hc⟩:=h hne';exact⟨g,off,e,λj ar=>by rw[hc j (by rw[gm];exact ar),iN l j ar]⟩
theorem atn(A:a7)(c:Nat)(U:ae)(w:ah)(hl:U.length<=1000)(dQ:∀x∈U,x<=11)(aj:Reads w A (aM U)) :
  Calls prog 154 #[.slice A U.length c] w λe w'=>∃g,e=.returned (.slice (some ⟨g,0,none⟩) U.length U.length)/\w.heap.size<=g/\Row w' g 3 (aM (lm U))/\av w w':=by
 obtain⟨i0,ay,bC,bL,bz⟩:=info_parts oa;have bj:=I aj;have mE:=I dQ;clear aj dQ;obtain⟨g0,hJ⟩:∃g,g=w.heap.size:=⟨_,rfl⟩;have fJ:=I hJ;clear hJ;go_enter func154,ntmps154
 go_wp2_with (at_make;refine wpList_make_full _ rfl _ _ 112 rfl w.heap.size 3 i0 (.int .i64 0) 1 underlying112 ay bC bL .i64 .i64 _ _ U.length rfl rfl ?c1 ?c1 ?c2 ?c3 ?c4 ?_)
 case c1=>omega
 case c2=>first|omega|(rw[bz];omega)
 case c3=>unfold maxLen;omega
 try case c4=>exact Nat.le_refl _
 intro aw hown1 a1;have aH:=kZ a1;have cg:=tK hown1;rw[<-fJ.out]at cg ⊢;have aN:=I aH;rw[<-agW U]at cg;have fw:=I cg;clear hown1 a1 aH cg ay bC bL bz;go_wp2;go_loopw [4] (λi wr=>∃q:Nat,q<=U.length/\i=.int .i64 q/\Hid (Row wr g0 3 (aM (nn U q)))/\Hid (av w wr)) (λi _=>U.length-(intOf i).toNat)
 case atStart=>exact⟨0,by omega,rfl,fw,aN⟩
 case round=>
  obtain⟨q,hq,rfl,hrow,hbel⟩:=hrel;by_cases hL:q<U.length
  .obtain⟨g,off,hA,hc⟩:∃g off,A=some ⟨g,off,none⟩/\∀W,av w W->∀j (ar:j<U.length),W.cell? ⟨g,off+j,none⟩=some (.int .i64 (U[j]:Int)):=by
    obtain⟨g,off,e,_⟩:=kL bj.out (by omega);subst e;exact⟨g,off,rfl,λW ak j ar=>by
     obtain⟨eT,off',e,hc⟩:=kL (c7 bj.out ak) (by omega);injection e with e
     injection e with aG e2
     subst aG e2;exact hc j ar⟩
   subst hA;have gO:=I hc;have c0:=hc wr hbel.out q hL;have hq11:=mE.out U[q] (b8 hL);have nO:Hid (wr.cell? ⟨g0,q,none⟩=some (.int .i64 0)):=I (by
    have h1:=hrow.out.cell q;have af:=RJ U q hL;simp only[aM,getElem?_map,af,map_some]at h1;exact h1)
   have pq:U[q]?.getD 0=U[q]:=by rw[bI hL,b7]
   have b0:=I (RK U q hL);have zt:=I (agV U q hL);have PY:Hid (U[q]=0->gW U q=0):=I (λh=>by unfold gW;rw[pq,aB h]);have EM:Hid (U[q]≠0->gW U q=pj U q/2^(11-U[q])):=I (λh=>by unfold gW;rw[pq,az h]);have ua:=I pq;clear hc pq;obtain⟨b,ak⟩:∃b,b=U[q]:=⟨_,rfl⟩;rw[<-ak]at c0 hq11 PY EM ua;have b5:=I ak;clear ak;by_cases dc:b=0
   .subst dc;have dN:=I (zt.out (PY.out rfl));go_wp2;go_roundw
    case rel=>exact⟨q+1,by omega,by go_num,I (by rw[dN.out];exact hrow),hbel⟩
    case measure=>simp[intOf];omega
   .have hbne:((b:Int)==0)=false:=cz
    have abK:=I (EM.out dc);obtain⟨sL,rfl⟩:∃sL:ah,sL=wr:=⟨_,rfl⟩;go_wp2;clear c0;go_loopw [5,6] (λs k wr=>∃t:Nat,t<=U.length/\k=.int .i64 t/\s=.int .i64 (ni U q t)/\∃m,wr=sL.drewN m) (λ_ k _=>U.length-(intOf k).toNat)
    case atStart=>exact⟨0,by omega,rfl,rfl,0,rfl⟩
    case round=>
     obtain⟨t,aE,rfl,rfl,m,rfl⟩:=hrel;have mS:=below_drewN hbel.out m;by_cases e1:t<U.length
     .have c1:=gO.out _ hbel.out t e1;have c2:=gO.out _ hbel.out q hL;rw[<-b5.out]at c2;have awM:=mE.out U[t] (b8 e1);have mT:U[t]?.getD 0=U[t]:=by rw[bI e1,b7]
      have ca:=I (QU U q t);have dw:=JV U q t;have cn:=D2 U[t];have TI:me U t q=(decide (0<U[t]) && (decide (U[t]<b) || (decide (U[t]=b) && decide (t<q)))):=by
       unfold me;rw[mT,ua.out]
      rw[TI,mT]at ca;have fS:Hid (∀W,0<U[t]->Calls prog 82 #[.int .i64 (11-(U[t]:Int))] W λe w'=>e=.returned (.int .i64 (fa U[t]:Int))/\W=w'):=I (λW ao=>by
       have h1:=ve (11-(U[t]:Int)) W (by omega);rw[show(11-(U[t]:Int)).toNat=11-U[t] by omega]at h1;unfold fa;rw[az (by omega)];exact h1)
      clear TI mT;generalize ni U q t=S at *;generalize fa U[t]=P at *;generalize U[t]=a at *;have Gt:(0:Int)<=t:=by omega
      have yi:(0:Int)<=q:=by omega
      by_cases bh:0<a
      .have d1:decide ((0:Int)<a)=true:=cf;have E8:=I (λW=>fS.out W bh);by_cases bN:a<b\/(a=b/\t<q)
       .have iT:Hid (ni U q (t+1)=S+P):=I (by rw[ca.out,aB];simp;omega);by_cases en:a<b
        .have d3:decide (a<b)=true:=bE en;go_wp2_with fail
         go_quiet (fail)
         go_wp2_with fail
         refine(E8.out _).mono ?_;rintro e w' ⟨rfl,rfl⟩;go_wp2;go_roundw
         case rel=>exact⟨t+1,by omega,by go_num,by rw[iT.out];go_num,_,rfl⟩
         case measure=>simp[intOf];omega
        .have d3:decide (a<b)=false:=bG en;obtain⟨rfl,gn⟩:a=b/\t<q:=by omega
         have d4:decide (t<q)=true:=bE gn;go_wp2_with fail
         go_quiet (fail)
         go_wp2_with fail
         refine(E8.out _).mono ?_;rintro e w' ⟨rfl,rfl⟩;go_wp2;go_roundw
         case rel=>exact⟨t+1,by omega,by go_num,by rw[iT.out];go_num,_,rfl⟩
         case measure=>simp[intOf];omega
       .have iT:Hid (ni U q (t+1)=S):=I (by rw[ca.out,az (by simp;omega)];omega);have d3:decide (a<b)=false:=aU;by_cases gn:a=b
        .subst gn;have d4:decide (t<q)=false:=aU;go_wp2_with fail
         go_quiet (fail)
         go_wp2;go_roundw
         case rel=>exact⟨t+1,by omega,by go_num,by rw[iT.out],_,rfl⟩
         case measure=>simp[intOf];omega
        .have d4:((a:Int)==(b:Int))=false:=cz
         go_wp2_with fail
         go_quiet (fail)
         go_wp2;go_roundw
         case rel=>exact⟨t+1,by omega,by go_num,by rw[iT.out],_,rfl⟩
         case measure=>simp[intOf];omega
      .have d1:decide ((0:Int)<a)=false:=aU;have iT:Hid (ni U q (t+1)=S):=I (by rw[ca.out,az (by simp;omega)];omega);go_wp2_with fail
       go_quiet (fail)
       go_wp2;go_roundw
       case rel=>exact⟨t+1,by omega,by go_num,by rw[iT.out],_,rfl⟩
       case measure=>simp[intOf];omega
     .obtain rfl:t=U.length:=by omega
      have c2:=gO.out _ hbel.out q hL;rw[<-b5.out]at c2;have fS:Hid (∀W,Calls prog 82 #[.int .i64 (11-(b:Int))] W λe w'=>e=.returned (.int .i64 ((2^(11-b):Nat):Int))/\W=w'):=I (λW=>by
       have h1:=ve (11-(b:Int)) W (by omega);rw[show(11-(b:Int)).toNat=11-b by omega]at h1;exact h1)
      have dw:=JV U q U.length;have uK:0<2^(11-b):=eK _;have fe:Hid (gW U q=ni U q U.length/2^(11-b)):=I abK.out;have jA:(sL.drewN m).cell? ⟨g0,q,none⟩=some (.int .i64 0):=nO.out;have Gn:(sL.drewN m).frozen? ⟨g0,q,none⟩=false:=hrow.out.free q;generalize ni U q U.length=S at *;generalize 2^(11-b)=P at *;have Gm:(S:Int)/(P:Int)=((S/P:Nat):Int):=by simp
      have Mq:0<=(S:Int)/(P:Int):=by rw[Gm];exact Int.natCast_nonneg _
      have Dr:(S:Int)/(P:Int)<=S:=by rw[Gm];exact Int.ofNat_le.2 (div_le_self S P)
      have ab9:=I Gm;clear Gm;go_wp2_with fail
      refine(fS.out _).mono ?_;rintro e w' ⟨rfl,rfl⟩;go_wp2;go_roundw
      case rel=>
       refine⟨q+1,by omega,by go_num,I ?_,I (mS.setCell (by rw[fJ.out];exact Nat.le_refl _) _)⟩;have ao:Row (sL.drewN m) g0 3 (aM (nn U q)):=hrow.out;rw[b0.out,fe.out];have h1:=ao.bq q (.int .i64 ((S:Int)/(P:Int)));rw[show aM ((nn U q).set q (S/P))=(aM (nn U q)).set q (.int .i64 ((S/P:Nat):Int)) by simp[aM,map_set],<-ab9.out];exact h1
      case measure=>simp[intOf];omega
  .obtain rfl:q=U.length:=by omega
   rw[agT]at hrow;go_wp2;go_ret;exact⟨g0,rfl,by rw[fJ.out];exact Nat.le_refl _,hrow,hbel⟩
namespace am
theorem agn(U:ae)(s k:Nat)(h:k<U[s]?.getD 0):(cT U s).take (k+1)=(cT U s).take k++[gW U s/2^(U[s]?.getD 0-1-k)%2]:=by
 have hk:k<(cT U s).length:=by rw[ll];exact h
 rw[fY hk,Fw]
theorem agK(U:ae)(s:Nat):gW U s<=1024*U.length:=by
 unfold gW;split
 .omega
 .exact dl (div_le_self _ _) (JV U s U.length)
end am
theorem atH(A:a7)(c:Nat)(U:ae)(s:Nat)(w:ah)(hl:U.length<=1000)(dQ:∀x∈U,x<=11)(ap:s<U.length)(aj:Reads w A (aM U)) :
  Calls prog 118 #[.slice A U.length c,.int .i64 s] w λe w'=>∃u,e=.returned u/\w'.ownsRow w.heap.size 3 1 u (U[s]?.getD 0) (aM (cT U s))/\av w w':=by
 obtain⟨i0,ay,bC,bL,bz⟩:=info_parts oa;have gO:=I (atn A c U w hl dQ aj);have hz:=agK U s;have hget:(aM (lm U))[s]?=some (.int .i64 (gW U s)):=by
  rw[iN _ _ (by unfold lm;simpa using ap)];simp[lm]
 have auQ:U[s]?.getD 0<=11:=by
  rw[bI ap,b7];exact dQ _ (b8 ap)
 obtain⟨g0,off,rfl,hcell⟩:=kL aj (by omega);have ai:∀W,av w W->W.cell? ⟨g0,off+s,none⟩=some (.int .i64 (U[s]?.getD 0:Int)):=λW ak=>by
  have h1:=c7 aj ak;obtain⟨g1,off1,e,bM⟩:=kL h1 (by omega);injection e with e
  injection e with aG e2
  subst aG e2;rw[bM s ap,bI ap,b7]
 have cc:=I ai;have tZ:=I hget;have IF:=I (λk h=>agn U s k h);have lR:=I (ll U s);clear aj hcell hget ai dQ;generalize gW U s=C at *;generalize cT U s=h5 at *;generalize U[s]?.getD 0=n at *;go_enter func118,ntmps118
 go_wp2_with fail
 refine gO.out.mono ?_;rintro e aw ⟨g,rfl,aF,hrow,aH⟩;have d1:=(hrow.cell s).trans tZ.out;have d2:=cc.out aw aH;have aN:=I aH;clear aH hrow;go_wp2;go_loopw [5,7] (λu i wr=>∃k:Nat,k<=n/\i=.int .i64 ((n:Int)-1-k)/\Hid (wr.ownsRow w.heap.size 3 1 u k (aM (h5.take k)))/\Hid (av w wr)) (λ_ i _=>(intOf i+1).toNat)
 case atStart=>exact⟨0,by omega,by simp,I (by rw[take_zero];exact World.ownsRow_nil _ _ _ _),aN⟩
 case round=>
  obtain⟨k,hk,rfl,hown,hbel⟩:=hrel;by_cases kG:k<n
  .obtain⟨q,hq⟩:∃q,n=q+k+1:=⟨n-k-1,by omega⟩;have aG:(n:Int)-1-k=q:=by omega
   rw[aG];have aE:=IF.out k kG;rw[show n-1-k=q by omega]at aE;have fS:=I (ve (q:Int) wr (by omega));rw[cX]at fS;have cJ:0<2^q:=eK q;have Af:2^q<=2048:=by
    have af:2^q<=2^11:=dy (by omega) (by omega);have aq:(2:Nat)^11=2048:=by decide
    omega
   have jt:=I hq;have fK:=I aE;clear aE hq;generalize 2^q=P at *;have jP:(C:Int)/(P:Int)=((C/P:Nat):Int):=by simp
   have n2:C/P<=C:=div_le_self _ _;have r1:((C/P:Nat):Int)%2=((C/P%2:Nat):Int):=by omega
   have avm:((P:Int)==0)=false:=cz
   have avL:C/P%2<=1:=by omega
   generalize C/P%2=y at *;generalize C/P=x at *;go_wp2_with fail
   refine fS.out.mono ?_;rintro e w' ⟨rfl,rfl⟩;go_wp2_with (at_builtin;refine wpList_append_own _ rfl _ _ 112 rfl w.heap.size 3 i0 (.int .i64 0) 1 8 underlying112 ay bC bL bz rfl (by decide) _ _ _ rfl (hown.out.alloc _) ⟨wr.heap.size,0,none⟩ 1 1 [.int .i64 y] rfl rfl ?c1 ?c2 ?c3 ?c4 ?c5 ?_)
   case c1=>
    intro j u ar;match j,ar with
   |0,ar=>simp at ar;subst ar;simp[Addr.add]
   case c2=>intro u hu;simp at hu;subst hu;rfl
   case c3=>unfold maxLen;omega
   case c4=>omega
   case c5=>have:=hbel.out.size;simp;omega
   intro gN aC hown2 qR _;have jk:av w aC:=(hbel.out.alloc hbel.out.size _).grown qR (by have:=hbel.out.size;simp;omega) (λx e=>(hown.out.lt x e).1);have e:aM (h5.take k)++[Value.int .i64 y]=aM (h5.take (k+1)):=by rw[fK.out];simp[aM]
   rw[e]at hown2;have oz:=I hown2;have ru:=I jk;clear hown2 jk qR e hown hbel;go_wp2;go_roundw
   case rel=>exact⟨k+1,by omega,by have hq:=jt.out;congr 1;omega,oz,ru⟩
   case measure=>simp[intOf]
  .obtain rfl:k=n:=by omega
   have aG:(k:Int)-1-k=-1:=by omega
   rw[aG];go_wp2;go_ret;exact⟨_,rfl,by have h:=hown.out;rwa [take_of_length_le (by rw[lR.out];exact Nat.le_refl _)]at h,hbel⟩
def En:Option (ae)->Value
|none=>.tuple #[.string (strOf []),.bool false]
|some s=>.tuple #[.string (strOf s),.bool true]
theorem aow(l ag:ae)(h:ag.length<=l.length)(k:Nat)(hk:k<ag.length):l.take (k+1)=ag.take (k+1)↔l.take k=ag.take k/\l[k]=ag[k]:=by
 rw[fY hk,fY (show k<l.length by omega)];constructor
 .intro e;have h1:=append_inj' e rfl;exact⟨h1.1,by simpa using h1.2⟩
 .rintro⟨h1,af⟩;rw[h1,af]
theorem N8(l ag:ae):ag <+: l↔ag.length<=l.length/\l.take ag.length=ag.take ag.length:=by
 rw[take_length];constructor
 .rintro⟨t,rfl⟩;exact⟨by simp,by rw[take_left'];rfl⟩
 .rintro⟨_,h⟩;exact⟨l.drop ag.length,(congrArg (·++l.drop ag.length) h.symm).trans (gq ag.length l)⟩
theorem atG(A B:a7)(c d:Nat)(l ag:ae)(w:ah)(hl:l.length<=1000000)(hz:ag.length<=1000000)(aj:Reads w A (aM l))(ap:Reads w B (aM ag)) :
  Calls prog 119 #[.slice A l.length c,.slice B ag.length d] w λe w'=>e=.returned (.bool (decide (ag <+: l)))/\∃m,w'=w.drewN m:=by
 obtain⟨r,hres⟩:∃r,r=decide (ag <+: l):=⟨_,rfl⟩;rw[<-hres];have b4:=I hres;have bj:=I aj;have ca:=I ap;clear hres aj ap;by_cases hlen:l.length<ag.length
 .have d1:decide (l.length<ag.length)=true:=bE hlen;have ai:false=r:=by rw[b4.out];exact(bG (λh=>by have:=((N8 l ag).1 h).1;omega)).symm
  have cc:=I ai;clear ai;go_enter func119,ntmps119
  go_wp2;go_ret;exact⟨congrArg (λx=>Ending.returned (Value.bool x)) cc,0,rfl⟩
 .have d1:decide (l.length<ag.length)=false:=bG hlen;have ff:Hid (∀k,k<ag.length->l.take (k+1)≠ag.take (k+1)->false=r):=I (λk hk aZ=>by
   rw[b4.out];refine(bG (λh=>aZ ?_)).symm;have af:=((N8 l ag).1 h).2;have aq:=congrArg (List.take (k+1)) af;rwa [take_take,take_take,Nat.min_eq_left (by omega)]at aq)
  have JN:Hid (l.take ag.length=ag.take ag.length->true=r):=I (λh=>by rw[b4.out];exact(bE ((N8 l ag).2 ⟨by omega,h⟩)).symm);have cN:=I (λk hk=>aow l ag (by omega) k hk);go_enter func119,ntmps119
  go_wp2;go_loopw [5] (λi wr=>∃k m:Nat,k<=ag.length/\i=.int .i64 k/\Hid (l.take k=ag.take k)/\Hid (wr=w.drewN m)) (λi _=>ag.length-(intOf i).toNat)
  case atStart=>exact⟨0,0,by omega,rfl,I (by simp),I rfl⟩
  case round=>
   obtain⟨k,m,hk,rfl,aE,hw⟩:=hrel;have lw:=hw.out;subst lw;by_cases tr:k<ag.length
   .have ak:Below w.heap.size w (w.drewN m):=below_drewN dM m;obtain⟨g,off,rfl,hc⟩:=kL bj.out (by omega);obtain⟨g1,off1,rfl,bM⟩:=kL ca.out (by omega);have bD:=hc k (by omega);have bh:=bM k tr;have aS:=cN.out k tr;have eU:=ff.out k tr;have a8:k<l.length:=by omega
    have gP:=I aS;have ac6:=I eU;clear hc bM aS eU;generalize l[k]'a8=x at *;generalize ag[k]'tr=y at *;by_cases vh:x=y
    .subst vh;have aI:((x:Int) != (x:Int))=false:=by simp
     have gQ:=I (gP.out.2 ⟨aE,rfl⟩);go_wp2_with fail
     go_quiet (fail)
     go_wp2;go_roundw
     case rel=>exact⟨k+1,_,by omega,by go_num,gQ,I rfl⟩
     case measure=>simp[intOf];omega
    .have aI:((x:Int) != (y:Int))=true:=by rw[bne_iff_ne];omega
     have ai:=ac6.out (λh=>vh (gP.out.1 h).2);have cc:=I ai;clear ai;go_wp2_with fail
     go_quiet (fail)
     go_wp2;go_ret;exact⟨congrArg (λx=>Ending.returned (Value.bool x)) cc,_,World.drewN_drewN _ _ _⟩
   .obtain rfl:k=ag.length:=by omega
    have ai:=JN.out aE.out;have cc:=I ai;clear ai;go_wp2;go_ret;exact⟨congrArg (λx=>Ending.returned (Value.bool x)) cc,m,rfl⟩
def ED(w':ah)(e:Ending):Option (ae)->Prop
|none=>∃A c,e=.returned (.tuple #[.slice A 0 c,.bool false])
|some bs=>∃A c,e=.returned (.tuple #[.slice A bs.length c,.bool true])/\bs.length<=c/\Reads w' A (aO bs)
def mD(W:ah)(g:Nat)(U:ae)(q:Nat):Prop:=∃vs:b1,Row W g 178 vs/\vs.length=256 /\
 ∀j,j<q->0<U[j]?.getD 0->∃A c,vs[j]?=some (.slice A (U[j]?.getD 0) c)/\(∀a,A=some a->g<a.block)/\Reads W A (aM (cT U j))
theorem mD.below{W bb:ah}{g q:Nat}{U:ae}(h:mD W g U q)(ak:av W bb):mD bb g U q:=by
 obtain⟨vs,h1,af,aq⟩:=h;refine⟨vs,h1.keep (ak.block g h1.lt),af,λj ar ao=>?_⟩;obtain⟨A,c,e,aV,aj⟩:=aq j ar ao;exact⟨A,c,e,aV,c7 aj ak⟩
theorem mD.skip{W:ah}{g q:Nat}{U:ae}(h:mD W g U q)(ao:U[q]?.getD 0=0):mD W g U (q+1):=by
 obtain⟨vs,h1,af,aq⟩:=h;refine⟨vs,h1,af,λj ar ax=>?_⟩;rcases eF j q with e|e
 .exact aq j e ax
 .obtain rfl:j=q:=by omega
  omega
theorem mD.set{W:ah}{g q c:Nat}{U:ae}{A:a7}(h:mD W g U q)(hq:q<256)(hA:∀a,A=some a->g<a.block)(aj:Reads W A (aM (cT U q))) :
  mD (W.setCell ⟨g,q,none⟩ (.slice A (U[q]?.getD 0) c)) g U (q+1):=by
 obtain⟨vs,h1,af,aq⟩:=h;refine⟨vs.set q (.slice A (U[q]?.getD 0) c),h1.bq q _,by rw[length_set,af],λj ar ax=>?_⟩;by_cases e:j=q
 .subst e;exact⟨A,c,by rw[getElem?_set_self (by omega)],hA,Yp aj (λa e=>by have:=hA a e;show a.block≠g;omega)⟩
 .obtain⟨da,db,e',aV,mV⟩:=aq j (by omega) ax;exact⟨da,db,by rw[getElem?_set_ne (by omega)];exact e',aV,Yp mV (λa e=>by have:=aV a e;show a.block≠g;omega)⟩
theorem mD.cell{W:ah}{g q j:Nat}{U:ae}(h:mD W g U q)(ar:j<q)(ao:0<U[j]?.getD 0):∃A c,W.cell? ⟨g,j,none⟩=some (.slice A (U[j]?.getD 0) c)/\Reads W A (aM (cT U j)):=by
 obtain⟨vs,h1,af,aq⟩:=h;obtain⟨A,c,e,_,aj⟩:=aq j ar ao;exact⟨A,c,(h1.cell j).trans e,aj⟩
theorem mD.any{W:ah}{g q:Nat}{U:ae}(h:mD W g U q)(hq:q<256):(∃v,W.cell? ⟨g,q,none⟩=some v)/\W.frozen? ⟨g,q,none⟩=false/\g<W.heap.size:=by
 obtain⟨vs,h1,af,_⟩:=h;exact⟨⟨vs[q]'(by omega),by rw[h1.cell q,bI (by omega)]⟩,h1.free q,h1.lt⟩
theorem atP(W:ah):Sem.run prog (zeroValue 178) W=.ok (.agg (Array.replicate 256 (.slice none 0 0))) W:=by kernel_rfl
def Nz:Option Nat->Int
|none=>-1
|some k=>(k:Int)
theorem atI(A:a7)(c n:Nat)(U s:ae)(w:ah)(bk:fq U)(aA:n<=100000)(hl:s.length<=1000)(ap:∀x∈s,x<256)(aj:Reads w A (aM U)) :
  Calls prog 77 #[.slice A U.length c,.string (strOf s),.int .i64 n] w λe w'=>ED w' e (nX U s n)/\av w w':=by
 obtain⟨i0,ay,bC,bL,bz⟩:=info_parts ob;obtain⟨u6,dQ,_⟩:=bk;have ak8:=atP;obtain⟨Z,uO⟩:∃Z,Z=Array.replicate 256 (Value.slice none 0 0):=⟨_,rfl⟩;rw[<-uO]at ak8;have abN:=I (λW k (ak:av w W) (h:k<U.length)=>atH A c U k W (by omega) dQ h (c7 aj ak));have bj:=I aj;have mE:=I dQ;have hrow:Row (w.alloc (.cells Z 178)) w.heap.size 178 (List.replicate 256 (Value.slice none 0 0)):=by
  rw[uO,<-toArray_replicate];exact Row.new w _ _
 have mr:mD (w.alloc (.cells Z 178)) w.heap.size U 0:=⟨_,hrow,by simp,λj ar=>by omega⟩;have II:=I mr;have lG:=I ((Below.refl w.heap.size w).alloc bl (.cells Z 178));clear aj dQ uO hrow mr;obtain⟨res,hres⟩:∃r,r=nX U s n:=⟨_,rfl⟩;rw[<-hres];have b4:=I hres;clear hres;go_enter func77,ntmps77
 go_wp2;generalize w.alloc (.cells Z 178)=aw at *;go_loopw [9] (λi wr=>∃k:Nat,k<=U.length/\i=.int .i64 k/\Hid (mD wr w.heap.size U k)/\Hid (av w wr)) (λi _=>U.length-(intOf i).toNat)
 case atStart=>exact⟨0,by omega,rfl,II,lG⟩
 case round=>
  obtain⟨k,hk,rfl,mr,hbel⟩:=hrel;by_cases a8:k<U.length
  .obtain⟨g1,off1,rfl,bM⟩:=kL (c7 bj.out hbel.out) (by omega);have c1:=bM k a8;have fj:U[k]?.getD 0=U[k]:=by rw[bI a8,b7]
   have kg:=I (abN.out wr k hbel.out a8);have QE:=I (λh=>mD.skip (q:=k) mr.out h);have h4:=I (λW A c (h:mD W w.heap.size U k)=>mD.set (c:=c) (A:=A) h (by omega));rw[fj]at kg QE h4;clear bM fj;generalize U[k]=m at *;by_cases hm:m=0
   .have MC:=I (QE.out hm);subst hm;clear mr;go_wp2;go_roundw
    case rel=>exact⟨k+1,by omega,by go_num,MC,hbel⟩
    case measure=>simp[intOf];omega
   .have h8:0<m:=by omega
    go_wp2_with fail
    refine kg.out.mono ?_;rintro e aC ⟨u,rfl,b9,aJ⟩;obtain⟨eR,c2,rfl,bt,uI⟩:=kJ b9;have LF:=mr.out.below aJ;obtain⟨⟨v0,d0⟩,f0,hJ⟩:=LF.any (show k<256 by omega);obtain⟨_,_,a1⟩:=mr.out.any (show k<256 by omega);have IJ:=I (h4.out aC eR c2 LF (λa e=>by have:=(uI a e).1;omega) bt);have bm:=I ((hbel.out.trans (aJ.mono hbel.out.size)).setCell (p:=⟨w.heap.size,k,none⟩) bl (.slice eR m c2));clear b9 bt uI LF aJ mr hbel;go_wp2;go_roundw
    case rel=>exact⟨k+1,by omega,by go_num,IJ,bm⟩
    case measure=>simp[intOf];omega
  .obtain rfl:k=U.length:=by omega
   obtain⟨aC,cap2,hcv,hcell,aJ⟩:=nW wr s ap;have yG:Reads aC (some ⟨wr.heap.size,0,none⟩) (aO s):=λ_=>⟨_,_,rfl,λj ar=>by
    rw[i7]at ar;rw[ez,hcell j ar,jq s j ar]⟩
   have jl:=Hv (some ⟨wr.heap.size,0,none⟩) cap2 s aC (by omega) ap yG (λa e ao=>by injection e with e;subst e;exact RB (hcell 0 ao));have lH:=I jl;have bm:=b3 hbel aJ;have abX:=I (mr.out.below aJ);have u5:(am.bitsOf (bd s) (8*s.length)).length=8*s.length:=gV _ _;have hres2:res=(iJ U n (am.bitsOf (bd s) (8*s.length))).bind s9:=b4.out;have ii:=I hres2;clear jl aJ hcell yG mr hbel hres2;generalize am.bitsOf (bd s) (8*s.length)=k9 at *;go_wp2_with fail
   refine lH.out.mono ?_;rintro e a6 ⟨u3,rfl,Mb,bA⟩;obtain⟨vD,c3,rfl,pC,_⟩:=kJ Mb;obtain⟨avG,ai9⟩:=A5 Mb;have b6:=b3 bm bA;have IJ:=I (abX.out.below bA);have Jq:=I pC;clear Mb bA pC hcv;go_wp2;go_loopw [10,11,12,13,14] (λvj vn bV _ _ eQ=>∃(i uy:Nat) (l acc:ae) (zb:a7),i<=n/\bV=.int .i64 i/\vj=.slice zb l.length uy/\l.length<=8*s.length/\l.length<=uy/\uy<=maxLen/\acc.length=i/\Hid (Reads a6 zb (aM l))/\Hid (eQ.ownsRow a6.heap.size 5 1 vn i (aO acc))/\Hid (av a6 eQ)/\Hid (res=((iJ U (n-i) l).map λt=>(acc++t.1,t.2)).bind s9)) (λ_ _ bV _ _ _=>n-(intOf bV).toNat)
   case atStart=>exact⟨0,c3,k9,[],vD,by omega,rfl,by rw[u5],by omega,by omega,ai9,rfl,Jq,I (World.ownsRow_nil _ _ _ _),I dM,I (by rw[ii.out,Nat.sub_zero];cases iJ U n k9<;>rfl)⟩
   case round=>
    obtain⟨i,uy,l,acc,zb,avZ,rfl,rfl,yp,Dd,gX,hacc,bt,hown,hbel,eV⟩:=hrel;rename ah=>eQ
    by_cases eZ:i<n
    .have hdec:iJ U (n-i) l=(m7 U l).bind λk=>(iJ U (n-(i+1)) (l.drop (U[k]?.getD 0))).map λt=>(k::t.1,t.2):=by
      rw[show n-i=(n-(i+1))+1 by omega,iJ]
     rw[hdec]at eV;clear hdec;have zI:=I (b6.out.trans (hbel.out.mono b6.out.size));have abY:=I (IJ.out.below hbel);have Jr:=I (c7 bt.out hbel);go_wp2;go_loopw [13,14] (λam5 iy Bl=>∃(q m:Nat) (z:Int),q<=U.length/\iy=.int .i64 q/\am5=.int .i64 z/\-1<=z/\z<=256/\Hid (z=Nz (q2 U l q))/\Hid (Bl=eQ.drewN m)) (λ_ iy _=>U.length-(intOf iy).toNat)
     case atStart=>exact⟨0,0,-1,by omega,rfl,rfl,by omega,by omega,I rfl,I rfl⟩
     case round=>
      obtain⟨q,m,z,hq,rfl,rfl,Wq,Wr,aQ,hw⟩:=hrel;have MQ:=hw.out;subst MQ;clear hw;by_cases hL:q<U.length
      .obtain⟨g1,off1,rfl,bM⟩:=kL (c7 bj.out zI.out) (by omega);have c1:=bM q hL;have fj:U[q]?.getD 0=U[q]:=by rw[bI hL,b7]
       have hstep:q2 U l (q+1)=if 0<U[q]/\cT U q <+: l then some q else q2 U l q:=by rw[q2,fj]
       have kD:=I hstep;have hcell:=λao=>abY.out.cell hL ao
       have LB:=ll U q;rw[fj]at hcell LB;have hle:=mE.out U[q] (b8 hL);clear bM fj hstep;generalize cT U q=h5 at *;generalize U[q]=Xr at *;by_cases hm:Xr=0
       .subst hm;have aS:=kD.out;rw[az (λh=>by omega)]at aS;have cN:=I aS;clear aS hcell LB;go_wp2;go_roundw
        case rel=>exact⟨q+1,m,z,by omega,by go_num,rfl,Wq,Wr,I (by rw[cN.out];exact aQ),I rfl⟩
        case measure=>simp[intOf];omega
       .have h8:0<Xr:=by omega
        obtain⟨aam,c5,d5,Vj⟩:=hcell h8;subst LB;have abw:=I (λW (ak:av eQ W)=>atG zb aam uy c5 l h5 W (by omega) (by omega) (c7 Jr.out ak) (c7 Vj ak));clear hcell Vj;go_wp2_with fail
        refine(abw.out _ (below_drewN dM m)).mono ?_;rintro e axP ⟨rfl,m2,rfl⟩;have aS:=kD.out;by_cases ax:h5 <+: l
        .rw[aB ⟨h8,ax⟩]at aS;have cN:=I aS;have uT:decide (h5 <+: l)=true:=bE ax;rw[uT];clear aS uT;go_wp2;go_roundw
         case rel=>exact⟨q+1,_,(q:Int),by omega,by go_num,rfl,by omega,by omega,I (by rw[cN.out];rfl),I rfl⟩
         case measure=>simp[intOf];omega
        .rw[az (λh=>ax h.2)]at aS;have cN:=I aS;have uT:decide (h5 <+: l)=false:=bG ax;rw[uT];clear aS uT;go_wp2;go_roundw
         case rel=>exact⟨q+1,_,z,by omega,by go_num,rfl,Wq,Wr,I (by rw[cN.out];exact aQ),I rfl⟩
         case measure=>simp[intOf];omega
      .obtain rfl:q=U.length:=by omega
       have dc:Below eQ.heap.size eQ (eQ.drewN m):=below_drewN dM m;generalize eQ.drewN m=Bl at *;have QP:=b3 zI dc;have mJ:=eV;cases py:m7 U l with
      |none=>
        have kc:z=-1:=by rw[aQ.out];show Nz (m7 U l)=-1;rw[py];rfl
        subst kc;have ai:res=none:=by rw[eV.out,py];rfl
        have cc:=I ai;clear ai eV py aQ hown bt;go_wp2;go_ret2;rw[cc.out];exact⟨⟨_,_,rfl⟩,QP⟩
      |some k=>
        obtain⟨a8,gl,Uu⟩:=NA U l _ k py;have kc:z=(k:Int):=by rw[aQ.out];show Nz (m7 U l)=(k:Int);rw[py];rfl
        subst kc;rw[py,Option.bind_some]at mJ;have qe:=Uu.length_le;rw[ll]at qe;obtain⟨g1,off1,rfl,bM⟩:=kL (c7 bj.out QP.out) (by omega);have fj:U[k]?.getD 0=U[k]:=by rw[bI a8,b7]
        rw[fj]at mJ qe gl;have abL:=I (λW (ak:av w W)=>show W.cell? ⟨g1,off1+k,none⟩=some (.int .i64 (U[k]:Int))from by
         obtain⟨g2,off2,e,c8⟩:=kL (c7 bj.out ak) (by omega);injection e with e
         injection e with aG e2
         subst aG e2;exact c8 k a8)
        clear eV bM fj Uu py aQ;generalize U[k]=mk at *;have awY:(k:Int)%256=(k:Int):=by omega
        have Qo:=I (own_below hown.out dc);have EI:=b3 hbel dc;have zl:=I (λW=>Cw zb l.length uy mk W qe Dd);have abx:=I (Ol (c:=uy) (q:=mk) bt.out Dd);have ko:(l.drop mk).length=l.length-mk:=cB ..;have av4:k<256:=by omega
        clear hown hbel;go_wp2_with (at_builtin;refine wpList_append_own _ rfl _ _ 87 rfl a6.heap.size 5 i0 (.int .u8 0) 1 1 underlying87 ay bC bL bz rfl (by decide) _ _ _ rfl (Qo.out.alloc _) ⟨Bl.heap.size,0,none⟩ 1 1 [.int .u8 k] rfl rfl ?d1 ?d2 ?d3 ?d4 ?d5 ?_)
        case d1=>
         intro j u ar;match j,ar with
        |0,ar=>simp at ar;subst ar;simp[Addr.add]
        case d2=>intro u hu;simp at hu;subst hu;rfl
        case d3=>unfold maxLen;omega
        case d4=>omega
        case d5=>have:=EI.out.size;simp;omega
        intro gN dk de di _;have jz:av a6 dk:=(EI.out.alloc EI.out.size _).grown di (by have:=EI.out.size;simp;omega) (λx e=>(Qo.out.lt x e).1);have e:aO acc++[Value.int .u8 k]=aO (acc++[k]):=by simp[aO]
        rw[e]at de;have js:=I de;have nb:=I jz;have hc17:=abL.out dk (b6.out.trans (jz.mono b6.out.size));have uR:=zl.out;clear de di jz e;go_wp2;clear uR;go_roundw
        case rel=>
         refine⟨i+1,uy-mk,l.drop mk,acc++[k],mN zb uy mk,by omega,by go_num,by rw[ko],by omega,by omega,by omega,by simp[hacc],abx,js,nb,I ?_⟩;rw[mJ.out];cases iJ U (n-(i+1)) (l.drop mk)with
        |none=>rfl
        |some t=>simp
        case measure=>simp[intOf];omega
    .obtain rfl:i=n:=by omega
     rw[Nat.sub_self]at eV;have Vu:res=s9 (acc,l):=by rw[eV.out];simp[iJ]
     have mJ:=I Vu;have zI:=I (b6.out.trans (hbel.out.mono b6.out.size));have Jr:=I (c7 bt.out hbel);obtain⟨Bm,Ct,rfl,Du,_⟩:=kJ hown.out;have adB:=I Du;have EJ:=I (A5 hown).1;clear eV Vu hown Du;go_wp2;go_loopw [15] (λhB Bl=>∃j:Nat,j<=l.length/\j<=7/\hB=.int .i64 j/\Hid (∀x∈l.take j,x=0)/\Hid (Bl=eQ)) (λhB _=>l.length-(intOf hB).toNat)
     case atStart=>exact⟨0,by omega,by omega,rfl,I (by simp),I rfl⟩
     case round=>
      obtain⟨j,fk,ajX,rfl,aQ,hw⟩:=hrel;have MQ:=hw.out;subst MQ;clear hw;by_cases ar:j<l.length
      .obtain⟨g1,off1,rfl,bM⟩:=kL Jr.out (by omega);have c1:=bM j ar;have eU:¬(l.length<=7/\∀x∈l,x=0)->res=none:=λh=>by rw[mJ.out,s9,az h]
       have hmem:=b8 ar;have iw:l[j]=0->∀x∈l.take (j+1),x=0:=λh x ai=>by
        rw[fY ar]at ai;rcases List.mem_append.1 ai with h1|h1
        .exact aQ.out x h1
        .rw[List.mem_singleton.1 h1];exact h
       have ff:=I (λ(h:l[j]≠0)=>eU (λhh=>h (hh.2 _ hmem)));have ac7:=I (λ(h:7<=j)=>eU (λhh=>by omega));have hE:=I iw;clear bM eU hmem iw aQ;generalize l[j]=x at *;by_cases mY:x=0
       .subst mY;by_cases c6:j=7
        .subst c6;have cc:=I (ac7.out (by omega));go_wp2;go_ret2;rw[cc.out];exact⟨⟨_,_,rfl⟩,zI⟩
        .have aep:=I (hE.out rfl);have d7:decide (7<=j)=false:=aU;go_wp2;go_roundw
         case rel=>exact⟨j+1,by omega,by omega,by go_num,aep,I (by first|rfl|trivial)⟩
         case measure=>simp[intOf];omega
       .have auL:((x:Int)==0)=false:=cz
        have cc:=I (ff.out mY);go_wp2;go_ret2;rw[cc.out];exact⟨⟨_,_,rfl⟩,zI⟩
      .obtain rfl:j=l.length:=by omega
       have ai:res=some acc:=by
        have h:=aQ.out;rw[take_of_length_le bl]at h;rw[mJ.out,s9,aB ⟨ajX,h⟩]
       have cc:=I ai;have gj:=I hacc;clear ai aQ hacc;go_wp2;go_ret2;rw[cc.out];exact⟨⟨Bm,Ct,by rw[gj.out];rfl,by rw[gj.out];exact EJ,adB⟩,zI⟩
theorem RZ(A:a7)(L c q:Nat)(W:ah)(h:q<=L)(hc:L<=c):(Instr.slice 112 (.slice A L c) none (some (.int .i64 q)) none).run prog W=.ok (.slice A q c) W:=by
 have h1:q<=c:=by omega
 rcases A with _|a
 .go_simp
 .go_simp
def Bp(l:List Int)(k:Nat):Prop:=k<=l.length/\(∀j (h:j<l.length),k<=j->l[j]=0)/\(k=0\/∃h:k-1<l.length,l[k-1]≠0)
theorem ail(A:a7)(c:Nat)(l:List Int)(w:ah)(hl:l.length<=1000000000)(hc:l.length<=c)(aj:Reads w A (gB l)) :
  Calls prog 153 #[.slice A l.length c] w λe w'=>∃k,e=.returned (.slice A k c)/\Bp l k/\w=w':=by
 have bj:=I aj;have pU:=I (λq (hq:q<=l.length) W=>RZ A l.length c q W hq hc);clear aj;go_enter func153,ntmps153
 go_wp2;go_loop [3] (λn=>∃k:Nat,k<=l.length/\n=.int .i64 k/\Hid (∀j (h:j<l.length),k<=j->l[j]=0)) (λn=>(intOf n).toNat)
 case atStart=>exact⟨l.length,Nat.le_refl _,rfl,I (λj h hk=>by omega)⟩
 case round=>
  obtain⟨k,hk,rfl,aQ⟩:=hrel;have hcut:=pU.out k hk;rcases eq_zero_or_pos k with ao|ao
  .subst ao;go_wp2;go_ret;exact⟨0,rfl,⟨by omega,aQ.out,.inl rfl⟩,rfl⟩
  .obtain⟨q,rfl⟩:∃q,k=q+1:=⟨k-1,by omega⟩;obtain⟨g,off,rfl,hcell⟩:=vq bj.out (by omega);have c0:=hcell q (by omega);have Dk:l[q]≠0->Bp l (q+1):=λh=>⟨hk,aQ.out,.inr ⟨by omega,h⟩⟩
   have gH:l[q]=0->∀j (h:j<l.length),q<=j->l[j]=0:=λh j ar hq=>by
    by_cases e:j=q
    .subst e;exact h
    .exact aQ.out j ar (by omega)
   have BV:=I Dk;have pX:=I gH;have yC:((q+1:Nat):Int)-1=q:=by omega
   clear hcell Dk gH;generalize l[q]=z at c0 BV pX;by_cases kc:z=0
   .subst kc;have b0:=I (pX.out rfl);clear hcut;go_wp2;go_round
    case rel=>exact⟨q,by omega,by go_num,b0⟩
    case measure=>simp[intOf]
   .have aI:(z==0)=false:=by simpa using kc
    have e7:=I (BV.out kc);go_wp2;go_ret;exact⟨q+1,rfl,e7,rfl⟩
namespace am
theorem OC:∀(U:ae) (k:Nat),k<=U.length->(∀j,k<=j->U[j]?.getD 0=0)->(k=0\/U[k-1]?.getD 0≠0)->cA U=U.take k
|[],k,hk,_,_=>by simp[cA]
|n::l,k,hk,aQ,hl=>by
  have hsum:∀l:ae,(∀j,l[j]?.getD 0=0)->l.sum=0:=λl=>by
   induction l with
  |nil=>simp
  |cons a l ih=>
    intro h;have ao:=h 0;rw[dH,b7]at ao;rw[sum_cons,ao,ih (λj=>by have:=h (j+1);rwa [dJ]at this)]
  have akD:∀(l:ae) (j:Nat),l.sum=0->l[j]?.getD 0=0:=λl=>by
   induction l with
  |nil=>intro j _;simp
  |cons a l ih=>
    intro j h;rw[sum_cons]at h;cases j with
   |zero=>rw[dH,b7];omega
   |succ j=>rw[dJ];exact ih j (by omega)
  unfold cA;rcases k with _|k
  .rw[aB (by have:=hsum (n::l) (λj=>aQ j (by omega));rwa [sum_cons]at this),take_zero]
  .have aZ:¬(n+l.sum=0):=λh=>by
    rcases hl with h1|h1
    .omega
    .exact h1 (akD (n::l) _ (by rw[sum_cons];exact h))
   rw[az aZ,take_succ_cons];congr 1
   refine OC l k (by simpa using hk) (λj ar=>by have:=aQ (j+1) (by omega);rwa [dJ]at this) ?_;rcases hl with h1|h1
   .omega
   .rcases k with _|k
    .exact .inl rfl
    .refine .inr ?_;rw[Nat.add_sub_cancel,dJ]at h1;rw[Nat.add_sub_cancel];exact h1
end am
theorem YZ(U:ae)(k:Nat)(h:Bp (U.map (λn:Nat=>(n:Int))) k):cA U=U.take k/\k=(cA U).length/\k<=U.length:=by
 obtain⟨h1,af,aq⟩:=h;rw[cQ]at h1;have e:cA U=U.take k:=by
  refine OC U k h1 (λj ar=>?_) ?_
  .rcases eF j U.length with aK|aK
   .have aT:=af j (by rw[cQ];exact aK) ar;rw[getElem_map]at aT;rw[bI aK,b7];omega
   .rw[getElem?_eq_none aK];rfl
  .rcases aq with aK|⟨aK,aT⟩
   .exact .inl aK
   .right
    rw[cQ]at aK;rw[getElem_map]at aT;rw[bI aK,b7];omega
 exact⟨e,by rw[e,cr];omega,h1⟩
theorem Ys{w:ah}{A:a7}{xs:b1}(h:Reads w A xs)(k:Nat):Reads w A (xs.take k):=λaZ=>by
 obtain⟨g,off,e,hc⟩:=h (by rintro rfl;simp at aZ);refine⟨g,off,e,λj ar=>?_⟩;rw[cr]at ar;rw[hc j (by omega),getElem?_take,aB (by omega)]
def Eg(k m x:Int):Int:=bits .or .u32 (bits .and .u32 (x/k) m) (bits .and .u32 x m*k%4294967296)
def Ym(x:Int):Int:=bits .or .u32 (Eg 256 16711935 x/65536) (Eg 256 16711935 x*65536%4294967296)
def Ot(x:Int):Int:=Ym (Eg 16 252645135 (Eg 4 858993459 (Eg 2 1431655765 x)))
theorem apU(x:Int)(w:ah) :
  Calls prog 209 #[.int .u32 x] w λe w'=>e=.returned (.int .u32 (Ym x))/\w=w':=by
 go_enter func209,ntmps209
 go_wp2;go_ret;exact⟨rfl,rfl⟩
theorem apS(x:Int)(w:ah) :
  Calls prog 176 #[.int .u32 x] w λe w'=>e=.returned (.int .u32 (Ot x))/\w=w':=by
 have H:=I (λy=>apU y w);go_enter func176,ntmps176
 go_wp2_with fail
 refine(H.out _).mono ?_;rintro e w' ⟨rfl,rfl⟩;go_wp2;go_ret;exact⟨rfl,rfl⟩
namespace am
def GZ(n c:Nat):ae:=(List.range n).map λj=>c/2^(n-1-j)%2
theorem ago(U:ae)(s:Nat):cT U s=GZ (U[s]?.getD 0) (gW U s):=rfl
end am
theorem aqo:((List.range 12).all λn=>(List.range (2^n)).all λc=>Ot (c:Int)/2^(32-n)==((hx (GZ n c):Nat):Int))=true:=by kernel_rfl
theorem aqp(n c:Nat)(aA:n<=11)(hc:c<2^n):Ot (c:Int)/2^(32-n)=((hx (GZ n c):Nat):Int):=by
 have h:=aqo;rw[List.all_eq_true]at h;have h1:=h n (List.mem_range.2 (by omega));rw[List.all_eq_true]at h1;exact beq_iff_eq.1 (h1 c (List.mem_range.2 hc))
theorem amo(n c:Nat)(w:ah)(aA:n<=11)(hc:c<2^n) :
  Calls prog 143 #[.int .i64 c,.int .i64 n] w λe w'=>e=.returned (.int .u32 (hx (GZ n c):Int))/\w=w':=by
 have H:=I (apS (c:Int) w);have c8:c<2048:=gJ hc (dy (n:=2) (j:=11) (by omega) aA);have gR:=I (aqp n c aA hc);have qO:IntKind.u32.wrap (c:Int)=c:=by simp[IntKind.wrap,IntKind.bits,IntKind.signed];omega
 clear hc;go_enter func143,ntmps143
 go_wp2_with fail
 refine H.out.mono ?_;rintro e w' ⟨rfl,rfl⟩;go_wp2;go_ret;exact⟨congrArg (λx=>Ending.returned (Value.int .u32 x)) gR,rfl⟩
theorem Pe(A:a7)(c:Nat)(l:List Int)(w:ah)(hl:l.length<=9223372036854775807)(aj:Reads w A (gB l)) :
  Calls prog 138 #[.slice A l.length c] w λe w'=>e=.returned (.bool (decide (oG l)))/\w=w':=by
 have bj:=I aj;obtain⟨r,hres⟩:∃r,r=decide (oG l):=⟨_,rfl⟩;rw[<-hres];have eU:∀P:Prop,(oG l->P)->¬P->false=r:=λP h ax=>by
  rw[hres];symm;exact bG (λh1=>ax (h h1))
 have ff:=I eU;have b4:=I hres;clear aj hres eU;by_cases aq:256<l.length
 .have aL:false=r:=ff.out (l.length<=256) (λh=>h.1) (by omega);rw[<-aL];go_enter func138,ntmps138
  go_wp2;go_ret;exact⟨rfl,rfl⟩
 go_enter func138,ntmps138
 go_wp2;go_loop [10] (λi=>∃k:Nat,k<=l.length/\i=.int .i64 k/\∀x∈l.take k,0<=x/\x<=11) (λi=>l.length-(intOf i).toNat)
 case atStart=>exact⟨0,by omega,rfl,by simp⟩
 case round=>
  obtain⟨k,hk,rfl,hall⟩:=hrel;by_cases a8:k<l.length
  .obtain⟨g,off,rfl,hc⟩:=vq bj.out (by omega);have c0:=hc k a8;have iE:=I (QW (λx=>0<=x/\x<=11) l k a8 hall);have cj:=I (b8 a8);clear hc hall;generalize l[k]=z at c0 iE cj;by_cases aQ:z<0
   .have aL:false=r:=ff.out (0<=z) (λh=>(h.2 z cj.out).1) (by omega);have br:=I aL;clear aL;go_wp2;go_ret;exact⟨congrArg (λx=>Ending.returned (Value.bool x)) br,rfl⟩
   by_cases bz:11<z
   .have aL:false=r:=ff.out (z<=11) (λh=>(h.2 z cj.out).2) (by omega);have br:=I aL;clear aL;go_wp2;go_ret;exact⟨congrArg (λx=>Ending.returned (Value.bool x)) br,rfl⟩
   go_wp2;go_round
   case rel=>exact⟨k+1,by omega,by go_num,iE.out (by omega)⟩
   case measure=>simp[intOf];omega
  .obtain rfl:k=l.length:=by omega
   rw[take_length]at hall;have hres:true=r:=by
    rw[b4.out];symm
    exact bE ⟨by omega,hall⟩
   clear hall;have br:=I hres;clear hres;go_wp2;go_ret;exact⟨congrArg (λx=>Ending.returned (Value.bool x)) br,rfl⟩
namespace am
theorem al6(U:ae)(k L:Nat)(h:k<U.length)(ao:i6 (U.take k)=0->fz (U.take k)=0)(h1:i6 (U.take k)=1->fz (U.take k)=fa L) :
  (i6 (U.take (k+1))=0->fz (U.take (k+1))=0)/\(i6 (U.take (k+1))=1->fz (U.take (k+1))=fa (if 0<U[k]then U[k]else L)):=by
 obtain⟨aG,e2⟩:=Nc U k h;rw[aG,e2];by_cases ax:0<U[k]
 .rw[aB ax,aB ax];exact⟨λh=>by omega,λh=>by rw[ao (by omega)];omega⟩
 .have aQ:U[k]=0:=by omega
  have GF:fa U[k]=0:=by unfold fa;rw[aB aQ]
  rw[az ax,az ax,GF];exact⟨λh=>by rw[ao (by omega)],λh=>by rw[h1 (by omega)];rfl⟩
theorem an0(L:Nat)(h:L<=11):fa L=1024↔L=1:=by
 have:∀n:Fin 12,(fa n.1=1024)↔n.1=1:=by decide
 exact this ⟨L,by omega⟩
theorem an1(n:Nat)(h:n<=11)(ao:0<n):2048/2^n=fa n:=by
 have:∀n:Fin 12,0<n.1->2048/2^n.1=fa n.1:=by decide
 exact this ⟨n,by omega⟩ ao
end am
theorem atd(A:a7)(c:Nat)(l:List Int)(w:ah)(hl:l.length<=9223372036854775807)(aj:Reads w A (gB l))(cK:¬oG l) :
  Calls prog 140 #[.slice A l.length c] w λe w'=>e=.returned (.bool false)/\w=w':=by
 have jL:=I (Pe A c l w hl aj);rw[bG cK]at jL;clear aj cK;go_enter func140,ntmps140
 go_wp2_with fail
 refine jL.out.mono ?_;rintro e w' ⟨rfl,rfl⟩;go_wp2;go_ret;exact⟨rfl,rfl⟩
theorem atc(A:a7)(c:Nat)(U:ae)(w:ah)(hl:U.length<=256)(dQ:∀x∈U,x<=11)(aj:Reads w A (aM U))(hmay:Calls prog 138 #[.slice A U.length c] w λe w'=>e=.returned (.bool true)/\w=w') :
  Calls prog 140 #[.slice A U.length c] w λe w'=>e=.returned (.bool (decide (fz U=2048\/(i6 U=1/\fz U=1024))))/\w=w':=by
 have jL:=I hmay;have bj:=I aj;have mE:=I dQ;clear aj dQ hmay;obtain⟨r,hres⟩:∃r,r=decide (fz U=2048\/(i6 U=1/\fz U=1024)):=⟨_,rfl⟩;rw[<-hres];have b4:=I hres;clear hres;go_enter func140,ntmps140
 go_wp2_with fail
 refine jL.out.mono ?_;rintro e w' ⟨rfl,rfl⟩;go_wp2;go_loop [3,4,5,13] (λt s z i=>∃(k L:Nat),k<=U.length/\L<=11/\i=.int .i64 k/\s=.int .i64 (fz (U.take k):Int)/\t=.int .i64 (i6 (U.take k):Int)/\z=.int .i64 L/\Hid ((i6 (U.take k)=0->fz (U.take k)=0)/\(i6 (U.take k)=1->fz (U.take k)=fa L))) (λ_ _ _ i=>U.length-(intOf i).toNat)
 case atStart=>exact⟨0,0,by omega,by omega,rfl,rfl,rfl,rfl,I ⟨λ_=>rfl,λh=>by simp[i6]at h⟩⟩
 case round=>
  obtain⟨k,L,hk,bR,rfl,rfl,rfl,rfl,hlast⟩:=hrel;by_cases a8:k<U.length
  .obtain⟨g,off,rfl,hc⟩:=kL bj.out (by omega);have c0:=hc k a8;have cN:=I (Nc U k a8);have qz:=I (al6 U k L a8 hlast.out.1 hlast.out.2);have ts:=WQ (U.take k);have DB:=Y8 (U.take k);rw[cr,Nat.min_eq_left (by omega)]at ts DB;have dQ:=mE.out U[k] (b8 a8);have cn:=D2 U[k];have s3:=I (an1 U[k] dQ);have EZ:Hid (U[k]=0->fa U[k]=0):=I (λh=>by unfold fa;rw[aB h]);clear hc hlast;generalize fz (U.take k)=K at *;generalize i6 (U.take k)=M at *;generalize cJ:fa U[k]=P at cn s3 EZ cN;clear cJ;generalize U[k]=x at *;by_cases ai:0<x
   .have mW:=s3.out ai;have hX:=qz.out;simp only[aB ai]at hX;have BS:=I hX;clear hX;have awI:(2048:Int)/2^x=(P:Int):=by rw[<-mW];simp
    clear mW;go_wp2;go_round
    case rel=>exact⟨k+1,x,by omega,by omega,by go_num,by rw[cN.out.1];go_num,by rw[cN.out.2,aB ai];go_num,rfl,BS⟩
    case measure=>simp[intOf];omega
   .have uK:=EZ.out (by omega);have hX:=qz.out;simp only[az ai]at hX;have BS:=I hX;subst uK;clear hX;go_wp2;go_round
    case rel=>exact⟨k+1,L,by omega,by omega,by go_num,by rw[cN.out.1];go_num,by rw[cN.out.2,az ai];go_num,rfl,BS⟩
    case measure=>simp[intOf];omega
  .obtain rfl:k=U.length:=by omega
   rw[take_length]at hlast;rw[take_length];have iL:=an0 L bR;generalize fa L=P at *;generalize fz U=K at *;generalize i6 U=M at *;by_cases h1:K=2048
   .have d1:((K:Int)==2048)=true:=by rw[h1];rfl
    have br:Hid (true=r):=I (by rw[b4.out,bE (.inl h1)]);clear h1 iL;go_wp2;go_ret;exact⟨congrArg (λx=>Ending.returned (Value.bool x)) br,rfl⟩
   .have d1:((K:Int)==2048)=false:=cz
    by_cases af:M=1
    .have d2:((M:Int)==1)=true:=by rw[af];rfl
     have hK:=hlast.out.2 af;have br:Hid (((L:Int)==1)=r):=I (by
      rw[b4.out,Bool.eq_iff_iff,beq_iff_eq,decide_eq_true_iff];omega)
     clear h1 af iL hK hlast;go_wp2;go_ret;exact⟨congrArg (λx=>Ending.returned (Value.bool x)) br,rfl⟩
    .have d2:((M:Int)==1)=false:=cz
     have br:Hid (false=r):=I (by rw[b4.out,bG (by omega)]);clear h1 af iL hlast;go_wp2;go_ret;exact⟨congrArg (λx=>Ending.returned (Value.bool x)) br,rfl⟩
theorem Pg(A:a7)(c:Nat)(l:List Int)(w:ah)(hl:l.length<=9223372036854775807)(aj:Reads w A (gB l)) :
  Calls prog 140 #[.slice A l.length c] w λe w'=>e=.returned (.bool (decide (mb l)))/\w=w':=by
 by_cases cK:oG l
 .have hm:=Pe A c l w hl aj;rw[bE cK]at hm;obtain⟨aG,dQ,CB⟩:=GX l cK;have tg:=cK.1;have bk:mb l↔(fz (l.map Int.toNat)=2048\/(i6 (l.map Int.toNat)=1/\fz (l.map Int.toNat)=1024)):=by
   unfold mb fq;exact⟨λh=>h.2.2.2,λh=>⟨cK,by omega,dQ,h⟩⟩
  have aI:decide (mb l)=decide (fz (l.map Int.toNat)=2048\/(i6 (l.map Int.toNat)=1/\fz (l.map Int.toNat)=1024)):=decide_eq_decide.2 bk;rw[aI];have bS:Reads w A (aM (l.map Int.toNat)):=by rw[<-jF,<-aG];exact aj
  have h:=atc A c (l.map Int.toNat) w (by omega) dQ bS (by rw[CB];exact hm);rw[CB]at h;exact h
 .have aL:decide (mb l)=false:=bG (λh=>cK h.1);rw[aL];exact atd A c l w hl aj cK
namespace am
theorem apZ(l:List Int)(h:Right l):l=(l.map Int.toNat).map (λn:Nat=>(n:Int))/\(∀x∈l.map Int.toNat,x<=1048576)/\(l.map Int.toNat).length=l.length:=by
 refine⟨?_,?_,by simp⟩
 .rw[List.map_map];conv=>lhs;rw[<-List.map_id l]
  apply map_congr_left
  intro x ai;have:=h.2.1 x ai;simp only[Function.comp_apply,id];omega
 .intro x ai;obtain⟨y,hy,rfl⟩:=List.mem_map.1 ai;have:=h.2.1 y hy;omega
end am
theorem XC(A:a7)(c:Nat)(l:List Int)(w:ah)(hl:l.length<=maxLen)(aj:Reads w A (gB l)) :
  Calls prog 136 #[.slice A l.length c] w λe w'=>e=.returned (.bool (q5 l))/\w=w':=by
 by_cases h:l.length<=1000000000
 .exact NI A c l w h aj
 .unfold maxLen at hl;have aL:q5 l=false:=bG (λh1=>by have:=h1.1;omega);rw[aL];clear aj aL;go_enter func136,ntmps136
  go_wp2;go_ret;exact⟨rfl,rfl⟩
namespace am
theorem yO{p q:Prop} [Decidable p] [Decidable q](h:p↔q)(a b:Nat):(if p then a else b)=if q then a else b:=by
 by_cases hq:q
 .rw[aB hq,aB (h.2 hq)]
 .rw[az hq,az (λax=>hq (h.1 ax))]
def kF(U:ae)(m q k:Nat):Prop:=0<U[k]?.getD 0/\(U[k]?.getD 0<m\/(U[k]?.getD 0=m/\k<q))
instance (U:ae) (m q k:Nat):Decidable (kF U m q k):=by unfold kF;exact inferInstance
def l1(U:ae)(m q:Nat):Nat:=((List.range U.length).map λk=>if kF U m q k then fa (U[k]?.getD 0)else 0).sum
def kE(U:ae)(m q:Nat):ae:=(List.range U.length).map λk=>if kF U m q k then gW U k else 0
theorem RI(U:ae)(m q:Nat):(kE U m q).length=U.length:=by simp[kE]
theorem aos(U:ae)(m q:Nat)(h:q<U.length)(ao:0<m)(he:U[q]?.getD 0=m):l1 U m (q+1)=l1 U m q+fa m:=by
 have e:fa m=((List.range U.length).map λk=>if k=q then fa m else 0).sum:=by rw[y4,aB h]
 conv=>rhs;rw[e]
 unfold l1;rw[<-w5];congr 1
 apply map_congr_left
 intro k _;by_cases hk:k=q
 .subst hk;rw[aB (show kF U m (k+1) k by unfold kF;omega),az (show ¬kF U m k k by unfold kF;omega),aB rfl,he,ez]
 .rw[az hk,fX];exact yO (by unfold kF;omega) _ _
theorem R8(U:ae)(m q:Nat)(he:U[q]?.getD 0≠m)(k:Nat):kF U m (q+1) k↔kF U m q k:=by
 unfold kF;by_cases hk:k=q
 .subst hk;omega
 .omega
theorem aou(U:ae)(m q:Nat)(he:U[q]?.getD 0≠m):l1 U m (q+1)=l1 U m q:=by
 unfold l1;congr 1
 apply map_congr_left
 intro k _;exact yO (R8 U m q he k) _ _
theorem agR(U:ae)(m q:Nat)(he:U[q]?.getD 0≠m):kE U m (q+1)=kE U m q:=by
 unfold kE;apply map_congr_left
 intro k _;exact yO (R8 U m q he k) _ _
theorem R7(U:ae)(m:Nat)(k:Nat)(hk:k<U.length):kF U m U.length k↔kF U (m+1) 0 k:=by unfold kF;omega
theorem aot(U:ae)(m:Nat):l1 U m U.length=l1 U (m+1) 0:=by
 unfold l1;congr 1
 apply map_congr_left
 intro k hk;exact yO (R7 U m k (List.mem_range.1 hk)) _ _
theorem agQ(U:ae)(m:Nat):kE U m U.length=kE U (m+1) 0:=by
 unfold kE;apply map_congr_left
 intro k hk;exact yO (R7 U m k (List.mem_range.1 hk)) _ _
theorem aov(U:ae):l1 U 1 0=0:=by
 unfold l1;have:∀L:ae,(L.map λk=>if kF U 1 0 k then fa (U[k]?.getD 0)else 0).sum=0:=λL=>by
  induction L with
 |nil=>rfl
 |cons k L ih=>
   rw[map_cons,sum_cons,ih,az (by unfold kF;omega)]
 exact this _
theorem agS(U:ae):kE U 1 0=List.replicate U.length 0:=by
 unfold kE;rw[map_congr_left (g:=λ_=>0) (λk _=>az (by unfold kF;omega)),map_const',length_range]
theorem agO(U:ae)(h:∀x∈U,x<=11):kE U 12 0=lm U:=by
 unfold kE lm;apply map_congr_left
 intro k hk;have hk:=List.mem_range.1 hk;have h1:U[k]?.getD 0<=11:=by rw[bI hk,b7];exact h _ (b8 hk)
 by_cases ao:U[k]?.getD 0=0
 .rw[az (by unfold kF;omega)];unfold gW;rw[aB ao]
 .rw[aB (by unfold kF;omega)]
theorem aoq(U:ae)(m q:Nat)(he:U[q]?.getD 0=m):pj U q=l1 U m q:=by
 unfold pj ni l1;congr 1
 apply map_congr_left
 intro k _;refine yO ?_ _ _;unfold me kF;rw[he];simp only[Bool.and_eq_true,Bool.or_eq_true,decide_eq_true_eq]
theorem aor(U:ae)(m q:Nat):l1 U m q<=fz U:=by
 rw[GR];unfold l1;apply Ep
 intro k _;split
 .exact Nat.le_refl _
 .exact zero_le _
theorem agP(U:ae)(m q:Nat)(ao:0<m)(he:U[q]?.getD 0=m):kE U m (q+1)=(kE U m q).set q (gW U q):=by
 apply ext_getElem
 .simp[RI]
 .intro k h1 af;rw[getElem_set];simp only[kE,getElem_map,getElem_range];by_cases hk:q=k
  .subst hk;rw[aB rfl,aB (by unfold kF;omega)]
  .rw[az hk];exact yO (by unfold kF;omega) _ _
theorem agJ(U:ae)(m q N:Nat)(ao:0<m)(he:U[q]?.getD 0=m)(cU:N*2^(11-m)=l1 U m q):gW U q=N:=by
 unfold gW;rw[he,az (by omega),aoq U m q he,<-cU,Nat.mul_div_cancel _ (eK _)]
theorem arx(N m X:Nat)(ao:0<m)(h:m<=11)(cU:N*2^(12-m)=X):2*N*2^(11-m)=X:=by
 rw[<-cU,show 12-m=(11-m)+1 by omega,ea,eG 2 N,Nat.mul_assoc,eG 2]
theorem arw(N m X:Nat)(h:m<=11)(ao:0<m)(cU:N*2^(11-m)=X):(N+1)*2^(11-m)=X+fa m:=by
 unfold fa;rw[az (by omega),Nat.add_mul,cU,Nat.one_mul]
theorem RH(N e X:Nat)(h:N*2^e=X)(ck:X<=2048):N<=2048:=dl (by rw[<-h];exact Nat.le_mul_of_pos_right _ (eK _)) ck
end am
theorem asz(A:a7)(c:Nat)(U:ae)(w:ah)(hl:U.length<=256)(dQ:∀x∈U,x<=11)(ts:fz U<=2048)(aj:Reads w A (aM U))(lY:Calls prog 140 #[.slice A U.length c] w λe w'=>e=.returned (.bool true)/\w=w') :
  Calls prog 142 #[.slice A U.length c] w λe w'=>∃g,e=.returned (.tuple #[.slice (some ⟨g,0,none⟩) U.length U.length,.bool true])/\Row w' g 3 (aM (lm U))/\w.heap.size<=g/\av w w':=by
 obtain⟨i0,ay,bC,bL,bz⟩:=info_parts oa;have bj:=I aj;have mE:=I dQ;have oF:=I lY;have pe:=I (λm q=>dl (aor U m q) ts);clear aj dQ lY ts;obtain⟨g0,hJ⟩:∃g,g=w.heap.size:=⟨_,rfl⟩;have fJ:=I hJ;clear hJ;go_enter func142,ntmps142
 go_wp2_with fail
 refine oF.out.mono ?_;rintro e w' ⟨rfl,rfl⟩;go_wp2_with (at_make;refine wpList_make_full _ rfl _ _ 112 rfl w.heap.size 3 i0 (.int .i64 0) 1 underlying112 ay bC bL .i64 .i64 _ _ U.length rfl rfl ?c1 ?c1 ?c2 ?c3 ?c4 ?_)
 case c1=>omega
 case c2=>first|omega|(rw[bz];omega)
 case c3=>unfold maxLen;omega
 try case c4=>exact Nat.le_refl _
 intro aw hown1 a1;have aH:=kZ a1;have cg:=tK hown1;rw[<-fJ.out]at cg ⊢;have aN:=I aH;rw[<-agS U]at cg;have fw:=I cg;clear hown1 a1 aH cg ay bC bL bz;go_wp2;go_loopw [5,6] (λA4 G1 wr=>∃(N m:Nat),A4=.int .i64 N/\G1=.int .i64 m/\0<m/\m<=12/\N<=2048/\Hid (N*2^(12-m)=l1 U m 0)/\Hid (Row wr g0 3 (aM (kE U m 0)))/\Hid (av w wr)) (λ_ G1 _=>12-(intOf G1).toNat)
 case atStart=>exact⟨0,1,rfl,rfl,by omega,by omega,by omega,I (by rw[aov,Nat.zero_mul]),fw,aN⟩
 case round=>
  obtain⟨N,m,rfl,rfl,h8,awl,cU,hpre,hrow,hbel⟩:=hrel;by_cases hm:m<=11
  .have E0:=I (arx N m _ h8 hm hpre);have Gc:=RH _ _ _ E0.out (pe.out m 0);clear hpre;go_wp2;rename ah=>eQ
   go_loopw [5,23] (λA4 bV wr=>∃(l9 q:Nat),q<=U.length/\A4=.int .i64 l9/\bV=.int .i64 q/\l9<=2048/\Hid (l9*2^(11-m)=l1 U m q)/\Hid (Row wr g0 3 (aM (kE U m q)))/\Hid (av w wr)) (λ_ bV _=>U.length-(intOf bV).toNat)
   case atStart=>exact⟨2*N,0,by omega,by go_num,rfl,Gc,E0,hrow,hbel⟩
   case round=>
    obtain⟨l9,q,hq,rfl,rfl,SY,yB,hrow2,jk⟩:=hrel;clear hrow hbel;by_cases hL:q<U.length
    .obtain⟨g,off,rfl,hc⟩:=kL (c7 bj.out jk.out) (by omega);have c0:=hc q hL;have Wl:=mE.out U[q] (b8 hL);have pq:U[q]?.getD 0=U[q]:=by rw[bI hL,b7]
     have ua:=I pq;clear hc pq;obtain⟨x,ai⟩:∃x,x=U[q]:=⟨_,rfl⟩;rw[<-ai]at c0 Wl ua;clear ai;by_cases MR:x=m
     .subst MR;have nf:=I (arw l9 x _ hm h8 yB);rw[<-aos U x q hL h8 ua.out]at nf;have aiJ:=RH _ _ _ nf.out (pe.out x (q+1));have kg:=I (agP U x q h8 ua);rw[agJ U x q l9 h8 ua.out yB.out]at kg;have hlen:(aM (kE U x q)).length=U.length:=by rw[gm,RI]
      have hcell:∃v,wr.cell? ⟨g0,q,none⟩=some v:=⟨_,(hrow2.out.cell q).trans (bI (by omega))⟩;obtain⟨v0,jA⟩:=hcell;have Gn:wr.frozen? ⟨g0,q,none⟩=false:=hrow2.out.free q;have hrow3:Row (wr.setCell ⟨g0,q,none⟩ (.int .i64 l9)) g0 3 (aM (kE U x (q+1))):=by
       have h1:=hrow2.out.bq q (.int .i64 l9);rw[kg.out,show aM ((kE U x q).set q l9)=(aM (kE U x q)).set q (.int .i64 l9) by simp[aM,map_set]];exact h1
      have kU:=I hrow3;have IB:=I (jk.out.setCell (p:=⟨g0,q,none⟩) (by rw[fJ.out];exact Nat.le_refl _) (.int .i64 l9));clear hrow3 hlen hrow2 jk yB;go_wp2;go_roundw
      case rel=>exact⟨l9+1,q+1,by omega,by go_num,by go_num,aiJ,nf,kU,IB⟩
      case measure=>simp[intOf];omega
     .have nf:Hid (l9*2^(11-m)=l1 U m (q+1)):=I (by rw[aou U m q (by rw[ua.out];exact MR)];exact yB);have kU:Hid (Row wr g0 3 (aM (kE U m (q+1)))):=I (by rw[agR U m q (by rw[ua.out];exact MR)];exact hrow2);have aZ:((x:Int)==(m:Int))=false:=cz
      clear hrow2 yB;go_wp2;go_roundw
      case rel=>exact⟨l9,q+1,by omega,rfl,by go_num,SY,nf,kU,jk⟩
      case measure=>simp[intOf];omega
    .obtain rfl:q=U.length:=by omega
     have adi:Hid (l9*2^(12-(m+1))=l1 U (m+1) 0):=I (by rw[<-aot,show 12-(m+1)=11-m by omega];exact yB);have kU:Hid (Row wr g0 3 (aM (kE U (m+1) 0))):=I (by rw[<-agQ];exact hrow2);clear hrow2 yB;go_wp2;go_roundw
     case rel=>exact⟨l9,m+1,rfl,by go_num,by omega,by omega,SY,adi,kU,jk⟩
     case measure=>simp[intOf];omega
  .obtain rfl:m=12:=by omega
   have hi:Hid (Row wr g0 3 (aM (lm U))):=I (by rw[<-agO U mE.out];exact hrow);clear hrow hpre;go_wp2;go_ret2;exact⟨g0,rfl,hi.out,by rw[fJ.out];exact Nat.le_refl _,hbel⟩
theorem amr(A:a7)(c:Nat)(l:List Int)(w:ah)(hl:l.length<=1000000000)(hc:l.length<=c)(aj:Reads w A (gB l)) :
  Calls prog 141 #[.slice A l.length c] w λe w'=>∃k,e=.returned (.slice A k c)/\Bp l k/\w=w':=by
 have bj:=I aj;have pU:=I (λq (hq:q<=l.length) W=>RZ A l.length c q W hq hc);clear aj;go_enter func141,ntmps141
 go_wp2;go_loop [3] (λn=>∃k:Nat,k<=l.length/\n=.int .i64 k/\Hid (∀j (h:j<l.length),k<=j->l[j]=0)) (λn=>(intOf n).toNat)
 case atStart=>exact⟨l.length,Nat.le_refl _,rfl,I (λj h hk=>by omega)⟩
 case round=>
  obtain⟨k,hk,rfl,aQ⟩:=hrel;have hcut:=pU.out k hk;rcases eq_zero_or_pos k with ao|ao
  .subst ao;go_wp2;go_ret;exact⟨0,rfl,⟨by omega,aQ.out,.inl rfl⟩,rfl⟩
  .obtain⟨q,rfl⟩:∃q,k=q+1:=⟨k-1,by omega⟩;obtain⟨g,off,rfl,hcell⟩:=vq bj.out (by omega);have c0:=hcell q (by omega);have Dk:l[q]≠0->Bp l (q+1):=λh=>⟨hk,aQ.out,.inr ⟨by omega,h⟩⟩
   have gH:l[q]=0->∀j (h:j<l.length),q<=j->l[j]=0:=λh j ar hq=>by
    by_cases e:j=q
    .subst e;exact h
    .exact aQ.out j ar (by omega)
   have BV:=I Dk;have pX:=I gH;have yC:((q+1:Nat):Int)-1=q:=by omega
   clear hcell Dk gH;generalize l[q]=z at c0 BV pX;by_cases kc:z=0
   .subst kc;have b0:=I (pX.out rfl);clear hcut;go_wp2;go_round
    case rel=>exact⟨q,by omega,by go_num,b0⟩
    case measure=>simp[intOf]
   .have aI:(z==0)=false:=by simpa using kc
    have e7:=I (BV.out kc);go_wp2;go_ret;exact⟨q+1,rfl,e7,rfl⟩
theorem amq(A:a7)(c:Nat)(U:ae)(w:ah)(hl:U.length<=256)(hc:U.length<=c)(aj:Reads w A (aM U)) :
  Calls prog 141 #[.slice A U.length c] w λe w'=>e=.returned (.slice A (cA U).length c)/\w=w':=by
 have h:=amr A c (U.map λn:Nat=>(n:Int)) w (by simp;omega) (by simpa using hc) (by rw[jF];exact aj);rw[cQ]at h;exact h.mono λe w' ⟨k,he,hk,hw⟩=>by
  obtain⟨_,e2,_⟩:=YZ U k hk;exact⟨by rw[<-e2];exact he,hw⟩
namespace am
theorem ahn(V n p:Nat):(bitsOf V n).drop p=bitsOf (V/2^p) (n-p):=by
 apply ext_getElem
 .simp[gV]
 .intro i h1 af;rw[getElem_drop,lM,lM,jX,<-dI]
theorem afA(V n:Nat)(h:V<2^n):(∀x∈bitsOf V n,x=0)↔V=0:=by
 constructor
 .intro h1;rw[<-Fm V n h,J4 _ h1]
 .intro e x ai;subst e;unfold bitsOf at ai;obtain⟨i,_,rfl⟩:=List.mem_map.1 ai;simp
def oP(s:ae)(pos:Nat):Prop:=((bitsOf (bd s) (8*s.length)).drop pos).length<=7/\∀x∈(bitsOf (bd s) (8*s.length)).drop pos,x=0
instance (s:ae) (pos:Nat):Decidable (oP s pos):=by unfold oP;exact inferInstance
theorem W2(s:ae)(ap:∀x∈s,x<256)(pos:Nat)(ax:pos<=8*s.length):oP s pos↔(8*s.length-pos<=7/\bd s/2^pos%2^(8*s.length-pos)=0):=by
 have aD:=o4 s ap;rw[h0]at aD;have h1:bd s/2^pos<2^(8*s.length-pos):=by
  rw[div_lt_iff_lt_mul (eK _),<-dI,Nat.sub_add_cancel ax];exact aD
 unfold oP;rw[ahn _ _ _,gV,afA _ _ h1,mod_eq_of_lt h1]
end am
theorem W7(b:Nat)(bs:ae)(pos:Nat)(w:ah)(ap:bs.length<=10000)(cs:∀x∈bs,x<256)(ax:pos<=8*bs.length)(h:er w b 0 bs pos) :
  Calls prog 178 #[.pointer (some ⟨b,0,none⟩)] w λe w'=>e=.returned (.bool (decide (oP bs pos)))/\w.grownBy w' (some b):=by
 have hl:=GV b 0 bs pos w (by omega) ax h;obtain⟨lZ,Aw⟩:∃lZ,lZ=8*bs.length-pos:=⟨_,rfl⟩;have aI:oP bs pos↔(lZ<=7/\bd bs/2^pos%2^lZ=0):=by rw[Aw];exact W2 bs cs pos ax
 have hdd:decide (oP bs pos)=decide (lZ<=7/\bd bs/2^pos%2^lZ=0):=decide_eq_decide.2 aI;rw[hdd];have hE:Hid (lZ<=32->∀k,Calls prog 177 #[.pointer (some ⟨b,0,none⟩),.int .i64 lZ] (w.drewN k) λe w'=>e=.returned (.tuple #[.int .u32 ((bd bs/2^pos%2^lZ:Nat):Int),.bool true])/\er w' b 0 bs (pos+lZ)/\(w.drewN k).grownBy w' (some b)):=I (λh1 k=>tO b 0 bs pos lZ _ (by omega) cs h1 (by omega) (h.drewN k));have sQ:Hid (32<lZ->∀k,Calls prog 177 #[.pointer (some ⟨b,0,none⟩),.int .i64 lZ] (w.drewN k) λe w'=>e=.returned (.tuple #[.int .u32 0,.bool false])/\w.drewN k=w'):=I (λh1 k=>ZN ⟨b,0,none⟩ (lZ:Int) _ (.inr (by omega)));rw[<-Aw]at hl;have gj:=I hl;have awh:lZ<=80000:=by omega
 clear hl h hdd aI Aw;generalize ck:bd bs/2^pos%2^lZ=X at *;clear ck;by_cases c6:lZ<=7
 .have aI:decide (lZ<=7/\X=0)=((X:Int)==0):=by
   by_cases ao:X=0
   .subst ao;simp[c6]
   .rw[bG (λh=>ao h.2)];symm
    rw[beq_eq_false_iff_ne];omega
  rw[aI];clear aI;go_enter func178,ntmps178
  go_wp2_with fail
  refine gj.out.mono ?_;rintro e w' ⟨rfl,dD,rfl⟩;have fK:=I (hE.out (by omega) dD);go_wp2_with fail
  refine fK.out.mono ?_;rintro e aC ⟨rfl,_,aF⟩;have jb:Hid (w.grownBy aC (some b)):=I ⟨aF.os,aF.tape,aF.output,aF.size,aF.block⟩;clear aF;go_wp2;go_ret;exact⟨rfl,jb⟩
 .have aI:decide (lZ<=7/\X=0)=false:=bG (λh=>c6 h.1);rw[aI];clear aI;go_enter func178,ntmps178
  go_wp2_with fail
  refine gj.out.mono ?_;rintro e w' ⟨rfl,dD,rfl⟩;by_cases KX:lZ<=32
  .have fK:=I (hE.out KX dD);go_wp2_with fail
   refine fK.out.mono ?_;rintro e aC ⟨rfl,_,aF⟩;have jb:Hid (w.grownBy aC (some b)):=I ⟨aF.os,aF.tape,aF.output,aF.size,aF.block⟩;clear aF;go_wp2;go_ret;exact⟨rfl,jb⟩
  .have fK:=I (sQ.out (by omega) dD);go_wp2_with fail
   refine fK.out.mono ?_;rintro e aC ⟨rfl,rfl⟩;go_wp2;go_ret;exact⟨rfl,qa (dg _ _) _⟩
instance (l:List Int):Decidable (am.Right l):=by unfold am.Right;exact inferInstance
def jw(w:ah)(base g off cap:Nat)(l:ae):Prop:=base<=g/\cap<=maxLen/\∃pre post:b1,pre.length=off/\l.length+post.length=cap/\Row w g 3 (pre++(aM l++post))
section
variable {w w':ah} {base g off cap:Nat} {l:ae}
theorem jw.lt(h:jw w base g off cap l):g<w.heap.size:=by
 obtain⟨_,_,_,_,_,_,h⟩:=h;exact h.lt
theorem jw.keep(h:jw w base g off cap l)(ak:w'.heap[g]?=w.heap[g]?):jw w' base g off cap l:=by
 obtain⟨h1,af,pre,post,aq,aK,aT⟩:=h;exact⟨h1,af,pre,post,aq,aK,aT.keep ak⟩
theorem jw.cell(h:jw w base g off cap l)(j:Nat)(ar:j<l.length):w.cell? ⟨g,off+j,none⟩=some (.int .i64 (l[j]:Int)):=by
 obtain⟨_,_,pre,post,rfl,_,aT⟩:=h;rw[aT.cell,iY (le_add_right _ _),Nat.add_sub_cancel_left,hO (by rw[gm];exact ar),iN l j ar]
theorem jw.free(h:jw w base g off cap l)(i:Nat):w.frozen? ⟨g,i,none⟩=false:=by
 obtain⟨_,_,_,_,_,_,aT⟩:=h;exact aT.free i
theorem jw.set(h:jw w base g off cap l)(j:Nat)(ar:j<l.length)(z:Nat):jw (w.setCell ⟨g,off+j,none⟩ (.int .i64 z)) base g off cap (l.set j z):=by
 obtain⟨h1,af,pre,post,rfl,aK,aT⟩:=h;refine⟨h1,af,pre,post,rfl,by rw[length_set];exact aK,?_⟩;have ci:=aT.bq (pre.length+j) (.int .i64 z);rw[set_append_right _ _ (le_add_right _ _),Nat.add_sub_cancel_left,set_append_left _ _ (by rw[gm];exact ar)]at ci;rw[show aM (l.set j z)=(aM l).set j (.int .i64 z) by simp[aM,map_set]];exact ci
theorem jw.below(h:jw w base g off cap l)(ak:av w w'):jw w' base g off cap l:=h.keep (ak.block g h.lt)
end
theorem aqS{w:ah}{base n:Nat}{v:Value}{l:ae}(h:w.ownsRow base 3 1 v n (aM l))(aA:0<n):l.length=n/\∃g cap,v=.slice (some ⟨g,0,none⟩) n cap/\jw w base g 0 cap l:=by
 have hl:l.length=n:=by have:=h.1;rw[gm,Nat.mul_one]at this;exact this
 rcases h.2 with⟨_,ao⟩|⟨g,cap,eW,rfl,ak,aF,qf,gX,hcs,aE⟩
 .omega
 .rw[Nat.mul_one]at aE hcs;refine⟨hl,g,cap,rfl,ak,gX,[],eW.toList.drop n,rfl,by have hz:eW.toList.length=eW.size:=Array.length_toList;rw[cB];omega,?_⟩;unfold Row;rw[nil_append,<-aE,gq,Array.toArray_toList];exact aF
namespace am
theorem aoj(a b:ae):fu (a++b)=fu a++fu b:=by
 induction a with
|nil=>rfl
|cons x a ih=>rw[cons_append,fu,fu,ih];split<;>rfl
theorem aon(ag:ae)(k:Nat)(h:k<ag.length):fu (ag.take (k+1))=fu (ag.take k)++if 0<ag[k]then [ag[k]]else []:=by
 rw[fY h,aoj];rfl
theorem Ye(ag:ae):(fu ag).length<=ag.length:=by
 induction ag with
|nil=>simp[fu]
|cons x a ih=>rw[fu];split<;>simp<;>omega
theorem aok(ag:ae)(x:Nat):x∈fu ag->x∈ag/\0<x:=by
 induction ag with
|nil=>simp[fu]
|cons y a ih=>
  rw[fu];split
  .next h=>
   intro ai;rcases List.mem_cons.1 ai with rfl|ai
   .exact⟨dU,h⟩
   .exact⟨eo _ (ih ai).1,(ih ai).2⟩
  .intro ai;exact⟨eo _ (ih ai).1,(ih ai).2⟩
theorem aol(ag:ae)(h:∃x∈ag,0<x):0<(fu ag).length:=by
 obtain⟨x,ai,ao⟩:=h;induction ag with
|nil=>simp at ai
|cons y a ih=>
  rw[fu];split
  .simp
  .next hy=>
   rcases List.mem_cons.1 ai with rfl|ai
   .exact absurd ao hy
   .exact ih ai
theorem HR(bs:ae)(h:bs≠[]):0<eL bs:=by
 cases bs with
|nil=>exact absurd rfl h
|cons x a=>rw[eL];omega
def od(ag:ae)(size k:Nat):ae:=(ag.take k).map (oY size ag.sum)++List.replicate (ag.length-k) 0
theorem an5(ag:ae)(size:Nat):od ag size 0=List.replicate ag.length 0:=by simp[od]
theorem an2(ag:ae)(size:Nat):od ag size ag.length=parts ag size:=by simp[od,parts]
theorem an3(ag:ae)(size k:Nat)(h:k<=ag.length):(od ag size k).length=ag.length:=by simp[od];omega
theorem X3(ag:ae)(size k:Nat)(h:k<ag.length):(od ag size k)[k]?=some 0:=by
 unfold od;have h1:((ag.take k).map (oY size ag.sum)).length=k:=by simp;omega
 rw[iY (by omega),h1,Nat.sub_self,getElem?_replicate,aB (by omega)]
theorem X4(ag:ae)(size k:Nat)(h:k<ag.length):od ag size (k+1)=(od ag size k).set k (oY size ag.sum ag[k]):=by
 unfold od;have h1:((ag.take k).map (oY size ag.sum)).length=k:=by simp;omega
 rw[set_append_right _ _ (by omega),h1,Nat.sub_self,fY h,map_append,df];congr 1
 obtain⟨m,hm⟩:∃m,ag.length-k=m+1:=⟨ag.length-k-1,by omega⟩;rw[hm,show ag.length-(k+1)=m by omega,replicate_succ];simp
theorem an4(ag:ae)(size k:Nat)(h:k<ag.length)(ao:ag[k]=0):od ag size (k+1)=od ag size k:=by
 have aQ:oY size ag.sum 0=0:=by simp[oY]
 rw[X4 ag size k h,ao,aQ];apply ext_getElem?
 intro i;rw[getElem?_set];split
 .next e=>
  subst e;rw[aB (by rw[an3 ag size k (by omega)];omega),X3 ag size k h]
 .rfl
theorem Xg(l:ae)(x:Nat)(h:x∈l):x<=l.sum:=by
 induction l with
|nil=>cases h
|cons a l ih=>
  rw[sum_cons];rcases List.mem_cons.1 h with rfl|h1
  .omega
  .have:=ih h1;omega
theorem anX(size total c:Nat)(h:0<c):max ((c:Int)*size/total) 1=(oY size total c:Int):=by
 have e:(c:Int)*size/total=((c*size/total:Nat):Int):=by simp
 unfold oY;rw[e];split
 .next h1=>rw[h1.1];rfl
 .next h1=>
  have af:c*size/total≠0:=λe=>h1 ⟨e,h⟩
  generalize c*size/total=q at af ⊢;omega
theorem OW(l:ae)(m:Nat)(h:∀x∈l,x<=m):l.sum<=m*l.length:=by
 induction l with
|nil=>simp
|cons a l ih=>
  have h1:=ih (λx ai=>h x (eo _ ai));have af:=h a dU;rw[sum_cons,bY,mul_succ];omega
end am
theorem Xz(A:a7)(c:Nat)(bs:ae)(w:ah)(hl:bs.length<=1000000000)(ao:0<bs.length)(au:∀x∈bs,x<256)(aj:Reads w A (aO bs)) :
  Calls prog 105 #[.slice A bs.length c] w λe w'=>e=.returned (.int .u8 ((eL bs:Int)-1))/\w=w':=by
 have aZ:bs≠[]:=by intro e;rw[e]at ao;simp at ao
 obtain⟨g,off,rfl,hc⟩:=m9 aj aZ;have gO:=I hc;have ce:=I au;have c0:=hc 0 ao;have dc:=au bs[0] (b8 ao);have lE:Hid (eL (bs.take 1)=bs[0]+1):=I (by
  have h1:=ZY bs 0 ao;rw[take_zero]at h1;rw[h1];simp[eL])
 obtain⟨r,hres⟩:∃r,r=eL bs:=⟨_,rfl⟩;rw[<-hres];have b4:=I hres;clear aj au hc hres;rw[fX]at c0;generalize bs[0]=bF at c0 dc lE;go_enter func105,ntmps105
 go_wp2;go_loop [3,4] (λm i=>∃k:Nat,1<=k/\k<=bs.length/\i=.int .i64 k/\m=.int .u8 ((eL (bs.take k):Int)-1)) (λ_ i=>bs.length-(intOf i).toNat)
 case atStart=>exact⟨1,by omega,by omega,rfl,by rw[lE.out];go_num⟩
 case round=>
  obtain⟨k,ek,hk,rfl,rfl⟩:=hrel;clear c0;by_cases a8:k<bs.length
  .have c1:=gO.out k a8;have ak:=ce.out bs[k] (b8 a8);have CS:=tP (bs.take k) (λx ai=>ce.out x (mem_of_mem_take ai));have ca:=I (ZY bs k a8);have ax:0<eL (bs.take k):=HR _ (λe=>by
    have h1:=congrArg List.length e;rw[cr,length_nil]at h1;omega)
   generalize eL (bs.take k)=T at CS ca ax ⊢;generalize bs[k]=b at c1 ak ca;have hmx:=am1 T b;generalize max T (b+1)=aeK at hmx ca;go_wp2;go_round
   case rel=>exact⟨k+1,by omega,by omega,by go_num,by rw[ca.out]⟩
   case measure=>simp[intOf];omega
  .obtain rfl:k=bs.length:=by omega
   rw[take_length,<-b4.out];go_wp2;go_ret;exact⟨rfl,rfl⟩
theorem XB:aap:=by
 intro A c bs w hl au aj;rcases eq_zero_or_pos bs.length with ao|ao
 .have ak:bs=[]:=lf ao;subst ak;go_enter func64,ntmps64
  go_wp2;go_ret;exact⟨none,0,rfl,λh=>absurd rfl h,Below.refl _ _⟩
 have aQ:((bs.length:Int)==0)=false:=cz
 obtain⟨i0,ay,bC,bL,bz⟩:=info_parts oa;have bj:=I aj;have ce:=I au;have cq:=tP bs au;have Lq:=HR bs (by intro e;rw[e]at ao;simp at ao);have Jb:=I (Xz A c bs w (by omega) ao au aj);clear aj au;obtain⟨g0,hJ⟩:∃g,g=w.heap.size:=⟨_,rfl⟩;have fJ:=I hJ;obtain⟨T,uL⟩:∃T,T=eL bs:=⟨_,rfl⟩;have xl:=I uL;have Jc:Hid (Calls prog 105 #[.slice A bs.length c] w λe w'=>e=.returned (.int .u8 ((T:Int)-1))/\w=w'):=I (by rw[uL];exact Jb);rw[<-uL]at cq Lq ⊢;clear hJ uL;go_enter func64,ntmps64
 go_wp2_with fail
 refine Jc.out.mono ?_;rintro e w' ⟨rfl,rfl⟩;have aG:((T:Int)-1)+1=(T:Int):=by omega
 go_wp2_with (at_make;refine wpList_make_full _ rfl _ _ 112 rfl w.heap.size 3 i0 (.int .i64 0) 1 underlying112 ay bC bL .i64 .i64 _ _ T rfl rfl ?c1 ?c1 ?c2 ?c3 ?c4 ?_)
 case c1=>omega
 case c2=>first|omega|(rw[bz];omega)
 case c3=>unfold maxLen;omega
 try case c4=>exact Nat.le_refl _
 intro aw hown1 a1;have aH:=kZ a1;have cg:=tK hown1;rw[<-fJ.out]at cg ⊢;have aN:=I aH;rw[xl.out,<-RW]at cg;have fw:=I cg;clear hown1 a1 aH cg ay bC bL bz aG aQ;go_wp2;go_loopw [16] (λi wr=>∃k:Nat,k<=bs.length/\i=.int .i64 k/\Hid (Row wr g0 3 (aM (nr bs k)))/\Hid (av w wr)) (λi _=>bs.length-(intOf i).toNat)
 case atStart=>exact⟨0,by omega,rfl,fw,aN⟩
 case round=>
  obtain⟨k,hk,rfl,hrow,hbel⟩:=hrel;by_cases a8:k<bs.length
  .have aZ:bs≠[]:=by intro e;rw[e]at a8;simp at a8
   obtain⟨g,off,rfl,hc⟩:=m9 (c7 bj.out hbel) aZ;have c0:=hc k a8;have ak:=ce.out bs[k] (b8 a8);have C0:bs[k]<T:=by rw[xl.out];exact w8 bs _ (b8 a8)
   have fh:(bs.take k).count bs[k]<=bs.length:=dl count_le_length (by rw[cr];omega);have hcell:=hrow.out.cell bs[k];have mT:=RU bs k bs[k] (by rw[<-xl.out];exact C0);simp only[aM,getElem?_map,mT,map_some]at hcell;have hfree:=hrow.out.free bs[k];have b0:=I (RV bs k a8);clear hc mT;generalize (bs.take k).count bs[k]=q at fh hcell b0;generalize bs[k]=b at c0 ak C0 hcell hfree b0;go_wp2;go_roundw
   case rel=>
    refine⟨k+1,by omega,by go_num,I ?_,I (hbel.out.setCell (by rw[fJ.out];exact Nat.le_refl _) _)⟩;rw[b0.out];have h1:=hrow.out.bq b (.int .i64 ((q:Int)+1));rw[show aM ((nr bs k).set b (q+1))=(aM (nr bs k)).set b (.int .i64 ((q:Int)+1)) by simp[aM,map_set]];exact h1
   case measure=>simp[intOf];omega
  .obtain rfl:k=bs.length:=by omega
   rw[RT]at hrow;go_wp2;go_ret;exact⟨some ⟨g0,0,none⟩,T,rfl,og hrow,hbel⟩
theorem anj(A:a7)(c:Nat)(ag:ae)(size:Nat)(w:ah)(hl:ag.length<=256)(hm:∀x∈ag,x<=1048576)(bB:size<=512)(aj:Reads w A (aM ag)) :
  Calls prog 193 #[.slice A ag.length c,.int .i64 size] w λe w'=>∃g,e=.returned (.slice (some ⟨g,0,none⟩) ag.length ag.length)/\w.heap.size<=g/\Row w' g 3 (aM (am.parts ag size))/\av w w':=by
 obtain⟨i0,ay,bC,bL,bz⟩:=info_parts oa;have hsum:=OW ag 1048576 hm;have bj:=I aj;have cj:=I hm;have Ch:=I (NK A c ag w (by omega) (by omega) aj);obtain⟨S,cD⟩:∃S,S=ag.sum:=⟨_,rfl⟩;have cS:=I cD;rw[<-cD]at Ch hsum;clear aj hm cD;obtain⟨g0,hJ⟩:∃g,g=w.heap.size:=⟨_,rfl⟩;have fJ:=I hJ;clear hJ;go_enter func193,ntmps193
 go_wp2_with fail
 refine Ch.out.mono ?_;rintro e w' ⟨rfl,rfl⟩;go_wp2_with (at_make;refine wpList_make_full _ rfl _ _ 112 rfl w.heap.size 3 i0 (.int .i64 0) 1 underlying112 ay bC bL .i64 .i64 _ _ ag.length rfl rfl ?c1 ?c1 ?c2 ?c3 ?c4 ?_)
 case c1=>omega
 case c2=>first|omega|(rw[bz];omega)
 case c3=>unfold maxLen;omega
 try case c4=>exact Nat.le_refl _
 intro aw hown1 a1;have aH:=kZ a1;have cg:=tK hown1;rw[<-fJ.out]at cg ⊢;have aN:=I aH;rw[<-an5 ag size]at cg;have fw:=I cg;clear hown1 a1 aH cg ay bC bL bz;go_wp2;go_loopw [16] (λi wr=>∃k:Nat,k<=ag.length/\i=.int .i64 k/\Hid (Row wr g0 3 (aM (od ag size k)))/\Hid (av w wr)) (λi _=>ag.length-(intOf i).toNat)
 case atStart=>exact⟨0,by omega,rfl,fw,aN⟩
 case round=>
  obtain⟨k,hk,rfl,hrow,hbel⟩:=hrel;by_cases a8:k<ag.length
  .obtain⟨g,off,rfl,hc⟩:=Om (c7 bj.out hbel.out) (by omega);have c0:=hc k a8;have ak:=cj.out ag[k] (b8 a8);have hcell:=hrow.out.cell k;have mT:=X3 ag size k a8;simp only[aM,getElem?_map,mT,map_some]at hcell;have hfree:=hrow.out.free k;have MC:ag[k]<=S:=by rw[cS.out];exact Xg ag _ (b8 a8)
   have b0:=I (X4 ag size k a8);have zt:=I (an4 ag size k a8);have jR:=anX size S ag[k];rw[<-cS.out]at b0;have qA:=I jR;have GF:(ag[k]:Int)*size<=1048576*512:=by
    rw[<-Int.natCast_mul];have:=Nat.mul_le_mul ak bB;omega
   have Vd:0<=(ag[k]:Int)*size:=by rw[<-Int.natCast_mul];omega
   clear hc mT jR;generalize ag[k]=z at c0 ak MC b0 zt qA GF Vd;by_cases aQ:0<z
   .have hmax:=qA.out aQ;have acV:=I hmax;clear hmax;have Mq:0<=(z:Int)*size/S:=Int.ediv_nonneg Vd (by omega);go_wp2;go_roundw
    case rel=>
     refine⟨k+1,by omega,by go_num,I ?_,I (hbel.out.setCell (by rw[fJ.out];exact Nat.le_refl _) _)⟩;rw[b0.out];have h1:=hrow.out.bq k (.int .i64 (oY size S z));rw[show aM ((od ag size k).set k (oY size S z))=(aM (od ag size k)).set k (.int .i64 (oY size S z)) by simp[aM,map_set]];rw[<-acV.out]at h1 ⊢;exact h1
    case measure=>simp[intOf];omega
   .have e0:z=0:=by omega
    have dN:=I (zt.out e0);clear e0;go_wp2;go_roundw
    case rel=>exact⟨k+1,by omega,by go_num,I (by rw[dN.out];exact hrow),hbel⟩
    case measure=>simp[intOf];omega
  .obtain rfl:k=ag.length:=by omega
   rw[an2]at hrow;go_wp2;go_ret;exact⟨g0,rfl,by rw[fJ.out];exact Nat.le_refl _,hrow,hbel⟩
namespace am
theorem WE:∀(l:ae),l.Pairwise (·<=·)->mZ l=l
|[],_=>rfl
|x::l,h=>by
  rw[pairwise_cons]at h;rw[mZ,WE l h.2,M5 x l h.1]
end am
theorem atZ(T:ae)(a b:Int)(w:ah)(cq:T.length<=1000000)(au:∀x∈T,x<256)(aV:ec a)(ak:ec b) :
  Calls prog 128 #[.string (strOf T),.int .i64 a,.int .i64 b] w λe w'=>e=.returned (.int .i64 (Bd T a b))/\∃m,w'=w.drewN m:=by
 have bB:=cy T;obtain⟨Lt,Lu⟩:=aV;obtain⟨dc,aH⟩:=ak;obtain⟨r,aj⟩:∃r,r=Bd T a b:=⟨_,rfl⟩;rw[<-aj];by_cases h:0<=a/\0<=b
 .obtain⟨i,rfl⟩:=Int.eq_ofNat_of_zero_le h.1;obtain⟨j,rfl⟩:=Int.eq_ofNat_of_zero_le h.2;have bS:r=gL T i j:=by
   rw[aj,Bd];split
   .rw[cX,cX]
   .rw[YP T i j (by omega)]
  have bj:=I bS;have kC:=I (λW k (h:k<T.length)=>pE T k W h (au _ (b8 h)));obtain⟨x,ai⟩:∃x,x=max i j:=⟨_,rfl⟩;have hmx:max (i:Int) (j:Int)=x:=by omega
  have tt:decide (min (i:Int) (j:Int)<0)=false:=aU;have akY:i<=x:=by omega
  have akZ:j<=x:=by omega
  have aw4:x=i\/x=j:=by omega
  clear h aj bS au ai;go_enter func128,ntmps128
  go_wp2;clear hmx tt;go_loopw [8] (λvm wr=>∃n m:Nat,vm=.int .i64 n/\n<=T.length/\Hid (r=n+gL T (i+n) (j+n))/\Hid (wr=w.drewN m)) (λvm _=>T.length-(intOf vm).toNat)
  case atStart=>exact⟨0,0,rfl,by omega,I (by rw[bj.out];simp),I rfl⟩
  case round=>
   obtain⟨n,m,rfl,eZ,eO,hw⟩:=hrel;have lw:=hw.out;subst lw;clear hw;by_cases hA:x+n<T.length
   .have K2:i+n<T.length:=by omega
    have K3:j+n<T.length:=by omega
    have hstep:=HC T (i+n) (j+n) K2 K3;have bh:∀W:ah,(Instr.index 9 (.string (strOf T)) (.int .i64 ((i:Int)+n))).run prog W=.ok (.int .u8 ((T[i+n]:Nat):Int)) W:=λW=>by
     have h:=kC.out W (i+n) K2;rwa [Int.natCast_add]at h
    have bN:∀W:ah,(Instr.index 9 (.string (strOf T)) (.int .i64 ((j:Int)+n))).run prog W=.ok (.int .u8 ((T[j+n]:Nat):Int)) W:=λW=>by
     have h:=kC.out W (j+n) K3;rwa [Int.natCast_add]at h
    rw[hstep]at eO;clear hstep;have ag9:decide ((n:Int)<(T.length:Int)-x)=true:=cf;generalize T[i+n]'K2=y at *;generalize T[j+n]'K3=z at *;by_cases vh:y=z
    .subst vh;rw[aB rfl]at eO;have oD:=I (show r=(n+1)+gL T (i+(n+1)) (j+(n+1)) by rw[eO.out,iO i,iO j];omega);clear eO;go_wp2_with fail
     go_quiet (fail)
     go_wp2;go_roundw
     case rel=>exact⟨n+1,_,by go_num,by omega,oD,I rfl⟩
     case measure=>simp[intOf];omega
    .rw[az vh,fX]at eO;have dq:((y:Int)==(z:Int))=false:=cz
     have oD:=I (show(n:Int)=r by rw[eO.out]);clear eO;go_wp2_with fail
     go_quiet (fail)
     go_wp2;go_ret;rw[<-oD.out];exact⟨rfl,_,World.drewN_drewN _ _ _⟩
   .have ag9:decide ((n:Int)<(T.length:Int)-x)=false:=aU;have oD:=I (show(n:Int)=r by rw[eO.out,YP T _ _ (by omega)];omega);clear eO;go_wp2_with fail
    go_quiet (fail)
    go_wp2;go_ret;rw[<-oD.out];exact⟨rfl,_,World.drewN_drewN _ _ _⟩
 .have bS:r=0:=by rw[aj,Bd,az (λaf=>h ⟨af.1,af.2.1⟩)]
  subst bS;have tt:decide (min a b<0)=true:=cf;clear aj au;go_enter func128,ntmps128
  go_wp2;go_ret;exact⟨rfl,0,rfl⟩
theorem Ps(b:Nat)(T:ae)(w:ah)(hc:w.cell? ⟨b,0,none⟩=some (.string (strOf T))) :
  Calls prog 94 #[.pointer (some ⟨b,0,none⟩)] w λe w'=>e=.returned (.int .i64 (T.length:Int))/\w'=w:=by
 have bB:=cy T;generalize strOf T=ss at *;go_enter func94,ntmps94
 go_wp2;go_ret;exact⟨rfl,rfl⟩
theorem aai(p:a7)(n:Nat)(a:Int)(w:ah)(aA:n<=1000000)(hlen:Calls prog 94 #[.pointer p] w λe w'=>e=.returned (.int .i64 n)/\w'=w) :
  Calls prog 126 #[.pointer p,.int .i64 a] w λe w'=>e=.returned (.bool (decide (0<=a/\a+3<=n)))/\∃m,w'=w.drewN m:=by
 have Hlen:=I hlen;clear hlen;by_cases h:0<=a
 .by_cases af:a+3<=n
  .have d:decide (0<=a/\a+3<=n)=true:=bE ⟨h,af⟩;rw[d];clear d;have d1:decide (0<=a)=true:=bE h;have d2:decide (a<=(n:Int)-3)=true:=cf;go_enter func126,ntmps126
   go_wp2_with fail
   refine Hlen.out.mono ?_;rintro e w' ⟨rfl,rfl⟩;go_wp2;go_ret;exact⟨rfl,0,rfl⟩
  .have d:decide (0<=a/\a+3<=n)=false:=bG (λaq=>af aq.2);rw[d];clear d;have d1:decide (0<=a)=true:=bE h;have d2:decide (a<=(n:Int)-3)=false:=aU;go_enter func126,ntmps126
   go_wp2_with fail
   refine Hlen.out.mono ?_;rintro e w' ⟨rfl,rfl⟩;go_wp2;go_ret;exact⟨rfl,0,rfl⟩
 .have d:decide (0<=a/\a+3<=n)=false:=bG (λaq=>h aq.1);rw[d];clear d;have d1:decide (0<=a)=false:=bG h;go_enter func126,ntmps126
  go_wp2;go_ret;exact⟨rfl,0,rfl⟩
end Go.Proofs.YtgiicohbigiapaaGreat
