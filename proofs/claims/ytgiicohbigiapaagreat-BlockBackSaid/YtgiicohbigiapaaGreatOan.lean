/- Contracts. -/
import Derived.Test.YtgiicohbigiapaaGreatOae
import Derived.Test.YtgiicohbigiapaaGreatOaj
import Derived.Test.YtgiicohbigiapaaGreatOz1
import Derived.Test.YtgiicohbigiapaaGreatOz0
set_option maxHeartbeats 4000000
set_option maxRecDepth 100000
open Go.Proofs.Tryz Go.Proofs.YtgiicohbigiapaaGreat.am List Nat Option
namespace Go.Proofs.YtgiicohbigiapaaGreat
open Go.RowKit
theorem Yq{w:ah}{g off:Nat}{xs:b1}(h:Reads w (some ⟨g,off,none⟩) xs)(aZ:xs≠[]):g<w.heap.size:=by
 obtain⟨eT,off',e,hc⟩:=h aZ;injection e with e
 injection e with aG e2
 subst aG e2;have ao:0<xs.length:=List.length_pos_iff.2 aZ;have h1:=hc 0 ao;rw[bI ao]at h1;exact World.block_lt_of_cell? w _ h1
theorem ap7(A:a7)(c:Nat)(bs:ae)(w:ah)(hl:bs.length<=10000)(ak:∀x∈bs,x<256)(aj:Reads w A (aO bs)) :
  (m8 bs=none/\Calls prog 190 #[.slice A bs.length c] w λe w'=>e=.returned (.tuple #[.slice none 0 0,.bool false])/\av w w') \/
  ∃M L,m8 bs=some (M,L)/\Calls prog 190 #[.slice A bs.length c] w λe w'=>∃da db,e=.returned (.tuple #[.slice da L db,.bool true])/\L<=db/\db<=maxLen/\Reads w' da (aM (am.bitsOf M L))/\av w w':=by
 rcases eq_nil_or_concat bs with rfl|⟨front,b,e⟩
 .exact .inl ⟨by simp[m8],(ap8 A c w).mono λe w' ⟨he,hw⟩=>⟨he,by subst hw;exact Below.refl _ _⟩⟩
 .rw[concat_eq_append]at e;have hlen:bs.length=front.length+1:=by rw[e,aY,length_singleton]
  have hlast:bs[front.length]'(by omega)=b:=by subst e;simp
  have jC:bs.getLast?.getD 0=b:=by rw[e,getLast?_append,getLast?_singleton];rfl
  obtain⟨g,off,rfl,hc⟩:=m9 aj (by intro h;rw[h]at hlen;simp at hlen);have aF:=Yq aj (by intro h;have:=congrArg List.length h;rw[i7,hlen,length_nil]at this;omega);rcases eq_zero_or_pos b with ao|ao
  .refine .inl ⟨by unfold m8;rw[aB (by rw[jC,ao])],?_⟩;have h1:=hc front.length (by omega);rw[hlast,ao]at h1;rw[hlen];exact(aqa g off front.length c w (by omega) h1).mono λe w' ⟨he,hw⟩=>⟨he,by subst hw;exact Below.refl _ _⟩
  .have dc:b≠0:=by omega
   obtain⟨cb,WU,aE⟩:=O6 front b (λx ai=>ak x (by rw[e];exact mem_append_left _ ai)) (ak b (by rw[e];simp)) dc;rw[<-e]at aE;have u9:=HS _ _ aE;refine .inr ⟨_,_,by unfold m8;rw[az (by rw[jC];exact dc)],?_⟩;rw[u9];generalize 8*front.length+(Lib.bitLen b-1)=top at aE;have e1:top<8*(front.length+1):=by
    have h1:=(w9.1 aE).1;have af:=o4 bs ak;rw[hlen,h0]at af;rcases eF top (8*(front.length+1))with aq|aq
    .exact aq
    .have:=dy (n:=2) (by omega) aq;omega
   rw[hlen];refine(ap9 g off front.length c top bs b w (by omega) ak dc hlen hlast aj aF aE e1).mono λe w' ⟨da,db,he,h1,af,hrest,hbel⟩=>⟨da,db,he,h1,af,?_,hbel⟩
   intro aZ;have ao:0<top:=by
    rcases eq_zero_or_pos top with aq|aq
    .subst aq;simp[am.bitsOf,aM]at aZ
    .exact aq
   rcases hrest with aq|⟨eT,off',e',_,_,hcell⟩
   .omega
   .refine⟨eT,off',e',λj ar=>?_⟩;rw[gm,gV]at ar;rw[hcell j ar,iN _ j (by rw[gV];exact ar),lM,G6 _ _ _ ar]
namespace am
def syms(U:ae)(log K:Nat):ae:=(mA U log K).map (·.1)
theorem HN(U:ae)(log K:Nat):(syms U log K).length=2^log:=by simp[syms,Hm]
theorem ar0(U:ae)(log:Nat):syms U log 0=List.replicate (2^log) 0:=by simp[syms,X7]
theorem arY(U:ae)(log K s:Nat)(aT:5<=log)(dh:log<=9)(hK:K<2^log)(ap:(om 0 U)[K]?=some s):syms U log (K+1)=(syms U log K).set (gI log K) s:=by
 obtain⟨h,e⟩:=X6 U log K s aT dh hK ap;unfold syms;rw[e,map_set]
theorem arX(U:ae)(log:Nat):syms U log (2^log)=eP U log:=by
 unfold syms eP mA;rw[List.map_map];apply map_congr_left
 intro p _;simp[M6]
theorem arv(a S:Nat):((a:Int)+((S:Int)/2+(S:Int)/8+3))%(S:Int)=(((a+(S/2+S/8+3))%S:Nat):Int):=by
 rw[Int.natCast_emod];congr 1
end am
theorem ale:(prog.info? 5).map (λi=>(i.zero,i.size,i.bytes))=some (some (.int .u8 0),1,1):=by kernel_rfl
theorem asu(A:a7)(c:Nat)(U:ae)(log:Nat)(w:ah)(aL:dW U log)(aj:Reads w A (aM U)) :
  Calls prog 197 #[.slice A U.length c,.int .i64 ((2^log:Nat):Int)] w λe w'=>∃g,e=.returned (.slice (some ⟨g,0,none⟩) (2^log) (2^log))/\w.heap.size<=g/\Row w' g 5 (aO (am.eP U log))/\av w w':=by
 obtain⟨i0,ay,bC,bL,bz⟩:=info_parts ale;have Df:=aL.low;have Dg:=aL.high;have hlen:=aL.len;obtain⟨S,cD⟩:∃S,S=2^log:=⟨_,rfl⟩;have aiS:32<=S:=by rw[cD];exact dy (n:=2) (by omega) Df
 have S5:S<=512:=by rw[cD];exact dy (n:=2) (by omega) Dg
 have hsum:U.sum=S:=by rw[cD];exact aL.sum
 have hX:∀s (h:s<U.length),∃g off,A=some ⟨g,off,none⟩/\w.cell? ⟨g,off+s,none⟩=some (.int .i64 (U[s]:Int))/\g<w.heap.size:=λs h=>by
  obtain⟨g,off,e,hc⟩:=aj (by intro e;have:=congrArg List.length e;rw[gm,length_nil]at this;omega);have h1:=hc s (by rw[gm];exact h);rw[iN U s h]at h1;exact⟨g,off,e,h1,World.block_lt_of_cell? w _ h1⟩
 have qz:=I hX;have cS:=I cD;have rB:=I hsum;clear aL aj hX cD hsum;obtain⟨g0,hJ⟩:∃g,g=w.heap.size:=⟨_,rfl⟩;have fJ:=I hJ;clear hJ;rw[<-cS.out];go_enter func197,ntmps197
 go_wp2_with (at_make;refine wpList_make_full _ rfl _ _ 87 rfl w.heap.size 5 i0 (.int .u8 0) 1 underlying87 ay bC bL .i64 .i64 _ _ S rfl rfl ?c1 ?c1 ?c2 ?c3 ?c4 ?_)
 case c1=>rfl
 case c2=>first|omega|(rw[bz];omega)
 case c3=>unfold maxLen;omega
 try case c4=>exact Nat.le_refl _
 intro aw hown1 a1;have aH:=kZ a1;have kH:=Ef hown1;rw[<-fJ.out]at kH ⊢;have cg:Row aw g0 5 (aO (am.syms U log 0)):=by rw[ar0,<-cS.out];exact kH
 have aN:=I aH;have fw:=I cg;clear hown1 a1 kH aH cg ay bC bL bz;go_wp2;go_loopw [7,20] (λa s wr=>∃cu:Nat,cu<=U.length/\a=.int .i64 (gI log (U.take cu).sum:Int)/\s=.int .i64 cu/\Hid (Row wr g0 5 (aO (am.syms U log (U.take cu).sum)))/\Hid (av w wr)) (λ_ s _=>U.length-(intOf s).toNat)
 case atStart=>exact⟨0,by omega,by simp[gI],rfl,I (by rw[take_zero,sum_nil];exact fw),aN⟩
 case round=>
  obtain⟨cu,sj,rfl,rfl,hrow,hbel⟩:=hrel;by_cases au:cu<U.length
  .obtain⟨g,off,rfl,hcell,jC⟩:=qz.out cu au;obtain⟨K,hK⟩:∃K,K=(U.take cu).sum:=⟨_,rfl⟩;have x2:(U.take (cu+1)).sum=K+U[cu]:=by rw[fY au,sum_append_nat,hK];simp
   have La:K+U[cu]<=S:=by
    rw[<-x2,<-rB.out,<-gq (cu+1) U,sum_append_nat];simp
   have iv:∀k,k<U[cu]->(om 0 U)[K+k]?=some cu:=λk hk=>by
    have h1:=ZF U 0 cu k au hk;rw[ez,<-hK]at h1;exact h1
   rw[<-hK]at hrow ⊢;have ju:=I iv;have Bq:=I x2;have c0:=(hbel.out.cell (p:=⟨g,off+cu,none⟩) jC).trans hcell;clear iv x2 hK hcell;generalize U[cu]=n at ju Bq La c0;have ake:n<=512:=by omega
   go_wp2;clear c0;go_loopw [7,26] (λa k wr=>∃dC:Nat,dC<=n/\a=.int .i64 (gI log (K+dC):Int)/\k=.int .i64 dC/\Hid (Row wr g0 5 (aO (am.syms U log (K+dC))))/\Hid (av w wr)) (λ_ k _=>n-(intOf k).toNat)
   case atStart=>exact⟨0,by omega,rfl,rfl,hrow,hbel⟩
   case round=>
    obtain⟨dC,At,rfl,rfl,hrow2,jk⟩:=hrel;clear hrow hbel;by_cases kG:dC<n
    .have cn:gI log (K+dC)<S:=by rw[cS.out];exact Hp log _
     have gH:=arY U log (K+dC) cu Df Dg (by rw[<-cS.out];omega) (ju.out dC kG);have qW:=Yf log (K+dC);rw[<-cS.out]at qW;have aS:y2 log=S/2+S/8+3:=by unfold y2;rw[<-cS.out]
     rw[aS,show K+dC+1=K+(dC+1) by omega]at qW;rw[show K+dC+1=K+(dC+1) by omega]at gH;have hcs:=Bg (am.syms U log (K+dC)) (gI log (K+dC)) cu;rw[<-gH]at hcs;have fQ:gI log (K+dC)<(am.syms U log (K+dC)).length:=by rw[am.HN,<-cS.out];exact cn
     have hget:=jq (am.syms U log (K+dC)) (gI log (K+dC)) fQ;have c1:=(hrow2.out.cell (gI log (K+dC))).trans hget;have f1:=hrow2.out.free (gI log (K+dC));have h4:=I (hrow2.out.bq (gI log (K+dC)) (.int .u8 cu));rw[hcs]at h4;generalize (am.syms U log (K+dC))[gI log (K+dC)]=old at c1;have xB:=I qW;clear gH qW aS hcs hget fQ hrow2;generalize gI log (K+dC)=a at cn c1 f1 h4 xB ⊢;go_wp2;go_roundw
     case rel=>
      refine⟨dC+1,by omega,?_,by go_num,h4,I (jk.out.setCell (by rw[fJ.out];exact Nat.le_refl _) _)⟩;rw[xB.out,arv]
     case measure=>simp[intOf];omega
    .obtain rfl:dC=n:=by omega
     rw[<-Bq.out]at hrow2 ⊢;go_wp2;go_roundw
     case rel=>exact⟨cu+1,by omega,rfl,by go_num,hrow2,jk⟩
     case measure=>simp[intOf];omega
  .obtain rfl:cu=U.length:=by omega
   rw[take_length,rB.out,cS.out,arX]at hrow;generalize gI log (U.take U.length).sum=aeX;go_wp2;go_ret;exact⟨g0,rfl,by rw[fJ.out];exact Nat.le_refl _,hrow,hbel⟩
theorem asi(s x log:Nat)(w:ah)(ao:0<x)(ai:x<2^(log+1))(mw:log<=9) :
  Calls prog 198 #[.int .u8 s,.int .i64 x,.int .i64 log] w λe w'=>e=.returned (.agg #[.int .u8 s,.int .i64 (dR log x),.int .i64 (s7 log x)])/\av w w':=by
 have Wk:2^(log+1)<=2^10:=dy (n:=2) (by omega) (by omega);have avp:2^log<=2^9:=dy (n:=2) (by omega) (by omega);have hle:=qx _ _ ai;have fj:=sK x ao;have mv:=Cq log _ ao ai;have ny:=JX log _ ao ai;have F6:(log:Int)+1-(am.wid x:Int)=(dR log x:Int):=by unfold dR;omega
 have F5:dR log x<=9:=by unfold dR;omega
 have CX:s7 log x=x*2^dR log x-2^log:=rfl;have kv:x<4294967296:=by omega
 have uj:=I (λW=>xc x W kv);have Gb:(x:Int)*2^dR log x=((x*2^dR log x:Nat):Int):=by simp
 have avr:(2:Int)^log=((2^log:Nat):Int):=by simp
 have k1:x*2^dR log x<=1024:=by
  rw[Nat.add_mul,Nat.one_mul]at ny;exact dl (dl (le_add_right _ _) ny) Wk
 rw[CX];generalize am.wid x=xb at *;generalize dR log x=B at *;generalize x*2^B=M at *;generalize 2^log=S at *;have gU:IntKind.i64.wrap (M:Int)=M:=IntWalk.i64_in _ (by omega);have mX:IntKind.i64.wrap (S:Int)=S:=IntWalk.i64_in _ (by omega);obtain⟨Z,uO⟩:∃Z,Z=M-S:=⟨_,rfl⟩;have aiY:(M:Int)-S=Z:=by omega
 rw[<-uO];clear uO ny ai Wk hle CX;go_enter func198,ntmps198
 go_wp2_with fail
 refine(uj.out _).mono ?_;rintro e w' ⟨rfl,rfl⟩;go_wp2;go_still_tail 9,(by kernel_rfl)
 change wpList _ _ _ _ _ (w.alloc (.cells #[.int .u8 0,.int .i64 0,.int .i64 0] 248)).drew;go_wp2;refine bodyPost_ret (v:=.agg #[.int .u8 s,.int .i64 B,.int .i64 Z]) (by simp[results,results198,go_sem]) rfl ⟨rfl,?_⟩;exact(dM.alloc bl _).drew
def jc(w:ah)(p:Addr)(U:ae)(log:Nat):Prop:=∃b gc gs:Nat,p=⟨b,0,none⟩ /\
 Row w b 251 [.int .i64 log,.slice (some ⟨gc,0,none⟩) (2^log) (2^log),.slice (some ⟨gs,0,none⟩) U.length U.length] /\
 Row w gc 248 (c3 (nj U log))/\∃vs:b1,Row w gs 112 vs/\vs.length=U.length /\
  ∀s,s<U.length->∃A c,vs[s]?=some (.slice A (U[s]?.getD 0) c)/\Reads w A (aM (jp U log (2^log) s))
theorem pL(w W:ah)(p:Addr)(U:ae)(log:Nat)(h:jc w p U log)(ak:av w W):jc W p U log:=by
 obtain⟨b,gc,gs,e,h1,af,vs,aq,aK,aT⟩:=h;refine⟨b,gc,gs,e,iA h1 ak,iA af ak,vs,iA aq ak,aK,λs ap=>?_⟩;obtain⟨A,c,ci,c6⟩:=aT s ap;exact⟨A,c,ci,c7 c6 ak⟩
theorem sA(log:Nat)(aT:5<=log)(dh:log<=9):32<=2^log/\2^log<=512:=
 ⟨dy (n:=2) (i:=5) (by omega) aT,dy (n:=2) (j:=9) (by omega) dh⟩
theorem sH(w:ah)(p:Addr)(U:ae)(log:Nat)(h:jc w p U log):Calls prog 213 #[.pointer (some p)] w λe w'=>e=.returned (.int .i64 ((2^log:Nat):Int))/\w=w':=by
 obtain⟨b,gc,gs,rfl,h1,_⟩:=h;have c1:=h1.cell 1;simp only[dJ,dH]at c1;clear h1;generalize 2^log=S at *;go_enter func213,ntmps213
 go_wp2;go_ret;exact⟨rfl,rfl⟩
theorem ZZ(w:ah):Calls prog 213 #[.pointer none] w λe w'=>e=.returned (.int .i64 0)/\w=w':=by
 go_enter func213,ntmps213
 go_wp2;go_ret;exact⟨rfl,rfl⟩
theorem Ex(w:ah)(p:Addr)(U:ae)(log:Nat)(h:jc w p U log):Calls prog 216 #[.pointer (some p)] w λe w'=>e=.returned (.int .i64 log)/\w=w':=by
 obtain⟨b,gc,gs,rfl,h1,_⟩:=h;have c1:=h1.cell 0;simp only[dH]at c1;clear h1;go_enter func216,ntmps216
 go_wp2;go_ret;exact⟨rfl,rfl⟩
theorem aso(w:ah):Calls prog 216 #[.pointer none] w λe w'=>e=.returned (.int .i64 0)/\w=w':=by
 go_enter func216,ntmps216
 go_wp2;go_ret;exact⟨rfl,rfl⟩
theorem Ew(v:Value)(S:Nat)(st:Int)(w:ah)(bB:Calls prog 213 #[v] w λe w'=>e=.returned (.int .i64 S)/\w=w') :
  Calls prog 229 #[v,.int .i64 st] w λe w'=>e=.returned (.bool (decide (0<=st/\st<(S:Int))))/\w=w':=by
 have fS:=I bB;clear bB;by_cases ao:0<=st
 .have d0:decide (0<=st)=true:=bE ao;have aI:decide (st<(S:Int))=decide (0<=st/\st<(S:Int)):=by simp[ao]
  have fC:=I aI;clear aI ao;go_enter func229,ntmps229
  go_wp2_with fail
  refine fS.out.mono ?_;rintro e w' ⟨rfl,rfl⟩;go_wp2;go_ret;exact⟨congrArg (λx=>Ending.returned (Value.bool x)) fC,rfl⟩
 .have d0:decide (0<=st)=false:=bG ao;rw[show decide (0<=st/\st<(S:Int))=false from bG (λh=>ao h.1)];go_enter func229,ntmps229
  go_wp2;go_ret;exact⟨rfl,rfl⟩
theorem ash(w:ah)(st:Int):Calls prog 234 #[.pointer none,.int .i64 st] w λe w'=>e=.returned (.tuple #[.agg #[.int .u8 0,.int .i64 0,.int .i64 0],.bool false])/\av w w':=by
 have hh:∀W,Calls prog 229 #[.pointer none,.int .i64 st] W λe w'=>e=.returned (.bool false)/\W=w':=λW=>by
  have h1:=Ew (.pointer none) 0 st W (ZZ W);rw[bG (by omega)]at h1;exact h1
 have hg:=I hh;clear hh;go_enter func234,ntmps234
 go_wp2_with fail
 refine(hg.out _).mono ?_;rintro e w' ⟨rfl,rfl⟩;go_wp2;refine bodyPost_ret (v:=.tuple #[.agg #[.int .u8 0,.int .i64 0,.int .i64 0],.bool false]) (by simp[results,results234,go_sem]) rfl ⟨rfl,?_⟩;exact dM.alloc bl _
theorem HQ(w:ah)(p:Addr)(U:ae)(log:Nat)(st:Int)(aL:dW U log)(h:jc w p U log) :
  Calls prog 234 #[.pointer (some p),.int .i64 st] w λe w'=>e=.returned (.tuple #[p5 (qE U log st),.bool (decide (0<=st/\st<((2^log:Nat):Int)))])/\av w w':=by
 have hh:=λW (bk:jc W p U log)=>Ew (.pointer (some p)) (2^log) st W (sH W p U log bk)
 have hg:=I (hh _ (pL _ _ _ _ _ h (dM.alloc (Nat.le_refl w.heap.size) (.cells #[.int .u8 0,.int .i64 0,.int .i64 0] 248))));have cJ:=sA log aL.low aL.high;clear hh;obtain⟨b,gc,gs,rfl,h1,af,_⟩:=h;have c1:=h1.cell 1;simp only[dJ,dH]at c1;have au:=h1.lt;have hlt2:=af.lt;by_cases aS:0<=st/\st<((2^log:Nat):Int)
 .obtain⟨i,rfl⟩:=Int.eq_ofNat_of_zero_le aS.1;have ay:i<2^log:=by omega
  have r4:i<(nj U log).length:=by rw[Kd];exact ay
  obtain⟨e0,aG,e2⟩:=xT (nj U log) i r4;rw[RD]at e0 aG e2;have bD:=(af.cell (i*3)).trans e0;have bh:=(af.cell (i*3+1)).trans aG;have bN:=(af.cell (i*3+2)).trans e2;dsimp only at bD bh bN;have hA:p5 (qE U log (i:Int))=.agg #[.int .u8 (cC U log i),.int .i64 (cd U log i),.int .i64 (eh U log i)]:=by
   unfold qE p5;rw[aB aS,cX]
  rw[bE aS]at hg ⊢;rw[hA];clear hA e0 aG e2 r4 h1 af aS aL;generalize cC U log i=x at *;generalize cd U log i=y at *;generalize eh U log i=z at *;generalize 2^log=S at *;go_enter func234,ntmps234
  go_wp2_with fail
  refine hg.out.mono ?_;rintro e w' ⟨rfl,rfl⟩;go_wp2;refine bodyPost_ret (v:=.tuple #[.agg #[.int .u8 x,.int .i64 y,.int .i64 z],.bool true]) (by simp[results,results234,go_sem]) rfl ⟨rfl,?_⟩;exact dM.alloc bl _
 .have hA:p5 (qE U log st)=.agg #[.int .u8 0,.int .i64 0,.int .i64 0]:=by
   unfold qE p5;rw[az aS];rfl
  rw[bG aS]at hg ⊢;rw[hA];clear hA h1 af aS aL c1;go_enter func234,ntmps234
  go_wp2_with fail
  refine hg.out.mono ?_;rintro e w' ⟨rfl,rfl⟩;go_wp2;refine bodyPost_ret (v:=.tuple #[.agg #[.int .u8 0,.int .i64 0,.int .i64 0],.bool false]) (by simp[results,results234,go_sem]) rfl ⟨rfl,?_⟩;exact dM.alloc bl _
theorem O4(w:ah)(p:Addr)(U:ae)(log:Nat)(st more:Int)(aL:dW U log)(h:jc w p U log) :
  Calls prog 235 #[.pointer (some p),.int .i64 st,.int .i64 more] w λe w'=>e=.returned (.tuple #[.int .i64 (w1 U log st more),.bool (vl U log st more)])/\av w w':=by
 have gO:=I (HQ w p U log st aL h);have cJ:=sA log aL.low aL.high;by_cases aS:0<=st/\st<((2^log:Nat):Int)
 .have hA:p5 (qE U log st)=.agg #[.int .u8 (cC U log st.toNat),.int .i64 (cd U log st.toNat),.int .i64 (eh U log st.toNat)]:=by
   unfold qE p5;rw[aB aS]
  have ay:st.toNat<2^log:=by omega
  have cs:=zR U log st.toNat aL ay;have Ai:=zS U log st.toNat aL ay;have r7:=aL.high;have yy:vl U log st more=decide (0<=more/\more<((2^cd U log st.toNat:Nat):Int)):=by
   unfold vl;rw[decide_eq_decide];exact⟨λh=>h.2.2,λh=>⟨aS.1,aS.2,h⟩⟩
  have r9:w1 U log st more=if 0<=more/\more<((2^cd U log st.toNat:Nat):Int)then(eh U log st.toNat:Int)+more else 0:=by
   unfold w1;rw[yy];simp only[decide_eq_true_eq]
  rw[hA,bE aS]at gO;rw[r9,yy];clear hA r9 yy aS ay aL h;have cD:(2:Int)^cd U log st.toNat=((2^cd U log st.toNat:Nat):Int):=by simp
  have hpos:0<2^cd U log st.toNat:=Nat.pow_pos (by omega);generalize cC U log st.toNat=x at *;generalize cd U log st.toNat=y at *;generalize eh U log st.toNat=z at *;generalize 2^y=Y at *;have aw7:z<=512:=dl (dl (le_add_right _ _) cs) cJ.2;have avx:Y<=512:=dl (dl (le_add_left _ _) cs) cJ.2;have hw:IntKind.i64.wrap (Y:Int)=Y:=IntWalk.i64_in _ (by omega);clear cs;by_cases ao:more<0
  .have d0:decide (more<0)=true:=bE ao;rw[az (λh=>by omega),bG (λh=>by omega)];go_enter func235,ntmps235
   go_wp2_with fail
   refine gO.out.mono ?_;rintro e aw ⟨rfl,ak⟩;go_wp2;go_ret2;exact⟨rfl,ak.alloc ak.size _⟩
  .have d0:decide (more<0)=false:=bG ao;by_cases h1:(Y:Int)<=more
   .have d1:decide ((Y:Int)<=more)=true:=bE h1;rw[az (λh=>by omega),bG (λh=>by omega)];go_enter func235,ntmps235
    go_wp2_with fail
    refine gO.out.mono ?_;rintro e aw ⟨rfl,ak⟩;go_wp2;go_ret2;exact⟨rfl,ak.alloc ak.size _⟩
   .have d1:decide ((Y:Int)<=more)=false:=bG h1;rw[aB ⟨by omega,by omega⟩,bE ⟨by omega,by omega⟩];go_enter func235,ntmps235
    go_wp2_with fail
    refine gO.out.mono ?_;rintro e aw ⟨rfl,ak⟩;go_wp2;go_ret2;exact⟨rfl,ak.alloc ak.size _⟩
 .have hA:p5 (qE U log st)=.agg #[.int .u8 0,.int .i64 0,.int .i64 0]:=by
   unfold qE p5;rw[az aS];rfl
  have yy:vl U log st more=false:=bG (λh=>aS ⟨h.1,h.2.1⟩);have r9:w1 U log st more=0:=by
   unfold w1;rw[yy];rfl
  rw[hA,bG aS]at gO;rw[r9,yy];clear hA r9 yy aS aL h;go_enter func235,ntmps235
  go_wp2_with fail
  refine gO.out.mono ?_;rintro e aw ⟨rfl,ak⟩;go_wp2;go_ret2;exact⟨rfl,ak.alloc ak.size _⟩
theorem aeZ(W b:Nat)(bk:W<4294967296)(ak:b<32):bits .and .i64 (W:Int) (((2^b:Nat):Int)-1)=((W%2^b:Nat):Int):=by
 have ax:2^b<2^32:=Nat.pow_lt_pow_right (by omega) ak;have hpos:=eK b;have h1:∀a:Nat,a<4294967296->(BitVec.ofInt 64 (a:Int)).toNat=a:=λa aV=>by
  rw[BitVec.ofInt_natCast,BitVec.toNat_ofNat];exact mod_eq_of_lt (by omega)
 rw[show((2^b:Nat):Int)-1=((2^b-1:Nat):Int) by omega];show IntKind.i64.wrap ((BitVec.ofInt 64 (W:Int) &&& BitVec.ofInt 64 ((2^b-1:Nat):Int)).toNat:Int)=_;rw[BitVec.toNat_and,h1 W bk,h1 _ (by omega),and_two_pow_sub_one_eq_mod,IntKind.wrap_i64];have af:=mod_lt W hpos;omega
theorem ase(w:ah)(p:Addr)(U:ae)(log:Nat)(st:Int)(s:Nat)(h:jc w p U log)(aS:¬(0<=st/\st<((2^log:Nat):Int))) :
  Calls prog 215 #[.pointer (some p),.int .i64 st,.int .u8 s] w λe w'=>e=.returned (.tuple #[.int .i64 0,.int .i64 0,.int .i64 0,.bool false])/\w=w':=by
 have hg:=I (Ew (.pointer (some p)) (2^log) st w (sH w p U log h));rw[bG aS]at hg;clear aS h;go_enter func215,ntmps215
 go_wp2_with fail
 refine hg.out.mono ?_;rintro e w' ⟨rfl,rfl⟩;go_wp2;refine bodyPost_ret (v:=.tuple #[.int .i64 0,.int .i64 0,.int .i64 0,.bool false]) (by simp[results,results215,go_sem]) rfl ⟨rfl,rfl⟩
theorem asd(w:ah)(p:Addr)(U:ae)(log:Nat)(st:Int)(s:Nat)(aL:dW U log)(h:jc w p U log)(aS:0<=st/\st<((2^log:Nat):Int))(ap:U[s]?.getD 0=0)(AG:s<256) :
  Calls prog 215 #[.pointer (some p),.int .i64 st,.int .u8 s] w λe w'=>e=.returned (.tuple #[.int .i64 0,.int .i64 0,.int .i64 0,.bool false])/\w=w':=by
 have hg:=I (Ew (.pointer (some p)) (2^log) st w (sH w p U log h));rw[bE aS]at hg;have hlen:=aL.len;obtain⟨b,gc,gs,rfl,h1,af,vs,aq,aK,aT⟩:=h;have c1:=h1.cell 2;simp only[dJ,dH]at c1;by_cases fQ:s<U.length
 .obtain⟨A,c,ci,c6⟩:=aT s fQ;have c2:=(aq.cell s).trans ci;rw[ap]at c2;have d1:decide (U.length<=s)=false:=aU;clear h1 af aq aK aT ci c6 aS ap aL;go_enter func215,ntmps215
  go_wp2_with fail
  refine hg.out.mono ?_;rintro e w' ⟨rfl,rfl⟩;go_wp2;refine bodyPost_ret (v:=.tuple #[.int .i64 0,.int .i64 0,.int .i64 0,.bool false]) (by simp[results,results215,go_sem]) rfl ⟨rfl,rfl⟩
 .have d1:decide (U.length<=s)=true:=cf;clear h1 af aq aK aT aS ap aL;go_enter func215,ntmps215
  go_wp2_with fail
  refine hg.out.mono ?_;rintro e w' ⟨rfl,rfl⟩;go_wp2;refine bodyPost_ret (v:=.tuple #[.int .i64 0,.int .i64 0,.int .i64 0,.bool false]) (by simp[results,results215,go_sem]) rfl ⟨rfl,rfl⟩
theorem ZS(w:ah)(b gs g off S i W N cap s kV fb B x iD q v m p4:Nat)(hp:Nat)(hh:∀bb,bb=w->Calls prog 229 #[.pointer (some ⟨b,0,none⟩),.int .i64 i] bb λe w'=>e=.returned (.bool true)/\bb=w')
  (bB:Calls prog 213 #[.pointer (some ⟨b,0,none⟩)] w λe w'=>e=.returned (.int .i64 S)/\w=w')
  (c1:w.cell? ⟨b,2,none⟩=some (.slice (some ⟨gs,0,none⟩) hp hp))(ap:s<hp)(g6:hp<=256)(c2:w.cell? ⟨gs,s,none⟩=some (.slice (some ⟨g,off,none⟩) N cap))
  (Le:0<N)(cU:N<=512)(bk:W=i+S)(avu:W<1024)(gU:am.wid W=kV)(mX:am.wid N=fb)(bx:kV=B+fb)(F5:B<=20)(ai:x=W/2^B)
  (mv:x<N->1<=B/\m=B-1/\iD=W/2^m)(ny:N<=x->m=B/\iD=x)(hq:iD=N+q)(awz:q<N)(c3:w.cell? ⟨g,off+q,none⟩=some (.int .i64 v))(qM:p4=W%2^m) :
  Calls prog 215 #[.pointer (some ⟨b,0,none⟩),.int .i64 i,.int .u8 s] w λe w'=>e=.returned (.tuple #[.int .i64 v,.int .i64 p4,.int .i64 m,.bool true])/\av w w':=by
 have hg:=I (hh w rfl);have fS:=I bB;have JK:=I (λV=>xc W V (by omega));have JL:=I (λV=>xc N V (by omega));rw[gU]at JK;rw[mX]at JL;have d1:decide (hp<=s)=false:=aU;have d2:((N:Int)==0)=false:=cz
 have aG:(S:Int)+i=W:=by omega
 have e2:(kV:Int)-fb=B:=by omega
 have e3:(W:Int)/2^B=(x:Int):=by rw[ai];simp
 have hm:m<=B:=by
  rcases eF x N with h|h
  .have:=mv h;omega
  .have:=ny h;omega
 have cJ:2^m<=1048576:=by
  have af:2^m<=2^20:=dy (by omega) (by omega);have aq:(2:Nat)^20=1048576:=by decide
  omega
 have e4:(2:Int)^m=((2^m:Nat):Int):=by simp
 have e5:=aeZ W m (by omega) (by omega);rw[<-qM]at e5;have n7:iD=W/2^m:=by
  rcases eF x N with h|h
  .exact(mv h).2.2
  .obtain⟨h1,af⟩:=ny h;rw[af,h1,ai]
 have gG:(W:Int)/((2^m:Nat):Int)=iD:=by rw[n7];simp
 have nY:(iD:Int)-N=q:=by omega
 have aw2:iD<=1023:=by omega
 have awu:0<2^m:=eK m;have aw3:x<=1023:=by
  have:=div_le_self W (2^B);omega
 have avq:S<=W:=by omega
 have avY:i<=W:=by omega
 clear hh bB gU mX qM n7 ai bk;have jt:=I hq;clear hq;generalize 2^m=P at *;have AQ:IntKind.i64.wrap (P:Int)=P:=IntWalk.i64_in _ (by omega);have AR:IntKind.i64.wrap ((P:Int)-1)=(P:Int)-1:=IntWalk.i64_in _ (by omega);by_cases au:x<N
 .obtain⟨bh,bN,en⟩:=mv au;have d3:decide (x<N)=true:=bE au;have oN:(B:Int)-1=m:=by omega
  clear mv ny bx bN en;have H8:=I e4;have H9:=I e5;have Ia:=I gG;have Ib:=I nY;have aat:=I oN;have JI:=I AQ;have JJ:=I AR;clear e4 e5 gG nY oN AQ AR;go_enter func215,ntmps215
  go_wp2_with fail
  refine hg.out.mono ?_;rintro e w' ⟨rfl,rfl⟩;go_wp2_with fail
  refine fS.out.mono ?_;rintro e w' ⟨rfl,rfl⟩;go_wp2_with fail
  refine(JK.out _).mono ?_;rintro e w' ⟨rfl,rfl⟩;go_wp2_with fail
  refine(JL.out _).mono ?_;rintro e w' ⟨rfl,rfl⟩;go_wp2_with fail
  rw[aat.out];clear e3;have e4:=H8.out;have e5:=H9.out;have gG:=Ia.out;have nY:=Ib.out;have ahr:(0:Int)<=q:=by omega
  have ahs:(q:Int)<N:=by omega
  have AQ:=JI.out;have AR:=JJ.out;go_quiet (fail)
  go_wp2;refine bodyPost_ret (v:=.tuple #[.int .i64 v,.int .i64 p4,.int .i64 m,.bool true]) (by simp[results,results215,go_sem]) rfl ⟨rfl,below_drewN dM _⟩
 .obtain⟨rfl,rfl⟩:=ny (by omega);have d3:decide (iD<N)=false:=bG au;clear mv ny bx;have H8:=I e4;have H9:=I e5;have Ia:=I gG;have Ib:=I nY;have JI:=I AQ;have JJ:=I AR;clear e4 e5 gG nY AQ AR;go_enter func215,ntmps215
  go_wp2_with fail
  refine hg.out.mono ?_;rintro e w' ⟨rfl,rfl⟩;go_wp2_with fail
  refine fS.out.mono ?_;rintro e w' ⟨rfl,rfl⟩;go_wp2_with fail
  refine(JK.out _).mono ?_;rintro e w' ⟨rfl,rfl⟩;go_wp2_with fail
  refine(JL.out _).mono ?_;rintro e w' ⟨rfl,rfl⟩;go_wp2_with fail
  clear e3;have e4:=H8.out;have e5:=H9.out;have gG:=Ia.out;have nY:=Ib.out;have ahr:(0:Int)<=q:=by omega
  have ahs:(q:Int)<N:=by omega
  have AQ:=JI.out;have AR:=JJ.out;go_quiet (fail)
  go_wp2;refine bodyPost_ret (v:=.tuple #[.int .i64 v,.int .i64 p4,.int .i64 m,.bool true]) (by simp[results,results215,go_sem]) rfl ⟨rfl,below_drewN dM _⟩
theorem ZR(w:ah)(p:Addr)(U:ae)(log:Nat)(st:Int)(s:Nat)(aL:dW U log)(h:jc w p U log)(AG:s<256) :
  Calls prog 215 #[.pointer (some p),.int .i64 st,.int .u8 s] w λe w'=>e=.returned (Fj (wb U log st s))/\av w w':=by
 by_cases aS:0<=st/\st<((2^log:Nat):Int)
 .have hA:wb U log st s=(lk U log st.toNat s).map λp=>(p,st.toNat-eh U log p,cd U log p):=by
   unfold wb;rw[aB aS]
  rw[hA];by_cases ao:U[s]?.getD 0=0
  .rw[Q6 U log st.toNat s aL ao];exact(asd w p U log st s aL h aS ao AG).mono λe w' ⟨he,hw⟩=>⟨he,by subst hw;exact Below.refl _ _⟩
  .have fQ:s<U.length:=by
    rcases eF s U.length with h1|h1
    .exact h1
    .exact absurd (by rw[getElem?_eq_none h1];rfl) ao
   have aF:U[s]?=some U[s]:=bI fQ;rw[aF,b7]at ao;obtain⟨i,rfl⟩:=Int.eq_ofNat_of_zero_le aS.1;rw[cX];have ay:i<2^log:=by omega
   have aA:=arq U log s _ aL aF;have cJ:=sA log aL.low aL.high;have hall:=Zf U log s aL;rw[aF,b7]at hall;have hlen:=aL.len;have r7:=aL.high;have bB:=sH w p U log h;have hh:∀bb,bb=w->Calls prog 229 #[.pointer (some p),.int .i64 i] bb λe w'=>e=.returned (.bool true)/\bb=w':=λbb e=>by
    subst e;have h1:=Ew (.pointer (some p)) (2^log) (i:Int) bb (sH bb p U log h);rw[bE aS]at h1;exact h1
   obtain⟨b,gc,gs,rfl,h1,af,vs,aq,aK,aT⟩:=h;have c1:=h1.cell 2;simp only[dJ,dH]at c1;obtain⟨A,c,ci,c6⟩:=aT s fQ;rw[aF,b7]at ci;have c2:=(aq.cell s).trans ci;have aZ:0<(jp U log (2^log) s).length:=by omega
   obtain⟨g,off,rfl,hc⟩:=c6 (λe=>by have:=congrArg List.length e;rw[gm,length_nil]at this;omega);have key:∀m,U[s]<=(i+2^log)/2^m->(i+2^log)/2^m<2*U[s]->∃q v:Nat,(i+2^log)/2^m=U[s]+q/\q<U[s]/\w.cell? ⟨g,off+q,none⟩=some (.int .i64 v) /\
     (lk U log i s).map (λp=>(p,i-eh U log p,cd U log p))=some (v,(i+2^log)%2^m,m):=λm bh bN=>by
    obtain⟨v,aG,e2,e3,e4⟩:=ae5 U log i s U[s] m aL aF (by omega) ay bh bN;refine⟨(i+2^log)/2^m-U[s],v,by omega,by omega,?_,by rw[e2,map_some,e3,e4]⟩;have hL:(i+2^log)/2^m-U[s]<(jp U log (2^log) s).length:=by omega
    rw[hc _ (by rw[gm];exact hL),iN _ _ hL];rw[bI hL]at aG;injection aG with aG
    rw[aG]
   have mX:=qx U[s] (log+1) (by have:2^(log+1)=2^log*2:=ea 2 log;omega);have kI:=sK U[s] (by omega);have GK:am.wid (i+2^log)=log+1:=Bi _ log (by omega) (by have:2^(log+1)=2^log*2:=ea 2 log;omega);rcases eF ((i+2^log)/2^(log+1-am.wid U[s])) U[s]with au|fj
   .obtain⟨bh,bN,en⟩:=aq2 log i U[s] (by omega) aA au;obtain⟨q,v,gp,fl,lB,vp⟩:=key _ bN en;rw[vp];exact ZS w b gs g off (2^log) i (i+2^log) U[s] c s (log+1) (am.wid U[s]) (log+1-am.wid U[s]) ((i+2^log)/2^(log+1-am.wid U[s])) ((i+2^log)/2^(log+1-am.wid U[s]-1)) q v (log+1-am.wid U[s]-1) _ U.length hh bB c1 fQ hlen c2 (by omega) (by omega) rfl (by omega) GK rfl (by omega) (by omega) rfl (λ_=>⟨bh,rfl,rfl⟩) (λh=>absurd au (by omega)) gp fl lB rfl
   .have en:=aq1 log i U[s] (by omega) aA ay;obtain⟨q,v,gp,fl,lB,vp⟩:=key _ fj en;rw[vp];exact ZS w b gs g off (2^log) i (i+2^log) U[s] c s (log+1) (am.wid U[s]) (log+1-am.wid U[s]) ((i+2^log)/2^(log+1-am.wid U[s])) ((i+2^log)/2^(log+1-am.wid U[s])) q v (log+1-am.wid U[s]) _ U.length hh bB c1 fQ hlen c2 (by omega) (by omega) rfl (by omega) GK rfl (by omega) (by omega) rfl (λh=>absurd h (by omega)) (λ_=>⟨rfl,rfl⟩) gp fl lB rfl
 .have hA:wb U log st s=none:=by
   unfold wb;rw[az aS]
  rw[hA];exact(ase w p U log st s h aS).mono λe w' ⟨he,hw⟩=>⟨he,by subst hw;exact Below.refl _ _⟩
theorem anx(A:a7)(c:Nat)(bs:ae)(w:ah)(hl:bs.length<=10000)(ak:∀x∈bs,x<256)(aj:Reads w A (aO bs)) :
  (m8 bs=none/\Calls prog 224 #[.slice A bs.length c] w λe w'=>e=.returned (.tuple #[.pointer none,.bool false])/\av w w') \/
  ∃M L,m8 bs=some (M,L)/\M<2^L/\bd bs=M+2^L/\L<8*bs.length/\Calls prog 224 #[.slice A bs.length c] w λe w'=>∃b,e=.returned (.tuple #[.pointer (some ⟨b,0,none⟩),.bool true])/\jd w' w.heap.size b bs L/\av w w':=by
 rcases eq_nil_or_concat bs with rfl|⟨front,b,e⟩
 .exact .inl ⟨by simp[m8],(anz A c w).mono λe w' ⟨he,hw⟩=>⟨he,by subst hw;exact Below.refl _ _⟩⟩
 .rw[concat_eq_append]at e;have hlen:bs.length=front.length+1:=by rw[e,aY,length_singleton]
  have hlast:bs[front.length]'(by omega)=b:=by subst e;simp
  have jC:bs.getLast?.getD 0=b:=by rw[e,getLast?_append,getLast?_singleton];rfl
  obtain⟨g,off,rfl,hc⟩:=m9 aj (by intro h;rw[h]at hlen;simp at hlen);have aF:=Yq aj (by intro h;have:=congrArg List.length h;rw[i7,hlen,length_nil]at this;omega);rcases eq_zero_or_pos b with ao|ao
  .refine .inl ⟨by unfold m8;rw[aB (by rw[jC,ao])],?_⟩;have h1:=hc front.length (by omega);rw[hlast,ao]at h1;rw[hlen];exact(anC g off front.length c w (by omega) h1).mono λe w' ⟨he,hw⟩=>⟨he,by subst hw;exact Below.refl _ _⟩
  .have dc:b≠0:=by omega
   have hb256:=ak b (by rw[e];simp);obtain⟨cb,WU,aE⟩:=O6 front b (λx ai=>ak x (by rw[e];exact mem_append_left _ ai)) hb256 dc;rw[<-e]at aE;have u9:=HS _ _ aE;have hopen:m8 bs=some (bd bs%2^(bd bs).log2,(bd bs).log2):=by unfold m8;rw[az (by rw[jC];exact dc)]
   obtain⟨bh,_,en⟩:=Oy bs _ _ ak hopen;have ap:=aE.sum;rw[u9]at hopen bh en;refine .inr ⟨_,_,hopen,bh,by omega,en,?_⟩;rw[hlen];exact anB g off front.length c bs b w (by omega) hb256 dc hlen hlast aj aF
theorem am4(M left k:Nat)(h:k<=left):M%2^left/2^(left-k)=M/2^(left-k)%2^k/\M%2^left%2^(left-k)=M%2^(left-k):=by
 have e:2^left=2^(left-k)*2^k:=by rw[<-dI];congr 1;omega
 rw[e];exact⟨mod_mul_right_div_self _ _ _,mod_mul_right_mod _ _ _⟩
theorem RC(U:ae)(log st:Nat)(h:st<2^log):p5 (qE U log (st:Int))=.agg #[.int .u8 (cC U log st),.int .i64 (cd U log st),.int .i64 (eh U log st)]:=by
 unfold qE p5;rw[aB ⟨by omega,by omega⟩,cX]
theorem Xt(U:ae)(log st v:Nat)(h:st<2^log)(aD:v<2^cd U log st):vl U log (st:Int) (v:Int)=true/\w1 U log (st:Int) (v:Int)=((eh U log st+v:Nat):Int):=by
 have h1:vl U log (st:Int) (v:Int)=true:=by
  unfold vl;rw[cX];exact bE ⟨by omega,by omega,by omega,by omega⟩
 refine⟨h1,?_⟩;unfold w1;rw[h1,aB rfl,cX,Int.natCast_add]
theorem ahN(w0 w:ah)(p:Addr)(U:ae)(log B b left st:Nat)(bs:ae)(aL:dW U log)(aE:jc w0 p U log)(hw:av w0 w)(bx:w0.heap.size<=B)(ap:bs.length<=10000)(cs:∀x∈bs,x<256)(u7:left<8*bs.length)
  (aS:st<2^log)(hle:cd U log st<=left)(h:jd w B b bs left) :
  Calls prog 226 #[.pointer (some p),.pointer (some ⟨b,0,none⟩),.int .i64 st] w λe w'=>
   e=.returned (.tuple #[.int .u8 (cC U log st),.int .i64 ((eh U log st+bd bs/2^(left-cd U log st)%2^cd U log st:Nat):Int),.bool true])/\jd w' B b bs (left-cd U log st)/\w.grownBy w' (some b)/\w'.cell? ⟨b,0,none⟩=w.cell? ⟨b,0,none⟩:=by
 have TK:=zS U log st aL aS;have dh:=aL.high;have au1:B<=b:=by obtain⟨_,_,_,_,_,aq,_⟩:=h;exact aq
 have nO:=I (HQ w p U log (st:Int) aL (pL _ _ _ _ _ aE hw));have cJ:=sA log aL.low aL.high;have jj:=zR U log st aL aS;have aD:=mod_lt (bd bs/2^(left-cd U log st)) (eK (cd U log st));obtain⟨b2,bU⟩:=Xt U log st _ aS aD;have vW:=I (λW (bk:jd W B b bs left)=>Rp B b left bs (cd U log st) W (by omega) cs (by omega) hle u7 bk);have vO:=I (λW v (bk:av w0 W)=>O4 W p U log (st:Int) v aL (pL _ _ _ _ _ aE bk));have aI:decide (0<=(st:Int)/\(st:Int)<((2^log:Nat):Int))=true:=bE ⟨by omega,by omega⟩;rw[RC U log st aS,aI]at nO;have sX:=I b2;have ud:=I bU;have awR:bd bs/2^(left-cd U log st)%2^cd U log st<=512:=by
  have af:2^cd U log st<=512:=dl (dl (le_add_left _ _) jj) cJ.2;omega
 have lJ:=I h;have fm:=I hw;clear aI b2 bU aD jj aL aE aS u7 cs h hw;generalize bd bs/2^(left-cd U log st)%2^cd U log st=V at *;generalize cC U log st=cM at *;generalize eh U log st=z at *;generalize cd U log st=k at *;go_enter func226,ntmps226
 go_wp2_with fail
 refine nO.out.mono ?_;rintro e aw ⟨rfl,aH⟩;have gU:=aH.alloc aH.size (.cells #[.int .u8 cM,.int .i64 k,.int .i64 z] 248);obtain⟨kj,uM⟩:∃kj,kj=aw.alloc (.cells #[.int .u8 cM,.int .i64 k,.int .i64 z] 248):=⟨_,rfl⟩;have hrow:Row kj aw.heap.size 248 [.int .u8 cM,.int .i64 k,.int .i64 z]:=by rw[uM];exact Row.new aw _ _
 rw[<-uM]at gU;have eu:b<w.heap.size:=by obtain⟨_,_,_,_,_,_,aK,_⟩:=lJ.out;exact aK
 have avE:b<aw.heap.size:=gJ eu aH.size;have gQ:=I (vW.out kj (lJ.out.keep (dj gU none) (by simp)));have Iw:=I uM;have vY:=I gU;clear aH uM gU;go_wp2_with fail
 rw[<-Iw.out];refine gQ.out.mono ?_;rintro e lj ⟨rfl,VY,ct,kq⟩;have hbW2:b<kj.heap.size:=gJ eu vY.out.size;have ai5:b<lj.heap.size:=gJ hbW2 ct.size;have l6:Hid (lj.cell? ⟨b,0,none⟩=w.cell? ⟨b,0,none⟩):=I (kq.trans (vY.out.cell (p:=⟨b,0,none⟩) eu));clear kq;have c0:lj.cell? ⟨aw.heap.size,0,none⟩=some (.int .u8 cM):=by
  rw[World.cell?_of_block (ct.block aw.heap.size hrow.lt (λe=>by injection e with e;omega))];exact hrow.cell 0
 have bA:av w0 lj:=(fm.out.trans (vY.out.mono fm.out.size)).grown ct (dl fm.out.size vY.out.size) (λk e=>by injection e with e;omega);have BU:=I (vO.out lj (V:Int) bA);rw[sX.out,ud.out]at BU;have ad8:=I VY;have jJ:=I ((dj vY.out (some b)).trans ct);clear VY ct bA hrow;go_wp2_with fail
 refine BU.out.mono ?_;rintro e fp ⟨rfl,bc⟩;have c1:fp.cell? ⟨aw.heap.size,0,none⟩=some (.int .u8 cM):=(bc.cell (p:=⟨aw.heap.size,0,none⟩) (by
  rcases eF aw.heap.size lj.heap.size with h|h
  .exact h
  .unfold World.cell? at c0;rw[Array.getElem?_eq_none h]at c0;cases c0)).trans c0
 have JG:=I (ad8.out.keep (dj bc none) (by simp));have hQ:=I (jJ.out.trans (dj bc (some b)));have xu:=I ((bc.cell (p:=⟨b,0,none⟩) ai5).trans l6);clear bc c0;go_wp2;refine bodyPost_ret (v:=.tuple #[.int .u8 cM,.int .i64 ((z+V:Nat):Int),.bool true]) (by simp[results,results226,go_sem]) rfl ⟨rfl,JG.out,hQ.out,xu.out⟩
theorem ahM(w0 w:ah)(p:Addr)(U:ae)(log B b left st:Nat)(bs:ae)(aL:dW U log)(aE:jc w0 p U log)(hw:av w0 w)
  (aS:st<2^log)(hle:left<cd U log st)(h:jd w B b bs left) :
  Calls prog 226 #[.pointer (some p),.pointer (some ⟨b,0,none⟩),.int .i64 st] w λe w'=>
   (∃v:Nat,v<=512/\e=.returned (.tuple #[.int .u8 (cC U log st),.int .i64 v,.bool false]))/\jd w' B b bs left/\w.grownBy w' (some b):=by
 have TK:=zS U log st aL aS;have dh:=aL.high;have nO:=I (HQ w p U log (st:Int) aL (pL _ _ _ _ _ aE hw));have cJ:=sA log aL.low aL.high;have jj:=zR U log st aL aS;obtain⟨b2,bU⟩:=Xt U log st 0 aS (eK _);have vW:=I (λW (bk:jd W B b bs left)=>Ro B b left bs (cd U log st) W (by omega) hle bk);have vO:=I (λW v (bk:av w0 W)=>O4 W p U log (st:Int) v aL (pL _ _ _ _ _ aE bk));have aI:decide (0<=(st:Int)/\(st:Int)<((2^log:Nat):Int))=true:=bE ⟨by omega,by omega⟩;rw[RC U log st aS,aI]at nO;have sX:=I b2;have ud:=I bU;have aQ:eh U log st<=512:=dl (dl (le_add_right _ _) jj) cJ.2;have lJ:=I h;have fm:=I hw;clear aI b2 bU jj aL aE aS h hw;generalize cC U log st=cM at *;generalize eh U log st=z at *;generalize cd U log st=k at *;go_enter func226,ntmps226
 go_wp2_with fail
 refine nO.out.mono ?_;rintro e aw ⟨rfl,aH⟩;have gU:=aH.alloc aH.size (.cells #[.int .u8 cM,.int .i64 k,.int .i64 z] 248);obtain⟨kj,uM⟩:∃kj,kj=aw.alloc (.cells #[.int .u8 cM,.int .i64 k,.int .i64 z] 248):=⟨_,rfl⟩;have hrow:Row kj aw.heap.size 248 [.int .u8 cM,.int .i64 k,.int .i64 z]:=by rw[uM];exact Row.new aw _ _
 rw[<-uM]at gU;have AO:=lJ.out.keep (dj gU none) (by simp);have gQ:=I (vW.out kj AO);have JF:=I AO;have Iw:=I uM;have vY:=I gU;have c0:=hrow.cell 0;have pD:=hrow.lt;have BU:=I (vO.out kj ((0:Nat):Int) (fm.out.trans (gU.mono fm.out.size)));rw[sX.out,ud.out]at BU;clear aH uM gU hrow AO;go_wp2_with fail
 rw[<-Iw.out];refine gQ.out.mono ?_;rintro e lj ⟨rfl,rfl⟩;go_wp2_with fail
 refine BU.out.mono ?_;rintro e fp ⟨rfl,bc⟩;have c1:fp.cell? ⟨aw.heap.size,0,none⟩=some (.int .u8 cM):=(bc.cell (p:=⟨aw.heap.size,0,none⟩) pD).trans c0;have JG:=I (JF.out.keep (dj bc none) (by simp));have hQ:=I ((dj vY.out (some b)).trans (dj bc (some b)));clear bc c0;go_wp2;refine bodyPost_ret (v:=.tuple #[.int .u8 cM,.int .i64 z,.bool false]) (by simp[results,results226,go_sem]) rfl ⟨⟨z,aQ,rfl⟩,JG.out,hQ.out⟩
theorem jd.cG{w w':ah}{B b left g cap:Nat}{bs:ae}{row:Option Nat}(h:jd w B b bs left)(hc:w.cell? ⟨b,0,none⟩=some (.slice (some ⟨g,0,none⟩) bs.length cap))(aF:w.grownBy w' row)(h1:row≠some b)(af:row≠some g):jd w' B b bs left:=by
 obtain⟨eT,cap',bD,bh,bN,en,gn,qk,GQ,M9,alC,alD,aly⟩:=h;rw[bD]at hc;simp only[Option.some.injEq,Value.slice.injEq,Addr.mk.injEq]at hc;obtain⟨⟨rfl,_⟩,_,rfl⟩:=hc;have hl:=aF.block b gn (λe=>h1 e.symm);have ew:=aF.block eT GQ (λe=>af e.symm);refine⟨eT,cap',(World.cell?_of_block hl).trans bD,(World.cell?_of_block hl).trans bh,(World.frozen?_of_block hl).trans bN,en,gJ gn aF.size,qk,gJ GQ aF.size,M9,alC,alD,λaZ=>?_⟩;obtain⟨g2,off,e,hcs⟩:=aly aZ;injection e with e
 injection e with aG e2
 subst aG e2;exact⟨_,_,rfl,λj ar=>(World.cell?_of_block (a:=⟨eT,0+j,none⟩) ew).trans (hcs j ar)⟩
theorem ahx(w:ah)(p:Addr)(U:ae)(log:Nat)(A:a7)(m c:Nat)(n:Int)(aL:dW U log)(aE:jc w p U log)(aA:n<0\/1048576<n):Calls prog 211 #[.pointer (some p),.slice A m c,.int .i64 n] w λe w'=>xe w' e none/\av w w':=by
 have jM:=I (sH w p U log aE);have cJ:=sA log aL.low aL.high;clear aE aL;have sU:Hid ((((2^log:Nat):Int)==0)=false):=I (by rw[beq_eq_false_iff_ne];omega);clear cJ;generalize 2^log=S at *;have ta:=sU.out;rcases aA with h|h
 .go_enter func211,ntmps211
  go_wp2_with fail
  refine jM.out.mono ?_;rintro e w' ⟨rfl,rfl⟩;go_wp2;go_ret2;exact⟨⟨_,_,rfl⟩,Below.refl _ _⟩
 .go_enter func211,ntmps211
  go_wp2_with fail
  refine jM.out.mono ?_;rintro e w' ⟨rfl,rfl⟩;go_wp2;go_ret2;exact⟨⟨_,_,rfl⟩,Below.refl _ _⟩
theorem ahw(w:ah)(p:Addr)(U:ae)(log:Nat)(A:a7)(m c n:Nat)(q:a7)(yU:Bool)(aL:dW U log)(aE:jc w p U log)(aA:n<=1048576)
  (hopen:Calls prog 224 #[.slice A m c] w λe w'=>e=.returned (.tuple #[.pointer q,.bool yU])/\av w w'/\Calls prog 225 #[.pointer q,.int .i64 log] w' λe aC=>e=.returned (.tuple #[.int .u32 0,.bool false])/\w'=aC) :
  Calls prog 211 #[.pointer (some p),.slice A m c,.int .i64 n] w λe w'=>xe w' e none/\av w w':=by
 obtain⟨i0,ay,bC,bL,bz⟩:=info_parts ob;have jM:=I (sH w p U log aE);have BR:=I (λW (ak:av w W)=>Ex W p U log (pL _ _ _ _ _ aE ak));have cJ:=sA log aL.low aL.high;have dh:=aL.high;have xx:=I hopen;clear aE aL hopen;have sU:Hid ((((2^log:Nat):Int)==0)=false):=I (by rw[beq_eq_false_iff_ne];omega);clear cJ;generalize 2^log=S at *;have ta:=sU.out;have FN:decide ((n:Int)<0)=false:=aU;have Kw:decide (1048576<(n:Int))=false:=aU;go_enter func211,ntmps211
 go_wp2_with fail
 refine jM.out.mono ?_;rintro e w' ⟨rfl,rfl⟩;go_wp2_with fail
 refine xx.out.mono ?_;rintro e aw ⟨rfl,aH,lp⟩;have aN:=I aH;have vH:=I lp;have BN:=I (BR.out aw aH);clear aH lp;go_wp2_with fail
 refine BN.out.mono ?_;rintro e w' ⟨rfl,rfl⟩;go_wp2_with fail
 refine vH.out.mono ?_;rintro e w' ⟨rfl,rfl⟩;go_wp2_with (at_make;refine wpList_make_own _ rfl _ _ 87 rfl w.heap.size 5 i0 (.int .u8 0) 1 underlying87 ay bC bL .i64 .i64 _ n rfl rfl ?c1 ?c2 ?c3 ?c4 ?_)
 case c1=>rfl
 case c2=>rw[bz];omega
 case c3=>unfold maxLen;omega
 case c4=>exact aN.out.size
 intro dp hown fi;have dX:=I (aN.out.grown fi aN.out.size (by simp));clear hown fi;go_wp2;go_loopw [11,12,13,14] (λok _ _ _ wr=>ok=.bool false/\Hid (av w wr)) (λ_ _ _ _ _=>0)
 case atStart=>exact⟨rfl,dX⟩
 case round=>
  obtain⟨rfl,ak⟩:=hrel;go_wp2;go_ret2;exact⟨⟨_,_,rfl⟩,ak⟩
theorem ahv(w:ah)(p:Addr)(U:ae)(log:Nat)(A:a7)(m c n:Nat)(aL:dW U log)(aE:jc w p U log)(aA:n<=1048576)
  (hopen:Calls prog 224 #[.slice A m c] w λe w'=>∃b:Nat,e=.returned (.tuple #[.pointer (some ⟨b,0,none⟩),.bool true])/\av w w'/\Calls prog 225 #[.pointer (some ⟨b,0,none⟩),.int .i64 log] w' λe aC=>e=.returned (.tuple #[.int .u32 0,.bool false])/\w'=aC) :
  Calls prog 211 #[.pointer (some p),.slice A m c,.int .i64 n] w λe w'=>xe w' e none/\av w w':=by
 obtain⟨i0,ay,bC,bL,bz⟩:=info_parts ob;have jM:=I (sH w p U log aE);have BR:=I (λW (ak:av w W)=>Ex W p U log (pL _ _ _ _ _ aE ak));have cJ:=sA log aL.low aL.high;have dh:=aL.high;have xx:=I hopen;clear aE aL hopen;have sU:Hid ((((2^log:Nat):Int)==0)=false):=I (by rw[beq_eq_false_iff_ne];omega);clear cJ;generalize 2^log=S at *;have ta:=sU.out;have FN:decide ((n:Int)<0)=false:=aU;have Kw:decide (1048576<(n:Int))=false:=aU;go_enter func211,ntmps211
 go_wp2_with fail
 refine jM.out.mono ?_;rintro e w' ⟨rfl,rfl⟩;go_wp2_with fail
 refine xx.out.mono ?_;rintro e aw ⟨b,rfl,aH,lp⟩;have aN:=I aH;have vH:=I lp;have BN:=I (BR.out aw aH);clear aH lp;go_wp2_with fail
 refine BN.out.mono ?_;rintro e w' ⟨rfl,rfl⟩;go_wp2_with fail
 refine vH.out.mono ?_;rintro e w' ⟨rfl,rfl⟩;go_wp2_with (at_make;refine wpList_make_own _ rfl _ _ 87 rfl w.heap.size 5 i0 (.int .u8 0) 1 underlying87 ay bC bL .i64 .i64 _ n rfl rfl ?c1 ?c2 ?c3 ?c4 ?_)
 case c1=>rfl
 case c2=>rw[bz];omega
 case c3=>unfold maxLen;omega
 case c4=>exact aN.out.size
 intro dp hown fi;have dX:=I (aN.out.grown fi aN.out.size (by simp));clear hown fi;go_wp2;go_loopw [11,12,13,14] (λok _ _ _ wr=>ok=.bool false/\Hid (av w wr)) (λ_ _ _ _ _=>0)
 case atStart=>exact⟨rfl,dX⟩
 case round=>
  obtain⟨rfl,ak⟩:=hrel;go_wp2;go_ret2;exact⟨⟨_,_,rfl⟩,ak⟩
def lenOf:Value->Nat
|.slice _ n _=>n
|_=>0
theorem XU{w w':ah}{base b:Nat}{e:TypeId}{v:Value}{n:Nat}{xs:b1}(h:w.ownsRow base e 1 v n xs)(aF:w.grownBy w' (some b))(ak:b<base):w'.ownsRow base e 1 v n xs:=
 h.kept aF (by
  cases aD:v.ownBlock with
 |none=>exact .inl rfl
 |some x=>exact .inr (λe=>by injection e with e;have:=(h.lt x aD).1;omega))
theorem NT{w:ah}{base:Nat}{e:TypeId}{v:Value}{n:Nat}{xs:b1}(h:w.ownsRow base e 1 v n xs):lenOf v=n:=by
 rcases h.2 with⟨rfl,ao⟩|⟨g,cap,eW,rfl,_⟩
 .exact ao.symm
 .rfl
theorem ahy(w:ah)(p:Addr)(U:ae)(log:Nat)(A:a7)(c n M q:Nat)(bs:ae)(aL:dW U log)(aE:jc w p U log)(aA:n<=1048576)(ap:bs.length<=10000)(cs:∀x∈bs,x<256)(k1:M<2^(q+log))(hval:bd bs=M+2^(q+log))(bR:q+log<8*bs.length)
  (hopen:Calls prog 224 #[.slice A bs.length c] w λe w'=>∃b,e=.returned (.tuple #[.pointer (some ⟨b,0,none⟩),.bool true])/\jd w' w.heap.size b bs (q+log)/\av w w') :
  Calls prog 211 #[.pointer (some p),.slice A bs.length c,.int .i64 n] w λe w'=>xe w' e (iW U log n (M%2^q) q (M/2^q))/\av w w':=by
 obtain⟨i0,ay,bC,bL,bz⟩:=info_parts ob;obtain⟨r,aj⟩:∃r,r=iW U log n (M%2^q) q (M/2^q):=⟨_,rfl⟩;rw[<-aj];have jM:=I (sH w p U log aE);have BR:=I (λW (ak:av w W)=>Ex W p U log (pL _ _ _ _ _ aE ak));have cJ:=sA log aL.low aL.high;have dh:=aL.high;have aS:M/2^q<2^log:=by
  rw[dI,eG]at k1;exact(div_lt_iff_lt_mul (Nat.pow_pos (by omega))).2 k1
 have C7:bd bs/2^q%2^log=M/2^q:=by
  rw[hval,YS M (q+log) q log bl,mod_eq_of_lt aS]
 have vW:=I (λW b (h:jd W w.heap.size b bs (q+log))=>Rp w.heap.size b (q+log) bs log W (by omega) cs (by omega) (by omega) bR h);rw[Nat.add_sub_cancel,C7]at vW;have ab6:Hid (∀left k,k<=left->left<=q+log->M%2^left/2^(left-k)=bd bs/2^(left-k)%2^k/\M%2^left%2^(left-k)=M%2^(left-k)):=I (λleft k h1 af=>by
  obtain⟨aG,e2⟩:=am4 M left k h1;rw[aG,e2,hval,YS M (q+log) (left-k) k (by omega)];exact⟨rfl,rfl⟩)
 have kh:=I (λW b left st (bk:av w W) (h1:left<=q+log) (af:st<2^log) (aq:cd U log st<=left) (h:jd W w.heap.size b bs left)=>ahN w W p U log w.heap.size b left st bs aL aE bk bl ap cs (by omega) af aq h);have ES:=I (λW b left st (bk:av w W) (af:st<2^log) (aq:left<cd U log st) (h:jd W w.heap.size b bs left)=>ahM w W p U log w.heap.size b left st bs aL aE bk af aq h);have br:=I aL;have xx:=I hopen;have bj:=I aj;clear aE aL hopen aj C7 hval k1 cs;have sU:Hid ((((2^log:Nat):Int)==0)=false):=I (by rw[beq_eq_false_iff_ne];omega);obtain⟨S,cD⟩:∃S,S=2^log:=⟨_,rfl⟩;have cS:=I cD;rw[<-cD]at jM sU kh ES cJ aS;clear cD;have ta:=sU.out;have FN:decide ((n:Int)<0)=false:=aU;have Kw:decide (1048576<(n:Int))=false:=aU;go_enter func211,ntmps211
 go_wp2_with fail
 refine jM.out.mono ?_;rintro e w' ⟨rfl,rfl⟩;go_wp2_with fail
 refine xx.out.mono ?_;rintro e aw ⟨b,rfl,ku,aH⟩;have aN:=I aH;have lJ:=I ku;have BN:=I (BR.out aw aH);have JC:=I (vW.out aw b ku);obtain⟨g,cap,bD,_,_,wR,eu,awX,jC,_⟩:=ku;have QS:=I bD;clear aH bD;go_wp2_with fail
 refine BN.out.mono ?_;rintro e w' ⟨rfl,rfl⟩;go_wp2_with fail
 refine JC.out.mono ?_;rintro e aC ⟨rfl,AO,bp,ft⟩;have bm:=I (aN.out.grown bp aN.out.size (λx e=>by injection e with e;omega));have gd:=bp.size;have JF:=I AO;have uc:=I (ft.trans QS);clear AO bp ft QS;generalize hF:M/2^q=F at *;have lF:=I hF;clear hF;go_wp2_with (at_make;refine wpList_make_own _ rfl _ _ 87 rfl aC.heap.size 5 i0 (.int .u8 0) 1 underlying87 ay bC bL .i64 .i64 _ n rfl rfl ?c1 ?c2 ?c3 ?c4 ?_)
 case c1=>rfl
 case c2=>rw[bz];omega
 case c3=>unfold maxLen;omega
 case c4=>exact Nat.le_refl _
 intro dp hown fi;have dX:=I (bm.out.grown fi bm.out.size (by simp));have iR:=I hown;have ad9:=I (JF.out.keep fi (by simp));have acG:=I ((World.cell?_of_block (a:=⟨b,0,none⟩) (fi.block b (by omega) (by simp))).trans uc.out);have VA:=fi.size;clear hown fi;go_wp2;clear FN Kw ta;go_loopw [11,12,13,14] (λok o3 u _ wr=>∃(k left st:Nat) (acc:ae) (yU:Bool),ok=.bool yU/\o3=.int .i64 st/\k<=n/\acc.length=k/\left<=q/\st<=512/\dp.heap.size<=wr.heap.size/\Hid (wr.ownsRow aC.heap.size 5 1 u k (aO acc))/\Hid (av w wr)/\Hid ((yU=true->st<S/\jd wr w.heap.size b bs left/\wr.cell? ⟨b,0,none⟩=some (.slice (some ⟨g,0,none⟩) bs.length cap)/\r=(iW U log (n-k) (M%2^left) left st).map (acc++·))/\(yU=false->r=none))) (λ_ _ u _ _=>n-lenOf u)
 case atStart=>exact⟨0,q,F,[],true,rfl,rfl,by omega,rfl,Nat.le_refl _,by omega,Nat.le_refl _,iR,dX,I ⟨λ_=>⟨aS,ad9.out,acG.out,by rw[bj.out,Nat.sub_zero];cases iW U log n (M%2^q) q F<;>rfl⟩,λh=>by cases h⟩⟩
 case round=>
  obtain⟨k,left,st,acc,yU,rfl,rfl,hk,hacc,hleft,sm,bB,hown,hbel,hrest⟩:=hrel;clear aS;obtain⟨eA,c1,rfl,bt,uH⟩:=kJ hown.out;have Hlen:=I (NT hown);have ep:=I bt;clear bt uH;cases yU with
 |false=>
   have ai:=I (hrest.out.2 rfl);clear hrest hown;go_wp2;go_ret2;rw[ai.out];exact⟨⟨_,_,rfl⟩,hbel⟩
 |true=>
   obtain⟨aS,ku,hW,eV⟩:=hrest.out.1 rfl;have lJ:=I ku;have ou:=I hW;have mJ:=I eV;clear ku hW eV hrest;by_cases kG:k<n
   .have jE:st<2^log:=by rw[<-cS.out];exact aS
    have wQ:iW U log (n-k) (M%2^left) left st=if left<cd U log st then none else(iW U log (n-(k+1)) (M%2^left%2^(left-cd U log st)) (left-cd U log st) (eh U log st+M%2^left/2^(left-cd U log st))).map λl=>cC U log st::l:=by
     rw[show n-k=(n-(k+1))+1 by omega,iW]
    rw[wQ]at mJ;clear wQ;have jj:=zR U log st br.out jE;by_cases lq:left<cd U log st
    .rw[aB lq]at mJ;have kD:=I (ES.out wr b left st hbel.out aS lq lJ);clear jj lq jE;generalize cC U log st=cM at *;go_wp2_with fail
     refine kD.out.mono ?_;rintro e Cm ⟨⟨v,aD,rfl⟩,_,gk⟩;have VB:=gk.size;have zw:=I (XU hown.out gk (by omega));have xn:=I (hbel.out.grown gk hbel.out.size (λx e=>by injection e with e;omega));clear gk hown hbel;go_wp2_with (at_builtin;refine wpList_append_own _ rfl _ _ 87 rfl aC.heap.size 5 i0 (.int .u8 0) 1 1 underlying87 ay bC bL bz rfl (by decide) _ _ _ rfl (zw.out.alloc _) ⟨Cm.heap.size,0,none⟩ 1 1 [.int .u8 cM] rfl rfl ?d1 ?d2 ?d3 ?d4 ?d5 ?_)
     case d1=>
      intro j u ar;match j,ar with
     |0,ar=>simp at ar;subst ar;simp[Addr.add]
     case d2=>intro u hu;simp at hu;subst hu;rfl
     case d3=>unfold maxLen;omega
     case d4=>omega
     case d5=>simp;omega
     intro gN dk de di _;have jz:av w dk:=(xn.out.alloc xn.out.size _).grown di (by have:=xn.out.size;simp;omega) (λx e=>by have:=(zw.out.lt x e).1;omega);have e:aO acc++[Value.int .u8 cM]=aO (acc++[cM]):=by simp[aO]
     rw[e]at de;have r6:=NT de;have Dw:dp.heap.size<=dk.heap.size:=by have:=di.size;simp at this;omega
     have js:=I de;have nb:=I jz;clear de di jz e;go_wp2;go_roundw
     case rel=>exact⟨k+1,left,v,acc++[cM],false,rfl,rfl,by omega,by simp[hacc],hleft,by omega,Dw,js,nb,I ⟨λh=>(by cases h),λ_=>mJ.out⟩⟩
     case measure=>rw[r6];show n-(k+1)<n-k;omega
    .rw[az lq]at mJ;have a8:cd U log st<=left:=by omega
     obtain⟨g1,g2⟩:=ab6.out left _ a8 (by omega);rw[g1,g2]at mJ;have aD:=mod_lt (bd bs/2^(left-cd U log st)) (eK (cd U log st));have gH:eh U log st+bd bs/2^(left-cd U log st)%2^cd U log st<S:=by
      rw[cS.out];generalize 2^cd U log st=P at *;omega
     have kD:=I (kh.out wr b left st hbel.out (by omega) aS a8 lJ.out);clear jj lq jE g1 g2 aD;generalize cC U log st=cM at *;generalize eh U log st+bd bs/2^(left-cd U log st)%2^cd U log st=A4 at *;generalize cd U log st=DN at *;go_wp2_with fail
     refine kD.out.mono ?_;rintro e Cm ⟨rfl,VZ,gk,Uq⟩;have VB:=gk.size;have aea:=I VZ;have P9:=I (Uq.trans ou);have zw:=I (XU hown.out gk (by omega));have xn:=I (hbel.out.grown gk hbel.out.size (λx e=>by injection e with e;omega));clear gk hown hbel VZ Uq;go_wp2_with (at_builtin;refine wpList_append_own _ rfl _ _ 87 rfl aC.heap.size 5 i0 (.int .u8 0) 1 1 underlying87 ay bC bL bz rfl (by decide) _ _ _ rfl (zw.out.alloc _) ⟨Cm.heap.size,0,none⟩ 1 1 [.int .u8 cM] rfl rfl ?d1 ?d2 ?d3 ?d4 ?d5 ?_)
     case d1=>
      intro j u ar;match j,ar with
     |0,ar=>simp at ar;subst ar;simp[Addr.add]
     case d2=>intro u hu;simp at hu;subst hu;rfl
     case d3=>unfold maxLen;omega
     case d4=>omega
     case d5=>simp;omega
     intro gN dk de di _;have jz:av w dk:=(xn.out.alloc xn.out.size _).grown di (by have:=xn.out.size;simp;omega) (λx e=>by have:=(zw.out.lt x e).1;omega);have e:aO acc++[Value.int .u8 cM]=aO (acc++[cM]):=by simp[aO]
     rw[e]at de;have r6:=NT de;have Dw:dp.heap.size<=dk.heap.size:=by have:=di.size;simp at this;omega
     have uW:Cm.grownBy (Cm.alloc (.cells #[.int .u8 cM] 5)) none:=im (dg _ _) _;have Qa:=I ((World.cell?_of_block (a:=⟨b,0,none⟩) (uW.block b (by omega) (by simp))).trans P9.out);have aec:=I (aea.out.cG P9.out uW (by simp) (by simp));have lT:∀x,x<aC.heap.size->(Value.slice eA k c1).ownBlock≠some x:=λx ai e=>by have:=(zw.out.lt x e).1;omega
     have aeb:=I (aec.out.cG Qa.out di (lT b (by omega)) (lT g (by omega)));have acH:=I ((World.cell?_of_block (a:=⟨b,0,none⟩) (di.block b (by simp;omega) (λe=>lT b (by omega) e.symm))).trans Qa.out);have js:=I de;have nb:=I jz;clear de di jz e uW lT;go_wp2;go_roundw
     case rel=>
      refine⟨k+1,left-DN,A4,acc++[cM],true,rfl,rfl,by omega,by simp[hacc],by omega,by omega,Dw,js,nb,I ⟨λ_=>⟨gH,aeb.out,acH.out,?_⟩,λh=>(by cases h)⟩⟩;rw[mJ.out];cases iW U log (n-(k+1)) (M%2^(left-DN)) (left-DN) A4 with
     |none=>rfl
     |some l=>simp
     case measure=>rw[r6];show n-(k+1)<n-k;omega
   .obtain rfl:k=n:=by omega
    rw[Nat.sub_self]at mJ;have BO:=I (afB w.heap.size b left bs wr lJ);by_cases aQ:st=0/\left=0
    .obtain⟨rfl,rfl⟩:=aQ;have cc:=I (show r=some acc by rw[mJ.out];simp[iW]);have gj:=I hacc;clear hacc hown;go_wp2_with fail
     refine BO.out.mono ?_;rintro e w' ⟨rfl,rfl⟩;go_wp2;go_ret2;rw[cc.out];exact⟨⟨eA,c1,by rw[gj.out];rfl,ep⟩,hbel⟩
    .have cc:=I (show r=none by rw[mJ.out,iW,az aQ];rfl);clear hacc hown;by_cases u5:0<left
     .have d1:decide (0<left)=true:=bE u5;go_wp2_with fail
      refine BO.out.mono ?_;rintro e w' ⟨rfl,rfl⟩;go_wp2;go_ret2;rw[cc.out];exact⟨⟨_,_,rfl⟩,hbel⟩
     .have qh:0<st:=by omega
      obtain rfl:left=0:=by omega
      have d1:((st:Int)==0)=false:=cz
      go_wp2_with fail
      refine BO.out.mono ?_;rintro e w' ⟨rfl,rfl⟩;go_wp2;go_ret2;rw[cc.out];exact⟨⟨_,_,rfl⟩,hbel⟩
theorem ahu(w:ah)(p:Addr)(U:ae)(log:Nat)(A:a7)(c:Nat)(bs:ae)(n:Int)(aL:dW U log)(aE:jc w p U log)(ap:bs.length<=10000)(cs:∀x∈bs,x<256)(aj:Reads w A (aO bs)) :
  Calls prog 211 #[.pointer (some p),.slice A bs.length c,.int .i64 n] w λe w'=>xe w' e (iI U log bs n)/\av w w':=by
 by_cases aA:n<0\/1048576<n
 .have ai:iI U log bs n=none:=by
   unfold iI;cases m8 bs with
  |none=>rfl
  |some t=>rw[Option.bind_some];unfold rN;rw[az (by omega)]
  rw[ai];exact ahx w p U log A bs.length c n aL aE aA
 .obtain⟨m,rfl⟩:=Int.eq_ofNat_of_zero_le (show 0<=n by omega);rcases anx A c bs w ap cs aj with⟨b9,hc⟩|⟨M,L,b9,k1,hval,bR,hc⟩
  .have ai:iI U log bs (m:Int)=none:=by unfold iI;rw[b9];rfl
   rw[ai];exact ahw w p U log A bs.length c m none false aL aE (by omega) (hc.mono λe w' ⟨he,ak⟩=>⟨he,ak,af8 w' _⟩)
  .by_cases lq:L<log
   .have ai:iI U log bs (m:Int)=none:=by
     unfold iI;rw[b9,Option.bind_some];unfold rN;rw[az (by omega)]
    rw[ai];have dh:=aL.high;refine ahv w p U log A bs.length c m aL aE (by omega) (hc.mono λe w' ⟨b,he,ku,ak⟩=>⟨b,he,ak,Ro w.heap.size b L bs log w' (by omega) lq ku⟩)
   .obtain⟨q,rfl⟩:∃q,L=q+log:=⟨L-log,by omega⟩;have ai:iI U log bs (m:Int)=iW U log m (M%2^q) q (M/2^q):=by
     unfold iI;rw[b9,Option.bind_some];unfold rN;rw[aB ⟨rfl,by omega,by omega,by omega⟩,cX,Nat.add_sub_cancel]
    rw[ai];exact ahy w p U log A c m M q bs aL aE (by omega) ap cs k1 hval bR hc
theorem T4(x:Nat)(w:ah)(ai:x<4294967296) :
  Calls prog 196 #[.int .i64 x] w λe w'=>e=.returned (.int .i64 (am.wid x))/\w=w':=by
 have H:=I (xc x w ai);have qO:IntKind.u32.wrap (x:Int)=x:=by simp[IntKind.wrap,IntKind.bits,IntKind.signed];omega
 go_enter func196,ntmps196
 go_wp2_with fail
 refine H.out.mono ?_;rintro e w' ⟨rfl,rfl⟩;go_wp2;go_ret;exact⟨rfl,rfl⟩
theorem qd{w aw aC:ah}{row:Option Nat}(h:w.grownBy aw row)(af:aw.grownBy aC row):w.grownBy aC row:=
 ⟨af.os.trans h.os,af.tape.trans h.tape,af.output.trans h.output,dl h.size af.size,λi ay aZ=>(af.block i (gJ ay h.size) aZ).trans (h.block i ay aZ)⟩
theorem U9(log:Nat)(aT:5<=log)(dh:log<=9):32<=2^log/\2^log<=512:=
 ⟨dy (n:=2) (i:=5) (by omega) aT,dy (n:=2) (j:=9) (by omega) dh⟩
theorem aku{w:ah}{A:a7}{l:ae}(h:Reads w A (aM l))(aZ:0<l.length):∃g off,A=some ⟨g,off,none⟩/\∀j (ar:j<l.length),w.cell? ⟨g,off+j,none⟩=some (.int .i64 (l[j]:Int)):=by
 rw[<-jF]at h;obtain⟨g,off,e,hc⟩:=vq h (by simpa using aZ);exact⟨g,off,e,λj ar=>by have:=hc j (by simpa using ar);simpa using this⟩
namespace am
theorem ajs(l:ae):eC l 0=(0,0):=by cases l<;>simp[eC]
theorem atu:wid 0=0:=by decide +kernel
theorem ajr(x:Nat)(l:ae)(R:Nat)(h:x<=R):eC (x::l) R=(x+(eC l (R-x)).1*2^wid R,wid R+(eC l (R-x)).2):=by
 rw[eC];split
 .next ao=>
  subst ao;obtain rfl:x=0:=by omega
  simp[ajs,atu]
 .rfl
theorem Hr(M x m k H:Nat):M+(x+H*2^k)*2^m=M+x*2^m+H*2^(m+k):=by
 rw[Nat.add_mul,Nat.mul_assoc,<-dI,Nat.add_comm k m,iO]
end am
theorem ajo(w:ah)(b off N n:Nat)(A:a7)(c:Nat)(U:ae)(bT:Nat)(aA:n<=100000)(dT:dL w b off N n)(aj:Reads w A (aM U))(hA:∀a,A=some a->a.block≠b)(aL:dW U bT)
  (hfair:Calls prog 195 #[.slice A U.length c,.int .i64 bT] w λe w'=>e=.returned (.bool true)/\av w w') :
  Calls prog 164 #[.pointer (some ⟨b,off,none⟩),.slice A U.length c,.int .i64 bT] w λe w'=>e=.returned (.bool true)/\dL w' b off (N+(fy U bT).1*2^n) (n+(fy U bT).2)/\w.grownBy w' (some b):=by
 have aT:=aL.low;have dh:=aL.high;have cJ:=U9 bT aT dh;have u6:=aL.len;have hsum:=aL.sum;have qO:IntKind.u32.wrap ((bT:Int)-5)=((bT-5:Nat):Int):=by simp[IntKind.wrap,IntKind.bits,IntKind.signed];omega
 have lw:wrap64 ((bT:Int)-5)=(bT:Int)-5:=ri _ (by omega) (by omega);obtain⟨T,cq⟩:∃T,T=N+(fy U bT).1*2^n:=⟨_,rfl⟩;obtain⟨C,ji⟩:∃C,C=n+(fy U bT).2:=⟨_,rfl⟩;rw[<-cq,<-ji];unfold fy at cq ji;dsimp only at cq ji;obtain⟨S,cD⟩:∃S,S=2^bT:=⟨_,rfl⟩;rw[<-cD]at cq ji cJ hsum;have pA:(2:Int)^bT=(S:Int):=by rw[cD];simp
 have hw64:wrap64 (S:Int)=S:=ri _ (by omega) (by omega);have nL:=I cq;have mG:=I ji;have xK:=I dT;have bj:=I aj;have pQ:=I hA;have IW:=I hfair;have oB:Hid (∀(W:ah) (N n v m:Nat),n<=1000000000->v<4294967296->m<=32->dL W b off N n->Calls prog 99 #[.pointer (some ⟨b,off,none⟩),.int .u32 v,.int .i64 m] W λe w'=>e=.returned (.bool true)/\dL w' b off (N+v%2^m*2^n) (n+m)/\W.grownBy w' (some b)):=I (λW N n v m h1 af aq aK=>D8 b off N n v m W h1 af aq aK);clear cq ji dT aj hA aL hfair cD;go_enter func164,ntmps164
 go_wp2_with fail
 refine IW.out.mono ?_;rintro e aw ⟨rfl,aH⟩;have dm:=I (dj aH (some b));have aeh:=I (xK.out.below aH);have fw:=I (c7 bj.out aH);clear aH;go_wp2_with fail
 refine(oB.out aw N n (bT-5) 3 (by omega) (by omega) (by omega) aeh.out).mono ?_;rintro e aC ⟨rfl,Wg,bp⟩;have du:=I (qd dm.out bp);have aei:=I Wg;have fg:Hid (∀W,aw.grownBy W (some b)->Reads W A (aM U)):=I (λW aF aZ=>by
  obtain⟨g,off,e,hc⟩:=fw.out aZ;refine⟨g,off,e,λj ar=>?_⟩;have h1:=hc j ar;rw[bI ar]at h1 ⊢;exact(World.cell?_of_block (a:=⟨g,off+j,none⟩) (aF.block g (World.block_lt_of_cell? aw _ h1) (λe2=>pQ.out _ e (by injection e2)))).trans h1)
 have acu:=I bp;clear Wg bp qO lw;go_wp2;clear pA hw64;have JM:Hid (∀(x:Nat) (W:ah),x<4294967296->Calls prog 196 #[.int .i64 x] W λe w'=>e=.returned (.int .i64 (am.wid x))/\W=w'):=I T4;go_loopw [7,27] (λq i wr=>∃k R M m:Nat,k<=U.length/\i=.int .i64 k/\q=.int .i64 R/\R=(U.drop k).sum/\R<=512/\m<=n+3+10*k/\Hid (dL wr b off M m)/\Hid (aw.grownBy wr (some b))/\Hid (w.grownBy wr (some b)) /\
  Hid (T=M+(eC (U.drop k) R).1*2^m/\C=m+(eC (U.drop k) R).2)) (λ_ i _=>U.length-(intOf i).toNat)
 case atStart=>
  refine⟨0,S,_,_,by omega,rfl,rfl,hsum.symm,by omega,by omega,aei,acu,du,I ⟨?_,?_⟩⟩
  .rw[nL.out,drop_zero,mod_eq_of_lt (show bT-5<2^3 by omega)];exact am.Hr N (bT-5) n 3 _
  .rw[mG.out,drop_zero];omega
 case round=>
  obtain⟨k,R,M,m,hk,rfl,rfl,cK,avn,hm,dT,a1,C9,htot⟩:=hrel;by_cases a8:k<U.length
  .have aI:=drop_eq_getElem_cons a8;rw[aI,sum_cons]at cK;obtain⟨g,axj,rfl,hc⟩:=aku (fg.out _ a1.out) (by omega);have c0:=hc k a8;have xI:=I htot.out;rw[aI,ajr U[k] (U.drop (k+1)) R (by omega)]at xI;have BI:Hid (R-U[k]=(U.drop (k+1)).sum):=I (by omega);have ai:U[k]<=R:=by omega
   clear hc htot aI cK;generalize U[k]=x at *;have wS:=vB R;have Wd:=qx R 10 (by omega);have qO:IntKind.u32.wrap (x:Int)=x:=by simp[IntKind.wrap,IntKind.bits,IntKind.signed];omega
   have jK:=I (oB.out _ M m x (am.wid R) (by omega) (by omega) (by omega) dT.out);rw[mod_eq_of_lt (show x<2^am.wid R by omega)]at jK;have Mx:((R-x:Nat):Int)=R-(x:Int):=by omega
   have akT:wrap64 ((R:Int)-x)=(R:Int)-x:=ri _ (by omega) (by omega);have fK:Hid (T=M+x*2^m+(eC (U.drop (k+1)) (R-x)).1*2^(m+am.wid R)/\C=m+am.wid R+(eC (U.drop (k+1)) (R-x)).2):=I ⟨by rw[xI.out.1];exact am.Hr _ _ _ _ _,by rw[xI.out.2];dsimp only;omega⟩;clear wS;have fm:=I (JM.out R wr (by omega));generalize am.wid R=wd at *;go_wp2_with fail
   refine fm.out.mono ?_;rintro e w' ⟨rfl,rfl⟩;go_wp2_with fail
   refine jK.out.mono ?_;rintro e a6 ⟨rfl,wT,ct⟩;have zH:=I wT;have jJ:=I (qd a1.out ct);have acB:=I (qd C9.out ct);clear wT ct dT a1 C9;go_wp2;go_roundw
   case rel=>exact⟨k+1,R-x,_,_,by omega,by go_num,by rw[Mx],BI.out,by omega,by omega,zH,jJ,acB,fK⟩
   case measure=>simp[intOf];omega
  .obtain rfl:k=U.length:=by omega
   have fK:=htot.out;rw[drop_length]at fK;simp only[eC,Nat.zero_mul,fX]at fK;obtain⟨rfl,rfl⟩:=fK;go_wp2;go_ret;exact⟨rfl,dT,C9⟩
theorem ahS{A:a7}{c:Nat}{l:List Int}{log:Int}{w:ah}(hl:l.length<=1000000)(cV:∀x∈l,ec x)(mw:ec log)(aj:Reads w A (gB l))(aL:am.Fair l log) :
  Calls prog 195 #[.slice A l.length c,.int .i64 log] w λe w'=>e=.returned (.bool true)/\av w w':=by
 have h1:=NF A c l log w hl cV mw aj;rw[show p9 l log=true from bE aL]at h1;exact h1
theorem ajp(w:ah)(b off N n:Nat)(A:a7)(c:Nat)(l:List Int)(log:Int)(aA:n<=100000)(dT:dL w b off N n)(hl:l.length<=1000000)(cV:∀x∈l,ec x)(mw:ec log)(aj:Reads w A (gB l))(hA:∀a,A=some a->l≠[]->a.block≠b)(aL:am.Fair l log) :
  Calls prog 164 #[.pointer (some ⟨b,off,none⟩),.slice A l.length c,.int .i64 log] w λe w'=>e=.returned (.bool true)/\dL w' b off (N+(fy (l.map Int.toNat) log.toNat).1*2^n) (n+(fy (l.map Int.toNat) log.toNat).2)/\w.grownBy w' (some b):=by
 have yc:=ahS (c:=c) hl cV mw aj aL;have kp:=KK l log aL;have hmap:=Sq l log aL;have r7:(log.toNat:Int)=log:=by have:=aL.1;omega
 have aZ:l≠[]:=by
  rintro rfl;have h1:=kp.sum;have af:=eK log.toNat;simp at h1;omega
 have hX:aM (l.map Int.toNat)=gB l:=by rw[<-jF,hmap]
 have hlen:(l.map Int.toNat).length=l.length:=by simp
 rw[<-hX]at aj;have h:=ajo w b off N n A c (l.map Int.toNat) log.toNat aA dT aj (λa e=>hA a e aZ) kp (by rw[hlen,r7];exact yc);rw[hlen,r7]at h;exact h
theorem atS(c:Nat)(w:ah)(hc:c<256):Calls prog 184 #[.int .u8 c] w λe w'=>e=.returned (.bool (decide (28<=c)))/\w=w':=by
 obtain⟨r,aj⟩:∃r,r=decide (28<=c):=⟨_,rfl⟩;have d1:decide (28<=c)=r:=aj.symm;have d2:decide ((28:Int)<=c)=r:=by rw[aj];exact decide_eq_decide.2 (by omega)
 rw[<-aj];clear aj;go_enter func184,ntmps184
 go_wp2;go_ret;exact⟨rfl,rfl⟩
theorem ahG:∀args w,(callFunc 184 args).run prog w=.ok (.enter 184 args) w:=enters_of func184 (by kernel_rfl) rfl
theorem atT(A:a7)(c:Nat)(l:ae)(w:ah)(hl:l.length<=1000000)(au:∀x∈l,x<256)(aj:Reads w A (aO l)) :
  Calls prog 212 #[.slice A l.length c,.func (.func 184) #[] #[]] w λe w'=>(∃r:Int,e=.returned (.int .i64 r)/\decide (0<=r)=decide (¬∀x∈l,x<28))/\w=w':=by
 have gj:=I (λa (h:a<256)=>atS a w h);have mj:=ahG;have bj:=I aj;have ce:=I au;obtain⟨n,aA⟩:∃n,n=l.length:=⟨_,rfl⟩;have b0:=I aA;rw[<-aA]at hl ⊢;clear aj au aA;go_enter func212,ntmps212
 go_wp2;go_loopw [5,8] (λ_ i wr=>wr=w/\∃k:Nat,i=.int .i64 k/\k<=n/\Hid (∀x∈l.take k,x<28)) (λ_ i _=>n-(intOf i).toNat)
 case atStart=>exact⟨rfl,0,rfl,zero_le _,I (by simp)⟩
 case round=>
  obtain⟨rfl,k,rfl,hk,hall⟩:=hrel;by_cases a8:k<n
  .have hkl':k<l.length:=by rw[<-b0.out];exact a8
   obtain⟨g,off,rfl,hc⟩:=m9 bj.out (by intro e;rw[e]at hkl';simp at hkl');have c1:=hc k hkl';have ai:=ce.out l[k] (b8 hkl');have j2:=I (b8 hkl');have hE:Hid (l.take (k+1)=l.take k++[l[k]]):=I (by rw[take_add_one,bI hkl'];rfl);clear hc;generalize l[k]=x at *;have cY:=I (gj.out x ai);by_cases ej:28<=x
   .rw[bE ej]at cY;have b4:Hid (decide (0<=(k:Int))=decide (¬∀y∈l,y<28)):=I (by
     rw[bE (by omega:(0:Int)<=k),bE];exact λh=>by have:=h x j2.out;omega)
    clear hall ej;go_wp2_with fail
    refine cY.out.mono ?_;rintro e w' ⟨rfl,rfl⟩;go_wp2;go_ret;exact⟨⟨_,rfl,b4⟩,rfl⟩
   .rw[bG ej]at cY;have rq:Hid (∀y∈l.take (k+1),y<28):=I (λy hy=>by
     rw[hE.out]at hy;rcases List.mem_append.1 hy with hy|hy
     .exact hall.out y hy
     .rw[List.mem_singleton.1 hy];omega)
    clear hall ej;go_wp2_with fail
    refine cY.out.mono ?_;rintro e w' ⟨rfl,rfl⟩;go_wp2;go_roundw
    case rel=>exact⟨trivial,k+1,by go_num,by omega,rq⟩
    case measure=>simp[intOf];omega
  .have kG:k=n:=by omega
   have b4:Hid (decide (0<=(-1:Int))=decide (¬∀y∈l,y<28)):=I (by
    have h:=hall.out;rw[kG,b0.out,take_length]at h;rw[bG (by omega),bG (λhh=>hh h)])
   have uC:decide ((k:Int)<n)=false:=aU;clear hall kG;go_wp2;go_ret;exact⟨⟨_,rfl,b4⟩,rfl⟩
theorem atO(A:a7)(c:Nat)(l:ae)(w:ah)(hl:l.length<=1000000)(au:∀x∈l,x<256)(aj:Reads w A (aO l)) :
  Calls prog 183 #[.slice A l.length c,.func (.func 184) #[] #[]] w λe w'=>e=.returned (.bool (decide (¬∀x∈l,x<28)))/\w=w':=by
 have sW:=I (atT A c l w hl au aj);clear au aj;generalize decide (¬∀x∈l,x<28)=r at *;go_enter func183,ntmps183
 go_wp2_with fail
 refine sW.out.mono ?_;rintro e w' ⟨⟨z,rfl,aQ⟩,rfl⟩;go_wp2;go_ret;exact⟨rfl,rfl⟩
theorem aoV(A:a7)(c:Nat)(l:ae)(w:ah)(hl:l.length<=1000000)(au:∀x∈l,x<256)(aj:Reads w A (aO l)) :
  Calls prog 147 #[.slice A l.length c] w λe w'=>e=.returned (.bool (decide (∀x∈l,x<28)))/\w=w':=by
 have ay:=atO A c l w hl au aj;have aI:decide (¬∀x∈l,x<28)=!decide (∀x∈l,x<28):=decide_not;rw[aI]at ay;have sW:=I ay;clear au aj ay aI;generalize decide (∀x∈l,x<28)=r at *;go_enter func147,ntmps147
 go_wp2_with fail
 refine sW.out.mono ?_;rintro e w' ⟨rfl,rfl⟩;cases r <;>
 .go_wp2;go_ret;exact⟨rfl,rfl⟩
theorem aah(b pos:Nat)(bs:ae)(w:ah)(ap:bs.length<=100000)(cs:∀x∈bs,x<256)(ax:pos<=8*bs.length)(h:er w b 0 bs pos) :
  Calls prog 151 #[.pointer (some ⟨b,0,none⟩)] w λe w'=>e=.returned (.bool (decide (8*bs.length-pos<8/\bd bs/2^pos=0)))/\w.grownBy w' (some b):=by
 obtain⟨m,hm⟩:∃m,m=8*bs.length-pos:=⟨_,rfl⟩;have hle:Calls prog 188 #[.pointer (some ⟨b,0,none⟩)] w λe w'=>e=.returned (.int .i64 m)/\∃k,w'=w.drewN k:=by rw[hm];exact GV b 0 bs pos w (by omega) ax h
 have pe:=I hle;rw[<-hm];by_cases e8:m<8
 .have aE:=λk=>(tO b 0 bs pos m (w.drewN k) (by omega) cs (by omega) (by omega) (h.drewN k)).mono λe w' (hh:_/\_/\_)=>(⟨hh.1,qd (qa (dg w (some b)) k) hh.2.2⟩:_/\w.grownBy w' (some b))
  have aD:bd bs/2^pos%2^m=bd bs/2^pos:=by
   apply mod_eq_of_lt
   have h1:=o4 bs cs;rw[h0,show 8*bs.length=m+pos by omega,dI]at h1;exact(div_lt_iff_lt_mul (Nat.pow_pos (by omega))).2 h1
  rw[aD]at aE;have fK:=I aE;clear aE;generalize bd bs/2^pos=v at *;have d1:decide ((m:Int)<8)=true:=cf;have d2:decide (m<8)=true:=bE e8;obtain⟨r,aj⟩:∃r,r=decide (m<8/\v=0):=⟨_,rfl⟩;have d3:((v:Int)==0)=r:=by
   rw[aj];by_cases DF:v=0
   .subst DF;simp[e8]
   .rw[bG (λhh=>DF hh.2),beq_eq_false_iff_ne];omega
  rw[<-aj];clear hle aD h cs hm aj e8;go_enter func151,ntmps151
  go_wp2_with fail
  refine pe.out.mono ?_;rintro e w' ⟨rfl,k,rfl⟩;go_wp2_with fail
  refine(fK.out k).mono ?_;rintro e aC ⟨rfl,bp⟩;have du:=I bp;clear bp;go_wp2;go_ret;exact⟨rfl,du⟩
 .have aE:∀k,Calls prog 177 #[.pointer (some ⟨b,0,none⟩),.int .i64 m] (w.drewN k) λe w'=>(∃(v:Nat) (z:Bool),e=.returned (.tuple #[.int .u32 v,.bool z]))/\w.grownBy w' (some b):=λk=>by
   by_cases KX:m<=32
   .exact(tO b 0 bs pos m (w.drewN k) (by omega) cs KX (by omega) (h.drewN k)).mono λe w' ⟨he,_,aF⟩=>⟨⟨_,_,he⟩,qd (qa (dg w (some b)) k) aF⟩
   .exact(ZN ⟨b,0,none⟩ (m:Int) (w.drewN k) (Or.inr (by omega))).mono λe w' ⟨he,hw⟩=>⟨⟨0,false,he⟩,hw▸qa (dg w (some b)) k⟩
  have fK:=I aE;have d1:decide ((m:Int)<8)=false:=aU;have d2:decide (m<8)=false:=bG e8;have d3:decide (m<8/\bd bs/2^pos=0)=false:=bG (λhh=>e8 hh.1);rw[d3];clear hle aE h cs hm e8 d3;go_enter func151,ntmps151
  go_wp2_with fail
  refine pe.out.mono ?_;rintro e w' ⟨rfl,k,rfl⟩;go_wp2_with fail
  refine(fK.out k).mono ?_;rintro e aC ⟨⟨v,z,rfl⟩,bp⟩;have du:=I bp;clear bp;go_wp2;go_ret;exact⟨rfl,du⟩
def UD:Value->Nat
|.slice _ n _=>n
|_=>0
theorem akh{w w':ah}{base b:Nat}{e:TypeId}{v:Value}{n:Nat}{xs:b1}(h:w.ownsRow base e 1 v n xs)(aF:w.grownBy w' (some b))(ak:b<base):w'.ownsRow base e 1 v n xs:=
 h.kept aF (by
  cases aD:v.ownBlock with
 |none=>exact .inl rfl
 |some x=>exact .inr (λe=>by injection e with e;have:=(h.lt x aD).1;omega))
theorem UZ{w:ah}{base:Nat}{e:TypeId}{v:Value}{n:Nat}{xs:b1}(h:w.ownsRow base e 1 v n xs):UD v=n:=by
 rcases h.2 with⟨rfl,ao⟩|⟨g,cap,eW,rfl,_⟩
 .exact ao.symm
 .rfl
def JU(hp:Nat)(w':ah)(e:Ending):Option (ae×Nat×Nat)->Prop
|none=>∃A c,e=.returned (.tuple #[.slice A 0 c,.int .i64 0,.bool false])
|some t=>∃A c,e=.returned (.tuple #[.slice A t.1.length c,.int .i64 (t.2.1:Int),.bool true])/\Reads w' A (aM t.1)/\∀a,A=some a->hp<=a.block
def aeC(hp:Nat)(w':ah)(e:Ending)(b off:Nat)(bs:ae):Option (ae×Nat)->Prop
|none=>e=.returned (.tuple #[.slice none 0 0,.bool false])
|some t=>∃A c,e=.returned (.tuple #[.slice A t.1.length c,.bool true])/\(Reads w' A (aM t.1)/\∀a,A=some a->hp<=a.block)/\er w' b off bs (8*bs.length-t.2)
namespace am
theorem ar8(f N len:Nat):takeN f 0 N len=some ([],len):=by cases f<;>simp[takeN]
theorem ar6(f R N len:Nat)(ao:0<R)(h:len<wid R):takeN f R N len=none:=by
 cases f with
|zero=>rw[takeN,az (by omega)]
|succ f=>rw[takeN,az (by omega),aB h]
theorem ar5(f R N len:Nat)(ao:0<R)(h:R<N%2^wid R):takeN f R N len=none:=by
 cases f with
|zero=>rw[takeN,az (by omega)]
|succ f=>rw[takeN,az (by omega)];split<;>rfl
theorem ar7(f R V p L:Nat)(ao:0<R)(ax:p+wid R<=L)(h:V/2^p%2^wid R<=R) :
  takeN (f+1) R (V/2^p) (L-p)=(takeN f (R-V/2^p%2^wid R) (V/2^(p+wid R)) (L-(p+wid R))).map λt=>(V/2^p%2^wid R::t.1,t.2):=by
 rw[takeN,az (by omega),az (by omega),az (by omega),jX,<-dI,Nat.sub_sub]
end am
theorem ajn(w:ah)(b off pos rest:Nat)(bs:ae)(ap:bs.length<=100000)(cs:∀x∈bs,x<256)(ax:pos<=8*bs.length)(hrest:rest<=512)(cO:er w b off bs pos) :
  Calls prog 232 #[.pointer (some ⟨b,off,none⟩),.int .i64 rest] w λe w'=>aeC w.heap.size w' e b off bs (am.takeN 256 rest (bd bs/2^pos) (8*bs.length-pos))/\w.grownBy w' (some b):=by
 obtain⟨i0,ay,bC,bL,bz⟩:=info_parts oa;obtain⟨r,aj⟩:∃r,r=am.takeN 256 rest (bd bs/2^pos) (8*bs.length-pos):=⟨_,rfl⟩;rw[<-aj];have bj:=I aj;have oE:=I cO;have eu:b<w.heap.size:=cO.2.2.2;have JM:Hid (∀(x:Nat) (W:ah),x<4294967296->Calls prog 196 #[.int .i64 x] W λe w'=>e=.returned (.int .i64 (am.wid x))/\W=w'):=I T4;have ES:Hid (∀W p m,p<=8*bs.length->m<=32->8*bs.length-p<m->er W b off bs p->Calls prog 177 #[.pointer (some ⟨b,off,none⟩),.int .i64 m] W λe w'=>e=.returned (.tuple #[.int .u32 0,.bool false])/\∃k,w'=W.drewN k):=I (λW p m h1 af aq aK=>Eu b off bs p m W (by omega) h1 af aq aK);have vW:Hid (∀W p m,m<=32->p+m<=8*bs.length->er W b off bs p->Calls prog 177 #[.pointer (some ⟨b,off,none⟩),.int .i64 m] W λe w'=>e=.returned (.tuple #[.int .u32 ((bd bs/2^p%2^m:Nat):Int),.bool true])/\er w' b off bs (p+m)/\W.grownBy w' (some b)):=I (λW p m h1 af aq=>tO b off bs p m W (by omega) cs h1 af aq);clear aj cO cs;generalize bd bs=V at *;generalize bR:8*bs.length=L at *;have o9:=I bR;clear bR;go_enter func232,ntmps232
 go_wp2;go_loopw [1,6] (λq u wr=>∃(R p:Nat) (acc:ae),q=.int .i64 R/\R<=512/\p<=L/\acc.length<=256/\w.heap.size<=wr.heap.size/\Hid (wr.ownsRow w.heap.size 3 1 u acc.length (aM acc))/\Hid (er wr b off bs p)/\Hid (w.grownBy wr (some b)) /\
  Hid (r=(am.takeN (256-acc.length) R (V/2^p) (L-p)).map λt=>(acc++t.1,t.2))) (λ_ u _=>256-UD u)
 case atStart=>
  refine⟨rest,pos,[],rfl,hrest,ax,by simp,Nat.le_refl _,I (World.ownsRow_nil w _ _ _),oE,I (dg _ _),I ?_⟩;rw[bj.out];cases am.takeN 256 rest (V/2^pos) (L-pos)<;>simp_all
 case round=>
  obtain⟨R,p,acc,rfl,cK,akk,hacc,bB,hown,cO,aF,hres⟩:=hrel;obtain⟨eA,c1,rfl,bt,uH⟩:=kJ hown.out;have ep:=I bt;have Ih:=I (λa e=>(uH a e).1);clear uH;have hlen:=UZ hown.out;have Hlen:=I hlen;clear bt hlen;by_cases Ag:R=0
  .subst Ag;have cc:=I hres.out;rw[ar8]at cc;clear hres hown;go_wp2;go_ret2;rw[cc.out];refine⟨⟨eA,c1,?_,?_,?_⟩,aF⟩
   .simp
   .exact⟨by simpa using ep.out,Ih.out⟩
   .rw[o9.out,show L-(L-p)=p by omega];exact cO.out
  .have Wd:=qx R 10 (by omega);have fm:=I (JM.out R wr (by omega));have d0:decide ((0:Int)<R)=true:=cf;by_cases lq:L-p<am.wid R
   .have cc:Hid (r=none):=I (by rw[hres.out,ar6 _ _ _ _ (by omega) lq];rfl);have br:=I (ES.out wr p (am.wid R) akk (by omega) lq cO.out);clear hres hown lq cO;generalize am.wid R=wd at *;go_wp2_with fail
    refine fm.out.mono ?_;rintro e w' ⟨rfl,rfl⟩;go_wp2_with fail
    refine br.out.mono ?_;rintro e w' ⟨rfl,q,rfl⟩;go_wp2;go_ret2;rw[cc.out];exact⟨rfl,qa aF.out q⟩
   .have fK:=I (vW.out wr p (am.wid R) (by omega) (by omega) cO.out);have aD:=mod_lt (V/2^p) (eK (am.wid R));have avk:2^am.wid R<=2^10:=dy (by omega) Wd;have auP:(2:Nat)^10=1024:=by decide
    by_cases ai0:R<V/2^p%2^am.wid R
    .have cc:Hid (r=none):=I (by rw[hres.out,ar5 _ _ _ _ (by omega) ai0];rfl);clear hres hown;generalize V/2^p%2^am.wid R=x at *;generalize am.wid R=wd at *;generalize 2^wd=P at *;have qN:IntKind.i64.wrap (x:Int)=x:=IntWalk.i64_in _ (by omega);have d1:decide ((R:Int)<x)=true:=cf;go_wp2_with fail
     refine fm.out.mono ?_;rintro e w' ⟨rfl,rfl⟩;go_wp2_with fail
     refine fK.out.mono ?_;rintro e a6 ⟨rfl,qY,ct⟩;have jJ:=I (qd aF.out ct);clear qY ct;go_wp2;go_ret2;rw[cc.out];exact⟨rfl,jJ⟩
    .by_cases hfull:acc.length=256
     .have cc:Hid (r=none):=I (by rw[hres.out,hfull,am.takeN,az Ag];rfl);clear hres hown;generalize V/2^p%2^am.wid R=x at *;generalize am.wid R=wd at *;generalize 2^wd=P at *;have qN:IntKind.i64.wrap (x:Int)=x:=IntWalk.i64_in _ (by omega);have d1:decide ((R:Int)<x)=false:=aU;rw[hfull]at *;go_wp2_with fail
      refine fm.out.mono ?_;rintro e w' ⟨rfl,rfl⟩;go_wp2_with fail
      refine fK.out.mono ?_;rintro e a6 ⟨rfl,qY,ct⟩;have jJ:=I (qd aF.out ct);clear qY ct;go_wp2;go_ret2;rw[cc.out];exact⟨rfl,jJ⟩
     .have b4:=I hres.out;rw[show 256-acc.length=(256-(acc.length+1))+1 by omega,ar7 _ _ _ _ _ (by omega) (by omega) (by omega)]at b4;clear hres;generalize V/2^p%2^am.wid R=x at *;generalize am.wid R=wd at *;generalize 2^wd=P at *;generalize aA:acc.length=n at *;have b0:=I aA;clear aA;have qN:IntKind.i64.wrap (x:Int)=x:=IntWalk.i64_in _ (by omega);have d1:decide ((R:Int)<x)=false:=aU;have d2:((n:Int)==256)=false:=cz
      have Mx:((R-x:Nat):Int)=R-(x:Int):=by omega
      have akT:wrap64 ((R:Int)-x)=(R:Int)-x:=ri _ (by omega) (by omega);go_wp2_with fail
      refine fm.out.mono ?_;rintro e w' ⟨rfl,rfl⟩;go_wp2_with fail
      refine fK.out.mono ?_;rintro e a6 ⟨rfl,qY,ct⟩;have jJ:=I (qd aF.out ct);have B8:=I qY;have pg:=I (akh hown.out ct eu);have si:=ct.size;clear qY ct cO aF hown;go_wp2_with (at_builtin;refine wpList_append_own _ rfl _ _ 112 rfl w.heap.size 3 i0 (.int .i64 0) 1 8 underlying112 ay bC bL bz rfl (by decide) _ _ _ rfl (pg.out.alloc _) ⟨a6.heap.size,0,none⟩ 1 1 [.int .i64 x] rfl rfl ?d1 ?d2 ?d3 ?d4 ?d5 ?_)
      case d1=>
       intro j u ar;match j,ar with
      |0,ar=>simp at ar;subst ar;simp[Addr.add]
      case d2=>intro u hu;simp at hu;subst hu;rfl
      case d3=>unfold maxLen;omega
      case d4=>omega
      case d5=>simp;omega
      intro gN dk de di _;have tq:a6.grownBy (a6.alloc (.cells #[.int .i64 x] 3)) (some b):=im (dg _ _) _;have lT:(Value.slice eA n c1).ownBlock≠some b:=λe=>by have:=(pg.out.lt b e).1;omega
      have Jt:=I (er.keep (er.keep B8.out (im (dg a6 none) (.cells #[.int .i64 x] 3)) (by simp)) di lT);have xt:Hid (w.grownBy dk (some b)):=I (by
       have h1:=qd jJ.out tq;refine⟨di.os.trans h1.os,di.tape.trans h1.tape,di.output.trans h1.output,dl h1.size di.size,λi yi aZ=>?_⟩;rw[<-h1.block i yi aZ];exact di.block i (gJ yi h1.size) (λe=>by have:=(pg.out.lt i e.symm).1;omega))
      have e:aM acc++[Value.int .i64 x]=aM (acc++[x]):=by simp[aM]
      rw[e]at de;have r6:=UZ de;have Dw:w.heap.size<=dk.heap.size:=xt.out.size;have js:=I de;have BQ:Hid ((acc++[x]).length=n+1):=I (by rw[aY,b0.out];rfl);clear de di e tq lT;go_wp2;go_roundw
      case rel=>
       refine⟨R-x,p+wd,acc++[x],by rw[Mx],by omega,by omega,by rw[BQ.out];omega,Dw,by rw[BQ.out];exact js,Jt,xt,I ?_⟩;rw[b4.out,BQ.out];cases am.takeN (256-(n+1)) (R-x) (V/2^(p+wd)) (L-(p+wd))with
      |none=>rfl
      |some t=>simp
      case measure=>rw[r6];show 256-(n+1)<256-n;omega
theorem ajt(w:ah)(b off pos:Nat)(bs:ae)(ap:bs.length<=100000)(cs:∀x∈bs,x<256)(ax:pos<=8*bs.length)(cO:er w b off bs pos) :
  Calls prog 223 #[.pointer (some ⟨b,off,none⟩)] w λe w'=>JU w.heap.size w' e (am.takeA (bd bs/2^pos) (8*bs.length-pos))/\w.grownBy w' (some b) /\
   ∀t,am.takeA (bd bs/2^pos) (8*bs.length-pos)=some t->er w' b off bs (8*bs.length-t.2.2):=by
 unfold am.takeA;by_cases lq:8*bs.length-pos<3
 .rw[aB lq];have br:=I (Eu b off bs pos 3 w (by omega) ax (by omega) lq cO);clear cO cs;go_enter func223,ntmps223
  go_wp2_with fail
  refine br.out.mono ?_;rintro e w' ⟨rfl,q,rfl⟩;go_wp2;go_ret3
  exact⟨⟨_,_,rfl⟩,qa (dg _ _) q,λt h=>by cases h⟩
 .rw[az lq];have aE:=tO b off bs pos 3 w (by omega) cs (by omega) (by omega) cO;have hm:=mod_lt (bd bs/2^pos) (eK 3);have e8:(2:Nat)^3=8:=by decide
  by_cases aK:4<bd bs/2^pos%2^3
  .rw[aB aK];have fK:=I aE;clear aE cO cs;generalize bd bs/2^pos%2^3=x at *;have qN:IntKind.i64.wrap (x:Int)=x:=IntWalk.i64_in _ (by omega);have akP:wrap64 (5+(x:Int))=5+(x:Int):=ri _ (by omega) (by omega);have d1:decide ((9:Int)<5+(x:Int))=true:=cf;go_enter func223,ntmps223
   go_wp2_with fail
   refine fK.out.mono ?_;rintro e w' ⟨rfl,_,aF⟩;have jb:=I aF;clear aF;go_wp2;go_ret3
   exact⟨⟨_,_,rfl⟩,jb,λt h=>by cases h⟩
  .rw[az aK];have cJ:=U9 (5+bd bs/2^pos%2^3) (by omega) (by omega);have Jh:=I (λW (h:er W b off bs (pos+3))=>ajn W b off (pos+3) (2^(5+bd bs/2^pos%2^3)) bs ap cs (by omega) cJ.2 h);rw[dI (m:=pos) (n:=3),<-jX,<-Nat.sub_sub]at Jh;have fK:=I aE;clear aE cO cs;generalize aj:am.takeN 256 (2^(5+bd bs/2^pos%2^3)) (bd bs/2^pos/2^3) (8*bs.length-pos-3)=r at *;clear aj;generalize bd bs/2^pos%2^3=x at *;have qN:IntKind.i64.wrap (x:Int)=x:=IntWalk.i64_in _ (by omega);have akP:wrap64 (5+(x:Int))=5+(x:Int):=ri _ (by omega) (by omega);have d1:decide ((9:Int)<5+(x:Int))=false:=aU;have d2:decide (5+(x:Int)<0)=false:=aU;have awO:(5+(x:Int)).toNat=5+x:=by omega
   have pA:(2:Int)^(5+x)=((2^(5+x):Nat):Int):=by simp
   have aax:Hid (5+(x:Int)=((5+x:Nat):Int)):=I (by omega);obtain⟨S,cD⟩:∃S,S=2^(5+x):=⟨_,rfl⟩;rw[<-cD]at cJ pA Jh;have hw64:wrap64 (S:Int)=S:=ri _ (by omega) (by omega);clear cD;go_enter func223,ntmps223
   go_wp2_with fail
   refine fK.out.mono ?_;rintro e aw ⟨rfl,Vv,a1⟩;have sX:=I (Jh.out aw Vv);have dm:=I a1;have nQ:=I a1.size;clear Vv a1;cases r with
  |none=>
    go_wp2_with fail
    refine sX.out.mono ?_;rintro e aC ⟨rfl,bp⟩;have du:=I (qd dm.out bp);clear bp;go_wp2;go_ret3
    exact⟨⟨_,_,rfl⟩,du,λt h=>by cases h⟩
  |some t=>
    go_wp2_with fail
    refine sX.out.mono ?_;rintro e aC ⟨⟨A,c,rfl,bt,qX⟩,bp⟩;have du:=I (qd dm.out bp);have ep:=I bt;have xF:=I qX;clear bp bt qX;go_wp2;go_ret3
    refine⟨⟨A,c,?_,ep.out.1,λa e=>dl nQ.out (ep.out.2 a e)⟩,du,λt h=>?_⟩
    .rw[aax.out];rfl
    .injection h with h
     subst h;exact xF.out
end Go.Proofs.YtgiicohbigiapaaGreat
