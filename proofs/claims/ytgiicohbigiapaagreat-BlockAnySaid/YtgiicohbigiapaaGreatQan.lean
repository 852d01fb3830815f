/- Contracts. -/
import Derived.Test.YtgiicohbigiapaaGreatQae
import Derived.Test.YtgiicohbigiapaaGreatQaj
import Derived.Test.YtgiicohbigiapaaGreatQz1
import Derived.Test.YtgiicohbigiapaaGreatQz0
set_option maxHeartbeats 4000000
set_option maxRecDepth 100000
open Go.Proofs.Tryz Go.Proofs.YtgiicohbigiapaaGreat.ao List Nat Option
namespace Go.Proofs.YtgiicohbigiapaaGreat
open Go.RowKit
theorem aai{w:ai}{g off:Nat}{xs:b3}(h:Reads w (some ⟨g,off,none⟩) xs)(aX:xs≠[]):g<w.heap.size:=by
 obtain⟨fd,off',e,hc⟩:=h aX;injection e with e
 injection e with aF e2
 subst aF e2;have am:0<xs.length:=List.length_pos_iff.2 aX;have h1:=hc 0 am;rw[bH am]at h1;exact World.block_lt_of_cell? w _ h1
theorem apL(A:a7)(c:Nat)(bs:ae)(w:ai)(hl:bs.length<=10000)(ak:∀x∈bs,x<256)(aj:Reads w A (aN bs)) :
  (nz bs=none/\Calls prog 190 #[.slice A bs.length c] w λe w'=>e=.returned (.tuple #[.slice none 0 0,.bool false])/\Below w.heap.size w w') \/
  ∃M L,nz bs=some (M,L)/\Calls prog 190 #[.slice A bs.length c] w λe w'=>∃de df,e=.returned (.tuple #[.slice de L df,.bool true])/\L<=df/\df<=maxLen/\Reads w' de (aM (ao.bitsOf M L))/\Below w.heap.size w w':=by
 rcases eq_nil_or_concat bs with rfl | ⟨front,b,e⟩
 .exact .inl ⟨by simp[nz],(apM A c w).mono λe w' ⟨he,hw⟩=>⟨he,by subst hw;exact Below.refl _ _⟩⟩
 .rw[concat_eq_append]at e;have hlen:bs.length=front.length+1:=by rw[e,aY,length_singleton]
  have hlast:bs[front.length]'(by omega)=b:=by subst e;simp
  have jQ:bs.getLast?.getD 0=b:=by rw[e,getLast?_append,getLast?_singleton];rfl
  obtain⟨g,off,rfl,hc⟩:=nA aj (by intro h;rw[h]at hlen;simp at hlen);have aD:=aai aj (by intro h;have:=congrArg List.length h;rw[jn,hlen,length_nil]at this;omega);rcases eq_zero_or_pos b with am | am
  .refine .inl ⟨by unfold nz;rw[aA (by rw[jQ,am])],?_⟩;have h1:=hc front.length (by omega);rw[hlast,am]at h1;rw[hlen];exact(apO g off front.length c w (by omega) h1).mono λe w' ⟨he,hw⟩=>⟨he,by subst hw;exact Below.refl _ _⟩
  .have dg:b≠0:=by omega
   obtain⟨ca,YN,aC⟩:=P4 front b (λx ah=>ak x (by rw[e];exact mem_append_left _ ah)) (ak b (by rw[e];simp)) dg;rw[<-e]at aC;have vN:=I6 _ _ aC;refine .inr ⟨_,_,by unfold nz;rw[ay (by rw[jQ];exact dg)],?_⟩;rw[vN];generalize 8*front.length+(Lib.bitLen b-1)=top at aC;have fj:top<8*(front.length+1):=by
    have h1:=(x3.1 aC).1;have af:=po bs ak;rw[hlen,ib]at af;rcases eP top (8*(front.length+1))with aq | aq
    .exact aq
    .have:=dD (n:=2) (by omega) aq;omega
   rw[hlen];refine(apN g off front.length c top bs b w (by omega) ak dg hlen hlast aj aD aC fj).mono λe w' ⟨de,df,he,h1,af,hrest,hbel⟩=>⟨de,df,he,h1,af,?_,hbel⟩
   intro aX;have am:0<top:=by
    rcases eq_zero_or_pos top with aq | aq
    .subst aq;simp[ao.bitsOf,aM]at aX
    .exact aq
   rcases hrest with aq | ⟨fd,off',e',_,_,hcell⟩
   .omega
   .refine⟨fd,off',e',λj ar=>?_⟩;rw[gw,hf]at ar;rw[hcell j ar,ja _ j (by rw[hf];exact ar),l3,Ib _ _ _ ar]
namespace ao
def syms(U:ae)(log K:Nat):ae:=(mS U log K).map (·.1)
theorem I1(U:ae)(log K:Nat):(syms U log K).length=2^log:=by simp[syms,Iu]
theorem arG(U:ae)(log:Nat):syms U log 0=List.replicate (2^log) 0:=by simp[syms,ZY]
theorem arE(U:ae)(log K s:Nat)(aR:5<=log)(dm:log<=9)(hK:K<2^log)(ap:(oP 0 U)[K]?=some s):syms U log (K+1)=(syms U log K).set (gU log K) s:=by
 obtain⟨h,e⟩:=ZX U log K s aR dm hK ap;unfold syms;rw[e,map_set]
theorem arD(U:ae)(log:Nat):syms U log (2^log)=e9 U log:=by
 unfold syms e9 mS;rw[List.map_map];apply map_congr_left
 intro p _;simp[N6]
theorem aq8(a S:Nat):((a:Int)+((S:Int)/2+(S:Int)/8+3))%(S:Int)=(((a+(S/2+S/8+3))%S:Nat):Int):=by
 rw[Int.natCast_emod];congr 1
end ao
theorem akR:(prog.info? 5).map (λi=>(i.zero,i.size,i.bytes))=some (some (.int .u8 0),1,1):=by kernel_rfl
theorem ar9(A:a7)(c:Nat)(U:ae)(log:Nat)(w:ai)(aL:ec U log)(aj:Reads w A (aM U)) :
  Calls prog 197 #[.slice A U.length c,.int .i64 ((2^log:Nat):Int)] w λe w'=>∃g,e=.returned (.slice (some ⟨g,0,none⟩) (2^log) (2^log))/\w.heap.size<=g/\Row w' g 5 (aN (ao.e9 U log))/\Below w.heap.size w w':=by
 obtain⟨i0,ax,bB,bK,bw⟩:=info_parts akR;have D7:=aL.low;have D8:=aL.high;have hlen:=aL.len;obtain⟨S,cu⟩:∃S,S=2^log:=⟨_,rfl⟩;have aix:32<=S:=by rw[cu];exact dD (n:=2) (by omega) D7
 have U4:S<=512:=by rw[cu];exact dD (n:=2) (by omega) D8
 have hsum:U.sum=S:=by rw[cu];exact aL.sum
 have h8:∀s (h:s<U.length),∃g off,A=some ⟨g,off,none⟩/\w.cell? ⟨g,off+s,none⟩=some (.int .i64 (U[s]:Int))/\g<w.heap.size:=λs h=>by
  obtain⟨g,off,e,hc⟩:=aj (by intro e;have:=congrArg List.length e;rw[gw,length_nil]at this;omega);have h1:=hc s (by rw[gw];exact h);rw[ja U s h]at h1;exact⟨g,off,e,h1,World.block_lt_of_cell? w _ h1⟩
 have oe:=I h8;have cI:=I cu;have r6:=I hsum;clear aL aj h8 cu hsum;obtain⟨g0,hW⟩:∃g,g=w.heap.size:=⟨_,rfl⟩;have fA:=I hW;clear hW;rw[<-cI.out];go_enter func197,ntmps197
 go_wp2_with (at_make;refine wpList_make_full _ rfl _ _ 87 rfl w.heap.size 5 i0 (.int .u8 0) 1 underlying87 ax bB bK .i64 .i64 _ _ S rfl rfl ?c1 ?c1 ?c2 ?c3 ?c4 ?_)
 case c1=>rfl
 case c2=>first | omega | (rw[bw];omega)
 case c3=>unfold maxLen;omega
 try case c4=>exact Nat.le_refl _
 intro au hown1 aZ;have aH:=k8 aZ;have kS:=E7 hown1;rw[<-fA.out]at kS ⊢;have cd:Row au g0 5 (aN (ao.syms U log 0)):=by rw[arG,<-cI.out];exact kS
 have aK:=I aH;have dx:=I cd;clear hown1 aZ kS aH cd ax bB bK bw;go_wp2;go_loopw [7,20] (λa s wr=>∃ct:Nat,ct<=U.length/\a=.int .i64 (gU log (U.take ct).sum:Int)/\s=.int .i64 ct/\Hid (Row wr g0 5 (aN (ao.syms U log (U.take ct).sum)))/\Hid (Below w.heap.size w wr)) (λ_ s _=>U.length-(intOf s).toNat)
 case atStart=>exact⟨0,by omega,by simp[gU],rfl,I (by rw[take_zero,sum_nil];exact dx),aK⟩
 case round=>
  obtain⟨ct,me,rfl,rfl,hrow,hbel⟩:=hrel;clear dx aK;by_cases av:ct<U.length
  .obtain⟨g,off,rfl,hcell,jQ⟩:=oe.out ct av;obtain⟨K,hK⟩:∃K,K=(U.take ct).sum:=⟨_,rfl⟩;have yW:(U.take (ct+1)).sum=K+U[ct]:=by rw[gb av,sum_append_nat,hK];simp
   have L6:K+U[ct]<=S:=by
    rw[<-yW,<-r6.out,<-gA (ct+1) U,sum_append_nat];simp
   have iG:∀k,k<U[ct]->(oP 0 U)[K+k]?=some ct:=λk hk=>by
    have h1:=abz U 0 ct k av hk;rw[eH,<-hK]at h1;exact h1
   rw[<-hK]at hrow ⊢;have gH:=I iG;have yg:=I yW;have c0:=(hbel.out.cell (p:=⟨g,off+ct,none⟩) jQ).trans hcell;clear iG yW hK hcell;generalize U[ct]=n at gH yg L6 c0;have ajR:n<=512:=by omega
   go_wp2;clear c0;go_loopw [7,26] (λa k wr=>∃dH:Nat,dH<=n/\a=.int .i64 (gU log (K+dH):Int)/\k=.int .i64 dH/\Hid (Row wr g0 5 (aN (ao.syms U log (K+dH))))/\Hid (Below w.heap.size w wr)) (λ_ k _=>n-(intOf k).toNat)
   case atStart=>exact⟨0,by omega,rfl,rfl,hrow,hbel⟩
   case round=>
    obtain⟨dH,Bo,rfl,rfl,hrow2,jy⟩:=hrel;clear hrow hbel;by_cases lj:dH<n
    .have cm:gU log (K+dH)<S:=by rw[cI.out];exact Ix log _
     have gS:=arE U log (K+dH) ct D7 D8 (by rw[<-cI.out];omega) (gH.out dH lj);have rr:=Z6 log (K+dH);rw[<-cI.out]at rr;have aQ:zU log=S/2+S/8+3:=by unfold zU;rw[<-cI.out]
     rw[aQ,show K+dH+1=K+(dH+1) by omega]at rr;rw[show K+dH+1=K+(dH+1) by omega]at gS;have hcs:=B9 (ao.syms U log (K+dH)) (gU log (K+dH)) ct;rw[<-gS]at hcs;have fU:gU log (K+dH)<(ao.syms U log (K+dH)).length:=by rw[ao.I1,<-cI.out];exact cm
     have hget:=jF (ao.syms U log (K+dH)) (gU log (K+dH)) fU;have c1:=(hrow2.out.cell (gU log (K+dH))).trans hget;have f1:=hrow2.out.free (gU log (K+dH));have gG:=I (hrow2.out.bm (gU log (K+dH)) (.int .u8 ct));rw[hcs]at gG;generalize (ao.syms U log (K+dH))[gU log (K+dH)]=old at c1;have yv:=I rr;clear gS rr aQ hcs hget fU hrow2 yg gH;generalize gU log (K+dH)=a at cm c1 f1 gG yv ⊢;go_wp2;go_roundw
     case rel=>
      refine⟨dH+1,by omega,?_,by go_num,gG,I (jy.out.setCell (by rw[fA.out];exact Nat.le_refl _) _)⟩;rw[yv.out,aq8]
     case measure=>simp[intOf];omega
    .obtain rfl:dH=n:=by omega
     rw[<-yg.out]at hrow2 ⊢;clear gH;go_wp2;go_roundw
     case rel=>exact⟨ct+1,by omega,rfl,by go_num,hrow2,jy⟩
     case measure=>simp[intOf];omega
  .obtain rfl:ct=U.length:=by omega
   rw[take_length,r6.out,cI.out,arD]at hrow;generalize gU log (U.take U.length).sum=aeL;go_wp2;go_ret;exact⟨g0,rfl,by rw[fA.out];exact Nat.le_refl _,hrow,hbel⟩
theorem arY(s x log:Nat)(w:ai)(am:0<x)(ah:x<2^(log+1))(mQ:log<=9) :
  Calls prog 198 #[.int .u8 s,.int .i64 x,.int .i64 log] w λe w'=>e=.returned (.agg #[.int .u8 s,.int .i64 (dX log x),.int .i64 (tL log x)])/\Below w.heap.size w w':=by
 have Yd:2^(log+1)<=2^10:=dD (n:=2) (by omega) (by omega);have au2:2^log<=2^9:=dD (n:=2) (by omega) (by omega);have hle:=qN _ _ ah;have fq:=tn x am;have mP:=Dj log _ am ah;have nY:=KU log _ am ah;have Hk:(log:Int)+1-(ao.wid x:Int)=(dX log x:Int):=by unfold dX;omega
 have Hj:dX log x<=9:=by unfold dX;omega
 have DQ:tL log x=x*2^dX log x-2^log:=rfl;have kF:x<4294967296:=by omega
 have r8:=I (λW=>x6 x W kF);have Hp:(x:Int)*2^dX log x=((x*2^dX log x:Nat):Int):=by simp
 have au4:(2:Int)^log=((2^log:Nat):Int):=by simp
 have la:x*2^dX log x<=1024:=by
  rw[Nat.add_mul,Nat.one_mul]at nY;exact du (du (le_add_right _ _) nY) Yd
 rw[DQ];generalize ao.wid x=x5 at *;generalize dX log x=B at *;generalize x*2^B=M at *;generalize 2^log=S at *;have hd:IntKind.i64.wrap (M:Int)=M:=IntWalk.i64_in _ (by omega);have nv:IntKind.i64.wrap (S:Int)=S:=IntWalk.i64_in _ (by omega);obtain⟨Z,vx⟩:∃Z,Z=M-S:=⟨_,rfl⟩;have aiC:(M:Int)-S=Z:=by omega
 rw[<-vx];clear vx nY ah Yd hle DQ;go_enter func198,ntmps198
 go_wp2_with fail
 refine(r8.out _).mono ?_;rintro e w' ⟨rfl,rfl⟩;go_wp2;go_still_tail 9,(by kernel_rfl)
 change wpList _ _ _ _ _ (w.alloc (.cells #[.int .u8 0,.int .i64 0,.int .i64 0] 248)).drew;go_wp2;refine bodyPost_ret (v:=.agg #[.int .u8 s,.int .i64 B,.int .i64 Z]) (by simp[results,results198,go_sem]) rfl ⟨rfl,?_⟩;exact(dQ.alloc bh _).drew
def jr(w:ai)(p:Addr)(U:ae)(log:Nat):Prop:=∃b gc gs:Nat,p=⟨b,0,none⟩ /\
 Row w b 251 [.int .i64 log,.slice (some ⟨gc,0,none⟩) (2^log) (2^log),.slice (some ⟨gs,0,none⟩) U.length U.length] /\
 Row w gc 248 (c3 (nL U log))/\∃vs:b3,Row w gs 112 vs/\vs.length=U.length /\
  ∀s,s<U.length->∃A c,vs[s]?=some (.slice A (U[s]?.getD 0) c)/\Reads w A (aM (jE U log (2^log) s))
theorem p1(w W:ai)(p:Addr)(U:ae)(log:Nat)(h:jr w p U log)(ak:Below w.heap.size w W):jr W p U log:=by
 obtain⟨b,gc,gs,e,h1,af,vs,aq,aJ,aR⟩:=h;refine⟨b,gc,gs,e,iL h1 ak,iL af ak,vs,iL aq ak,aJ,λs ap=>?_⟩;obtain⟨A,c,cg,c7⟩:=aR s ap;exact⟨A,c,cg,c9 c7 ak⟩
theorem ta(log:Nat)(aR:5<=log)(dm:log<=9):32<=2^log/\2^log<=512:=
 ⟨dD (n:=2) (i:=5) (by omega) aR,dD (n:=2) (j:=9) (by omega) dm⟩
theorem tk(w:ai)(p:Addr)(U:ae)(log:Nat)(h:jr w p U log):Calls prog 213 #[.pointer (some p)] w λe w'=>e=.returned (.int .i64 ((2^log:Nat):Int))/\w=w':=by
 obtain⟨b,gc,gs,rfl,h1,_⟩:=h;have c1:=h1.cell 1;simp only[dU,dR]at c1;clear h1;generalize 2^log=S at *;go_enter func213,ntmps213
 go_wp2;go_ret;exact⟨rfl,rfl⟩
theorem abT(w:ai):Calls prog 213 #[.pointer none] w λe w'=>e=.returned (.int .i64 0)/\w=w':=by
 go_enter func213,ntmps213
 go_wp2;go_ret;exact⟨rfl,rfl⟩
theorem Fq(w:ai)(p:Addr)(U:ae)(log:Nat)(h:jr w p U log):Calls prog 216 #[.pointer (some p)] w λe w'=>e=.returned (.int .i64 log)/\w=w':=by
 obtain⟨b,gc,gs,rfl,h1,_⟩:=h;have c1:=h1.cell 0;simp only[dR]at c1;clear h1;go_enter func216,ntmps216
 go_wp2;go_ret;exact⟨rfl,rfl⟩
theorem ar3(w:ai):Calls prog 216 #[.pointer none] w λe w'=>e=.returned (.int .i64 0)/\w=w':=by
 go_enter func216,ntmps216
 go_wp2;go_ret;exact⟨rfl,rfl⟩
theorem Fp(v:Value)(S:Nat)(st:Int)(w:ai)(bI:Calls prog 213 #[v] w λe w'=>e=.returned (.int .i64 S)/\w=w') :
  Calls prog 229 #[v,.int .i64 st] w λe w'=>e=.returned (.bool (decide (0<=st/\st<(S:Int))))/\w=w':=by
 have eT:=I bI;clear bI;by_cases am:0<=st
 .have d0:decide (0<=st)=true:=bG am;have aG:decide (st<(S:Int))=decide (0<=st/\st<(S:Int)):=by simp[am]
  have dS:=I aG;clear aG am;go_enter func229,ntmps229
  go_wp2_with fail
  refine eT.out.mono ?_;rintro e w' ⟨rfl,rfl⟩;go_wp2;go_ret;exact⟨congrArg (λx=>Ending.returned (Value.bool x)) dS,rfl⟩
 .have d0:decide (0<=st)=false:=bF am;rw[show decide (0<=st/\st<(S:Int))=false from bF (λh=>am h.1)];clear eT;go_enter func229,ntmps229
  go_wp2;go_ret;exact⟨rfl,rfl⟩
theorem arX(w:ai)(st:Int):Calls prog 234 #[.pointer none,.int .i64 st] w λe w'=>e=.returned (.tuple #[.agg #[.int .u8 0,.int .i64 0,.int .i64 0],.bool false])/\Below w.heap.size w w':=by
 have hh:∀W,Calls prog 229 #[.pointer none,.int .i64 st] W λe w'=>e=.returned (.bool false)/\W=w':=λW=>by
  have h1:=Fp (.pointer none) 0 st W (abT W);rw[bF (by omega)]at h1;exact h1
 have fB:=I hh;clear hh;go_enter func234,ntmps234
 go_wp2_with fail
 refine(fB.out _).mono ?_;rintro e w' ⟨rfl,rfl⟩;go_wp2;refine bodyPost_ret (v:=.tuple #[.agg #[.int .u8 0,.int .i64 0,.int .i64 0],.bool false]) (by simp[results,results234,go_sem]) rfl ⟨rfl,?_⟩;exact dQ.alloc bh _
theorem I4(w:ai)(p:Addr)(U:ae)(log:Nat)(st:Int)(aL:ec U log)(h:jr w p U log) :
  Calls prog 234 #[.pointer (some p),.int .i64 st] w λe w'=>e=.returned (.tuple #[ql (q5 U log st),.bool (decide (0<=st/\st<((2^log:Nat):Int)))])/\Below w.heap.size w w':=by
 have hh:=λW (bg:jr W p U log)=>Fp (.pointer (some p)) (2^log) st W (tk W p U log bg)
 have fB:=I (hh _ (p1 _ _ _ _ _ h (dQ.alloc (Nat.le_refl w.heap.size) (.cells #[.int .u8 0,.int .i64 0,.int .i64 0] 248))));have cJ:=ta log aL.low aL.high;clear hh;obtain⟨b,gc,gs,rfl,h1,af,_⟩:=h;have c1:=h1.cell 1;simp only[dU,dR]at c1;have av:=h1.lt;have hlt2:=af.lt;by_cases aQ:0<=st/\st<((2^log:Nat):Int)
 .obtain⟨i,rfl⟩:=Int.eq_ofNat_of_zero_le aQ.1;have ax:i<2^log:=by omega
  have sF:i<(nL U log).length:=by rw[K9];exact ax
  obtain⟨e0,aF,e2⟩:=yP (nL U log) i sF;rw[TC]at e0 aF e2;have bC:=(af.cell (i*3)).trans e0;have bf:=(af.cell (i*3+1)).trans aF;have bM:=(af.cell (i*3+2)).trans e2;dsimp only at bC bf bM;have hA:ql (q5 U log (i:Int))=.agg #[.int .u8 (cD U log i),.int .i64 (cc U log i),.int .i64 (ep U log i)]:=by
   unfold q5 ql;rw[aA aQ,cY]
  rw[bG aQ]at fB ⊢;rw[hA];clear hA e0 aF e2 sF h1 af aQ aL;generalize cD U log i=x at *;generalize cc U log i=y at *;generalize ep U log i=z at *;generalize 2^log=S at *;go_enter func234,ntmps234
  go_wp2_with fail
  refine fB.out.mono ?_;rintro e w' ⟨rfl,rfl⟩;go_wp2;refine bodyPost_ret (v:=.tuple #[.agg #[.int .u8 x,.int .i64 y,.int .i64 z],.bool true]) (by simp[results,results234,go_sem]) rfl ⟨rfl,?_⟩;exact dQ.alloc bh _
 .have hA:ql (q5 U log st)=.agg #[.int .u8 0,.int .i64 0,.int .i64 0]:=by
   unfold q5 ql;rw[ay aQ];rfl
  rw[bF aQ]at fB ⊢;rw[hA];clear hA h1 af aQ aL c1;go_enter func234,ntmps234
  go_wp2_with fail
  refine fB.out.mono ?_;rintro e w' ⟨rfl,rfl⟩;go_wp2;refine bodyPost_ret (v:=.tuple #[.agg #[.int .u8 0,.int .i64 0,.int .i64 0],.bool false]) (by simp[results,results234,go_sem]) rfl ⟨rfl,?_⟩;exact dQ.alloc bh _
theorem P2(w:ai)(p:Addr)(U:ae)(log:Nat)(st more:Int)(aL:ec U log)(h:jr w p U log) :
  Calls prog 235 #[.pointer (some p),.int .i64 st,.int .i64 more] w λe w'=>e=.returned (.tuple #[.int .i64 (xU U log st more),.bool (vZ U log st more)])/\Below w.heap.size w w':=by
 have gn:=I (I4 w p U log st aL h);have cJ:=ta log aL.low aL.high;by_cases aQ:0<=st/\st<((2^log:Nat):Int)
 .have hA:ql (q5 U log st)=.agg #[.int .u8 (cD U log st.toNat),.int .i64 (cc U log st.toNat),.int .i64 (ep U log st.toNat)]:=by
   unfold q5 ql;rw[aA aQ]
  have ax:st.toNat<2^log:=by omega
  have cr:=AQ U log st.toNat aL ax;have Bd:=AR U log st.toNat aL ax;have sI:=aL.high;have zq:vZ U log st more=decide (0<=more/\more<((2^cc U log st.toNat:Nat):Int)):=by
   unfold vZ;rw[decide_eq_decide];exact⟨λh=>h.2.2,λh=>⟨aQ.1,aQ.2,h⟩⟩
  have sK:xU U log st more=if 0<=more/\more<((2^cc U log st.toNat:Nat):Int)then(ep U log st.toNat:Int)+more else 0:=by
   unfold xU;rw[zq];simp only[decide_eq_true_eq]
  rw[hA,bG aQ]at gn;rw[sK,zq];clear hA sK zq aQ ax aL h;have cu:(2:Int)^cc U log st.toNat=((2^cc U log st.toNat:Nat):Int):=by simp
  have hpos:0<2^cc U log st.toNat:=Nat.pow_pos (by omega);generalize cD U log st.toNat=x at *;generalize cc U log st.toNat=y at *;generalize ep U log st.toNat=z at *;generalize 2^y=Y at *;have awK:z<=512:=du (du (le_add_right _ _) cr) cJ.2;have avb:Y<=512:=du (du (le_add_left _ _) cr) cJ.2;have hw:IntKind.i64.wrap (Y:Int)=Y:=IntWalk.i64_in _ (by omega);clear cr;by_cases am:more<0
  .have d0:decide (more<0)=true:=bG am;rw[ay (λh=>by omega),bF (λh=>by omega)];go_enter func235,ntmps235
   go_wp2_with fail
   refine gn.out.mono ?_;rintro e au ⟨rfl,ak⟩;go_wp2;go_ret2;exact⟨rfl,ak.alloc ak.size _⟩
  .have d0:decide (more<0)=false:=bF am;by_cases h1:(Y:Int)<=more
   .have d1:decide ((Y:Int)<=more)=true:=bG h1;rw[ay (λh=>by omega),bF (λh=>by omega)];go_enter func235,ntmps235
    go_wp2_with fail
    refine gn.out.mono ?_;rintro e au ⟨rfl,ak⟩;go_wp2;go_ret2;exact⟨rfl,ak.alloc ak.size _⟩
   .have d1:decide ((Y:Int)<=more)=false:=bF h1;rw[aA ⟨by omega,by omega⟩,bG ⟨by omega,by omega⟩];go_enter func235,ntmps235
    go_wp2_with fail
    refine gn.out.mono ?_;rintro e au ⟨rfl,ak⟩;go_wp2;go_ret2;exact⟨rfl,ak.alloc ak.size _⟩
 .have hA:ql (q5 U log st)=.agg #[.int .u8 0,.int .i64 0,.int .i64 0]:=by
   unfold q5 ql;rw[ay aQ];rfl
  have zq:vZ U log st more=false:=bF (λh=>aQ ⟨h.1,h.2.1⟩);have sK:xU U log st more=0:=by
   unfold xU;rw[zq];rfl
  rw[hA,bF aQ]at gn;rw[sK,zq];clear hA sK zq aQ aL h;go_enter func235,ntmps235
  go_wp2_with fail
  refine gn.out.mono ?_;rintro e au ⟨rfl,ak⟩;go_wp2;go_ret2;exact⟨rfl,ak.alloc ak.size _⟩
theorem aeN(W b:Nat)(bg:W<4294967296)(ak:b<32):bits .and .i64 (W:Int) (((2^b:Nat):Int)-1)=((W%2^b:Nat):Int):=by
 have aw:2^b<2^32:=Nat.pow_lt_pow_right (by omega) ak;have hpos:=eW b;have h1:∀a:Nat,a<4294967296->(BitVec.ofInt 64 (a:Int)).toNat=a:=λa aS=>by
  rw[BitVec.ofInt_natCast,BitVec.toNat_ofNat];exact mod_eq_of_lt (by omega)
 rw[show((2^b:Nat):Int)-1=((2^b-1:Nat):Int) by omega];show IntKind.i64.wrap ((BitVec.ofInt 64 (W:Int) &&& BitVec.ofInt 64 ((2^b-1:Nat):Int)).toNat:Int)=_;rw[BitVec.toNat_and,h1 W bg,h1 _ (by omega),and_two_pow_sub_one_eq_mod,IntKind.wrap_i64];have af:=mod_lt W hpos;omega
theorem arU(w:ai)(p:Addr)(U:ae)(log:Nat)(st:Int)(s:Nat)(h:jr w p U log)(aQ:¬(0<=st/\st<((2^log:Nat):Int))) :
  Calls prog 215 #[.pointer (some p),.int .i64 st,.int .u8 s] w λe w'=>e=.returned (.tuple #[.int .i64 0,.int .i64 0,.int .i64 0,.bool false])/\w=w':=by
 have fB:=I (Fp (.pointer (some p)) (2^log) st w (tk w p U log h));rw[bF aQ]at fB;clear aQ h;go_enter func215,ntmps215
 go_wp2_with fail
 refine fB.out.mono ?_;rintro e w' ⟨rfl,rfl⟩;go_wp2;refine bodyPost_ret (v:=.tuple #[.int .i64 0,.int .i64 0,.int .i64 0,.bool false]) (by simp[results,results215,go_sem]) rfl ⟨rfl,rfl⟩
theorem arT(w:ai)(p:Addr)(U:ae)(log:Nat)(st:Int)(s:Nat)(aL:ec U log)(h:jr w p U log)(aQ:0<=st/\st<((2^log:Nat):Int))(ap:U[s]?.getD 0=0)(BA:s<256) :
  Calls prog 215 #[.pointer (some p),.int .i64 st,.int .u8 s] w λe w'=>e=.returned (.tuple #[.int .i64 0,.int .i64 0,.int .i64 0,.bool false])/\w=w':=by
 have fB:=I (Fp (.pointer (some p)) (2^log) st w (tk w p U log h));rw[bG aQ]at fB;have hlen:=aL.len;obtain⟨b,gc,gs,rfl,h1,af,vs,aq,aJ,aR⟩:=h;have c1:=h1.cell 2;simp only[dU,dR]at c1;by_cases fU:s<U.length
 .obtain⟨A,c,cg,c7⟩:=aR s fU;have c2:=(aq.cell s).trans cg;rw[ap]at c2;have d1:decide (U.length<=s)=false:=aT;clear h1 af aq aJ aR cg c7 aQ ap aL;go_enter func215,ntmps215
  go_wp2_with fail
  refine fB.out.mono ?_;rintro e w' ⟨rfl,rfl⟩;go_wp2;refine bodyPost_ret (v:=.tuple #[.int .i64 0,.int .i64 0,.int .i64 0,.bool false]) (by simp[results,results215,go_sem]) rfl ⟨rfl,rfl⟩
 .have d1:decide (U.length<=s)=true:=cl;clear h1 af aq aJ aR aQ ap aL;go_enter func215,ntmps215
  go_wp2_with fail
  refine fB.out.mono ?_;rintro e w' ⟨rfl,rfl⟩;go_wp2;refine bodyPost_ret (v:=.tuple #[.int .i64 0,.int .i64 0,.int .i64 0,.bool false]) (by simp[results,results215,go_sem]) rfl ⟨rfl,rfl⟩
theorem abM(w:ai)(b gs g off S i W N cap s k4 fm B x iO q v m qk:Nat)(hC:Nat)(hh:∀bc,bc=w->Calls prog 229 #[.pointer (some ⟨b,0,none⟩),.int .i64 i] bc λe w'=>e=.returned (.bool true)/\bc=w')
  (bI:Calls prog 213 #[.pointer (some ⟨b,0,none⟩)] w λe w'=>e=.returned (.int .i64 S)/\w=w')
  (c1:w.cell? ⟨b,2,none⟩=some (.slice (some ⟨gs,0,none⟩) hC hC)) (ap:s<hC) (hp:hC<=256) (c2:w.cell? ⟨gs,s,none⟩=some (.slice (some ⟨g,off,none⟩) N cap))
  (Ma:0<N) (cV:N<=512) (bg:W=i+S) (au7:W<1024) (hd:ao.wid W=k4) (nv:ao.wid N=fm) (bu:k4=B+fm) (Hj:B<=20) (ah:x=W/2^B)
  (mP:x<N->1<=B/\m=B-1/\iO=W/2^m) (nY:N<=x->m=B/\iO=x) (hq:iO=N+q) (awd:q<N) (c3:w.cell? ⟨g,off+q,none⟩=some (.int .i64 v)) (rf:qk=W%2^m) :
  Calls prog 215 #[.pointer (some ⟨b,0,none⟩),.int .i64 i,.int .u8 s] w λe w'=>e=.returned (.tuple #[.int .i64 v,.int .i64 qk,.int .i64 m,.bool true])/\Below w.heap.size w w':=by
 have fB:=I (hh w rfl);have eT:=I bI;have KI:=I (λV=>x6 W V (by omega));have KJ:=I (λV=>x6 N V (by omega));rw[hd]at KI;rw[nv]at KJ;have d1:decide (hC<=s)=false:=aT;have d2:((N:Int) == 0)=false:=cz
 have aF:(S:Int)+i=W:=by omega
 have e2:(k4:Int)-fm=B:=by omega
 have e3:(W:Int)/2^B=(x:Int):=by rw[ah];simp
 have hm:m<=B:=by
  rcases eP x N with h | h
  .have:=mP h;omega
  .have:=nY h;omega
 have cJ:2^m<=1048576:=by
  have af:2^m<=2^20:=dD (by omega) (by omega);have aq:(2:Nat)^20=1048576:=by decide
  omega
 have e4:(2:Int)^m=((2^m:Nat):Int):=by simp
 have e5:=aeN W m (by omega) (by omega);rw[<-rf]at e5;have oC:iO=W/2^m:=by
  rcases eP x N with h | h
  .exact(mP h).2.2
  .obtain⟨h1,af⟩:=nY h;rw[af,h1,ah]
 have gR:(W:Int)/((2^m:Nat):Int)=iO:=by rw[oC];simp
 have ot:(iO:Int)-N=q:=by omega
 have awF:iO<=1023:=by omega
 have av8:0<2^m:=eW m;have awG:x<=1023:=by
  have:=div_le_self W (2^B);omega
 have au3:S<=W:=by omega
 have avC:i<=W:=by omega
 clear hh bI hd nv rf oC ah bg;have iR:=I hq;clear hq;generalize 2^m=P at *;have BK:IntKind.i64.wrap (P:Int)=P:=IntWalk.i64_in _ (by omega);have BL:IntKind.i64.wrap ((P:Int)-1)=(P:Int)-1:=IntWalk.i64_in _ (by omega);by_cases av:x<N
 .obtain⟨bf,bM,ev⟩:=mP av;have d3:decide (x<N)=true:=bG av;have o5:(B:Int)-1=m:=by omega
  clear mP nY bu bM ev;have Jl:=I e4;have Jm:=I e5;have Jn:=I gR;have Jo:=I ot;have acm:=I o5;have KG:=I BK;have KH:=I BL;clear e4 e5 gR ot o5 BK BL;go_enter func215,ntmps215
  go_wp2_with fail
  refine fB.out.mono ?_;rintro e w' ⟨rfl,rfl⟩;go_wp2_with fail
  refine eT.out.mono ?_;rintro e w' ⟨rfl,rfl⟩;go_wp2_with fail
  refine(KI.out _).mono ?_;rintro e w' ⟨rfl,rfl⟩;go_wp2_with fail
  refine(KJ.out _).mono ?_;rintro e w' ⟨rfl,rfl⟩;go_wp2_with fail
  rw[acm.out];clear e3;have e4:=Jl.out;have e5:=Jm.out;have gR:=Jn.out;have ot:=Jo.out;have ag8:(0:Int)<=q:=by omega
  have ag9:(q:Int)<N:=by omega
  have BK:=KG.out;have BL:=KH.out;go_quiet (fail)
  go_wp2;refine bodyPost_ret (v:=.tuple #[.int .i64 v,.int .i64 qk,.int .i64 m,.bool true]) (by simp[results,results215,go_sem]) rfl ⟨rfl,below_drewN dQ _⟩
 .obtain⟨rfl,rfl⟩:=nY (by omega);have d3:decide (iO<N)=false:=bF av;clear mP nY bu;have Jl:=I e4;have Jm:=I e5;have Jn:=I gR;have Jo:=I ot;have KG:=I BK;have KH:=I BL;clear e4 e5 gR ot BK BL;go_enter func215,ntmps215
  go_wp2_with fail
  refine fB.out.mono ?_;rintro e w' ⟨rfl,rfl⟩;go_wp2_with fail
  refine eT.out.mono ?_;rintro e w' ⟨rfl,rfl⟩;go_wp2_with fail
  refine(KI.out _).mono ?_;rintro e w' ⟨rfl,rfl⟩;go_wp2_with fail
  refine(KJ.out _).mono ?_;rintro e w' ⟨rfl,rfl⟩;go_wp2_with fail
  clear e3;have e4:=Jl.out;have e5:=Jm.out;have gR:=Jn.out;have ot:=Jo.out;have ag8:(0:Int)<=q:=by omega
  have ag9:(q:Int)<N:=by omega
  have BK:=KG.out;have BL:=KH.out;go_quiet (fail)
  go_wp2;refine bodyPost_ret (v:=.tuple #[.int .i64 v,.int .i64 qk,.int .i64 m,.bool true]) (by simp[results,results215,go_sem]) rfl ⟨rfl,below_drewN dQ _⟩
theorem abL(w:ai)(p:Addr)(U:ae)(log:Nat)(st:Int)(s:Nat)(aL:ec U log)(h:jr w p U log)(BA:s<256) :
  Calls prog 215 #[.pointer (some p),.int .i64 st,.int .u8 s] w λe w'=>e=.returned (Gr (xb U log st s))/\Below w.heap.size w w':=by
 by_cases aQ:0<=st/\st<((2^log:Nat):Int)
 .have hA:xb U log st s=(lF U log st.toNat s).map λp=>(p,st.toNat-ep U log p,cc U log p):=by
   unfold xb;rw[aA aQ]
  rw[hA];by_cases am:U[s]?.getD 0=0
  .rw[S0 U log st.toNat s aL am];exact(arT w p U log st s aL h aQ am BA).mono λe w' ⟨he,hw⟩=>⟨he,by subst hw;exact Below.refl _ _⟩
  .have fU:s<U.length:=by
    rcases eP s U.length with h1 | h1
    .exact h1
    .exact absurd (by rw[getElem?_eq_none h1];rfl) am
   have aD:U[s]?=some U[s]:=bH fU;rw[aD,b6]at am;obtain⟨i,rfl⟩:=Int.eq_ofNat_of_zero_le aQ.1;rw[cY];have ax:i<2^log:=by omega
   have az:=aq3 U log s _ aL aD;have cJ:=ta log aL.low aL.high;have hall:=aa6 U log s aL;rw[aD,b6]at hall;have hlen:=aL.len;have sI:=aL.high;have bI:=tk w p U log h;have hh:∀bc,bc=w->Calls prog 229 #[.pointer (some p),.int .i64 i] bc λe w'=>e=.returned (.bool true)/\bc=w':=λbc e=>by
    subst e;have h1:=Fp (.pointer (some p)) (2^log) (i:Int) bc (tk bc p U log h);rw[bG aQ]at h1;exact h1
   obtain⟨b,gc,gs,rfl,h1,af,vs,aq,aJ,aR⟩:=h;have c1:=h1.cell 2;simp only[dU,dR]at c1;obtain⟨A,c,cg,c7⟩:=aR s fU;rw[aD,b6]at cg;have c2:=(aq.cell s).trans cg;have aX:0<(jE U log (2^log) s).length:=by omega
   obtain⟨g,off,rfl,hc⟩:=c7 (λe=>by have:=congrArg List.length e;rw[gw,length_nil]at this;omega);have key:∀m,U[s]<=(i+2^log)/2^m->(i+2^log)/2^m<2*U[s]->∃q v:Nat,(i+2^log)/2^m=U[s]+q/\q<U[s]/\w.cell? ⟨g,off+q,none⟩=some (.int .i64 v) /\
     (lF U log i s).map (λp=>(p,i-ep U log p,cc U log p))=some (v,(i+2^log)%2^m,m):=λm bf bM=>by
    obtain⟨v,aF,e2,e3,e4⟩:=aeS U log i s U[s] m aL aD (by omega) ax bf bM;refine⟨(i+2^log)/2^m-U[s],v,by omega,by omega,?_,by rw[e2,map_some,e3,e4]⟩;have hX:(i+2^log)/2^m-U[s]<(jE U log (2^log) s).length:=by omega
    rw[hc _ (by rw[gw];exact hX),ja _ _ hX];rw[bH hX]at aF;injection aF with aF
    rw[aF]
   have nv:=qN U[s] (log+1) (by have:2^(log+1)=2^log*2:=ej 2 log;omega);have kT:=tn U[s] (by omega);have HT:ao.wid (i+2^log)=log+1:=Cb _ log (by omega) (by have:2^(log+1)=2^log*2:=ej 2 log;omega);rcases eP ((i+2^log)/2^(log+1-ao.wid U[s])) U[s]with av | fq
   .obtain⟨bf,bM,ev⟩:=aqH log i U[s] (by omega) az av;obtain⟨q,v,gy,ft,lT,wa⟩:=key _ bM ev;rw[wa];exact abM w b gs g off (2^log) i (i+2^log) U[s] c s (log+1) (ao.wid U[s]) (log+1-ao.wid U[s]) ((i+2^log)/2^(log+1-ao.wid U[s])) ((i+2^log)/2^(log+1-ao.wid U[s]-1)) q v (log+1-ao.wid U[s]-1) _ U.length hh bI c1 fU hlen c2 (by omega) (by omega) rfl (by omega) HT rfl (by omega) (by omega) rfl (λ_=>⟨bf,rfl,rfl⟩) (λh=>absurd av (by omega)) gy ft lT rfl
   .have ev:=aqG log i U[s] (by omega) az ax;obtain⟨q,v,gy,ft,lT,wa⟩:=key _ fq ev;rw[wa];exact abM w b gs g off (2^log) i (i+2^log) U[s] c s (log+1) (ao.wid U[s]) (log+1-ao.wid U[s]) ((i+2^log)/2^(log+1-ao.wid U[s])) ((i+2^log)/2^(log+1-ao.wid U[s])) q v (log+1-ao.wid U[s]) _ U.length hh bI c1 fU hlen c2 (by omega) (by omega) rfl (by omega) HT rfl (by omega) (by omega) rfl (λh=>absurd h (by omega)) (λ_=>⟨rfl,rfl⟩) gy ft lT rfl
 .have hA:xb U log st s=none:=by
   unfold xb;rw[ay aQ]
  rw[hA];exact(arU w p U log st s h aQ).mono λe w' ⟨he,hw⟩=>⟨he,by subst hw;exact Below.refl _ _⟩
theorem am9(A:a7)(c:Nat)(bs:ae)(w:ai)(hl:bs.length<=10000)(ak:∀x∈bs,x<256)(aj:Reads w A (aN bs)) :
  (nz bs=none/\Calls prog 224 #[.slice A bs.length c] w λe w'=>e=.returned (.tuple #[.pointer none,.bool false])/\Below w.heap.size w w') \/
  ∃M L,nz bs=some (M,L)/\M<2^L/\bd bs=M+2^L/\L<8*bs.length/\Calls prog 224 #[.slice A bs.length c] w λe w'=>∃b,e=.returned (.tuple #[.pointer (some ⟨b,0,none⟩),.bool true])/\js w' w.heap.size b bs L/\Below w.heap.size w w':=by
 rcases eq_nil_or_concat bs with rfl | ⟨front,b,e⟩
 .exact .inl ⟨by simp[nz],(ana A c w).mono λe w' ⟨he,hw⟩=>⟨he,by subst hw;exact Below.refl _ _⟩⟩
 .rw[concat_eq_append]at e;have hlen:bs.length=front.length+1:=by rw[e,aY,length_singleton]
  have hlast:bs[front.length]'(by omega)=b:=by subst e;simp
  have jQ:bs.getLast?.getD 0=b:=by rw[e,getLast?_append,getLast?_singleton];rfl
  obtain⟨g,off,rfl,hc⟩:=nA aj (by intro h;rw[h]at hlen;simp at hlen);have aD:=aai aj (by intro h;have:=congrArg List.length h;rw[jn,hlen,length_nil]at this;omega);rcases eq_zero_or_pos b with am | am
  .refine .inl ⟨by unfold nz;rw[aA (by rw[jQ,am])],?_⟩;have h1:=hc front.length (by omega);rw[hlast,am]at h1;rw[hlen];exact(ane g off front.length c w (by omega) h1).mono λe w' ⟨he,hw⟩=>⟨he,by subst hw;exact Below.refl _ _⟩
  .have dg:b≠0:=by omega
   have hb256:=ak b (by rw[e];simp);obtain⟨ca,YN,aC⟩:=P4 front b (λx ah=>ak x (by rw[e];exact mem_append_left _ ah)) hb256 dg;rw[<-e]at aC;have vN:=I6 _ _ aC;have hopen:nz bs=some (bd bs%2^(bd bs).log2,(bd bs).log2):=by unfold nz;rw[ay (by rw[jQ];exact dg)]
   obtain⟨bf,_,ev⟩:=Pz bs _ _ ak hopen;have ap:=aC.sum;rw[vN]at hopen bf ev;refine .inr ⟨_,_,hopen,bf,by omega,ev,?_⟩;rw[hlen];exact anc g off front.length c bs b w (by omega) hb256 dg hlen hlast aj aD
theorem amH(M left k:Nat)(h:k<=left):M%2^left/2^(left-k)=M/2^(left-k)%2^k/\M%2^left%2^(left-k)=M%2^(left-k):=by
 have e:2^left=2^(left-k)*2^k:=by rw[<-dM];congr 1;omega
 rw[e];exact⟨mod_mul_right_div_self _ _ _,mod_mul_right_mod _ _ _⟩
theorem TB(U:ae)(log st:Nat)(h:st<2^log):ql (q5 U log (st:Int))=.agg #[.int .u8 (cD U log st),.int .i64 (cc U log st),.int .i64 (ep U log st)]:=by
 unfold q5 ql;rw[aA ⟨by omega,by omega⟩,cY]
theorem Zl(U:ae)(log st v:Nat)(h:st<2^log)(aE:v<2^cc U log st):vZ U log (st:Int) (v:Int)=true/\xU U log (st:Int) (v:Int)=((ep U log st+v:Nat):Int):=by
 have h1:vZ U log (st:Int) (v:Int)=true:=by
  unfold vZ;rw[cY];exact bG ⟨by omega,by omega,by omega,by omega⟩
 refine⟨h1,?_⟩;unfold xU;rw[h1,aA rfl,cY,Int.natCast_add]
theorem ahu(w0 w:ai)(p:Addr)(U:ae)(log B b left st:Nat)(bs:ae)(aL:ec U log)(aC:jr w0 p U log)(hw:Below w0.heap.size w0 w)(bu:w0.heap.size<=B)(ap:bs.length<=10000)(cr:∀x∈bs,x<256)(vM:left<8*bs.length)
  (aQ:st<2^log) (hle:cc U log st<=left) (h:js w B b bs left) :
  Calls prog 226 #[.pointer (some p),.pointer (some ⟨b,0,none⟩),.int .i64 st] w λe w'=>
   e=.returned (.tuple #[.int .u8 (cD U log st),.int .i64 ((ep U log st+bd bs/2^(left-cc U log st)%2^cc U log st:Nat):Int),.bool true])/\js w' B b bs (left-cc U log st)/\w.grownBy w' (some b)/\w'.cell? ⟨b,0,none⟩=w.cell? ⟨b,0,none⟩:=by
 have VF:=AR U log st aL aQ;have dm:=aL.high;have auE:B<=b:=by obtain⟨_,_,_,_,_,aq,_⟩:=h;exact aq
 have lY:=I (I4 w p U log (st:Int) aL (p1 _ _ _ _ _ aC hw));have cJ:=ta log aL.low aL.high;have jx:=AQ U log st aL aQ;have aE:=mod_lt (bd bs/2^(left-cc U log st)) (eW (cc U log st));obtain⟨b4,bT⟩:=Zl U log st _ aQ aE;have r7:=I (λW (bg:js W B b bs left)=>Tn B b left bs (cc U log st) W (by omega) cr (by omega) hle vM bg);have tC:=I (λW v (bg:Below w0.heap.size w0 W)=>P2 W p U log (st:Int) v aL (p1 _ _ _ _ _ aC bg));have aG:decide (0<=(st:Int)/\(st:Int)<((2^log:Nat):Int))=true:=bG ⟨by omega,by omega⟩;rw[TB U log st aQ,aG]at lY;have qX:=I b4;have qY:=I bT;have awv:bd bs/2^(left-cc U log st)%2^cc U log st<=512:=by
  have af:2^cc U log st<=512:=du (du (le_add_left _ _) jx) cJ.2;omega
 have kO:=I h;have fP:=I hw;clear aG b4 bT aE jx aL aC aQ vM cr h hw;generalize bd bs/2^(left-cc U log st)%2^cc U log st=V at *;generalize cD U log st=cM at *;generalize ep U log st=z at *;generalize cc U log st=k at *;go_enter func226,ntmps226
 go_wp2_with fail
 refine lY.out.mono ?_;rintro e au ⟨rfl,aH⟩;have hd:=aH.alloc aH.size (.cells #[.int .u8 cM,.int .i64 k,.int .i64 z] 248);obtain⟨kt,vv⟩:∃kt,kt=au.alloc (.cells #[.int .u8 cM,.int .i64 k,.int .i64 z] 248):=⟨_,rfl⟩;have hrow:Row kt au.heap.size 248 [.int .u8 cM,.int .i64 k,.int .i64 z]:=by rw[vv];exact Row.new au _ _
 rw[<-vv]at hd;have dY:b<w.heap.size:=by obtain⟨_,_,_,_,_,_,aJ,_⟩:=kO.out;exact aJ
 have avi:b<au.heap.size:=gV dY aH.size;have fC:=I (r7.out kt (kO.out.keep (dr hd none) (by simp)));have JI:=I vv;have w4:=I hd;clear aH vv hd r7 lY;go_wp2_with fail
 rw[<-JI.out];refine fC.out.mono ?_;rintro e lE ⟨rfl,XS,cs,kB⟩;have hbW2:b<kt.heap.size:=gV dY w4.out.size;have aiJ:b<lE.heap.size:=gV hbW2 cs.size;have mu:Hid (lE.cell? ⟨b,0,none⟩=w.cell? ⟨b,0,none⟩):=I (kB.trans (w4.out.cell (p:=⟨b,0,none⟩) dY));clear kB;have c0:lE.cell? ⟨au.heap.size,0,none⟩=some (.int .u8 cM):=by
  rw[World.cell?_of_block (cs.block au.heap.size hrow.lt (λe=>by injection e with e;omega))];exact hrow.cell 0
 have bz:Below w0.heap.size w0 lE:=(fP.out.trans (w4.out.mono fP.out.size)).grown cs (du fP.out.size w4.out.size) (λk e=>by injection e with e;omega);have CR:=I (tC.out lE (V:Int) bz);rw[qX.out,qY.out]at CR;have ad3:=I XS;have jf:=I ((dr w4.out (some b)).trans cs);clear XS cs bz hrow fC tC qX qY;go_wp2_with fail
 refine CR.out.mono ?_;rintro e fv ⟨rfl,a8⟩;have c1:fv.cell? ⟨au.heap.size,0,none⟩=some (.int .u8 cM):=(a8.cell (p:=⟨au.heap.size,0,none⟩) (by
  rcases eP au.heap.size lE.heap.size with h | h
  .exact h
  .unfold World.cell? at c0;rw[Array.getElem?_eq_none h]at c0;cases c0)).trans c0
 have KE:=I (ad3.out.keep (dr a8 none) (by simp));have gQ:=I (jf.out.trans (dr a8 (some b)));have yq:=I ((a8.cell (p:=⟨b,0,none⟩) aiJ).trans mu);clear a8 c0;go_wp2;refine bodyPost_ret (v:=.tuple #[.int .u8 cM,.int .i64 ((z+V:Nat):Int),.bool true]) (by simp[results,results226,go_sem]) rfl ⟨rfl,KE.out,gQ.out,yq.out⟩
theorem aht(w0 w:ai)(p:Addr)(U:ae)(log B b left st:Nat)(bs:ae)(aL:ec U log)(aC:jr w0 p U log)(hw:Below w0.heap.size w0 w)
  (aQ:st<2^log) (hle:left<cc U log st) (h:js w B b bs left) :
  Calls prog 226 #[.pointer (some p),.pointer (some ⟨b,0,none⟩),.int .i64 st] w λe w'=>
   (∃v:Nat,v<=512/\e=.returned (.tuple #[.int .u8 (cD U log st),.int .i64 v,.bool false]))/\js w' B b bs left/\w.grownBy w' (some b):=by
 have VF:=AR U log st aL aQ;have dm:=aL.high;have lY:=I (I4 w p U log (st:Int) aL (p1 _ _ _ _ _ aC hw));have cJ:=ta log aL.low aL.high;have jx:=AQ U log st aL aQ;obtain⟨b4,bT⟩:=Zl U log st 0 aQ (eW _);have r7:=I (λW (bg:js W B b bs left)=>Tm B b left bs (cc U log st) W (by omega) hle bg);have tC:=I (λW v (bg:Below w0.heap.size w0 W)=>P2 W p U log (st:Int) v aL (p1 _ _ _ _ _ aC bg));have aG:decide (0<=(st:Int)/\(st:Int)<((2^log:Nat):Int))=true:=bG ⟨by omega,by omega⟩;rw[TB U log st aQ,aG]at lY;have qX:=I b4;have qY:=I bT;have aO:ep U log st<=512:=du (du (le_add_right _ _) jx) cJ.2;have kO:=I h;have fP:=I hw;clear aG b4 bT jx aL aC aQ h hw;generalize cD U log st=cM at *;generalize ep U log st=z at *;generalize cc U log st=k at *;go_enter func226,ntmps226
 go_wp2_with fail
 refine lY.out.mono ?_;rintro e au ⟨rfl,aH⟩;have hd:=aH.alloc aH.size (.cells #[.int .u8 cM,.int .i64 k,.int .i64 z] 248);obtain⟨kt,vv⟩:∃kt,kt=au.alloc (.cells #[.int .u8 cM,.int .i64 k,.int .i64 z] 248):=⟨_,rfl⟩;have hrow:Row kt au.heap.size 248 [.int .u8 cM,.int .i64 k,.int .i64 z]:=by rw[vv];exact Row.new au _ _
 rw[<-vv]at hd;have BI:=kO.out.keep (dr hd none) (by simp);have fC:=I (r7.out kt BI);have Gg:=I BI;have JI:=I vv;have w4:=I hd;have c0:=hrow.cell 0;have pS:=hrow.lt;have CR:=I (tC.out kt ((0:Nat):Int) (fP.out.trans (hd.mono fP.out.size)));rw[qX.out,qY.out]at CR;clear aH vv hd r7 lY hrow BI tC qX qY;go_wp2_with fail
 rw[<-JI.out];refine fC.out.mono ?_;rintro e lE ⟨rfl,rfl⟩;go_wp2_with fail
 refine CR.out.mono ?_;rintro e fv ⟨rfl,a8⟩;have c1:fv.cell? ⟨au.heap.size,0,none⟩=some (.int .u8 cM):=(a8.cell (p:=⟨au.heap.size,0,none⟩) pS).trans c0;have KE:=I (Gg.out.keep (dr a8 none) (by simp));have gQ:=I ((dr w4.out (some b)).trans (dr a8 (some b)));clear a8 c0;go_wp2;refine bodyPost_ret (v:=.tuple #[.int .u8 cM,.int .i64 z,.bool false]) (by simp[results,results226,go_sem]) rfl ⟨⟨z,aO,rfl⟩,KE.out,gQ.out⟩
theorem js.cG{w w':ai}{B b left g cap:Nat}{bs:ae}{row:Option Nat}(h:js w B b bs left)(hc:w.cell? ⟨b,0,none⟩=some (.slice (some ⟨g,0,none⟩) bs.length cap))(aD:w.grownBy w' row)(h1:row≠some b)(af:row≠some g):js w' B b bs left:=by
 obtain⟨fd,cap',bC,bf,bM,ev,gx,qA,HX,N9,ald,ale,ak9⟩:=h;rw[bC]at hc;simp only[Option.some.injEq,Value.slice.injEq,Addr.mk.injEq]at hc;obtain⟨⟨rfl,_⟩,_,rfl⟩:=hc;have hl:=aD.block b gx (λe=>h1 e.symm);have eF:=aD.block fd HX (λe=>af e.symm);refine⟨fd,cap',(World.cell?_of_block hl).trans bC,(World.cell?_of_block hl).trans bf,(World.frozen?_of_block hl).trans bM,ev,gV gx aD.size,qA,gV HX aD.size,N9,ald,ale,λaX=>?_⟩;obtain⟨g2,off,e,hcs⟩:=ak9 aX;injection e with e
 injection e with aF e2
 subst aF e2;exact⟨_,_,rfl,λj ar=>(World.cell?_of_block (a:=⟨fd,0+j,none⟩) eF).trans (hcs j ar)⟩
theorem ahe(w:ai)(p:Addr)(U:ae)(log:Nat)(A:a7)(m c:Nat)(n:Int)(aL:ec U log)(aC:jr w p U log)(az:n<0\/1048576<n):Calls prog 211 #[.pointer (some p),.slice A m c,.int .i64 n] w λe w'=>x9 w' e none/\Below w.heap.size w w':=by
 have iT:=I (tk w p U log aC);have cJ:=ta log aL.low aL.high;clear aC aL;have rV:Hid ((((2^log:Nat):Int) == 0)=false):=I (by rw[beq_eq_false_iff_ne];omega);clear cJ;generalize 2^log=S at *;have tO:=rV.out;rcases az with h | h
 .go_enter func211,ntmps211
  go_wp2_with fail
  refine iT.out.mono ?_;rintro e w' ⟨rfl,rfl⟩;go_wp2;go_ret2;exact⟨⟨_,_,rfl⟩,Below.refl _ _⟩
 .go_enter func211,ntmps211
  go_wp2_with fail
  refine iT.out.mono ?_;rintro e w' ⟨rfl,rfl⟩;go_wp2;go_ret2;exact⟨⟨_,_,rfl⟩,Below.refl _ _⟩
theorem ahd(w:ai)(p:Addr)(U:ae)(log:Nat)(A:a7)(m c n:Nat)(q:a7)(zM:Bool)(aL:ec U log)(aC:jr w p U log)(az:n<=1048576)
  (hopen:Calls prog 224 #[.slice A m c] w λe w'=>e=.returned (.tuple #[.pointer q,.bool zM])/\Below w.heap.size w w'/\Calls prog 225 #[.pointer q,.int .i64 log] w' λe aB=>e=.returned (.tuple #[.int .u32 0,.bool false])/\w'=aB) :
  Calls prog 211 #[.pointer (some p),.slice A m c,.int .i64 n] w λe w'=>x9 w' e none/\Below w.heap.size w w':=by
 obtain⟨i0,ax,bB,bK,bw⟩:=info_parts oG;have iT:=I (tk w p U log aC);have wL:=I (λW (ak:Below w.heap.size w W)=>Fq W p U log (p1 _ _ _ _ _ aC ak));have cJ:=ta log aL.low aL.high;have dm:=aL.high;have r1:=I hopen;clear aC aL hopen;have rV:Hid ((((2^log:Nat):Int) == 0)=false):=I (by rw[beq_eq_false_iff_ne];omega);clear cJ;generalize 2^log=S at *;have tO:=rV.out;have G1:decide ((n:Int)<0)=false:=aT;have Ls:decide (1048576<(n:Int))=false:=aT;go_enter func211,ntmps211
 go_wp2_with fail
 refine iT.out.mono ?_;rintro e w' ⟨rfl,rfl⟩;go_wp2_with fail
 refine r1.out.mono ?_;rintro e au ⟨rfl,aH,lJ⟩;have aK:=I aH;have uJ:=I lJ;have Al:=I (wL.out au aH);clear aH lJ r1 wL;go_wp2_with fail
 refine Al.out.mono ?_;rintro e w' ⟨rfl,rfl⟩;go_wp2_with fail
 refine uJ.out.mono ?_;rintro e w' ⟨rfl,rfl⟩;go_wp2_with (at_make;refine wpList_make_own _ rfl _ _ 87 rfl w.heap.size 5 i0 (.int .u8 0) 1 underlying87 ax bB bK .i64 .i64 _ n rfl rfl ?c1 ?c2 ?c3 ?c4 ?_)
 case c1=>rfl
 case c2=>rw[bw];omega
 case c3=>unfold maxLen;omega
 case c4=>exact aK.out.size
 intro dG hown fp;have dh:=I (aK.out.grown fp aK.out.size (by simp));clear hown fp;go_wp2;go_loopw [11,12,13,14] (λok _ _ _ wr=>ok=.bool false/\Hid (Below w.heap.size w wr)) (λ_ _ _ _ _=>0)
 case atStart=>exact⟨rfl,dh⟩
 case round=>
  obtain⟨rfl,ak⟩:=hrel;go_wp2;go_ret2;exact⟨⟨_,_,rfl⟩,ak⟩
theorem ahc(w:ai)(p:Addr)(U:ae)(log:Nat)(A:a7)(m c n:Nat)(aL:ec U log)(aC:jr w p U log)(az:n<=1048576)
  (hopen:Calls prog 224 #[.slice A m c] w λe w'=>∃b:Nat,e=.returned (.tuple #[.pointer (some ⟨b,0,none⟩),.bool true])/\Below w.heap.size w w'/\Calls prog 225 #[.pointer (some ⟨b,0,none⟩),.int .i64 log] w' λe aB=>e=.returned (.tuple #[.int .u32 0,.bool false])/\w'=aB) :
  Calls prog 211 #[.pointer (some p),.slice A m c,.int .i64 n] w λe w'=>x9 w' e none/\Below w.heap.size w w':=by
 obtain⟨i0,ax,bB,bK,bw⟩:=info_parts oG;have iT:=I (tk w p U log aC);have wL:=I (λW (ak:Below w.heap.size w W)=>Fq W p U log (p1 _ _ _ _ _ aC ak));have cJ:=ta log aL.low aL.high;have dm:=aL.high;have r1:=I hopen;clear aC aL hopen;have rV:Hid ((((2^log:Nat):Int) == 0)=false):=I (by rw[beq_eq_false_iff_ne];omega);clear cJ;generalize 2^log=S at *;have tO:=rV.out;have G1:decide ((n:Int)<0)=false:=aT;have Ls:decide (1048576<(n:Int))=false:=aT;go_enter func211,ntmps211
 go_wp2_with fail
 refine iT.out.mono ?_;rintro e w' ⟨rfl,rfl⟩;go_wp2_with fail
 refine r1.out.mono ?_;rintro e au ⟨b,rfl,aH,lJ⟩;have aK:=I aH;have uJ:=I lJ;have Al:=I (wL.out au aH);clear aH lJ r1 wL;go_wp2_with fail
 refine Al.out.mono ?_;rintro e w' ⟨rfl,rfl⟩;go_wp2_with fail
 refine uJ.out.mono ?_;rintro e w' ⟨rfl,rfl⟩;go_wp2_with (at_make;refine wpList_make_own _ rfl _ _ 87 rfl w.heap.size 5 i0 (.int .u8 0) 1 underlying87 ax bB bK .i64 .i64 _ n rfl rfl ?c1 ?c2 ?c3 ?c4 ?_)
 case c1=>rfl
 case c2=>rw[bw];omega
 case c3=>unfold maxLen;omega
 case c4=>exact aK.out.size
 intro dG hown fp;have dh:=I (aK.out.grown fp aK.out.size (by simp));clear hown fp;go_wp2;go_loopw [11,12,13,14] (λok _ _ _ wr=>ok=.bool false/\Hid (Below w.heap.size w wr)) (λ_ _ _ _ _=>0)
 case atStart=>exact⟨rfl,dh⟩
 case round=>
  obtain⟨rfl,ak⟩:=hrel;go_wp2;go_ret2;exact⟨⟨_,_,rfl⟩,ak⟩
def lenOf:Value->Nat
 | .slice _ n _=>n
 | _=>0
theorem ZL{w w':ai}{base b:Nat}{e:TypeId}{v:Value}{n:Nat}{xs:b3}(h:w.ownsRow base e 1 v n xs)(aD:w.grownBy w' (some b))(ak:b<base):w'.ownsRow base e 1 v n xs:=
 h.kept aD (by
  cases aE:v.ownBlock with
  | none=>exact .inl rfl
  | some x=>exact .inr (λe=>by injection e with e;have:=(h.lt x aE).1;omega))
theorem OX{w:ai}{base:Nat}{e:TypeId}{v:Value}{n:Nat}{xs:b3}(h:w.ownsRow base e 1 v n xs):lenOf v=n:=by
 rcases h.2 with⟨rfl,am⟩ | ⟨g,cap,fg,rfl,_⟩
 .exact am.symm
 .rfl
theorem ahf(w:ai)(p:Addr)(U:ae)(log:Nat)(A:a7)(c n M q:Nat)(bs:ae)(aL:ec U log)(aC:jr w p U log)(az:n<=1048576)(ap:bs.length<=10000)(cr:∀x∈bs,x<256)(la:M<2^(q+log))(hval:bd bs=M+2^(q+log))(bR:q+log<8*bs.length)
  (hopen:Calls prog 224 #[.slice A bs.length c] w λe w'=>∃b,e=.returned (.tuple #[.pointer (some ⟨b,0,none⟩),.bool true])/\js w' w.heap.size b bs (q+log)/\Below w.heap.size w w') :
  Calls prog 211 #[.pointer (some p),.slice A bs.length c,.int .i64 n] w λe w'=>x9 w' e (ji U log n (M%2^q) q (M/2^q))/\Below w.heap.size w w':=by
 obtain⟨i0,ax,bB,bK,bw⟩:=info_parts oG;obtain⟨r,aj⟩:∃r,r=ji U log n (M%2^q) q (M/2^q):=⟨_,rfl⟩;rw[<-aj];have iT:=I (tk w p U log aC);have wL:=I (λW (ak:Below w.heap.size w W)=>Fq W p U log (p1 _ _ _ _ _ aC ak));have cJ:=ta log aL.low aL.high;have dm:=aL.high;have aQ:M/2^q<2^log:=by
  rw[dM,eQ]at la;exact(div_lt_iff_lt_mul (Nat.pow_pos (by omega))).2 la
 have DZ:bd bs/2^q%2^log=M/2^q:=by
  rw[hval,aaJ M (q+log) q log bh,mod_eq_of_lt aQ]
 have r7:=I (λW b (h:js W w.heap.size b bs (q+log))=>Tn w.heap.size b (q+log) bs log W (by omega) cr (by omega) (by omega) bR h);rw[Nat.add_sub_cancel,DZ]at r7;have acY:Hid (∀left k,k<=left->left<=q+log->M%2^left/2^(left-k)=bd bs/2^(left-k)%2^k/\M%2^left%2^(left-k)=M%2^(left-k)):=I (λleft k h1 af=>by
  obtain⟨aF,e2⟩:=amH M left k h1;rw[aF,e2,hval,aaJ M (q+log) (left-k) k (by omega)];exact⟨rfl,rfl⟩)
 have iQ:=I (λW b left st (bg:Below w.heap.size w W) (h1:left<=q+log) (af:st<2^log) (aq:cc U log st<=left) (h:js W w.heap.size b bs left)=>ahu w W p U log w.heap.size b left st bs aL aC bg bh ap cr (by omega) af aq h);have CF:=I (λW b left st (bg:Below w.heap.size w W) (af:st<2^log) (aq:left<cc U log st) (h:js W w.heap.size b bs left)=>aht w W p U log w.heap.size b left st bs aL aC bg af aq h);have bk:=I aL;have r1:=I hopen;have aU:=I aj;clear aC aL hopen aj DZ hval la cr;have rV:Hid ((((2^log:Nat):Int) == 0)=false):=I (by rw[beq_eq_false_iff_ne];omega);obtain⟨S,cu⟩:∃S,S=2^log:=⟨_,rfl⟩;have cI:=I cu;rw[<-cu]at iT rV iQ CF cJ aQ;clear cu;have tO:=rV.out;have G1:decide ((n:Int)<0)=false:=aT;have Ls:decide (1048576<(n:Int))=false:=aT;go_enter func211,ntmps211
 go_wp2_with fail
 refine iT.out.mono ?_;rintro e w' ⟨rfl,rfl⟩;go_wp2_with fail
 refine r1.out.mono ?_;rintro e au ⟨b,rfl,kE,aH⟩;have aK:=I aH;have kO:=I kE;have Al:=I (wL.out au aH);have C8:=I (r7.out au b kE);obtain⟨g,cap,bC,_,_,xL,dY,awB,jQ,_⟩:=kE;have SP:=I bC;clear aH bC r1 wL r7;go_wp2_with fail
 refine Al.out.mono ?_;rintro e w' ⟨rfl,rfl⟩;go_wp2_with fail
 refine C8.out.mono ?_;rintro e aB ⟨rfl,BI,bl,fy⟩;have aV:=I (aK.out.grown bl aK.out.size (λx e=>by injection e with e;omega));have gT:=bl.size;have Gg:=I BI;have rZ:=I (fy.trans SP);clear BI bl fy C8 Al SP kO aK;generalize hF:M/2^q=F at *;have jo:=I hF;clear hF;go_wp2_with (at_make;refine wpList_make_own _ rfl _ _ 87 rfl aB.heap.size 5 i0 (.int .u8 0) 1 underlying87 ax bB bK .i64 .i64 _ n rfl rfl ?c1 ?c2 ?c3 ?c4 ?_)
 case c1=>rfl
 case c2=>rw[bw];omega
 case c3=>unfold maxLen;omega
 case c4=>exact Nat.le_refl _
 intro dG hown fp;have dh:=I (aV.out.grown fp aV.out.size (by simp));have hQ:=I hown;have SA:=I (Gg.out.keep fp (by simp));have RI:=I ((World.cell?_of_block (a:=⟨b,0,none⟩) (fp.block b (by omega) (by simp))).trans rZ.out);have Xu:=fp.size;clear hown fp aV Gg rZ;go_wp2;clear G1 Ls tO rV iT;go_loopw [11,12,13,14] (λok pn u _ wr=>∃(k left st:Nat) (acc:ae) (zM:Bool),ok=.bool zM/\pn=.int .i64 st/\k<=n/\acc.length=k/\left<=q/\st<=512/\dG.heap.size<=wr.heap.size/\Hid (wr.ownsRow aB.heap.size 5 1 u k (aN acc))/\Hid (Below w.heap.size w wr)/\Hid ((zM=true->st<S/\js wr w.heap.size b bs left/\wr.cell? ⟨b,0,none⟩=some (.slice (some ⟨g,0,none⟩) bs.length cap)/\r=(ji U log (n-k) (M%2^left) left st).map (acc++·))/\(zM=false->r=none))) (λ_ _ u _ _=>n-lenOf u)
 case atStart=>exact⟨0,q,F,[],true,rfl,rfl,by omega,rfl,Nat.le_refl _,by omega,Nat.le_refl _,hQ,dh,I ⟨λ_=>⟨aQ,SA.out,RI.out,by rw[aU.out,Nat.sub_zero];cases ji U log n (M%2^q) q F<;>rfl⟩,λh=>by cases h⟩⟩
 case round=>
  obtain⟨k,left,st,acc,zM,rfl,rfl,hk,hacc,hleft,sW,bI,hown,hbel,hrest⟩:=hrel;clear hQ dh SA RI aU jo aQ;obtain⟨eI,c1,rfl,bp,vp⟩:=kU hown.out;have Hlen:=I (OX hown);have dB:=I bp;clear bp vp;cases zM with
  | false=>
   have ah:=I (hrest.out.2 rfl);clear hrest hown;go_wp2;go_ret2;rw[ah.out];exact⟨⟨_,_,rfl⟩,hbel⟩
  | true=>
   obtain⟨aQ,kE,h7,ff⟩:=hrest.out.1 rfl;have kO:=I kE;have py:=I h7;have lC:=I ff;clear kE h7 ff hrest;by_cases lj:k<n
   .have jS:st<2^log:=by rw[<-cI.out];exact aQ
    have xK:ji U log (n-k) (M%2^left) left st=if left<cc U log st then none else(ji U log (n-(k+1)) (M%2^left%2^(left-cc U log st)) (left-cc U log st) (ep U log st+M%2^left/2^(left-cc U log st))).map λl=>cD U log st :: l:=by
     rw[show n-k=(n-(k+1))+1 by omega,ji]
    rw[xK]at lC;clear xK;have jx:=AQ U log st bk.out jS;by_cases lK:left<cc U log st
    .rw[aA lK]at lC;have kd:=I (CF.out wr b left st hbel.out aQ lK kO);clear jx lK jS;generalize cD U log st=cM at *;go_wp2_with fail
     refine kd.out.mono ?_;rintro e Df ⟨⟨v,aE,rfl⟩,_,gu⟩;have Xv:=gu.size;have yt:=I (ZL hown.out gu (by omega));have wA:=I (hbel.out.grown gu hbel.out.size (λx e=>by injection e with e;omega));clear gu hown hbel kd;go_wp2_with (at_builtin;refine wpList_append_own _ rfl _ _ 87 rfl aB.heap.size 5 i0 (.int .u8 0) 1 1 underlying87 ax bB bK bw rfl (by decide) _ _ _ rfl (yt.out.alloc _) ⟨Df.heap.size,0,none⟩ 1 1 [.int .u8 cM] rfl rfl ?d1 ?d2 ?d3 ?d4 ?d5 ?_)
     case d1=>
      intro j u ar;match j,ar with
      | 0,ar=>simp at ar;subst ar;simp[Addr.add]
     case d2=>intro u hu;simp at hu;subst hu;rfl
     case d3=>unfold maxLen;omega
     case d4=>omega
     case d5=>simp;omega
     intro gZ dt di dn _;have jN:Below w.heap.size w dt:=(wA.out.alloc wA.out.size _).grown dn (by have:=wA.out.size;simp;omega) (λx e=>by have:=(yt.out.lt x e).1;omega);have e:aN acc++[Value.int .u8 cM]=aN (acc++[cM]):=by simp[aN]
     rw[e]at di;have sH:=OX di;have Ep:dG.heap.size<=dt.heap.size:=by have:=dn.size;simp at this;omega
     have jq:=I di;have nE:=I jN;clear di dn jN e;go_wp2;go_roundw
     case rel=>exact⟨k+1,left,v,acc++[cM],false,rfl,rfl,by omega,by simp[hacc],hleft,by omega,Ep,jq,nE,I ⟨λh=>(by cases h),λ_=>lC.out⟩⟩
     case measure=>rw[sH];show n-(k+1)<n-k;omega
    .rw[ay lK]at lC;have bb:cc U log st<=left:=by omega
     obtain⟨g1,g2⟩:=acY.out left _ bb (by omega);rw[g1,g2]at lC;have aE:=mod_lt (bd bs/2^(left-cc U log st)) (eW (cc U log st));have gS:ep U log st+bd bs/2^(left-cc U log st)%2^cc U log st<S:=by
      rw[cI.out];generalize 2^cc U log st=P at *;omega
     have kd:=I (iQ.out wr b left st hbel.out (by omega) aQ bb kO.out);clear jx lK jS g1 g2 aE;generalize cD U log st=cM at *;generalize ep U log st+bd bs/2^(left-cc U log st)%2^cc U log st=BX at *;generalize cc U log st=EG at *;go_wp2_with fail
     refine kd.out.mono ?_;rintro e Df ⟨rfl,XT,gu,Wm⟩;have Xv:=gu.size;have SB:=I XT;have J7:=I (Wm.trans py);have yt:=I (ZL hown.out gu (by omega));have wA:=I (hbel.out.grown gu hbel.out.size (λx e=>by injection e with e;omega));clear gu hown hbel kd XT Wm py kO;go_wp2_with (at_builtin;refine wpList_append_own _ rfl _ _ 87 rfl aB.heap.size 5 i0 (.int .u8 0) 1 1 underlying87 ax bB bK bw rfl (by decide) _ _ _ rfl (yt.out.alloc _) ⟨Df.heap.size,0,none⟩ 1 1 [.int .u8 cM] rfl rfl ?d1 ?d2 ?d3 ?d4 ?d5 ?_)
     case d1=>
      intro j u ar;match j,ar with
      | 0,ar=>simp at ar;subst ar;simp[Addr.add]
     case d2=>intro u hu;simp at hu;subst hu;rfl
     case d3=>unfold maxLen;omega
     case d4=>omega
     case d5=>simp;omega
     intro gZ dt di dn _;have jN:Below w.heap.size w dt:=(wA.out.alloc wA.out.size _).grown dn (by have:=wA.out.size;simp;omega) (λx e=>by have:=(yt.out.lt x e).1;omega);have e:aN acc++[Value.int .u8 cM]=aN (acc++[cM]):=by simp[aN]
     rw[e]at di;have sH:=OX di;have Ep:dG.heap.size<=dt.heap.size:=by have:=dn.size;simp at this;omega
     have vF:Df.grownBy (Df.alloc (.cells #[.int .u8 cM] 5)) none:=iD (dl _ _) _;have J8:=I ((World.cell?_of_block (a:=⟨b,0,none⟩) (vF.block b (by omega) (by simp))).trans J7.out);have SC:=I (SB.out.cG J7.out vF (by simp) (by simp));have l9:∀x,x<aB.heap.size->(Value.slice eI k c1).ownBlock≠some x:=λx ah e=>by have:=(yt.out.lt x e).1;omega
     have ad4:=I (SC.out.cG J8.out dn (l9 b (by omega)) (l9 g (by omega)));have adk:=I ((World.cell?_of_block (a:=⟨b,0,none⟩) (dn.block b (by simp;omega) (λe=>l9 b (by omega) e.symm))).trans J8.out);have jq:=I di;have nE:=I jN;clear di dn jN e vF J8 SC l9 SB J7 yt wA;go_wp2;go_roundw
     case rel=>
      refine⟨k+1,left-EG,BX,acc++[cM],true,rfl,rfl,by omega,by simp[hacc],by omega,by omega,Ep,jq,nE,I ⟨λ_=>⟨gS,ad4.out,adk.out,?_⟩,λh=>(by cases h)⟩⟩;rw[lC.out];cases ji U log (n-(k+1)) (M%2^(left-EG)) (left-EG) BX with
      | none=>rfl
      | some l=>simp
     case measure=>rw[sH];show n-(k+1)<n-k;omega
   .obtain rfl:k=n:=by omega
    rw[Nat.sub_self]at lC;have CK:=I (afk w.heap.size b left bs wr kO);clear kO py iQ CF;by_cases aO:st=0/\left=0
    .obtain⟨rfl,rfl⟩:=aO;have b2:=I (show r=some acc by rw[lC.out];simp[ji]);have e1:=I hacc;clear lC hacc hown;go_wp2_with fail
     refine CK.out.mono ?_;rintro e w' ⟨rfl,rfl⟩;go_wp2;go_ret2;rw[b2.out];exact⟨⟨eI,c1,by rw[e1.out];rfl,dB⟩,hbel⟩
    .have b2:=I (show r=none by rw[lC.out,ji,ay aO];rfl);clear lC hacc hown;by_cases vK:0<left
     .have d1:decide (0<left)=true:=bG vK;go_wp2_with fail
      refine CK.out.mono ?_;rintro e w' ⟨rfl,rfl⟩;go_wp2;go_ret2;rw[b2.out];exact⟨⟨_,_,rfl⟩,hbel⟩
     .have qx:0<st:=by omega
      obtain rfl:left=0:=by omega
      have d1:((st:Int) == 0)=false:=cz
      go_wp2_with fail
      refine CK.out.mono ?_;rintro e w' ⟨rfl,rfl⟩;go_wp2;go_ret2;rw[b2.out];exact⟨⟨_,_,rfl⟩,hbel⟩
theorem ahb(w:ai)(p:Addr)(U:ae)(log:Nat)(A:a7)(c:Nat)(bs:ae)(n:Int)(aL:ec U log)(aC:jr w p U log)(ap:bs.length<=10000)(cr:∀x∈bs,x<256)(aj:Reads w A (aN bs)) :
  Calls prog 211 #[.pointer (some p),.slice A bs.length c,.int .i64 n] w λe w'=>x9 w' e (iX U log bs n)/\Below w.heap.size w w':=by
 by_cases az:n<0\/1048576<n
 .have ah:iX U log bs n=none:=by
   unfold iX;cases nz bs with
   | none=>rfl
   | some t=>rw[Option.bind_some];unfold sl;rw[ay (by omega)]
  rw[ah];exact ahe w p U log A bs.length c n aL aC az
 .obtain⟨m,rfl⟩:=Int.eq_ofNat_of_zero_le (show 0<=n by omega);rcases am9 A c bs w ap cr aj with⟨b8,hc⟩ | ⟨M,L,b8,la,hval,bR,hc⟩
  .have ah:iX U log bs (m:Int)=none:=by unfold iX;rw[b8];rfl
   rw[ah];exact ahd w p U log A bs.length c m none false aL aC (by omega) (hc.mono λe w' ⟨he,ak⟩=>⟨he,ak,afQ w' _⟩)
  .by_cases lK:L<log
   .have ah:iX U log bs (m:Int)=none:=by
     unfold iX;rw[b8,Option.bind_some];unfold sl;rw[ay (by omega)]
    rw[ah];have dm:=aL.high;refine ahc w p U log A bs.length c m aL aC (by omega) (hc.mono λe w' ⟨b,he,kE,ak⟩=>⟨b,he,ak,Tm w.heap.size b L bs log w' (by omega) lK kE⟩)
   .obtain⟨q,rfl⟩:∃q,L=q+log:=⟨L-log,by omega⟩;have ah:iX U log bs (m:Int)=ji U log m (M%2^q) q (M/2^q):=by
     unfold iX;rw[b8,Option.bind_some];unfold sl;rw[aA ⟨rfl,by omega,by omega,by omega⟩,cY,Nat.add_sub_cancel]
    rw[ah];exact ahf w p U log A c m M q bs aL aC (by omega) ap cr la hval bR hc
theorem VY(x:Nat)(w:ai)(ah:x<4294967296) :
  Calls prog 196 #[.int .i64 x] w λe w'=>e=.returned (.int .i64 (ao.wid x))/\w=w':=by
 have H:=I (x6 x w ah);have ri:IntKind.u32.wrap (x:Int)=x:=by simp[IntKind.wrap,IntKind.bits,IntKind.signed];omega
 go_enter func196,ntmps196
 go_wp2_with fail
 refine H.out.mono ?_;rintro e w' ⟨rfl,rfl⟩;go_wp2;go_ret;exact⟨rfl,rfl⟩
theorem qt{w au aB:ai}{row:Option Nat}(h:w.grownBy au row)(af:au.grownBy aB row):w.grownBy aB row:=
 ⟨af.os.trans h.os,af.tape.trans h.tape,af.output.trans h.output,du h.size af.size,λi ax aX=>(af.block i (gV ax h.size) aX).trans (h.block i ax aX)⟩
theorem W3(log:Nat)(aR:5<=log)(dm:log<=9):32<=2^log/\2^log<=512:=
 ⟨dD (n:=2) (i:=5) (by omega) aR,dD (n:=2) (j:=9) (by omega) dm⟩
theorem aj7{w:ai}{A:a7}{l:ae}(h:Reads w A (aM l))(aX:0<l.length):∃g off,A=some ⟨g,off,none⟩/\∀j (ar:j<l.length),w.cell? ⟨g,off+j,none⟩=some (.int .i64 (l[j]:Int)):=by
 rw[<-jT]at h;obtain⟨g,off,e,hc⟩:=wb h (by simpa using aX);exact⟨g,off,e,λj ar=>by have:=hc j (by simpa using ar);simpa using this⟩
namespace ao
theorem ai6(l:ae):eK l 0=(0,0):=by cases l<;>simp[eK]
theorem ata:wid 0=0:=by decide +kernel
theorem ai5(x:Nat)(l:ae)(R:Nat)(h:x<=R):eK (x :: l) R=(x+(eK l (R-x)).1*2^wid R,wid R+(eK l (R-x)).2):=by
 rw[eK];split
 .next am=>
  subst am;obtain rfl:x=0:=by omega
  simp[ai6,ata]
 .rfl
theorem Iz(M x m k H:Nat):M+(x+H*2^k)*2^m=M+x*2^m+H*2^(m+k):=by
 rw[Nat.add_mul,Nat.mul_assoc,<-dM,Nat.add_comm k m,jb]
end ao
theorem ai2(w:ai)(b off N n:Nat)(A:a7)(c:Nat)(U:ae)(bW:Nat)(az:n<=100000)(dZ:dP w b off N n)(aj:Reads w A (aM U))(hA:∀a,A=some a->a.block≠b)(aL:ec U bW)
  (hfair:Calls prog 195 #[.slice A U.length c,.int .i64 bW] w λe w'=>e=.returned (.bool true)/\Below w.heap.size w w') :
  Calls prog 164 #[.pointer (some ⟨b,off,none⟩),.slice A U.length c,.int .i64 bW] w λe w'=>e=.returned (.bool true)/\dP w' b off (N+(fE U bW).1*2^n) (n+(fE U bW).2)/\w.grownBy w' (some b):=by
 have aR:=aL.low;have dm:=aL.high;have cJ:=W3 bW aR dm;have vL:=aL.len;have hsum:=aL.sum;have ri:IntKind.u32.wrap ((bW:Int)-5)=((bW-5:Nat):Int):=by simp[IntKind.wrap,IntKind.bits,IntKind.signed];omega
 have lP:wrap64 ((bW:Int)-5)=(bW:Int)-5:=rM _ (by omega) (by omega);obtain⟨T,cp⟩:∃T,T=N+(fE U bW).1*2^n:=⟨_,rfl⟩;obtain⟨C,j1⟩:∃C,C=n+(fE U bW).2:=⟨_,rfl⟩;rw[<-cp,<-j1];unfold fE at cp j1;dsimp only at cp j1;obtain⟨S,cu⟩:∃S,S=2^bW:=⟨_,rfl⟩;rw[<-cu]at cp j1 cJ hsum;have pP:(2:Int)^bW=(S:Int):=by rw[cu];simp
 have hw64:wrap64 (S:Int)=S:=rM _ (by omega) (by omega);have mW:=I cp;have kc:=I j1;have r9:=I dZ;have aU:=I aj;have ob:=I hA;have CD:=I hfair;have mA:Hid (∀(W:ai) (N n v m:Nat),n<=1000000000->v<4294967296->m<=32->dP W b off N n->Calls prog 99 #[.pointer (some ⟨b,off,none⟩),.int .u32 v,.int .i64 m] W λe w'=>e=.returned (.bool true)/\dP w' b off (N+v%2^m*2^n) (n+m)/\W.grownBy w' (some b)):=I (λW N n v m h1 af aq aJ=>E0 b off N n v m W h1 af aq aJ);clear cp j1 dZ aj hA aL hfair cu;go_enter func164,ntmps164
 go_wp2_with fail
 refine CD.out.mono ?_;rintro e au ⟨rfl,aH⟩;have cv:=I (dr aH (some b));have SI:=I (r9.out.below aH);have dx:=I (c9 aU.out aH);clear aH r9 aU CD;go_wp2_with fail
 refine(mA.out au N n (bW-5) 3 (by omega) (by omega) (by omega) SI.out).mono ?_;rintro e aB ⟨rfl,X9,bl⟩;have cN:=I (qt cv.out bl);have ad8:=I X9;have eA:Hid (∀W,au.grownBy W (some b)->Reads W A (aM U)):=I (λW aD aX=>by
  obtain⟨g,off,e,hc⟩:=dx.out aX;refine⟨g,off,e,λj ar=>?_⟩;have h1:=hc j ar;rw[bH ar]at h1 ⊢;exact(World.cell?_of_block (a:=⟨g,off+j,none⟩) (aD.block g (World.block_lt_of_cell? au _ h1) (λe2=>ob.out _ e (by injection e2)))).trans h1)
 have ac9:=I bl;clear X9 bl cv SI dx ri lP;go_wp2;clear pP hw64;have KK:Hid (∀(x:Nat) (W:ai),x<4294967296->Calls prog 196 #[.int .i64 x] W λe w'=>e=.returned (.int .i64 (ao.wid x))/\W=w'):=I VY;go_loopw [7,27] (λq i wr=>∃k R M m:Nat,k<=U.length/\i=.int .i64 k/\q=.int .i64 R/\R=(U.drop k).sum/\R<=512/\m<=n+3+10*k/\Hid (dP wr b off M m)/\Hid (au.grownBy wr (some b))/\Hid (w.grownBy wr (some b)) /\
  Hid (T=M+(eK (U.drop k) R).1*2^m/\C=m+(eK (U.drop k) R).2)) (λ_ i _=>U.length-(intOf i).toNat)
 case atStart=>
  refine⟨0,S,_,_,by omega,rfl,rfl,hsum.symm,by omega,by omega,ad8,ac9,cN,I ⟨?_,?_⟩⟩
  .rw[mW.out,drop_zero,mod_eq_of_lt (show bW-5<2^3 by omega)];exact ao.Iz N (bW-5) n 3 _
  .rw[kc.out,drop_zero];omega
 case round=>
  obtain⟨k,R,M,m,hk,rfl,rfl,cS,au0,hm,dZ,aZ,D1,htot⟩:=hrel;by_cases bb:k<U.length
  .have aG:=drop_eq_getElem_cons bb;rw[aG,sum_cons]at cS;obtain⟨g,awV,rfl,hc⟩:=aj7 (eA.out _ aZ.out) (by omega);have c0:=hc k bb;have uW:=I htot.out;rw[aG,ai5 U[k] (U.drop (k+1)) R (by omega)]at uW;have ym:Hid (R-U[k]=(U.drop (k+1)).sum):=I (by omega);have ah:U[k]<=R:=by omega
   clear hc htot aG cS;generalize U[k]=x at *;have xM:=wu R;have X7:=qN R 10 (by omega);have ri:IntKind.u32.wrap (x:Int)=x:=by simp[IntKind.wrap,IntKind.bits,IntKind.signed];omega
   have gF:=I (mA.out _ M m x (ao.wid R) (by omega) (by omega) (by omega) dZ.out);rw[mod_eq_of_lt (show x<2^ao.wid R by omega)]at gF;have Nw:((R-x:Nat):Int)=R-(x:Int):=by omega
   have akw:wrap64 ((R:Int)-x)=(R:Int)-x:=rM _ (by omega) (by omega);have eM:Hid (T=M+x*2^m+(eK (U.drop (k+1)) (R-x)).1*2^(m+ao.wid R)/\C=m+ao.wid R+(eK (U.drop (k+1)) (R-x)).2):=I ⟨by rw[uW.out.1];exact ao.Iz _ _ _ _ _,by rw[uW.out.2];dsimp only;omega⟩;clear uW xM;have fP:=I (KK.out R wr (by omega));generalize ao.wid R=wd at *;go_wp2_with fail
   refine fP.out.mono ?_;rintro e w' ⟨rfl,rfl⟩;go_wp2_with fail
   refine gF.out.mono ?_;rintro e a1 ⟨rfl,xN,cs⟩;have AF:=I xN;have jf:=I (qt aZ.out cs);have adh:=I (qt D1.out cs);clear xN cs dZ aZ D1 gF;go_wp2;go_roundw
   case rel=>exact⟨k+1,R-x,_,_,by omega,by go_num,by rw[Nw],ym.out,by omega,by omega,AF,jf,adh,eM⟩
   case measure=>simp[intOf];omega
  .obtain rfl:k=U.length:=by omega
   have eM:=htot.out;rw[drop_length]at eM;simp only[eK,Nat.zero_mul,ga]at eM;obtain⟨rfl,rfl⟩:=eM;go_wp2;go_ret;exact⟨rfl,dZ,D1⟩
theorem ahz{A:a7}{c:Nat}{l:List Int}{log:Int}{w:ai}(hl:l.length<=1000000)(cW:∀x∈l,en x)(mQ:en log)(aj:Reads w A (gL l))(aL:ao.Fair l log) :
  Calls prog 195 #[.slice A l.length c,.int .i64 log] w λe w'=>e=.returned (.bool true)/\Below w.heap.size w w':=by
 have h1:=OH A c l log w hl cW mQ aj;rw[show qp l log=true from bG aL]at h1;exact h1
theorem ai3(w:ai)(b off N n:Nat)(A:a7)(c:Nat)(l:List Int)(log:Int)(az:n<=100000)(dZ:dP w b off N n)(hl:l.length<=1000000)(cW:∀x∈l,en x)(mQ:en log)(aj:Reads w A (gL l))(hA:∀a,A=some a->l≠[]->a.block≠b)(aL:ao.Fair l log) :
  Calls prog 164 #[.pointer (some ⟨b,off,none⟩),.slice A l.length c,.int .i64 log] w λe w'=>e=.returned (.bool true)/\dP w' b off (N+(fE (l.map Int.toNat) log.toNat).1*2^n) (n+(fE (l.map Int.toNat) log.toNat).2)/\w.grownBy w' (some b):=by
 have y6:=ahz (c:=c) hl cW mQ aj aL;have kA:=LH l log aL;have hmap:=Ur l log aL;have sI:(log.toNat:Int)=log:=by have:=aL.1;omega
 have aX:l≠[]:=by
  rintro rfl;have h1:=kA.sum;have af:=eW log.toNat;simp at h1;omega
 have h8:aM (l.map Int.toNat)=gL l:=by rw[<-jT,hmap]
 have hlen:(l.map Int.toNat).length=l.length:=by simp
 rw[<-h8]at aj;have h:=ai2 w b off N n A c (l.map Int.toNat) log.toNat az dZ aj (λa e=>hA a e aX) kA (by rw[hlen,sI];exact y6);rw[hlen,sI]at h;exact h
theorem aty(c:Nat)(w:ai)(hc:c<256):Calls prog 184 #[.int .u8 c] w λe w'=>e=.returned (.bool (decide (28<=c)))/\w=w':=by
 obtain⟨r,aj⟩:∃r,r=decide (28<=c):=⟨_,rfl⟩;have d1:decide (28<=c)=r:=aj.symm;have d2:decide ((28:Int)<=c)=r:=by rw[aj];exact decide_eq_decide.2 (by omega)
 rw[<-aj];clear aj;go_enter func184,ntmps184
 go_wp2;go_ret;exact⟨rfl,rfl⟩
theorem ahn:∀args w,(callFunc 184 args).run prog w=.ok (.enter 184 args) w:=enters_of func184 (by kernel_rfl) rfl
theorem atz(A:a7)(c:Nat)(l:ae)(w:ai)(hl:l.length<=1000000)(av:∀x∈l,x<256)(aj:Reads w A (aN l)) :
  Calls prog 212 #[.slice A l.length c,.func (.func 184) #[] #[]] w λe w'=>(∃r:Int,e=.returned (.int .i64 r)/\decide (0<=r)=decide (¬∀x∈l,x<28))/\w=w':=by
 have e1:=I (λa (h:a<256)=>aty a w h);have mJ:=ahn;have aU:=I aj;have b5:=I av;obtain⟨n,az⟩:∃n,n=l.length:=⟨_,rfl⟩;have bX:=I az;rw[<-az]at hl ⊢;clear aj av az;go_enter func212,ntmps212
 go_wp2;go_loopw [5,8] (λ_ i wr=>wr=w/\∃k:Nat,i=.int .i64 k/\k<=n/\Hid (∀x∈l.take k,x<28)) (λ_ i _=>n-(intOf i).toNat)
 case atStart=>exact⟨rfl,0,rfl,zero_le _,I (by simp)⟩
 case round=>
  obtain⟨rfl,k,rfl,hk,hall⟩:=hrel;by_cases bb:k<n
  .have hkl':k<l.length:=by rw[<-bX.out];exact bb
   obtain⟨g,off,rfl,hc⟩:=nA aU.out (by intro e;rw[e]at hkl';simp at hkl');have c1:=hc k hkl';have ah:=b5.out l[k] (b7 hkl');have gg:=I (b7 hkl');have ek:Hid (l.take (k+1)=l.take k++[l[k]]):=I (by rw[take_add_one,bH hkl'];rfl);clear hc;generalize l[k]=x at *;have ce:=I (e1.out x ah);by_cases et:28<=x
   .rw[bG et]at ce;have bt:Hid (decide (0<=(k:Int))=decide (¬∀y∈l,y<28)):=I (by
     rw[bG (by omega:(0:Int)<=k),bG];exact λh=>by have:=h x gg.out;omega)
    clear hall e1 et ek aU;go_wp2_with fail
    refine ce.out.mono ?_;rintro e w' ⟨rfl,rfl⟩;go_wp2;go_ret;exact⟨⟨_,rfl,bt⟩,rfl⟩
   .rw[bF et]at ce;have rS:Hid (∀y∈l.take (k+1),y<28):=I (λy hy=>by
     rw[ek.out]at hy;rcases List.mem_append.1 hy with hy | hy
     .exact hall.out y hy
     .rw[List.mem_singleton.1 hy];omega)
    clear hall e1 et ek aU;go_wp2_with fail
    refine ce.out.mono ?_;rintro e w' ⟨rfl,rfl⟩;go_wp2;go_roundw
    case rel=>exact⟨trivial,k+1,by go_num,by omega,rS⟩
    case measure=>simp[intOf];omega
  .have lj:k=n:=by omega
   have bt:Hid (decide (0<=(-1:Int))=decide (¬∀y∈l,y<28)):=I (by
    have h:=hall.out;rw[lj,bX.out,take_length]at h;rw[bF (by omega),bF (λhh=>hh h)])
   have vj:decide ((k:Int)<n)=false:=aT;clear hall e1 lj;go_wp2;go_ret;exact⟨⟨_,rfl,bt⟩,rfl⟩
theorem atu(A:a7)(c:Nat)(l:ae)(w:ai)(hl:l.length<=1000000)(av:∀x∈l,x<256)(aj:Reads w A (aN l)) :
  Calls prog 183 #[.slice A l.length c,.func (.func 184) #[] #[]] w λe w'=>e=.returned (.bool (decide (¬∀x∈l,x<28)))/\w=w':=by
 have qV:=I (atz A c l w hl av aj);clear av aj;generalize decide (¬∀x∈l,x<28)=r at *;go_enter func183,ntmps183
 go_wp2_with fail
 refine qV.out.mono ?_;rintro e w' ⟨⟨z,rfl,aO⟩,rfl⟩;clear qV;go_wp2;go_ret;exact⟨rfl,rfl⟩
theorem aoy(A:a7)(c:Nat)(l:ae)(w:ai)(hl:l.length<=1000000)(av:∀x∈l,x<256)(aj:Reads w A (aN l)) :
  Calls prog 147 #[.slice A l.length c] w λe w'=>e=.returned (.bool (decide (∀x∈l,x<28)))/\w=w':=by
 have ax:=atu A c l w hl av aj;have aG:decide (¬∀x∈l,x<28)=!decide (∀x∈l,x<28):=decide_not;rw[aG]at ax;have qV:=I ax;clear av aj ax aG;generalize decide (∀x∈l,x<28)=r at *;go_enter func147,ntmps147
 go_wp2_with fail
 refine qV.out.mono ?_;rintro e w' ⟨rfl,rfl⟩;clear qV;cases r <;>
 .go_wp2;go_ret;exact⟨rfl,rfl⟩
theorem ab9(b pos:Nat)(bs:ae)(w:ai)(ap:bs.length<=100000)(cr:∀x∈bs,x<256)(aw:pos<=8*bs.length)(h:eB w b 0 bs pos) :
  Calls prog 151 #[.pointer (some ⟨b,0,none⟩)] w λe w'=>e=.returned (.bool (decide (8*bs.length-pos<8/\bd bs/2^pos=0)))/\w.grownBy w' (some b):=by
 obtain⟨m,hm⟩:∃m,m=8*bs.length-pos:=⟨_,rfl⟩;have hle:Calls prog 188 #[.pointer (some ⟨b,0,none⟩)] w λe w'=>e=.returned (.int .i64 m)/\∃k,w'=w.drewN k:=by rw[hm];exact H0 b 0 bs pos w (by omega) aw h
 have m7:=I hle;rw[<-hm];by_cases fK:m<8
 .have aC:=λk=>(ux b 0 bs pos m (w.drewN k) (by omega) cr (by omega) (by omega) (h.drewN k)).mono λe w' (hh:_/\_/\_)=>(⟨hh.1,qt (qq (dl w (some b)) k) hh.2.2⟩:_/\w.grownBy w' (some b))
  have aE:bd bs/2^pos%2^m=bd bs/2^pos:=by
   apply mod_eq_of_lt
   have h1:=po bs cr;rw[ib,show 8*bs.length=m+pos by omega,dM]at h1;exact(div_lt_iff_lt_mul (Nat.pow_pos (by omega))).2 h1
  rw[aE]at aC;have eM:=I aC;clear aC;generalize bd bs/2^pos=v at *;have d1:decide ((m:Int)<8)=true:=cl;have d2:decide (m<8)=true:=bG fK;obtain⟨r,aj⟩:∃r,r=decide (m<8/\v=0):=⟨_,rfl⟩;have d3:((v:Int) == 0)=r:=by
   rw[aj];by_cases Ey:v=0
   .subst Ey;simp[fK]
   .rw[bF (λhh=>Ey hh.2),beq_eq_false_iff_ne];omega
  rw[<-aj];clear hle aE h cr hm aj fK;go_enter func151,ntmps151
  go_wp2_with fail
  refine m7.out.mono ?_;rintro e w' ⟨rfl,k,rfl⟩;go_wp2_with fail
  refine(eM.out k).mono ?_;rintro e aB ⟨rfl,bl⟩;have cN:=I bl;clear bl eM m7;go_wp2;go_ret;exact⟨rfl,cN⟩
 .have aC:∀k,Calls prog 177 #[.pointer (some ⟨b,0,none⟩),.int .i64 m] (w.drewN k) λe w'=>(∃(v:Nat) (z:Bool),e=.returned (.tuple #[.int .u32 v,.bool z]))/\w.grownBy w' (some b):=λk=>by
   by_cases LS:m<=32
   .exact(ux b 0 bs pos m (w.drewN k) (by omega) cr LS (by omega) (h.drewN k)).mono λe w' ⟨he,_,aD⟩=>⟨⟨_,_,he⟩,qt (qq (dl w (some b)) k) aD⟩
   .exact(abH ⟨b,0,none⟩ (m:Int) (w.drewN k) (Or.inr (by omega))).mono λe w' ⟨he,hw⟩=>⟨⟨0,false,he⟩,hw▸qq (dl w (some b)) k⟩
  have eM:=I aC;have d1:decide ((m:Int)<8)=false:=aT;have d2:decide (m<8)=false:=bF fK;have d3:decide (m<8/\bd bs/2^pos=0)=false:=bF (λhh=>fK hh.1);rw[d3];clear hle aC h cr hm fK d3;go_enter func151,ntmps151
  go_wp2_with fail
  refine m7.out.mono ?_;rintro e w' ⟨rfl,k,rfl⟩;go_wp2_with fail
  refine(eM.out k).mono ?_;rintro e aB ⟨⟨v,z,rfl⟩,bl⟩;have cN:=I bl;clear bl eM m7;go_wp2;go_ret;exact⟨rfl,cN⟩
def Wz:Value->Nat
 | .slice _ n _=>n
 | _=>0
theorem ajU{w w':ai}{base b:Nat}{e:TypeId}{v:Value}{n:Nat}{xs:b3}(h:w.ownsRow base e 1 v n xs)(aD:w.grownBy w' (some b))(ak:b<base):w'.ownsRow base e 1 v n xs:=
 h.kept aD (by
  cases aE:v.ownBlock with
  | none=>exact .inl rfl
  | some x=>exact .inr (λe=>by injection e with e;have:=(h.lt x aE).1;omega))
theorem WT{w:ai}{base:Nat}{e:TypeId}{v:Value}{n:Nat}{xs:b3}(h:w.ownsRow base e 1 v n xs):Wz v=n:=by
 rcases h.2 with⟨rfl,am⟩ | ⟨g,cap,fg,rfl,_⟩
 .exact am.symm
 .rfl
def KR(hC:Nat)(w':ai)(e:Ending):Option (ae×Nat×Nat)->Prop
 | none=>∃A c,e=.returned (.tuple #[.slice A 0 c,.int .i64 0,.bool false])
 | some t=>∃A c,e=.returned (.tuple #[.slice A t.1.length c,.int .i64 (t.2.1:Int),.bool true])/\Reads w' A (aM t.1)/\∀a,A=some a->hC<=a.block
def aeq(hC:Nat)(w':ai)(e:Ending)(b off:Nat)(bs:ae):Option (ae×Nat)->Prop
 | none=>e=.returned (.tuple #[.slice none 0 0,.bool false])
 | some t=>∃A c,e=.returned (.tuple #[.slice A t.1.length c,.bool true])/\(Reads w' A (aM t.1)/\∀a,A=some a->hC<=a.block)/\eB w' b off bs (8*bs.length-t.2)
namespace ao
theorem arO(f N len:Nat):takeN f 0 N len=some ([],len):=by cases f<;>simp[takeN]
theorem arM(f R N len:Nat)(am:0<R)(h:len<wid R):takeN f R N len=none:=by
 cases f with
 | zero=>rw[takeN,ay (by omega)]
 | succ f=>rw[takeN,ay (by omega),aA h]
theorem arL(f R N len:Nat)(am:0<R)(h:R<N%2^wid R):takeN f R N len=none:=by
 cases f with
 | zero=>rw[takeN,ay (by omega)]
 | succ f=>rw[takeN,ay (by omega)];split<;>rfl
theorem arN(f R V p L:Nat)(am:0<R)(aw:p+wid R<=L)(h:V/2^p%2^wid R<=R) :
  takeN (f+1) R (V/2^p) (L-p)=(takeN f (R-V/2^p%2^wid R) (V/2^(p+wid R)) (L-(p+wid R))).map λt=>(V/2^p%2^wid R :: t.1,t.2):=by
 rw[takeN,ay (by omega),ay (by omega),ay (by omega),km,<-dM,Nat.sub_sub]
end ao
theorem ai1(w:ai)(b off pos rest:Nat)(bs:ae)(ap:bs.length<=100000)(cr:∀x∈bs,x<256)(aw:pos<=8*bs.length)(hrest:rest<=512)(cO:eB w b off bs pos) :
  Calls prog 232 #[.pointer (some ⟨b,off,none⟩),.int .i64 rest] w λe w'=>aeq w.heap.size w' e b off bs (ao.takeN 256 rest (bd bs/2^pos) (8*bs.length-pos))/\w.grownBy w' (some b):=by
 obtain⟨i0,ax,bB,bK,bw⟩:=info_parts oF;obtain⟨r,aj⟩:∃r,r=ao.takeN 256 rest (bd bs/2^pos) (8*bs.length-pos):=⟨_,rfl⟩;rw[<-aj];have aU:=I aj;have l1:=I cO;have dY:b<w.heap.size:=cO.2.2.2;have KK:Hid (∀(x:Nat) (W:ai),x<4294967296->Calls prog 196 #[.int .i64 x] W λe w'=>e=.returned (.int .i64 (ao.wid x))/\W=w'):=I VY;have CF:Hid (∀W p m,p<=8*bs.length->m<=32->8*bs.length-p<m->eB W b off bs p->Calls prog 177 #[.pointer (some ⟨b,off,none⟩),.int .i64 m] W λe w'=>e=.returned (.tuple #[.int .u32 0,.bool false])/\∃k,w'=W.drewN k):=I (λW p m h1 af aq aJ=>Fm b off bs p m W (by omega) h1 af aq aJ);have r7:Hid (∀W p m,m<=32->p+m<=8*bs.length->eB W b off bs p->Calls prog 177 #[.pointer (some ⟨b,off,none⟩),.int .i64 m] W λe w'=>e=.returned (.tuple #[.int .u32 ((bd bs/2^p%2^m:Nat):Int),.bool true])/\eB w' b off bs (p+m)/\W.grownBy w' (some b)):=I (λW p m h1 af aq=>ux b off bs p m W (by omega) cr h1 af aq);clear aj cO cr;generalize bd bs=V at *;generalize bR:8*bs.length=L at *;have oS:=I bR;clear bR;go_enter func232,ntmps232
 go_wp2;go_loopw [1,6] (λq u wr=>∃(R p:Nat) (acc:ae),q=.int .i64 R/\R<=512/\p<=L/\acc.length<=256/\w.heap.size<=wr.heap.size/\Hid (wr.ownsRow w.heap.size 3 1 u acc.length (aM acc))/\Hid (eB wr b off bs p)/\Hid (w.grownBy wr (some b)) /\
  Hid (r=(ao.takeN (256-acc.length) R (V/2^p) (L-p)).map λt=>(acc++t.1,t.2))) (λ_ u _=>256-Wz u)
 case atStart=>
  refine⟨rest,pos,[],rfl,hrest,aw,by simp,Nat.le_refl _,I (World.ownsRow_nil w _ _ _),l1,I (dl _ _),I ?_⟩;rw[aU.out];cases ao.takeN 256 rest (V/2^pos) (L-pos)<;>simp_all
 case round=>
  obtain⟨R,p,acc,rfl,cS,ajX,hacc,bI,hown,cO,aD,hres⟩:=hrel;clear aU l1;obtain⟨eI,c1,rfl,bp,vp⟩:=kU hown.out;have dB:=I bp;have Jt:=I (λa e=>(vp a e).1);clear vp;have hlen:=WT hown.out;have Hlen:=I hlen;clear bp hlen;by_cases Bb:R=0
  .subst Bb;have b2:=I hres.out;rw[arO]at b2;clear hres hown;go_wp2;go_ret2;rw[b2.out];refine⟨⟨eI,c1,?_,?_,?_⟩,aD⟩
   .simp
   .exact⟨by simpa using dB.out,Jt.out⟩
   .rw[oS.out,show L-(L-p)=p by omega];exact cO.out
  .have X7:=qN R 10 (by omega);have fP:=I (KK.out R wr (by omega));have d0:decide ((0:Int)<R)=true:=cl;by_cases lK:L-p<ao.wid R
   .have b2:Hid (r=none):=I (by rw[hres.out,arM _ _ _ _ (by omega) lK];rfl);have bk:=I (CF.out wr p (ao.wid R) ajX (by omega) lK cO.out);clear hres hown lK cO;generalize ao.wid R=wd at *;go_wp2_with fail
    refine fP.out.mono ?_;rintro e w' ⟨rfl,rfl⟩;go_wp2_with fail
    refine bk.out.mono ?_;rintro e w' ⟨rfl,q,rfl⟩;go_wp2;go_ret2;rw[b2.out];exact⟨rfl,qq aD.out q⟩
   .have eM:=I (r7.out wr p (ao.wid R) (by omega) (by omega) cO.out);have aE:=mod_lt (V/2^p) (eW (ao.wid R));have auX:2^ao.wid R<=2^10:=dD (by omega) X7;have aus:(2:Nat)^10=1024:=by decide
    by_cases aiE:R<V/2^p%2^ao.wid R
    .have b2:Hid (r=none):=I (by rw[hres.out,arL _ _ _ _ (by omega) aiE];rfl);clear hres hown;generalize V/2^p%2^ao.wid R=x at *;generalize ao.wid R=wd at *;generalize 2^wd=P at *;have rh:IntKind.i64.wrap (x:Int)=x:=IntWalk.i64_in _ (by omega);have d1:decide ((R:Int)<x)=true:=cl;go_wp2_with fail
     refine fP.out.mono ?_;rintro e w' ⟨rfl,rfl⟩;go_wp2_with fail
     refine eM.out.mono ?_;rintro e a1 ⟨rfl,rv,cs⟩;have jf:=I (qt aD.out cs);clear rv cs;go_wp2;go_ret2;rw[b2.out];exact⟨rfl,jf⟩
    .by_cases hfull:acc.length=256
     .have b2:Hid (r=none):=I (by rw[hres.out,hfull,ao.takeN,ay Bb];rfl);clear hres hown;generalize V/2^p%2^ao.wid R=x at *;generalize ao.wid R=wd at *;generalize 2^wd=P at *;have rh:IntKind.i64.wrap (x:Int)=x:=IntWalk.i64_in _ (by omega);have d1:decide ((R:Int)<x)=false:=aT;rw[hfull]at *;go_wp2_with fail
      refine fP.out.mono ?_;rintro e w' ⟨rfl,rfl⟩;go_wp2_with fail
      refine eM.out.mono ?_;rintro e a1 ⟨rfl,rv,cs⟩;have jf:=I (qt aD.out cs);clear rv cs;go_wp2;go_ret2;rw[b2.out];exact⟨rfl,jf⟩
     .have bt:=I hres.out;rw[show 256-acc.length=(256-(acc.length+1))+1 by omega,arN _ _ _ _ _ (by omega) (by omega) (by omega)]at bt;clear hres;generalize V/2^p%2^ao.wid R=x at *;generalize ao.wid R=wd at *;generalize 2^wd=P at *;generalize az:acc.length=n at *;have bX:=I az;clear az;have rh:IntKind.i64.wrap (x:Int)=x:=IntWalk.i64_in _ (by omega);have d1:decide ((R:Int)<x)=false:=aT;have d2:((n:Int) == 256)=false:=cz
      have Nw:((R-x:Nat):Int)=R-(x:Int):=by omega
      have akw:wrap64 ((R:Int)-x)=(R:Int)-x:=rM _ (by omega) (by omega);go_wp2_with fail
      refine fP.out.mono ?_;rintro e w' ⟨rfl,rfl⟩;go_wp2_with fail
      refine eM.out.mono ?_;rintro e a1 ⟨rfl,rv,cs⟩;have jf:=I (qt aD.out cs);have yA:=I rv;have mw:=I (ajU hown.out cs dY);have sT:=cs.size;clear rv cs cO aD hown eM;go_wp2_with (at_builtin;refine wpList_append_own _ rfl _ _ 112 rfl w.heap.size 3 i0 (.int .i64 0) 1 8 underlying112 ax bB bK bw rfl (by decide) _ _ _ rfl (mw.out.alloc _) ⟨a1.heap.size,0,none⟩ 1 1 [.int .i64 x] rfl rfl ?d1 ?d2 ?d3 ?d4 ?d5 ?_)
      case d1=>
       intro j u ar;match j,ar with
       | 0,ar=>simp at ar;subst ar;simp[Addr.add]
      case d2=>intro u hu;simp at hu;subst hu;rfl
      case d3=>unfold maxLen;omega
      case d4=>omega
      case d5=>simp;omega
      intro gZ dt di dn _;have ub:a1.grownBy (a1.alloc (.cells #[.int .i64 x] 3)) (some b):=iD (dl _ _) _;have l9:(Value.slice eI n c1).ownBlock≠some b:=λe=>by have:=(mw.out.lt b e).1;omega
      have Ku:=I (eB.keep (eB.keep yA.out (iD (dl a1 none) (.cells #[.int .i64 x] 3)) (by simp)) dn l9);have wI:Hid (w.grownBy dt (some b)):=I (by
       have h1:=qt jf.out ub;refine⟨dn.os.trans h1.os,dn.tape.trans h1.tape,dn.output.trans h1.output,du h1.size dn.size,λi zc aX=>?_⟩;rw[<-h1.block i zc aX];exact dn.block i (gV zc h1.size) (λe=>by have:=(mw.out.lt i e.symm).1;omega))
      have e:aM acc++[Value.int .i64 x]=aM (acc++[x]):=by simp[aM]
      rw[e]at di;have sH:=WT di;have Ep:w.heap.size<=dt.heap.size:=wI.out.size;have jq:=I di;have Ao:Hid ((acc++[x]).length=n+1):=I (by rw[aY,bX.out];rfl);clear di dn e ub l9 mw jf yA;go_wp2;go_roundw
      case rel=>
       refine⟨R-x,p+wd,acc++[x],by rw[Nw],by omega,by omega,by rw[Ao.out];omega,Ep,by rw[Ao.out];exact jq,Ku,wI,I ?_⟩;rw[bt.out,Ao.out];cases ao.takeN (256-(n+1)) (R-x) (V/2^(p+wd)) (L-(p+wd))with
       | none=>rfl
       | some t=>simp
      case measure=>rw[sH];show 256-(n+1)<256-n;omega
theorem ai7(w:ai)(b off pos:Nat)(bs:ae)(ap:bs.length<=100000)(cr:∀x∈bs,x<256)(aw:pos<=8*bs.length)(cO:eB w b off bs pos) :
  Calls prog 223 #[.pointer (some ⟨b,off,none⟩)] w λe w'=>KR w.heap.size w' e (ao.takeA (bd bs/2^pos) (8*bs.length-pos))/\w.grownBy w' (some b) /\
   ∀t,ao.takeA (bd bs/2^pos) (8*bs.length-pos)=some t->eB w' b off bs (8*bs.length-t.2.2):=by
 unfold ao.takeA;by_cases lK:8*bs.length-pos<3
 .rw[aA lK];have bk:=I (Fm b off bs pos 3 w (by omega) aw (by omega) lK cO);clear cO cr;go_enter func223,ntmps223
  go_wp2_with fail
  refine bk.out.mono ?_;rintro e w' ⟨rfl,q,rfl⟩;go_wp2;go_ret3
  exact⟨⟨_,_,rfl⟩,qq (dl _ _) q,λt h=>by cases h⟩
 .rw[ay lK];have aC:=ux b off bs pos 3 w (by omega) cr (by omega) (by omega) cO;have hm:=mod_lt (bd bs/2^pos) (eW 3);have fK:(2:Nat)^3=8:=by decide
  by_cases aJ:4<bd bs/2^pos%2^3
  .rw[aA aJ];have eM:=I aC;clear aC cO cr;generalize bd bs/2^pos%2^3=x at *;have rh:IntKind.i64.wrap (x:Int)=x:=IntWalk.i64_in _ (by omega);have aks:wrap64 (5+(x:Int))=5+(x:Int):=rM _ (by omega) (by omega);have d1:decide ((9:Int)<5+(x:Int))=true:=cl;go_enter func223,ntmps223
   go_wp2_with fail
   refine eM.out.mono ?_;rintro e w' ⟨rfl,_,aD⟩;have kp:=I aD;clear aD;go_wp2;go_ret3
   exact⟨⟨_,_,rfl⟩,kp,λt h=>by cases h⟩
  .rw[ay aJ];have cJ:=W3 (5+bd bs/2^pos%2^3) (by omega) (by omega);have F2:=I (λW (h:eB W b off bs (pos+3))=>ai1 W b off (pos+3) (2^(5+bd bs/2^pos%2^3)) bs ap cr (by omega) cJ.2 h);rw[dM (m:=pos) (n:=3),<-km,<-Nat.sub_sub]at F2;have eM:=I aC;clear aC cO cr;generalize aj:ao.takeN 256 (2^(5+bd bs/2^pos%2^3)) (bd bs/2^pos/2^3) (8*bs.length-pos-3)=r at *;clear aj;generalize bd bs/2^pos%2^3=x at *;have rh:IntKind.i64.wrap (x:Int)=x:=IntWalk.i64_in _ (by omega);have aks:wrap64 (5+(x:Int))=5+(x:Int):=rM _ (by omega) (by omega);have d1:decide ((9:Int)<5+(x:Int))=false:=aT;have d2:decide (5+(x:Int)<0)=false:=aT;have aws:(5+(x:Int)).toNat=5+x:=by omega
   have pP:(2:Int)^(5+x)=((2^(5+x):Nat):Int):=by simp
   have acp:Hid (5+(x:Int)=((5+x:Nat):Int)):=I (by omega);obtain⟨S,cu⟩:∃S,S=2^(5+x):=⟨_,rfl⟩;rw[<-cu]at cJ pP F2;have hw64:wrap64 (S:Int)=S:=rM _ (by omega) (by omega);clear cu;go_enter func223,ntmps223
   go_wp2_with fail
   refine eM.out.mono ?_;rintro e au ⟨rfl,Xp,aZ⟩;have qX:=I (F2.out au Xp);have cv:=I aZ;have nI:=I aZ.size;clear Xp aZ F2 eM;cases r with
   | none=>
    go_wp2_with fail
    refine qX.out.mono ?_;rintro e aB ⟨rfl,bl⟩;have cN:=I (qt cv.out bl);clear bl;go_wp2;go_ret3
    exact⟨⟨_,_,rfl⟩,cN,λt h=>by cases h⟩
   | some t=>
    go_wp2_with fail
    refine qX.out.mono ?_;rintro e aB ⟨⟨A,c,rfl,bp,ru⟩,bl⟩;have cN:=I (qt cv.out bl);have dB:=I bp;have wU:=I ru;clear bl bp ru;go_wp2;go_ret3
    refine⟨⟨A,c,?_,dB.out.1,λa e=>du nI.out (dB.out.2 a e)⟩,cN,λt h=>?_⟩
    .rw[acp.out];rfl
    .injection h with h
     subst h;exact wU.out
end Go.Proofs.YtgiicohbigiapaaGreat
