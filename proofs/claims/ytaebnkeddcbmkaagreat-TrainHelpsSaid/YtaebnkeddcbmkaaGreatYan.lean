/- Contracts, and what they rest on. Conditions: the theorems' premises. -/
import Derived.Test.YtaebnkeddcbmkaaGreatYaj
set_option maxHeartbeats 4000000
set_option maxRecDepth 100000
open Go.Lib(hid)
open Go.Proofs.Tryz Go.Proofs.YtaebnkeddcbmkaaGreat.Bm
namespace Go.Proofs.YtaebnkeddcbmkaaGreat
open Go.RowKit
theorem VI{w:World}{g off:Nat}{xs:List Value}(h:Reads w (some ⟨g,off,none⟩) xs)(hne:xs≠[]):g<w.heap.size:=by
 obtain⟨g',off',e,hc⟩:=h hne;injection e with e
 injection e with e1 e2
 subst e1 e2;have h0:0<xs.length:=List.length_pos_iff.2 hne;have h1:=hc 0 h0;rw[List.getElem?_eq_getElem h0]at h1;exact World.block_lt_of_cell? w _ h1
namespace Bm
def syms(ls:List Nat)(log K:Nat):List Nat:=(ph1 ls log K).map (·.1)
theorem lN(ls:List Nat)(log K:Nat):(syms ls log K).length=2^log:=by simp[syms,nU]
theorem WT(ls:List Nat)(log:Nat):syms ls log 0=List.replicate (2^log) 0:=by simp[syms,aaA]
theorem WR(ls:List Nat)(log K s:Nat)(h5:5<=log)(h9:log<=9)(hK:K<2^log)(hs:(dJ 0 ls)[K]?=some s):syms ls log (K+1)=(syms ls log K).set (tL log K) s:=by
 obtain⟨h,e⟩:=aaz ls log K s h5 h9 hK hs;unfold syms;rw[e,List.map_set]
theorem abF(ls:List Nat)(log:Nat):syms ls log (2^log)=tab ls log:=by
 unfold syms tab ph1;rw[List.map_map];apply List.map_congr_left
 intro p _;simp[ada]
theorem WC(a S:Nat):((a:Int)+((S:Int)/2+(S:Int)/8+3))%(S:Int)=(((a+(S/2+S/8+3))%S:Nat):Int):=by
 rw[Int.natCast_emod];congr 1
end Bm
theorem aff:(prog.info? 5).map (fun i=>(i.zero,i.size,i.bytes))=some (some (.int .u8 0),1,1):=by kernel_rfl
theorem Kl(A:Option Addr)(c:Nat)(ls:List Nat)(log:Nat)(w:World)(hf:bN ls log)(hr:Reads w A (aM ls)) :
  Calls prog 179 #[.slice A ls.length c,.int .i64 ((2^log:Nat):Int)] w fun e w'=>∃g,e=.returned (.slice (some ⟨g,0,none⟩) (2^log) (2^log))/\w.heap.size<=g/\Row w' g 5 (u8s (Bm.tab ls log))/\Below w.heap.size w w':=by
 obtain⟨i0,hi,hz0,hz1,hz2⟩:=info_parts aff;have aiZ:=hf.low;have aja:=hf.high;have hlen:=hf.len;obtain⟨S,hS⟩:∃S,S=2^log:=⟨_,rfl⟩;have aqM:32<=S:=by rw[hS];exact Nat.pow_le_pow_right (n:=2) (by omega) aiZ
 have apP:S<=512:=by rw[hS];exact Nat.pow_le_pow_right (n:=2) (by omega) aja
 have hsum:ls.sum=S:=by rw[hS];exact hf.sum
 have hls:∀s (h:s<ls.length),∃g off,A=some ⟨g,off,none⟩/\w.cell? ⟨g,off+s,none⟩=some (.int .i64 (ls[s]:Int))/\g<w.heap.size:=fun s h=>by
  obtain⟨g,off,e,hc⟩:=hr (by intro e;have:=congrArg List.length e;rw[aN,List.length_nil]at this;omega);have h1:=hc s (by rw[aN];exact h);rw[bK ls s h]at h1;exact⟨g,off,e,h1,World.block_lt_of_cell? w _ h1⟩
 have Hls:=hid hls;have HS:=hid hS;have adV:=hid hsum;clear hf hr hls hS hsum;obtain⟨g0,hg0⟩:∃g,g=w.heap.size:=⟨_,rfl⟩;have Hg0:=hid hg0;clear hg0;rw[<-HS.out];go_enter func179,ntmps179
 go_wp2_with (at_make;refine wpList_make_full _ rfl _ _ 60 rfl w.heap.size 5 i0 (.int .u8 0) 1 underlying60 hi hz0 hz1 .i64 .i64 _ _ S rfl rfl ?c1 ?c1 ?c2 ?c3 ?c4 ?_)
 case c1=>rfl
 case c2=>first | omega | (rw[hz2];omega)
 case c3=>unfold maxLen;omega
 try case c4=>exact Nat.le_refl _
 intro w1 hown1 hg1;have hb1:=aJ hg1;have hr0:=nX hown1;rw[<-Hg0.out]at hr0 ⊢;have hr1:Row w1 g0 5 (u8s (Bm.syms ls log 0)):=by rw[WT,<-HS.out];exact hr0
 have Hb1:=hid hb1;have Hr1:=hid hr1;clear hown1 hg1 hr0 hb1 hr1 hi hz0 hz1 hz2;go_wp2;go_loopw [7,20] (fun a s wr=>∃si:Nat,si<=ls.length/\a=.int .i64 (tL log (ls.take si).sum:Int)/\s=.int .i64 (si:Int)/\Hid (Row wr g0 5 (u8s (Bm.syms ls log (ls.take si).sum)))/\Hid (Below w.heap.size w wr)) (fun _ s _=>ls.length-(intOf s).toNat)
 case atStart=>exact⟨0,by omega,by simp[tL],rfl,hid (by rw[List.take_zero,List.sum_nil];exact Hr1.out),Hb1⟩
 case round=>
  obtain⟨si,hsi,rfl,rfl,hrow,hbel⟩:=hrel;clear Hr1 Hb1;by_cases hlt:si<ls.length
  ·obtain⟨g,off,rfl,hcell,hgl⟩:=Hls.out si hlt;obtain⟨K,hK⟩:∃K,K=(ls.take si).sum:=⟨_,rfl⟩;have hK1:(ls.take (si+1)).sum=K+ls[si]:=by rw[List.take_succ_eq_append_getElem hlt,List.sum_append_nat,hK];simp
   have hKS:K+ls[si]<=S:=by
    rw[<-hK1,<-adV.out,<-List.take_append_drop (si+1) ls,List.sum_append_nat];simp
   have hsy:∀k,k<ls[si]->(dJ 0 ls)[K+k]?=some si:=fun k hk=>by
    have h1:=FQ ls 0 si k hlt hk;rw[Nat.zero_add,<-hK]at h1;exact h1
   rw[<-hK]at hrow ⊢;have Hsy:=hid hsy;have HK1:=hid hK1;have c0:=(hbel.out.cell (p:=⟨g,off+si,none⟩) hgl).trans hcell;clear hsy hK1 hK hcell;generalize ls[si]=n at Hsy HK1 hKS c0;have aqj:n<=512:=by omega
   go_wp2;clear c0;go_loopw [7,26] (fun a k wr=>∃ki:Nat,ki<=n/\a=.int .i64 (tL log (K+ki):Int)/\k=.int .i64 (ki:Int)/\Hid (Row wr g0 5 (u8s (Bm.syms ls log (K+ki))))/\Hid (Below w.heap.size w wr)) (fun _ k _=>n-(intOf k).toNat)
   case atStart=>exact⟨0,by omega,rfl,rfl,hrow,hbel⟩
   case round=>
    obtain⟨ki,hki,rfl,rfl,hrow2,Ew⟩:=hrel;clear hrow hbel;by_cases hkn:ki<n
    ·have hpl:tL log (K+ki)<S:=by rw[HS.out];exact Vo log _
     have hnx:=WR ls log (K+ki) si aiZ aja (by rw[<-HS.out];omega) (Hsy.out ki hkn);have hps:=aaG log (K+ki);rw[<-HS.out]at hps;have hst:WB log=S/2+S/8+3:=by unfold WB;rw[<-HS.out]
     rw[hst,show K+ki+1=K+(ki+1) by omega]at hps;rw[show K+ki+1=K+(ki+1) by omega]at hnx;have hcs:=yK (Bm.syms ls log (K+ki)) (tL log (K+ki)) si;rw[<-hnx]at hcs;have hsl:tL log (K+ki)<(Bm.syms ls log (K+ki)).length:=by rw[Bm.lN,<-HS.out];exact hpl
     have hget:=bD (Bm.syms ls log (K+ki)) (tL log (K+ki)) hsl;have c1:=(hrow2.out.cell (tL log (K+ki))).trans hget;have f1:=hrow2.out.free (tL log (K+ki));have Dn:=hid (hrow2.out.aT (tL log (K+ki)) (.int .u8 (si:Int)));rw[hcs]at Dn;generalize (Bm.syms ls log (K+ki))[tL log (K+ki)]=old at c1;have Hps:=hid hps;clear hnx hps hst hcs hget hsl hrow2 HK1 Hsy;generalize tL log (K+ki)=a at hpl c1 f1 Dn Hps ⊢;go_wp2;go_roundw
     case rel=>
      refine⟨ki+1,by omega,?_,by go_num,Dn,hid (Ew.out.setCell (by rw[Hg0.out];exact Nat.le_refl _) _)⟩;rw[Hps.out,WC]
     case measure=>simp[intOf];omega
    ·obtain rfl:ki=n:=by omega
     rw[<-HK1.out]at hrow2 ⊢;clear Hsy;go_wp2;go_roundw
     case rel=>exact⟨si+1,by omega,rfl,by go_num,hrow2,Ew⟩
     case measure=>simp[intOf];omega
  ·obtain rfl:si=ls.length:=by omega
   rw[List.take_length,adV.out,HS.out,abF]at hrow;generalize tL log (ls.take ls.length).sum=apK;go_wp2;go_ret;exact⟨g0,rfl,by rw[Hg0.out];exact Nat.le_refl _,hrow.out,hbel.out⟩
theorem Qd(s x log:Nat)(w:World)(h0:0<x)(hx:x<2^(log+1))(BZ:log<=9) :
  Calls prog 180 #[.int .u8 (s:Int),.int .i64 (x:Int),.int .i64 (log:Int)] w fun e w'=>e=.returned (.agg #[.int .u8 (s:Int),.int .i64 (bQ log x:Int),.int .i64 (Bp log x:Int)])/\Below w.heap.size w w':=by
 have aoM:2^(log+1)<=2^10:=Nat.pow_le_pow_right (n:=2) (by omega) (by omega);have hS9:2^log<=2^9:=Nat.pow_le_pow_right (n:=2) (by omega) (by omega);have hle:=eF _ _ hx;have hge:=lS x h0;have hlo:=vD log _ h0 hx;have hhi:=DK log _ h0 hx;have hBe:(log:Int)+1-(Bm.wid x:Int)=(bQ log x:Int):=by unfold bQ;omega
 have hB9:bQ log x<=9:=by unfold bQ;omega
 have hZe:Bp log x=x*2^bQ log x-2^log:=rfl;have hxl:x<4294967296:=by omega
 have Hwd:=hid (fun W=>iK x W hxl);have hMi:(x:Int)*2^bQ log x=((x*2^bQ log x:Nat):Int):=by simp
 have hSi:(2:Int)^log=((2^log:Nat):Int):=by simp
 have hM:x*2^bQ log x<=1024:=by
  rw[Nat.add_mul,Nat.one_mul]at hhi;exact Nat.le_trans (Nat.le_trans (Nat.le_add_right _ _) hhi) aoM
 rw[hZe];generalize Bm.wid x=wX at *;generalize bQ log x=B at *;generalize x*2^B=M at *;generalize 2^log=S at *;have hw1:IntKind.i64.wrap (M:Int)=(M:Int):=IntWalk.i64_in _ (by omega);have hw2:IntKind.i64.wrap (S:Int)=(S:Int):=IntWalk.i64_in _ (by omega);obtain⟨Z,hZ⟩:∃Z,Z=M-S:=⟨_,rfl⟩;have hZi:(M:Int)-(S:Int)=(Z:Int):=by omega
 rw[<-hZ];clear hZ hhi hx aoM hle hZe;go_enter func180,ntmps180
 go_wp2_with fail
 refine(Hwd.out _).mono ?_;rintro e w' ⟨rfl,rfl⟩;go_wp2;go_still_tail 9,(by kernel_rfl)
 change wpList _ _ _ _ _ (w.alloc (.cells #[.int .u8 0,.int .i64 0,.int .i64 0] 247)).drew;go_wp2;refine bodyPost_ret (v:=.agg #[.int .u8 (s:Int),.int .i64 (B:Int),.int .i64 (Z:Int)]) (by simp[results,results180,go_sem]) rfl ⟨rfl,?_⟩;exact((Below.refl _ _).alloc (Nat.le_refl _) _).drew
def rZ(w:World)(p:Addr)(ls:List Nat)(log:Nat):Prop:=∃b gc gs:Nat,p=⟨b,0,none⟩ /\
 Row w b 244 [.int .i64 (log:Int),.slice (some ⟨gc,0,none⟩) (2^log) (2^log),.slice (some ⟨gs,0,none⟩) ls.length ls.length] /\
 Row w gc 247 (c3 (oK ls log))/\∃vs:List Value,Row w gs 115 vs/\vs.length=ls.length /\
  ∀s,s<ls.length->∃A c,vs[s]?=some (.slice A (ls[s]?.getD 0) c)/\Reads w A (aM (aX ls log (2^log) s))
theorem bY(w W:World)(p:Addr)(ls:List Nat)(log:Nat)(h:rZ w p ls log)(hb:Below w.heap.size w W):rZ W p ls log:=by
 obtain⟨b,gc,gs,e,h1,h2,vs,h3,h4,h5⟩:=h;refine⟨b,gc,gs,e,aL h1 hb,aL h2 hb,vs,aL h3 hb,h4,fun s hs=>?_⟩;obtain⟨A,c,h6,h7⟩:=h5 s hs;exact⟨A,c,h6,aC h7 hb⟩
theorem fV(log:Nat)(h5:5<=log)(h9:log<=9):32<=2^log/\2^log<=512:=
 ⟨Nat.pow_le_pow_right (n:=2) (i:=5) (by omega) h5,Nat.pow_le_pow_right (n:=2) (j:=9) (by omega) h9⟩
theorem eD(w:World)(p:Addr)(ls:List Nat)(log:Nat)(h:rZ w p ls log):Calls prog 193 #[.pointer (some p)] w fun e w'=>e=.returned (.int .i64 ((2^log:Nat):Int))/\w=w':=by
 obtain⟨b,gc,gs,rfl,h1,_⟩:=h;have c1:=h1.cell 1;simp only[List.getElem?_cons_succ,List.getElem?_cons_zero]at c1;clear h1;generalize 2^log=S at *;go_enter func193,ntmps193
 go_wp2;go_ret;exact⟨rfl,rfl⟩
theorem FZ(w:World):Calls prog 193 #[.pointer none] w fun e w'=>e=.returned (.int .i64 0)/\w=w':=by
 go_enter func193,ntmps193
 go_wp2;go_ret;exact⟨rfl,rfl⟩
theorem rP(w:World)(p:Addr)(ls:List Nat)(log:Nat)(h:rZ w p ls log):Calls prog 196 #[.pointer (some p)] w fun e w'=>e=.returned (.int .i64 (log:Int))/\w=w':=by
 obtain⟨b,gc,gs,rfl,h1,_⟩:=h;have c1:=h1.cell 0;simp only[List.getElem?_cons_zero]at c1;clear h1;go_enter func196,ntmps196
 go_wp2;go_ret;exact⟨rfl,rfl⟩
theorem abN(w:World):Calls prog 196 #[.pointer none] w fun e w'=>e=.returned (.int .i64 0)/\w=w':=by
 go_enter func196,ntmps196
 go_wp2;go_ret;exact⟨rfl,rfl⟩
theorem yF(v:Value)(S:Nat)(st:Int)(w:World)(hsz:Calls prog 193 #[v] w fun e w'=>e=.returned (.int .i64 (S:Int))/\w=w') :
  Calls prog 207 #[v,.int .i64 st] w fun e w'=>e=.returned (.bool (decide (0<=st/\st<(S:Int))))/\w=w':=by
 have Hsz:=hid hsz;clear hsz;by_cases h0:0<=st
 ·have d0:decide (0<=st)=true:=decide_eq_true h0;have hd:decide (st<(S:Int))=decide (0<=st/\st<(S:Int)):=by simp[h0]
  have Hd:=hid hd;clear hd h0;go_enter func207,ntmps207
  go_wp2_with fail
  refine Hsz.out.mono ?_;rintro e w' ⟨rfl,rfl⟩;go_wp2;go_ret;exact⟨congrArg (fun x=>Ending.returned (Value.bool x)) Hd.out,rfl⟩
 ·have d0:decide (0<=st)=false:=decide_eq_false h0;rw[show decide (0<=st/\st<(S:Int))=false from decide_eq_false (fun h=>h0 h.1)];clear Hsz;go_enter func207,ntmps207
  go_wp2;go_ret;exact⟨rfl,rfl⟩
theorem Xe(w:World)(st:Int):Calls prog 212 #[.pointer none,.int .i64 st] w fun e w'=>e=.returned (.tuple #[.agg #[.int .u8 0,.int .i64 0,.int .i64 0],.bool false])/\Below w.heap.size w w':=by
 have hh:∀W,Calls prog 207 #[.pointer none,.int .i64 st] W fun e w'=>e=.returned (.bool false)/\W=w':=fun W=>by
  have h1:=yF (.pointer none) 0 st W (FZ W);rw[decide_eq_false (by omega)]at h1;exact h1
 have Hh:=hid hh;clear hh;go_enter func212,ntmps212
 go_wp2_with fail
 refine(Hh.out _).mono ?_;rintro e w' ⟨rfl,rfl⟩;go_wp2;refine bodyPost_ret (v:=.tuple #[.agg #[.int .u8 0,.int .i64 0,.int .i64 0],.bool false]) (by simp[results,results212,go_sem]) rfl ⟨rfl,?_⟩;exact(Below.refl _ _).alloc (Nat.le_refl _) _
theorem rM(w:World)(p:Addr)(ls:List Nat)(log:Nat)(st:Int)(hf:bN ls log)(h:rZ w p ls log) :
  Calls prog 212 #[.pointer (some p),.int .i64 st] w fun e w'=>e=.returned (.tuple #[Nt (uZ ls log st),.bool (decide (0<=st/\st<((2^log:Nat):Int)))])/\Below w.heap.size w w':=by
 have hh:=fun W (hW:rZ W p ls log)=>yF (.pointer (some p)) (2^log) st W (eD W p ls log hW)
 have Hh:=hid (hh _ (bY _ _ _ _ _ h ((Below.refl _ _).alloc (Nat.le_refl w.heap.size) (.cells #[.int .u8 0,.int .i64 0,.int .i64 0] 247))));have hP:=fV log hf.low hf.high;clear hh;obtain⟨b,gc,gs,rfl,h1,h2,_⟩:=h;have c1:=h1.cell 1;simp only[List.getElem?_cons_succ,List.getElem?_cons_zero]at c1;have hlt:=h1.lt;have hlt2:=h2.lt;by_cases hst:0<=st/\st<((2^log:Nat):Int)
 ·obtain⟨i,rfl⟩:=Int.eq_ofNat_of_zero_le hst.1;have hi:i<2^log:=by omega
  have hil:i<(oK ls log).length:=by rw[Bz];exact hi
  obtain⟨e0,e1,e2⟩:=Sb (oK ls log) i hil;rw[Nv]at e0 e1 e2;have k0:=(h2.cell (i*3)).trans e0;have k1:=(h2.cell (i*3+1)).trans e1;have k2:=(h2.cell (i*3+2)).trans e2;dsimp only at k0 k1 k2;have hA:Nt (uZ ls log (i:Int))=.agg #[.int .u8 (bg ls log i:Int),.int .i64 (aD ls log i:Int),.int .i64 (aS ls log i:Int)]:=by
   unfold uZ Nt;rw[if_pos hst,Int.toNat_natCast]
  rw[decide_eq_true hst]at Hh ⊢;rw[hA];clear hA e0 e1 e2 hil h1 h2 hst hf;generalize bg ls log i=x at *;generalize aD ls log i=y at *;generalize aS ls log i=z at *;generalize 2^log=S at *;go_enter func212,ntmps212
  go_wp2_with fail
  refine Hh.out.mono ?_;rintro e w' ⟨rfl,rfl⟩;go_wp2;refine bodyPost_ret (v:=.tuple #[.agg #[.int .u8 (x:Int),.int .i64 (y:Int),.int .i64 (z:Int)],.bool true]) (by simp[results,results212,go_sem]) rfl ⟨rfl,?_⟩;exact(Below.refl _ _).alloc (Nat.le_refl _) _
 ·have hA:Nt (uZ ls log st)=.agg #[.int .u8 0,.int .i64 0,.int .i64 0]:=by
   unfold uZ Nt;rw[if_neg hst];rfl
  rw[decide_eq_false hst]at Hh ⊢;rw[hA];clear hA h1 h2 hst hf c1;go_enter func212,ntmps212
  go_wp2_with fail
  refine Hh.out.mono ?_;rintro e w' ⟨rfl,rfl⟩;go_wp2;refine bodyPost_ret (v:=.tuple #[.agg #[.int .u8 0,.int .i64 0,.int .i64 0],.bool false]) (by simp[results,results212,go_sem]) rfl ⟨rfl,?_⟩;exact(Below.refl _ _).alloc (Nat.le_refl _) _
theorem yG(w:World)(p:Addr)(ls:List Nat)(log:Nat)(st more:Int)(hf:bN ls log)(h:rZ w p ls log) :
  Calls prog 213 #[.pointer (some p),.int .i64 st,.int .i64 more] w fun e w'=>e=.returned (.tuple #[.int .i64 (ET ls log st more),.bool (Cq ls log st more)])/\Below w.heap.size w w':=by
 have Hc:=hid (rM w p ls log st hf h);have hP:=fV log hf.low hf.high;by_cases hst:0<=st/\st<((2^log:Nat):Int)
 ·have hA:Nt (uZ ls log st)=.agg #[.int .u8 (bg ls log st.toNat:Int),.int .i64 (aD ls log st.toNat:Int),.int .i64 (aS ls log st.toNat:Int)]:=by
   unfold uZ Nt;rw[if_pos hst]
  have hi:st.toNat<2^log:=by omega
  have hbs:=wG ls log st.toNat hf hi;have hb9:=wH ls log st.toNat hf hi;have hl9:=hf.high;have hnB:Cq ls log st more=decide (0<=more/\more<((2^aD ls log st.toNat:Nat):Int)):=by
   unfold Cq;rw[decide_eq_decide];exact⟨fun h=>h.2.2,fun h=>⟨hst.1,hst.2,h⟩⟩
  have hnA:ET ls log st more=if 0<=more/\more<((2^aD ls log st.toNat:Nat):Int)then(aS ls log st.toNat:Int)+more else 0:=by
   unfold ET;rw[hnB];simp only[decide_eq_true_eq]
  rw[hA,decide_eq_true hst]at Hc;rw[hnA,hnB];clear hA hnA hnB hst hi hf h;have hS:(2:Int)^aD ls log st.toNat=((2^aD ls log st.toNat:Nat):Int):=by simp
  have hpos:0<2^aD ls log st.toNat:=Nat.pow_pos (by omega);generalize bg ls log st.toNat=x at *;generalize aD ls log st.toNat=y at *;generalize aS ls log st.toNat=z at *;generalize 2^y=Y at *;have aqx:z<=512:=Nat.le_trans (Nat.le_trans (Nat.le_add_right _ _) hbs) hP.2;have apS:Y<=512:=Nat.le_trans (Nat.le_trans (Nat.le_add_left _ _) hbs) hP.2;have hw:IntKind.i64.wrap (Y:Int)=(Y:Int):=IntWalk.i64_in _ (by omega);clear hbs;by_cases h0:more<0
  ·have d0:decide (more<0)=true:=decide_eq_true h0;rw[if_neg (fun h=>by omega),decide_eq_false (fun h=>by omega)];go_enter func213,ntmps213
   go_wp2_with fail
   refine Hc.out.mono ?_;rintro e w1 ⟨rfl,hb⟩;go_wp2;go_ret2;exact⟨rfl,hb.alloc hb.size _⟩
  ·have d0:decide (more<0)=false:=decide_eq_false h0;by_cases h1:(Y:Int)<=more
   ·have d1:decide ((Y:Int)<=more)=true:=decide_eq_true h1;rw[if_neg (fun h=>by omega),decide_eq_false (fun h=>by omega)];go_enter func213,ntmps213
    go_wp2_with fail
    refine Hc.out.mono ?_;rintro e w1 ⟨rfl,hb⟩;go_wp2;go_ret2;exact⟨rfl,hb.alloc hb.size _⟩
   ·have d1:decide ((Y:Int)<=more)=false:=decide_eq_false h1;rw[if_pos ⟨by omega,by omega⟩,decide_eq_true ⟨by omega,by omega⟩];go_enter func213,ntmps213
    go_wp2_with fail
    refine Hc.out.mono ?_;rintro e w1 ⟨rfl,hb⟩;go_wp2;go_ret2;exact⟨rfl,hb.alloc hb.size _⟩
 ·have hA:Nt (uZ ls log st)=.agg #[.int .u8 0,.int .i64 0,.int .i64 0]:=by
   unfold uZ Nt;rw[if_neg hst];rfl
  have hnB:Cq ls log st more=false:=decide_eq_false (fun h=>hst ⟨h.1,h.2.1⟩);have hnA:ET ls log st more=0:=by
   unfold ET;rw[hnB];rfl
  rw[hA,decide_eq_false hst]at Hc;rw[hnA,hnB];clear hA hnA hnB hst hf h;go_enter func213,ntmps213
  go_wp2_with fail
  refine Hc.out.mono ?_;rintro e w1 ⟨rfl,hb⟩;go_wp2;go_ret2;exact⟨rfl,hb.alloc hb.size _⟩
theorem aec(W b:Nat)(hW:W<4294967296)(hb:b<32):bits .and .i64 (W:Int) (((2^b:Nat):Int)-1)=((W%2^b:Nat):Int):=by
 have hp:2^b<2^32:=Nat.pow_lt_pow_right (by omega) hb;have hpos:=Nat.two_pow_pos b;have h1:∀a:Nat,a<4294967296->(BitVec.ofInt 64 (a:Int)).toNat=a:=fun a ha=>by
  rw[BitVec.ofInt_natCast,BitVec.toNat_ofNat];exact Nat.mod_eq_of_lt (by omega)
 rw[show((2^b:Nat):Int)-1=((2^b-1:Nat):Int) by omega];show IntKind.i64.wrap ((BitVec.ofInt 64 (W:Int) &&& BitVec.ofInt 64 ((2^b-1:Nat):Int)).toNat:Int)=_;rw[BitVec.toNat_and,h1 W hW,h1 _ (by omega),Nat.and_two_pow_sub_one_eq_mod,IntKind.wrap_i64];have h2:=Nat.mod_lt W hpos;omega
theorem Xb(w:World)(p:Addr)(ls:List Nat)(log:Nat)(st:Int)(s:Nat)(h:rZ w p ls log)(hst:¬(0<=st/\st<((2^log:Nat):Int))) :
  Calls prog 195 #[.pointer (some p),.int .i64 st,.int .u8 (s:Int)] w fun e w'=>e=.returned (.tuple #[.int .i64 0,.int .i64 0,.int .i64 0,.bool false])/\w=w':=by
 have Hh:=hid (yF (.pointer (some p)) (2^log) st w (eD w p ls log h));rw[decide_eq_false hst]at Hh;clear hst h;go_enter func195,ntmps195
 go_wp2_with fail
 refine Hh.out.mono ?_;rintro e w' ⟨rfl,rfl⟩;go_wp2;refine bodyPost_ret (v:=.tuple #[.int .i64 0,.int .i64 0,.int .i64 0,.bool false]) (by simp[results,results195,go_sem]) rfl ⟨rfl,rfl⟩
theorem Qc(w:World)(p:Addr)(ls:List Nat)(log:Nat)(st:Int)(s:Nat)(hf:bN ls log)(h:rZ w p ls log)(hst:0<=st/\st<((2^log:Nat):Int))(hs:ls[s]?.getD 0=0)(Ot:s<256) :
  Calls prog 195 #[.pointer (some p),.int .i64 st,.int .u8 (s:Int)] w fun e w'=>e=.returned (.tuple #[.int .i64 0,.int .i64 0,.int .i64 0,.bool false])/\w=w':=by
 have Hh:=hid (yF (.pointer (some p)) (2^log) st w (eD w p ls log h));rw[decide_eq_true hst]at Hh;have hlen:=hf.len;obtain⟨b,gc,gs,rfl,h1,h2,vs,h3,h4,h5⟩:=h;have c1:=h1.cell 2;simp only[List.getElem?_cons_succ,List.getElem?_cons_zero]at c1;by_cases hsl:s<ls.length
 ·obtain⟨A,c,h6,h7⟩:=h5 s hsl;have c2:=(h3.cell s).trans h6;rw[hs]at c2;have d1:decide (ls.length<=s)=false:=decide_eq_false (by omega);clear h1 h2 h3 h4 h5 h6 h7 hst hs hf;go_enter func195,ntmps195
  go_wp2_with fail
  refine Hh.out.mono ?_;rintro e w' ⟨rfl,rfl⟩;go_wp2;refine bodyPost_ret (v:=.tuple #[.int .i64 0,.int .i64 0,.int .i64 0,.bool false]) (by simp[results,results195,go_sem]) rfl ⟨rfl,rfl⟩
 ·have d1:decide (ls.length<=s)=true:=decide_eq_true (by omega);clear h1 h2 h3 h4 h5 hst hs hf;go_enter func195,ntmps195
  go_wp2_with fail
  refine Hh.out.mono ?_;rintro e w' ⟨rfl,rfl⟩;go_wp2;refine bodyPost_ret (v:=.tuple #[.int .i64 0,.int .i64 0,.int .i64 0,.bool false]) (by simp[results,results195,go_sem]) rfl ⟨rfl,rfl⟩
theorem AY(w:World)(b gs g off S i W N cap s L1 wN B x x2 q v m cc:Nat)(n0:Nat)(hh:∀W',W'=w->Calls prog 207 #[.pointer (some ⟨b,0,none⟩),.int .i64 (i:Int)] W' fun e w'=>e=.returned (.bool true)/\W'=w')
  (hsz:Calls prog 193 #[.pointer (some ⟨b,0,none⟩)] w fun e w'=>e=.returned (.int .i64 (S:Int))/\w=w')
  (c1:w.cell? ⟨b,2,none⟩=some (.slice (some ⟨gs,0,none⟩) n0 n0)) (hs:s<n0) (hn0:n0<=256) (c2:w.cell? ⟨gs,s,none⟩=some (.slice (some ⟨g,off,none⟩) N cap))
  (hN0:0<N) (hN:N<=512) (hW:W=i+S) (hWb:W<1024) (hw1:Bm.wid W=L1) (hw2:Bm.wid N=wN) (hB:L1=B+wN) (hB9:B<=20) (hx:x=W/2^B)
  (hlo:x<N->1<=B/\m=B-1/\x2=W/2^m) (hhi:N<=x->m=B/\x2=x) (hq:x2=N+q) (hqN:q<N) (c3:w.cell? ⟨g,off+q,none⟩=some (.int .i64 (v:Int))) (hcc:cc=W%2^m) :
  Calls prog 195 #[.pointer (some ⟨b,0,none⟩),.int .i64 (i:Int),.int .u8 (s:Int)] w fun e w'=>e=.returned (.tuple #[.int .i64 (v:Int),.int .i64 (cc:Int),.int .i64 (m:Int),.bool true])/\Below w.heap.size w w':=by
 have Hh:=hid (hh w rfl);have Hsz:=hid hsz;have alf:=hid (fun V=>iK W V (by omega));have alg:=hid (fun V=>iK N V (by omega));rw[hw1]at alf;rw[hw2]at alg;have d1:decide (n0<=s)=false:=decide_eq_false (by omega);have d2:((N:Int) == 0)=false:=by rw[beq_eq_false_iff_ne];omega
 have e1:(S:Int)+(i:Int)=(W:Int):=by omega
 have e2:(L1:Int)-(wN:Int)=(B:Int):=by omega
 have e3:(W:Int)/2^B=(x:Int):=by rw[hx];simp
 have hm:m<=B:=by
  rcases Nat.lt_or_ge x N with h | h
  ·have:=hlo h;omega
  ·have:=hhi h;omega
 have hP:2^m<=1048576:=by
  have h2:2^m<=2^20:=Nat.pow_le_pow_right (by omega) (by omega);have h3:(2:Nat)^20=1048576:=by decide
  omega
 have e4:(2:Int)^m=((2^m:Nat):Int):=by simp
 have e5:=aec W m (by omega) (by omega);rw[<-hcc]at e5;have hx2:x2=W/2^m:=by
  rcases Nat.lt_or_ge x N with h | h
  ·exact(hlo h).2.2
  ·obtain⟨h1,h2⟩:=hhi h;rw[h2,h1,hx]
 have e6:(W:Int)/((2^m:Nat):Int)=(x2:Int):=by rw[hx2];simp
 have e7:(x2:Int)-(N:Int)=(q:Int):=by omega
 have arz:x2<=1023:=by omega
 have hp0:0<2^m:=Nat.two_pow_pos m;have hxN:x<=1023:=by
  have:=Nat.div_le_self W (2^B);omega
 have hSW:S<=W:=by omega
 have hiW:i<=W:=by omega
 clear hh hsz hw1 hw2 hcc hx2 hx hW;have Hq:=hid hq;clear hq;generalize 2^m=P at *;have hwP:IntKind.i64.wrap (P:Int)=(P:Int):=IntWalk.i64_in _ (by omega);have ahr:IntKind.i64.wrap ((P:Int)-1)=(P:Int)-1:=IntWalk.i64_in _ (by omega);by_cases hlt:x<N
 ·obtain⟨k1,k2,k3⟩:=hlo hlt;have d3:decide (x<N)=true:=decide_eq_true hlt;have e8:(B:Int)-1=(m:Int):=by omega
  clear hlo hhi hB k2 k3;have E4:=hid e4;have E5:=hid e5;have E6:=hid e6;have E7:=hid e7;have E8:=hid e8;have HwP:=hid hwP;have ale:=hid ahr;clear e4 e5 e6 e7 e8 hwP ahr;go_enter func195,ntmps195
  go_wp2_with fail
  refine Hh.out.mono ?_;rintro e w' ⟨rfl,rfl⟩;go_wp2_with fail
  refine Hsz.out.mono ?_;rintro e w' ⟨rfl,rfl⟩;go_wp2_with fail
  refine(alf.out _).mono ?_;rintro e w' ⟨rfl,rfl⟩;go_wp2_with fail
  refine(alg.out _).mono ?_;rintro e w' ⟨rfl,rfl⟩;go_wp2_with fail
  rw[E8.out];clear e3;have e4:=E4.out;have e5:=E5.out;have e6:=E6.out;have e7:=E7.out;have e7b:(0:Int)<=(q:Int):=by omega
  have e7c:(q:Int)<(N:Int):=by omega
  have hwP:=HwP.out;have ahr:=ale.out;go_quiet (fail)
  go_wp2;refine bodyPost_ret (v:=.tuple #[.int .i64 (v:Int),.int .i64 (cc:Int),.int .i64 (m:Int),.bool true]) (by simp[results,results195,go_sem]) rfl ⟨rfl,below_drewN (Below.refl _ _) _⟩
 ·obtain⟨rfl,rfl⟩:=hhi (by omega);have d3:decide (x2<N)=false:=decide_eq_false hlt;clear hlo hhi hB;have E4:=hid e4;have E5:=hid e5;have E6:=hid e6;have E7:=hid e7;have HwP:=hid hwP;have ale:=hid ahr;clear e4 e5 e6 e7 hwP ahr;go_enter func195,ntmps195
  go_wp2_with fail
  refine Hh.out.mono ?_;rintro e w' ⟨rfl,rfl⟩;go_wp2_with fail
  refine Hsz.out.mono ?_;rintro e w' ⟨rfl,rfl⟩;go_wp2_with fail
  refine(alf.out _).mono ?_;rintro e w' ⟨rfl,rfl⟩;go_wp2_with fail
  refine(alg.out _).mono ?_;rintro e w' ⟨rfl,rfl⟩;go_wp2_with fail
  clear e3;have e4:=E4.out;have e5:=E5.out;have e6:=E6.out;have e7:=E7.out;have e7b:(0:Int)<=(q:Int):=by omega
  have e7c:(q:Int)<(N:Int):=by omega
  have hwP:=HwP.out;have ahr:=ale.out;go_quiet (fail)
  go_wp2;refine bodyPost_ret (v:=.tuple #[.int .i64 (v:Int),.int .i64 (cc:Int),.int .i64 (m:Int),.bool true]) (by simp[results,results195,go_sem]) rfl ⟨rfl,below_drewN (Below.refl _ _) _⟩
theorem FW(w:World)(p:Addr)(ls:List Nat)(log:Nat)(st:Int)(s:Nat)(hf:bN ls log)(h:rZ w p ls log)(Ot:s<256) :
  Calls prog 195 #[.pointer (some p),.int .i64 st,.int .u8 (s:Int)] w fun e w'=>e=.returned (Yt (DI ls log st s))/\Below w.heap.size w w':=by
 by_cases hst:0<=st/\st<((2^log:Nat):Int)
 ·have hA:DI ls log st s=(jS ls log st.toNat s).map fun p=>(p,st.toNat-aS ls log p,aD ls log p):=by
   unfold DI;rw[if_pos hst]
  rw[hA];by_cases h0:ls[s]?.getD 0=0
  ·rw[DJ ls log st.toNat s hf h0];exact(Qc w p ls log st s hf h hst h0 Ot).mono fun e w' ⟨he,hw⟩=>⟨he,by subst hw;exact Below.refl _ _⟩
  ·have hsl:s<ls.length:=by
    rcases Nat.lt_or_ge s ls.length with h1 | h1
    ·exact h1
    ·exact absurd (by rw[List.getElem?_eq_none h1];rfl) h0
   have hg:ls[s]?=some ls[s]:=List.getElem?_eq_getElem hsl;rw[hg,Option.getD_some]at h0;obtain⟨i,rfl⟩:=Int.eq_ofNat_of_zero_le hst.1;rw[Int.toNat_natCast];have hi:i<2^log:=by omega
   have hn:=FJ ls log s _ hf hg;have hP:=fV log hf.low hf.high;have hall:=AU ls log s hf;rw[hg,Option.getD_some]at hall;have hlen:=hf.len;have hl9:=hf.high;have hsz:=eD w p ls log h;have hh:∀W',W'=w->Calls prog 207 #[.pointer (some p),.int .i64 (i:Int)] W' fun e w'=>e=.returned (.bool true)/\W'=w':=fun W' e=>by
    subst e;have h1:=yF (.pointer (some p)) (2^log) (i:Int) W' (eD W' p ls log h);rw[decide_eq_true hst]at h1;exact h1
   obtain⟨b,gc,gs,rfl,h1,h2,vs,h3,h4,h5⟩:=h;have c1:=h1.cell 2;simp only[List.getElem?_cons_succ,List.getElem?_cons_zero]at c1;obtain⟨A,c,h6,h7⟩:=h5 s hsl;rw[hg,Option.getD_some]at h6;have c2:=(h3.cell s).trans h6;have hne:0<(aX ls log (2^log) s).length:=by omega
   obtain⟨g,off,rfl,hc⟩:=h7 (fun e=>by have:=congrArg List.length e;rw[aN,List.length_nil]at this;omega);have key:∀m,ls[s]<=(i+2^log)/2^m->(i+2^log)/2^m<2*ls[s]->∃q v:Nat,(i+2^log)/2^m=ls[s]+q/\q<ls[s]/\w.cell? ⟨g,off+q,none⟩=some (.int .i64 (v:Int)) /\
     (jS ls log i s).map (fun p=>(p,i-aS ls log p,aD ls log p))=some (v,(i+2^log)%2^m,m):=fun m k1 k2=>by
    obtain⟨v,e1,e2,e3,e4⟩:=Ng ls log i s ls[s] m hf hg (by omega) hi k1 k2;refine⟨(i+2^log)/2^m-ls[s],v,by omega,by omega,?_,by rw[e2,Option.map_some,e3,e4]⟩;have hql:(i+2^log)/2^m-ls[s]<(aX ls log (2^log) s).length:=by omega
    rw[hc _ (by rw[aN];exact hql),bK _ _ hql];rw[List.getElem?_eq_getElem hql]at e1;injection e1 with e1
    rw[e1]
   have hw2:=eF ls[s] (log+1) (by have:2^(log+1)=2^log*2:=Nat.pow_succ 2 log;omega);have hw3:=lS ls[s] (by omega);have hwW:Bm.wid (i+2^log)=log+1:=Bd _ log (by omega) (by have:2^(log+1)=2^log*2:=Nat.pow_succ 2 log;omega);rcases Nat.lt_or_ge ((i+2^log)/2^(log+1-Bm.wid ls[s])) ls[s]with hlt | hge
   ·obtain⟨k1,k2,k3⟩:=abt log i ls[s] (by omega) hn hlt;obtain⟨q,v,q1,q2,q3,q4⟩:=key _ k2 k3;rw[q4];exact AY w b gs g off (2^log) i (i+2^log) ls[s] c s (log+1) (Bm.wid ls[s]) (log+1-Bm.wid ls[s]) ((i+2^log)/2^(log+1-Bm.wid ls[s])) ((i+2^log)/2^(log+1-Bm.wid ls[s]-1)) q v (log+1-Bm.wid ls[s]-1) _ ls.length hh hsz c1 hsl hlen c2 (by omega) (by omega) rfl (by omega) hwW rfl (by omega) (by omega) rfl (fun _=>⟨k1,rfl,rfl⟩) (fun h=>absurd hlt (by omega)) q1 q2 q3 rfl
   ·have k3:=abr log i ls[s] (by omega) hn hi;obtain⟨q,v,q1,q2,q3,q4⟩:=key _ hge k3;rw[q4];exact AY w b gs g off (2^log) i (i+2^log) ls[s] c s (log+1) (Bm.wid ls[s]) (log+1-Bm.wid ls[s]) ((i+2^log)/2^(log+1-Bm.wid ls[s])) ((i+2^log)/2^(log+1-Bm.wid ls[s])) q v (log+1-Bm.wid ls[s]) _ ls.length hh hsz c1 hsl hlen c2 (by omega) (by omega) rfl (by omega) hwW rfl (by omega) (by omega) rfl (fun h=>absurd h (by omega)) (fun _=>⟨rfl,rfl⟩) q1 q2 q3 rfl
 ·have hA:DI ls log st s=none:=by
   unfold DI;rw[if_neg hst]
  rw[hA];exact(Xb w p ls log st s h hst).mono fun e w' ⟨he,hw⟩=>⟨he,by subst hw;exact Below.refl _ _⟩
theorem UQ(A:Option Addr)(c:Nat)(bs:List Nat)(w:World)(hl:bs.length<=10000)(hb:∀x∈bs,x<256)(hr:Reads w A (u8s bs)) :
  (tF bs=none/\Calls prog 202 #[.slice A bs.length c] w fun e w'=>e=.returned (.tuple #[.pointer none,.bool false])/\Below w.heap.size w w') \/
  ∃M L,tF bs=some (M,L)/\M<2^L/\aW bs=M+2^L/\L<8*bs.length/\Calls prog 202 #[.slice A bs.length c] w fun e w'=>∃b,e=.returned (.tuple #[.pointer (some ⟨b,0,none⟩),.bool true])/\TS w' w.heap.size b bs L/\Below w.heap.size w w':=by
 rcases List.eq_nil_or_concat bs with rfl | ⟨front,b,e⟩
 ·exact .inl ⟨by simp[tF],(OQ A c w).mono fun e w' ⟨he,hw⟩=>⟨he,by subst hw;exact Below.refl _ _⟩⟩
 ·rw[List.concat_eq_append]at e;have hlen:bs.length=front.length+1:=by rw[e,List.length_append,List.length_singleton]
  have hlast:bs[front.length]'(by omega)=b:=by subst e;simp
  have hgl:bs.getLast?.getD 0=b:=by rw[e,List.getLast?_append,List.getLast?_singleton];rfl
  obtain⟨g,off,rfl,hc⟩:=gu hr (by intro h;rw[h]at hlen;simp at hlen);have hg:=VI hr (by intro h;have:=congrArg List.length h;rw[aO,hlen,List.length_nil]at this;omega);rcases Nat.eq_zero_or_pos b with h0 | h0
  ·refine .inl ⟨by unfold tF;rw[if_pos (by rw[hgl,h0])],?_⟩;have h1:=hc front.length (by omega);rw[hlast,h0]at h1;rw[hlen];exact(UW g off front.length c w (by omega) h1).mono fun e w' ⟨he,hw⟩=>⟨he,by subst hw;exact Below.refl _ _⟩
  ·have hb0:b≠0:=by omega
   have hb256:=hb b (by rw[e];simp);obtain⟨l1,l8,ht⟩:=MR front b (fun x hx=>hb x (by rw[e];exact List.mem_append_left _ hx)) hb256 hb0;rw[<-e]at ht;have hlg:=Dc _ _ ht;have hopen:tF bs=some (aW bs%2^(aW bs).log2,(aW bs).log2):=by unfold tF;rw[if_neg (by rw[hgl];exact hb0)]
   obtain⟨k1,_,k3⟩:=FH bs _ _ hb hopen;have hs:=ht.sum;rw[hlg]at hopen k1 k3;refine .inr ⟨_,_,hopen,k1,by omega,k3,?_⟩;rw[hlen];exact UU g off front.length c bs b w (by omega) hb256 hb0 hlen hlast hr hg
theorem afx(M left k:Nat)(h:k<=left):M%2^left/2^(left-k)=M/2^(left-k)%2^k/\M%2^left%2^(left-k)=M%2^(left-k):=by
 have e:2^left=2^(left-k)*2^k:=by rw[<-Nat.pow_add];congr 1;omega
 rw[e];exact⟨Nat.mod_mul_right_div_self _ _ _,Nat.mod_mul_right_mod _ _ _⟩
theorem KJ(ls:List Nat)(log st:Nat)(h:st<2^log):Nt (uZ ls log (st:Int))=.agg #[.int .u8 (bg ls log st:Int),.int .i64 (aD ls log st:Int),.int .i64 (aS ls log st:Int)]:=by
 unfold uZ Nt;rw[if_pos ⟨by omega,by omega⟩,Int.toNat_natCast]
theorem LM(ls:List Nat)(log st v:Nat)(h:st<2^log)(hv:v<2^aD ls log st):Cq ls log (st:Int) (v:Int)=true/\ET ls log (st:Int) (v:Int)=((aS ls log st+v:Nat):Int):=by
 have h1:Cq ls log (st:Int) (v:Int)=true:=by
  unfold Cq;rw[Int.toNat_natCast];exact decide_eq_true ⟨by omega,by omega,by omega,by omega⟩
 refine⟨h1,?_⟩;unfold ET;rw[h1,if_pos rfl,Int.toNat_natCast,Int.natCast_add]
theorem Zc(w0 w:World)(p:Addr)(ls:List Nat)(log B b left st:Nat)(bs:List Nat)(hf:bN ls log)(ht:rZ w0 p ls log)(hw:Below w0.heap.size w0 w)(hB:w0.heap.size<=B)(hs:bs.length<=10000)(hbs:∀x∈bs,x<256)(hlb:left<8*bs.length)
  (hst:st<2^log) (hle:aD ls log st<=left) (h:TS w B b bs left) :
  Calls prog 204 #[.pointer (some p),.pointer (some ⟨b,0,none⟩),.int .i64 (st:Int)] w fun e w'=>
   e=.returned (.tuple #[.int .u8 (bg ls log st:Int),.int .i64 ((aS ls log st+aW bs/2^(left-aD ls log st)%2^aD ls log st:Nat):Int),.bool true])/\TS w' B b bs (left-aD ls log st)/\w.grownBy w' (some b)/\w'.cell? ⟨b,0,none⟩=w.cell? ⟨b,0,none⟩:=by
 have aiK:=wH ls log st hf hst;have h9:=hf.high;have hBb:B<=b:=by obtain⟨_,_,_,_,_,h3,_⟩:=h;exact h3
 have vV:=hid (rM w p ls log (st:Int) hf (bY _ _ _ _ _ ht hw));have hP:=fV log hf.low hf.high;have hba:=wG ls log st hf hst;have hv:=Nat.mod_lt (aW bs/2^(left-aD ls log st)) (Nat.two_pow_pos (aD ls log st));obtain⟨n1,n2⟩:=LM ls log st _ hst hv;have qm:=hid (fun W (hW:TS W B b bs left)=>RZ B b left bs (aD ls log st) W (by omega) hbs (by omega) hle hlb hW);have oQ:=hid (fun W v (hW:Below w0.heap.size w0 W)=>yG W p ls log (st:Int) v hf (bY _ _ _ _ _ ht hW));have hd:decide (0<=(st:Int)/\(st:Int)<((2^log:Nat):Int))=true:=decide_eq_true ⟨by omega,by omega⟩;rw[KJ ls log st hst,hd]at vV;have Hn1:=hid n1;have Hn2:=hid n2;have aqr:aW bs/2^(left-aD ls log st)%2^aD ls log st<=512:=by
  have h2:2^aD ls log st<=512:=Nat.le_trans (Nat.le_trans (Nat.le_add_left _ _) hba) hP.2;omega
 have Hts:=hid h;have Hw:=hid hw;clear hd n1 n2 hv hba hf ht hst hlb hbs h hw;generalize aW bs/2^(left-aD ls log st)%2^aD ls log st=V at *;generalize bg ls log st=sy at *;generalize aS ls log st=z at *;generalize aD ls log st=k at *;go_enter func204,ntmps204
 go_wp2_with fail
 refine vV.out.mono ?_;rintro e w1 ⟨rfl,hb1⟩;have hw1:=hb1.alloc hb1.size (.cells #[.int .u8 (sy:Int),.int .i64 (k:Int),.int .i64 (z:Int)] 247);obtain⟨W2,hW2⟩:∃W2,W2=w1.alloc (.cells #[.int .u8 (sy:Int),.int .i64 (k:Int),.int .i64 (z:Int)] 247):=⟨_,rfl⟩;have hrow:Row W2 w1.heap.size 247 [.int .u8 (sy:Int),.int .i64 (k:Int),.int .i64 (z:Int)]:=by rw[hW2];exact Row.new w1 _ _
 rw[<-hW2]at hw1;have hbl:b<w.heap.size:=by obtain⟨_,_,_,_,_,_,h4,_⟩:=Hts.out;exact h4
 have aqS:b<w1.heap.size:=Nat.lt_of_lt_of_le hbl hb1.size;have Ht2:=hid (qm.out W2 (Hts.out.keep (ak hw1 none) (by simp)));have HW2:=hid hW2;have Hw1:=hid hw1;clear hb1 hW2 hw1 qm vV;go_wp2_with fail
 rw[<-HW2.out];refine Ht2.out.mono ?_;rintro e W3 ⟨rfl,aoB,hg3,hk3⟩;have hbW2:b<W2.heap.size:=Nat.lt_of_lt_of_le hbl Hw1.out.size;have apU:b<W3.heap.size:=Nat.lt_of_lt_of_le hbW2 hg3.size;have Hk3:Hid (W3.cell? ⟨b,0,none⟩=w.cell? ⟨b,0,none⟩):=hid (hk3.trans (Hw1.out.cell (p:=⟨b,0,none⟩) hbl));clear hk3;have c0:W3.cell? ⟨w1.heap.size,0,none⟩=some (.int .u8 (sy:Int)):=by
  rw[World.cell?_of_block (hg3.block w1.heap.size hrow.lt (fun e=>by injection e with e;omega))];exact hrow.cell 0
 have hb3:Below w0.heap.size w0 W3:=(Hw.out.trans (Hw1.out.mono Hw.out.size)).grown hg3 (Nat.le_trans Hw.out.size Hw1.out.size) (fun k e=>by injection e with e;omega);have Hn3:=hid (oQ.out W3 (V:Int) hb3);rw[Hn1.out,Hn2.out]at Hn3;have apA:=hid aoB;have Hg3:=hid ((ak Hw1.out (some b)).trans hg3);clear aoB hg3 hb3 hrow Ht2 oQ Hn1 Hn2;go_wp2_with fail
 refine Hn3.out.mono ?_;rintro e W4 ⟨rfl,hb4⟩;have c1:W4.cell? ⟨w1.heap.size,0,none⟩=some (.int .u8 (sy:Int)):=(hb4.cell (p:=⟨w1.heap.size,0,none⟩) (by
  rcases Nat.lt_or_ge w1.heap.size W3.heap.size with h | h
  ·exact h
  ·unfold World.cell? at c0;rw[Array.getElem?_eq_none h]at c0;cases c0)).trans c0
 have alb:=hid (apA.out.keep (ak hb4 none) (by simp));have Hg4:=hid (Hg3.out.trans (ak hb4 (some b)));have Hk4:=hid ((hb4.cell (p:=⟨b,0,none⟩) apU).trans Hk3.out);clear hb4 c0;go_wp2;refine bodyPost_ret (v:=.tuple #[.int .u8 (sy:Int),.int .i64 ((z+V:Nat):Int),.bool true]) (by simp[results,results204,go_sem]) rfl ⟨rfl,alb.out,Hg4.out,Hk4.out⟩
theorem SQ(w0 w:World)(p:Addr)(ls:List Nat)(log B b left st:Nat)(bs:List Nat)(hf:bN ls log)(ht:rZ w0 p ls log)(hw:Below w0.heap.size w0 w)
  (hst:st<2^log) (hle:left<aD ls log st) (h:TS w B b bs left) :
  Calls prog 204 #[.pointer (some p),.pointer (some ⟨b,0,none⟩),.int .i64 (st:Int)] w fun e w'=>
   (∃v:Nat,v<=512/\e=.returned (.tuple #[.int .u8 (bg ls log st:Int),.int .i64 (v:Int),.bool false]))/\TS w' B b bs left/\w.grownBy w' (some b):=by
 have aiK:=wH ls log st hf hst;have h9:=hf.high;have vV:=hid (rM w p ls log (st:Int) hf (bY _ _ _ _ _ ht hw));have hP:=fV log hf.low hf.high;have hba:=wG ls log st hf hst;obtain⟨n1,n2⟩:=LM ls log st 0 hst (Nat.two_pow_pos _);have qm:=hid (fun W (hW:TS W B b bs left)=>RY B b left bs (aD ls log st) W (by omega) hle hW);have oQ:=hid (fun W v (hW:Below w0.heap.size w0 W)=>yG W p ls log (st:Int) v hf (bY _ _ _ _ _ ht hW));have hd:decide (0<=(st:Int)/\(st:Int)<((2^log:Nat):Int))=true:=decide_eq_true ⟨by omega,by omega⟩;rw[KJ ls log st hst,hd]at vV;have Hn1:=hid n1;have Hn2:=hid n2;have hz:aS ls log st<=512:=Nat.le_trans (Nat.le_trans (Nat.le_add_right _ _) hba) hP.2;have Hts:=hid h;have Hw:=hid hw;clear hd n1 n2 hba hf ht hst h hw;generalize bg ls log st=sy at *;generalize aS ls log st=z at *;generalize aD ls log st=k at *;go_enter func204,ntmps204
 go_wp2_with fail
 refine vV.out.mono ?_;rintro e w1 ⟨rfl,hb1⟩;have hw1:=hb1.alloc hb1.size (.cells #[.int .u8 (sy:Int),.int .i64 (k:Int),.int .i64 (z:Int)] 247);obtain⟨W2,hW2⟩:∃W2,W2=w1.alloc (.cells #[.int .u8 (sy:Int),.int .i64 (k:Int),.int .i64 (z:Int)] 247):=⟨_,rfl⟩;have hrow:Row W2 w1.heap.size 247 [.int .u8 (sy:Int),.int .i64 (k:Int),.int .i64 (z:Int)]:=by rw[hW2];exact Row.new w1 _ _
 rw[<-hW2]at hw1;have ahq:=Hts.out.keep (ak hw1 none) (by simp);have Ht2:=hid (qm.out W2 ahq);have akh:=hid ahq;have HW2:=hid hW2;have Hw1:=hid hw1;have c0:=hrow.cell 0;have hrl:=hrow.lt;have Hn3:=hid (oQ.out W2 ((0:Nat):Int) (Hw.out.trans (hw1.mono Hw.out.size)));rw[Hn1.out,Hn2.out]at Hn3;clear hb1 hW2 hw1 qm vV hrow ahq oQ Hn1 Hn2;go_wp2_with fail
 rw[<-HW2.out];refine Ht2.out.mono ?_;rintro e W3 ⟨rfl,rfl⟩;go_wp2_with fail
 refine Hn3.out.mono ?_;rintro e W4 ⟨rfl,hb4⟩;have c1:W4.cell? ⟨w1.heap.size,0,none⟩=some (.int .u8 (sy:Int)):=(hb4.cell (p:=⟨w1.heap.size,0,none⟩) hrl).trans c0;have alb:=hid (akh.out.keep (ak hb4 none) (by simp));have Hg4:=hid ((ak Hw1.out (some b)).trans (ak hb4 (some b)));clear hb4 c0;go_wp2;refine bodyPost_ret (v:=.tuple #[.int .u8 (sy:Int),.int .i64 (z:Int),.bool false]) (by simp[results,results204,go_sem]) rfl ⟨⟨z,hz,rfl⟩,alb.out,Hg4.out⟩
theorem TS.far{w w':World}{B b left g cap:Nat}{bs:List Nat}{row:Option Nat}(h:TS w B b bs left)(hc:w.cell? ⟨b,0,none⟩=some (.slice (some ⟨g,0,none⟩) bs.length cap))(hg:w.grownBy w' row)(h1:row≠some b)(h2:row≠some g):TS w' B b bs left:=by
 obtain⟨g',cap',k0,k1,k2,k3,k4,k5,k6,k7,k8,k9,k10⟩:=h;rw[k0]at hc;simp only[Option.some.injEq,Value.slice.injEq,Addr.mk.injEq]at hc;obtain⟨⟨rfl,_⟩,_,rfl⟩:=hc;have hl:=hg.block b k4 (fun e=>h1 e.symm);have hl2:=hg.block g' k6 (fun e=>h2 e.symm);refine⟨g',cap',(World.cell?_of_block hl).trans k0,(World.cell?_of_block hl).trans k1,(World.frozen?_of_block hl).trans k2,k3,Nat.lt_of_lt_of_le k4 hg.size,k5,Nat.lt_of_lt_of_le k6 hg.size,k7,k8,k9,fun hne=>?_⟩;obtain⟨g2,off,e,hcs⟩:=k10 hne;injection e with e
 injection e with e1 e2
 subst e1 e2;exact⟨_,_,rfl,fun j hj=>(World.cell?_of_block (a:=⟨g',0+j,none⟩) hl2).trans (hcs j hj)⟩
theorem YU(w:World)(p:Addr)(ls:List Nat)(log:Nat)(A:Option Addr)(m c:Nat)(n:Int)(hf:bN ls log)(ht:rZ w p ls log)(hn:n<0\/1048576<n):Calls prog 191 #[.pointer (some p),.slice A m c,.int .i64 n] w fun e w'=>vU w' e none/\Below w.heap.size w w':=by
 have Hz:=hid (eD w p ls log ht);have hP:=fV log hf.low hf.high;clear ht hf;have Hdz:Hid ((((2^log:Nat):Int) == 0)=false):=hid (by rw[beq_eq_false_iff_ne];omega);clear hP;generalize 2^log=S at *;have dz:=Hdz.out;rcases hn with h | h
 ·go_enter func191,ntmps191
  go_wp2_with fail
  refine Hz.out.mono ?_;rintro e w' ⟨rfl,rfl⟩;go_wp2;go_ret2;exact⟨⟨_,_,rfl⟩,Below.refl _ _⟩
 ·go_enter func191,ntmps191
  go_wp2_with fail
  refine Hz.out.mono ?_;rintro e w' ⟨rfl,rfl⟩;go_wp2;go_ret2;exact⟨⟨_,_,rfl⟩,Below.refl _ _⟩
theorem SF(w:World)(p:Addr)(ls:List Nat)(log:Nat)(A:Option Addr)(m c n:Nat)(q:Option Addr)(okb:Bool)(hf:bN ls log)(ht:rZ w p ls log)(hn:n<=1048576)
  (hopen:Calls prog 202 #[.slice A m c] w fun e w'=>e=.returned (.tuple #[.pointer q,.bool okb])/\Below w.heap.size w w'/\Calls prog 203 #[.pointer q,.int .i64 (log:Int)] w' fun e w2=>e=.returned (.tuple #[.int .u32 0,.bool false])/\w'=w2) :
  Calls prog 191 #[.pointer (some p),.slice A m c,.int .i64 (n:Int)] w fun e w'=>vU w' e none/\Below w.heap.size w w':=by
 obtain⟨i0,hi,hz0,hz1,hz2⟩:=info_parts jh;have Hz:=hid (eD w p ls log ht);have acD:=hid (fun W (hb:Below w.heap.size w W)=>rP W p ls log (bY _ _ _ _ _ ht hb));have hP:=fV log hf.low hf.high;have h9:=hf.high;have Hop:=hid hopen;clear ht hf hopen;have Hdz:Hid ((((2^log:Nat):Int) == 0)=false):=hid (by rw[beq_eq_false_iff_ne];omega);clear hP;generalize 2^log=S at *;have dz:=Hdz.out;have dn0:decide ((n:Int)<0)=false:=decide_eq_false (by omega);have dn1:decide (1048576<(n:Int))=false:=decide_eq_false (by omega);go_enter func191,ntmps191
 go_wp2_with fail
 refine Hz.out.mono ?_;rintro e w' ⟨rfl,rfl⟩;go_wp2_with fail
 refine Hop.out.mono ?_;rintro e w1 ⟨rfl,hb1,hbt⟩;have Hb1:=hid hb1;have Hbt:=hid hbt;have Hl1:=hid (acD.out w1 hb1);clear hb1 hbt Hop acD;go_wp2_with fail
 refine Hl1.out.mono ?_;rintro e w' ⟨rfl,rfl⟩;go_wp2_with fail
 refine Hbt.out.mono ?_;rintro e w' ⟨rfl,rfl⟩;go_wp2_with (at_make;refine wpList_make_own _ rfl _ _ 60 rfl w.heap.size 5 i0 (.int .u8 0) 1 underlying60 hi hz0 hz1 .i64 .i64 _ n rfl rfl ?c1 ?c2 ?c3 ?c4 ?_)
 case c1=>rfl
 case c2=>rw[hz2];omega
 case c3=>unfold maxLen;omega
 case c4=>exact Hb1.out.size
 intro w5 hown hg5;have Hb5:=hid (Hb1.out.grown hg5 Hb1.out.size (by simp));clear hown hg5;go_wp2;go_loopw [11,12,13,14] (fun ok _ _ _ wr=>ok=.bool false/\Hid (Below w.heap.size w wr)) (fun _ _ _ _ _=>0)
 case atStart=>exact⟨rfl,Hb5⟩
 case round=>
  obtain⟨rfl,hb⟩:=hrel;go_wp2;go_ret2;exact⟨⟨_,_,rfl⟩,hb.out⟩
theorem YT(w:World)(p:Addr)(ls:List Nat)(log:Nat)(A:Option Addr)(m c n:Nat)(hf:bN ls log)(ht:rZ w p ls log)(hn:n<=1048576)
  (hopen:Calls prog 202 #[.slice A m c] w fun e w'=>∃b:Nat,e=.returned (.tuple #[.pointer (some ⟨b,0,none⟩),.bool true])/\Below w.heap.size w w'/\Calls prog 203 #[.pointer (some ⟨b,0,none⟩),.int .i64 (log:Int)] w' fun e w2=>e=.returned (.tuple #[.int .u32 0,.bool false])/\w'=w2) :
  Calls prog 191 #[.pointer (some p),.slice A m c,.int .i64 (n:Int)] w fun e w'=>vU w' e none/\Below w.heap.size w w':=by
 obtain⟨i0,hi,hz0,hz1,hz2⟩:=info_parts jh;have Hz:=hid (eD w p ls log ht);have acD:=hid (fun W (hb:Below w.heap.size w W)=>rP W p ls log (bY _ _ _ _ _ ht hb));have hP:=fV log hf.low hf.high;have h9:=hf.high;have Hop:=hid hopen;clear ht hf hopen;have Hdz:Hid ((((2^log:Nat):Int) == 0)=false):=hid (by rw[beq_eq_false_iff_ne];omega);clear hP;generalize 2^log=S at *;have dz:=Hdz.out;have dn0:decide ((n:Int)<0)=false:=decide_eq_false (by omega);have dn1:decide (1048576<(n:Int))=false:=decide_eq_false (by omega);go_enter func191,ntmps191
 go_wp2_with fail
 refine Hz.out.mono ?_;rintro e w' ⟨rfl,rfl⟩;go_wp2_with fail
 refine Hop.out.mono ?_;rintro e w1 ⟨b,rfl,hb1,hbt⟩;have Hb1:=hid hb1;have Hbt:=hid hbt;have Hl1:=hid (acD.out w1 hb1);clear hb1 hbt Hop acD;go_wp2_with fail
 refine Hl1.out.mono ?_;rintro e w' ⟨rfl,rfl⟩;go_wp2_with fail
 refine Hbt.out.mono ?_;rintro e w' ⟨rfl,rfl⟩;go_wp2_with (at_make;refine wpList_make_own _ rfl _ _ 60 rfl w.heap.size 5 i0 (.int .u8 0) 1 underlying60 hi hz0 hz1 .i64 .i64 _ n rfl rfl ?c1 ?c2 ?c3 ?c4 ?_)
 case c1=>rfl
 case c2=>rw[hz2];omega
 case c3=>unfold maxLen;omega
 case c4=>exact Hb1.out.size
 intro w5 hown hg5;have Hb5:=hid (Hb1.out.grown hg5 Hb1.out.size (by simp));clear hown hg5;go_wp2;go_loopw [11,12,13,14] (fun ok _ _ _ wr=>ok=.bool false/\Hid (Below w.heap.size w wr)) (fun _ _ _ _ _=>0)
 case atStart=>exact⟨rfl,Hb5⟩
 case round=>
  obtain⟨rfl,hb⟩:=hrel;go_wp2;go_ret2;exact⟨⟨_,_,rfl⟩,hb.out⟩
def lenOf:Value->Nat
 | .slice _ n _=>n
 | _=>0
theorem LX{w w':World}{base b:Nat}{e:TypeId}{v:Value}{n:Nat}{xs:List Value}(h:w.ownsRow base e 1 v n xs)(hg:w.grownBy w' (some b))(hb:b<base):w'.ownsRow base e 1 v n xs:=
 h.kept hg (by
  cases hv:v.ownBlock with
  | none=>exact .inl rfl
  | some x=>exact .inr (fun e=>by injection e with e;have:=(h.lt x hv).1;omega))
theorem Jm{w:World}{base:Nat}{e:TypeId}{v:Value}{n:Nat}{xs:List Value}(h:w.ownsRow base e 1 v n xs):lenOf v=n:=by
 rcases h.2 with⟨rfl,h0⟩ | ⟨g,cap,cur,rfl,_⟩
 ·exact h0.symm
 ·rfl
theorem SG(w:World)(p:Addr)(ls:List Nat)(log:Nat)(A:Option Addr)(c n M q:Nat)(bs:List Nat)(hf:bN ls log)(ht:rZ w p ls log)(hn:n<=1048576)(hs:bs.length<=10000)(hbs:∀x∈bs,x<256)(hM:M<2^(q+log))(hval:aW bs=M+2^(q+log))(hL:q+log<8*bs.length)
  (hopen:Calls prog 202 #[.slice A bs.length c] w fun e w'=>∃b,e=.returned (.tuple #[.pointer (some ⟨b,0,none⟩),.bool true])/\TS w' w.heap.size b bs (q+log)/\Below w.heap.size w w') :
  Calls prog 191 #[.pointer (some p),.slice A bs.length c,.int .i64 (n:Int)] w fun e w'=>vU w' e (zN ls log n (M%2^q) q (M/2^q))/\Below w.heap.size w w':=by
 obtain⟨i0,hi,hz0,hz1,hz2⟩:=info_parts jh;obtain⟨r,hr⟩:∃r,r=zN ls log n (M%2^q) q (M/2^q):=⟨_,rfl⟩;rw[<-hr];have Hz:=hid (eD w p ls log ht);have acD:=hid (fun W (hb:Below w.heap.size w W)=>rP W p ls log (bY _ _ _ _ _ ht hb));have hP:=fV log hf.low hf.high;have h9:=hf.high;have hst:M/2^q<2^log:=by
  rw[Nat.pow_add,Nat.mul_comm]at hM;exact(Nat.div_lt_iff_lt_mul (Nat.pow_pos (by omega))).2 hM
 have EB:aW bs/2^q%2^log=M/2^q:=by
  rw[hval,Az M (q+log) q log (Nat.le_refl _),Nat.mod_eq_of_lt hst]
 have qm:=hid (fun W b (h:TS W w.heap.size b bs (q+log))=>RZ w.heap.size b (q+log) bs log W (by omega) hbs (by omega) (by omega) hL h);rw[Nat.add_sub_cancel,EB]at qm;have apb:Hid (∀left k,k<=left->left<=q+log->M%2^left/2^(left-k)=aW bs/2^(left-k)%2^k/\M%2^left%2^(left-k)=M%2^(left-k)):=hid (fun left k h1 h2=>by
  obtain⟨e1,e2⟩:=afx M left k h1;rw[e1,e2,hval,Az M (q+log) (left-k) k (by omega)];exact⟨rfl,rfl⟩)
 have Hok:=hid (fun W b left st (hW:Below w.heap.size w W) (h1:left<=q+log) (h2:st<2^log) (h3:aD ls log st<=left) (h:TS W w.heap.size b bs left)=>Zc w W p ls log w.heap.size b left st bs hf ht hW (Nat.le_refl _) hs hbs (by omega) h2 h3 h);have ahL:=hid (fun W b left st (hW:Below w.heap.size w W) (h2:st<2^log) (h3:left<aD ls log st) (h:TS W w.heap.size b bs left)=>SQ w W p ls log w.heap.size b left st bs hf ht hW h2 h3 h);have Hf:=hid hf;have Hop:=hid hopen;have Hr:=hid hr;clear ht hf hopen hr EB hval hM hbs;have Hdz:Hid ((((2^log:Nat):Int) == 0)=false):=hid (by rw[beq_eq_false_iff_ne];omega);obtain⟨S,hS⟩:∃S,S=2^log:=⟨_,rfl⟩;have HS:=hid hS;rw[<-hS]at Hz Hdz Hok ahL hP hst;clear hS;have dz:=Hdz.out;have dn0:decide ((n:Int)<0)=false:=decide_eq_false (by omega);have dn1:decide (1048576<(n:Int))=false:=decide_eq_false (by omega);go_enter func191,ntmps191
 go_wp2_with fail
 refine Hz.out.mono ?_;rintro e w' ⟨rfl,rfl⟩;go_wp2_with fail
 refine Hop.out.mono ?_;rintro e w1 ⟨b,rfl,hts,hb1⟩;have Hb1:=hid hb1;have Hts:=hid hts;have Hl1:=hid (acD.out w1 hb1);have Ht1:=hid (qm.out w1 b hts);obtain⟨g,cap,k0,_,_,hwb,hbl,hwg,hgl,_⟩:=hts;have K0:=hid k0;clear hb1 k0 Hop acD qm;go_wp2_with fail
 refine Hl1.out.mono ?_;rintro e w' ⟨rfl,rfl⟩;go_wp2_with fail
 refine Ht1.out.mono ?_;rintro e w2 ⟨rfl,ahq,hg2,hk2⟩;have Hb2:=hid (Hb1.out.grown hg2 Hb1.out.size (fun x e=>by injection e with e;omega));have hs2:=hg2.size;have akh:=hid ahq;have Hk2:=hid (hk2.trans K0.out);clear ahq hg2 hk2 Ht1 Hl1 K0 Hts Hb1;generalize hF:M/2^q=F at *;have HF:=hid hF;clear hF;go_wp2_with (at_make;refine wpList_make_own _ rfl _ _ 60 rfl w2.heap.size 5 i0 (.int .u8 0) 1 underlying60 hi hz0 hz1 .i64 .i64 _ n rfl rfl ?c1 ?c2 ?c3 ?c4 ?_)
 case c1=>rfl
 case c2=>rw[hz2];omega
 case c3=>unfold maxLen;omega
 case c4=>exact Nat.le_refl _
 intro w5 hown hg5;have Hb5:=hid (Hb2.out.grown hg5 Hb2.out.size (by simp));have qg:=hid hown;have anb:=hid (akh.out.keep hg5 (by simp));have Hk5:=hid ((World.cell?_of_block (a:=⟨b,0,none⟩) (hg5.block b (by omega) (by simp))).trans Hk2.out);have hs5:=hg5.size;clear hown hg5 Hb2 akh Hk2;go_wp2;clear dn0 dn1 dz Hdz Hz;go_loopw [11,12,13,14] (fun ok sv u _ wr=>∃(k left st:Nat) (acc:List Nat) (okb:Bool),ok=.bool okb/\sv=.int .i64 (st:Int)/\k<=n/\acc.length=k/\left<=q/\st<=512/\w5.heap.size<=wr.heap.size/\Hid (wr.ownsRow w2.heap.size 5 1 u k (u8s acc))/\Hid (Below w.heap.size w wr)/\Hid ((okb=true->st<S/\TS wr w.heap.size b bs left/\wr.cell? ⟨b,0,none⟩=some (.slice (some ⟨g,0,none⟩) bs.length cap)/\r=(zN ls log (n-k) (M%2^left) left st).map (acc++·))/\(okb=false->r=none))) (fun _ _ u _ _=>n-lenOf u)
 case atStart=>exact⟨0,q,F,[],true,rfl,rfl,by omega,rfl,Nat.le_refl _,by omega,Nat.le_refl _,qg,Hb5,hid ⟨fun _=>⟨hst,anb.out,Hk5.out,by rw[Hr.out,Nat.sub_zero];cases zN ls log n (M%2^q) q F<;>rfl⟩,fun h=>by cases h⟩⟩
 case round=>
  obtain⟨k,left,st,acc,okb,rfl,rfl,hk,hacc,hleft,TN,hsz,hown,hbel,hrest⟩:=hrel;clear qg Hb5 anb Hk5 Hr HF hst;obtain⟨A1,c1,rfl,hrd,hA1⟩:=dP hown.out;have Hlen:=hid (Jm hown.out);have Hrd:=hid hrd;clear hrd hA1;cases okb with
  | false=>
   have hx:=hid (hrest.out.2 rfl);clear hrest hown;go_wp2;go_ret2;rw[hx.out];exact⟨⟨_,_,rfl⟩,hbel.out⟩
  | true=>
   obtain⟨hst,hts,hc0,hrr⟩:=hrest.out.1 rfl;have Hts:=hid hts;have Hc0:=hid hc0;have Hrr:=hid hrr;clear hts hc0 hrr hrest;by_cases hkn:k<n
   ·have yX:st<2^log:=by rw[<-HS.out];exact hst
    have aoD:zN ls log (n-k) (M%2^left) left st=if left<aD ls log st then none else(zN ls log (n-(k+1)) (M%2^left%2^(left-aD ls log st)) (left-aD ls log st) (aS ls log st+M%2^left/2^(left-aD ls log st))).map fun l=>bg ls log st :: l:=by
     rw[show n-k=(n-(k+1))+1 by omega,zN]
    rw[aoD]at Hrr;clear aoD;have hba:=wG ls log st Hf.out yX;by_cases Dq:left<aD ls log st
    ·rw[if_pos Dq]at Hrr;have fC:=hid (ahL.out wr b left st hbel.out hst Dq Hts.out);clear hba Dq yX;generalize bg ls log st=sy at *;go_wp2_with fail
     refine fC.out.mono ?_;rintro e W6 ⟨⟨v,hv,rfl⟩,_,hg6⟩;have hs6:=hg6.size;have Gs:=hid (LX hown.out hg6 (by omega));have Dr:=hid (hbel.out.grown hg6 hbel.out.size (fun x e=>by injection e with e;omega));clear hg6 hown hbel fC;go_wp2_with (at_builtin;refine wpList_append_own _ rfl _ _ 60 rfl w2.heap.size 5 i0 (.int .u8 0) 1 1 underlying60 hi hz0 hz1 hz2 rfl (by decide) _ _ _ rfl (Gs.out.alloc _) ⟨W6.heap.size,0,none⟩ 1 1 [.int .u8 (sy:Int)] rfl rfl ?d1 ?d2 ?d3 ?d4 ?d5 ?_)
     case d1=>
      intro j u hj;match j,hj with
      | 0,hj=>simp at hj;subst hj;simp[Addr.add]
     case d2=>intro u hu;simp at hu;subst hu;rfl
     case d3=>unfold maxLen;omega
     case d4=>omega
     case d5=>simp;omega
     intro u' w7 bM fO _;have Ey:Below w.heap.size w w7:=(Dr.out.alloc Dr.out.size _).grown fO (by have:=Dr.out.size;simp;omega) (fun x e=>by have:=(Gs.out.lt x e).1;omega);have e:u8s acc++[Value.int .u8 (sy:Int)]=u8s (acc++[sy]):=by simp[u8s]
     rw[e]at bM;have hl7:=Jm bM;have hs7:w5.heap.size<=w7.heap.size:=by have:=fO.size;simp at this;omega
     have oC:=hid bM;have QU:=hid Ey;clear bM fO Ey e;go_wp2;go_roundw
     case rel=>exact⟨k+1,left,v,acc++[sy],false,rfl,rfl,by omega,by simp[hacc],hleft,by omega,hs7,oC,QU,hid ⟨fun h=>(by cases h),fun _=>Hrr.out⟩⟩
     case measure=>rw[hl7];show n-(k+1)<n-k;omega
    ·rw[if_neg Dq]at Hrr;have hkl:aD ls log st<=left:=by omega
     obtain⟨g1,g2⟩:=apb.out left _ hkl (by omega);rw[g1,g2]at Hrr;have hv:=Nat.mod_lt (aW bs/2^(left-aD ls log st)) (Nat.two_pow_pos (aD ls log st));have hnx:aS ls log st+aW bs/2^(left-aD ls log st)%2^aD ls log st<S:=by
      rw[HS.out];generalize 2^aD ls log st=P at *;omega
     have fC:=hid (Hok.out wr b left st hbel.out (by omega) hst hkl Hts.out);clear hba Dq yX g1 g2 hv;generalize bg ls log st=sy at *;generalize aS ls log st+aW bs/2^(left-aD ls log st)%2^aD ls log st=nx at *;generalize aD ls log st=kb at *;go_wp2_with fail
     refine fC.out.mono ?_;rintro e W6 ⟨rfl,aoC,hg6,hk6⟩;have hs6:=hg6.size;have anc:=hid aoC;have Hk6:=hid (hk6.trans Hc0.out);have Gs:=hid (LX hown.out hg6 (by omega));have Dr:=hid (hbel.out.grown hg6 hbel.out.size (fun x e=>by injection e with e;omega));clear hg6 hown hbel fC aoC hk6 Hc0 Hts;go_wp2_with (at_builtin;refine wpList_append_own _ rfl _ _ 60 rfl w2.heap.size 5 i0 (.int .u8 0) 1 1 underlying60 hi hz0 hz1 hz2 rfl (by decide) _ _ _ rfl (Gs.out.alloc _) ⟨W6.heap.size,0,none⟩ 1 1 [.int .u8 (sy:Int)] rfl rfl ?d1 ?d2 ?d3 ?d4 ?d5 ?_)
     case d1=>
      intro j u hj;match j,hj with
      | 0,hj=>simp at hj;subst hj;simp[Addr.add]
     case d2=>intro u hu;simp at hu;subst hu;rfl
     case d3=>unfold maxLen;omega
     case d4=>omega
     case d5=>simp;omega
     intro u' w7 bM fO _;have Ey:Below w.heap.size w w7:=(Dr.out.alloc Dr.out.size _).grown fO (by have:=Dr.out.size;simp;omega) (fun x e=>by have:=(Gs.out.lt x e).1;omega);have e:u8s acc++[Value.int .u8 (sy:Int)]=u8s (acc++[sy]):=by simp[u8s]
     rw[e]at bM;have hl7:=Jm bM;have hs7:w5.heap.size<=w7.heap.size:=by have:=fO.size;simp at this;omega
     have hgz:W6.grownBy (W6.alloc (.cells #[.int .u8 (sy:Int)] 5)) none:=aF (aj _ _) _;have akK:=hid ((World.cell?_of_block (a:=⟨b,0,none⟩) (hgz.block b (by omega) (by simp))).trans Hk6.out);have aie:=hid (anc.out.far Hk6.out hgz (by simp) (by simp));have hnb:∀x,x<w2.heap.size->(Value.slice A1 k c1).ownBlock≠some x:=fun x hx e=>by have:=(Gs.out.lt x e).1;omega
     have apB:=hid (aie.out.far akK.out fO (hnb b (by omega)) (hnb g (by omega)));have Hk7:=hid ((World.cell?_of_block (a:=⟨b,0,none⟩) (fO.block b (by simp;omega) (fun e=>hnb b (by omega) e.symm))).trans akK.out);have oC:=hid bM;have QU:=hid Ey;clear bM fO Ey e hgz akK aie hnb anc Hk6 Gs Dr;go_wp2;go_roundw
     case rel=>
      refine⟨k+1,left-kb,nx,acc++[sy],true,rfl,rfl,by omega,by simp[hacc],by omega,by omega,hs7,oC,QU,hid ⟨fun _=>⟨hnx,apB.out,Hk7.out,?_⟩,fun h=>(by cases h)⟩⟩;rw[Hrr.out];cases zN ls log (n-(k+1)) (M%2^(left-kb)) (left-kb) nx with
      | none=>rfl
      | some l=>simp
     case measure=>rw[hl7];show n-(k+1)<n-k;omega
   ·obtain rfl:k=n:=by omega
    rw[Nat.sub_self]at Hrr;have QY:=hid (RL w.heap.size b left bs wr Hts.out);clear Hts Hc0 Hok ahL;by_cases hz:st=0/\left=0
    ·obtain⟨rfl,rfl⟩:=hz;have Hx:=hid (show r=some acc by rw[Hrr.out];simp[zN]);have Hl:=hid hacc;clear Hrr hacc hown;go_wp2_with fail
     refine QY.out.mono ?_;rintro e w' ⟨rfl,rfl⟩;go_wp2;go_ret2;rw[Hx.out];exact⟨⟨A1,c1,by rw[Hl.out];rfl,Hrd.out⟩,hbel.out⟩
    ·have Hx:=hid (show r=none by rw[Hrr.out,zN,if_neg hz];rfl);clear Hrr hacc hown;by_cases hl0:0<left
     ·have d1:decide (0<left)=true:=decide_eq_true hl0;go_wp2_with fail
      refine QY.out.mono ?_;rintro e w' ⟨rfl,rfl⟩;go_wp2;go_ret2;rw[Hx.out];exact⟨⟨_,_,rfl⟩,hbel.out⟩
     ·have hs0:0<st:=by omega
      obtain rfl:left=0:=by omega
      have d1:((st:Int) == 0)=false:=by rw[beq_eq_false_iff_ne];omega
      go_wp2_with fail
      refine QY.out.mono ?_;rintro e w' ⟨rfl,rfl⟩;go_wp2;go_ret2;rw[Hx.out];exact⟨⟨_,_,rfl⟩,hbel.out⟩
theorem YS(w:World)(p:Addr)(ls:List Nat)(log:Nat)(A:Option Addr)(c:Nat)(bs:List Nat)(n:Int)(hf:bN ls log)(ht:rZ w p ls log)(hs:bs.length<=10000)(hbs:∀x∈bs,x<256)(hr:Reads w A (u8s bs)) :
  Calls prog 191 #[.pointer (some p),.slice A bs.length c,.int .i64 n] w fun e w'=>vU w' e (BL ls log bs n)/\Below w.heap.size w w':=by
 by_cases hn:n<0\/1048576<n
 ·have hx:BL ls log bs n=none:=by
   unfold BL;cases tF bs with
   | none=>rfl
   | some t=>rw[Option.bind_some];unfold ahf;rw[if_neg (by omega)]
  rw[hx];exact YU w p ls log A bs.length c n hf ht hn
 ·obtain⟨m,rfl⟩:=Int.eq_ofNat_of_zero_le (show 0<=n by omega);rcases UQ A c bs w hs hbs hr with⟨ho,hc⟩ | ⟨M,L,ho,hM,hval,hL,hc⟩
  ·have hx:BL ls log bs (m:Int)=none:=by unfold BL;rw[ho];rfl
   rw[hx];exact SF w p ls log A bs.length c m none false hf ht (by omega) (hc.mono fun e w' ⟨he,hb⟩=>⟨he,hb,aek w' _⟩)
  ·by_cases Dq:L<log
   ·have hx:BL ls log bs (m:Int)=none:=by
     unfold BL;rw[ho,Option.bind_some];unfold ahf;rw[if_neg (by omega)]
    rw[hx];have h9:=hf.high;refine YT w p ls log A bs.length c m hf ht (by omega) (hc.mono fun e w' ⟨b,he,hts,hb⟩=>⟨b,he,hb,RY w.heap.size b L bs log w' (by omega) Dq hts⟩)
   ·obtain⟨q,rfl⟩:∃q,L=q+log:=⟨L-log,by omega⟩;have hx:BL ls log bs (m:Int)=zN ls log m (M%2^q) q (M/2^q):=by
     unfold BL;rw[ho,Option.bind_some];unfold ahf;rw[if_pos ⟨rfl,by omega,by omega,by omega⟩,Int.toNat_natCast,Nat.add_sub_cancel]
    rw[hx];exact SG w p ls log A c m M q bs hf ht (by omega) hs hbs hM hval hL hc
theorem EA(x:Nat)(w:World)(hx:x<4294967296) :
  Calls prog 178 #[.int .i64 (x:Int)] w fun e w'=>e=.returned (.int .i64 (Bm.wid x:Int))/\w=w':=by
 have H:=hid (iK x w hx);have hcu:IntKind.u32.wrap (x:Int)=(x:Int):=by simp[IntKind.wrap,IntKind.bits,IntKind.signed];omega
 go_enter func178,ntmps178
 go_wp2_with fail
 refine H.out.mono ?_;rintro e w' ⟨rfl,rfl⟩;go_wp2;go_ret;exact⟨rfl,rfl⟩
theorem bF{w w1 w2:World}{row:Option Nat}(h:w.grownBy w1 row)(h2:w1.grownBy w2 row):w.grownBy w2 row:=
 ⟨h2.os.trans h.os,h2.tape.trans h.tape,h2.output.trans h.output,Nat.le_trans h.size h2.size,fun i hi hne=>(h2.block i (Nat.lt_of_lt_of_le hi h.size) hne).trans (h.block i hi hne)⟩
theorem ED(log:Nat)(h5:5<=log)(h9:log<=9):32<=2^log/\2^log<=512:=
 ⟨Nat.pow_le_pow_right (n:=2) (i:=5) (by omega) h5,Nat.pow_le_pow_right (n:=2) (j:=9) (by omega) h9⟩
theorem TL{w:World}{A:Option Addr}{l:List Nat}(h:Reads w A (aM l))(hne:0<l.length):∃g off,A=some ⟨g,off,none⟩/\∀j (hj:j<l.length),w.cell? ⟨g,off+j,none⟩=some (.int .i64 (l[j]:Int)):=by
 rw[<-bJ]at h;obtain⟨g,off,e,hc⟩:=nV h (by simpa using hne);exact⟨g,off,e,fun j hj=>by have:=hc j (by simpa using hj);simpa using this⟩
namespace Bm
theorem Zr(l:List Nat):gL l 0=(0,0):=by cases l<;>simp[gL]
theorem acg:wid 0=0:=by decide +kernel
theorem Zq(x:Nat)(l:List Nat)(R:Nat)(h:x<=R):gL (x :: l) R=(x+(gL l (R-x)).1*2^wid R,wid R+(gL l (R-x)).2):=by
 rw[gL];split
 ·next h0=>
  subst h0;obtain rfl:x=0:=by omega
  simp[Zr,acg]
 ·rfl
theorem vQ(M x m k H:Nat):M+(x+H*2^k)*2^m=M+x*2^m+H*2^(m+k):=by
 rw[Nat.add_mul,Nat.mul_assoc,<-Nat.pow_add,Nat.add_comm k m,Nat.add_assoc]
end Bm
theorem NW(w:World)(b off N n:Nat)(A:Option Addr)(c:Nat)(ls:List Nat)(lg:Nat)(hn:n<=100000)(hws:WS w b off N n)(hr:Reads w A (aM ls))(hA:∀a,A=some a->a.block≠b)(hf:bN ls lg)
  (hfair:Calls prog 177 #[.slice A ls.length c,.int .i64 (lg:Int)] w fun e w'=>e=.returned (.bool true)/\Below w.heap.size w w') :
  Calls prog 146 #[.pointer (some ⟨b,off,none⟩),.slice A ls.length c,.int .i64 (lg:Int)] w fun e w'=>e=.returned (.bool true)/\WS w' b off (N+(jA ls lg).1*2^n) (n+(jA ls lg).2)/\w.grownBy w' (some b):=by
 have h5:=hf.low;have h9:=hf.high;have hP:=ED lg h5 h9;have BX:=hf.len;have hsum:=hf.sum;have hcu:IntKind.u32.wrap ((lg:Int)-5)=((lg-5:Nat):Int):=by simp[IntKind.wrap,IntKind.bits,IntKind.signed];omega
 have hwr:wrap64 ((lg:Int)-5)=(lg:Int)-5:=jw _ (by omega) (by omega);obtain⟨T,hT⟩:∃T,T=N+(jA ls lg).1*2^n:=⟨_,rfl⟩;obtain⟨C,hC⟩:∃C,C=n+(jA ls lg).2:=⟨_,rfl⟩;rw[<-hT,<-hC];unfold jA at hT hC;dsimp only at hT hC;obtain⟨S,hS⟩:∃S,S=2^lg:=⟨_,rfl⟩;rw[<-hS]at hT hC hP hsum;have hpd:(2:Int)^lg=(S:Int):=by rw[hS];simp
 have hw64:wrap64 (S:Int)=(S:Int):=jw _ (by omega) (by omega);have HT:=hid hT;have HC:=hid hC;have Hws:=hid hws;have Hr:=hid hr;have HA:=hid hA;have QW:=hid hfair;have Bl:Hid (∀(W:World) (N n v m:Nat),n<=1000000000->v<4294967296->m<=32->WS W b off N n->Calls prog 93 #[.pointer (some ⟨b,off,none⟩),.int .u32 (v:Int),.int .i64 (m:Int)] W fun e w'=>e=.returned (.bool true)/\WS w' b off (N+v%2^m*2^n) (n+m)/\W.grownBy w' (some b)):=hid (fun W N n v m h1 h2 h3 h4=>qY b off N n v m W h1 h2 h3 h4);clear hT hC hws hr hA hf hfair hS;go_enter func146,ntmps146
 go_wp2_with fail
 refine QW.out.mono ?_;rintro e w1 ⟨rfl,hb1⟩;have Hg1:=hid (ak hb1 (some b));have anf:=hid (Hws.out.below hb1);have Hr1:=hid (aC Hr.out hb1);clear hb1 Hws Hr QW;go_wp2_with fail
 refine(Bl.out w1 N n (lg-5) 3 (by omega) (by omega) (by omega) anf.out).mono ?_;rintro e w2 ⟨rfl,aoJ,hg2⟩;have Hg2:=hid (bF Hg1.out hg2);have apD:=hid aoJ;have Hr2:Hid (∀W,w1.grownBy W (some b)->Reads W A (aM ls)):=hid (fun W hg hne=>by
  obtain⟨g,off,e,hc⟩:=Hr1.out hne;refine⟨g,off,e,fun j hj=>?_⟩;have h1:=hc j hj;rw[List.getElem?_eq_getElem hj]at h1 ⊢;exact(World.cell?_of_block (a:=⟨g,off+j,none⟩) (hg.block g (World.block_lt_of_cell? w1 _ h1) (fun e2=>HA.out _ e (by injection e2)))).trans h1)
 have apf:=hid hg2;clear aoJ hg2 Hg1 anf Hr1 hcu hwr;go_wp2;clear hpd hw64;have alh:Hid (∀(x:Nat) (W:World),x<4294967296->Calls prog 178 #[.int .i64 (x:Int)] W fun e w'=>e=.returned (.int .i64 (Bm.wid x:Int))/\W=w'):=hid EA;go_loopw [7,27] (fun q i wr=>∃k R M m:Nat,k<=ls.length/\i=.int .i64 (k:Int)/\q=.int .i64 (R:Int)/\R=(ls.drop k).sum/\R<=512/\m<=n+3+10*k/\Hid (WS wr b off M m)/\Hid (w1.grownBy wr (some b))/\Hid (w.grownBy wr (some b)) /\
  Hid (T=M+(gL (ls.drop k) R).1*2^m/\C=m+(gL (ls.drop k) R).2)) (fun _ i _=>ls.length-(intOf i).toNat)
 case atStart=>
  refine⟨0,S,_,_,by omega,rfl,rfl,hsum.symm,by omega,by omega,apD,apf,Hg2,hid ⟨?_,?_⟩⟩
  ·rw[HT.out,List.drop_zero,Nat.mod_eq_of_lt (show lg-5<2^3 by omega)];exact Bm.vQ N (lg-5) n 3 _
  ·rw[HC.out,List.drop_zero];omega
 case round=>
  obtain⟨k,R,M,m,hk,rfl,rfl,hR,hR5,hm,hws,hg1,hgw,htot⟩:=hrel;by_cases hkl:k<ls.length
  ·have hd:=List.drop_eq_getElem_cons hkl;rw[hd,List.sum_cons]at hR;obtain⟨g,og,rfl,hc⟩:=TL (Hr2.out _ hg1.out) (by omega);have c0:=hc k hkl;have Yi:=hid htot.out;rw[hd,Zq ls[k] (ls.drop (k+1)) R (by omega)]at Yi;have Hdr:Hid (R-ls[k]=(ls.drop (k+1)).sum):=hid (by omega);have hx:ls[k]<=R:=by omega
   clear hc htot hd hR;generalize ls[k]=x at *;have hwd:=rV R;have aoI:=eF R 10 (by omega);have hcu:IntKind.u32.wrap (x:Int)=(x:Int):=by simp[IntKind.wrap,IntKind.bits,IntKind.signed];omega
   have Hp:=hid (Bl.out _ M m x (Bm.wid R) (by omega) (by omega) (by omega) hws.out);rw[Nat.mod_eq_of_lt (show x<2^Bm.wid R by omega)]at Hp;have hrx:((R-x:Nat):Int)=(R:Int)-(x:Int):=by omega
   have hwq:wrap64 ((R:Int)-(x:Int))=(R:Int)-(x:Int):=jw _ (by omega) (by omega);have Ht:Hid (T=M+x*2^m+(gL (ls.drop (k+1)) (R-x)).1*2^(m+Bm.wid R)/\C=m+Bm.wid R+(gL (ls.drop (k+1)) (R-x)).2):=hid ⟨by rw[Yi.out.1];exact Bm.vQ _ _ _ _ _,by rw[Yi.out.2];dsimp only;omega⟩;clear Yi hwd;have Hw:=hid (alh.out R wr (by omega));generalize Bm.wid R=wd at *;go_wp2_with fail
   refine Hw.out.mono ?_;rintro e w' ⟨rfl,rfl⟩;go_wp2_with fail
   refine Hp.out.mono ?_;rintro e w3 ⟨rfl,acZ,hg3⟩;have ahb:=hid acZ;have Hg3:=hid (bF hg1.out hg3);have apg:=hid (bF hgw.out hg3);clear acZ hg3 hws hg1 hgw Hp;go_wp2;go_roundw
   case rel=>exact⟨k+1,R-x,_,_,by omega,by go_num,by rw[hrx],Hdr.out,by omega,by omega,ahb,Hg3,apg,Ht⟩
   case measure=>simp[intOf];omega
  ·obtain rfl:k=ls.length:=by omega
   have Ht:=htot.out;rw[List.drop_length]at Ht;simp only[gL,Nat.zero_mul,Nat.add_zero]at Ht;obtain⟨rfl,rfl⟩:=Ht;go_wp2;go_ret;exact⟨rfl,hws.out,hgw.out⟩
theorem SV{A:Option Addr}{c:Nat}{l:List Int}{log:Int}{w:World}(hl:l.length<=1000000)(hok:∀x∈l,bO x)(BZ:bO log)(hr:Reads w A (mH l))(hf:Bm.Fair l log) :
  Calls prog 177 #[.slice A l.length c,.int .i64 log] w fun e w'=>e=.returned (.bool true)/\Below w.heap.size w w':=by
 have h1:=xD A c l log w hl hok BZ hr;rw[show Ih l log=true from decide_eq_true hf]at h1;exact h1
theorem Tk(w:World)(b off N n:Nat)(A:Option Addr)(c:Nat)(l:List Int)(log:Int)(hn:n<=100000)(hws:WS w b off N n)(hl:l.length<=1000000)(hok:∀x∈l,bO x)(BZ:bO log)(hr:Reads w A (mH l))(hA:∀a,A=some a->l≠[]->a.block≠b)(hf:Bm.Fair l log) :
  Calls prog 146 #[.pointer (some ⟨b,off,none⟩),.slice A l.length c,.int .i64 log] w fun e w'=>e=.returned (.bool true)/\WS w' b off (N+(jA (l.map Int.toNat) log.toNat).1*2^n) (n+(jA (l.map Int.toNat) log.toNat).2)/\w.grownBy w' (some b):=by
 have hfr:=SV (c:=c) hl hok BZ hr hf;have hfn:=SS l log hf;have hmap:=KU l log hf;have hl9:(log.toNat:Int)=log:=by have:=hf.1;omega
 have hne:l≠[]:=by
  rintro rfl;have h1:=hfn.sum;have h2:=Nat.two_pow_pos log.toNat;simp at h1;omega
 have hls:aM (l.map Int.toNat)=mH l:=by rw[<-bJ,hmap]
 have hlen:(l.map Int.toNat).length=l.length:=by simp
 rw[<-hls]at hr;have h:=NW w b off N n A c (l.map Int.toNat) log.toNat hn hws hr (fun a e=>hA a e hne) hfn (by rw[hlen,hl9];exact hfr);rw[hlen,hl9]at h;exact h
theorem Qw(c:Nat)(w:World)(hc:c<256):Calls prog 166 #[.int .u8 (c:Int)] w fun e w'=>e=.returned (.bool (decide (28<=c)))/\w=w':=by
 obtain⟨r,hr⟩:∃r,r=decide (28<=c):=⟨_,rfl⟩;have d1:decide (28<=c)=r:=hr.symm;have d2:decide ((28:Int)<=(c:Int))=r:=by rw[hr];exact decide_eq_decide.2 (by omega)
 rw[<-hr];clear hr;go_enter func166,ntmps166
 go_wp2;go_ret;exact⟨rfl,rfl⟩
theorem SL:∀args w,(callFunc 166 args).run prog w=.ok (.enter 166 args) w:=enters_of func166 (by kernel_rfl) rfl
theorem Qx(A:Option Addr)(c:Nat)(l:List Nat)(w:World)(hl:l.length<=1000000)(hlt:∀x∈l,x<256)(hr:Reads w A (u8s l)) :
  Calls prog 192 #[.slice A l.length c,.func (.func 166) #[] #[]] w fun e w'=>(∃r:Int,e=.returned (.int .i64 r)/\decide (0<=r)=decide (¬∀x∈l,x<28))/\w=w':=by
 have Hl:=hid (fun a (h:a<256)=>Qw a w h);have ec:=SL;have Hr:=hid hr;have Hlt:=hid hlt;obtain⟨n,hn⟩:∃n,n=l.length:=⟨_,rfl⟩;have Hn:=hid hn;rw[<-hn]at hl ⊢;clear hr hlt hn;go_enter func192,ntmps192
 go_wp2;go_loopw [5,8] (fun _ i wr=>wr=w/\∃k:Nat,i=.int .i64 (k:Int)/\k<=n/\Hid (∀x∈l.take k,x<28)) (fun _ i _=>n-(intOf i).toNat)
 case atStart=>exact⟨rfl,0,rfl,Nat.zero_le _,hid (by simp)⟩
 case round=>
  obtain⟨rfl,k,rfl,hk,hall⟩:=hrel;by_cases hkl:k<n
  ·have hkl':k<l.length:=by rw[<-Hn.out];exact hkl
   obtain⟨g,off,rfl,hc⟩:=gu Hr.out (by intro e;rw[e]at hkl';simp at hkl');have c1:=hc k hkl';have hx:=Hlt.out l[k] (List.getElem_mem hkl');have Hin:=hid (List.getElem_mem hkl');have Htk:Hid (l.take (k+1)=l.take k++[l[k]]):=hid (by rw[List.take_add_one,List.getElem?_eq_getElem hkl'];rfl);clear hc;generalize l[k]=x at *;have bA:=hid (Hl.out x hx);by_cases h28:28<=x
   ·rw[decide_eq_true h28]at bA;have dV:Hid (decide (0<=(k:Int))=decide (¬∀y∈l,y<28)):=hid (by
     rw[decide_eq_true (by omega:(0:Int)<=(k:Int)),decide_eq_true];exact fun h=>by have:=h x Hin.out;omega)
    clear hall Hl h28 Htk Hr;go_wp2_with fail
    refine bA.out.mono ?_;rintro e w' ⟨rfl,rfl⟩;go_wp2;go_ret;exact⟨⟨_,rfl,dV.out⟩,rfl⟩
   ·rw[decide_eq_false h28]at bA;have akC:Hid (∀y∈l.take (k+1),y<28):=hid (fun y hy=>by
     rw[Htk.out]at hy;rcases List.mem_append.1 hy with hy | hy
     ·exact hall.out y hy
     ·rw[List.mem_singleton.1 hy];omega)
    clear hall Hl h28 Htk Hr;go_wp2_with fail
    refine bA.out.mono ?_;rintro e w' ⟨rfl,rfl⟩;go_wp2;go_roundw
    case rel=>exact⟨trivial,k+1,by go_num,by omega,akC⟩
    case measure=>simp[intOf];omega
  ·have hkn:k=n:=by omega
   have dV:Hid (decide (0<=(-1:Int))=decide (¬∀y∈l,y<28)):=hid (by
    have h:=hall.out;rw[hkn,Hn.out,List.take_length]at h;rw[decide_eq_false (by omega),decide_eq_false (fun hh=>hh h)])
   have dk:decide ((k:Int)<(n:Int))=false:=decide_eq_false (by omega);clear hall Hl hkn;go_wp2;go_ret;exact⟨⟨_,rfl,dV.out⟩,rfl⟩
theorem Dj(A:Option Addr)(c:Nat)(l:List Nat)(w:World)(hl:l.length<=1000000)(hlt:∀x∈l,x<256)(hr:Reads w A (u8s l)) :
  Calls prog 165 #[.slice A l.length c,.func (.func 166) #[] #[]] w fun e w'=>e=.returned (.bool (decide (¬∀x∈l,x<28)))/\w=w':=by
 have Hi:=hid (Qx A c l w hl hlt hr);clear hlt hr;generalize decide (¬∀x∈l,x<28)=r at *;go_enter func165,ntmps165
 go_wp2_with fail
 refine Hi.out.mono ?_;rintro e w' ⟨⟨z,rfl,hz⟩,rfl⟩;clear Hi;go_wp2;go_ret;exact⟨rfl,rfl⟩
theorem Pf(A:Option Addr)(c:Nat)(l:List Nat)(w:World)(hl:l.length<=1000000)(hlt:∀x∈l,x<256)(hr:Reads w A (u8s l)) :
  Calls prog 132 #[.slice A l.length c] w fun e w'=>e=.returned (.bool (decide (∀x∈l,x<28)))/\w=w':=by
 have hi:=Dj A c l w hl hlt hr;have hd:decide (¬∀x∈l,x<28)=!decide (∀x∈l,x<28):=decide_not;rw[hd]at hi;have Hi:=hid hi;clear hlt hr hi hd;generalize decide (∀x∈l,x<28)=r at *;go_enter func132,ntmps132
 go_wp2_with fail
 refine Hi.out.mono ?_;rintro e w' ⟨rfl,rfl⟩;clear Hi;cases r <;>
 ·go_wp2;go_ret;exact⟨rfl,rfl⟩
theorem Gh(b pos:Nat)(bs:List Nat)(w:World)(hs:bs.length<=100000)(hbs:∀x∈bs,x<256)(hp:pos<=8*bs.length)(h:RS w b 0 bs pos) :
  Calls prog 136 #[.pointer (some ⟨b,0,none⟩)] w fun e w'=>e=.returned (.bool (decide (8*bs.length-pos<8/\aW bs/2^pos=0)))/\w.grownBy w' (some b):=by
 obtain⟨m,hm⟩:∃m,m=8*bs.length-pos:=⟨_,rfl⟩;have hle:Calls prog 170 #[.pointer (some ⟨b,0,none⟩)] w fun e w'=>e=.returned (.int .i64 (m:Int))/\∃k,w'=w.drewN k:=by rw[hm];exact vN b 0 bs pos w (by omega) hp h
 have Hle:=hid hle;rw[<-hm];by_cases h8:m<8
 ·have ht:=fun k=>(jV b 0 bs pos m (w.drewN k) (by omega) hbs (by omega) (by omega) (h.drewN k)).mono fun e w' (hh:_/\_/\_)=>(⟨hh.1,bF (bL (aj w (some b)) k) hh.2.2⟩:_/\w.grownBy w' (some b))
  have hv:aW bs/2^pos%2^m=aW bs/2^pos:=by
   apply Nat.mod_eq_of_lt
   have h1:=lQ bs hbs;rw[tH,show 8*bs.length=m+pos by omega,Nat.pow_add]at h1;exact(Nat.div_lt_iff_lt_mul (Nat.pow_pos (by omega))).2 h1
  rw[hv]at ht;have Ht:=hid ht;clear ht;generalize aW bs/2^pos=v at *;have d1:decide ((m:Int)<8)=true:=decide_eq_true (by omega);have d2:decide (m<8)=true:=decide_eq_true h8;obtain⟨r,hr⟩:∃r,r=decide (m<8/\v=0):=⟨_,rfl⟩;have d3:((v:Int) == 0)=r:=by
   rw[hr];by_cases hv0:v=0
   ·subst hv0;simp[h8]
   ·rw[decide_eq_false (fun hh=>hv0 hh.2),beq_eq_false_iff_ne];omega
  rw[<-hr];clear hle hv h hbs hm hr h8;go_enter func136,ntmps136
  go_wp2_with fail
  refine Hle.out.mono ?_;rintro e w' ⟨rfl,k,rfl⟩;go_wp2_with fail
  refine(Ht.out k).mono ?_;rintro e w2 ⟨rfl,hg2⟩;have Hg2:=hid hg2;clear hg2 Ht Hle;go_wp2;go_ret;exact⟨rfl,Hg2.out⟩
 ·have ht:∀k,Calls prog 159 #[.pointer (some ⟨b,0,none⟩),.int .i64 (m:Int)] (w.drewN k) fun e w'=>(∃(v:Nat) (z:Bool),e=.returned (.tuple #[.int .u32 (v:Int),.bool z]))/\w.grownBy w' (some b):=fun k=>by
   by_cases h32:m<=32
   ·exact(jV b 0 bs pos m (w.drewN k) (by omega) hbs h32 (by omega) (h.drewN k)).mono fun e w' ⟨he,_,hg⟩=>⟨⟨_,_,he⟩,bF (bL (aj w (some b)) k) hg⟩
   ·exact(MN ⟨b,0,none⟩ (m:Int) (w.drewN k) (Or.inr (by omega))).mono fun e w' ⟨he,hw⟩=>⟨⟨0,false,he⟩,hw▸bL (aj w (some b)) k⟩
  have Ht:=hid ht;have d1:decide ((m:Int)<8)=false:=decide_eq_false (by omega);have d2:decide (m<8)=false:=decide_eq_false h8;have d3:decide (m<8/\aW bs/2^pos=0)=false:=decide_eq_false (fun hh=>h8 hh.1);rw[d3];clear hle ht h hbs hm h8 d3;go_enter func136,ntmps136
  go_wp2_with fail
  refine Hle.out.mono ?_;rintro e w' ⟨rfl,k,rfl⟩;go_wp2_with fail
  refine(Ht.out k).mono ?_;rintro e w2 ⟨⟨v,z,rfl⟩,hg2⟩;have Hg2:=hid hg2;clear hg2 Ht Hle;go_wp2;go_ret;exact⟨rfl,Hg2.out⟩
def acU:Value->Nat
 | .slice _ n _=>n
 | _=>0
theorem TG{w w':World}{base b:Nat}{e:TypeId}{v:Value}{n:Nat}{xs:List Value}(h:w.ownsRow base e 1 v n xs)(hg:w.grownBy w' (some b))(hb:b<base):w'.ownsRow base e 1 v n xs:=
 h.kept hg (by
  cases hv:v.ownBlock with
  | none=>exact .inl rfl
  | some x=>exact .inr (fun e=>by injection e with e;have:=(h.lt x hv).1;omega))
theorem Le{w:World}{base:Nat}{e:TypeId}{v:Value}{n:Nat}{xs:List Value}(h:w.ownsRow base e 1 v n xs):acU v=n:=by
 rcases h.2 with⟨rfl,h0⟩ | ⟨g,cap,cur,rfl,_⟩
 ·exact h0.symm
 ·rfl
def aea(n0:Nat)(w':World)(e:Ending):Option (List Nat×Nat×Nat)->Prop
 | none=>∃A c,e=.returned (.tuple #[.slice A 0 c,.int .i64 0,.bool false])
 | some t=>∃A c,e=.returned (.tuple #[.slice A t.1.length c,.int .i64 (t.2.1:Int),.bool true])/\Reads w' A (aM t.1)/\∀a,A=some a->n0<=a.block
def aln(n0:Nat)(w':World)(e:Ending)(b off:Nat)(bs:List Nat):Option (List Nat×Nat)->Prop
 | none=>e=.returned (.tuple #[.slice none 0 0,.bool false])
 | some t=>∃A c,e=.returned (.tuple #[.slice A t.1.length c,.bool true])/\(Reads w' A (aM t.1)/\∀a,A=some a->n0<=a.block)/\RS w' b off bs (8*bs.length-t.2)
namespace Bm
theorem Qa(f N len:Nat):takeN f 0 N len=some ([],len):=by cases f<;>simp[takeN]
theorem WX(f R N len:Nat)(h0:0<R)(h:len<wid R):takeN f R N len=none:=by
 cases f with
 | zero=>rw[takeN,if_neg (by omega)]
 | succ f=>rw[takeN,if_neg (by omega),if_pos h]
theorem Kg(f R N len:Nat)(h0:0<R)(h:R<N%2^wid R):takeN f R N len=none:=by
 cases f with
 | zero=>rw[takeN,if_neg (by omega)]
 | succ f=>rw[takeN,if_neg (by omega)];split<;>rfl
theorem PZ(f R V p L:Nat)(h0:0<R)(hp:p+wid R<=L)(h:V/2^p%2^wid R<=R) :
  takeN (f+1) R (V/2^p) (L-p)=(takeN f (R-V/2^p%2^wid R) (V/2^(p+wid R)) (L-(p+wid R))).map fun t=>(V/2^p%2^wid R :: t.1,t.2):=by
 rw[takeN,if_neg (by omega),if_neg (by omega),if_neg (by omega),Nat.div_div_eq_div_mul,<-Nat.pow_add,Nat.sub_sub]
end Bm
theorem NV(w:World)(b off pos rest:Nat)(bs:List Nat)(hs:bs.length<=100000)(hbs:∀x∈bs,x<256)(hp:pos<=8*bs.length)(hrest:rest<=512)(hrs:RS w b off bs pos) :
  Calls prog 210 #[.pointer (some ⟨b,off,none⟩),.int .i64 (rest:Int)] w fun e w'=>aln w.heap.size w' e b off bs (Bm.takeN 256 rest (aW bs/2^pos) (8*bs.length-pos))/\w.grownBy w' (some b):=by
 obtain⟨i0,hi,hz0,hz1,hz2⟩:=info_parts gQ;obtain⟨r,hr⟩:∃r,r=Bm.takeN 256 rest (aW bs/2^pos) (8*bs.length-pos):=⟨_,rfl⟩;rw[<-hr];have Hr:=hid hr;have Hrs:=hid hrs;have hbl:b<w.heap.size:=hrs.2.2.2;have alh:Hid (∀(x:Nat) (W:World),x<4294967296->Calls prog 178 #[.int .i64 (x:Int)] W fun e w'=>e=.returned (.int .i64 (Bm.wid x:Int))/\W=w'):=hid EA;have ahL:Hid (∀W p m,p<=8*bs.length->m<=32->8*bs.length-p<m->RS W b off bs p->Calls prog 159 #[.pointer (some ⟨b,off,none⟩),.int .i64 (m:Int)] W fun e w'=>e=.returned (.tuple #[.int .u32 0,.bool false])/\∃k,w'=W.drewN k):=hid (fun W p m h1 h2 h3 h4=>rH b off bs p m W (by omega) h1 h2 h3 h4);have qm:Hid (∀W p m,m<=32->p+m<=8*bs.length->RS W b off bs p->Calls prog 159 #[.pointer (some ⟨b,off,none⟩),.int .i64 (m:Int)] W fun e w'=>e=.returned (.tuple #[.int .u32 ((aW bs/2^p%2^m:Nat):Int),.bool true])/\RS w' b off bs (p+m)/\W.grownBy w' (some b)):=hid (fun W p m h1 h2 h3=>jV b off bs p m W (by omega) hbs h1 h2 h3);clear hr hrs hbs;generalize aW bs=V at *;generalize hL:8*bs.length=L at *;have HL:=hid hL;clear hL;go_enter func210,ntmps210
 go_wp2;go_loopw [1,6] (fun q u wr=>∃(R p:Nat) (acc:List Nat),q=.int .i64 (R:Int)/\R<=512/\p<=L/\acc.length<=256/\w.heap.size<=wr.heap.size/\Hid (wr.ownsRow w.heap.size 3 1 u acc.length (aM acc))/\Hid (RS wr b off bs p)/\Hid (w.grownBy wr (some b)) /\
  Hid (r=(Bm.takeN (256-acc.length) R (V/2^p) (L-p)).map fun t=>(acc++t.1,t.2))) (fun _ u _=>256-acU u)
 case atStart=>
  refine⟨rest,pos,[],rfl,hrest,hp,by simp,Nat.le_refl _,hid (World.ownsRow_nil w _ _ _),Hrs,hid (aj _ _),hid ?_⟩;rw[Hr.out];cases Bm.takeN 256 rest (V/2^pos) (L-pos)<;>simp_all
 case round=>
  obtain⟨R,p,acc,rfl,hR,hpL,hacc,hsz,hown,hrs,hg,hres⟩:=hrel;clear Hr Hrs;obtain⟨A1,c1,rfl,hrd,hA1⟩:=dP hown.out;have Hrd:=hid hrd;have HA1:=hid (fun a e=>(hA1 a e).1);clear hA1;have hlen:=Le hown.out;have Hlen:=hid hlen;clear hrd hlen;by_cases hR0:R=0
  ·subst hR0;have Hx:=hid hres.out;rw[Qa]at Hx;clear hres hown;go_wp2;go_ret2;rw[Hx.out];refine⟨⟨A1,c1,?_,?_,?_⟩,hg.out⟩
   ·simp
   ·exact⟨by simpa using Hrd.out,HA1.out⟩
   ·rw[HL.out,show L-(L-p)=p by omega];exact hrs.out
  ·have aoI:=eF R 10 (by omega);have Hw:=hid (alh.out R wr (by omega));have d0:decide ((0:Int)<(R:Int))=true:=decide_eq_true (by omega);by_cases Dq:L-p<Bm.wid R
   ·have Hx:Hid (r=none):=hid (by rw[hres.out,WX _ _ _ _ (by omega) Dq];rfl);have Hf:=hid (ahL.out wr p (Bm.wid R) hpL (by omega) Dq hrs.out);clear hres hown Dq hrs;generalize Bm.wid R=wd at *;go_wp2_with fail
    refine Hw.out.mono ?_;rintro e w' ⟨rfl,rfl⟩;go_wp2_with fail
    refine Hf.out.mono ?_;rintro e w' ⟨rfl,q,rfl⟩;go_wp2;go_ret2;rw[Hx.out];exact⟨rfl,bL hg.out q⟩
   ·have Ht:=hid (qm.out wr p (Bm.wid R) (by omega) (by omega) hrs.out);have hv:=Nat.mod_lt (V/2^p) (Nat.two_pow_pos (Bm.wid R));have aqK:2^Bm.wid R<=2^10:=Nat.pow_le_pow_right (by omega) aoI;have apM:(2:Nat)^10=1024:=by decide
    by_cases aiG:R<V/2^p%2^Bm.wid R
    ·have Hx:Hid (r=none):=hid (by rw[hres.out,Kg _ _ _ _ (by omega) aiG];rfl);clear hres hown;generalize V/2^p%2^Bm.wid R=x at *;generalize Bm.wid R=wd at *;generalize 2^wd=P at *;have hci:IntKind.i64.wrap (x:Int)=(x:Int):=IntWalk.i64_in _ (by omega);have d1:decide ((R:Int)<(x:Int))=true:=decide_eq_true (by omega);go_wp2_with fail
     refine Hw.out.mono ?_;rintro e w' ⟨rfl,rfl⟩;go_wp2_with fail
     refine Ht.out.mono ?_;rintro e w3 ⟨rfl,QD,hg3⟩;have Hg3:=hid (bF hg.out hg3);clear QD hg3;go_wp2;go_ret2;rw[Hx.out];exact⟨rfl,Hg3.out⟩
    ·by_cases hfull:acc.length=256
     ·have Hx:Hid (r=none):=hid (by rw[hres.out,hfull,Bm.takeN,if_neg hR0];rfl);clear hres hown;generalize V/2^p%2^Bm.wid R=x at *;generalize Bm.wid R=wd at *;generalize 2^wd=P at *;have hci:IntKind.i64.wrap (x:Int)=(x:Int):=IntWalk.i64_in _ (by omega);have d1:decide ((R:Int)<(x:Int))=false:=decide_eq_false (by omega);rw[hfull]at *;go_wp2_with fail
      refine Hw.out.mono ?_;rintro e w' ⟨rfl,rfl⟩;go_wp2_with fail
      refine Ht.out.mono ?_;rintro e w3 ⟨rfl,QD,hg3⟩;have Hg3:=hid (bF hg.out hg3);clear QD hg3;go_wp2;go_ret2;rw[Hx.out];exact⟨rfl,Hg3.out⟩
     ·have dV:=hid hres.out;rw[show 256-acc.length=(256-(acc.length+1))+1 by omega,PZ _ _ _ _ _ (by omega) (by omega) (by omega)]at dV;clear hres;generalize V/2^p%2^Bm.wid R=x at *;generalize Bm.wid R=wd at *;generalize 2^wd=P at *;generalize hn:acc.length=n at *;have Hn:=hid hn;clear hn;have hci:IntKind.i64.wrap (x:Int)=(x:Int):=IntWalk.i64_in _ (by omega);have d1:decide ((R:Int)<(x:Int))=false:=decide_eq_false (by omega);have d2:((n:Int) == 256)=false:=by rw[beq_eq_false_iff_ne];omega
      have hrx:((R-x:Nat):Int)=(R:Int)-(x:Int):=by omega
      have hwq:wrap64 ((R:Int)-(x:Int))=(R:Int)-(x:Int):=jw _ (by omega) (by omega);go_wp2_with fail
      refine Hw.out.mono ?_;rintro e w' ⟨rfl,rfl⟩;go_wp2_with fail
      refine Ht.out.mono ?_;rintro e w3 ⟨rfl,QD,hg3⟩;have Hg3:=hid (bF hg.out hg3);have adQ:=hid QD;have kV:=hid (TG hown.out hg3 hbl);have hs3:=hg3.size;clear QD hg3 hrs hg hown Ht;go_wp2_with (at_builtin;refine wpList_append_own _ rfl _ _ 115 rfl w.heap.size 3 i0 (.int .i64 0) 1 8 underlying115 hi hz0 hz1 hz2 rfl (by decide) _ _ _ rfl (kV.out.alloc _) ⟨w3.heap.size,0,none⟩ 1 1 [.int .i64 (x:Int)] rfl rfl ?d1 ?d2 ?d3 ?d4 ?d5 ?_)
      case d1=>
       intro j u hj;match j,hj with
       | 0,hj=>simp at hj;subst hj;simp[Addr.add]
      case d2=>intro u hu;simp at hu;subst hu;rfl
      case d3=>unfold maxLen;omega
      case d4=>omega
      case d5=>simp;omega
      intro u' w7 bM fO _;have hga:w3.grownBy (w3.alloc (.cells #[.int .i64 (x:Int)] 3)) (some b):=aF (aj _ _) _;have hnb:(Value.slice A1 n c1).ownBlock≠some b:=fun e=>by have:=(kV.out.lt b e).1;omega
      have akV:=hid (RS.keep (RS.keep adQ.out (aF (aj w3 none) (.cells #[.int .i64 (x:Int)] 3)) (by simp)) fO hnb);have Hg7:Hid (w.grownBy w7 (some b)):=hid (by
       have h1:=bF Hg3.out hga;refine⟨fO.os.trans h1.os,fO.tape.trans h1.tape,fO.output.trans h1.output,Nat.le_trans h1.size fO.size,fun i hi2 hne=>?_⟩;rw[<-h1.block i hi2 hne];exact fO.block i (Nat.lt_of_lt_of_le hi2 h1.size) (fun e=>by have:=(kV.out.lt i e.symm).1;omega))
      have e:aM acc++[Value.int .i64 (x:Int)]=aM (acc++[x]):=by simp[aM]
      rw[e]at bM;have hl7:=Le bM;have hs7:w.heap.size<=w7.heap.size:=Hg7.out.size;have oC:=hid bM;have Hln:Hid ((acc++[x]).length=n+1):=hid (by rw[List.length_append,Hn.out];rfl);clear bM fO e hga hnb kV Hg3 adQ;go_wp2;go_roundw
      case rel=>
       refine⟨R-x,p+wd,acc++[x],by rw[hrx],by omega,by omega,by rw[Hln.out];omega,hs7,by rw[Hln.out];exact oC,akV,Hg7,hid ?_⟩;rw[dV.out,Hln.out];cases Bm.takeN (256-(n+1)) (R-x) (V/2^(p+wd)) (L-(p+wd))with
       | none=>rfl
       | some t=>simp
      case measure=>rw[hl7];show 256-(n+1)<256-n;omega
theorem NY(w:World)(b off pos:Nat)(bs:List Nat)(hs:bs.length<=100000)(hbs:∀x∈bs,x<256)(hp:pos<=8*bs.length)(hrs:RS w b off bs pos) :
  Calls prog 201 #[.pointer (some ⟨b,off,none⟩)] w fun e w'=>aea w.heap.size w' e (Bm.takeA (aW bs/2^pos) (8*bs.length-pos))/\w.grownBy w' (some b) /\
   ∀t,Bm.takeA (aW bs/2^pos) (8*bs.length-pos)=some t->RS w' b off bs (8*bs.length-t.2.2):=by
 unfold Bm.takeA;by_cases Dq:8*bs.length-pos<3
 ·rw[if_pos Dq];have Hf:=hid (rH b off bs pos 3 w (by omega) hp (by omega) Dq hrs);clear hrs hbs;go_enter func201,ntmps201
  go_wp2_with fail
  refine Hf.out.mono ?_;rintro e w' ⟨rfl,q,rfl⟩;go_wp2;go_ret3
  exact⟨⟨_,_,rfl⟩,bL (aj _ _) q,fun t h=>by cases h⟩
 ·rw[if_neg Dq];have ht:=jV b off bs pos 3 w (by omega) hbs (by omega) (by omega) hrs;have hm:=Nat.mod_lt (aW bs/2^pos) (Nat.two_pow_pos 3);have h8:(2:Nat)^3=8:=by decide
  by_cases h4:4<aW bs/2^pos%2^3
  ·rw[if_pos h4];have Ht:=hid ht;clear ht hrs hbs;generalize aW bs/2^pos%2^3=x at *;have hci:IntKind.i64.wrap (x:Int)=(x:Int):=IntWalk.i64_in _ (by omega);have hw5:wrap64 (5+(x:Int))=5+(x:Int):=jw _ (by omega) (by omega);have d1:decide ((9:Int)<5+(x:Int))=true:=decide_eq_true (by omega);go_enter func201,ntmps201
   go_wp2_with fail
   refine Ht.out.mono ?_;rintro e w' ⟨rfl,_,hg⟩;have Hg:=hid hg;clear hg;go_wp2;go_ret3
   exact⟨⟨_,_,rfl⟩,Hg.out,fun t h=>by cases h⟩
  ·rw[if_neg h4];have hP:=ED (5+aW bs/2^pos%2^3) (by omega) (by omega);have Yc:=hid (fun W (h:RS W b off bs (pos+3))=>NV W b off (pos+3) (2^(5+aW bs/2^pos%2^3)) bs hs hbs (by omega) hP.2 h);rw[Nat.pow_add (m:=pos) (n:=3),<-Nat.div_div_eq_div_mul,<-Nat.sub_sub]at Yc;have Ht:=hid ht;clear ht hrs hbs;generalize hr:Bm.takeN 256 (2^(5+aW bs/2^pos%2^3)) (aW bs/2^pos/2^3) (8*bs.length-pos-3)=r at *;clear hr;generalize aW bs/2^pos%2^3=x at *;have hci:IntKind.i64.wrap (x:Int)=(x:Int):=IntWalk.i64_in _ (by omega);have hw5:wrap64 (5+(x:Int))=5+(x:Int):=jw _ (by omega) (by omega);have d1:decide ((9:Int)<5+(x:Int))=false:=decide_eq_false (by omega);have d2:decide (5+(x:Int)<0)=false:=decide_eq_false (by omega);have htn:(5+(x:Int)).toNat=5+x:=by omega
   have hpd:(2:Int)^(5+x)=((2^(5+x):Nat):Int):=by simp
   have H5x:Hid (5+(x:Int)=((5+x:Nat):Int)):=hid (by omega);obtain⟨S,hS⟩:∃S,S=2^(5+x):=⟨_,rfl⟩;rw[<-hS]at hP hpd Yc;have hw64:wrap64 (S:Int)=(S:Int):=jw _ (by omega) (by omega);clear hS;go_enter func201,ntmps201
   go_wp2_with fail
   refine Ht.out.mono ?_;rintro e w1 ⟨rfl,aoo,hg1⟩;have Hn1:=hid (Yc.out w1 aoo);have Hg1:=hid hg1;have Hs1:=hid hg1.size;clear aoo hg1 Yc Ht;cases r with
   | none=>
    go_wp2_with fail
    refine Hn1.out.mono ?_;rintro e w2 ⟨rfl,hg2⟩;have Hg2:=hid (bF Hg1.out hg2);clear hg2;go_wp2;go_ret3
    exact⟨⟨_,_,rfl⟩,Hg2.out,fun t h=>by cases h⟩
   | some t=>
    go_wp2_with fail
    refine Hn1.out.mono ?_;rintro e w2 ⟨⟨A,c,rfl,hrd,QC⟩,hg2⟩;have Hg2:=hid (bF Hg1.out hg2);have Hrd:=hid hrd;have acG:=hid QC;clear hg2 hrd QC;go_wp2;go_ret3
    refine⟨⟨A,c,?_,Hrd.out.1,fun a e=>Nat.le_trans Hs1.out (Hrd.out.2 a e)⟩,Hg2.out,fun t h=>?_⟩
    ·rw[H5x.out];rfl
    ·injection h with h
     subst h;exact acG.out
end Go.Proofs.YtaebnkeddcbmkaaGreat
