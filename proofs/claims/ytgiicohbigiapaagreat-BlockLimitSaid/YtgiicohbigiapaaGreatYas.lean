/- Contracts, and what they rest on. Conditions: the theorems' premises. -/
import Derived.Test.YtgiicohbigiapaaGreatYan
import Derived.Test.YtgiicohbigiapaaGreatYah
import Derived.StillTailTactics
set_option maxHeartbeats 4000000
set_option maxRecDepth 100000
open Go.Lib(hid)
open Go.Proofs.Tryz Go.Proofs.YtgiicohbigiapaaGreat.Bm
namespace Go.Proofs.YtgiicohbigiapaaGreat
open Go.RowKit
namespace Bm
def syms(ls:List Nat)(log K:Nat):List Nat:=(ph1 ls log K).map (·.1)
theorem kS(ls:List Nat)(log K:Nat):(syms ls log K).length=2^log:=by simp[syms,ng]
theorem SS(ls:List Nat)(log:Nat):syms ls log 0=List.replicate (2^log) 0:=by simp[syms,Wx]
theorem SQ(ls:List Nat)(log K s:Nat)(h5:5≤log)(h9:log≤9)(hK:K<2^log)(hs:(dG 0 ls)[K]?=some s):syms ls log (K+1)=(syms ls log K).set (rA log K) s:=by
 obtain⟨h,e⟩:=Ww ls log K s h5 h9 hK hs;unfold syms;rw[e,List.map_set]
theorem XC(ls:List Nat)(log:Nat):syms ls log (2^log)=tab ls log:=by
 unfold syms tab ph1;rw[List.map_map];apply List.map_congr_left
 intro p _;simp[YQ]
theorem Sz(a S:Nat):((a:Int)+((S:Int)/2+(S:Int)/8+3))%(S:Int)=(((a+(S/2+S/8+3))%S:Nat):Int):=by
 rw[Int.natCast_emod];congr 1
end Bm
theorem aaL:(prog.info? 5).map (fun i=>(i.zero,i.size,i.bytes))=some (some (.int .u8 0),1,1):=by kernel_rfl
theorem GD(A:Option Addr)(c:Nat)(ls:List Nat)(log:Nat)(w:World)(hf:bL ls log)(hr:Reads w A (aL ls)) :
  Calls prog 197 #[.slice A ls.length c,.int .i64 ((2^log:Nat):Int)] w fun e w'=>∃g,e=.returned (.slice (some ⟨g,0,none⟩) (2^log) (2^log))∧w.heap.size≤g∧Row w' g 5 (u8s (Bm.tab ls log))∧Below w.heap.size w w':=by
 obtain⟨i0,hi,hz0,hz1,hz2⟩:=info_parts aaL;have aew:=hf.low;have aex:=hf.high;have hlen:=hf.len;obtain⟨S,hS⟩:∃S,S=2^log:=⟨_,rfl⟩;have alF:32≤S:=by rw[hS];exact Nat.pow_le_pow_right (n:=2) (by omega) aew
 have akJ:S≤512:=by rw[hS];exact Nat.pow_le_pow_right (n:=2) (by omega) aex
 have hsum:ls.sum=S:=by rw[hS];exact hf.sum
 have hls:∀s (h:s<ls.length),∃g off,A=some ⟨g,off,none⟩∧w.cell? ⟨g,off+s,none⟩=some (.int .i64 (ls[s]:Int))∧g<w.heap.size:=fun s h=>by
  obtain⟨g,off,e,hc⟩:=hr (by intro e;have:=congrArg List.length e;rw[aM,List.length_nil]at this;omega);have h1:=hc s (by rw[aM];exact h);rw[bK ls s h]at h1;exact⟨g,off,e,h1,World.block_lt_of_cell? w _ h1⟩
 have Hls:=hid hls;have HS:=hid hS;have ZC:=hid hsum;clear hf hr hls hS hsum;obtain⟨g0,hg0⟩:∃g,g=w.heap.size:=⟨_,rfl⟩;have Hg0:=hid hg0;clear hg0;rw[←HS.out];go_enter func197,ntmps197
 go_wp2_with (at_make;refine wpList_make_full _ rfl _ _ 87 rfl w.heap.size 5 i0 (.int .u8 0) 1 underlying87 hi hz0 hz1 .i64 .i64 _ _ S rfl rfl ?c1 ?c1 ?c2 ?c3 ?c4 ?_)
 case c1=>rfl
 case c2=>first | omega | (rw[hz2];omega)
 case c3=>unfold maxLen;omega
 try case c4=>exact Nat.le_refl _
 intro w1 hown1 hg1;have hb1:=aJ hg1;have hr0:=nu hown1;rw[←Hg0.out]at hr0 ⊢;have hr1:Row w1 g0 5 (u8s (Bm.syms ls log 0)):=by rw[SS,←HS.out];exact hr0
 have Hb1:=hid hb1;have Hr1:=hid hr1;clear hown1 hg1 hr0 hb1 hr1 hi hz0 hz1 hz2;go_wp2;go_loopw [7,20] (fun a s wr=>∃si:Nat,si≤ls.length∧a=.int .i64 (rA log (ls.take si).sum:Int)∧s=.int .i64 (si:Int)∧Hid (Row wr g0 5 (u8s (Bm.syms ls log (ls.take si).sum)))∧Hid (Below w.heap.size w wr)) (fun _ s _=>ls.length-(intOf s).toNat)
 case atStart=>exact⟨0,by omega,by simp[rA],rfl,hid (by rw[List.take_zero,List.sum_nil];exact Hr1.out),Hb1⟩
 case round=>
  obtain⟨si,hsi,rfl,rfl,hrow,hbel⟩:=hrel;clear Hr1 Hb1;by_cases hlt:si<ls.length
  ·obtain⟨g,off,rfl,hcell,hgl⟩:=Hls.out si hlt;obtain⟨K,hK⟩:∃K,K=(ls.take si).sum:=⟨_,rfl⟩;have hK1:(ls.take (si+1)).sum=K+ls[si]:=by rw[List.take_succ_eq_append_getElem hlt,List.sum_append_nat,hK];simp
   have hKS:K+ls[si]≤S:=by
    rw[←hK1,←ZC.out,←List.take_append_drop (si+1) ls,List.sum_append_nat];simp
   have hsy:∀k,k<ls[si]→(dG 0 ls)[K+k]?=some si:=fun k hk=>by
    have h1:=DR ls 0 si k hlt hk;rw[Nat.zero_add,←hK]at h1;exact h1
   rw[←hK]at hrow ⊢;have Hsy:=hid hsy;have HK1:=hid hK1;have c0:=(hbel.out.cell (p:=⟨g,off+si,none⟩) hgl).trans hcell;clear hsy hK1 hK hcell;generalize ls[si]=n at Hsy HK1 hKS c0;have alb:n≤512:=by omega
   go_wp2;clear c0;go_loopw [7,26] (fun a k wr=>∃ki:Nat,ki≤n∧a=.int .i64 (rA log (K+ki):Int)∧k=.int .i64 (ki:Int)∧Hid (Row wr g0 5 (u8s (Bm.syms ls log (K+ki))))∧Hid (Below w.heap.size w wr)) (fun _ k _=>n-(intOf k).toNat)
   case atStart=>exact⟨0,by omega,rfl,rfl,hrow,hbel⟩
   case round=>
    obtain⟨ki,hki,rfl,rfl,hrow2,Cu⟩:=hrel;clear hrow hbel;by_cases hkn:ki<n
    ·have hpl:rA log (K+ki)<S:=by rw[HS.out];exact Rk log _
     have hnx:=SQ ls log (K+ki) si aew aex (by rw[←HS.out];omega) (Hsy.out ki hkn);have hps:=WB log (K+ki);rw[←HS.out]at hps;have hst:Sy log=S/2+S/8+3:=by unfold Sy;rw[←HS.out]
     rw[hst,show K+ki+1=K+(ki+1) by omega]at hps;rw[show K+ki+1=K+(ki+1) by omega]at hnx;have hcs:=wU (Bm.syms ls log (K+ki)) (rA log (K+ki)) si;rw[←hnx]at hcs;have hsl:rA log (K+ki)<(Bm.syms ls log (K+ki)).length:=by rw[Bm.kS,←HS.out];exact hpl
     have hget:=bD (Bm.syms ls log (K+ki)) (rA log (K+ki)) hsl;have c1:=(hrow2.out.cell (rA log (K+ki))).trans hget;have f1:=hrow2.out.free (rA log (K+ki));have Bh:=hid (hrow2.out.aY (rA log (K+ki)) (.int .u8 (si:Int)));rw[hcs]at Bh;generalize (Bm.syms ls log (K+ki))[rA log (K+ki)]=old at c1;have Hps:=hid hps;clear hnx hps hst hcs hget hsl hrow2 HK1 Hsy;generalize rA log (K+ki)=a at hpl c1 f1 Bh Hps ⊢;go_wp2;go_roundw
     case rel=>
      refine⟨ki+1,by omega,?_,by go_num,Bh,hid (Cu.out.setCell (by rw[Hg0.out];exact Nat.le_refl _) _)⟩;rw[Hps.out,Sz]
     case measure=>simp[intOf];omega
    ·obtain rfl:ki=n:=by omega
     rw[←HK1.out]at hrow2 ⊢;clear Hsy;go_wp2;go_roundw
     case rel=>exact⟨si+1,by omega,rfl,by go_num,hrow2,Cu⟩
     case measure=>simp[intOf];omega
  ·obtain rfl:si=ls.length:=by omega
   rw[List.take_length,ZC.out,HS.out,XC]at hrow;generalize rA log (ls.take ls.length).sum=akE;go_wp2;go_ret;exact⟨g0,rfl,by rw[Hg0.out];exact Nat.le_refl _,hrow.out,hbel.out⟩
theorem MG(s x log:Nat)(w:World)(h0:0<x)(hx:x<2^(log+1))(Ac:log≤9) :
  Calls prog 198 #[.int .u8 (s:Int),.int .i64 (x:Int),.int .i64 (log:Int)] w fun e w'=>e=.returned (.agg #[.int .u8 (s:Int),.int .i64 (bO log x:Int),.int .i64 (zH log x:Int)])∧Below w.heap.size w w':=by
 have ajJ:2^(log+1)≤2^10:=Nat.pow_le_pow_right (n:=2) (by omega) (by omega);have hS9:2^log≤2^9:=Nat.pow_le_pow_right (n:=2) (by omega) (by omega);have hle:=dZ _ _ hx;have hge:=kU x h0;have hlo:=tL log _ h0 hx;have hhi:=BJ log _ h0 hx;have hBe:(log:Int)+1-(Bm.wid x:Int)=(bO log x:Int):=by unfold bO;omega
 have hB9:bO log x≤9:=by unfold bO;omega
 have hZe:zH log x=x*2^bO log x-2^log:=rfl;have hxl:x<4294967296:=by omega
 have Hwd:=hid (fun W=>iC x W hxl);have hMi:(x:Int)*2^bO log x=((x*2^bO log x:Nat):Int):=by simp
 have hSi:(2:Int)^log=((2^log:Nat):Int):=by simp
 have hM:x*2^bO log x≤1024:=by
  rw[Nat.add_mul,Nat.one_mul]at hhi;exact Nat.le_trans (Nat.le_trans (Nat.le_add_right _ _) hhi) ajJ
 rw[hZe];generalize Bm.wid x=wX at *;generalize bO log x=B at *;generalize x*2^B=M at *;generalize 2^log=S at *;have hw1:IntKind.i64.wrap (M:Int)=(M:Int):=IntWalk.i64_in _ (by omega);have hw2:IntKind.i64.wrap (S:Int)=(S:Int):=IntWalk.i64_in _ (by omega);obtain⟨Z,hZ⟩:∃Z,Z=M-S:=⟨_,rfl⟩;have hZi:(M:Int)-(S:Int)=(Z:Int):=by omega
 rw[←hZ];clear hZ hhi hx ajJ hle hZe;go_enter func198,ntmps198
 go_wp2_with fail
 refine(Hwd.out _).mono ?_;rintro e w' ⟨rfl,rfl⟩;go_wp2;go_still_tail 9,(by kernel_rfl)
 change wpList _ _ _ _ _ (w.alloc (.cells #[.int .u8 0,.int .i64 0,.int .i64 0] 248)).drew;go_wp2;refine bodyPost_ret (v:=.agg #[.int .u8 (s:Int),.int .i64 (B:Int),.int .i64 (Z:Int)]) (by simp[results,results198,go_sem]) rfl ⟨rfl,?_⟩;exact((Below.refl _ _).alloc (Nat.le_refl _) _).drew
def qE(w:World)(p:Addr)(ls:List Nat)(log:Nat):Prop:=∃b gc gs:Nat,p=⟨b,0,none⟩ ∧
 Row w b 251 [.int .i64 (log:Int),.slice (some ⟨gc,0,none⟩) (2^log) (2^log),.slice (some ⟨gs,0,none⟩) ls.length ls.length] ∧
 Row w gc 248 (c3 (nO ls log))∧∃vs:List Value,Row w gs 112 vs∧vs.length=ls.length ∧
  ∀s,s<ls.length→∃A c,vs[s]?=some (.slice A (ls[s]?.getD 0) c)∧Reads w A (aL (aX ls log (2^log) s))
theorem bX(w W:World)(p:Addr)(ls:List Nat)(log:Nat)(h:qE w p ls log)(hb:Below w.heap.size w W):qE W p ls log:=by
 obtain⟨b,gc,gs,e,h1,h2,vs,h3,h4,h5⟩:=h;refine⟨b,gc,gs,e,aN h1 hb,aN h2 hb,vs,aN h3 hb,h4,fun s hs=>?_⟩;obtain⟨A,c,h6,h7⟩:=h5 s hs;exact⟨A,c,h6,aC h7 hb⟩
theorem fK(log:Nat)(h5:5≤log)(h9:log≤9):32≤2^log∧2^log≤512:=
 ⟨Nat.pow_le_pow_right (n:=2) (i:=5) (by omega) h5,Nat.pow_le_pow_right (n:=2) (j:=9) (by omega) h9⟩
theorem dY(w:World)(p:Addr)(ls:List Nat)(log:Nat)(h:qE w p ls log):Calls prog 213 #[.pointer (some p)] w fun e w'=>e=.returned (.int .i64 ((2^log:Nat):Int))∧w=w':=by
 obtain⟨b,gc,gs,rfl,h1,_⟩:=h;have c1:=h1.cell 1;simp only[List.getElem?_cons_succ,List.getElem?_cons_zero]at c1;clear h1;generalize 2^log=S at *;go_enter func213,ntmps213
 go_wp2;go_ret;exact⟨rfl,rfl⟩
theorem DZ(w:World):Calls prog 213 #[.pointer none] w fun e w'=>e=.returned (.int .i64 0)∧w=w':=by
 go_enter func213,ntmps213
 go_wp2;go_ret;exact⟨rfl,rfl⟩
theorem qy(w:World)(p:Addr)(ls:List Nat)(log:Nat)(h:qE w p ls log):Calls prog 216 #[.pointer (some p)] w fun e w'=>e=.returned (.int .i64 (log:Int))∧w=w':=by
 obtain⟨b,gc,gs,rfl,h1,_⟩:=h;have c1:=h1.cell 0;simp only[List.getElem?_cons_zero]at c1;clear h1;go_enter func216,ntmps216
 go_wp2;go_ret;exact⟨rfl,rfl⟩
theorem XK(w:World):Calls prog 216 #[.pointer none] w fun e w'=>e=.returned (.int .i64 0)∧w=w':=by
 go_enter func216,ntmps216
 go_wp2;go_ret;exact⟨rfl,rfl⟩
theorem wR(v:Value)(S:Nat)(st:Int)(w:World)(hsz:Calls prog 213 #[v] w fun e w'=>e=.returned (.int .i64 (S:Int))∧w=w') :
  Calls prog 229 #[v,.int .i64 st] w fun e w'=>e=.returned (.bool (decide (0≤st∧st<(S:Int))))∧w=w':=by
 have Hsz:=hid hsz;clear hsz;by_cases h0:0≤st
 ·have d0:decide (0≤st)=true:=decide_eq_true h0;have hd:decide (st<(S:Int))=decide (0≤st∧st<(S:Int)):=by simp[h0]
  have Hd:=hid hd;clear hd h0;go_enter func229,ntmps229
  go_wp2_with fail
  refine Hsz.out.mono ?_;rintro e w' ⟨rfl,rfl⟩;go_wp2;go_ret;exact⟨congrArg (fun x=>Ending.returned (Value.bool x)) Hd.out,rfl⟩
 ·have d0:decide (0≤st)=false:=decide_eq_false h0;rw[show decide (0≤st∧st<(S:Int))=false from decide_eq_false (fun h=>h0 h.1)];clear Hsz;go_enter func229,ntmps229
  go_wp2;go_ret;exact⟨rfl,rfl⟩
theorem Tg(w:World)(st:Int):Calls prog 234 #[.pointer none,.int .i64 st] w fun e w'=>e=.returned (.tuple #[.agg #[.int .u8 0,.int .i64 0,.int .i64 0],.bool false])∧Below w.heap.size w w':=by
 have hh:∀W,Calls prog 229 #[.pointer none,.int .i64 st] W fun e w'=>e=.returned (.bool false)∧W=w':=fun W=>by
  have h1:=wR (.pointer none) 0 st W (DZ W);rw[decide_eq_false (by omega)]at h1;exact h1
 have Hh:=hid hh;clear hh;go_enter func234,ntmps234
 go_wp2_with fail
 refine(Hh.out _).mono ?_;rintro e w' ⟨rfl,rfl⟩;go_wp2;refine bodyPost_ret (v:=.tuple #[.agg #[.int .u8 0,.int .i64 0,.int .i64 0],.bool false]) (by simp[results,results234,go_sem]) rfl ⟨rfl,?_⟩;exact(Below.refl _ _).alloc (Nat.le_refl _) _
theorem qw(w:World)(p:Addr)(ls:List Nat)(log:Nat)(st:Int)(hf:bL ls log)(h:qE w p ls log) :
  Calls prog 234 #[.pointer (some p),.int .i64 st] w fun e w'=>e=.returned (.tuple #[Kt (tq ls log st),.bool (decide (0≤st∧st<((2^log:Nat):Int)))])∧Below w.heap.size w w':=by
 have hh:=fun W (hW:qE W p ls log)=>wR (.pointer (some p)) (2^log) st W (dY W p ls log hW)
 have Hh:=hid (hh _ (bX _ _ _ _ _ h ((Below.refl _ _).alloc (Nat.le_refl w.heap.size) (.cells #[.int .u8 0,.int .i64 0,.int .i64 0] 248))));have hP:=fK log hf.low hf.high;clear hh;obtain⟨b,gc,gs,rfl,h1,h2,_⟩:=h;have c1:=h1.cell 1;simp only[List.getElem?_cons_succ,List.getElem?_cons_zero]at c1;have hlt:=h1.lt;have hlt2:=h2.lt;by_cases hst:0≤st∧st<((2^log:Nat):Int)
 ·obtain⟨i,rfl⟩:=Int.eq_ofNat_of_zero_le hst.1;have hi:i<2^log:=by omega
  have hil:i<(nO ls log).length:=by rw[zO];exact hi
  obtain⟨e0,e1,e2⟩:=Oy (nO ls log) i hil;rw[Kv]at e0 e1 e2;have k0:=(h2.cell (i*3)).trans e0;have k1:=(h2.cell (i*3+1)).trans e1;have k2:=(h2.cell (i*3+2)).trans e2;dsimp only at k0 k1 k2;have hA:Kt (tq ls log (i:Int))=.agg #[.int .u8 (bf ls log i:Int),.int .i64 (aB ls log i:Int),.int .i64 (aS ls log i:Int)]:=by
   unfold tq Kt;rw[if_pos hst,Int.toNat_natCast]
  rw[decide_eq_true hst]at Hh ⊢;rw[hA];clear hA e0 e1 e2 hil h1 h2 hst hf;generalize bf ls log i=x at *;generalize aB ls log i=y at *;generalize aS ls log i=z at *;generalize 2^log=S at *;go_enter func234,ntmps234
  go_wp2_with fail
  refine Hh.out.mono ?_;rintro e w' ⟨rfl,rfl⟩;go_wp2;refine bodyPost_ret (v:=.tuple #[.agg #[.int .u8 (x:Int),.int .i64 (y:Int),.int .i64 (z:Int)],.bool true]) (by simp[results,results234,go_sem]) rfl ⟨rfl,?_⟩;exact(Below.refl _ _).alloc (Nat.le_refl _) _
 ·have hA:Kt (tq ls log st)=.agg #[.int .u8 0,.int .i64 0,.int .i64 0]:=by
   unfold tq Kt;rw[if_neg hst];rfl
  rw[decide_eq_false hst]at Hh ⊢;rw[hA];clear hA h1 h2 hst hf c1;go_enter func234,ntmps234
  go_wp2_with fail
  refine Hh.out.mono ?_;rintro e w' ⟨rfl,rfl⟩;go_wp2;refine bodyPost_ret (v:=.tuple #[.agg #[.int .u8 0,.int .i64 0,.int .i64 0],.bool false]) (by simp[results,results234,go_sem]) rfl ⟨rfl,?_⟩;exact(Below.refl _ _).alloc (Nat.le_refl _) _
theorem wS(w:World)(p:Addr)(ls:List Nat)(log:Nat)(st more:Int)(hf:bL ls log)(h:qE w p ls log) :
  Calls prog 235 #[.pointer (some p),.int .i64 st,.int .i64 more] w fun e w'=>e=.returned (.tuple #[.int .i64 (CZ ls log st more),.bool (Ao ls log st more)])∧Below w.heap.size w w':=by
 have Hc:=hid (qw w p ls log st hf h);have hP:=fK log hf.low hf.high;by_cases hst:0≤st∧st<((2^log:Nat):Int)
 ·have hA:Kt (tq ls log st)=.agg #[.int .u8 (bf ls log st.toNat:Int),.int .i64 (aB ls log st.toNat:Int),.int .i64 (aS ls log st.toNat:Int)]:=by
   unfold tq Kt;rw[if_pos hst]
  have hi:st.toNat<2^log:=by omega
  have hbs:=uO ls log st.toNat hf hi;have hb9:=uP ls log st.toNat hf hi;have hl9:=hf.high;have hnB:Ao ls log st more=decide (0≤more∧more<((2^aB ls log st.toNat:Nat):Int)):=by
   unfold Ao;rw[decide_eq_decide];exact⟨fun h=>h.2.2,fun h=>⟨hst.1,hst.2,h⟩⟩
  have hnA:CZ ls log st more=if 0≤more∧more<((2^aB ls log st.toNat:Nat):Int)then(aS ls log st.toNat:Int)+more else 0:=by
   unfold CZ;rw[hnB];simp only[decide_eq_true_eq]
  rw[hA,decide_eq_true hst]at Hc;rw[hnA,hnB];clear hA hnA hnB hst hi hf h;have hS:(2:Int)^aB ls log st.toNat=((2^aB ls log st.toNat:Nat):Int):=by simp
  have hpos:0<2^aB ls log st.toNat:=Nat.pow_pos (by omega);generalize bf ls log st.toNat=x at *;generalize aB ls log st.toNat=y at *;generalize aS ls log st.toNat=z at *;generalize 2^y=Y at *;have alo:z≤512:=Nat.le_trans (Nat.le_trans (Nat.le_add_right _ _) hbs) hP.2;have akM:Y≤512:=Nat.le_trans (Nat.le_trans (Nat.le_add_left _ _) hbs) hP.2;have hw:IntKind.i64.wrap (Y:Int)=(Y:Int):=IntWalk.i64_in _ (by omega);clear hbs;by_cases h0:more<0
  ·have d0:decide (more<0)=true:=decide_eq_true h0;rw[if_neg (fun h=>by omega),decide_eq_false (fun h=>by omega)];go_enter func235,ntmps235
   go_wp2_with fail
   refine Hc.out.mono ?_;rintro e w1 ⟨rfl,hb⟩;go_wp2;go_ret2;exact⟨rfl,hb.alloc hb.size _⟩
  ·have d0:decide (more<0)=false:=decide_eq_false h0;by_cases h1:(Y:Int)≤more
   ·have d1:decide ((Y:Int)≤more)=true:=decide_eq_true h1;rw[if_neg (fun h=>by omega),decide_eq_false (fun h=>by omega)];go_enter func235,ntmps235
    go_wp2_with fail
    refine Hc.out.mono ?_;rintro e w1 ⟨rfl,hb⟩;go_wp2;go_ret2;exact⟨rfl,hb.alloc hb.size _⟩
   ·have d1:decide ((Y:Int)≤more)=false:=decide_eq_false h1;rw[if_pos ⟨by omega,by omega⟩,decide_eq_true ⟨by omega,by omega⟩];go_enter func235,ntmps235
    go_wp2_with fail
    refine Hc.out.mono ?_;rintro e w1 ⟨rfl,hb⟩;go_wp2;go_ret2;exact⟨rfl,hb.alloc hb.size _⟩
 ·have hA:Kt (tq ls log st)=.agg #[.int .u8 0,.int .i64 0,.int .i64 0]:=by
   unfold tq Kt;rw[if_neg hst];rfl
  have hnB:Ao ls log st more=false:=decide_eq_false (fun h=>hst ⟨h.1,h.2.1⟩);have hnA:CZ ls log st more=0:=by
   unfold CZ;rw[hnB];rfl
  rw[hA,decide_eq_false hst]at Hc;rw[hnA,hnB];clear hA hnA hnB hst hf h;go_enter func235,ntmps235
  go_wp2_with fail
  refine Hc.out.mono ?_;rintro e w1 ⟨rfl,hb⟩;go_wp2;go_ret2;exact⟨rfl,hb.alloc hb.size _⟩
theorem ZK(W b:Nat)(hW:W<4294967296)(hb:b<32):bits .and .i64 (W:Int) (((2^b:Nat):Int)-1)=((W%2^b:Nat):Int):=by
 have hp:2^b<2^32:=Nat.pow_lt_pow_right (by omega) hb;have hpos:=Nat.two_pow_pos b;have h1:∀a:Nat,a<4294967296→(BitVec.ofInt 64 (a:Int)).toNat=a:=fun a ha=>by
  rw[BitVec.ofInt_natCast,BitVec.toNat_ofNat];exact Nat.mod_eq_of_lt (by omega)
 rw[show((2^b:Nat):Int)-1=((2^b-1:Nat):Int) by omega];show IntKind.i64.wrap ((BitVec.ofInt 64 (W:Int) &&& BitVec.ofInt 64 ((2^b-1:Nat):Int)).toNat:Int)=_;rw[BitVec.toNat_and,h1 W hW,h1 _ (by omega),Nat.and_two_pow_sub_one_eq_mod,IntKind.wrap_i64];have h2:=Nat.mod_lt W hpos;omega
theorem Te(w:World)(p:Addr)(ls:List Nat)(log:Nat)(st:Int)(s:Nat)(h:qE w p ls log)(hst:¬(0≤st∧st<((2^log:Nat):Int))) :
  Calls prog 215 #[.pointer (some p),.int .i64 st,.int .u8 (s:Int)] w fun e w'=>e=.returned (.tuple #[.int .i64 0,.int .i64 0,.int .i64 0,.bool false])∧w=w':=by
 have Hh:=hid (wR (.pointer (some p)) (2^log) st w (dY w p ls log h));rw[decide_eq_false hst]at Hh;clear hst h;go_enter func215,ntmps215
 go_wp2_with fail
 refine Hh.out.mono ?_;rintro e w' ⟨rfl,rfl⟩;go_wp2;refine bodyPost_ret (v:=.tuple #[.int .i64 0,.int .i64 0,.int .i64 0,.bool false]) (by simp[results,results215,go_sem]) rfl ⟨rfl,rfl⟩
theorem MF(w:World)(p:Addr)(ls:List Nat)(log:Nat)(st:Int)(s:Nat)(hf:bL ls log)(h:qE w p ls log)(hst:0≤st∧st<((2^log:Nat):Int))(hs:ls[s]?.getD 0=0)(La:s<256) :
  Calls prog 215 #[.pointer (some p),.int .i64 st,.int .u8 (s:Int)] w fun e w'=>e=.returned (.tuple #[.int .i64 0,.int .i64 0,.int .i64 0,.bool false])∧w=w':=by
 have Hh:=hid (wR (.pointer (some p)) (2^log) st w (dY w p ls log h));rw[decide_eq_true hst]at Hh;have hlen:=hf.len;obtain⟨b,gc,gs,rfl,h1,h2,vs,h3,h4,h5⟩:=h;have c1:=h1.cell 2;simp only[List.getElem?_cons_succ,List.getElem?_cons_zero]at c1;by_cases hsl:s<ls.length
 ·obtain⟨A,c,h6,h7⟩:=h5 s hsl;have c2:=(h3.cell s).trans h6;rw[hs]at c2;have d1:decide (ls.length≤s)=false:=decide_eq_false (by omega);clear h1 h2 h3 h4 h5 h6 h7 hst hs hf;go_enter func215,ntmps215
  go_wp2_with fail
  refine Hh.out.mono ?_;rintro e w' ⟨rfl,rfl⟩;go_wp2;refine bodyPost_ret (v:=.tuple #[.int .i64 0,.int .i64 0,.int .i64 0,.bool false]) (by simp[results,results215,go_sem]) rfl ⟨rfl,rfl⟩
 ·have d1:decide (ls.length≤s)=true:=decide_eq_true (by omega);clear h1 h2 h3 h4 h5 hst hs hf;go_enter func215,ntmps215
  go_wp2_with fail
  refine Hh.out.mono ?_;rintro e w' ⟨rfl,rfl⟩;go_wp2;refine bodyPost_ret (v:=.tuple #[.int .i64 0,.int .i64 0,.int .i64 0,.bool false]) (by simp[results,results215,go_sem]) rfl ⟨rfl,rfl⟩
theorem zw(w:World)(b gs g off S i W N cap s L1 wN B x x2 q v m cc:Nat)(n0:Nat)(hh:∀W',W'=w→Calls prog 229 #[.pointer (some ⟨b,0,none⟩),.int .i64 (i:Int)] W' fun e w'=>e=.returned (.bool true)∧W'=w')
  (hsz:Calls prog 213 #[.pointer (some ⟨b,0,none⟩)] w fun e w'=>e=.returned (.int .i64 (S:Int))∧w=w')
  (c1:w.cell? ⟨b,2,none⟩=some (.slice (some ⟨gs,0,none⟩) n0 n0)) (hs:s<n0) (hn0:n0≤256) (c2:w.cell? ⟨gs,s,none⟩=some (.slice (some ⟨g,off,none⟩) N cap))
  (hN0:0<N) (hN:N≤512) (hW:W=i+S) (hWb:W<1024) (hw1:Bm.wid W=L1) (hw2:Bm.wid N=wN) (hB:L1=B+wN) (hB9:B≤20) (hx:x=W/2^B)
  (hlo:x<N→1≤B∧m=B-1∧x2=W/2^m) (hhi:N≤x→m=B∧x2=x) (hq:x2=N+q) (hqN:q<N) (c3:w.cell? ⟨g,off+q,none⟩=some (.int .i64 (v:Int))) (hcc:cc=W%2^m) :
  Calls prog 215 #[.pointer (some ⟨b,0,none⟩),.int .i64 (i:Int),.int .u8 (s:Int)] w fun e w'=>e=.returned (.tuple #[.int .i64 (v:Int),.int .i64 (cc:Int),.int .i64 (m:Int),.bool true])∧Below w.heap.size w w':=by
 have Hh:=hid (hh w rfl);have Hsz:=hid hsz;have agt:=hid (fun V=>iC W V (by omega));have agu:=hid (fun V=>iC N V (by omega));rw[hw1]at agt;rw[hw2]at agu;have d1:decide (n0≤s)=false:=decide_eq_false (by omega);have d2:((N:Int) == 0)=false:=by rw[beq_eq_false_iff_ne];omega
 have e1:(S:Int)+(i:Int)=(W:Int):=by omega
 have e2:(L1:Int)-(wN:Int)=(B:Int):=by omega
 have e3:(W:Int)/2^B=(x:Int):=by rw[hx];simp
 have hm:m≤B:=by
  rcases Nat.lt_or_ge x N with h | h
  ·have:=hlo h;omega
  ·have:=hhi h;omega
 have hP:2^m≤1048576:=by
  have h2:2^m≤2^20:=Nat.pow_le_pow_right (by omega) (by omega);have h3:(2:Nat)^20=1048576:=by decide
  omega
 have e4:(2:Int)^m=((2^m:Nat):Int):=by simp
 have e5:=ZK W m (by omega) (by omega);rw[←hcc]at e5;have hx2:x2=W/2^m:=by
  rcases Nat.lt_or_ge x N with h | h
  ·exact(hlo h).2.2
  ·obtain⟨h1,h2⟩:=hhi h;rw[h2,h1,hx]
 have e6:(W:Int)/((2^m:Nat):Int)=(x2:Int):=by rw[hx2];simp
 have e7:(x2:Int)-(N:Int)=(q:Int):=by omega
 have ami:x2≤1023:=by omega
 have hp0:0<2^m:=Nat.two_pow_pos m;have hxN:x≤1023:=by
  have:=Nat.div_le_self W (2^B);omega
 have hSW:S≤W:=by omega
 have hiW:i≤W:=by omega
 clear hh hsz hw1 hw2 hcc hx2 hx hW;have Hq:=hid hq;clear hq;generalize 2^m=P at *;have hwP:IntKind.i64.wrap (P:Int)=(P:Int):=IntWalk.i64_in _ (by omega);have acQ:IntKind.i64.wrap ((P:Int)-1)=(P:Int)-1:=IntWalk.i64_in _ (by omega);by_cases hlt:x<N
 ·obtain⟨k1,k2,k3⟩:=hlo hlt;have d3:decide (x<N)=true:=decide_eq_true hlt;have e8:(B:Int)-1=(m:Int):=by omega
  clear hlo hhi hB k2 k3;have E4:=hid e4;have E5:=hid e5;have E6:=hid e6;have E7:=hid e7;have E8:=hid e8;have HwP:=hid hwP;have ags:=hid acQ;clear e4 e5 e6 e7 e8 hwP acQ;go_enter func215,ntmps215
  go_wp2_with fail
  refine Hh.out.mono ?_;rintro e w' ⟨rfl,rfl⟩;go_wp2_with fail
  refine Hsz.out.mono ?_;rintro e w' ⟨rfl,rfl⟩;go_wp2_with fail
  refine(agt.out _).mono ?_;rintro e w' ⟨rfl,rfl⟩;go_wp2_with fail
  refine(agu.out _).mono ?_;rintro e w' ⟨rfl,rfl⟩;go_wp2_with fail
  rw[E8.out];clear e3;have e4:=E4.out;have e5:=E5.out;have e6:=E6.out;have e7:=E7.out;have e7b:(0:Int)≤(q:Int):=by omega
  have e7c:(q:Int)<(N:Int):=by omega
  have hwP:=HwP.out;have acQ:=ags.out;go_quiet (fail)
  go_wp2;refine bodyPost_ret (v:=.tuple #[.int .i64 (v:Int),.int .i64 (cc:Int),.int .i64 (m:Int),.bool true]) (by simp[results,results215,go_sem]) rfl ⟨rfl,below_drewN (Below.refl _ _) _⟩
 ·obtain⟨rfl,rfl⟩:=hhi (by omega);have d3:decide (x2<N)=false:=decide_eq_false hlt;clear hlo hhi hB;have E4:=hid e4;have E5:=hid e5;have E6:=hid e6;have E7:=hid e7;have HwP:=hid hwP;have ags:=hid acQ;clear e4 e5 e6 e7 hwP acQ;go_enter func215,ntmps215
  go_wp2_with fail
  refine Hh.out.mono ?_;rintro e w' ⟨rfl,rfl⟩;go_wp2_with fail
  refine Hsz.out.mono ?_;rintro e w' ⟨rfl,rfl⟩;go_wp2_with fail
  refine(agt.out _).mono ?_;rintro e w' ⟨rfl,rfl⟩;go_wp2_with fail
  refine(agu.out _).mono ?_;rintro e w' ⟨rfl,rfl⟩;go_wp2_with fail
  clear e3;have e4:=E4.out;have e5:=E5.out;have e6:=E6.out;have e7:=E7.out;have e7b:(0:Int)≤(q:Int):=by omega
  have e7c:(q:Int)<(N:Int):=by omega
  have hwP:=HwP.out;have acQ:=ags.out;go_quiet (fail)
  go_wp2;refine bodyPost_ret (v:=.tuple #[.int .i64 (v:Int),.int .i64 (cc:Int),.int .i64 (m:Int),.bool true]) (by simp[results,results215,go_sem]) rfl ⟨rfl,below_drewN (Below.refl _ _) _⟩
theorem DW(w:World)(p:Addr)(ls:List Nat)(log:Nat)(st:Int)(s:Nat)(hf:bL ls log)(h:qE w p ls log)(La:s<256) :
  Calls prog 215 #[.pointer (some p),.int .i64 st,.int .u8 (s:Int)] w fun e w'=>e=.returned (Ut (BG ls log st s))∧Below w.heap.size w w':=by
 by_cases hst:0≤st∧st<((2^log:Nat):Int)
 ·have hA:BG ls log st s=(jD ls log st.toNat s).map fun p=>(p,st.toNat-aS ls log p,aB ls log p):=by
   unfold BG;rw[if_pos hst]
  rw[hA];by_cases h0:ls[s]?.getD 0=0
  ·rw[BH ls log st.toNat s hf h0];exact(MF w p ls log st s hf h hst h0 La).mono fun e w' ⟨he,hw⟩=>⟨he,by subst hw;exact Below.refl _ _⟩
  ·have hsl:s<ls.length:=by
    rcases Nat.lt_or_ge s ls.length with h1 | h1
    ·exact h1
    ·exact absurd (by rw[List.getElem?_eq_none h1];rfl) h0
   have hg:ls[s]?=some ls[s]:=List.getElem?_eq_getElem hsl;rw[hg,Option.getD_some]at h0;obtain⟨i,rfl⟩:=Int.eq_ofNat_of_zero_le hst.1;rw[Int.toNat_natCast];have hi:i<2^log:=by omega
   have hn:=DF ls log s _ hf hg;have hP:=fK log hf.low hf.high;have hall:=zo ls log s hf;rw[hg,Option.getD_some]at hall;have hlen:=hf.len;have hl9:=hf.high;have hsz:=dY w p ls log h;have hh:∀W',W'=w→Calls prog 229 #[.pointer (some p),.int .i64 (i:Int)] W' fun e w'=>e=.returned (.bool true)∧W'=w':=fun W' e=>by
    subst e;have h1:=wR (.pointer (some p)) (2^log) (i:Int) W' (dY W' p ls log h);rw[decide_eq_true hst]at h1;exact h1
   obtain⟨b,gc,gs,rfl,h1,h2,vs,h3,h4,h5⟩:=h;have c1:=h1.cell 2;simp only[List.getElem?_cons_succ,List.getElem?_cons_zero]at c1;obtain⟨A,c,h6,h7⟩:=h5 s hsl;rw[hg,Option.getD_some]at h6;have c2:=(h3.cell s).trans h6;have hne:0<(aX ls log (2^log) s).length:=by omega
   obtain⟨g,off,rfl,hc⟩:=h7 (fun e=>by have:=congrArg List.length e;rw[aM,List.length_nil]at this;omega);have key:∀m,ls[s]≤(i+2^log)/2^m→(i+2^log)/2^m<2*ls[s]→∃q v:Nat,(i+2^log)/2^m=ls[s]+q∧q<ls[s]∧w.cell? ⟨g,off+q,none⟩=some (.int .i64 (v:Int)) ∧
     (jD ls log i s).map (fun p=>(p,i-aS ls log p,aB ls log p))=some (v,(i+2^log)%2^m,m):=fun m k1 k2=>by
    obtain⟨v,e1,e2,e3,e4⟩:=Kg ls log i s ls[s] m hf hg (by omega) hi k1 k2;refine⟨(i+2^log)/2^m-ls[s],v,by omega,by omega,?_,by rw[e2,Option.map_some,e3,e4]⟩;have hql:(i+2^log)/2^m-ls[s]<(aX ls log (2^log) s).length:=by omega
    rw[hc _ (by rw[aM];exact hql),bK _ _ hql];rw[List.getElem?_eq_getElem hql]at e1;injection e1 with e1
    rw[e1]
   have hw2:=dZ ls[s] (log+1) (by have:2^(log+1)=2^log*2:=Nat.pow_succ 2 log;omega);have hw3:=kU ls[s] (by omega);have hwW:Bm.wid (i+2^log)=log+1:=zA _ log (by omega) (by have:2^(log+1)=2^log*2:=Nat.pow_succ 2 log;omega);rcases Nat.lt_or_ge ((i+2^log)/2^(log+1-Bm.wid ls[s])) ls[s]with hlt | hge
   ·obtain⟨k1,k2,k3⟩:=Xo log i ls[s] (by omega) hn hlt;obtain⟨q,v,q1,q2,q3,q4⟩:=key _ k2 k3;rw[q4];exact zw w b gs g off (2^log) i (i+2^log) ls[s] c s (log+1) (Bm.wid ls[s]) (log+1-Bm.wid ls[s]) ((i+2^log)/2^(log+1-Bm.wid ls[s])) ((i+2^log)/2^(log+1-Bm.wid ls[s]-1)) q v (log+1-Bm.wid ls[s]-1) _ ls.length hh hsz c1 hsl hlen c2 (by omega) (by omega) rfl (by omega) hwW rfl (by omega) (by omega) rfl (fun _=>⟨k1,rfl,rfl⟩) (fun h=>absurd hlt (by omega)) q1 q2 q3 rfl
   ·have k3:=Xn log i ls[s] (by omega) hn hi;obtain⟨q,v,q1,q2,q3,q4⟩:=key _ hge k3;rw[q4];exact zw w b gs g off (2^log) i (i+2^log) ls[s] c s (log+1) (Bm.wid ls[s]) (log+1-Bm.wid ls[s]) ((i+2^log)/2^(log+1-Bm.wid ls[s])) ((i+2^log)/2^(log+1-Bm.wid ls[s])) q v (log+1-Bm.wid ls[s]) _ ls.length hh hsz c1 hsl hlen c2 (by omega) (by omega) rfl (by omega) hwW rfl (by omega) (by omega) rfl (fun h=>absurd h (by omega)) (fun _=>⟨rfl,rfl⟩) q1 q2 q3 rfl
 ·have hA:BG ls log st s=none:=by
   unfold BG;rw[if_neg hst]
  rw[hA];exact(Te w p ls log st s h hst).mono fun e w' ⟨he,hw⟩=>⟨he,by subst hw;exact Below.refl _ _⟩
end Go.Proofs.YtgiicohbigiapaaGreat
