/- Contracts, and what they rest on. Conditions: the theorems' premises. -/
import Derived.Test.YtaebnkeddcbmkaaGreatYaj
import Derived.Test.YtaebnkeddcbmkaaGreatYaf
set_option maxHeartbeats 4000000
set_option maxRecDepth 100000
open Go.Lib(hid)
open Go.Proofs.Tryz Go.Proofs.YtaebnkeddcbmkaaGreat.Bm
namespace Go.Proofs.YtaebnkeddcbmkaaGreat
open Go.RowKit
def hcells(k e n s:Nat):List Value:=[.int .u64 (k:Int),.int .i64 (e:Int),.int .i64 (n:Int),.int .u64 (s:Int)]
def adG(w':World)(b:Nat)(bs:List Nat)(e:Ending):Option Bm.HB->Prop
 | none=>e=.returned (.tuple #[.agg (hcells 0 0 0 0).toArray,.int .i64 3])
 | some h=>e=.returned (.tuple #[.agg (hcells h.1 h.2.1 h.2.2.1 h.2.2.2.1).toArray,.int .i64 0])/\CR w' b (some (bs.drop h.2.2.2.2))
theorem Tn(bs:List Nat)(hlt:∀x∈bs,x<256)(k e n s:Nat)(s1 s2 s3 s4:Left)(h1:gZ (fx 1) (some bs)=([k],s1)\/(gZ (fx 1) (some bs)=([],s1)/\k=0))(h2:zm 1073741824 s1=(e,s2))(h3:zm 1099511627776 s2=(n,s3))(h4:aW (gZ (fx 8) s3).1=s)(h5:(gZ (fx 8) s3).2=s4) :
  ((s4=none\/3<=k)/\pF bs=none)\/(∃at_,s4=some (bs.drop at_)/\k<3/\pF bs=some (k,e,n,s,at_)):=by
 have hn:∀m,zm m none=(0,none):=fun m=>by unfold zm;rw[if_pos (.inl rfl)]
 have hr:gZ (fx 8) none=([],none):=rfl;cases bs with
 | nil=>
  refine .inl ⟨.inl ?_,rfl⟩;have h0:gZ (fx 1) (some [])=([],none):=rfl;rw[h0]at h1;have e1:s1=none:=by rcases h1 with h1 | ⟨h1,_⟩<;>(injection h1 with _ h1;exact h1.symm)
  rw[e1,hn]at h2;injection h2 with _ h2
  rw[<-h2,hn]at h3;injection h3 with _ h3
  rw[<-h5,<-h3,hr]
 | cons x r=>
  rw[vK]at h1;obtain⟨rfl,rfl⟩:x=k/\s1=some r:=by
   rcases h1 with h1 | ⟨h1,_⟩
   ·injection h1 with h0 h1;injection h0 with h0;exact⟨h0,h1.symm⟩
   ·injection h1 with h0 h1;cases h0
  unfold pF;dsimp only;by_cases c4:2<x
  ·rw[if_pos c4];exact .inl ⟨.inr c4,rfl⟩
  rw[if_neg c4];unfold CY;by_cases c1:0<(au r).2/\(au r).1<=1073741824
  ·rw[if_pos c1];rw[ni _ _ c1.1 (by omega)]at h2;injection h2 with h2a h2b
   by_cases c2:0<(au (r.drop (au r).2)).2/\(au (r.drop (au r).2)).1<=1099511627776
   ·rw[<-h2b,ni _ _ c2.1 (by omega)]at h3;injection h3 with h3a h3b
    have l1:=(gK r _ _ c1.1 rfl).2.2;have l2:=(gK (r.drop (au r).2) _ _ c2.1 rfl).2.2;rw[List.length_drop]at l2;rw[List.drop_drop]at h3b;by_cases c3:(au r).2+(au (r.drop (au r).2)).2+8<=r.length
    ·have e8:fx 8=8:=by decide
     rw[<-h3b,e8,xW 8 _ (by rw[List.length_drop];omega)]at h4 h5;rw[if_pos ⟨c2.1,c2.2,c3⟩,Option.map_some];dsimp only at h4 h5 ⊢;rw[h2a,h3a,h4];refine .inr ⟨_,?_,by omega,rfl⟩;rw[<-h5,List.drop_drop,Nat.add_comm 1,List.drop_succ_cons]
    ·refine .inl ⟨.inl ?_,?_⟩
     ·have e8:fx 8=8:=by decide
      rw[<-h3b,e8,Fp 8 _ (by rw[List.length_drop];omega)]at h5;exact h5.symm
     ·rw[if_neg (fun c=>c3 c.2.2),Option.map_none]
   ·refine .inl ⟨.inl ?_,?_⟩
    ·rw[<-h2b,Aa _ _ (fun c=>c2 ⟨c.1,by omega⟩)]at h3;injection h3 with _ h3
     rw[<-h5,<-h3,hr]
    ·rw[if_neg (fun c=>c2 ⟨c.1,c.2.1⟩),Option.map_none]
  ·refine .inl ⟨.inl ?_,?_⟩
   ·rw[Aa _ _ (fun c=>c1 ⟨c.1,by omega⟩)]at h2;injection h2 with _ h2
    rw[<-h2,hn]at h3;injection h3 with _ h3
    rw[<-h5,<-h3,hr]
   ·rw[if_neg c1,Option.map_none]
structure HS(w w1:World)(b:Nat)(cs:List Value):Prop where
 lt:b<w.heap.size
 ra:Row w1 w.heap.size 42 (hcells 0 0 0 0)
 rb:Row w1 (w.heap.size+1) 42 cs
 gr:w.grownBy w1 (some b)
theorem mZ{w w':World}{row:Option Nat}(h:w.grownBy w' row)(p:Addr)(u:Value)(hp:w.heap.size<=p.block):w.grownBy (w'.setCell p u) row:=
 ⟨h.os,h.tape,h.output,by simpa [World.setCell]using h.size,fun i hi hne=>(Below.heap_setCell w' p u i (fun e=>by omega)).trans (h.block i hi hne)⟩
theorem HS.call{w w1 w2:World}{b:Nat}{cs:List Value}(h:HS w w1 b cs)(hg:w1.grownBy w2 (some b)):HS w w2 b cs:=by
 have:=h.lt;exact⟨h.lt,h.ra.keep (hg.block _ h.ra.lt (by simp;omega)),h.rb.keep (hg.block _ h.rb.lt (by simp;omega)),ay h.gr hg⟩
theorem HS.set{w w1:World}{b:Nat}{cs:List Value}(h:HS w w1 b cs)(i:Nat)(u:Value):HS w (w1.setCell ⟨w.heap.size+1,i,none⟩ u) b (cs.set i u):=
 ⟨h.lt,h.ra.far (by simp) u,h.rb.aT i u,mZ h.gr _ u (by simp)⟩
theorem HS.cr{w w1:World}{b:Nat}{cs:List Value}{st:Left}(h:HS w w1 b cs)(hc:CR w1 b st)(i:Nat)(u:Value):CR (w1.setCell ⟨w.heap.size+1,i,none⟩ u) b st:=by
 have:=h.lt;exact hc.keep (row:=some (w.heap.size+1)) ⟨rfl,rfl,rfl,by simp[World.setCell],fun i hi hne=>Below.heap_setCell w1 _ u i (fun e=>hne (by rw[e]))⟩ (by simp;omega)
theorem HS.start(w:World)(b:Nat)(hb:b<w.heap.size):HS w ((w.alloc (.cells (hcells 0 0 0 0).toArray 42)).alloc (.cells (hcells 0 0 0 0).toArray 42)) b (hcells 0 0 0 0):=by
 have hrb:=Row.new (w.alloc (.cells (hcells 0 0 0 0).toArray 42)) 42 (hcells 0 0 0 0);rw[show(w.alloc (.cells (hcells 0 0 0 0).toArray 42)).heap.size=w.heap.size+1 by simp]at hrb;exact⟨hb,(Row.new w 42 (hcells 0 0 0 0)).alloc _,hrb,aF (aF (aj w _) _) _⟩
theorem Gw(b:Nat)(bs:List Nat)(w:World)(hl:bs.length<=100000000)(hlt:∀x∈bs,x<256)(h:CR w b (some bs)) :
  Calls prog 17 #[.pointer (some ⟨b,0,none⟩)] w fun e w'=>adG w' b bs e (pF bs)/\w.grownBy w' (some b):=by
 have hok0:OkL (some bs):=⟨hlt,hl⟩;have hf1:=fun W (hc:CR W b (some bs))=>kM b (some bs) 1 W (by omega) (by omega) hok0 hc
 obtain⟨⟨r1,s1⟩,e1⟩:∃z,z=gZ (fx 1) (some bs):=⟨_,rfl⟩;have hok1:OkL s1:=by have:=(adj (n:=fx 1) hok0).1;rw[<-e1]at this;exact this
 obtain⟨⟨e,s2⟩,e2⟩:∃z,z=zm 1073741824 s1:=⟨_,rfl⟩;have hok2:OkL s2/\(e:Int)<=1073741824:=by
  have:=(ok_int (most:=1073741824) hok1 (by omega)).1;rw[<-e2]at this;refine⟨this,?_⟩;unfold zm at e2;split at e2
  ·injection e2 with e2 _;omega
  ·next c=>
   have:e=(fB s1).1:=by rw[<-e2]
   omega
 obtain⟨⟨n,s3⟩,e3⟩:∃z,z=zm 1099511627776 s2:=⟨_,rfl⟩;have aoc:OkL s3/\(n:Int)<=1099511627776:=by
  have:=(ok_int (most:=1099511627776) hok2.1 (by omega)).1;rw[<-e3]at this;refine⟨this,?_⟩;unfold zm at e3;split at e3
  ·injection e3 with e3 _;omega
  ·next c=>
   have:n=(fB s2).1:=by rw[<-e3]
   omega
 obtain⟨k,hk⟩:∃k,k=aW r1:=⟨_,rfl⟩;have hk1:(gZ (fx 1) (some bs)=([k],s1)\/(gZ (fx 1) (some bs)=([],s1)/\k=0)):=by
  cases bs with
  | nil=>right;injection e1 with e1 e1';subst e1;exact⟨by rw[e1'];rfl,hk⟩
  | cons x r=>
   left
   rw[vK]at e1 ⊢;injection e1 with e1 e1'
   subst e1;rw[e1',hk];simp[aW]
 have hcase:=Tn bs hlt k e n _ s1 s2 s3 _ hk1 e2.symm e3.symm rfl rfl;have H1:=hf1;have H2:=hid (fun W (hc:CR W b s1)=>nW b s1 1073741824 W (by omega) (by omega) hok1 hc);have H3:=hid (fun W (hc:CR W b s2)=>nW b s2 1099511627776 W (by omega) (by omega) hok2.1 hc);have H4:=hid (fun W (hc:CR W b s3)=>kM b s3 8 W (by omega) (by omega) aoc.1 hc);rw[<-e1]at H1;rw[<-e2]at H2;rw[<-e3]at H3;dsimp only at H1 H2 H3;rw[<-hk]at H1;have H1:=hid H1;obtain⟨s,hs⟩:∃s,s=aW (gZ (fx 8) s3).1:=⟨_,rfl⟩;obtain⟨s4,hs4⟩:∃s,s=(gZ (fx 8) s3).2:=⟨_,rfl⟩;rw[<-hs,<-hs4]at H4 hcase;have adE:=hid hcase;have H5:=hid (fun W (hc:CR W b s4)=>aK b s4 W hc);clear hf1 hok0 hok1 hok2 aoc e1 e2 e3 hk hk1 hs hs4 hcase;have Hst:=hid (HS.start w b h.lt);have Hc0:=hid (((h.below ((Below.refl w.heap.size w).alloc (Nat.le_refl _) (.cells (hcells 0 0 0 0).toArray 42))).below ((Below.refl _ _).alloc (Nat.le_refl _) (.cells (hcells 0 0 0 0).toArray 42))));clear h hlt;go_enter func17,ntmps17
 go_wp2_with fail
 refine(H1.out _ Hc0.out).mono ?_;rintro e1 w1 ⟨rfl,hc1,hg1⟩;have Hs1:=hid (Hst.out.call hg1);have Hc1:=hid hc1;have f0:=Hs1.out.rb.free 0;have g0:w1.cell? ⟨w.heap.size+1,0,none⟩=some (.int .u64 0):=Hs1.out.rb.cell 0;clear Hst Hc0 hc1 hg1 H1;go_wp2_with fail
 clear f0 g0;refine(H2.out _ (Hs1.out.cr Hc1.out 0 (.int .u64 (k:Int)))).mono ?_;rintro e1 w2 ⟨rfl,hc2,hg2⟩;have Hs2:=hid ((Hs1.out.set 0 (.int .u64 (k:Int))).call hg2);have Hc2:=hid hc2;have f1:=Hs2.out.rb.free 1;have g1:w2.cell? ⟨w.heap.size+1,1,none⟩=some (.int .i64 0):=Hs2.out.rb.cell 1;clear Hs1 Hc1 hc2 hg2 H2;go_wp2_with fail
 clear f1 g1;refine(H3.out _ (Hs2.out.cr Hc2.out 1 (.int .i64 (e:Int)))).mono ?_;rintro e1 w3 ⟨rfl,hc3,hg3⟩;have Hs3:=hid ((Hs2.out.set 1 (.int .i64 (e:Int))).call hg3);have Hc3:=hid hc3;have f2:=Hs3.out.rb.free 2;have g2:w3.cell? ⟨w.heap.size+1,2,none⟩=some (.int .i64 0):=Hs3.out.rb.cell 2;clear Hs2 Hc2 hc3 hg3 H3;go_wp2_with fail
 clear f2 g2;refine(H4.out _ (Hs3.out.cr Hc3.out 2 (.int .i64 (n:Int)))).mono ?_;rintro e1 w4 ⟨rfl,hc4,hg4⟩;have Hs4:=hid ((Hs3.out.set 2 (.int .i64 (n:Int))).call hg4);have Hc4:=hid hc4;have f3:=Hs4.out.rb.free 3;have g3:w4.cell? ⟨w.heap.size+1,3,none⟩=some (.int .u64 0):=Hs4.out.rb.cell 3;clear Hs3 Hc3 hc4 hg4 H4;go_wp2_with fail
 clear f3 g3;have hb5:=H5.out _ (Hs4.out.cr Hc4.out 3 (.int .u64 (s:Int)));have Hs5:=hid (show HS w (w4.setCell ⟨w.heap.size+1,3,none⟩ (.int .u64 (s:Int))) b (hcells k e n s)from Hs4.out.set 3 (.int .u64 (s:Int)));have Hc5:=hid (Hs4.out.cr Hc4.out 3 (.int .u64 (s:Int)));clear Hs4 Hc4 H5;refine hb5.mono ?_;rintro e1 w5 ⟨rfl,rfl⟩;clear hb5;generalize w4.setCell ⟨w.heap.size+1,3,none⟩ (.int .u64 (s:Int))=w5 at *;have hrb:=Hs5.out.rb;have hra:=Hs5.out.ra;have c0:=hrb.cell 0;have c1:=hrb.cell 1;have c2:=hrb.cell 2;have c3:=hrb.cell 3;have d0:w5.cell? ⟨w.heap.size,0,none⟩=some (.int .u64 0):=hra.cell 0;have d1:w5.cell? ⟨w.heap.size,1,none⟩=some (.int .i64 0):=hra.cell 1;have d2:w5.cell? ⟨w.heap.size,2,none⟩=some (.int .i64 0):=hra.cell 2;have d3:w5.cell? ⟨w.heap.size,3,none⟩=some (.int .u64 0):=hra.cell 3;have f0:=hra.free 0;have f1:=hra.free 1;have f2:=hra.free 2;have f3:=hra.free 3;simp only[hcells,List.getElem?_cons_zero,List.getElem?_cons_succ]at c0 c1 c2 c3;have hgA:∀u0 u1 u2 u3,w.grownBy ((((w5.setCell ⟨w.heap.size,0,none⟩ u0).setCell ⟨w.heap.size,1,none⟩ u1).setCell ⟨w.heap.size,2,none⟩ u2).setCell ⟨w.heap.size,3,none⟩ u3) (some b):=fun u0 u1 u2 u3=>
  mZ (mZ (mZ (mZ Hs5.out.gr _ u0 (Nat.le_refl _)) _ u1 (Nat.le_refl _)) _ u2 (Nat.le_refl _)) _ u3 (Nat.le_refl _)
 have HgA:=hid hgA;have hcs:∀u0 u1 u2 u3:Value,(w5.setCell ⟨w.heap.size,0,none⟩ u0).cell? ⟨w.heap.size,0,none⟩=some u0/\((w5.setCell ⟨w.heap.size,0,none⟩ u0).setCell ⟨w.heap.size,1,none⟩ u1).cell? ⟨w.heap.size,1,none⟩=some u1 /\
   (((w5.setCell ⟨w.heap.size,0,none⟩ u0).setCell ⟨w.heap.size,1,none⟩ u1).setCell ⟨w.heap.size,2,none⟩ u2).cell? ⟨w.heap.size,2,none⟩=some u2 /\
   ((((w5.setCell ⟨w.heap.size,0,none⟩ u0).setCell ⟨w.heap.size,1,none⟩ u1).setCell ⟨w.heap.size,2,none⟩ u2).setCell ⟨w.heap.size,3,none⟩ u3).cell? ⟨w.heap.size,3,none⟩=some u3:=fun u0 u1 u2 u3=>
  ⟨(hra.aT 0 u0).cell 0,((hra.aT 0 u0).aT 1 u1).cell 1,(((hra.aT 0 u0).aT 1 u1).aT 2 u2).cell 2,((((hra.aT 0 u0).aT 1 u1).aT 2 u2).aT 3 u3).cell 3⟩
 have Hcs:=hid hcs;have anF:∀u0 u1 u2 u3,CR ((((w5.setCell ⟨w.heap.size,0,none⟩ u0).setCell ⟨w.heap.size,1,none⟩ u1).setCell ⟨w.heap.size,2,none⟩ u2).setCell ⟨w.heap.size,3,none⟩ u3) b s4:=fun u0 u1 u2 u3=>by
  have hlt:=Hs5.out.lt;exact Hc5.out.keep (row:=some w.heap.size) (aB (aB (aB (aB (aj w5 _) 0 u0) 1 u1) 2 u2) 3 u3) (by simp;omega)
 have akH:=hid anF;clear hcs hgA anF Hs5 Hc5 hrb hra;rcases adE.out with⟨hbad,hnone⟩ | ⟨at_,hs4,hk3,hsome⟩
 ·have hend:∀(W:World),adG W b bs (.returned (.tuple #[.agg (hcells 0 0 0 0).toArray,.int .i64 3])) (pF bs):=fun W=>by rw[hnone];exact rfl
  have dR:=hid hend;obtain⟨s0,s1',s2',s3'⟩:=Hcs.out (.int .u64 0) (.int .i64 0) (.int .i64 0) (.int .u64 0);have hg:=HgA.out (.int .u64 0) (.int .i64 0) (.int .i64 0) (.int .u64 0);clear Hcs HgA akH hend hnone adE;cases s4 with
  | none=>
   go_wp2;exact bodyPost_ret (v:=.tuple #[.agg (hcells 0 0 0 0).toArray,.int .i64 3]) (by simp[results,results17,go_sem,hcells,s0,s1',s2',s3']) rfl ⟨dR.out _,hg⟩
  | some z=>
   have hb3:3<=k:=by rcases hbad with hbad | hbad;cases hbad;exact hbad
   have d5:decide ((3:Int)<=(k:Int))=true:=decide_eq_true (by omega);go_wp2;exact bodyPost_ret (v:=.tuple #[.agg (hcells 0 0 0 0).toArray,.int .i64 3]) (by simp[results,results17,go_sem,hcells,s0,s1',s2',s3']) rfl ⟨dR.out _,hg⟩
 ·subst hs4;have hend:∀(W:World),CR W b (some (bs.drop at_))->adG W b bs (.returned (.tuple #[.agg (hcells k e n s).toArray,.int .i64 0])) (pF bs):=fun W hc=>by rw[hsome];exact⟨rfl,hc⟩
  have dR:=hid hend;obtain⟨s0,s1',s2',s3'⟩:=Hcs.out (.int .u64 (k:Int)) (.int .i64 (e:Int)) (.int .i64 (n:Int)) (.int .u64 (s:Int));have hg:=HgA.out (.int .u64 (k:Int)) (.int .i64 (e:Int)) (.int .i64 (n:Int)) (.int .u64 (s:Int));have hcr:=akH.out (.int .u64 (k:Int)) (.int .i64 (e:Int)) (.int .i64 (n:Int)) (.int .u64 (s:Int));have d5:decide ((3:Int)<=(k:Int))=false:=decide_eq_false (by omega);clear Hcs HgA akH hend hsome adE;go_wp2;exact bodyPost_ret (v:=.tuple #[.agg (hcells k e n s).toArray,.int .i64 0]) (by simp[results,results17,go_sem,hcells,s0,s1',s2',s3']) rfl ⟨dR.out _ hcr,hg⟩
def rsI(k m x:Int):Int:=bits .or .u32 (bits .and .u32 (x/k) m) (bits .and .u32 x m*k%4294967296)
def rbI(x:Int):Int:=bits .or .u32 (rsI 256 16711935 x/65536) (rsI 256 16711935 x*65536%4294967296)
def rvI(x:Int):Int:=rbI (rsI 16 252645135 (rsI 4 858993459 (rsI 2 1431655765 x)))
theorem abd(x:Int)(w:World) :
  Calls prog 189 #[.int .u32 x] w fun e w'=>e=.returned (.int .u32 (rbI x))/\w=w':=by
 go_enter func189,ntmps189
 go_wp2;go_ret;exact⟨rfl,rfl⟩
theorem agh(x:Int)(w:World) :
  Calls prog 158 #[.int .u32 x] w fun e w'=>e=.returned (.int .u32 (rvI x))/\w=w':=by
 have H:=hid (fun y=>abd y w);go_enter func158,ntmps158
 go_wp2_with fail
 refine(H.out _).mono ?_;rintro e w' ⟨rfl,rfl⟩;go_wp2;go_ret;exact⟨rfl,rfl⟩
namespace Bm
def aku(n c:Nat):List Nat:=(List.range n).map fun j=>c/2^(n-1-j)%2
theorem Si(ls:List Nat)(s:Nat):aY ls s=aku (ls[s]?.getD 0) (eX ls s):=rfl
end Bm
theorem ajH:((List.range 12).all fun n=>(List.range (2^n)).all fun c=>rvI (c:Int)/2^(32-n) == ((dW (aku n c):Nat):Int))=true:=by kernel_rfl
theorem amg(n c:Nat)(hn:n<=11)(hc:c<2^n):rvI (c:Int)/2^(32-n)=((dW (aku n c):Nat):Int):=by
 have h:=ajH;rw[List.all_eq_true]at h;have h1:=h n (List.mem_range.2 (by omega));rw[List.all_eq_true]at h1;exact beq_iff_eq.1 (h1 c (List.mem_range.2 hc))
theorem Uq(n c:Nat)(w:World)(hn:n<=11)(hc:c<2^n) :
  Calls prog 128 #[.int .i64 (c:Int),.int .i64 (n:Int)] w fun e w'=>e=.returned (.int .u32 (dW (aku n c):Int))/\w=w':=by
 have H:=hid (agh (c:Int) w);have hc2:c<2048:=Nat.lt_of_lt_of_le hc (Nat.pow_le_pow_right (n:=2) (j:=11) (by omega) hn);have Hv:=hid (amg n c hn hc);have hcu:IntKind.u32.wrap (c:Int)=(c:Int):=by simp[IntKind.wrap,IntKind.bits,IntKind.signed];omega
 clear hc;go_enter func128,ntmps128
 go_wp2_with fail
 refine H.out.mono ?_;rintro e w' ⟨rfl,rfl⟩;go_wp2;go_ret;exact⟨congrArg (fun x=>Ending.returned (Value.int .u32 x)) Hv.out,rfl⟩
theorem Dh(A:Option Addr)(c:Nat)(l:List Int)(w:World)(hl:l.length<=9223372036854775807)(hr:Reads w A (mH l)) :
  Calls prog 123 #[.slice A l.length c] w fun e w'=>e=.returned (.bool (decide (Rl l)))/\w=w':=by
 have Hr:=hid hr;obtain⟨r,hres⟩:∃r,r=decide (Rl l):=⟨_,rfl⟩;rw[<-hres];have hno:∀P:Prop,(Rl l->P)->¬P->false=r:=fun P h hp=>by
  rw[hres];symm;exact decide_eq_false (fun h1=>hp (h h1))
 have Hno:=hid hno;have dV:=hid hres;clear hr hres hno;by_cases h3:256<l.length
 ·have hf:false=r:=Hno.out (l.length<=256) (fun h=>h.1) (by omega);rw[<-hf];go_enter func123,ntmps123
  go_wp2;go_ret;exact⟨rfl,rfl⟩
 go_enter func123,ntmps123
 go_wp2;go_loop [10] (fun i=>∃k:Nat,k<=l.length/\i=.int .i64 (k:Int)/\∀x∈l.take k,0<=x/\x<=11) (fun i=>l.length-(intOf i).toNat)
 case atStart=>exact⟨0,by omega,rfl,by simp⟩
 case round=>
  obtain⟨k,hk,rfl,hall⟩:=hrel;by_cases hkl:k<l.length
  ·obtain⟨g,off,rfl,hc⟩:=nV Hr.out (by omega);have c0:=hc k hkl;have Ha:=hid (Rq (fun x=>0<=x/\x<=11) l k hkl hall);have Hm:=hid (List.getElem_mem hkl);clear hc hall dV;generalize l[k]=z at c0 Ha Hm;by_cases hz:z<0
   ·have hf:false=r:=Hno.out (0<=z) (fun h=>(h.2 z Hm.out).1) (by omega);have Hf:=hid hf;clear hf;go_wp2;go_ret;exact⟨congrArg (fun x=>Ending.returned (Value.bool x)) Hf.out,rfl⟩
   by_cases hz2:11<z
   ·have hf:false=r:=Hno.out (z<=11) (fun h=>(h.2 z Hm.out).2) (by omega);have Hf:=hid hf;clear hf;go_wp2;go_ret;exact⟨congrArg (fun x=>Ending.returned (Value.bool x)) Hf.out,rfl⟩
   go_wp2;go_round
   case rel=>exact⟨k+1,by omega,by go_num,Ha.out (by omega)⟩
   case measure=>simp[intOf];omega
  ·obtain rfl:k=l.length:=by omega
   rw[List.take_length]at hall;have hres:true=r:=by
    rw[dV.out];symm
    exact decide_eq_true ⟨by omega,hall⟩
   clear Hr Hno dV hall;have Hf:=hid hres;clear hres;go_wp2;go_ret;exact⟨congrArg (fun x=>Ending.returned (Value.bool x)) Hf.out,rfl⟩
namespace Bm
theorem Ui(ls:List Nat)(k L:Nat)(h:k<ls.length)(h0:jq (ls.take k)=0->krN (ls.take k)=0)(h1:jq (ls.take k)=1->krN (ls.take k)=dD L) :
  (jq (ls.take (k+1))=0->krN (ls.take (k+1))=0)/\(jq (ls.take (k+1))=1->krN (ls.take (k+1))=dD (if 0<ls[k]then ls[k]else L)):=by
 obtain⟨e1,e2⟩:=Uh ls k h;rw[e1,e2];by_cases hp:0<ls[k]
 ·rw[if_pos hp,if_pos hp];exact⟨fun h=>by omega,fun h=>by rw[h0 (by omega)];omega⟩
 ·have hz:ls[k]=0:=by omega
  have hpz:dD ls[k]=0:=by unfold dD;rw[if_pos hz]
  rw[if_neg hp,if_neg hp,hpz];exact⟨fun h=>by rw[h0 (by omega)],fun h=>by rw[h1 (by omega)];rfl⟩
theorem aav(L:Nat)(h:L<=11):dD L=1024↔L=1:=by
 have:∀n:Fin 12,(dD n.1=1024)↔n.1=1:=by decide
 exact this ⟨L,by omega⟩
theorem aaw(n:Nat)(h:n<=11)(h0:0<n):2048/2^n=dD n:=by
 have:∀n:Fin 12,0<n.1->2048/2^n.1=dD n.1:=by decide
 exact this ⟨n,by omega⟩ h0
end Bm
theorem Xr(A:Option Addr)(c:Nat)(l:List Int)(w:World)(hl:l.length<=9223372036854775807)(hr:Reads w A (mH l))(hR:¬Rl l) :
  Calls prog 125 #[.slice A l.length c] w fun e w'=>e=.returned (.bool false)/\w=w':=by
 have Hri:=hid (Dh A c l w hl hr);rw[decide_eq_false hR]at Hri;clear hr hR;go_enter func125,ntmps125
 go_wp2_with fail
 refine Hri.out.mono ?_;rintro e w' ⟨rfl,rfl⟩;go_wp2;go_ret;exact⟨rfl,rfl⟩
theorem Qo(A:Option Addr)(c:Nat)(ls:List Nat)(w:World)(hl:ls.length<=256)(h11:∀x∈ls,x<=11)(hr:Reads w A (aM ls))(hmay:Calls prog 123 #[.slice A ls.length c] w fun e w'=>e=.returned (.bool true)/\w=w') :
  Calls prog 125 #[.slice A ls.length c] w fun e w'=>e=.returned (.bool (decide (krN ls=2048\/(jq ls=1/\krN ls=1024))))/\w=w':=by
 have Hri:=hid hmay;have Hr:=hid hr;have H11:=hid h11;clear hr h11 hmay;obtain⟨r,hres⟩:∃r,r=decide (krN ls=2048\/(jq ls=1/\krN ls=1024)):=⟨_,rfl⟩;rw[<-hres];have dV:=hid hres;clear hres;go_enter func125,ntmps125
 go_wp2_with fail
 refine Hri.out.mono ?_;rintro e w' ⟨rfl,rfl⟩;clear Hri;go_wp2;go_loop [3,4,5,13] (fun t s z i=>∃(k L:Nat),k<=ls.length/\L<=11/\i=.int .i64 (k:Int)/\s=.int .i64 (krN (ls.take k):Int)/\t=.int .i64 (jq (ls.take k):Int)/\z=.int .i64 (L:Int)/\Hid ((jq (ls.take k)=0->krN (ls.take k)=0)/\(jq (ls.take k)=1->krN (ls.take k)=dD L))) (fun _ _ _ i=>ls.length-(intOf i).toNat)
 case atStart=>exact⟨0,0,by omega,by omega,rfl,rfl,rfl,rfl,hid ⟨fun _=>rfl,fun h=>by simp[jq]at h⟩⟩
 case round=>
  obtain⟨k,L,hk,hL,rfl,rfl,rfl,rfl,hlast⟩:=hrel;by_cases hkl:k<ls.length
  ·obtain⟨g,off,rfl,hc⟩:=fZ Hr.out (by omega);have c0:=hc k hkl;have Hst:=hid (Uh ls k hkl);have Hls:=hid (Ui ls k L hkl hlast.out.1 hlast.out.2);have hkr:=amb (ls.take k);have hso:=agr (ls.take k);rw[List.length_take,Nat.min_eq_left (by omega)]at hkr hso;have h11:=H11.out ls[k] (List.getElem_mem hkl);have hpl:=Vg ls[k];have Hsh:=hid (aaw ls[k] h11);have Hp0:Hid (ls[k]=0->dD ls[k]=0):=hid (fun h=>by unfold dD;rw[if_pos h]);clear hc hlast;generalize krN (ls.take k)=K at *;generalize jq (ls.take k)=M at *;generalize hP:dD ls[k]=P at hpl Hsh Hp0 Hst;clear hP;generalize ls[k]=x at *;by_cases hx:0<x
   ·have hsh:=Hsh.out hx;have hls:=Hls.out;simp only[if_pos hx]at hls;have agW:=hid hls;clear Hsh Hp0 Hls hls;have aru:(2048:Int)/2^x=(P:Int):=by rw[<-hsh];simp
    clear hsh;go_wp2;go_round
    case rel=>exact⟨k+1,x,by omega,by omega,by go_num,by rw[Hst.out.1];go_num,by rw[Hst.out.2,if_pos hx];go_num,rfl,agW⟩
    case measure=>simp[intOf];omega
   ·have hP0:=Hp0.out (by omega);have hls:=Hls.out;simp only[if_neg hx]at hls;have agW:=hid hls;subst hP0;clear Hsh Hp0 Hls hls;go_wp2;go_round
    case rel=>exact⟨k+1,L,by omega,by omega,by go_num,by rw[Hst.out.1];go_num,by rw[Hst.out.2,if_neg hx];go_num,rfl,agW⟩
    case measure=>simp[intOf];omega
  ·obtain rfl:k=ls.length:=by omega
   rw[List.take_length]at hlast;rw[List.take_length];clear Hr H11;have hp1:=aav L hL;generalize dD L=P at *;generalize krN ls=K at *;generalize jq ls=M at *;by_cases h1:K=2048
   ·have d1:((K:Int) == 2048)=true:=by rw[h1];rfl
    have Hf:Hid (true=r):=hid (by rw[dV.out,decide_eq_true (.inl h1)]);clear h1 dV hp1;go_wp2;go_ret;exact⟨congrArg (fun x=>Ending.returned (Value.bool x)) Hf.out,rfl⟩
   ·have d1:((K:Int) == 2048)=false:=by rw[beq_eq_false_iff_ne];omega
    by_cases h2:M=1
    ·have d2:((M:Int) == 1)=true:=by rw[h2];rfl
     have hK:=hlast.out.2 h2;have Hf:Hid (((L:Int) == 1)=r):=hid (by
      rw[dV.out,Bool.eq_iff_iff,beq_iff_eq,decide_eq_true_iff];omega)
     clear h1 h2 dV hp1 hK hlast;go_wp2;go_ret;exact⟨congrArg (fun x=>Ending.returned (Value.bool x)) Hf.out,rfl⟩
    ·have d2:((M:Int) == 1)=false:=by rw[beq_eq_false_iff_ne];omega
     have Hf:Hid (false=r):=hid (by rw[dV.out,decide_eq_false (by omega)]);clear h1 h2 dV hp1 hlast;go_wp2;go_ret;exact⟨congrArg (fun x=>Ending.returned (Value.bool x)) Hf.out,rfl⟩
theorem uq(A:Option Addr)(c:Nat)(l:List Int)(w:World)(hl:l.length<=9223372036854775807)(hr:Reads w A (mH l)) :
  Calls prog 125 #[.slice A l.length c] w fun e w'=>e=.returned (.bool (decide (jG l)))/\w=w':=by
 by_cases hR:Rl l
 ·have hm:=Dh A c l w hl hr;rw[decide_eq_true hR]at hm;obtain⟨e1,h11,ank⟩:=Cc l hR;have aeI:=hR.1;have hW:jG l↔(krN (l.map Int.toNat)=2048\/(jq (l.map Int.toNat)=1/\krN (l.map Int.toNat)=1024)):=by
   unfold jG bC;exact⟨fun h=>h.2.2.2,fun h=>⟨hR,by omega,h11,h⟩⟩
  have hd:decide (jG l)=decide (krN (l.map Int.toNat)=2048\/(jq (l.map Int.toNat)=1/\krN (l.map Int.toNat)=1024)):=decide_eq_decide.2 hW;rw[hd];have hr2:Reads w A (aM (l.map Int.toNat)):=by rw[<-bJ,<-e1];exact hr
  have h:=Qo A c (l.map Int.toNat) w (by omega) h11 hr2 (by rw[ank];exact hm);rw[ank]at h;exact h
 ·have hf:decide (jG l)=false:=decide_eq_false (fun h=>hR h.1);rw[hf];exact Xr A c l w hl hr hR
namespace Bm
theorem VP(l:List Int)(h:Right l):l=(l.map Int.toNat).map (fun n:Nat=>(n:Int))/\(∀x∈l.map Int.toNat,x<=1048576)/\(l.map Int.toNat).length=l.length:=by
 refine⟨?_,?_,by simp⟩
 ·rw[List.map_map];conv=>lhs;rw[<-List.map_id l]
  apply List.map_congr_left
  intro x hx;have:=h.2.1 x hx;simp only[Function.comp_apply,id];omega
 ·intro x hx;obtain⟨y,hy,rfl⟩:=List.mem_map.1 hx;have:=h.2.1 y hy;omega
end Bm
theorem LQ(A:Option Addr)(c:Nat)(l:List Int)(w:World)(hl:l.length<=maxLen)(hr:Reads w A (mH l)) :
  Calls prog 121 #[.slice A l.length c] w fun e w'=>e=.returned (.bool (lY l))/\w=w':=by
 by_cases h:l.length<=1000000000
 ·exact tq A c l w h hr
 ·unfold maxLen at hl;have hf:lY l=false:=decide_eq_false (fun h1=>by have:=h1.1;omega);rw[hf];clear hr hf;go_enter func121,ntmps121
  go_wp2;go_ret;exact⟨rfl,rfl⟩
namespace Bm
theorem lu{p q:Prop} [Decidable p] [Decidable q](h:p↔q)(a b:Nat):(if p then a else b)=if q then a else b:=by
 by_cases hq:q
 ·rw[if_pos hq,if_pos (h.2 hq)]
 ·rw[if_neg hq,if_neg (fun hp=>hq (h.1 hp))]
def jd(ls:List Nat)(m q k:Nat):Prop:=0<ls[k]?.getD 0/\(ls[k]?.getD 0<m\/(ls[k]?.getD 0=m/\k<q))
instance (ls:List Nat) (m q k:Nat):Decidable (jd ls m q k):=by unfold jd;exact inferInstance
def Ap(ls:List Nat)(m q:Nat):Nat:=((List.range ls.length).map fun k=>if jd ls m q k then dD (ls[k]?.getD 0)else 0).sum
def dY(ls:List Nat)(m q:Nat):List Nat:=(List.range ls.length).map fun k=>if jd ls m q k then eX ls k else 0
theorem qw(ls:List Nat)(m q:Nat):(dY ls m q).length=ls.length:=by simp[dY]
theorem Vr(ls:List Nat)(m q:Nat)(h:q<ls.length)(h0:0<m)(he:ls[q]?.getD 0=m):Ap ls m (q+1)=Ap ls m q+dD m:=by
 have e:dD m=((List.range ls.length).map fun k=>if k=q then dD m else 0).sum:=by rw[gX,if_pos h]
 conv=>rhs;rw[e]
 unfold Ap;rw[<-eB];congr 1
 apply List.map_congr_left
 intro k _;by_cases hk:k=q
 ·subst hk;rw[if_pos (show jd ls m (k+1) k by unfold jd;omega),if_neg (show ¬jd ls m k k by unfold jd;omega),if_pos rfl,he,Nat.zero_add]
 ·rw[if_neg hk,Nat.add_zero];exact lu (by unfold jd;omega) _ _
theorem Eh(ls:List Nat)(m q:Nat)(he:ls[q]?.getD 0≠m)(k:Nat):jd ls m (q+1) k↔jd ls m q k:=by
 unfold jd;by_cases hk:k=q
 ·subst hk;omega
 ·omega
theorem Vs(ls:List Nat)(m q:Nat)(he:ls[q]?.getD 0≠m):Ap ls m (q+1)=Ap ls m q:=by
 unfold Ap;congr 1
 apply List.map_congr_left
 intro k _;exact lu (Eh ls m q he k) _ _
theorem GV(ls:List Nat)(m q:Nat)(he:ls[q]?.getD 0≠m):dY ls m (q+1)=dY ls m q:=by
 unfold dY;apply List.map_congr_left
 intro k _;exact lu (Eh ls m q he k) _ _
theorem KQ(ls:List Nat)(m:Nat)(k:Nat)(hk:k<ls.length):jd ls m ls.length k↔jd ls (m+1) 0 k:=by unfold jd;omega
theorem aaH(ls:List Nat)(m:Nat):Ap ls m ls.length=Ap ls (m+1) 0:=by
 unfold Ap;congr 1
 apply List.map_congr_left
 intro k hk;exact lu (KQ ls m k (List.mem_range.1 hk)) _ _
theorem NC(ls:List Nat)(m:Nat):dY ls m ls.length=dY ls (m+1) 0:=by
 unfold dY;apply List.map_congr_left
 intro k hk;exact lu (KQ ls m k (List.mem_range.1 hk)) _ _
theorem Vt(ls:List Nat):Ap ls 1 0=0:=by
 unfold Ap;have:∀L:List Nat,(L.map fun k=>if jd ls 1 0 k then dD (ls[k]?.getD 0)else 0).sum=0:=fun L=>by
  induction L with
  | nil=>rfl
  | cons k L ih=>
   rw[List.map_cons,List.sum_cons,ih,if_neg (by unfold jd;omega)]
 exact this _
theorem GX(ls:List Nat):dY ls 1 0=List.replicate ls.length 0:=by
 unfold dY;rw[List.map_congr_left (g:=fun _=>0) (fun k _=>if_neg (by unfold jd;omega)),List.map_const',List.length_range]
theorem NA(ls:List Nat)(h:∀x∈ls,x<=11):dY ls 12 0=iZ ls:=by
 unfold dY iZ;apply List.map_congr_left
 intro k hk;have hk:=List.mem_range.1 hk;have h1:ls[k]?.getD 0<=11:=by rw[List.getElem?_eq_getElem hk,Option.getD_some];exact h _ (List.getElem_mem hk)
 by_cases h0:ls[k]?.getD 0=0
 ·rw[if_neg (by unfold jd;omega)];unfold eX;rw[if_pos h0]
 ·rw[if_pos (by unfold jd;omega)]
theorem OZ(ls:List Nat)(m q:Nat)(he:ls[q]?.getD 0=m):ko ls q=Ap ls m q:=by
 unfold ko DC Ap;congr 1
 apply List.map_congr_left
 intro k _;refine lu ?_ _ _;unfold eY jd;rw[he];simp only[Bool.and_eq_true,Bool.or_eq_true,decide_eq_true_eq]
theorem afX(ls:List Nat)(m q:Nat):Ap ls m q<=krN ls:=by
 rw[qK];unfold Ap;apply kQ
 intro k _;split
 ·exact Nat.le_refl _
 ·exact Nat.zero_le _
theorem GU(ls:List Nat)(m q:Nat)(h0:0<m)(he:ls[q]?.getD 0=m):dY ls m (q+1)=(dY ls m q).set q (eX ls q):=by
 apply List.ext_getElem
 ·simp[qw]
 ·intro k h1 h2;rw[List.getElem_set];simp only[dY,List.getElem_map,List.getElem_range];by_cases hk:q=k
  ·subst hk;rw[if_pos rfl,if_pos (by unfold jd;omega)]
  ·rw[if_neg hk];exact lu (by unfold jd;omega) _ _
theorem aep(ls:List Nat)(m q N:Nat)(h0:0<m)(he:ls[q]?.getD 0=m)(hN:N*2^(11-m)=Ap ls m q):eX ls q=N:=by
 unfold eX;rw[he,if_neg (by omega),OZ ls m q he,<-hN,Nat.mul_div_cancel _ (Nat.two_pow_pos _)]
theorem agv(N m X:Nat)(h0:0<m)(h:m<=11)(hN:N*2^(12-m)=X):2*N*2^(11-m)=X:=by
 rw[<-hN,show 12-m=(11-m)+1 by omega,Nat.pow_succ,Nat.mul_comm 2 N,Nat.mul_assoc,Nat.mul_comm 2]
theorem abA(N m X:Nat)(h:m<=11)(h0:0<m)(hN:N*2^(11-m)=X):(N+1)*2^(11-m)=X+dD m:=by
 unfold dD;rw[if_neg (by omega),Nat.add_mul,hN,Nat.one_mul]
theorem zK(N e X:Nat)(h:N*2^e=X)(hX:X<=2048):N<=2048:=Nat.le_trans (by rw[<-h];exact Nat.le_mul_of_pos_right _ (Nat.two_pow_pos _)) hX
end Bm
theorem Qh(A:Option Addr)(c:Nat)(ls:List Nat)(w:World)(hl:ls.length<=256)(h11:∀x∈ls,x<=11)(hkr:krN ls<=2048)(hr:Reads w A (aM ls))(hwh:Calls prog 125 #[.slice A ls.length c] w fun e w'=>e=.returned (.bool true)/\w=w') :
  Calls prog 127 #[.slice A ls.length c] w fun e w'=>∃g,e=.returned (.tuple #[.slice (some ⟨g,0,none⟩) ls.length ls.length,.bool true])/\Row w' g 3 (aM (iZ ls))/\w.heap.size<=g/\Below w.heap.size w w':=by
 obtain⟨i0,hi,hz0,hz1,hz2⟩:=info_parts gQ;have Hr:=hid hr;have H11:=hid h11;have Hwh:=hid hwh;have Hle:=hid (fun m q=>Nat.le_trans (afX ls m q) hkr);clear hr h11 hwh hkr;obtain⟨g0,hg0⟩:∃g,g=w.heap.size:=⟨_,rfl⟩;have Hg0:=hid hg0;clear hg0;go_enter func127,ntmps127
 go_wp2_with fail
 refine Hwh.out.mono ?_;rintro e w' ⟨rfl,rfl⟩;clear Hwh;go_wp2_with (at_make;refine wpList_make_full _ rfl _ _ 115 rfl w.heap.size 3 i0 (.int .i64 0) 1 underlying115 hi hz0 hz1 .i64 .i64 _ _ ls.length rfl rfl ?c1 ?c1 ?c2 ?c3 ?c4 ?_)
 case c1=>omega
 case c2=>first | omega | (rw[hz2];omega)
 case c3=>unfold maxLen;omega
 try case c4=>exact Nat.le_refl _
 intro w1 hown1 hg1;have hb1:=aJ hg1;have hr1:=dH hown1;rw[<-Hg0.out]at hr1 ⊢;have Hb1:=hid hb1;rw[<-GX ls]at hr1;have Hr1:=hid hr1;clear hown1 hg1 hb1 hr1 hi hz0 hz1 hz2;go_wp2;go_loopw [5,6] (fun nx ln wr=>∃(N m:Nat),nx=.int .i64 (N:Int)/\ln=.int .i64 (m:Int)/\0<m/\m<=12/\N<=2048/\Hid (N*2^(12-m)=Ap ls m 0)/\Hid (Row wr g0 3 (aM (dY ls m 0)))/\Hid (Below w.heap.size w wr)) (fun _ ln _=>12-(intOf ln).toNat)
 case atStart=>exact⟨0,1,rfl,rfl,by omega,by omega,by omega,hid (by rw[Vt,Nat.zero_mul]),Hr1,Hb1⟩
 case round=>
  obtain⟨N,m,rfl,rfl,hm0,ark,hN,hpre,hrow,hbel⟩:=hrel;clear Hr1 Hb1;by_cases hm:m<=11
  ·have Hp1:=hid (agv N m _ hm0 hm hpre.out);have hN2:=zK _ _ _ Hp1.out (Hle.out m 0);clear hpre;go_wp2;rename World=>wx
   go_loopw [5,23] (fun nx iv wr=>∃(N2 q:Nat),q<=ls.length/\nx=.int .i64 (N2:Int)/\iv=.int .i64 (q:Int)/\N2<=2048/\Hid (N2*2^(11-m)=Ap ls m q)/\Hid (Row wr g0 3 (aM (dY ls m q)))/\Hid (Below w.heap.size w wr)) (fun _ iv _=>ls.length-(intOf iv).toNat)
   case atStart=>exact⟨2*N,0,by omega,by go_num,rfl,hN2,Hp1,hrow,hbel⟩
   case round=>
    obtain⟨N2,q,hq,rfl,rfl,hN3,Ir,hrow2,Ew⟩:=hrel;clear hrow hbel Hp1;by_cases hql:q<ls.length
    ·obtain⟨g,off,rfl,hc⟩:=fZ (aC Hr.out Ew.out) (by omega);have c0:=hc q hql;have aqt:=H11.out ls[q] (List.getElem_mem hql);have hgq:ls[q]?.getD 0=ls[q]:=by rw[List.getElem?_eq_getElem hql,Option.getD_some]
     have Hgq:=hid hgq;clear hc hgq;obtain⟨x,hx⟩:∃x,x=ls[q]:=⟨_,rfl⟩;rw[<-hx]at c0 aqt Hgq;clear hx;by_cases hxm:x=m
     ·subst hxm;have Hp2:=hid (abA N2 x _ hm hm0 Ir.out);rw[<-Vr ls x q hql hm0 Hgq.out]at Hp2;have hN4:=zK _ _ _ Hp2.out (Hle.out x (q+1));have Hcd:=hid (GU ls x q hm0 Hgq.out);rw[aep ls x q N2 hm0 Hgq.out Ir.out]at Hcd;have hlen:(aM (dY ls x q)).length=ls.length:=by rw[aN,qw]
      have hcell:∃v,wr.cell? ⟨g0,q,none⟩=some v:=⟨_,(hrow2.out.cell q).trans (List.getElem?_eq_getElem (by omega))⟩;obtain⟨v0,hcd⟩:=hcell;have hfd:wr.frozen? ⟨g0,q,none⟩=false:=hrow2.out.free q;have hrow3:Row (wr.setCell ⟨g0,q,none⟩ (.int .i64 (N2:Int))) g0 3 (aM (dY ls x (q+1))):=by
       have h1:=hrow2.out.aT q (.int .i64 (N2:Int));rw[Hcd.out,show aM ((dY ls x q).set q N2)=(aM (dY ls x q)).set q (.int .i64 (N2:Int)) by simp[aM,List.map_set]];exact h1
      have kg:=hid hrow3;have adD:=hid (Ew.out.setCell (p:=⟨g0,q,none⟩) (by rw[Hg0.out];exact Nat.le_refl _) (.int .i64 (N2:Int)));clear hrow3 hlen hrow2 Ew Ir Hcd;go_wp2;go_roundw
      case rel=>exact⟨N2+1,q+1,by omega,by go_num,by go_num,hN4,Hp2,kg,adD⟩
      case measure=>simp[intOf];omega
     ·have Hp2:Hid (N2*2^(11-m)=Ap ls m (q+1)):=hid (by rw[Vs ls m q (by rw[Hgq.out];exact hxm)];exact Ir.out);have kg:Hid (Row wr g0 3 (aM (dY ls m (q+1)))):=hid (by rw[GV ls m q (by rw[Hgq.out];exact hxm)];exact hrow2.out);have hne:((x:Int) == (m:Int))=false:=by rw[beq_eq_false_iff_ne];omega
      clear hrow2 Ir;go_wp2;go_roundw
      case rel=>exact⟨N2,q+1,by omega,rfl,by go_num,hN3,Hp2,kg,Ew⟩
      case measure=>simp[intOf];omega
    ·obtain rfl:q=ls.length:=by omega
     have Hp3:Hid (N2*2^(12-(m+1))=Ap ls (m+1) 0):=hid (by rw[<-aaH,show 12-(m+1)=11-m by omega];exact Ir.out);have kg:Hid (Row wr g0 3 (aM (dY ls (m+1) 0))):=hid (by rw[<-NC];exact hrow2.out);clear hrow2 Ir;go_wp2;go_roundw
     case rel=>exact⟨N2,m+1,rfl,by go_num,by omega,by omega,hN3,Hp3,kg,Ew⟩
     case measure=>simp[intOf];omega
  ·obtain rfl:m=12:=by omega
   have dL:Hid (Row wr g0 3 (aM (iZ ls))):=hid (by rw[<-NA ls H11.out];exact hrow.out);clear hrow hpre;go_wp2;go_ret2;exact⟨g0,rfl,dL.out,by rw[Hg0.out];exact Nat.le_refl _,hbel.out⟩
theorem Us(A:Option Addr)(c:Nat)(l:List Int)(w:World)(hl:l.length<=1000000000)(hc:l.length<=c)(hr:Reads w A (mH l)) :
  Calls prog 126 #[.slice A l.length c] w fun e w'=>∃k,e=.returned (.slice A k c)/\QN l k/\w=w':=by
 have Hr:=hid hr;have XZ:=hid (fun q (hq:q<=l.length) W=>YN A l.length c q W hq hc);clear hr;go_enter func126,ntmps126
 go_wp2;go_loop [3] (fun n=>∃k:Nat,k<=l.length/\n=.int .i64 (k:Int)/\Hid (∀j (h:j<l.length),k<=j->l[j]=0)) (fun n=>(intOf n).toNat)
 case atStart=>exact⟨l.length,Nat.le_refl _,rfl,hid (fun j h hk=>by omega)⟩
 case round=>
  obtain⟨k,hk,rfl,hz⟩:=hrel;have hcut:=XZ.out k hk;rcases Nat.eq_zero_or_pos k with h0 | h0
  ·subst h0;clear Hr XZ;go_wp2;go_ret;exact⟨0,rfl,⟨by omega,hz.out,.inl rfl⟩,rfl⟩
  ·obtain⟨q,rfl⟩:∃q,k=q+1:=⟨k-1,by omega⟩;obtain⟨g,off,rfl,hcell⟩:=nV Hr.out (by omega);have c0:=hcell q (by omega);have hnz:l[q]≠0->QN l (q+1):=fun h=>⟨hk,hz.out,.inr ⟨by omega,h⟩⟩
   have hnx:l[q]=0->∀j (h:j<l.length),q<=j->l[j]=0:=fun h j hj hq=>by
    by_cases e:j=q
    ·subst e;exact h
    ·exact hz.out j hj (by omega)
   have Hnz:=hid hnz;have Hnx:=hid hnx;have hqi:((q+1:Nat):Int)-1=(q:Int):=by omega
   clear hcell hnz hnx Hr XZ;generalize l[q]=z at c0 Hnz Hnx;by_cases hzz:z=0
   ·subst hzz;have Hn:=hid (Hnx.out rfl);clear Hnz Hnx hcut;go_wp2;go_round
    case rel=>exact⟨q,by omega,by go_num,Hn⟩
    case measure=>simp[intOf]
   ·have hd:(z == 0)=false:=by simpa using hzz
    have He:=hid (Hnz.out hzz);clear Hnz Hnx;go_wp2;go_ret;exact⟨q+1,rfl,He.out,rfl⟩
theorem Ur(A:Option Addr)(c:Nat)(ls:List Nat)(w:World)(hl:ls.length<=256)(hc:ls.length<=c)(hr:Reads w A (aM ls)) :
  Calls prog 126 #[.slice A ls.length c] w fun e w'=>e=.returned (.slice A (aI ls).length c)/\w=w':=by
 have h:=Us A c (ls.map fun n:Nat=>(n:Int)) w (by simp;omega) (by simpa using hc) (by rw[bJ];exact hr);rw[List.length_map]at h;exact h.mono fun e w' ⟨k,he,hk,hw⟩=>by
  obtain⟨_,e2,_⟩:=PL ls k hk;exact⟨by rw[<-e2];exact he,hw⟩
namespace Bm
theorem SE(V n p:Nat):(bitsOf V n).drop p=bitsOf (V/2^p) (n-p):=by
 apply List.ext_getElem
 ·simp[aU]
 ·intro i h1 h2;rw[List.getElem_drop,dw,dw,Nat.div_div_eq_div_mul,<-Nat.pow_add]
theorem RJ(V n:Nat)(h:V<2^n):(∀x∈bitsOf V n,x=0)↔V=0:=by
 constructor
 ·intro h1;rw[<-nM V n h,sH _ h1]
 ·intro e x hx;subst e;unfold bitsOf at hx;obtain⟨i,_,rfl⟩:=List.mem_map.1 hx;simp
def Ib(s:List Nat)(pos:Nat):Prop:=((bitsOf (aW s) (8*s.length)).drop pos).length<=7/\∀x∈(bitsOf (aW s) (8*s.length)).drop pos,x=0
instance (s:List Nat) (pos:Nat):Decidable (Ib s pos):=by unfold Ib;exact inferInstance
theorem Lu(s:List Nat)(hs:∀x∈s,x<256)(pos:Nat)(hp:pos<=8*s.length):Ib s pos↔(8*s.length-pos<=7/\aW s/2^pos%2^(8*s.length-pos)=0):=by
 have hv:=lQ s hs;rw[tH]at hv;have h1:aW s/2^pos<2^(8*s.length-pos):=by
  rw[Nat.div_lt_iff_lt_mul (Nat.two_pow_pos _),<-Nat.pow_add,Nat.sub_add_cancel hp];exact hv
 unfold Ib;rw[SE _ _ _,aU,RJ _ _ h1,Nat.mod_eq_of_lt h1]
end Bm
theorem Ac(b:Nat)(bs:List Nat)(pos:Nat)(w:World)(hs:bs.length<=10000)(hbs:∀x∈bs,x<256)(hp:pos<=8*bs.length)(h:RS w b 0 bs pos) :
  Calls prog 160 #[.pointer (some ⟨b,0,none⟩)] w fun e w'=>e=.returned (.bool (decide (Ib bs pos)))/\w.grownBy w' (some b):=by
 have hl:=vN b 0 bs pos w (by omega) hp h;obtain⟨lf,hlf⟩:∃lf,lf=8*bs.length-pos:=⟨_,rfl⟩;have hd:Ib bs pos↔(lf<=7/\aW bs/2^pos%2^lf=0):=by rw[hlf];exact Lu bs hbs pos hp
 have hdd:decide (Ib bs pos)=decide (lf<=7/\aW bs/2^pos%2^lf=0):=decide_eq_decide.2 hd;rw[hdd];have Htk:Hid (lf<=32->∀k,Calls prog 159 #[.pointer (some ⟨b,0,none⟩),.int .i64 (lf:Int)] (w.drewN k) fun e w'=>e=.returned (.tuple #[.int .u32 ((aW bs/2^pos%2^lf:Nat):Int),.bool true])/\RS w' b 0 bs (pos+lf)/\(w.drewN k).grownBy w' (some b)):=hid (fun h1 k=>jV b 0 bs pos lf _ (by omega) hbs h1 (by omega) (h.drewN k));have MX:Hid (32<lf->∀k,Calls prog 159 #[.pointer (some ⟨b,0,none⟩),.int .i64 (lf:Int)] (w.drewN k) fun e w'=>e=.returned (.tuple #[.int .u32 0,.bool false])/\w.drewN k=w'):=hid (fun h1 k=>MN ⟨b,0,none⟩ (lf:Int) _ (.inr (by omega)));rw[<-hlf]at hl;have Hl:=hid hl;have arf:lf<=80000:=by omega
 clear hl h hdd hd hlf;generalize hX:aW bs/2^pos%2^lf=X at *;clear hX;by_cases h7:lf<=7
 ·have hd:decide (lf<=7/\X=0)=((X:Int) == 0):=by
   by_cases h0:X=0
   ·subst h0;simp[h7]
   ·rw[decide_eq_false (fun h=>h0 h.2)];symm
    rw[beq_eq_false_iff_ne];omega
  rw[hd];clear hd;go_enter func160,ntmps160
  go_wp2_with fail
  refine Hl.out.mono ?_;rintro e w' ⟨rfl,kk,rfl⟩;clear Hl;have Ht:=hid (Htk.out (by omega) kk);clear MX Htk;go_wp2_with fail
  refine Ht.out.mono ?_;rintro e w2 ⟨rfl,_,hg⟩;have Hg:Hid (w.grownBy w2 (some b)):=hid ⟨hg.os,hg.tape,hg.output,hg.size,hg.block⟩;clear hg Ht;go_wp2;go_ret;exact⟨rfl,Hg.out⟩
 ·have hd:decide (lf<=7/\X=0)=false:=decide_eq_false (fun h=>h7 h.1);rw[hd];clear hd;go_enter func160,ntmps160
  go_wp2_with fail
  refine Hl.out.mono ?_;rintro e w' ⟨rfl,kk,rfl⟩;clear Hl;by_cases h32:lf<=32
  ·have Ht:=hid (Htk.out h32 kk);clear MX Htk;go_wp2_with fail
   refine Ht.out.mono ?_;rintro e w2 ⟨rfl,_,hg⟩;have Hg:Hid (w.grownBy w2 (some b)):=hid ⟨hg.os,hg.tape,hg.output,hg.size,hg.block⟩;clear hg Ht;go_wp2;go_ret;exact⟨rfl,Hg.out⟩
  ·have Ht:=hid (MX.out (by omega) kk);clear MX Htk;go_wp2_with fail
   refine Ht.out.mono ?_;rintro e w2 ⟨rfl,rfl⟩;clear Ht;go_wp2;go_ret;exact⟨rfl,bL (aj _ _) _⟩
namespace Bm
theorem vR(bs:List Nat)(h:bs≠[]):0<iH bs:=by
 cases bs with
 | nil=>exact absurd rfl h
 | cons x a=>rw[iH];omega
def fq(cs:List Nat)(size k:Nat):List Nat:=(cs.take k).map (pQ size cs.sum)++List.replicate (cs.length-k) 0
theorem Fg(cs:List Nat)(size:Nat):fq cs size 0=List.replicate cs.length 0:=by simp[fq]
theorem Jq(cs:List Nat)(size:Nat):fq cs size cs.length=parts cs size:=by simp[fq,parts]
theorem zn(cs:List Nat)(size k:Nat)(h:k<=cs.length):(fq cs size k).length=cs.length:=by simp[fq];omega
theorem xM(cs:List Nat)(size k:Nat)(h:k<cs.length):(fq cs size k)[k]?=some 0:=by
 unfold fq;have h1:((cs.take k).map (pQ size cs.sum)).length=k:=by simp;omega
 rw[List.getElem?_append_right (by omega),h1,Nat.sub_self,List.getElem?_replicate,if_pos (by omega)]
theorem uR(cs:List Nat)(size k:Nat)(h:k<cs.length):fq cs size (k+1)=(fq cs size k).set k (pQ size cs.sum cs[k]):=by
 unfold fq;have h1:((cs.take k).map (pQ size cs.sum)).length=k:=by simp;omega
 rw[List.set_append_right _ _ (by omega),h1,Nat.sub_self,List.take_succ_eq_append_getElem h,List.map_append,List.append_assoc];congr 1
 obtain⟨m,hm⟩:∃m,cs.length-k=m+1:=⟨cs.length-k-1,by omega⟩;rw[hm,show cs.length-(k+1)=m by omega,List.replicate_succ];simp
theorem Fe(cs:List Nat)(size k:Nat)(h:k<cs.length)(h0:cs[k]=0):fq cs size (k+1)=fq cs size k:=by
 have hz:pQ size cs.sum 0=0:=by simp[pQ]
 rw[uR cs size k h,h0,hz];apply List.ext_getElem?
 intro i;rw[List.getElem?_set];split
 ·next e=>
  subst e;rw[if_pos (by rw[zn cs size k (by omega)];omega),xM cs size k h]
 ·rfl
theorem Ae(l:List Nat)(x:Nat)(h:x∈l):x<=l.sum:=by
 induction l with
 | nil=>cases h
 | cons a l ih=>
  rw[List.sum_cons];rcases List.mem_cons.1 h with rfl | h1
  ·omega
  ·have:=ih h1;omega
theorem Ve(size total c:Nat)(h:0<c):max ((c:Int)*size/total) 1=(pQ size total c:Int):=by
 have e:(c:Int)*size/total=((c*size/total:Nat):Int):=by simp
 unfold pQ;rw[e];split
 ·next h1=>rw[h1.1];rfl
 ·next h1=>
  have h2:c*size/total≠0:=fun e=>h1 ⟨e,h⟩
  generalize c*size/total=q at h2 ⊢;omega
theorem WM(l:List Nat)(m:Nat)(h:∀x∈l,x<=m):l.sum<=m*l.length:=by
 induction l with
 | nil=>simp
 | cons a l ih=>
  have h1:=ih (fun x hx=>h x (List.mem_cons_of_mem _ hx));have h2:=h a List.mem_cons_self;rw[List.sum_cons,List.length_cons,Nat.mul_succ];omega
end Bm
theorem LP(A:Option Addr)(c:Nat)(bs:List Nat)(w:World)(hl:bs.length<=1000000000)(h0:0<bs.length)(hlt:∀x∈bs,x<256)(hr:Reads w A (u8s bs)) :
  Calls prog 99 #[.slice A bs.length c] w fun e w'=>e=.returned (.int .u8 ((iH bs:Int)-1))/\w=w':=by
 have hne:bs≠[]:=by intro e;rw[e]at h0;simp at h0
 obtain⟨g,off,rfl,hc⟩:=gu hr hne;have Hc:=hid hc;have Hlt:=hid hlt;have c0:=hc 0 h0;have hb0:=hlt bs[0] (List.getElem_mem h0);have H0:Hid (iH (bs.take 1)=bs[0]+1):=hid (by
  have h1:=FY bs 0 h0;rw[List.take_zero]at h1;rw[h1];simp[iH])
 obtain⟨r,hres⟩:∃r,r=iH bs:=⟨_,rfl⟩;rw[<-hres];have dV:=hid hres;clear hr hlt hc hres;rw[Nat.add_zero]at c0;generalize bs[0]=b0 at c0 hb0 H0;go_enter func99,ntmps99
 go_wp2;go_loop [3,4] (fun m i=>∃k:Nat,1<=k/\k<=bs.length/\i=.int .i64 (k:Int)/\m=.int .u8 ((iH (bs.take k):Int)-1)) (fun _ i=>bs.length-(intOf i).toNat)
 case atStart=>exact⟨1,by omega,by omega,rfl,by rw[H0.out];go_num⟩
 case round=>
  obtain⟨k,hk1,hk,rfl,rfl⟩:=hrel;clear c0;by_cases hkl:k<bs.length
  ·have c1:=Hc.out k hkl;have hb:=Hlt.out bs[k] (List.getElem_mem hkl);have hT1:=jW (bs.take k) (fun x hx=>Hlt.out x (List.mem_of_mem_take hx));have Hs:=hid (FY bs k hkl);have hp:0<iH (bs.take k):=vR _ (fun e=>by
    have h1:=congrArg List.length e;rw[List.length_take,List.length_nil]at h1;omega)
   generalize iH (bs.take k)=T at hT1 Hs hp ⊢;generalize bs[k]=b at c1 hb Hs;have hmx:=afw T b;generalize max T (b+1)=T2 at hmx Hs;go_wp2;go_round
   case rel=>exact⟨k+1,by omega,by omega,by go_num,by rw[Hs.out]⟩
   case measure=>simp[intOf];omega
  ·obtain rfl:k=bs.length:=by omega
   rw[List.take_length,<-dV.out];go_wp2;go_ret;exact⟨rfl,rfl⟩
theorem adi:COf:=by
 intro A c bs w hl hlt hr;rcases Nat.eq_zero_or_pos bs.length with h0 | h0
 ·have hb:bs=[]:=List.eq_nil_of_length_eq_zero h0;subst hb;go_enter func67,ntmps67
  go_wp2;go_ret;exact⟨none,0,rfl,fun h=>absurd rfl h,Below.refl _ _⟩
 have hz:((bs.length:Int) == 0)=false:=by rw[beq_eq_false_iff_ne];omega
 obtain⟨i0,hi,hz0,hz1,hz2⟩:=info_parts gQ;have Hr:=hid hr;have Hlt:=hid hlt;have hT:=jW bs hlt;have hT0:=vR bs (by intro e;rw[e]at h0;simp at h0);have Hmx:=hid (LP A c bs w (by omega) h0 hlt hr);clear hr hlt;obtain⟨g0,hg0⟩:∃g,g=w.heap.size:=⟨_,rfl⟩;have Hg0:=hid hg0;obtain⟨T,hTe⟩:∃T,T=iH bs:=⟨_,rfl⟩;have HTe:=hid hTe;have adM:Hid (Calls prog 99 #[.slice A bs.length c] w fun e w'=>e=.returned (.int .u8 ((T:Int)-1))/\w=w'):=hid (by rw[hTe];exact Hmx.out);rw[<-hTe]at hT hT0 ⊢;clear hg0 hTe Hmx;go_enter func67,ntmps67
 go_wp2_with fail
 refine adM.out.mono ?_;rintro e w' ⟨rfl,rfl⟩;clear adM;have e1:((T:Int)-1)+1=(T:Int):=by omega
 go_wp2_with (at_make;refine wpList_make_full _ rfl _ _ 115 rfl w.heap.size 3 i0 (.int .i64 0) 1 underlying115 hi hz0 hz1 .i64 .i64 _ _ T rfl rfl ?c1 ?c1 ?c2 ?c3 ?c4 ?_)
 case c1=>omega
 case c2=>first | omega | (rw[hz2];omega)
 case c3=>unfold maxLen;omega
 try case c4=>exact Nat.le_refl _
 intro w1 hown1 hg1;have hb1:=aJ hg1;have hr1:=dH hown1;rw[<-Hg0.out]at hr1 ⊢;have Hb1:=hid hb1;rw[HTe.out,<-qB]at hr1;have Hr1:=hid hr1;clear hown1 hg1 hb1 hr1 hi hz0 hz1 hz2 e1 hz;go_wp2;go_loopw [16] (fun i wr=>∃k:Nat,k<=bs.length/\i=.int .i64 (k:Int)/\Hid (Row wr g0 3 (aM (bV bs k)))/\Hid (Below w.heap.size w wr)) (fun i _=>bs.length-(intOf i).toNat)
 case atStart=>exact⟨0,by omega,rfl,Hr1,Hb1⟩
 case round=>
  obtain⟨k,hk,rfl,hrow,hbel⟩:=hrel;clear Hr1 Hb1;by_cases hkl:k<bs.length
  ·have hne:bs≠[]:=by intro e;rw[e]at hkl;simp at hkl
   obtain⟨g,off,rfl,hc⟩:=gu (aC Hr.out hbel.out) hne;have c0:=hc k hkl;have hb:=Hlt.out bs[k] (List.getElem_mem hkl);have hbT:bs[k]<T:=by rw[HTe.out];exact jP bs _ (List.getElem_mem hkl)
   have hcb:(bs.take k).count bs[k]<=bs.length:=Nat.le_trans List.count_le_length (by rw[List.length_take];omega);have hcell:=hrow.out.cell bs[k];have hgt:=uJ bs k bs[k] (by rw[<-HTe.out];exact hbT);simp only[aM,List.getElem?_map,hgt,Option.map_some]at hcell;have hfree:=hrow.out.free bs[k];have Hn:=hid (qA bs k hkl);clear hc hgt;generalize (bs.take k).count bs[k]=q at hcb hcell Hn;generalize bs[k]=b at c0 hb hbT hcell hfree Hn;go_wp2;go_roundw
   case rel=>
    refine⟨k+1,by omega,by go_num,hid ?_,hid (hbel.out.setCell (by rw[Hg0.out];exact Nat.le_refl _) _)⟩;rw[Hn.out];have h1:=hrow.out.aT b (.int .i64 ((q:Int)+1));rw[show aM ((bV bs k).set b (q+1))=(aM (bV bs k)).set b (.int .i64 ((q:Int)+1)) by simp[aM,List.map_set]];exact h1
   case measure=>simp[intOf];omega
  ·obtain rfl:k=bs.length:=by omega
   rw[uI]at hrow;go_wp2;go_ret;exact⟨some ⟨g0,0,none⟩,T,rfl,bP hrow.out,hbel.out⟩
theorem OO(A:Option Addr)(c:Nat)(cs:List Nat)(size:Nat)(w:World)(hl:cs.length<=256)(hm:∀x∈cs,x<=1048576)(hsz:size<=512)(hr:Reads w A (aM cs)) :
  Calls prog 175 #[.slice A cs.length c,.int .i64 (size:Int)] w fun e w'=>∃g,e=.returned (.slice (some ⟨g,0,none⟩) cs.length cs.length)/\w.heap.size<=g/\Row w' g 3 (aM (Bm.parts cs size))/\Below w.heap.size w w':=by
 obtain⟨i0,hi,hz0,hz1,hz2⟩:=info_parts gQ;have hsum:=WM cs 1048576 hm;have Hr:=hid hr;have Hm:=hid hm;have Htt:=hid (tu A c cs w (by omega) (by omega) hr);obtain⟨S,hS⟩:∃S,S=cs.sum:=⟨_,rfl⟩;have HS:=hid hS;rw[<-hS]at Htt hsum;clear hr hm hS;obtain⟨g0,hg0⟩:∃g,g=w.heap.size:=⟨_,rfl⟩;have Hg0:=hid hg0;clear hg0;go_enter func175,ntmps175
 go_wp2_with fail
 refine Htt.out.mono ?_;rintro e w' ⟨rfl,rfl⟩;clear Htt;go_wp2_with (at_make;refine wpList_make_full _ rfl _ _ 115 rfl w.heap.size 3 i0 (.int .i64 0) 1 underlying115 hi hz0 hz1 .i64 .i64 _ _ cs.length rfl rfl ?c1 ?c1 ?c2 ?c3 ?c4 ?_)
 case c1=>omega
 case c2=>first | omega | (rw[hz2];omega)
 case c3=>unfold maxLen;omega
 try case c4=>exact Nat.le_refl _
 intro w1 hown1 hg1;have hb1:=aJ hg1;have hr1:=dH hown1;rw[<-Hg0.out]at hr1 ⊢;have Hb1:=hid hb1;rw[<-Fg cs size]at hr1;have Hr1:=hid hr1;clear hown1 hg1 hb1 hr1 hi hz0 hz1 hz2;go_wp2;go_loopw [16] (fun i wr=>∃k:Nat,k<=cs.length/\i=.int .i64 (k:Int)/\Hid (Row wr g0 3 (aM (fq cs size k)))/\Hid (Below w.heap.size w wr)) (fun i _=>cs.length-(intOf i).toNat)
 case atStart=>exact⟨0,by omega,rfl,Hr1,Hb1⟩
 case round=>
  obtain⟨k,hk,rfl,hrow,hbel⟩:=hrel;clear Hr1 Hb1;by_cases hkl:k<cs.length
  ·obtain⟨g,off,rfl,hc⟩:=CB (aC Hr.out hbel.out) (by omega);have c0:=hc k hkl;have hb:=Hm.out cs[k] (List.getElem_mem hkl);have hcell:=hrow.out.cell k;have hgt:=xM cs size k hkl;simp only[aM,List.getElem?_map,hgt,Option.map_some]at hcell;have hfree:=hrow.out.free k;have hsk:cs[k]<=S:=by rw[HS.out];exact Ae cs _ (List.getElem_mem hkl)
   have Hn:=hid (uR cs size k hkl);have Hn0:=hid (Fe cs size k hkl);have hpm:=Ve size S cs[k];rw[<-HS.out]at Hn;have Hpm:=hid hpm;have hpz:(cs[k]:Int)*size<=1048576*512:=by
    rw[<-Int.natCast_mul];have:=Nat.mul_le_mul hb hsz;omega
   have aoi:0<=(cs[k]:Int)*size:=by rw[<-Int.natCast_mul];omega
   clear hc hgt hpm;generalize cs[k]=z at c0 hb hsk Hn Hn0 Hpm hpz aoi;by_cases hz:0<z
   ·have hmax:=Hpm.out hz;have XK:=hid hmax;clear hmax;have hq0:0<=(z:Int)*size/S:=Int.ediv_nonneg aoi (by omega);go_wp2;go_roundw
    case rel=>
     refine⟨k+1,by omega,by go_num,hid ?_,hid (hbel.out.setCell (by rw[Hg0.out];exact Nat.le_refl _) _)⟩;rw[Hn.out];have h1:=hrow.out.aT k (.int .i64 (pQ size S z:Int));rw[show aM ((fq cs size k).set k (pQ size S z))=(aM (fq cs size k)).set k (.int .i64 (pQ size S z:Int)) by simp[aM,List.map_set]];rw[<-XK.out]at h1 ⊢;exact h1
    case measure=>simp[intOf];omega
   ·have e0:z=0:=by omega
    have H2:=hid (Hn0.out e0);clear e0;go_wp2;go_roundw
    case rel=>exact⟨k+1,by omega,by go_num,hid (by rw[H2.out];exact hrow.out),hbel⟩
    case measure=>simp[intOf];omega
  ·obtain rfl:k=cs.length:=by omega
   rw[Jq]at hrow;go_wp2;go_ret;exact⟨g0,rfl,by rw[Hg0.out];exact Nat.le_refl _,hrow.out,hbel.out⟩
theorem four(w:World)(t0 t1 t2 t3:TypeId)(l0 l1 l2 l3:List Value):∃W b0 b1 b2 b3,(((w.alloc (.cells l0.toArray t0)).alloc (.cells l1.toArray t1)).alloc (.cells l2.toArray t2)).alloc (.cells l3.toArray t3)=W /\
  w.heap.size=b0/\w.heap.size+1=b1/\w.heap.size+1+1=b2/\w.heap.size+1+1+1=b3/\Row W b0 t0 l0/\Row W b1 t1 l1/\Row W b2 t2 l2/\Row W b3 t3 l3/\Below w.heap.size w W:=by
 have h0:=Row.new w t0 l0;have h1:=Row.new (w.alloc (.cells l0.toArray t0)) t1 l1;have h2:=Row.new ((w.alloc (.cells l0.toArray t0)).alloc (.cells l1.toArray t1)) t2 l2;have h3:=Row.new (((w.alloc (.cells l0.toArray t0)).alloc (.cells l1.toArray t1)).alloc (.cells l2.toArray t2)) t3 l3;have k1:(w.alloc (.cells l0.toArray t0)).heap.size=w.heap.size+1:=by simp
 have k2:((w.alloc (.cells l0.toArray t0)).alloc (.cells l1.toArray t1)).heap.size=w.heap.size+1+1:=by simp
 have k3:(((w.alloc (.cells l0.toArray t0)).alloc (.cells l1.toArray t1)).alloc (.cells l2.toArray t2)).heap.size=w.heap.size+1+1+1:=by simp
 rw[k1]at h1;rw[k2]at h2;rw[k3]at h3;exact⟨_,_,_,_,_,rfl,rfl,rfl,rfl,rfl,((h0.alloc _).alloc _).alloc _,(h1.alloc _).alloc _,h2.alloc _,h3,
  ((((Below.refl w.heap.size w).alloc (Nat.le_refl _) _).alloc (by simp) _).alloc (by simp;omega) _).alloc (by simp;omega) _⟩
theorem Mf(w:World)(l m o a b c n p q y m':Int)(ok:Bool)(hm:IntKind.i64.wrap (m-3)=m')
  (HN:∀W,Calls prog 114 #[.agg #[.int .i64 a,.int .i64 b,.int .i64 c],.int .i64 o] W fun e w'=>e=.returned (.tuple #[.int .i64 n,.agg #[.int .i64 p,.int .i64 q,.int .i64 y],.bool ok])/\Below W.heap.size W w') :
  Calls prog 91 #[.agg #[.int .i64 l,.int .i64 m,.int .i64 o],.agg #[.int .i64 a,.int .i64 b,.int .i64 c]] w fun e w'=>e=.returned (.tuple #[.agg #[.int .i64 l,.int .i64 m',.int .i64 n],.agg #[.int .i64 p,.int .i64 q,.int .i64 y],.bool ok])/\Below w.heap.size w w':=by
 have hN:=hid HN;obtain⟨W,b0,b1,b2,b3,hW,e0,e1,e2,e3,r0,r1,r2,r3,hbel⟩:=four w 121 157 156 157 [.int .i64 l,.int .i64 m,.int .i64 o] [.int .i64 a,.int .i64 b,.int .i64 c] [.int .i64 0,.int .i64 0,.int .i64 0] [.int .i64 0,.int .i64 0,.int .i64 0];have Hm:=hid hm;have HW:=hid hW;have He:=hid (⟨e0,e1,e2,e3⟩:_/\_/\_/\_);have Hr:=hid (⟨r0,r2,r3,hbel⟩:_/\_/\_/\_);clear HN hW e0 e1 e2 e3 r0 r1 r2 r3 hbel hm;go_enter func91,ntmps91
 go_wp2_with fail
 rw[HW.out,He.out.2.2.2,He.out.2.2.1,He.out.2.1,He.out.1];have aeT:b0<b2/\b2<b3/\w.heap.size<=b2:=by have:=He.out;omega
 clear HW He;refine(hN.out W).mono ?_;rintro e w2 ⟨rfl,hb2⟩;obtain⟨r0,r2,r3,hbel⟩:=Hr.out;have r0:=(r0.below hb2).alloc (.cells #[.int .i64 p,.int .i64 q,.int .i64 y] 157);have r2:=(r2.below hb2).alloc (.cells #[.int .i64 p,.int .i64 q,.int .i64 y] 157);have alL:=(r3.below hb2).lt;have r3:=(r3.below hb2).alloc (.cells #[.int .i64 p,.int .i64 q,.int .i64 y] 157);have hbel:=hbel.trans (hb2.mono hbel.size);have r4:=Row.new w2 157 [.int .i64 p,.int .i64 q,.int .i64 y];obtain⟨b4,hb4⟩:∃b4,w2.heap.size=b4:=⟨_,rfl⟩;have hbel:=hbel.alloc hbel.size (.cells #[.int .i64 p,.int .i64 q,.int .i64 y] 157);have Hb4:=hid hb4;rw[hb4]at r4 alL;have HB:=hid hbel;have H0:=hid r0;have H2:=hid r2;have H3:=hid r3;have H4:=hid r4;clear Hr hN hb2 hbel r0 r2 r3 r4 hb4;have em:=Hm.out;go_wp2_with fail
 rw[Hb4.out];obtain⟨c0,c1,c2⟩:=gB H0.out;obtain⟨c3,c4,c5⟩:=gB H4.out;have f0:=H2.out.free 0;have f1:=H2.out.free 1;have f2:=H2.out.free 2;have f3:=H3.out.free 0;have f4:=H3.out.free 1;have f5:=H3.out.free 2;obtain⟨d0,d1,d2⟩:=gB H2.out;obtain⟨d3,d4,d5⟩:=gB H3.out;have n1:b2≠b3:=by omega
 have n2:b3≠b2:=by omega
 have n3:b0≠b2:=by omega
 have n4:b0≠b3:=by omega
 have n5:b4≠b2:=by omega
 have n6:b4≠b3:=by omega
 generalize (w2.alloc (.cells #[.int .i64 p,.int .i64 q,.int .i64 y] 157))=wB at *;clear Hb4;go_region
 have z2:=(((((H2.out.aT 0 (.int .i64 l)).aT 1 (.int .i64 m')).aT 2 (.int .i64 n)).far (p:=⟨b3,0,none⟩) n1 (.int .i64 p)).far (p:=⟨b3,1,none⟩) n1 (.int .i64 q)).far (p:=⟨b3,2,none⟩) n1 (.int .i64 y);have z3:=(((((H3.out.far (p:=⟨b2,0,none⟩) n2 (.int .i64 l)).far (p:=⟨b2,1,none⟩) n2 (.int .i64 m')).far (p:=⟨b2,2,none⟩) n2 (.int .i64 n)).aT 0 (.int .i64 p)).aT 1 (.int .i64 q)).aT 2 (.int .i64 y);have HF:=hid ((((((HB.out.setCell (p:=⟨b2,0,none⟩) aeT.2.2 (.int .i64 l)).setCell (p:=⟨b2,1,none⟩) aeT.2.2 (.int .i64 m')).setCell (p:=⟨b2,2,none⟩) aeT.2.2 (.int .i64 n)).setCell (p:=⟨b3,0,none⟩) (by show w.heap.size<=b3;omega) (.int .i64 p)).setCell (p:=⟨b3,1,none⟩) (by show w.heap.size<=b3;omega) (.int .i64 q)).setCell (p:=⟨b3,2,none⟩) (by show w.heap.size<=b3;omega) (.int .i64 y)).drew;simp only[List.set_cons_zero,List.set_cons_succ]at z2 z3;obtain⟨x0,x1,x2⟩:=gB z2;obtain⟨y0,y1,y2⟩:=gB z3;have hX:=hid (⟨x0,x1,x2,y0,y1,y2⟩:_/\_/\_/\_/\_/\_);clear c0 c1 c2 c3 c4 c5 f0 f1 f2 f3 f4 f5 d0 d1 d2 d3 d4 d5 x0 x1 x2 y0 y1 y2 z2 z3 n1 n2 n3 n4 n5 n6;generalize ((((((wB.setCell ⟨b2,0,none⟩ (.int .i64 l)).setCell ⟨b2,1,none⟩ (.int .i64 m')).setCell ⟨b2,2,none⟩ (.int .i64 n)).setCell ⟨b3,0,none⟩ (.int .i64 p)).setCell ⟨b3,1,none⟩ (.int .i64 q)).setCell ⟨b3,2,none⟩ (.int .i64 y))=wC at *;go_wp2;obtain⟨x0,x1,x2,y0,y1,y2⟩:=hX.out;exact bodyPost_ret (by simp[results,results91,go_sem,x0,x1,x2,y0,y1,y2]) rfl ⟨rfl,HF.out⟩
theorem Mh(w:World)(l m o a b c n p q y m':Int)(ok:Bool)(hm:IntKind.i64.wrap (m+3)=m')
  (HN:∀W,Calls prog 169 #[.agg #[.int .i64 a,.int .i64 b,.int .i64 c],.int .i64 o] W fun e w'=>e=.returned (.tuple #[.int .i64 n,.agg #[.int .i64 p,.int .i64 q,.int .i64 y],.bool ok])/\Below W.heap.size W w') :
  Calls prog 135 #[.agg #[.int .i64 l,.int .i64 m,.int .i64 o],.agg #[.int .i64 a,.int .i64 b,.int .i64 c]] w fun e w'=>e=.returned (.tuple #[.agg #[.int .i64 l,.int .i64 m',.int .i64 n],.agg #[.int .i64 p,.int .i64 q,.int .i64 y],.bool ok])/\Below w.heap.size w w':=by
 have hN:=hid HN;obtain⟨W,b0,b1,b2,b3,hW,e0,e1,e2,e3,r0,r1,r2,r3,hbel⟩:=four w 156 157 121 157 [.int .i64 l,.int .i64 m,.int .i64 o] [.int .i64 a,.int .i64 b,.int .i64 c] [.int .i64 0,.int .i64 0,.int .i64 0] [.int .i64 0,.int .i64 0,.int .i64 0];have Hm:=hid hm;have HW:=hid hW;have He:=hid (⟨e0,e1,e2,e3⟩:_/\_/\_/\_);have Hr:=hid (⟨r0,r2,r3,hbel⟩:_/\_/\_/\_);clear HN hW e0 e1 e2 e3 r0 r1 r2 r3 hbel hm;go_enter func135,ntmps135
 go_wp2_with fail
 rw[HW.out,He.out.2.2.2,He.out.2.2.1,He.out.2.1,He.out.1];have aeT:b0<b2/\b2<b3/\w.heap.size<=b2:=by have:=He.out;omega
 clear HW He;refine(hN.out W).mono ?_;rintro e w2 ⟨rfl,hb2⟩;obtain⟨r0,r2,r3,hbel⟩:=Hr.out;have r0:=(r0.below hb2).alloc (.cells #[.int .i64 p,.int .i64 q,.int .i64 y] 157);have r2:=(r2.below hb2).alloc (.cells #[.int .i64 p,.int .i64 q,.int .i64 y] 157);have alL:=(r3.below hb2).lt;have r3:=(r3.below hb2).alloc (.cells #[.int .i64 p,.int .i64 q,.int .i64 y] 157);have hbel:=hbel.trans (hb2.mono hbel.size);have r4:=Row.new w2 157 [.int .i64 p,.int .i64 q,.int .i64 y];obtain⟨b4,hb4⟩:∃b4,w2.heap.size=b4:=⟨_,rfl⟩;have hbel:=hbel.alloc hbel.size (.cells #[.int .i64 p,.int .i64 q,.int .i64 y] 157);have Hb4:=hid hb4;rw[hb4]at r4 alL;have HB:=hid hbel;have H0:=hid r0;have H2:=hid r2;have H3:=hid r3;have H4:=hid r4;clear Hr hN hb2 hbel r0 r2 r3 r4 hb4;have em:=Hm.out;go_wp2_with fail
 rw[Hb4.out];obtain⟨c0,c1,c2⟩:=gB H0.out;obtain⟨c3,c4,c5⟩:=gB H4.out;have f0:=H2.out.free 0;have f1:=H2.out.free 1;have f2:=H2.out.free 2;have f3:=H3.out.free 0;have f4:=H3.out.free 1;have f5:=H3.out.free 2;obtain⟨d0,d1,d2⟩:=gB H2.out;obtain⟨d3,d4,d5⟩:=gB H3.out;have n1:b2≠b3:=by omega
 have n2:b3≠b2:=by omega
 have n3:b0≠b2:=by omega
 have n4:b0≠b3:=by omega
 have n5:b4≠b2:=by omega
 have n6:b4≠b3:=by omega
 generalize (w2.alloc (.cells #[.int .i64 p,.int .i64 q,.int .i64 y] 157))=wB at *;clear Hb4;go_region
 have z2:=(((((H2.out.aT 0 (.int .i64 l)).aT 1 (.int .i64 m')).aT 2 (.int .i64 n)).far (p:=⟨b3,0,none⟩) n1 (.int .i64 p)).far (p:=⟨b3,1,none⟩) n1 (.int .i64 q)).far (p:=⟨b3,2,none⟩) n1 (.int .i64 y);have z3:=(((((H3.out.far (p:=⟨b2,0,none⟩) n2 (.int .i64 l)).far (p:=⟨b2,1,none⟩) n2 (.int .i64 m')).far (p:=⟨b2,2,none⟩) n2 (.int .i64 n)).aT 0 (.int .i64 p)).aT 1 (.int .i64 q)).aT 2 (.int .i64 y);have HF:=hid ((((((HB.out.setCell (p:=⟨b2,0,none⟩) aeT.2.2 (.int .i64 l)).setCell (p:=⟨b2,1,none⟩) aeT.2.2 (.int .i64 m')).setCell (p:=⟨b2,2,none⟩) aeT.2.2 (.int .i64 n)).setCell (p:=⟨b3,0,none⟩) (by show w.heap.size<=b3;omega) (.int .i64 p)).setCell (p:=⟨b3,1,none⟩) (by show w.heap.size<=b3;omega) (.int .i64 q)).setCell (p:=⟨b3,2,none⟩) (by show w.heap.size<=b3;omega) (.int .i64 y)).drew;simp only[List.set_cons_zero,List.set_cons_succ]at z2 z3;obtain⟨x0,x1,x2⟩:=gB z2;obtain⟨y0,y1,y2⟩:=gB z3;have hX:=hid (⟨x0,x1,x2,y0,y1,y2⟩:_/\_/\_/\_/\_/\_);clear c0 c1 c2 c3 c4 c5 f0 f1 f2 f3 f4 f5 d0 d1 d2 d3 d4 d5 x0 x1 x2 y0 y1 y2 z2 z3 n1 n2 n3 n4 n5 n6;generalize ((((((wB.setCell ⟨b2,0,none⟩ (.int .i64 l)).setCell ⟨b2,1,none⟩ (.int .i64 m')).setCell ⟨b2,2,none⟩ (.int .i64 n)).setCell ⟨b3,0,none⟩ (.int .i64 p)).setCell ⟨b3,1,none⟩ (.int .i64 q)).setCell ⟨b3,2,none⟩ (.int .i64 y))=wC at *;go_wp2;obtain⟨x0,x1,x2,y0,y1,y2⟩:=hX.out;exact bodyPost_ret (by simp[results,results135,go_sem,x0,x1,x2,y0,y1,y2]) rfl ⟨rfl,HF.out⟩
theorem Vz(w:World)(a b c:Int)(s:StZ)(ha:mO a)(hb:mO b)(hc:mO c)(hs:1<=s.2.2/\s.2.2<=65533) :
  Calls prog 91 #[.agg #[.int .i64 s.1,.int .i64 s.2.1,.int .i64 s.2.2],.agg #[.int .i64 a,.int .i64 b,.int .i64 c]] w fun e w'=>
   e=.returned (.tuple #[.agg #[.int .i64 s.1,.int .i64 (IntKind.i64.wrap (s.2.1-3)),.int .i64 (oH a b c s.2.2)],.agg #[.int .i64 (oV a b c s.2.2).1,.int .i64 (oV a b c s.2.2).2.1,.int .i64 (oV a b c s.2.2).2.2],.bool true])/\Below w.heap.size w w':=
 Mf w s.1 s.2.1 s.2.2 a b c _ _ _ _ _ true rfl fun W=>(II W a b c s.2.2 ha hb hc (by unfold mO;omega)).mono fun e w' ⟨h1,_,h3⟩=>⟨h1 (Ct a b c s.2.2 hs.1 hs.2).1,h3⟩
theorem aaN(w:World)(a b c:Int)(s:StZ)(ha:mO a)(hb:mO b)(hc:mO c)(ho:mO s.2.2)(hs:¬(1<=s.2.2/\s.2.2<=65533)) :
  Calls prog 91 #[.agg #[.int .i64 s.1,.int .i64 s.2.1,.int .i64 s.2.2],.agg #[.int .i64 a,.int .i64 b,.int .i64 c]] w fun e w'=>
   e=.returned (.tuple #[.agg #[.int .i64 s.1,.int .i64 (IntKind.i64.wrap (s.2.1-3)),.int .i64 0],.agg #[.int .i64 a,.int .i64 b,.int .i64 c],.bool false])/\Below w.heap.size w w':=
 Mf w s.1 s.2.1 s.2.2 a b c _ _ _ _ _ false rfl fun W=>(II W a b c s.2.2 ha hb hc ho).mono fun e w' ⟨_,h2,h3⟩=>⟨h2 (by unfold oH;rw[if_pos (by omega)];omega),h3⟩
theorem VB(w:World)(a b c x:Int)(l m o:Nat)(ha:mO a)(hb:mO b)(hc:mO c)(hm:m<=65535)(ho:o<=65535)(hx:yY a b c (o:Int)=some x) :
  Calls prog 135 #[.agg #[.int .i64 (l:Int),.int .i64 (m:Int),.int .i64 (o:Int)],.agg #[.int .i64 a,.int .i64 b,.int .i64 c]] w fun e w'=>
   e=.returned (.tuple #[.agg #[.int .i64 (l:Int),.int .i64 ((m+3:Nat):Int),.int .i64 x],.agg #[.int .i64 (oV a b c x).1,.int .i64 (oV a b c x).2.1,.int .i64 (oV a b c x).2.2],.bool true])/\Below w.heap.size w w':=
 Mh w l m o a b c _ _ _ _ _ true (by rw[IntWalk.i64_in _ (by omega)];omega) fun W=>(Ue W a b c o ha hb hc (by unfold mO;omega)).mono fun e w' ⟨h1,_,h3⟩=>⟨h1 x hx,h3⟩
theorem aaR(w:World)(a b c:Int)(l m o:Nat)(ha:mO a)(hb:mO b)(hc:mO c)(hm:m<=65535)(ho:o<=65535)(hx:yY a b c (o:Int)=none) :
  Calls prog 135 #[.agg #[.int .i64 (l:Int),.int .i64 (m:Int),.int .i64 (o:Int)],.agg #[.int .i64 a,.int .i64 b,.int .i64 c]] w fun e w'=>
   e=.returned (.tuple #[.agg #[.int .i64 (l:Int),.int .i64 ((m+3:Nat):Int),.int .i64 0],.agg #[.int .i64 a,.int .i64 b,.int .i64 c],.bool false])/\Below w.heap.size w w':=
 Mh w l m o a b c _ _ _ _ _ false (by rw[IntWalk.i64_in _ (by omega)];omega) fun W=>(Ue W a b c o ha hb hc (by unfold mO;omega)).mono fun e w' ⟨_,h2,h3⟩=>⟨h2 hx,h3⟩
theorem Qy(T:List Nat)(a b:Int)(w:World)(hT:T.length<=1000000)(hlt:∀x∈T,x<256)(ha:bO a)(hb:bO b) :
  Calls prog 113 #[.string (strOf T),.int .i64 a,.int .i64 b] w fun e w'=>e=.returned (.int .i64 (Pz T a b:Int))/\∃m,w'=w.drewN m:=by
 have hsz:=aA T;obtain⟨ha0,ha1⟩:=ha;obtain⟨hb0,hb1⟩:=hb;obtain⟨r,hr⟩:∃r,r=Pz T a b:=⟨_,rfl⟩;rw[<-hr];by_cases h:0<=a/\0<=b
 ·obtain⟨i,rfl⟩:=Int.eq_ofNat_of_zero_le h.1;obtain⟨j,rfl⟩:=Int.eq_ofNat_of_zero_le h.2;have hr2:r=dI T i j:=by
   rw[hr,Pz];split
   ·rw[Int.toNat_natCast,Int.toNat_natCast]
   ·rw[FC T i j (by omega)]
  have Hr:=hid hr2;have Dl:=hid (fun W k (h:k<T.length)=>vL T k W h (hlt _ (List.getElem_mem h)));obtain⟨x,hx⟩:∃x,x=max i j:=⟨_,rfl⟩;have hmx:max (i:Int) (j:Int)=(x:Int):=by omega
  have hmn:decide (min (i:Int) (j:Int)<0)=false:=decide_eq_false (by omega);have hxi:i<=x:=by omega
  have hxj:j<=x:=by omega
  have hxe:x=i\/x=j:=by omega
  clear h hr hr2 hlt hx;go_enter func113,ntmps113
  go_wp2;clear hmx hmn;go_loopw [8] (fun nv wr=>∃n m:Nat,nv=.int .i64 (n:Int)/\n<=T.length/\Hid (r=n+dI T (i+n) (j+n))/\Hid (wr=w.drewN m)) (fun nv _=>T.length-(intOf nv).toNat)
  case atStart=>exact⟨0,0,rfl,by omega,hid (by rw[Hr.out];simp),hid rfl⟩
  case round=>
   obtain⟨n,m,rfl,hin,hrn,hw⟩:=hrel;have hwr:=hw.out;subst hwr;clear hw;by_cases hA:x+n<T.length
   ·have hAi:i+n<T.length:=by omega
    have hAj:j+n<T.length:=by omega
    have hstep:=nY T (i+n) (j+n) hAi hAj;have k1:∀W:World,(Instr.index 9 (.string (strOf T)) (.int .i64 ((i:Int)+(n:Int)))).run prog W=.ok (.int .u8 ((T[i+n]:Nat):Int)) W:=fun W=>by
     have h:=Dl.out W (i+n) hAi;rwa [Int.natCast_add]at h
    have k2:∀W:World,(Instr.index 9 (.string (strOf T)) (.int .i64 ((j:Int)+(n:Int)))).run prog W=.ok (.int .u8 ((T[j+n]:Nat):Int)) W:=fun W=>by
     have h:=Dl.out W (j+n) hAj;rwa [Int.natCast_add]at h
    rw[hstep]at hrn;clear hstep;have dA:decide ((n:Int)<(T.length:Int)-(x:Int))=true:=decide_eq_true (by omega);generalize T[i+n]'hAi=y at *;generalize T[j+n]'hAj=z at *;by_cases hxy:y=z
    ·subst hxy;rw[if_pos rfl]at hrn;have Hrn:=hid (show r=(n+1)+dI T (i+(n+1)) (j+(n+1)) by rw[hrn.out,Nat.add_assoc i,Nat.add_assoc j];omega);clear hrn Dl Hr;go_wp2_with fail
     go_quiet (fail)
     go_wp2;go_roundw
     case rel=>exact⟨n+1,_,by go_num,by omega,Hrn,hid rfl⟩
     case measure=>simp[intOf];omega
    ·rw[if_neg hxy,Nat.add_zero]at hrn;have dq:((y:Int) == (z:Int))=false:=by rw[beq_eq_false_iff_ne];omega
     have Hrn:=hid (show(n:Int)=(r:Int) by rw[hrn.out]);clear hrn Dl Hr;go_wp2_with fail
     go_quiet (fail)
     go_wp2;go_ret;rw[<-Hrn.out];exact⟨rfl,_,World.drewN_drewN _ _ _⟩
   ·have dA:decide ((n:Int)<(T.length:Int)-(x:Int))=false:=decide_eq_false (by omega);have Hrn:=hid (show(n:Int)=(r:Int) by rw[hrn.out,FC T _ _ (by omega)];omega);clear hrn Dl Hr;go_wp2_with fail
    go_quiet (fail)
    go_wp2;go_ret;rw[<-Hrn.out];exact⟨rfl,_,World.drewN_drewN _ _ _⟩
 ·have hr2:r=0:=by rw[hr,Pz,if_neg (fun h2=>h ⟨h2.1,h2.2.1⟩)]
  subst hr2;have hmn:decide (min a b<0)=true:=decide_eq_true (by omega);clear hr hlt;go_enter func113,ntmps113
  go_wp2;go_ret;exact⟨rfl,0,rfl⟩
theorem Dk(b:Nat)(T:List Nat)(w:World)(hc:w.cell? ⟨b,0,none⟩=some (.string (strOf T))) :
  Calls prog 88 #[.pointer (some ⟨b,0,none⟩)] w fun e w'=>e=.returned (.int .i64 (T.length:Int))/\w'=w:=by
 have hsz:=aA T;generalize strOf T=ss at *;go_enter func88,ntmps88
 go_wp2;go_ret;exact⟨rfl,rfl⟩
theorem XE(p:Option Addr)(n:Nat)(a:Int)(w:World)(hn:n<=1000000)(hlen:Calls prog 88 #[.pointer p] w fun e w'=>e=.returned (.int .i64 (n:Int))/\w'=w) :
  Calls prog 111 #[.pointer p,.int .i64 a] w fun e w'=>e=.returned (.bool (decide (0<=a/\a+3<=n)))/\∃m,w'=w.drewN m:=by
 have Hlen:=hid hlen;clear hlen;by_cases h:0<=a
 ·by_cases h2:a+3<=n
  ·have d:decide (0<=a/\a+3<=n)=true:=decide_eq_true ⟨h,h2⟩;rw[d];clear d;have d1:decide (0<=a)=true:=decide_eq_true h;have d2:decide (a<=(n:Int)-3)=true:=decide_eq_true (by omega);go_enter func111,ntmps111
   go_wp2_with fail
   refine Hlen.out.mono ?_;rintro e w' ⟨rfl,rfl⟩;go_wp2;go_ret;exact⟨rfl,0,rfl⟩
  ·have d:decide (0<=a/\a+3<=n)=false:=decide_eq_false (fun h3=>h2 h3.2);rw[d];clear d;have d1:decide (0<=a)=true:=decide_eq_true h;have d2:decide (a<=(n:Int)-3)=false:=decide_eq_false (by omega);go_enter func111,ntmps111
   go_wp2_with fail
   refine Hlen.out.mono ?_;rintro e w' ⟨rfl,rfl⟩;go_wp2;go_ret;exact⟨rfl,0,rfl⟩
 ·have d:decide (0<=a/\a+3<=n)=false:=decide_eq_false (fun h3=>h h3.1);rw[d];clear d;have d1:decide (0<=a)=false:=decide_eq_false h;clear Hlen;go_enter func111,ntmps111
  go_wp2;go_ret;exact⟨rfl,0,rfl⟩
namespace Bm
def UJ(l:List Nat):Nat:=l.foldl (fun a c=>a*256+c) 0
theorem EY(l:List Nat)(c:Nat):UJ (l++[c])=UJ l*256+c:=by simp[UJ]
theorem Jl:∀(k:Nat) (l:List Nat),l.length=k->(∀x∈l,x<256)->UJ l<256^k
 | 0,l,hl,_=>by rw[List.eq_nil_of_length_eq_zero hl];simp[UJ]
 | k+1,l,hl,h=>by
  have hne:l≠[]:=fun e=>by rw[e]at hl;simp at hl
  have e:=List.dropLast_concat_getLast hne;have h1:=Jl k l.dropLast (by simp[hl]) (fun x hx=>h x (List.dropLast_subset _ hx));have h2:=h _ (List.getLast_mem hne);rw[<-e,EY,Nat.pow_succ];omega
end Bm
theorem ajD(x c:Nat)(hx:x<16777216)(hc:c<256):bits .or .i64 ((x:Int)*256) (c:Int)=((x*256+c:Nat):Int):=by
 have e:(x:Int)*256=((x*256:Nat):Int):=by simp
 have ho:x*256 ||| c=x*256+c:=by
  have:=xI 8 c x hc;rw[Nat.or_comm,this,Nat.add_comm]
 rw[e];show IntKind.i64.wrap (((BitVec.ofInt 64 ((x*256:Nat):Int)) ||| (BitVec.ofInt 64 (c:Int))).toNat:Int)=_;rw[BitVec.ofInt_natCast,BitVec.ofInt_natCast,BitVec.toNat_or,BitVec.toNat_ofNat,BitVec.toNat_ofNat,Nat.mod_eq_of_lt (by omega),Nat.mod_eq_of_lt (by omega),ho];exact IntWalk.i64_in _ (by omega)
theorem Bg(b n:Nat)(T:List Nat)(w:World)(hlt:∀x∈T,x<256)(hT:T.length<=2000)(hn:n+3<=T.length)(hc:w.cell? ⟨b,0,none⟩=some (.string (strOf T))) :
  Calls prog 112 #[.pointer (some ⟨b,0,none⟩),.int .i64 (n:Int)] w fun e w'=>e=.returned (.int .i64 (yV T n:Int))/\Below w.heap.size w w':=by
 obtain⟨l,hl⟩:∃l,l=Bm.three T n:=⟨_,rfl⟩;have hl3:l.length=3:=by rw[hl,Da T n hn];rfl
 have BX:∀x∈l,x<256:=by rw[hl];exact dG (iN hlt _) _
 have km:∀W:World,(Instr.slice 9 (.string (strOf T)) (some (.int .i64 (n:Int))) (some (.int .i64 ((n:Int)+3))) none).run prog W=.ok (.string (strOf l)) W:=fun W=>by
  have h:=agz T n (n+3) (by omega) hn W;rw[Int.natCast_add]at h;rw[hl];exact h
 obtain⟨w2,cap,dB,hcells,hb2⟩:=bU w l BX;have zu:=hid hcells;have Hb2:=hid hb2;have Hlt:=hid BX;have dV:Hid (yV T n=UJ l%2003):=hid (by rw[hl];rfl);have HL3:=hid hl3;rw[hl3]at dB;generalize strOf T=ss at *;clear hl hl3 BX hlt hcells hb2;obtain⟨g,hg⟩:∃g,g=w.heap.size:=⟨_,rfl⟩;rw[<-hg]at dB zu;clear hg;go_enter func112,ntmps112
 go_wp2;go_loopw [5,18] (fun tv kv wr=>∃k:Nat,k<=3/\kv=.int .i64 (k:Int)/\tv=.int .i64 (UJ (l.take k):Int)/\Hid (wr=w2)) (fun _ kv _=>3-(intOf kv).toNat)
 case atStart=>exact⟨0,by omega,rfl,rfl,hid rfl⟩
 case round=>
  obtain⟨k,hk,rfl,rfl,hw⟩:=hrel;have hwr:=hw.out;subst hwr;clear hw;by_cases hk3:k<3
  ·have hkl:k<l.length:=by rw[HL3.out];exact hk3
   have c1:=zu.out k hkl;have hs:=EY (l.take k) l[k];rw[<-List.take_succ_eq_append_getElem hkl]at hs;have hv:=Jl k (l.take k) (by rw[List.length_take];omega) (fun x hx=>Hlt.out x (List.mem_of_mem_take hx));have hv2:(256:Nat)^k<=256^2:=Nat.pow_le_pow_right (by omega) (by omega);have hx:=Hlt.out l[k] (List.getElem_mem hkl);have Hs:=hid hs;clear hs;have hv3:UJ (l.take k)<65536:=by omega
   clear hv hv2;generalize UJ (l.take k)=v at *;generalize l[k]'hkl=x at *;have ho:=ajD v x (by omega) hx;clear zu Hlt;go_wp2;go_roundw
   case rel=>exact⟨k+1,by omega,by go_num,by rw[Hs.out];simp,hid (by first | rfl | trivial)⟩
   case measure=>simp[intOf];omega
  ·obtain rfl:k=3:=by omega
   have e3:l.take 3=l:=List.take_of_length_le (by rw[HL3.out];exact Nat.le_refl _);rw[e3];have Hr2:=hid (show(yV T n:Int)=(UJ l:Int)%2003 by rw[dV.out];simp);have hv:=Jl 3 l HL3.out Hlt.out;clear dV e3;generalize UJ l=v at *;go_wp2;go_ret;rw[Hr2.out];exact⟨rfl,Hb2.out⟩
theorem Ta(k:Nat)(hk:k<256):([]:List Nat)++Bm.bytesOf k (fx 1)=[k]:=by
 rw[show fx 1=1 by decide,List.nil_append];simp[Bm.bytesOf];omega
theorem Ch(k:Nat)(s:List Nat)(w:World)(hk:k<256)(hs:s.length<=10000000) :
  Calls prog 69 #[.int .u64 (k:Int),.string (strOf s)] w fun e w'=>e=.returned (.pointer (some ⟨w.heap.size,0,none⟩))/\CW w' w.heap.size (k :: grp s.length)/\Below w.heap.size w w':=by
 have hsz:=aA s;have uY:=hid (CW.new w);have HbA:=hid ((Below.refl w.heap.size w).alloc (Nat.le_refl _) (.cells #[.pointer none,.int .i64 0] 72));have hf:=fun W b h=>oz b k 1 [] W (by omega) (by omega) (by omega) (by simp) h
 rw[Ta k hk]at hf;have Hf:=hid hf;have Hg:=hid (fun W b h=>iX b s.length [k] W (by omega) (by simp) h);clear hf;have hle:(s.length:Int)<=10000000:=by omega
 generalize strOf s=str at *;go_enter func69,ntmps69
 go_wp2_with fail
 refine(Hf.out _ _ uY.out).mono ?_;rintro e w1 ⟨rfl,hc1,hg1⟩;have Hb1:=hid (HbA.out.trans (below_grown hg1 (Nat.le_refl _) HbA.out.size));have Hg1:=hid (Hg.out w1 _ hc1);clear hc1 hg1 HbA Hf Hg;go_wp2_with fail
 refine Hg1.out.mono ?_;rintro e w2 ⟨rfl,hc2,hg2⟩;go_wp2;go_ret;exact⟨rfl,hc2,Hb1.out.trans (below_grown hg2 (Nat.le_refl _) Hb1.out.size)⟩
theorem aac(s:List Nat)(w:World)(hs:s.length<=10000000)(hlt:∀x∈s,x<256) :
  Calls prog 70 #[.string (strOf s)] w fun e w'=>e=.returned (.string (strOf (QG s)))/\Below w.heap.size w w':=by
 have H0:Calls prog 69 #[.int .u64 0,.string (strOf s)] w _:=Ch 0 s w (by decide) hs;have Hs:=hid H0;have ahp:=eZ s.length (by omega);have Hr:=hid (fun W b h=>iq b (0 :: grp s.length) s W (by rw[List.length_cons];omega) h);have Ht:=hid (fun W b h=>iU b ((0 :: grp s.length)++s) W (by rw[List.length_append,List.length_cons];omega) (AA 0 s.length s (by decide) (by omega) hlt) h);clear hlt hs ahp H0;have e0:(0 :: grp s.length)++s=QG s:=rfl;rw[e0]at Hr Ht;generalize QG s=R at *;generalize strOf R=arA at *;generalize strOf s=str at *;go_enter func70,ntmps70
 go_wp2_with fail
 refine Hs.out.mono ?_;rintro e w1 ⟨rfl,hc1,hb1⟩;have Hb1:=hid hb1;have Hr1:=hid (Hr.out w1 _ hc1);clear hc1 hb1 Hs Hr;go_wp2_with fail
 refine Hr1.out.mono ?_;rintro e w2 ⟨rfl,hc2,hg2⟩;have Hb2:=hid (Hb1.out.trans (below_grown hg2 (Nat.le_refl _) Hb1.out.size));have Ht2:=hid (Ht.out w2 _ hc2);clear hc2 hg2 Hb1 Hr1 Ht;go_wp2_with fail
 refine Ht2.out.mono ?_;rintro e w3 ⟨rfl,hb3⟩;have Hb3:=hid (Hb2.out.trans (hb3.mono Hb2.out.size));clear hb3 Hb2 Ht2;go_wp2;go_ret;exact⟨rfl,Hb3.out⟩
theorem afD(A:Option Addr)(c:Nat)(bs:List Nat)(w:World)(hl:bs.length<=1000000)(hlt:∀x∈bs,x<256)(hr:Reads w A (u8s bs)) :
  Calls prog 67 #[.slice A bs.length c] w fun e w'=>∃A' c',e=.returned (.slice A' (iH bs) c')/\(Reads w' A' (aM (aR bs))/\∀a,A'=some a->w.heap.size<=a.block)/\Below w.heap.size w w':=by
 rcases Nat.eq_zero_or_pos bs.length with h0 | h0
 ·have hb:bs=[]:=List.eq_nil_of_length_eq_zero h0;subst hb;go_enter func67,ntmps67
  go_wp2;go_ret;exact⟨none,0,rfl,⟨fun h=>absurd rfl h,fun a h=>by cases h⟩,Below.refl _ _⟩
 have hz:((bs.length:Int) == 0)=false:=by rw[beq_eq_false_iff_ne];omega
 obtain⟨i0,hi,hz0,hz1,hz2⟩:=info_parts gQ;have Hr:=hid hr;have Hlt:=hid hlt;have hT:=jW bs hlt;have hT0:=vR bs (by intro e;rw[e]at h0;simp at h0);have Hmx:=hid (LP A c bs w (by omega) h0 hlt hr);clear hr hlt;obtain⟨g0,hg0⟩:∃g,g=w.heap.size:=⟨_,rfl⟩;have Hg0:=hid hg0;obtain⟨T,hTe⟩:∃T,T=iH bs:=⟨_,rfl⟩;have HTe:=hid hTe;have adM:Hid (Calls prog 99 #[.slice A bs.length c] w fun e w'=>e=.returned (.int .u8 ((T:Int)-1))/\w=w'):=hid (by rw[hTe];exact Hmx.out);rw[<-hTe]at hT hT0 ⊢;clear hg0 hTe Hmx;go_enter func67,ntmps67
 go_wp2_with fail
 refine adM.out.mono ?_;rintro e w' ⟨rfl,rfl⟩;clear adM;have e1:((T:Int)-1)+1=(T:Int):=by omega
 go_wp2_with (at_make;refine wpList_make_full _ rfl _ _ 115 rfl w.heap.size 3 i0 (.int .i64 0) 1 underlying115 hi hz0 hz1 .i64 .i64 _ _ T rfl rfl ?c1 ?c1 ?c2 ?c3 ?c4 ?_)
 case c1=>omega
 case c2=>first | omega | (rw[hz2];omega)
 case c3=>unfold maxLen;omega
 try case c4=>exact Nat.le_refl _
 intro w1 hown1 hg1;have hb1:=aJ hg1;have hr1:=dH hown1;rw[<-Hg0.out]at hr1 ⊢;have Hb1:=hid hb1;rw[HTe.out,<-qB]at hr1;have Hr1:=hid hr1;clear hown1 hg1 hb1 hr1 hi hz0 hz1 hz2 e1 hz;go_wp2;go_loopw [16] (fun i wr=>∃k:Nat,k<=bs.length/\i=.int .i64 (k:Int)/\Hid (Row wr g0 3 (aM (bV bs k)))/\Hid (Below w.heap.size w wr)) (fun i _=>bs.length-(intOf i).toNat)
 case atStart=>exact⟨0,by omega,rfl,Hr1,Hb1⟩
 case round=>
  obtain⟨k,hk,rfl,hrow,hbel⟩:=hrel;clear Hr1 Hb1;by_cases hkl:k<bs.length
  ·have hne:bs≠[]:=by intro e;rw[e]at hkl;simp at hkl
   obtain⟨g,off,rfl,hc⟩:=gu (aC Hr.out hbel.out) hne;have c0:=hc k hkl;have hb:=Hlt.out bs[k] (List.getElem_mem hkl);have hbT:bs[k]<T:=by rw[HTe.out];exact jP bs _ (List.getElem_mem hkl)
   have hcb:(bs.take k).count bs[k]<=bs.length:=Nat.le_trans List.count_le_length (by rw[List.length_take];omega);have hcell:=hrow.out.cell bs[k];have hgt:=uJ bs k bs[k] (by rw[<-HTe.out];exact hbT);simp only[aM,List.getElem?_map,hgt,Option.map_some]at hcell;have hfree:=hrow.out.free bs[k];have Hn:=hid (qA bs k hkl);clear hc hgt;generalize (bs.take k).count bs[k]=q at hcb hcell Hn;generalize bs[k]=b at c0 hb hbT hcell hfree Hn;go_wp2;go_roundw
   case rel=>
    refine⟨k+1,by omega,by go_num,hid ?_,hid (hbel.out.setCell (by rw[Hg0.out];exact Nat.le_refl _) _)⟩;rw[Hn.out];have h1:=hrow.out.aT b (.int .i64 ((q:Int)+1));rw[show aM ((bV bs k).set b (q+1))=(aM (bV bs k)).set b (.int .i64 ((q:Int)+1)) by simp[aM,List.map_set]];exact h1
   case measure=>simp[intOf];omega
  ·obtain rfl:k=bs.length:=by omega
   rw[uI]at hrow;go_wp2;go_ret;exact⟨some ⟨g0,0,none⟩,T,rfl,⟨bP hrow.out,fun a e=>by injection e with e;rw[<-e];exact Nat.le_of_eq Hg0.out.symm⟩,hbel.out⟩
namespace Bm
theorem tT(l:List Int)(h:Right l):∃cs:List Nat,l=cs.map (fun n:Nat=>(n:Int))/\l.map Int.toNat=cs/\cs.length=l.length/\(∀x∈cs,x<=1048576)/\cs.length<=256/\za cs=kR l/\0<cs.sum:=by
 have hl:l=(l.map Int.toNat).map (fun n:Nat=>(n:Int)):=by
  rw[List.map_map];conv=>lhs;rw[<-List.map_id l]
  apply List.map_congr_left
  intro x hx;have:=h.2.1 x hx;simp only[Function.comp_apply,id];omega
 refine⟨l.map Int.toNat,hl,rfl,by simp,?_,by simpa using h.1,?_,?_⟩
 ·intro x hx;obtain⟨y,hy,rfl⟩:=List.mem_map.1 hx;have:=h.2.1 y hy;omega
 ·unfold za kR;rw[List.countP_map];apply List.countP_congr
  intro x _;simp
 ·obtain⟨x,hx,h0⟩:=h.2.2;have h1:=Ae (l.map Int.toNat) x.toNat (List.mem_map_of_mem hx);omega
theorem abD(cs:List Nat):(cs.map (fun n:Nat=>(n:Int))).sum=((cs.sum:Nat):Int):=by
 induction cs with
 | nil=>simp
 | cons a l ih=>rw[List.map_cons,List.sum_cons,ih,List.sum_cons];omega
theorem ZX(sym q:Nat):Ut sym q=if max (4*sym) q<=32 then 5 else if max (4*sym) q<=64 then 6 else if max (4*sym) q<=128 then 7 else if max (4*sym) q<=256 then 8 else 9:=by
 unfold Ut;simp only[Nat.max_le]
theorem Uu(sym q b:Nat)(h5:5<=b)(h:b<=Ut sym q):b<Ut sym q↔b<9/\2^b<max (4*sym) q:=by
 rw[ZX]at h ⊢;generalize max (4*sym) q=M at h ⊢;have h9:b<=9:=by
  by_cases h1:M<=32
  ·rw[if_pos h1]at h;omega
  rw[if_neg h1]at h;by_cases h2:M<=64
  ·rw[if_pos h2]at h;omega
  rw[if_neg h2]at h;by_cases h3:M<=128
  ·rw[if_pos h3]at h;omega
  rw[if_neg h3]at h;by_cases h4:M<=256
  ·rw[if_pos h4]at h;omega
  rw[if_neg h4]at h;omega
 have hb:b=5/\2^b=32\/b=6/\2^b=64\/b=7/\2^b=128\/b=8/\2^b=256\/b=9/\2^b=512:=by
  have hb:b=5\/b=6\/b=7\/b=8\/b=9:=by omega
  rcases hb with rfl | rfl | rfl | rfl | rfl<;>decide
 generalize 2^b=P at hb ⊢;by_cases h1:M<=32
 ·rw[if_pos h1]at h ⊢;omega
 rw[if_neg h1]at h ⊢;by_cases h2:M<=64
 ·rw[if_pos h2]at h ⊢;omega
 rw[if_neg h2]at h ⊢;by_cases h3:M<=128
 ·rw[if_pos h3]at h ⊢;omega
 rw[if_neg h3]at h ⊢;by_cases h4:M<=256
 ·rw[if_pos h4]at h ⊢;omega
 rw[if_neg h4]at h ⊢;omega
end Bm
theorem afB:aoP:=by
 intro A c l w hl hok hr;have Hri:=hid (tq A c l w (by omega) hr);by_cases h:Bm.Right l
 ·have hB:lY l=true:=decide_eq_true h;rw[hB]at Hri;obtain⟨cs,hcs,hcs2,hlen,hm,Oj,hpos,h0⟩:=tT l h;have hsum:=WM cs 1048576 hm;have Hsy:=hid (jO A c l w (by omega) hr);have hr2:Reads w A (aM cs):=by rw[<-bJ,<-hcs];exact hr
  have htt:=tu A c cs w (by omega) (by omega) hr2;rw[hlen]at htt;have Htt:=hid htt;have BZ:iQ l=Ut (kR l) (cs.sum/8):=by
   unfold iQ;rw[if_pos h];congr 2
   rw[hcs,abD,Int.toNat_natCast]
  have hsl:=CX l;rw[BZ];clear BZ htt hr2 hpos hcs2 hm hB h hr hok;generalize kR l=sy at hsl Hsy ⊢;generalize cs.sum=S at hsum Htt h0 ⊢;have hmx:max (4*(sy:Int)) ((S:Int)/8)=((max (4*sy) (S/8):Nat):Int):=by omega
  have hMb:max (4*sy) (S/8)<=1000000000:=by omega
  have Hnx:=hid (fun b h5 hb=>Uu sy (S/8) b h5 hb);have hLo:=Uv sy (S/8) (by omega);obtain⟨h5,h9,_⟩:=hLo;generalize Ut sy (S/8)=L at Hnx h5 h9 ⊢;generalize max (4*sy) (S/8)=M at hmx hMb Hnx;clear hcs;go_enter func144,ntmps144
  go_wp2_with fail
  refine Hri.out.mono ?_;rintro e w' ⟨rfl,rfl⟩;go_wp2_with fail
  refine Hsy.out.mono ?_;rintro e w' ⟨rfl,rfl⟩;go_wp2_with fail
  refine Htt.out.mono ?_;rintro e w' ⟨rfl,rfl⟩;clear Hri Hsy Htt;go_wp2;clear hmx;go_loop [4] (fun i=>∃b:Nat,5<=b/\b<=L/\i=.int .i64 (b:Int)) (fun i=>9-(intOf i).toNat)
  case atStart=>exact⟨5,by omega,by omega,rfl⟩
  case round=>
   obtain⟨b,hb5,hbL,rfl⟩:=hrel;have hnx:=Hnx.out b hb5 hbL;have hP:=Jz b (by omega) (by omega);have Hpd:Hid ((2:Int)^b=((2^b:Nat):Int)):=hid (by simp);generalize 2^b=P at hP Hpd hnx;have hw:wrap64 (P:Int)=(P:Int):=jw _ (by omega) (by omega);by_cases hlt:b<L
   ·have hn:=hnx.1 hlt;have d1:decide ((b:Int)<9)=true:=decide_eq_true (by omega);have d2:decide (P<M)=true:=decide_eq_true (by omega);have hpd:=Hpd.out;clear hnx hn;go_wp2;go_round
    case rel=>exact⟨b+1,by omega,by omega,by go_num⟩
    case measure=>simp[intOf];omega
   ·obtain rfl:b=L:=by omega
    have hn:¬(b<9/\P<M):=fun h=>hlt (hnx.2 h)
    clear hnx;by_cases h9b:b<9
    ·have d1:decide ((b:Int)<9)=true:=decide_eq_true (by omega);have d2:decide (P<M)=false:=decide_eq_false (fun h=>hn ⟨h9b,h⟩);have hpd:=Hpd.out;clear hn;go_wp2;go_ret;exact⟨rfl,Below.refl _ _⟩
    ·have d1:decide ((b:Int)<9)=false:=decide_eq_false (by omega);clear hn;go_wp2;go_ret;exact⟨rfl,Below.refl _ _⟩
 ·have hB:lY l=false:=decide_eq_false h;have hL:iQ l=0:=by unfold iQ;rw[if_neg h]
  rw[hB]at Hri;rw[hL];clear h hB hL;go_enter func144,ntmps144
  go_wp2_with fail
  refine Hri.out.mono ?_;rintro e w' ⟨rfl,rfl⟩;go_wp2;go_ret;exact⟨rfl,Below.refl _ _⟩
namespace Bm
theorem SA(size k:Nat)(p:List Nat)(hp:za p<=size)(hs:p.sum=size+(k+1)) :
  aH p<p.length/\2<=sj p/\(p.modify (aH p) (·-1)).sum=size+k/\za (p.modify (aH p) (·-1))<=size:=by
 have hne:p≠[]:=by rintro rfl;simp at hs
 have hlt:=je p hne;have hget:=iD p hlt;have h2:2<=sj p:=by
  rcases Nat.lt_or_ge (sj p) 2 with h1 | h1
  ·have:=yw p (fun x hx=>by have:=Cn p x hx;omega);omega
  ·exact h1
 have hsum:=ug p (aH p) (·-1) hlt;rw[hget]at hsum;have hsame:fD (p.modify (aH p) (·-1)) p:=by
  refine⟨by simp,fun i=>?_⟩;rw[get_modify];split
  ·next e=>
   subst e;rw[List.getElem?_eq_getElem hlt,hget];simp;omega
  ·exact Iff.rfl
 exact⟨hlt,h2,by omega,by rw[hsame.za];exact hp⟩
theorem Ag(p:List Nat)(k:Nat)(f:Nat->Nat)(h:k<p.length):p.modify k f=p.set k (f p[k]):=by
 apply List.ext_getElem?
 intro i;rw[get_modify,List.getElem?_set];split
 ·next e=>subst e;simp[h]
 ·rfl
theorem yc(l:List Int)(log:Int)(h:¬iY l log):jo l log=[]:=by unfold jo;rw[if_neg h]
end Bm
theorem EG(l:List Nat)(i b:Nat):(aM l).set i (.int .i64 (b:Int))=aM (l.set i b):=by simp[aM,List.map_set]
theorem UH:ahv:=by
 intro A c l log w hl hok BZ hr;have Hri:=hid (tq A c l w (by omega) hr);have Hsz:=hid (Ah log w);by_cases h:Bm.Right l
 case neg=>
  have hB:lY l=false:=decide_eq_false h;have hno:¬iY l log:=fun h1=>h h1.1
  rw[hB]at Hri;rw[yc l log hno,decide_eq_false hno];clear h hB hno Hsz;go_enter func145,ntmps145
  go_wp2_with fail
  refine Hri.out.mono ?_;rintro e w' ⟨rfl,rfl⟩;go_wp2;go_ret2;exact⟨none,0,rfl,fun h=>absurd rfl h,Below.refl _ _⟩
 have hB:lY l=true:=decide_eq_true h;rw[hB]at Hri;by_cases hs:Bm.sizedB log=true
 case neg=>
  have hs0:Bm.sizedB log=false:=by simpa using hs
  have hno:¬iY l log:=fun h1=>hs (decide_eq_true ⟨h1.2.1,h1.2.2.1⟩)
  rw[hs0]at Hsz;rw[yc l log hno,decide_eq_false hno];clear h hB hno hs hs0;go_enter func145,ntmps145
  go_wp2_with fail
  refine Hri.out.mono ?_;rintro e w' ⟨rfl,rfl⟩;go_wp2_with fail
  refine Hsz.out.mono ?_;rintro e w' ⟨rfl,rfl⟩;go_wp2;go_ret2;exact⟨none,0,rfl,fun h=>absurd rfl h,Below.refl _ _⟩
 obtain⟨h5,h9⟩:5<=log/\log<=9:=of_decide_eq_true hs;rw[hs]at Hsz;have Hsy:=hid (jO A c l w (by omega) hr);obtain⟨b,rfl⟩:=Int.eq_ofNat_of_zero_le (show 0<=log by omega);have hP:=Jz b (by omega) (by omega);have hsO:iY l (b:Int)↔kR l<=2^b:=⟨fun h1=>by have:=h1.2.2.2;rwa [Int.toNat_natCast]at this,fun h1=>⟨h,h5,h9,by rwa [Int.toNat_natCast]⟩⟩;have hsA:iY l (b:Int)->jo l (b:Int)=(rA (l.map Int.toNat) (2^b)).map (fun n:Nat=>(n:Int)):=fun h1=>by unfold jo;rw[if_pos h1,Int.toNat_natCast]
 have Hpd:Hid ((2:Int)^b=((2^b:Nat):Int)):=hid (by simp);generalize 2^b=P at hP hsO hsA Hpd;have hw:wrap64 (P:Int)=(P:Int):=jw _ (by omega) (by omega);have hsl:=CX l;have BX:=h.1;by_cases hle:kR l<=P
 case neg=>
  have hno:¬iY l (b:Int):=fun h1=>hle (hsO.1 h1)
  rw[yc l _ hno,decide_eq_false hno];have hd:decide (P<kR l)=true:=decide_eq_true (by omega);have hpd:=Hpd.out;clear h hB hno hs hsO hsA;generalize kR l=sy at hd hsl Hsy hle;go_enter func145,ntmps145
  go_wp2_with fail
  refine Hri.out.mono ?_;rintro e w' ⟨rfl,rfl⟩;go_wp2_with fail
  refine Hsz.out.mono ?_;rintro e w' ⟨rfl,rfl⟩;go_wp2_with fail
  refine Hsy.out.mono ?_;rintro e w' ⟨rfl,rfl⟩;go_wp2;go_ret2;exact⟨none,0,rfl,fun h=>absurd rfl h,Below.refl _ _⟩
 have hyes:=hsO.2 hle;rw[hsA hyes,decide_eq_true hyes,bJ];obtain⟨cs,hcs,hcs2,hlen,hm,Oj,hpos,h0⟩:=tT l h;rw[hcs2];have hr2:Reads w A (aM cs):=by rw[<-bJ,<-hcs];exact hr
 have Hr2:=hid hr2;have Rb:Hid (Calls prog 175 #[.slice A l.length c,.int .i64 (P:Int)] w fun e w'=>∃g,e=.returned (.slice (some ⟨g,0,none⟩) l.length l.length)/\w.heap.size<=g/\Row w' g 3 (aM (Bm.parts cs P))/\Below w.heap.size w w'):=hid (by
  have h1:=OO A c cs P w Oj hm (by omega) hr2;rw[hlen]at h1;exact h1)
 have Hgr:Hid (∀W,Below w.heap.size w W->Calls prog 176 #[.slice A l.length c] W fun e w'=>e=.returned (.int .i64 (aH cs:Int))/\W=w'):=hid (fun W hb=>by
  have h1:=qN A c cs W (by omega) (fun x hx=>by have:=hm x hx;omega) (aC hr2 hb);rw[hlen]at h1;exact h1)
 have hspec:=tY cs P h0 (by rw[hpos];exact hle);have Om:(Bm.parts cs P).length=l.length:=by simp[Bm.parts,hlen]
 have acV:=Ao cs P;have ajn:Bm.za (Bm.parts cs P)<=P:=by rw[acV.za,hpos];exact hle
 have hpb:∀x∈Bm.parts cs P,x<=1000000000:=fun x hx=>by
  unfold Bm.parts at hx;obtain⟨y,hy,rfl⟩:=List.mem_map.1 hx;have h1:=hm y hy;unfold pQ;split
  ·omega
  ·have h2:y*P/cs.sum<=y*P:=Nat.div_le_self _ _;have h3:y*P<=1048576*512:=Nat.mul_le_mul h1 hP.2;omega
 have aeX:=WM (Bm.parts cs P) 1000000000 hpb;rw[Om]at aeX;have hfl:aH cs<l.length:=by rw[<-hlen];exact je cs (by rintro rfl;simp at h0)
 have hsh:rA cs P=if (Bm.parts cs P).sum<P then(Bm.parts cs P).modify (aH cs) (·+(P-(Bm.parts cs P).sum))else Bm.decs ((Bm.parts cs P).sum-P) (Bm.parts cs P):=rfl
 have aeJ:(rA cs P).length=l.length:=by rw[hspec.2.1,hlen]
 rw[List.length_map,aeJ];have Yi:Hid (∀W B d,Reads W B (aM (Bm.parts cs P))->Calls prog 173 #[.slice B l.length d] W fun e w'=>e=.returned (.int .i64 ((Bm.parts cs P).sum:Int))/\W=w'):=hid (fun W B d h1=>by
  have h2:=tu B d (Bm.parts cs P) W (by rw[Om];omega) (by omega) h1;rw[Om]at h2;exact h2)
 generalize rA cs P=R at hsh aeJ ⊢;generalize Bm.parts cs P=p0 at Om ajn hpb aeX hsh Yi Rb;have HR:=hid hsh;have Hpb:=hid hpb;have ahY:=hid Om;obtain⟨S0,hS0⟩:∃S,S=p0.sum:=⟨_,rfl⟩;have Hps:=hid hS0;rw[<-hS0]at aeX HR Yi;clear hS0;clear hsh hpb Om hspec acV hpos hm hcs2 hr2 hcs hsO hsA hyes hB hs h hr hok BZ hlen Oj aeJ h0;generalize kR l=sy at hle Hsy hsl;generalize aH cs=f at Hgr hfl HR;have hd:decide (P<sy)=false:=decide_eq_false (by omega);have hpd:=Hpd.out;clear Hr2;clear cs;generalize l.length=n at *;clear l;go_enter func145,ntmps145
 go_wp2_with fail
 refine Hri.out.mono ?_;rintro e w' ⟨rfl,rfl⟩;go_wp2_with fail
 refine Hsz.out.mono ?_;rintro e w' ⟨rfl,rfl⟩;go_wp2_with fail
 refine Hsy.out.mono ?_;rintro e w' ⟨rfl,rfl⟩;go_wp2_with fail
 refine Rb.out.mono ?_;rintro e w1 ⟨g,rfl,hg,hrow,hb1⟩;have gF:=hid hrow;have Hb1:=hid hb1;clear hrow hb1 Hri Hsz Hsy Rb hd hpd hw;go_wp2_with fail
 refine(Yi.out w1 _ _ (bP gF.out)).mono ?_;rintro e w' ⟨rfl,rfl⟩;clear Yi;by_cases hlt:S0<P
 ·have hd1:decide ((0:Int)<(P:Int)-(S0:Int))=true:=decide_eq_true (by omega);go_wp2_with fail
  refine(Hgr.out w1 Hb1.out).mono ?_;rintro e w' ⟨rfl,rfl⟩;clear Hgr;rw[if_pos hlt]at HR;have hfp:f<p0.length:=by rw[ahY.out];exact hfl
  have hc0:=gF.out.cell f;rw[bK p0 f hfp]at hc0;have hf0:=gF.out.free f;have hx:=Hpb.out p0[f] (List.getElem_mem hfp);have HR2:Hid (R=p0.set f (p0[f]+(P-S0))):=hid (by rw[HR.out,Ag p0 f _ hfp]);clear HR;generalize p0[f]=x at hc0 hx HR2;have hxs:(x:Int)+((P:Int)-(S0:Int))=((x+(P-S0):Nat):Int):=by omega
  have Hxs:=hid hxs;clear hxs hfp;go_wp2;go_loop [8] (fun m=>m=.int .i64 ((P:Int)-(S0:Int))) (fun _=>0)
  case atStart=>rfl
  case round=>
   subst hrel;have hd2:decide ((P:Int)-(S0:Int)<0)=false:=decide_eq_false (by omega);go_wp2;go_ret2;refine⟨some ⟨g,0,none⟩,⟨n,rfl⟩,?_,Hb1.out.setCell (p:=⟨g,f,none⟩) hg _⟩;rw[HR2.out,<-EG];have h1:=gF.out.aT f (.int .i64 ((x:Int)+((P:Int)-(S0:Int))));rw[Hxs.out]at h1 ⊢;exact bP h1
 ·have hd1:decide ((0:Int)<(P:Int)-(S0:Int))=false:=decide_eq_false (by omega);rw[if_neg hlt]at HR;go_wp2;clear hd1;go_loopw [8] (fun m wr=>∃(j:Nat) (p:List Nat),m=.int .i64 (-(j:Int))/\j<=1000000000000/\Hid (R=Bm.decs j p)/\Hid (p.length=n)/\Hid (Bm.za p<=P/\p.sum=P+j)/\Hid (∀x∈p,x<=1000000000)/\Hid (Row wr g 3 (aM p))/\Hid (Below w.heap.size w wr)) (fun m _=>(-(intOf m)).toNat)
  case atStart=>exact⟨S0-P,p0,by go_num,by omega,HR,ahY,hid ⟨ajn,by have:=Hps.out;omega⟩,Hpb,gF,Hb1⟩
  case round=>
   obtain⟨j,p,rfl,hj,HRj,Hpl,Hpp,Hpx,Hr,jB⟩:=hrel;rcases j with _ | j
   ·go_wp2;go_ret2;refine⟨some ⟨g,0,none⟩,n,rfl,?_,jB.out⟩;rw[HRj.out];exact bP Hr.out
   ·obtain⟨acT,h2,hsm,hps⟩:=SA P j p Hpp.out.1 Hpp.out.2;have hg1:=iD p acT;have hpn:=Hpl.out;have Hgp:Hid (Calls prog 176 #[.slice (some ⟨g,0,none⟩) n n] wr fun e w'=>e=.returned (.int .i64 (aH p:Int))/\wr=w'):=hid (by
     have h1:=qN (some ⟨g,0,none⟩) n p wr (by omega) (fun x hx=>by have:=Hpx.out x hx;omega) (bP Hr.out);rw[hpn]at h1;exact h1)
    have hc0:=Hr.out.cell (aH p);rw[bK p _ acT,hg1]at hc0;have hf0:=Hr.out.free (aH p);have hmx:=Hpx.out _ (Co p (by rintro rfl;simp at acT));have amN:Hid (p.modify (aH p) (·-1)=p.set (aH p) (sj p-1)):=hid (by rw[Ag p _ _ acT,hg1]);have Hd:Hid (R=Bm.decs j (p.modify (aH p) (·-1))):=HRj;have Hsm:Hid (Bm.za (p.modify (aH p) (·-1))<=P/\(p.modify (aH p) (·-1)).sum=P+j):=hid ⟨hps,hsm⟩;rw[amN.out]at Hd Hsm;clear HRj hg1 hsm hps amN Hpp;have aqY:aH p<n:=by omega
    generalize aH p=q at *;generalize sj p=y at *;have hn0:decide (-((j:Int)+1)<0)=true:=decide_eq_true (by omega);clear hpn;go_wp2_with fail
    refine Hgp.out.mono ?_;rintro e w' ⟨rfl,rfl⟩;go_wp2;go_roundw
    case rel=>
     refine⟨j,p.set q (y-1),by go_num,by omega,Hd,hid (by rw[List.length_set,Hpl.out]),Hsm,hid ?_,hid ?_,hid (jB.out.setCell (by exact hg) _)⟩
     ·intro x hx;rcases List.mem_or_eq_of_mem_set hx with h1 | h1
      ·exact Hpx.out x h1
      ·omega
     ·have h1:=Hr.out.aT q (.int .i64 ((y:Int)-1));rw[show((y:Int)-1)=((y-1:Nat):Int) by omega,EG]at h1;rw[show((y:Int)-1)=((y-1:Nat):Int) by omega];exact h1
    case measure=>simp[intOf];omega
end Go.Proofs.YtaebnkeddcbmkaaGreat
