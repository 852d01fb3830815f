/- Contracts, and what they rest on. Conditions: the theorems' premises. -/
import Derived.Test.YtgiicohbigiapaaGreatRas
import Derived.Test.YtgiicohbigiapaaGreatRae
set_option maxHeartbeats 4000000
set_option maxRecDepth 100000
open Go.Lib(hid)
open Go.Proofs.Tryz Go.Proofs.YtgiicohbigiapaaGreat.Bm
namespace Go.Proofs.YtgiicohbigiapaaGreat
open Go.RowKit
def hcells(k e n s:Nat):List Value:=[.int .u64 (k:Int),.int .i64 (e:Int),.int .i64 (n:Int),.int .u64 (s:Int)]
def ZV(w':World)(b:Nat)(bs:List Nat)(e:Ending):Option Bm.HB→Prop
 | none=>e=.returned (.tuple #[.agg (hcells 0 0 0 0).toArray,.int .i64 3])
 | some h=>e=.returned (.tuple #[.agg (hcells h.1 h.2.1 h.2.2.1 h.2.2.2.1).toArray,.int .i64 0])∧CR w' b (some (bs.drop h.2.2.2.2))
theorem Qd(bs:List Nat)(hlt:∀x∈bs,x<256)(k e n s:Nat)(s1 s2 s3 s4:Left)(h1:gW (fx 1) (some bs)=([k],s1)∨(gW (fx 1) (some bs)=([],s1)∧k=0))(h2:yh 1073741824 s1=(e,s2))(h3:yh 1099511627776 s2=(n,s3))(h4:aS (gW (fx 8) s3).1=s)(h5:(gW (fx 8) s3).2=s4) :
  ((s4=none∨3≤k)∧gy bs=none)∨(∃at_,s4=some (bs.drop at_)∧k<3∧gy bs=some (k,e,n,s,at_)):=by
 have hn:∀m,yh m none=(0,none):=fun m=>by unfold yh;rw[if_pos (.inl rfl)]
 have hr:gW (fx 8) none=([],none):=rfl;cases bs with
 | nil=>
  refine .inl ⟨.inl ?_,rfl⟩;have h0:gW (fx 1) (some [])=([],none):=rfl;rw[h0]at h1;have e1:s1=none:=by rcases h1 with h1 | ⟨h1,_⟩<;>(injection h1 with _ h1;exact h1.symm)
  rw[e1,hn]at h2;injection h2 with _ h2
  rw[←h2,hn]at h3;injection h3 with _ h3
  rw[←h5,←h3,hr]
 | cons x r=>
  rw[uH]at h1;obtain⟨rfl,rfl⟩:x=k∧s1=some r:=by
   rcases h1 with h1 | ⟨h1,_⟩
   ·injection h1 with h0 h1;injection h0 with h0;exact⟨h0,h1.symm⟩
   ·injection h1 with h0 h1;cases h0
  unfold gy;dsimp only;by_cases c4:2<x
  ·rw[if_pos c4];exact .inl ⟨.inr c4,rfl⟩
  rw[if_neg c4];unfold uh;by_cases c1:0<(aj r).2∧(aj r).1≤1073741824
  ·rw[if_pos c1];rw[mI _ _ c1.1 (by omega)]at h2;injection h2 with h2a h2b
   by_cases c2:0<(aj (r.drop (aj r).2)).2∧(aj (r.drop (aj r).2)).1≤1099511627776
   ·rw[←h2b,mI _ _ c2.1 (by omega)]at h3;injection h3 with h3a h3b
    have l1:=(dW r _ _ c1.1 rfl).2.2;have l2:=(dW (r.drop (aj r).2) _ _ c2.1 rfl).2.2;rw[List.length_drop]at l2;rw[List.drop_drop]at h3b;by_cases c3:(aj r).2+(aj (r.drop (aj r).2)).2+8≤r.length
    ·have e8:fx 8=8:=by decide
     rw[←h3b,e8,wP 8 _ (by rw[List.length_drop];omega)]at h4 h5;rw[if_pos ⟨c2.1,c2.2,c3⟩,Option.map_some];dsimp only at h4 h5 ⊢;rw[h2a,h3a,h4];refine .inr ⟨_,?_,by omega,rfl⟩;rw[←h5,List.drop_drop,Nat.add_comm 1,List.drop_succ_cons]
    ·refine .inl ⟨.inl ?_,?_⟩
     ·have e8:fx 8=8:=by decide
      rw[←h3b,e8,DJ 8 _ (by rw[List.length_drop];omega)]at h5;exact h5.symm
     ·rw[if_neg (fun c=>c3 c.2.2),Option.map_none]
   ·refine .inl ⟨.inl ?_,?_⟩
    ·rw[←h2b,yY _ _ (fun c=>c2 ⟨c.1,by omega⟩)]at h3;injection h3 with _ h3
     rw[←h5,←h3,hr]
    ·rw[if_neg (fun c=>c2 ⟨c.1,c.2.1⟩),Option.map_none]
  ·refine .inl ⟨.inl ?_,?_⟩
   ·rw[yY _ _ (fun c=>c1 ⟨c.1,by omega⟩)]at h2;injection h2 with _ h2
    rw[←h2,hn]at h3;injection h3 with _ h3
    rw[←h5,←h3,hr]
   ·rw[if_neg c1,Option.map_none]
structure HS(w w1:World)(b:Nat)(cs:List Value):Prop where
 lt:b<w.heap.size
 ra:Row w1 w.heap.size 49 (hcells 0 0 0 0)
 rb:Row w1 (w.heap.size+1) 49 cs
 gr:w.grownBy w1 (some b)
theorem mF{w w':World}{row:Option Nat}(h:w.grownBy w' row)(p:Addr)(u:Value)(hp:w.heap.size≤p.block):w.grownBy (w'.setCell p u) row:=
 ⟨h.os,h.tape,h.output,by simpa [World.setCell]using h.size,fun i hi hne=>(Below.heap_setCell w' p u i (fun e=>by omega)).trans (h.block i hi hne)⟩
theorem HS.call{w w1 w2:World}{b:Nat}{cs:List Value}(h:HS w w1 b cs)(hg:w1.grownBy w2 (some b)):HS w w2 b cs:=by
 have:=h.lt;exact⟨h.lt,h.ra.keep (hg.block _ h.ra.lt (by simp;omega)),h.rb.keep (hg.block _ h.rb.lt (by simp;omega)),aA h.gr hg⟩
theorem HS.set{w w1:World}{b:Nat}{cs:List Value}(h:HS w w1 b cs)(i:Nat)(u:Value):HS w (w1.setCell ⟨w.heap.size+1,i,none⟩ u) b (cs.set i u):=
 ⟨h.lt,h.ra.far (by simp) u,h.rb.aW i u,mF h.gr _ u (by simp)⟩
theorem HS.cr{w w1:World}{b:Nat}{cs:List Value}{st:Left}(h:HS w w1 b cs)(hc:CR w1 b st)(i:Nat)(u:Value):CR (w1.setCell ⟨w.heap.size+1,i,none⟩ u) b st:=by
 have:=h.lt;exact hc.keep (row:=some (w.heap.size+1)) ⟨rfl,rfl,rfl,by simp[World.setCell],fun i hi hne=>Below.heap_setCell w1 _ u i (fun e=>hne (by rw[e]))⟩ (by simp;omega)
theorem HS.start(w:World)(b:Nat)(hb:b<w.heap.size):HS w ((w.alloc (.cells (hcells 0 0 0 0).toArray 49)).alloc (.cells (hcells 0 0 0 0).toArray 49)) b (hcells 0 0 0 0):=by
 have hrb:=Row.new (w.alloc (.cells (hcells 0 0 0 0).toArray 49)) 49 (hcells 0 0 0 0);rw[show(w.alloc (.cells (hcells 0 0 0 0).toArray 49)).heap.size=w.heap.size+1 by simp]at hrb;exact⟨hb,(Row.new w 49 (hcells 0 0 0 0)).alloc _,hrb,aD (aD (au w _) _) _⟩
theorem oC(b:Nat)(bs:List Nat)(w:World)(hl:bs.length≤100000000)(hlt:∀x∈bs,x<256)(h:CR w b (some bs)) :
  Calls prog 19 #[.pointer (some ⟨b,0,none⟩)] w fun e w'=>ZV w' b bs e (gy bs)∧w.grownBy w' (some b):=by
 have hok0:OkL (some bs):=⟨hlt,hl⟩;have hf1:=fun W (hc:CR W b (some bs))=>kE b (some bs) 1 W (by omega) (by omega) hok0 hc
 obtain⟨⟨r1,s1⟩,e1⟩:∃z,z=gW (fx 1) (some bs):=⟨_,rfl⟩;have hok1:OkL s1:=by have:=(Zz (n:=fx 1) hok0).1;rw[←e1]at this;exact this
 obtain⟨⟨e,s2⟩,e2⟩:∃z,z=yh 1073741824 s1:=⟨_,rfl⟩;have hok2:OkL s2∧(e:Int)≤1073741824:=by
  have:=(ok_int (most:=1073741824) hok1 (by omega)).1;rw[←e2]at this;refine⟨this,?_⟩;unfold yh at e2;split at e2
  ·injection e2 with e2 _;omega
  ·next c=>
   have:e=(eZ s1).1:=by rw[←e2]
   omega
 obtain⟨⟨n,s3⟩,e3⟩:∃z,z=yh 1099511627776 s2:=⟨_,rfl⟩;have ajL:OkL s3∧(n:Int)≤1099511627776:=by
  have:=(ok_int (most:=1099511627776) hok2.1 (by omega)).1;rw[←e3]at this;refine⟨this,?_⟩;unfold yh at e3;split at e3
  ·injection e3 with e3 _;omega
  ·next c=>
   have:n=(eZ s2).1:=by rw[←e3]
   omega
 obtain⟨k,hk⟩:∃k,k=aS r1:=⟨_,rfl⟩;have hk1:(gW (fx 1) (some bs)=([k],s1)∨(gW (fx 1) (some bs)=([],s1)∧k=0)):=by
  cases bs with
  | nil=>right;injection e1 with e1 e1';subst e1;exact⟨by rw[e1'];rfl,hk⟩
  | cons x r=>
   left
   rw[uH]at e1 ⊢;injection e1 with e1 e1'
   subst e1;rw[e1',hk];simp[aS]
 have hcase:=Qd bs hlt k e n _ s1 s2 s3 _ hk1 e2.symm e3.symm rfl rfl;have H1:=hf1;have H2:=hid (fun W (hc:CR W b s1)=>nH b s1 1073741824 W (by omega) (by omega) hok1 hc);have H3:=hid (fun W (hc:CR W b s2)=>nH b s2 1099511627776 W (by omega) (by omega) hok2.1 hc);have H4:=hid (fun W (hc:CR W b s3)=>kE b s3 8 W (by omega) (by omega) ajL.1 hc);rw[←e1]at H1;rw[←e2]at H2;rw[←e3]at H3;dsimp only at H1 H2 H3;rw[←hk]at H1;have H1:=hid H1;obtain⟨s,hs⟩:∃s,s=aS (gW (fx 8) s3).1:=⟨_,rfl⟩;obtain⟨s4,hs4⟩:∃s,s=(gW (fx 8) s3).2:=⟨_,rfl⟩;rw[←hs,←hs4]at H4 hcase;have ZU:=hid hcase;have H5:=hid (fun W (hc:CR W b s4)=>aK b s4 W hc);clear hf1 hok0 hok1 hok2 ajL e1 e2 e3 hk hk1 hs hs4 hcase;have Hst:=hid (HS.start w b h.lt);have Hc0:=hid (((h.below ((Below.refl w.heap.size w).alloc (Nat.le_refl _) (.cells (hcells 0 0 0 0).toArray 49))).below ((Below.refl _ _).alloc (Nat.le_refl _) (.cells (hcells 0 0 0 0).toArray 49))));clear h hlt;go_enter func19,ntmps19
 go_wp2_with fail
 refine(H1.out _ Hc0.out).mono ?_;rintro e1 w1 ⟨rfl,hc1,hg1⟩;have Hs1:=hid (Hst.out.call hg1);have Hc1:=hid hc1;have f0:=Hs1.out.rb.free 0;have g0:w1.cell? ⟨w.heap.size+1,0,none⟩=some (.int .u64 0):=Hs1.out.rb.cell 0;clear Hst Hc0 hc1 hg1 H1;go_wp2_with fail
 clear f0 g0;refine(H2.out _ (Hs1.out.cr Hc1.out 0 (.int .u64 (k:Int)))).mono ?_;rintro e1 w2 ⟨rfl,hc2,hg2⟩;have Hs2:=hid ((Hs1.out.set 0 (.int .u64 (k:Int))).call hg2);have Hc2:=hid hc2;have f1:=Hs2.out.rb.free 1;have g1:w2.cell? ⟨w.heap.size+1,1,none⟩=some (.int .i64 0):=Hs2.out.rb.cell 1;clear Hs1 Hc1 hc2 hg2 H2;go_wp2_with fail
 clear f1 g1;refine(H3.out _ (Hs2.out.cr Hc2.out 1 (.int .i64 (e:Int)))).mono ?_;rintro e1 w3 ⟨rfl,hc3,hg3⟩;have Hs3:=hid ((Hs2.out.set 1 (.int .i64 (e:Int))).call hg3);have Hc3:=hid hc3;have f2:=Hs3.out.rb.free 2;have g2:w3.cell? ⟨w.heap.size+1,2,none⟩=some (.int .i64 0):=Hs3.out.rb.cell 2;clear Hs2 Hc2 hc3 hg3 H3;go_wp2_with fail
 clear f2 g2;refine(H4.out _ (Hs3.out.cr Hc3.out 2 (.int .i64 (n:Int)))).mono ?_;rintro e1 w4 ⟨rfl,hc4,hg4⟩;have Hs4:=hid ((Hs3.out.set 2 (.int .i64 (n:Int))).call hg4);have Hc4:=hid hc4;have f3:=Hs4.out.rb.free 3;have g3:w4.cell? ⟨w.heap.size+1,3,none⟩=some (.int .u64 0):=Hs4.out.rb.cell 3;clear Hs3 Hc3 hc4 hg4 H4;go_wp2_with fail
 clear f3 g3;have hb5:=H5.out _ (Hs4.out.cr Hc4.out 3 (.int .u64 (s:Int)));have Hs5:=hid (show HS w (w4.setCell ⟨w.heap.size+1,3,none⟩ (.int .u64 (s:Int))) b (hcells k e n s)from Hs4.out.set 3 (.int .u64 (s:Int)));have Hc5:=hid (Hs4.out.cr Hc4.out 3 (.int .u64 (s:Int)));clear Hs4 Hc4 H5;refine hb5.mono ?_;rintro e1 w5 ⟨rfl,rfl⟩;clear hb5;generalize w4.setCell ⟨w.heap.size+1,3,none⟩ (.int .u64 (s:Int))=w5 at *;have hrb:=Hs5.out.rb;have hra:=Hs5.out.ra;have c0:=hrb.cell 0;have c1:=hrb.cell 1;have c2:=hrb.cell 2;have c3:=hrb.cell 3;have d0:w5.cell? ⟨w.heap.size,0,none⟩=some (.int .u64 0):=hra.cell 0;have d1:w5.cell? ⟨w.heap.size,1,none⟩=some (.int .i64 0):=hra.cell 1;have d2:w5.cell? ⟨w.heap.size,2,none⟩=some (.int .i64 0):=hra.cell 2;have d3:w5.cell? ⟨w.heap.size,3,none⟩=some (.int .u64 0):=hra.cell 3;have f0:=hra.free 0;have f1:=hra.free 1;have f2:=hra.free 2;have f3:=hra.free 3;simp only[hcells,List.getElem?_cons_zero,List.getElem?_cons_succ]at c0 c1 c2 c3;have hgA:∀u0 u1 u2 u3,w.grownBy ((((w5.setCell ⟨w.heap.size,0,none⟩ u0).setCell ⟨w.heap.size,1,none⟩ u1).setCell ⟨w.heap.size,2,none⟩ u2).setCell ⟨w.heap.size,3,none⟩ u3) (some b):=fun u0 u1 u2 u3=>
  mF (mF (mF (mF Hs5.out.gr _ u0 (Nat.le_refl _)) _ u1 (Nat.le_refl _)) _ u2 (Nat.le_refl _)) _ u3 (Nat.le_refl _)
 have HgA:=hid hgA;have hcs:∀u0 u1 u2 u3:Value,(w5.setCell ⟨w.heap.size,0,none⟩ u0).cell? ⟨w.heap.size,0,none⟩=some u0∧((w5.setCell ⟨w.heap.size,0,none⟩ u0).setCell ⟨w.heap.size,1,none⟩ u1).cell? ⟨w.heap.size,1,none⟩=some u1 ∧
   (((w5.setCell ⟨w.heap.size,0,none⟩ u0).setCell ⟨w.heap.size,1,none⟩ u1).setCell ⟨w.heap.size,2,none⟩ u2).cell? ⟨w.heap.size,2,none⟩=some u2 ∧
   ((((w5.setCell ⟨w.heap.size,0,none⟩ u0).setCell ⟨w.heap.size,1,none⟩ u1).setCell ⟨w.heap.size,2,none⟩ u2).setCell ⟨w.heap.size,3,none⟩ u3).cell? ⟨w.heap.size,3,none⟩=some u3:=fun u0 u1 u2 u3=>
  ⟨(hra.aW 0 u0).cell 0,((hra.aW 0 u0).aW 1 u1).cell 1,(((hra.aW 0 u0).aW 1 u1).aW 2 u2).cell 2,((((hra.aW 0 u0).aW 1 u1).aW 2 u2).aW 3 u3).cell 3⟩
 have Hcs:=hid hcs;have ajr:∀u0 u1 u2 u3,CR ((((w5.setCell ⟨w.heap.size,0,none⟩ u0).setCell ⟨w.heap.size,1,none⟩ u1).setCell ⟨w.heap.size,2,none⟩ u2).setCell ⟨w.heap.size,3,none⟩ u3) b s4:=fun u0 u1 u2 u3=>by
  have hlt:=Hs5.out.lt;exact Hc5.out.keep (row:=some w.heap.size) (aH (aH (aH (aH (au w5 _) 0 u0) 1 u1) 2 u2) 3 u3) (by simp;omega)
 have agH:=hid ajr;clear hcs hgA ajr Hs5 Hc5 hrb hra;rcases ZU.out with⟨hbad,hnone⟩ | ⟨at_,hs4,hk3,hsome⟩
 ·have hend:∀(W:World),ZV W b bs (.returned (.tuple #[.agg (hcells 0 0 0 0).toArray,.int .i64 3])) (gy bs):=fun W=>by rw[hnone];exact rfl
  have gV:=hid hend;obtain⟨s0,s1',s2',s3'⟩:=Hcs.out (.int .u64 0) (.int .i64 0) (.int .i64 0) (.int .u64 0);have hg:=HgA.out (.int .u64 0) (.int .i64 0) (.int .i64 0) (.int .u64 0);clear Hcs HgA agH hend hnone ZU;cases s4 with
  | none=>
   go_wp2;exact bodyPost_ret (v:=.tuple #[.agg (hcells 0 0 0 0).toArray,.int .i64 3]) (by simp[results,results19,go_sem,hcells,s0,s1',s2',s3']) rfl ⟨gV.out _,hg⟩
  | some z=>
   have hb3:3≤k:=by rcases hbad with hbad | hbad;cases hbad;exact hbad
   have d5:decide ((3:Int)≤(k:Int))=true:=decide_eq_true (by omega);go_wp2;exact bodyPost_ret (v:=.tuple #[.agg (hcells 0 0 0 0).toArray,.int .i64 3]) (by simp[results,results19,go_sem,hcells,s0,s1',s2',s3']) rfl ⟨gV.out _,hg⟩
 ·subst hs4;have hend:∀(W:World),CR W b (some (bs.drop at_))→ZV W b bs (.returned (.tuple #[.agg (hcells k e n s).toArray,.int .i64 0])) (gy bs):=fun W hc=>by rw[hsome];exact⟨rfl,hc⟩
  have gV:=hid hend;obtain⟨s0,s1',s2',s3'⟩:=Hcs.out (.int .u64 (k:Int)) (.int .i64 (e:Int)) (.int .i64 (n:Int)) (.int .u64 (s:Int));have hg:=HgA.out (.int .u64 (k:Int)) (.int .i64 (e:Int)) (.int .i64 (n:Int)) (.int .u64 (s:Int));have hcr:=agH.out (.int .u64 (k:Int)) (.int .i64 (e:Int)) (.int .i64 (n:Int)) (.int .u64 (s:Int));have d5:decide ((3:Int)≤(k:Int))=false:=decide_eq_false (by omega);clear Hcs HgA agH hend hsome ZU;go_wp2;exact bodyPost_ret (v:=.tuple #[.agg (hcells k e n s).toArray,.int .i64 0]) (by simp[results,results19,go_sem,hcells,s0,s1',s2',s3']) rfl ⟨gV.out _ hcr,hg⟩
theorem KC(bs:List Nat)(w:World)(hl:bs.length≤100000000)(hlt:∀x∈bs,x<256) :
  Calls prog 13 #[.string (strOf bs)] w fun e w'=>e=.returned (match gy bs with
   | none=>.tuple #[.int .i64 0,.int .i64 3]
   | some h=>.tuple #[.int .i64 (h.2.1:Int),.int .i64 0])∧Below w.heap.size w w':=by
 obtain⟨V,hV⟩:∃V:Value,V=(match gy bs with
   | none=>.tuple #[.int .i64 0,.int .i64 3]
   | some h=>.tuple #[.int .i64 (h.2.1:Int),.int .i64 0]):=⟨_,rfl⟩
 rw[←hV];have Hn:=hid (Ag bs w);have Hh:=hid (fun W hc=>oC w.heap.size bs W hl hlt hc);clear hl hlt;go_enter func13,ntmps13
 go_wp2_with fail
 refine Hn.out.mono ?_;rintro e w1 ⟨rfl,hc1,hb1⟩;have Hb1:=hid hb1;have Hh1:=hid (Hh.out w1 hc1);clear hc1 hb1 Hn Hh;go_wp2_with fail
 refine Hh1.out.mono ?_;rintro e w2 ⟨hp,hg2⟩;have Hb2:=hid (Hb1.out.trans (below_grown hg2 (Nat.le_refl _) Hb1.out.size));clear hg2 Hb1 Hh1;have Hbl:=hid (fun u=>Hb2.out.alloc Hb2.out.size u);clear Hb2;cases hd:gy bs with
 | none=>
  rw[hd]at hp hV;subst hV;obtain rfl:e=.returned (.tuple #[.agg #[.int .u64 0,.int .i64 0,.int .i64 0,.int .u64 0],.int .i64 3]):=hp;clear hd;go_wp2;go_ret2;exact⟨rfl,Hbl.out _⟩
 | some h=>
  rw[hd]at hp hV;subst hV;obtain⟨k,ep,n,s,at_⟩:=h;obtain rfl:e=.returned (.tuple #[.agg #[.int .u64 (k:Int),.int .i64 (ep:Int),.int .i64 (n:Int),.int .u64 (s:Int)],.int .i64 0]):=hp.1;clear hd hp;dsimp only;go_wp2;go_ret2;exact⟨rfl,Hbl.out _⟩
theorem OT(bs:List Nat)(w:World)(hl:bs.length≤100000000)(hlt:∀x∈bs,x<256) :
  Calls prog 14 #[.string (strOf bs)] w fun e w'=>e=.returned (match gy bs with
   | none=>.tuple #[.int .i64 0,.int .i64 3]
   | some h=>.tuple #[.int .i64 (h.2.2.1:Int),.int .i64 0])∧Below w.heap.size w w':=by
 obtain⟨V,hV⟩:∃V:Value,V=(match gy bs with
   | none=>.tuple #[.int .i64 0,.int .i64 3]
   | some h=>.tuple #[.int .i64 (h.2.2.1:Int),.int .i64 0]):=⟨_,rfl⟩
 rw[←hV];have Hn:=hid (Ag bs w);have Hh:=hid (fun W hc=>oC w.heap.size bs W hl hlt hc);clear hl hlt;go_enter func14,ntmps14
 go_wp2_with fail
 refine Hn.out.mono ?_;rintro e w1 ⟨rfl,hc1,hb1⟩;have Hb1:=hid hb1;have Hh1:=hid (Hh.out w1 hc1);clear hc1 hb1 Hn Hh;go_wp2_with fail
 refine Hh1.out.mono ?_;rintro e w2 ⟨hp,hg2⟩;have Hb2:=hid (Hb1.out.trans (below_grown hg2 (Nat.le_refl _) Hb1.out.size));clear hg2 Hb1 Hh1;have Hbl:=hid (fun u=>Hb2.out.alloc Hb2.out.size u);clear Hb2;cases hd:gy bs with
 | none=>
  rw[hd]at hp hV;subst hV;obtain rfl:e=.returned (.tuple #[.agg #[.int .u64 0,.int .i64 0,.int .i64 0,.int .u64 0],.int .i64 3]):=hp;clear hd;go_wp2;go_ret2;exact⟨rfl,Hbl.out _⟩
 | some h=>
  rw[hd]at hp hV;subst hV;obtain⟨k,ep,n,s,at_⟩:=h;obtain rfl:e=.returned (.tuple #[.agg #[.int .u64 (k:Int),.int .i64 (ep:Int),.int .i64 (n:Int),.int .u64 (s:Int)],.int .i64 0]):=hp.1;clear hd hp;dsimp only;go_wp2;go_ret2;exact⟨rfl,Hbl.out _⟩
theorem PS(k:Nat)(hk:k<256):([]:List Nat)++Bm.bytesOf k (fx 1)=[k]:=by
 rw[show fx 1=1 by decide,List.nil_append];simp[Bm.bytesOf];omega
theorem AA(k:Nat)(s:List Nat)(w:World)(hk:k<256)(hs:s.length≤10000000) :
  Calls prog 66 #[.int .u64 (k:Int),.string (strOf s)] w fun e w'=>e=.returned (.pointer (some ⟨w.heap.size,0,none⟩))∧CW w' w.heap.size (k :: grp s.length)∧Below w.heap.size w w':=by
 have hsz:=ay s;have xX:=hid (CW.new w);have HbA:=hid ((Below.refl w.heap.size w).alloc (Nat.le_refl _) (.cells #[.pointer none,.int .i64 0] 62));have hf:=fun W b h=>nP b k 1 [] W (by omega) (by omega) (by omega) (by simp) h
 rw[PS k hk]at hf;have Hf:=hid hf;have Hg:=hid (fun W b h=>iR b s.length [k] W (by omega) (by simp) h);clear hf;have hle:(s.length:Int)≤10000000:=by omega
 generalize strOf s=str at *;go_enter func66,ntmps66
 go_wp2_with fail
 refine(Hf.out _ _ xX.out).mono ?_;rintro e w1 ⟨rfl,hc1,hg1⟩;have Hb1:=hid (HbA.out.trans (below_grown hg1 (Nat.le_refl _) HbA.out.size));have Hg1:=hid (Hg.out w1 _ hc1);clear hc1 hg1 HbA Hf Hg;go_wp2_with fail
 refine Hg1.out.mono ?_;rintro e w2 ⟨rfl,hc2,hg2⟩;go_wp2;go_ret;exact⟨rfl,hc2,Hb1.out.trans (below_grown hg2 (Nat.le_refl _) Hb1.out.size)⟩
theorem WH(s:List Nat)(w:World)(hs:s.length≤10000000)(hlt:∀x∈s,x<256) :
  Calls prog 67 #[.string (strOf s)] w fun e w'=>e=.returned (.string (strOf (NJ s)))∧Below w.heap.size w w':=by
 have H0:Calls prog 66 #[.int .u64 0,.string (strOf s)] w _:=AA 0 s w (by decide) hs;have Hs:=hid H0;have ady:=dx s.length (by omega);have Hr:=hid (fun W b h=>gX b (0 :: grp s.length) s W (by rw[List.length_cons];omega) h);have Ht:=hid (fun W b h=>iP b ((0 :: grp s.length)++s) W (by rw[List.length_append,List.length_cons];omega) (zD 0 s.length s (by decide) (by omega) hlt) h);clear hlt hs ady H0;have e0:(0 :: grp s.length)++s=NJ s:=rfl;rw[e0]at Hr Ht;generalize NJ s=R at *;generalize strOf R=amV at *;generalize strOf s=str at *;go_enter func67,ntmps67
 go_wp2_with fail
 refine Hs.out.mono ?_;rintro e w1 ⟨rfl,hc1,hb1⟩;have Hb1:=hid hb1;have Hr1:=hid (Hr.out w1 _ hc1);clear hc1 hb1 Hs Hr;go_wp2_with fail
 refine Hr1.out.mono ?_;rintro e w2 ⟨rfl,hc2,hg2⟩;have Hb2:=hid (Hb1.out.trans (below_grown hg2 (Nat.le_refl _) Hb1.out.size));have Ht2:=hid (Ht.out w2 _ hc2);clear hc2 hg2 Hb1 Hr1 Ht;go_wp2_with fail
 refine Ht2.out.mono ?_;rintro e w3 ⟨rfl,hb3⟩;have Hb3:=hid (Hb2.out.trans (hb3.mono Hb2.out.size));clear hb3 Hb2 Ht2;go_wp2;go_ret;exact⟨rfl,Hb3.out⟩
end Go.Proofs.YtgiicohbigiapaaGreat
