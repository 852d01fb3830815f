/- Contracts, and what they rest on. Conditions: the theorems' premises. -/
import Derived.Test.YtgiicohbigiapaaGreatRad
import Derived.StillTailTactics
import Derived.Lib.BufferWrite
set_option maxHeartbeats 4000000
set_option maxRecDepth 100000
open Go.Lib(hid)
open Go.Proofs.Tryz Go.Proofs.YtgiicohbigiapaaGreat.Bm
namespace Go.Proofs.YtgiicohbigiapaaGreat
open Go.RowKit
def lH(h n:Nat):List Value:=[.int .u64 (h:Int),.int .u64 (n:Int)]
theorem Row.state{w:World}{b h n h' n':Nat}(hr:Row w b 79 (lH h n)):Row ((w.setCell ⟨b,0,none⟩ (.int .u64 (h':Int))).setCell ⟨b,1,none⟩ (.int .u64 (n':Int))) b 79 (lH h' n'):=
 (hr.aW 0 (.int .u64 (h':Int))).aW 1 (.int .u64 (n':Int))
theorem XH(h n:Nat)(l:List Nat)(w:World)(hh:h<18446744073709551616)(hn:n<18446744073709551616)(hl:l.length≤1000000000)(hlt:∀x∈l,x<256) :
  Calls prog 45 #[.agg #[.int .u64 (h:Int),.int .u64 (n:Int)],.string (strOf l)] w fun e w'=>e=.returned (.agg #[.int .u64 (iJ h l:Int),.int .u64 (((n+l.length)%18446744073709551616:Nat):Int)])∧Below w.heap.size w w':=by
 have hsz:=ay l;have hidx:∀(i:Nat) (W:World) (hi:i<l.length),(Instr.index 9 (.string (strOf l)) (.int .i64 (i:Int))).run prog W=.ok (.int .u8 ((l[i]:Nat):Int)) W:=fun i W hi=>jD l i W hi (hlt _ (List.getElem_mem hi))
 have qQ:=hid hidx;have Hlt:=hid hlt;have Hn:=hid hn;have hres:∀k,k<l.length→yu (iJ h (l.take k)) (l[k]?.getD 0)=iJ h (l.take (k+1)):=fun k hk=>by
  rw[rz h l k hk];simp[hk]
 have dQ:=hid hres;have Hhk:=hid (fun k=>IU h (l.take k) hh);obtain⟨r,hr⟩:∃r,r=iJ h l:=⟨_,rfl⟩;rw[←hr];have Hr:=hid hr;obtain⟨N,hN⟩:∃N,N=(n+l.length)%18446744073709551616:=⟨_,rfl⟩;rw[←hN];have HN:=hid hN;clear hN;clear hidx hlt hn hres hr;generalize strOf l=s at hsz qQ ⊢;go_enter func45,ntmps45
 go_wp2;go_loopw [5,8] (fun x i wr=>∃k:Nat,k≤l.length∧i=.int .i64 (k:Int)∧Hid (Row wr w.heap.size 79 (lH (iJ h (l.take k)) ((n+k)%18446744073709551616)))∧Hid (Row wr (w.heap.size+1) 79 (lH 0 0))∧Hid (Below w.heap.size w wr)) (fun _ i _=>l.length-(intOf i).toNat)
 case atStart=>
  refine⟨0,by omega,rfl,?_,?_,?_⟩
  ·rw[show(n+0)%18446744073709551616=n from Nat.mod_eq_of_lt Hn.out];exact(Row.new w 79 (lH h n)).alloc _
  ·have h2:=Row.new (w.alloc (.cells #[.int .u64 (h:Int),.int .u64 (n:Int)] 79)) 79 (lH 0 0);rw[show(w.alloc (.cells #[.int .u64 (h:Int),.int .u64 (n:Int)] 79)).heap.size=w.heap.size+1 by simp]at h2;exact h2
  ·exact((Below.refl _ _).alloc (Nat.le_refl _) _).alloc (by simp) _
 case round=>
  obtain⟨k,hk,rfl,hrow,hrow2,hbel⟩:=hrel;by_cases hkl:k<l.length
  ·have hx:=fun W=>qQ.out k W hkl
   have hby:=fun m W=>SI (iJ h (l.take k)) m l[k] W (Hhk.out k) (Hlt.out _ (List.getElem_mem hkl))
   rw[show yu (iJ h (l.take k)) l[k]=iJ h (l.take (k+1)) by rw[rz h l k hkl]]at hby;have Hr2:=hid (fun m=>show((n+k)%18446744073709551616+1)%18446744073709551616=m→m=(n+(k+1))%18446744073709551616 from fun e=>by omega);generalize (n+k)%18446744073709551616=m at hrow Hr2;have hby:=hby m;generalize hm:(m+1)%18446744073709551616=m' at hby;have Hm:=hid (Hr2.out m' hm);have Hby:=hid hby;clear hm Hr2 hby qQ Hlt dQ;generalize l[k]=b at hx Hby;generalize iJ h (l.take k)=y at Hby hrow;generalize hy':iJ h (l.take (k+1))=y' at Hby;have Hy':=hid hy';clear hy' Hhk;have c0:=hrow.out.cell 0;have c1:=hrow.out.cell 1;simp only[lH,List.getElem?_cons_zero,List.getElem?_cons_succ]at c0 c1;go_wp2;go_still_tail 4,(by kernel_rfl)
   change wpList _ _ _ _ _ wr.drew;clear hx c0 c1;have hrow':Row wr.drew w.heap.size 79 (lH y m):=hrow.out;have Zp:Row wr.drew (w.heap.size+1) 79 (lH 0 0):=hrow2.out;have VT:Below w.heap.size w wr.drew:=hbel.out.drew;have fu:=hid hrow';have dJ:=hid Zp;have jm:=hid VT;clear hrow hrow2 hbel hrow' Zp VT;generalize wr.drew=w1 at fu dJ jm ⊢;go_wp2_with fail
   refine(Hby.out w1).mono ?_;rintro e w2 ⟨rfl,hb2⟩;have hrow:=fu.out.below hb2;have jS:=hid hrow;have BU:=hid (dJ.out.below hb2);have NS:=hid (jm.out.trans (hb2.mono jm.out.size));have c0:=hrow.cell 0;have c1:=hrow.cell 1;simp only[lH,List.getElem?_cons_zero,List.getElem?_cons_succ]at c0 c1;have f0:=hrow.free 0;have f1:=hrow.free 1;clear hrow hb2 fu dJ jm;go_wp2;go_roundw
   case rel=>
    refine⟨k+1,by omega,by go_num,?_,?_,?_⟩
    ·rw[Hy'.out,←Hm.out];exact jS.out.state
    ·exact(BU.out.far (by simp) _).far (by simp) _
    ·exact(NS.out.setCell (Nat.le_refl _) _).setCell (Nat.le_refl _) _
   case measure=>simp[intOf];omega
  ·obtain rfl:k=l.length:=by omega
   rw[List.take_length,←Hr.out,←HN.out]at hrow;clear HN Hr;have c0:=hrow.out.cell 0;have c1:=hrow.out.cell 1;have d0:=hrow2.out.cell 0;have d1:=hrow2.out.cell 1;simp only[lH,List.getElem?_cons_zero,List.getElem?_cons_succ]at c0 c1 d0 d1;have f0:=hrow2.out.free 0;have f1:=hrow2.out.free 1;clear hrow;have s0:=(hrow2.out.aW 0 (.int .u64 (r:Int))).cell 0;have s1:=((hrow2.out.aW 0 (.int .u64 (r:Int))).aW 1 (.int .u64 (N:Int))).cell 1;simp only[lH,List.set_cons_zero,List.set_cons_succ,List.getElem?_cons_zero,List.getElem?_cons_succ]at s0 s1;have S0:=hid s0;have S1:=hid s1;clear s0 s1;go_wp2;have s0:=S0.out;have s1:=S1.out;refine bodyPost_ret (v:=.agg #[.int .u64 (r:Int),.int .u64 (N:Int)]) (by simp[results,results45,go_sem,s0,s1]) rfl ⟨rfl,?_⟩;exact(hbel.out.setCell (by simp) _).setCell (by simp) _
theorem PN(A:Option Addr)(c:Nat)(v:Int)(w:World) :
  Calls prog 132 #[.slice A 0 c,.int .u64 v] w fun e w'=>e=.returned (.tuple #[])∧w=w':=by
 go_enter func132,ntmps132
 go_wp2;go_loop [8] (fun i=>i=.int .i64 0) (fun _=>0)
 case atStart=>rfl
 case round=>
  obtain rfl:=hrel;go_wp2;go_end0
  exact⟨rfl,rfl⟩
theorem XE{w:World}{g off k v:Nat}{cs:List Nat}(hl:off+k<cs.length)(h:Row w g 5 (u8s (eY cs off k v))) :
  Row (w.setCell ⟨g,off+k,none⟩ (.int .u8 ((v/256^k%256:Nat):Int))) g 5 (u8s (eY cs off (k+1) v)):=by
 have h1:=h.aW (off+k) (.int .u8 ((v/256^k%256:Nat):Int));rw[xG,yQ _ _ _ _ hl]at h1;exact h1
theorem CJ(g off len c v:Nat)(cs:List Nat)(w:World)(hl:off+len≤cs.length)(hcl:cs.length≤1000000000)(hr:Row w g 5 (u8s cs)) :
  Calls prog 132 #[.slice (some ⟨g,off,none⟩) len c,.int .u64 (v:Int)] w fun e w'=>e=.returned (.tuple #[])∧Row w' g 5 (u8s (eY cs off (min len 8) v))∧w.grownBy w' (some g):=by
 obtain⟨m,hm⟩:∃m,m=min len 8:=⟨_,rfl⟩;have hm8:m≤8:=by omega
 have hml:m≤len:=by omega
 have hmin:Hid ((min (len:Int) 8)=(m:Int)):=by unfold Hid;omega
 rw[←hm];clear hm;go_enter func132,ntmps132
 go_wp2;rw[hmin.out];go_loopw [8] (fun i wr=>∃k:Nat,k≤m∧i=.int .i64 (k:Int)∧Row wr g 5 (u8s (eY cs off k v))∧w.grownBy wr (some g)) (fun i _=>m-(intOf i).toNat)
 case atStart=>exact⟨0,Nat.zero_le _,rfl,by rw[yR];exact hr,au _ _⟩
 case round=>
  obtain⟨k,hk,rfl,hrow,hgr⟩:=hrel;by_cases hlt:k<m
  ·have hcell:=hrow.cell (off+k);have hfree:=hrow.free (off+k);have hlen:off+k<(eY cs off k v).length:=by rw[sZ _ _ _ _ (by omega)];omega
   rw[bD _ _ hlen]at hcell;generalize (eY cs off k v)[off+k]=old at hcell;have fu:=hid hrow;have Hgr:=hid hgr;clear hrow hgr hlen hr;go_wp2;rw[Iw];go_roundw
   case rel=>exact⟨k+1,by omega,by go_num,XE (by omega) fu.out,aH Hgr.out _ _⟩
   case measure=>simp[intOf];omega
  ·obtain rfl:k=m:=by omega
   go_wp2;go_end0
   exact⟨rfl,hrow,hgr⟩
theorem JY(g L q:Nat)(W:World)(h:q<L)(_hL:L≤1000000000):(Instr.slice 87 (.slice (some ⟨g,0,none⟩) L L) (some (.int .i64 (q:Int))) none none).run prog W=.ok (.slice (some ⟨g,q,none⟩) (L-q) (L-q)) W:=by
 have h1:¬L=q:=by omega
 have h2:q≤L:=by omega
 go_simp
theorem Tc(g L q:Nat)(W:World)(h:q=L):(Instr.slice 87 (.slice (some ⟨g,0,none⟩) L L) (some (.int .i64 (q:Int))) none none).run prog W=.ok (.slice (some ⟨g,0,none⟩) 0 0) W:=by
 subst h;go_simp
theorem VJ(g q c v:Nat)(w:World)(hr:Row w g 5 (u8s (List.replicate q 0))) :
  Calls prog 132 #[.slice (some ⟨g,0,none⟩) 0 c,.int .u64 (v:Int)] w fun e w'=>e=.returned (.tuple #[])∧Row w' g 5 (u8s (eY (List.replicate q 0) q (min (q-q) 8) v))∧w.grownBy w' (some g):=
 (PN _ c v w).mono fun e w' ⟨he,hw⟩=>by
  subst hw;refine⟨he,?_,au _ _⟩;rw[Nat.sub_self,show min 0 8=0 from rfl,yR];exact hr
theorem Cn{N n rest q L:Nat}{us:List Nat}(h:WOk N n rest us)(hq:q=8*(n/64))(hL:L=(n+7)/8) :
  eY (List.replicate L 0) q (min (L-q) 8) rest=List.replicate q 0++(Bm.bytesOf N L).drop q:=by
 have h1:=EN N n rest us h;rw[h.1]at h1;rw[hq,hL];exact h1
theorem jV(b off N n:Nat)(w:World)(hn:n≤1000000000)(h:WS w b off N n) :
  Calls prog 100 #[.pointer (some ⟨b,off,none⟩)] w fun e w'=>∃g,e=.returned (.slice (some ⟨g,0,none⟩) ((n+7)/8) ((n+7)/8))∧w.heap.size≤g∧Row w' g 5 (u8s (Bm.bytesOf N ((n+7)/8)))∧Below w.heap.size w w':=by
 obtain⟨i0,hi,hz0,hz1,hz2⟩:=info_parts jc;have HW:=hid h;obtain⟨p,rest,us,h0,h1,h2,f0,f1,f2,hnt,hc,hw⟩:=h;have Hc:=hid hc;have Hw:=hid hw;clear f0 f1 f2 hnt hc hw;go_enter func100,ntmps100
 go_wp2_with (at_make;refine wpList_make_full _ rfl _ _ 87 rfl w.heap.size 5 i0 (.int .u8 0) 1 underlying87 hi hz0 hz1 .i64 .i64 _ _ ((n+7)/8) rfl rfl ?c1 ?c1 ?c2 ?c3 ?c4 ?_)
 case c1=>omega
 case c2=>rw[hz2];omega
 case c3=>unfold maxLen;omega
 case c4=>exact Nat.le_refl _
 intro w1 hown1 hg1;have hb1:=aJ hg1;have HW1:=hid (HW.out.keep hg1 (by simp) (by simp));have hr1:Row w1 w.heap.size 5 (u8s (List.replicate ((n+7)/8) 0)):=nI hown1;have d1:w1.cell? ⟨b,off+1,none⟩=some (.int .u64 (rest:Int)):=(hb1.cell (p:=⟨b,off+1,none⟩) (World.block_lt_of_cell? w _ h1)).trans h1;have d2:w1.cell? ⟨b,off+2,none⟩=some (.int .i64 (n:Int)):=(hb1.cell (p:=⟨b,off+2,none⟩) (World.block_lt_of_cell? w _ h2)).trans h2;have Hb1:=hid hb1;have Hr1:=hid hr1;have H0:=hid h0;clear hown1 hg1 hb1 hr1 h0 h1 h2;obtain⟨q,hq⟩:∃q,q=8*(n/64):=⟨_,rfl⟩;obtain⟨L,hL⟩:∃L,L=(n+7)/8:=⟨_,rfl⟩;have hqL:q≤L:=by omega
 have alR:L≤q+8:=by omega
 have hLs:L≤1000000000:=by omega
 have hke:(n:Int)/64*8=(q:Int):=by omega
 have Hq:=hid hq;have Hke:=hid hke;have HL:=hid hL;clear hq hke hL;go_wp2;rw[Hke.out,←HL.out];rw[←HL.out]at Hr1;have hpost:∀w2,Row w2 w.heap.size 5 (u8s (eY (List.replicate L 0) q (min (L-q) 8) rest))→Row w2 w.heap.size 5 (u8s (List.replicate q 0++(Bm.bytesOf N L).drop q)):=
  fun w2 h=>by rw[←Cn Hw.out Hq.out HL.out];exact h
 have BS:=hid hpost;clear hpost;by_cases hlt:q=L
 all_goals first
  | (
    have hse:=fun W=>Tc w.heap.size L q W hlt
    have Hlt:=hid hlt;clear hlt;go_still_tail 7,(by kernel_rfl)
    change wpList _ _ _ _ _ w1.drew;clear hse;go_wp2_with fail
    refine(VJ w.heap.size q _ rest w1.drew (by rw[Hlt.out];exact Hr1.out)).mono ?_;rintro e w2 ⟨rfl,hrow,hgr⟩;rw[show eY (List.replicate q 0) q (min (q-q) 8) rest=eY (List.replicate L 0) q (min (L-q) 8) rest by rw[←Hlt.out]]at hrow;clear Hlt)
  | (
    have hlt2:q<L:=by omega
    have hsa:=fun W=>JY w.heap.size L q W hlt2 hLs
    go_still_tail 7,(by kernel_rfl)
    change wpList _ _ _ _ _ w1.drew;clear hsa;go_wp2_with fail
    refine(CJ w.heap.size q (L-q) _ rest (List.replicate L 0) w1.drew (by simp;omega) (by simpa using hLs) Hr1.out).mono ?_;rintro e w2 ⟨rfl,hrow,hgr⟩;clear hlt hlt2)
 all_goals
  have hrow2:=BS.out w2 hrow;have hb2:Below w.heap.size w w2:=Hb1.out.drew.grown hgr (by have:=Hb1.out.size;simpa using this) (fun k e=>by injection e with e;omega);have d0':w2.cell? ⟨b,off,none⟩=some (.pointer p):=(hb2.cell (p:=⟨b,off,none⟩) (World.block_lt_of_cell? w _ H0.out)).trans H0.out;have hus:q=8*us.length:=by rw[Hw.out.1];exact Hq.out
  rw[show(q:Int)=((8*us.length:Nat):Int) by rw[hus]];rw[hus]at hrow2;have akn:8*us.length≤L:=by omega
  have dJ:=hid hrow2;have Hb2:=hid hb2;clear hrow2 hb2 hgr hrow BS Hb1 d1 d2 H0 HW1 Hr1 Hke hqL alR hus Hq HW;go_wp2;go_loopw [4,5] (fun i p' wr=>∃(rem:List Nat) (q':Option Addr),i=.int .i64 ((8*rem.length:Nat):Int)∧p'=.pointer q'∧Hid (Chain w q' rem)∧Hid (Row wr w.heap.size 5 (u8s (List.replicate (8*rem.length) 0++(Bm.bytesOf N L).drop (8*rem.length)))) ∧
   Hid (Below w.heap.size w wr)∧Hid (eG rem=N%2^(64*rem.length))∧Hid (∀u∈rem,u<2^64)∧8*rem.length≤L) (fun i _ _=>(intOf i).toNat)
  case atStart=>exact⟨us,p,rfl,rfl,Hc,dJ,Hb2,Hw.out.chain,Hw.out.2.2.1,akn⟩
  case round=>
   obtain⟨rem,q',rfl,rfl,hch,hrw,hbl,hcv,aff,hle⟩:=hrel;clear akn Hb2 dJ d0' Hc;rcases rem with _ | ⟨u,us'⟩
   ·obtain rfl:q'=none:=hch.out;have hfin:Row wr w.heap.size 5 (u8s (Bm.bytesOf N L)):=hrw.out;rw[HL.out]at hfin;have lu:=hid hfin;clear hfin hrw hle;go_wp2;go_ret;rw[HL.out];exact⟨_,rfl,Nat.le_refl _,lu.out,hbl.out⟩
   ·obtain⟨g1,q1,rfl,hr1,aeQ⟩:=hch.out;obtain⟨r,hr⟩:∃r,r=8*us'.length:=⟨_,rfl⟩;have hg1:=hr1.lt;have c0:=(hbl.out.cell (p:=⟨g1,0,none⟩) hg1).trans (hr1.cell 0);have c1:=(hbl.out.cell (p:=⟨g1,1,none⟩) hg1).trans (hr1.cell 1);simp only[List.getElem?_cons_zero,List.getElem?_cons_succ]at c0 c1;have agG:=hid aeQ;rw[List.length_cons,show((8*(us'.length+1):Nat):Int)=(r:Int)+8 by omega];rw[List.length_cons]at hrw hcv hle;have hrL:r<L:=by omega
    have hr8:r+8≤L:=by omega
    have Hr:=hid hr;have hsa:=fun W=>JY w.heap.size L r W hrL hLs
    have hhead:=KQ N u us' (fun x hx=>aff.out x (List.mem_cons_of_mem _ hx)) hcv.out;have hcs:(List.replicate (8*(us'.length+1)) 0++(Bm.bytesOf N L).drop (8*(us'.length+1))).length=L:=by
     rw[List.length_append,List.length_replicate,List.length_drop,Bm.bytesOf_length];omega
    have hfl:∀w3,Row w3 w.heap.size 5 (u8s (eY (List.replicate (8*(us'.length+1)) 0++(Bm.bytesOf N L).drop (8*(us'.length+1))) r (min (L-r) 8) u)) →
      Row w3 w.heap.size 5 (u8s (List.replicate (8*us'.length) 0++(Bm.bytesOf N L).drop (8*us'.length))):=fun w3 h3=>by
     have e:=KM N L us'.length (by omega);rw[←hhead.1,←hr,show 8=min (L-r) 8 by omega]at e;rw[show min (L-r) 8=8 by omega]at h3;rw[show min (L-r) 8=8 by omega,hr]at e;rw[←e,←hr];exact h3
    have Hfl:=hid hfl;have Hcs:=hid hcs;have Hcv:=hid hhead.2;clear hr aeQ hr1 hch hle hfl hcs hhead hcv;go_wp2;go_still_tail 7,(by kernel_rfl)
    change wpList _ _ _ _ _ wr.drew;clear hsa;go_wp2_with fail
    refine(CJ w.heap.size r (L-r) _ u _ wr.drew (by rw[Hcs.out];omega) (by rw[Hcs.out];exact hLs) hrw.out).mono ?_;rintro e w3 ⟨rfl,hrow3,ajD⟩;have jS:=hid (Hfl.out w3 hrow3);have hb3:Below w.heap.size w w3:=hbl.out.drew.grown ajD (by have:=hbl.out.size;simpa using this) (fun k e=>by injection e with e;omega);have c0':w3.cell? ⟨g1,0,none⟩=some (.pointer q1):=(hb3.cell (p:=⟨g1,0,none⟩) hg1).trans ((hbl.out.cell (p:=⟨g1,0,none⟩) hg1).symm.trans c0);have Hb3:=hid hb3;clear hb3 hrow3 ajD c0 c1 hrw Hfl Hcs;go_wp2;go_roundw
    case rel=>exact⟨us',q1,by rw[Hr.out],rfl,agG,jS,Hb3,Hcv,fun x hx=>aff.out x (List.mem_cons_of_mem _ hx),by have:=Hr.out;omega⟩
    case measure=>simp[intOf];omega
theorem qb(A:Option Addr)(c:Nat)(bs:List Nat)(w:World)(hbs:∀b∈bs,b<256)(hr:Reads w A (u8s bs)) :
  Calls prog 148 #[.slice A bs.length c] w fun e w'=>e=.returned (.pointer (some ⟨w.heap.size,0,none⟩))∧RS w' w.heap.size 0 bs 0∧Below w.heap.size w w':=by
 have bO:=bP w A c bs hbs hr;clear hbs hr;go_enter func148,ntmps148
 go_wp2;go_ret;have hrow:=Row.new w 243 [.string (strOf bs),.int .i64 0];exact⟨rfl,⟨hrow.cell 0,hrow.cell 1,hrow.free 1,hrow.lt⟩,(Below.refl _ _).alloc (Nat.le_refl _) _⟩
theorem Kj(a:Addr)(m:Int)(w:World)(h:m<0∨32<m) :
  Calls prog 177 #[.pointer (some a),.int .i64 m] w fun e w'=>e=.returned (.tuple #[.int .u32 0,.bool false])∧w=w':=by
 rcases h with h | h
 ·go_enter func177,ntmps177
  go_wp2;go_ret2;exact⟨rfl,rfl⟩
 ·go_enter func177,ntmps177
  go_wp2;go_ret2;exact⟨rfl,rfl⟩
theorem qC(b off:Nat)(bs:List Nat)(pos m:Nat)(w:World)(hs:bs.length≤100000000)(hp:pos≤8*bs.length)(hm:m≤32)(BM:8*bs.length-pos<m)(h:RS w b off bs pos) :
  Calls prog 177 #[.pointer (some ⟨b,off,none⟩),.int .i64 (m:Int)] w fun e w'=>e=.returned (.tuple #[.int .u32 0,.bool false])∧∃k,w'=w.drewN k:=by
 have hl:=uJ b off bs pos w (by omega) hp h;have Hl:=hid hl;clear hl h;generalize 8*bs.length-pos=lft at Hl BM;have hlt:(lft:Int)<(m:Int):=by omega
 go_enter func177,ntmps177
 go_wp2_with fail
 refine Hl.out.mono ?_;rintro e w' ⟨rfl,kk,rfl⟩;go_wp2;go_ret2;exact⟨rfl,_,rfl⟩
theorem ace(x b k:Nat)(hx:x<256^k)(hb:b<256)(hk:k<5):bits .or .u64 (x:Int) (IntKind.u64.wrap ((b:Int)*2^(8*k)))=((x+b*256^k:Nat):Int):=by
 have hp:256^k≤256^4:=Nat.pow_le_pow_right (by omega) (by omega);have h4:(256:Nat)^4=4294967296:=by decide
 rw[or_val _ _ _ (by omega)];have h1:=wu (8*k) x b (by rw[←rO];exact hx);have h2:b*2^(8*k)<2^64:=by
  rw[←rO];have:=Nat.mul_le_mul (show b≤255 by omega) hp;omega
 rw[Nat.mod_eq_of_lt h2,h1,rO]
theorem TM(bs:List Nat)(f k:Nat)(hfk:f≤k)(hk:k<bs.length)(h5:k<f+5)(h:∀x∈bs,x<256) :
  bits .or .u64 ((aS ((bs.drop f).take (k-f)):Nat):Int) (IntKind.u64.wrap ((bs[k]:Int)*2^(8*(k-f))))=((aS ((bs.drop f).take (k+1-f)):Nat):Int):=by
 have hl:((bs.drop f).take (k-f)).length=k-f:=by rw[List.length_take,List.length_drop];omega
 have hlt:=jP ((bs.drop f).take (k-f)) (fun x hx=>h x (List.mem_of_mem_drop (List.mem_of_mem_take hx)));rw[hl]at hlt;rw[ace _ _ _ hlt (h _ (List.getElem_mem hk)) (by omega)];have hg:k-f<(bs.drop f).length:=by rw[List.length_drop];omega
 have e:(bs.drop f)[k-f]=bs[k]:=by rw[List.getElem_drop];congr 1;omega
 rw[show k+1-f=(k-f)+1 by omega,List.take_succ_eq_append_getElem hg,qJ,hl,e]
theorem acA{w:World}{b off pos:Nat}{bs:List Nat}(h:RS w b off bs pos)(kk m:Nat):RS ((w.setCell ⟨b,off+1,none⟩ (.int .i64 ((pos+m:Nat):Int))).drewN kk) b off bs (pos+m):=by
 have h1:RS (w.setCell ⟨b,off+1,none⟩ (.int .i64 ((pos+m:Nat):Int))) b off bs (pos+m):=by
  obtain⟨h0,h1,h2,h3⟩:=h;refine⟨?_,World.cell?_setCell_same _ _ _ h1,by simpa using h2,by simpa using h3⟩;rw[World.cell?_setCell_other _ _ _ _ (by intro e;injection e with _ e _;omega)];exact h0
 exact h1.drewN kk
theorem jN(b off:Nat)(bs:List Nat)(pos m:Nat)(w:World)(hs:bs.length≤100000000)(hbs:∀x∈bs,x<256)(hm:m≤32)(hle:pos+m≤8*bs.length)(h:RS w b off bs pos) :
  Calls prog 177 #[.pointer (some ⟨b,off,none⟩),.int .i64 (m:Int)] w fun e w'=>
   e=.returned (.tuple #[.int .u32 ((aS bs/2^pos%2^m:Nat):Int),.bool true])∧RS w' b off bs (pos+m)∧w.grownBy w' (some b):=by
 have hl:=uJ b off bs pos w (by omega) (by omega) h;have Hl:=hid hl;have Hrs:=hid h;obtain⟨h0,h1,h2,_⟩:=h;have hlt:(m:Int)≤((8*bs.length-pos:Nat):Int):=by omega
 have hsz:=ay bs;have Hbs:=hid hbs;have hidx:∀(i:Nat) (W:World) (hi:i<bs.length),(Instr.index 9 (.string (strOf bs)) (.int .i64 (i:Int))).run prog W=.ok (.int .u8 ((bs[i]:Nat):Int)) W:=fun i W hi=>jD bs i W hi (hbs _ (List.getElem_mem hi))
 have qQ:=hid hidx;have Hsz:=hid hsz;clear hl hbs hidx hsz;generalize strOf bs=sb at h0 qQ Hsz;have hsb:sb.size≤100000000:=by rw[Hsz.out];exact hs
 generalize hlf:8*bs.length-pos=lft at Hl hlt;have Hlf:=hid hlf;clear hlf;go_enter func177,ntmps177
 go_wp2_with fail
 refine Hl.out.mono ?_;rintro e w' ⟨rfl,kk,rfl⟩;have hlt2:¬lft<m:=by omega
 clear Hl;obtain⟨f,hf⟩:∃f,f=pos/8:=⟨_,rfl⟩;obtain⟨t,ht⟩:∃t,t=f+min 5 (bs.length-f):=⟨_,rfl⟩;have hfs:(pos:Int)/8=(f:Int):=by omega
 have hts:min ((f:Int)+5) (sb.size:Int)=(t:Int):=by rw[Hsz.out];omega
 have htl:t≤bs.length:=by omega
 have aki:t≤f+5:=by omega
 have hft:f≤t:=by omega
 have Hf:=hid hf;have Ht:=hid ht;have Hfs:=hid hfs;have Hts:=hid hts;clear hf ht hfs hts;go_wp2;rw[Hfs.out,Hts.out];go_loop [8,9] (fun v i=>∃k:Nat,f≤k∧k≤t∧i=.int .i64 (k:Int)∧v=.int .u64 ((aS ((bs.drop f).take (k-f)):Nat):Int)) (fun _ i=>t-(intOf i).toNat)
 case atStart=>exact⟨f,Nat.le_refl _,hft,rfl,by rw[Nat.sub_self];rfl⟩
 case round=>
  obtain⟨k,hfk,hkt,rfl,rfl⟩:=hrel;by_cases hk:k<t
  ·have hx:=qQ.out k;have hx2:=fun W=>hx W (by omega)
   have hb8:=Hbs.out bs[k] (List.getElem_mem (by omega));clear hx;have hstep:=TM bs f k hfk (by omega) (by omega) Hbs.out;have jI:=hid hstep;clear hstep;generalize bs[k]=x at hx2 hb8 jI;go_wp2;rw[jI.out];go_round
   case rel=>exact⟨k+1,by omega,by omega,by go_num,rfl⟩
   case measure=>simp[intOf];omega
  ·obtain rfl:k=t:=by omega
   have hv:=TK bs Hbs.out pos m (k-f) hm hle (by have h3:=Ht.out;have h4:=Hf.out;omega);rw[←Hf.out]at hv;have hy:aS ((bs.drop f).take (k-f))<2^40:=by
    have h5:=jP ((bs.drop f).take (k-f)) (fun x hx=>Hbs.out x (List.mem_of_mem_drop (List.mem_of_mem_take hx)));have h6:256^((bs.drop f).take (k-f)).length≤256^5:=Nat.pow_le_pow_right (by omega) (by rw[List.length_take];omega);have h7:(256:Nat)^5=2^40:=by decide
    omega
   generalize aS ((bs.drop f).take (k-f))=y at hv hy;have hd:(y:Int)/2^(pos%8)=((y/2^(pos%8):Nat):Int):=by simp
   have hdl:=Nat.div_le_self y (2^(pos%8));have hz:∀z,z=y/2^(pos%8)→z%2^m=aS bs/2^pos%2^m:=fun z hz=>by rw[hz];exact hv
   have h40:y/2^(pos%8)<2^64:=by
    have:(2:Nat)^40≤2^64:=Nat.pow_le_pow_right (by omega) (by omega);omega
   have alM:aS bs/2^pos%2^m<4294967296:=Nat.lt_of_lt_of_le (Nat.mod_lt _ (Nat.two_pow_pos m)) (Nat.pow_le_pow_right (n:=2) (j:=32) (by omega) hm);have Hd:=hid hd;have Hv:=hid hv;clear hv hd hz hdl hy;go_wp2_with fail
   rw[Hd.out];refine(rF (y/2^(pos%8)) m _ h40 (by omega)).mono ?_;rintro e w' ⟨rfl,rfl⟩;rw[Hv.out];have afo:(pos:Int)+(m:Int)=((pos+m:Nat):Int):=by omega
   have Hpm:=hid afo;clear afo h40;generalize hzz:aS bs/2^pos%2^m=z at alM;have Hzz:=hid hzz;clear hzz;go_wp2;go_ret2;rw[Hpm.out,Hzz.out];exact⟨rfl,acA Hrs.out kk m,aH (bg (au _ _) _) _ _⟩
theorem afA(A:Option Addr)(n c:Nat)(bs:List Nat)(w:World)(hn:bs.length=n)(hbs:∀b∈bs,b<256)(hr:Reads w A (u8s bs)) :
  Calls prog 148 #[.slice A n c] w fun e w'=>e=.returned (.pointer (some ⟨w.heap.size,0,none⟩))∧RS w' w.heap.size 0 bs 0∧Below w.heap.size w w':=by
 subst hn;exact qb A c bs w hbs hr
theorem WS.Jm{w:World}{b off N n:Nat}(h:WS w b off N n):w.cell? ⟨b,off+2,none⟩=some (.int .i64 (n:Int)):=by
 obtain⟨p,rest,us,h0,h1,h2,_⟩:=h;exact h2
def TS(w:World)(B b:Nat)(bs:List Nat)(left:Nat):Prop:=∃g cap,
 w.cell? ⟨b,0,none⟩=some (.slice (some ⟨g,0,none⟩) bs.length cap)∧w.cell? ⟨b,1,none⟩=some (.int .i64 (left:Int))∧w.frozen? ⟨b,1,none⟩=false ∧
 B≤b∧b<w.heap.size∧B≤g∧g<w.heap.size∧g≠b∧bs.length≤cap∧cap≤maxLen∧Reads w (some ⟨g,0,none⟩) (u8s bs)
theorem TS.keep{w w':World}{B b left:Nat}{bs:List Nat}{row:Option Nat}(h:TS w B b bs left)(hg:w.grownBy w' row)(hr:∀r,row=some r→r<B):TS w' B b bs left:=by
 obtain⟨g,cap,h0,h1,h2,h3,h4,h5,h6,h7,h8,h9,h10⟩:=h;have hl:=hg.block b h4 (fun e=>by have:=hr b e.symm;omega);have hl2:=hg.block g h6 (fun e=>by have:=hr g e.symm;omega);refine⟨g,cap,(World.cell?_of_block hl).trans h0,(World.cell?_of_block hl).trans h1,(World.frozen?_of_block hl).trans h2,h3,Nat.lt_of_lt_of_le h4 hg.size,h5,Nat.lt_of_lt_of_le h6 hg.size,h7,h8,h9,fun hne=>?_⟩;obtain⟨g',off,e,hc⟩:=h10 hne;injection e with e
 injection e with e1 e2
 subst e1 e2;exact⟨_,_,rfl,fun j hj=>(World.cell?_of_block (a:=⟨g,0+j,none⟩) hl2).trans (hc j hj)⟩
theorem TS.drewN{w:World}{B b left:Nat}{bs:List Nat}(h:TS w B b bs left)(k:Nat):TS (w.drewN k) B b bs left:=h.keep (row:=none) (bg (au _ _) k) (by simp)
theorem TS.drew{w:World}{B b left:Nat}{bs:List Nat}(h:TS w B b bs left):TS w.drew B b bs left:=h.keep (row:=none) (bA (au _ _)) (by simp)
theorem TS.low{w:World}{B B' b left:Nat}{bs:List Nat}(h:TS w B b bs left)(hB:B'≤B):TS w B' b bs left:=by
 obtain⟨g,cap,h0,h1,h2,h3,h4,h5,h6,h7,h8,h9,h10⟩:=h;exact⟨g,cap,h0,h1,h2,by omega,h4,by omega,h6,h7,h8,h9,h10⟩
theorem DU{w:World}{g b i:Nat}{xs:List Value}{u:Value}(h:Reads w (some ⟨g,0,none⟩) xs)(hne:g≠b):Reads (w.setCell ⟨b,i,none⟩ u) (some ⟨g,0,none⟩) xs:=fun hx=>by
 obtain⟨g',off,e,hc⟩:=h hx;injection e with e
 injection e with e1 e2
 subst e1 e2;exact⟨_,_,rfl,fun j hj=>by rw[World.cell?_setCell_other _ _ _ _ (by intro e;injection e with e _ _;exact hne e.symm)];exact hc j hj⟩
theorem TS.step{w:World}{B b left:Nat}{bs:List Nat}(h:TS w B b bs left)(left':Nat):TS (w.setCell ⟨b,1,none⟩ (.int .i64 (left':Int))) B b bs left':=by
 obtain⟨g,cap,h0,h1,h2,h3,h4,h5,h6,h7,h8,h9,h10⟩:=h;refine⟨g,cap,?_,World.cell?_setCell_same _ _ _ h1,by simpa using h2,h3,by simpa using h4,h5,by simpa using h6,h7,h8,h9,DU h10 h7⟩;rw[World.cell?_setCell_other _ _ _ _ (by intro e;injection e with _ e _;omega)];exact h0
theorem KE(b:Nat)(n:Int)(w:World)(h:w.cell? ⟨b,1,none⟩=some (.int .i64 n)) :
  Calls prog 227 #[.pointer (some ⟨b,0,none⟩)] w fun e w'=>e=.returned (.int .i64 n)∧w=w':=by
 go_enter func227,ntmps227
 go_wp2;go_ret;exact⟨rfl,rfl⟩
theorem OH(B b left:Nat)(bs:List Nat)(w:World)(h:TS w B b bs left) :
  Calls prog 227 #[.pointer (some ⟨b,0,none⟩)] w fun e w'=>e=.returned (.int .i64 (left:Int))∧w=w':=by
 obtain⟨g,cap,_,h1,_⟩:=h;exact KE b _ w h1
theorem aaB(w:World)(n:Int):Calls prog 225 #[.pointer none,.int .i64 n] w fun e w'=>e=.returned (.tuple #[.int .u32 0,.bool false])∧w=w':=by
 go_enter func225,ntmps225
 go_wp2;go_ret2;exact⟨rfl,rfl⟩
theorem OU(B b left:Nat)(bs:List Nat)(m:Nat)(w:World)(hm:m≤32)(BM:left<m)(h:TS w B b bs left) :
  Calls prog 225 #[.pointer (some ⟨b,0,none⟩),.int .i64 (m:Int)] w fun e w'=>e=.returned (.tuple #[.int .u32 0,.bool false])∧w=w':=by
 obtain⟨g,cap,_,h1,_⟩:=h;have hlt:(left:Int)<(m:Int):=by omega
 go_enter func225,ntmps225
 go_wp2;go_ret2;exact⟨rfl,rfl⟩
theorem Td(g L c f t:Nat)(W:World)(hf:f<t)(ht:t≤L)(hc:L≤c) :
  (Instr.slice 87 (.slice (some ⟨g,0,none⟩) L c) (some (.int .i64 (f:Int))) (some (.int .i64 (t:Int))) none).run prog W=.ok (.slice (some ⟨g,f,none⟩) (t-f) (c-f)) W:=by
 have h1:¬c=f:=by omega
 have h2:f≤t:=by omega
 have h3:t≤c:=by omega
 have h4:f≤c:=by omega
 go_simp
theorem Sn{w:World}{g f t:Nat}{bs:List Nat}(h:Reads w (some ⟨g,0,none⟩) (u8s bs))(hf:f<t)(ht:t≤bs.length):Reads w (some ⟨g,f,none⟩) (u8s ((bs.drop f).take (t-f))):=fun _=>by
 obtain⟨g',off,e,hc⟩:=h (by intro e;have:=aO bs;rw[e]at this;simp at this;omega);injection e with e
 injection e with e1 e2
 subst e1 e2;refine⟨g,f,rfl,fun j hj=>?_⟩;have hj':j<t-f:=by simp[u8s]at hj;omega
 have hc2:=hc (f+j) (by rw[aO];omega);rw[Nat.zero_add]at hc2;have hl:j<((bs.drop f).take (t-f)).length:=by simp;omega
 rw[hc2,bD bs (f+j) (by omega),bD _ j hl];simp
def Rest(w:World)(B:Nat)(A:Option Addr)(X L:Nat):Prop:=
 L=0∨∃g off,A=some ⟨g,off,none⟩∧B≤g∧g<w.heap.size∧∀j,j<L→w.cell? ⟨g,off+j,none⟩=some (.int .i64 ((X/2^j%2:Nat):Int))
theorem Rest.keep{w w':World}{B:Nat}{A:Option Addr}{X L:Nat}{row:Option Nat}(h:Rest w B A X L)(hg:w.grownBy w' row)(hr:∀g,row=some g→g<B):Rest w' B A X L:=by
 rcases h with h | ⟨g,off,e,hB,hl,hc⟩
 ·exact .inl h
 ·refine .inr ⟨g,off,e,hB,Nat.lt_of_lt_of_le hl hg.size,fun j hj=>?_⟩;have hne:some g≠row:=fun e=>by
   have:=hr g e.symm;omega
  exact(World.cell?_of_block (a:=⟨g,off+j,none⟩) (hg.block g hl hne)).trans (hc j hj)
def onA(A:Option Addr)(c q:Nat):Option Addr:=if c=q then A else A.map (·.add q)
theorem Rest.on{w:World}{B:Nat}{A:Option Addr}{X L c q:Nat}(h:Rest w B A X L)(hq:q≤L)(hc:L≤c):Rest w B (onA A c q) (X/2^q) (L-q):=by
 rcases h with h | ⟨g,off,e,hB,hl,hcell⟩
 ·exact .inl (by omega)
 ·by_cases hz:L-q=0
  ·exact .inl hz
  ·refine .inr ⟨g,off+q,?_,hB,hl,fun j hj=>?_⟩
   ·unfold onA;rw[if_neg (by omega),e];show some _=_;congr 1
    unfold Addr.add;split<;>simp_all
   ·rw[Nat.add_assoc,hcell (q+j) (by omega),Nat.div_div_eq_div_mul,←Nat.pow_add]
theorem afL(m:Nat)(h:m<18446744073709551616):IntKind.u64.wrap ((m:Int)/536870912)=(m:Int)/536870912:=by
 rw[IntKind.wrap_u64];omega
theorem aia(m:Nat)(h:m<18446744073709551616):IntKind.u64.wrap ((m:Int)/4294967296)=(m:Int)/4294967296:=by
 rw[IntKind.wrap_u64];omega
theorem aaU(l:List Nat)(w:World)(hl:l.length≤1000000000)(hlt:∀x∈l,x<256) :
  Calls prog 24 #[.string (strOf l)] w fun e w'=>e=.returned (.int .u64 (Bm.sumOf l:Int))∧w=w':=by
 have hsz:=ay l;have qQ:Hid (∀(i:Nat) (W:World) (hi:i<l.length),(Instr.index 9 (.string (strOf l)) (.int .i64 (i:Int))).run prog W=.ok (.int .u8 ((l[i]:Nat):Int)) W):=hid (fun i W hi=>jD l i W hi (hlt _ (List.getElem_mem hi)));have Hlt:=hid hlt;have Hhk:=hid (fun k=>IU Bm.H0 (l.take k) agx);obtain⟨r,hr⟩:∃r,r=Bm.sumOf l:=⟨_,rfl⟩;rw[←hr];have Hr:=hid hr;clear hlt hr;generalize strOf l=s at hsz qQ ⊢;go_enter func24,ntmps24
 go_wp2;go_loop [3,4] (fun x i=>∃k:Nat,k≤l.length∧i=.int .i64 (k:Int)∧x=.int .u64 (iJ Bm.H0 (l.take k):Int)) (fun _ i=>l.length-(intOf i).toNat)
 case atStart=>exact⟨0,by omega,rfl,rfl⟩
 case round=>
  obtain⟨k,hk,rfl,rfl⟩:=hrel;by_cases hkl:k<l.length
  ·have hx:=fun W=>qQ.out k W hkl
   have hb:=Hlt.out l[k] (List.getElem_mem hkl);have hh:=Hhk.out k;have hs:=(rz Bm.H0 l k hkl).symm;have Hs:=hid hs;clear hs;generalize iJ Bm.H0 (l.take k)=y at hh Hs ⊢;generalize l[k]=b at hx hb Hs;have e0:=YE y b hh (by omega);have e1:=ZH y b hh hb;rw[e0]at e1;have e2:=ZI y b;have e3:=afL (Rh y b) (vV y b);have hm:=vV y b;generalize Rh y b=m at e1 e2 e3 hm;generalize yu y b=y' at e2 Hs;generalize y ^^^ b=x at e0 e1;clear Hhk qQ Hlt;go_wp2;go_round
   case rel=>exact⟨k+1,by omega,by go_num,by rw[Hs.out]⟩
   case measure=>simp[intOf];omega
  ·obtain rfl:k=l.length:=by omega
   rw[List.take_length];have hhl:=Hhk.out l.length;rw[List.take_length]at hhl;have hs:acP (iJ Bm.H0 l) l.length=r:=by rw[Hr.out];rfl
   generalize iJ Bm.H0 l=y at hs hhl ⊢;have e1:=afO y l.length;have e2:=afP y l.length;have e3:=aia (Ri y l.length) (vW y l.length);rw[hs]at e2;have hm:=vW y l.length;clear hs;generalize Ri y l.length=m at e1 e2 e3 hm;clear Hhk qQ Hlt Hr;go_wp2;go_ret;exact⟨rfl,rfl⟩
theorem Tf(l:List Nat)(w:World)(hl:l.length≤1000000000)(hlt:∀x∈l,x<256) :
  Calls prog 22 #[.string (strOf l)] w fun e w'=>e=.returned (.int .u64 (Bm.sumOf l:Int))∧Below w.heap.size w w':=by
 have hadd:=fun W=>XH 7640891576956012808 0 l W (by decide) (by decide) hl hlt
 have hsum:=fun W=>XY (iJ 7640891576956012808 l) l.length W
 have hr:acP (iJ 7640891576956012808 l) l.length=Bm.sumOf l:=rfl;rw[show(0+l.length)%18446744073709551616=l.length by omega]at hadd;rw[hr]at hsum;have afU:=hid hadd;have aal:=hid hsum;clear hadd hsum hr hlt;generalize Bm.sumOf l=r at aal ⊢;generalize iJ 7640891576956012808 l=y at afU aal;generalize l.length=n at afU aal;generalize strOf l=s at afU ⊢;go_enter func22,ntmps22
 go_wp2_with fail
 refine(XW w).mono ?_;rintro e w1 ⟨rfl,hb1⟩;have Hb1:=hid hb1;clear hb1;go_wp2_with fail
 refine(afU.out w1).mono ?_;rintro e w2 ⟨rfl,hb2⟩;have Hb2:=hid (Hb1.out.trans (hb2.mono Hb1.out.size));clear hb2 Hb1;go_wp2_with fail
 refine(aal.out w2).mono ?_;rintro e w3 ⟨rfl,hb3⟩;have Hb3:=hid (Hb2.out.trans (hb3.mono Hb2.out.size));clear hb3 Hb2;go_wp2;go_ret;exact⟨rfl,Hb3.out⟩
theorem Ta(g L q:Nat)(W:World)(h:q<L):(Instr.slice 87 (.slice (some ⟨g,0,none⟩) L L) (some (.int .i64 (q:Int))) none none).run prog W=.ok (.slice (some ⟨g,q,none⟩) (L-q) (L-q)) W:=by
 have h1:¬L=q:=by omega
 have h2:q≤L:=by omega
 go_simp
theorem Vr{w:World}{g q L:Nat}{cs t:List Nat}(hr:Row w g 5 (u8s cs))(ht:∀x∈t,x<256)(hle:q+t.length≤cs.length)(hL:t.length≤L)(ty:TypeId) :
  ∃w',(Builtin.copy_ #[87,9] ty #[.slice (some ⟨g,q,none⟩) L L,.string (strOf t)]).run prog w=.ok (goInt (t.length:Int)) w'∧Row w' g 5 (u8s (cs.take q++t++cs.drop (q+t.length)))∧w.grownBy w' (some g):=by
 have hu8:(prog.info? 5).map (·.size)=some 1:=by kernel_rfl
 have h:=Lib.run_copy_row_string (P:=prog) w 87 9 ty 5 g q L L (strOf t) (u8s cs).toArray 5 underlying87 hu8 hr (by rw[ay];exact hL) (by rw[ay];simpa [u8s]using hle);rw[ay]at h;have hb:Lib.byteCells (strOf t).data.toList=u8s t:=by
  simp only[Lib.byteCells,strOf,u8s,List.map_map];apply List.map_congr_left
  intro x hx;simp[UInt8.toNat_ofNat_of_lt' (ht x hx)]
 rw[hb]at h;refine⟨_,h,?_,?_⟩
 ·have e:(u8s cs).take q++u8s t++(u8s cs).drop (q+t.length)=u8s (cs.take q++t++cs.drop (q+t.length)):=by simp[u8s,List.map_take,List.map_drop]
  rw[←e];exact setRow_heap w g _ _ 5 _ hr
 ·exact⟨rfl,rfl,rfl,by simp[World.setRow],fun k _ hn=>setRow_other w g k _ (fun e=>hn (by rw[e]))⟩
theorem XB(r L:Nat)(t suf:List Nat)(ht:t.length=L):(List.replicate (r+L) 0++suf).take r++t++(List.replicate (r+L) 0++suf).drop (r+L)=List.replicate r 0++(t++suf):=by
 rw[List.take_append_of_le_length (by simp),List.take_replicate,Nat.min_eq_left (by omega),List.drop_append,List.length_replicate,Nat.sub_self,List.drop_zero,List.drop_of_length_le (by simp),List.nil_append,List.append_assoc]
theorem iP(b:Nat)(bs:List Nat)(w:World)(hl:bs.length≤100000000)(hbs:∀x∈bs,x<256)(h:CW w b bs) :
  Calls prog 34 #[.pointer (some ⟨b,0,none⟩)] w fun e w'=>e=.returned (.string (strOf bs))∧Below w.heap.size w w':=by
 obtain⟨i0,hi,hz0,hz1,hz2⟩:=info_parts jc;obtain⟨p,ts,h0,hc,e⟩:=h;have c0:=h0.cell 0;have c1:=h0.cell 1;have hbl:=h0.lt;simp only[List.getElem?_cons_zero,List.getElem?_cons_succ]at c0 c1;have Hc:=hid hc;have He:=hid e;have Hbs:=hid hbs;clear h0 hc e hbs;obtain⟨n,hn⟩:∃n,n=bs.length:=⟨_,rfl⟩;rw[←hn]at c1 hl;have Hn:=hid hn;obtain⟨all,hall⟩:∃s,s=strOf bs:=⟨_,rfl⟩;rw[←hall];have BJ:=hid hall;clear hn hall;go_enter func34,ntmps34
 go_wp2_with (at_make;refine wpList_make_full _ rfl _ _ 87 rfl w.heap.size 5 i0 (.int .u8 0) 1 underlying87 hi hz0 hz1 .i64 .i64 _ _ n rfl rfl ?c1 ?c1 ?c2 ?c3 ?c4 ?_)
 case c1=>rfl
 case c2=>rw[hz2];omega
 case c3=>unfold maxLen;omega
 case c4=>exact Nat.le_refl _
 intro w1 hown1 hg1;have hb1:=aJ hg1;have hr1:Row w1 w.heap.size 5 (u8s (List.replicate n 0)):=nI hown1;have d0:w1.cell? ⟨b,0,none⟩=some (.pointer p):=(hb1.cell (p:=⟨b,0,none⟩) hbl).trans c0;have d1:w1.cell? ⟨b,1,none⟩=some (.int .i64 (n:Int)):=(hb1.cell (p:=⟨b,1,none⟩) hbl).trans c1;have Hb1:=hid hb1;have Hr1:=hid hr1;clear hown1 hg1 hb1 hr1 c0 c1;go_wp2;go_loopw [4,5] (fun i p' wr=>∃(A:Nat) (q':Option Addr) (rem:List (List Nat)) (suf:List Nat),i=.int .i64 (A:Int)∧p'=.pointer q'∧Hid (PC w q' rem)∧Hid (Row wr w.heap.size 5 (u8s (List.replicate A 0++suf))) ∧
  Hid (Below w.heap.size w wr)∧Hid (A=rem.reverse.flatten.length)∧Hid (bs=rem.reverse.flatten++suf)∧A≤n) (fun i _ _=>(intOf i).toNat)
 case atStart=>exact⟨n,p,ts,[],rfl,rfl,Hc,by rw[List.append_nil];exact Hr1,Hb1,by unfold Hid;rw[←He.out];exact Hn.out,by unfold Hid;rw[←He.out,List.append_nil],Nat.le_refl _⟩
 case round=>
  obtain⟨A,q',rem,suf,rfl,rfl,hch,hrow,hbel,hA,hbs,hAn⟩:=hrel;clear Hb1 Hr1 d0 d1 Hc He;rcases rem with _ | ⟨t,rem⟩
  ·obtain rfl:q'=none:=hch.out;have akf:bs=suf:=by have:=hbs.out;simpa using this
   have hA0:A=0:=by have:=hA.out;simpa using this
   subst hA0;have hrow2:Row wr w.heap.size 5 (u8s bs):=by have:=hrow.out;rw[akf];simpa using this
   have bO:=IC (m:=n) (c:=n) hrow2 (by rw[Hn.out];exact Nat.le_refl _) Hbs.out;rw[Hn.out,List.take_length,←Hn.out]at bO;rw[←BJ.out]at bO;clear akf hrow hrow2 hch hbs hA;go_wp2;go_ret;exact⟨rfl,hbel.out⟩
  ·obtain⟨g1,q1,rfl,hrp,hne,aeQ⟩:=hch.out;have hg1:=hrp.lt;have k0:=(hbel.out.cell (p:=⟨g1,0,none⟩) hg1).trans (hrp.cell 0);have k1:=(hbel.out.cell (p:=⟨g1,1,none⟩) hg1).trans (hrp.cell 1);simp only[List.getElem?_cons_zero,List.getElem?_cons_succ]at k0 k1;have agG:=hid aeQ;obtain⟨r,hr⟩:∃r,r=rem.reverse.flatten.length:=⟨_,rfl⟩;obtain⟨L,hL⟩:∃L,L=t.length:=⟨_,rfl⟩;have hAr:A=r+L:=by
    have h1:=hA.out;rw[List.reverse_cons,List.flatten_append,List.length_append]at h1;simp at h1;simp[hr,hL,h1]
   have hL0:0<L:=by rw[hL];exact List.length_pos_iff.2 hne
   have agq:bs=rem.reverse.flatten++(t++suf):=by
    have h1:=hbs.out;rw[h1,List.reverse_cons,List.flatten_append];simp
   have abf:suf.length+A=n:=by
    have h1:=congrArg List.length agq;rw[Hn.out,h1,hAr];simp[hr,hL];omega
   have htlt:∀x∈t,x<256:=fun x hx=>Hbs.out x (by rw[agq];simp[hx])
   have hcopy:∃w3,(∀ty,(Builtin.copy_ #[87,9] ty #[.slice (some ⟨w.heap.size,r,none⟩) (n-r) (n-r),.string (strOf t)]).run prog wr.drew=.ok (goInt (L:Int)) w3)∧Row w3 w.heap.size 5 (u8s (List.replicate r 0++(t++suf)))∧Below w.heap.size w w3:=by
    have hrd:Row wr.drew w.heap.size 5 (u8s (List.replicate (r+L) 0++suf)):=by have:=hrow.out;rw[hAr]at this;exact this
    have hcp:=fun ty=>Vr (q:=r) (L:=n-r) hrd htlt (by simp;omega) (by omega) ty
    obtain⟨w3,h1,h2,h3⟩:=hcp 0;rw[←hL,XB r L t suf hL.symm]at h2;rw[←hL]at h1;refine⟨w3,fun ty=>?_,h2,hbel.out.drew.grown h3 (by have:=hbel.out.size;simpa using this) (fun k e=>by injection e with e;omega)⟩;exact h1
   obtain⟨w3,hcp,hrow3,Lg⟩:=hcopy;have hsz:=ay t;rw[←hL]at hsz;have ajq:=hcp 3;have hsub:(A:Int)-(L:Int)=(r:Int):=by omega
   have hrn:r<n:=by omega
   have hLA:L≤A:=by omega
   have hsa:=fun W=>Ta w.heap.size n r W hrn
   have k0':w3.cell? ⟨g1,0,none⟩=some (.pointer q1):=(Lg.cell (p:=⟨g1,0,none⟩) hg1).trans ((hbel.out.cell (p:=⟨g1,0,none⟩) hg1).symm.trans k0);have jS:=hid hrow3;have ZT:=hid Lg;have Hr:=hid hr;have akF:=hid agq;have HAr:=hid hAr;clear aeQ hrp hch hr agq hbs hA abf htlt hrow hrow3 Lg hne hcp hL hAr;generalize strOf t=str at k1 hsz ajq;go_wp2;go_still_tail 7,(by kernel_rfl)
   change wpList _ _ _ _ _ wr.drew;clear hsa;go_wp2;clear ajq;go_roundw
   case rel=>exact⟨r,q1,rem,t++suf,rfl,rfl,agG,jS,ZT,Hr,akF,by omega⟩
   case measure=>simp[intOf];omega
end Go.Proofs.YtgiicohbigiapaaGreat
