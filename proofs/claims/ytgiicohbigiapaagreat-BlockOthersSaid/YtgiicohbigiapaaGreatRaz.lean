/- Contracts, and what they rest on. Conditions: the theorems' premises. -/
import Derived.Test.YtgiicohbigiapaaGreatRay
import Derived.Deep.RegionLaw
import Derived.Deep.DrawnRows
set_option maxHeartbeats 4000000
set_option maxRecDepth 100000
open Go.Lib(hid)
open Go.Proofs.Tryz Go.Proofs.YtgiicohbigiapaaGreat.Bm
namespace Go.Proofs.YtgiicohbigiapaaGreat
open Go.RowKit
namespace Bm
def dU(ls:List Nat)(log k:Nat):List Cel:=(List.range (2^log)).map fun p=>if p<k then(bf ls log p,aB ls log p,aT ls log p)else(0,0,0)
theorem jK(ls:List Nat)(log k:Nat):(dU ls log k).length=2^log:=by simp[dU]
theorem Cq(ls:List Nat)(log:Nat):dU ls log 0=List.replicate (2^log) (0,0,0):=by
 unfold dU;simp only[Nat.not_lt_zero,if_false];rw[List.map_const',List.length_range]
theorem Co(ls:List Nat)(log k:Nat):dU ls log (k+1)=(dU ls log k).set k (bf ls log k,aB ls log k,aT ls log k):=by
 apply List.ext_getElem
 ·simp[jK]
 ·intro p h1 h2;rw[List.getElem_set];simp only[dU,List.getElem_map,List.getElem_range];by_cases e:k=p
  ·subst e;rw[if_pos rfl,if_pos (by omega)]
  ·rw[if_neg e];by_cases h:p<k
   ·rw[if_pos h,if_pos (by omega)]
   ·rw[if_neg h,if_neg (by omega)]
theorem EO(ls:List Nat)(log:Nat):dU ls log (2^log)=nW ls log:=by
 unfold dU nW;apply List.map_congr_left
 intro p hp;rw[if_pos (List.mem_range.1 hp)]
theorem yI(ls:List Nat)(log k:Nat)(h:k<(dU ls log k).length):(dU ls log k)[k]=(0,0,0):=by
 simp only[dU,List.getElem_map,List.getElem_range];rw[if_neg (by omega)]
end Bm
theorem Vk(l:List Cel)(i s B Z:Nat)(h:i<l.length)(hl:l[i]=(0,0,0)):(((c3 l).set (i*3) (.int .u8 (s:Int))).set (i*3+1) (.int .i64 (B:Int))).set (i*3+2) (.int .i64 (Z:Int))=c3 (l.set i (s,B,Z)):=by
 have h1:=(OY l i h s 0 0).1;rw[hl]at h1;rw[h1];have hl2:i<(l.set i (s,0,0)).length:=by simpa using h
 have h2:=aeA (l.set i (s,0,0)) i s B Z hl2 (by rw[List.getElem_set_self]);rw[List.set_set]at h2;exact h2
theorem abx:(prog.info? 112).map (fun i=>(i.zero,i.size,i.bytes))=some (some (.slice none 0 0),1,24):=by kernel_rfl
theorem LX(n:Nat)(h:n≤1000000)(W:World):(Instr.makeSlice 210 (.int .i64 (n:Int)) (.int .i64 (n:Int))).run prog W=.ok (.slice (some ⟨W.heap.size,0,none⟩) n n) (W.alloc (.cells (c3 (List.replicate n (0,0,0))).toArray 248)):=by
 obtain⟨i0,hi,hz0,hz1,hz2⟩:=info_parts Qu;have h1:=run_make (P:=prog) W 210 248 i0 _ underlying210 hi hz0 .i64 .i64 (n:Int) (n:Int) (by omega) (by omega) (by rw[hz2];omega) (by omega);rw[Int.toNat_natCast,hz1,show(Value.agg #[.int .u8 0,.int .i64 0,.int .i64 0]).cells=#[.int .u8 0,.int .i64 0,.int .i64 0]from rfl]at h1;rw[h1,←abJ,Array.toArray_toList]
theorem FQ(n:Nat)(h:n≤1000000)(W:World):(Instr.makeSlice 249 (.int .i64 (n:Int)) (.int .i64 (n:Int))).run prog W=.ok (.slice (some ⟨W.heap.size,0,none⟩) n n) (W.alloc (.cells (List.replicate n (.slice none 0 0)).toArray 112)):=by
 obtain⟨i0,hi,hz0,hz1,hz2⟩:=info_parts abx;have h1:=run_make (P:=prog) W 249 112 i0 _ underlying249 hi hz0 .i64 .i64 (n:Int) (n:Int) (by omega) (by omega) (by rw[hz2];omega) (by omega);rw[Int.toNat_natCast,hz1,show(Value.slice none 0 0).cells=#[.slice none 0 0]from rfl,Nat.mul_one]at h1;rw[h1,←toList_madeCells_one,Array.toArray_toList]
theorem TP(A:Option Addr)(c:Nat)(l:List Int)(log:Int)(w:World)(hl:l.length≤1000000)(hok:∀x∈l,bM x)(Av:bM log)(hr:Reads w A (lQ l))(hf:¬Bm.Fair l log) :
  Calls prog 165 #[.slice A l.length c,.int .i64 log] w fun e w'=>e=.returned (.tuple #[.pointer none,.bool false])∧Below w.heap.size w w':=by
 have h1:=vX A c l log w hl hok Av hr;rw[show Fh l log=false from decide_eq_false hf]at h1;have H1:=hid h1;clear h1 hok Av hr hf;go_enter func165,ntmps165
 go_wp2_with fail
 refine H1.out.mono ?_;rintro e w1 ⟨rfl,hb⟩;go_wp2;go_ret2;exact⟨rfl,hb⟩
theorem zO(w1:World)(t1 t2 t3:TypeId)(l1 l2 l3:List Value) :
  Row (((w1.alloc (.cells l1.toArray t1)).alloc (.cells l2.toArray t2)).alloc (.cells l3.toArray t3)).drew w1.heap.size t1 l1 ∧
  Row (((w1.alloc (.cells l1.toArray t1)).alloc (.cells l2.toArray t2)).alloc (.cells l3.toArray t3)).drew (w1.heap.size+1) t2 l2 ∧
  Row (((w1.alloc (.cells l1.toArray t1)).alloc (.cells l2.toArray t2)).alloc (.cells l3.toArray t3)).drew (w1.heap.size+1+1) t3 l3 ∧
  ∀w:World,Below w.heap.size w w1→Below w.heap.size w (((w1.alloc (.cells l1.toArray t1)).alloc (.cells l2.toArray t2)).alloc (.cells l3.toArray t3)).drew:=by
 have r1:=Row.new w1 t1 l1;have r2:=Row.new (w1.alloc (.cells l1.toArray t1)) t2 l2;have r3:=Row.new ((w1.alloc (.cells l1.toArray t1)).alloc (.cells l2.toArray t2)) t3 l3;have e1:(w1.alloc (.cells l1.toArray t1)).heap.size=w1.heap.size+1:=by simp
 have e2:((w1.alloc (.cells l1.toArray t1)).alloc (.cells l2.toArray t2)).heap.size=w1.heap.size+1+1:=by simp
 rw[e1]at r2;rw[e2]at r3;refine⟨(r1.alloc _).alloc _,r2.alloc _,r3,fun w h=>?_⟩;have hs:=h.size;exact(((h.alloc hs _).alloc (by rw[e1];omega) _).alloc (by rw[e2];omega) _).drew
structure Bld(w W:World)(ls:List Nat)(log kc kf b gc gs gt:Nat)(vs:List Value):Prop where
 tab:Row W b 251 [.int .i64 (log:Int),.slice (some ⟨gc,0,none⟩) (2^log) (2^log),.slice (some ⟨gs,0,none⟩) ls.length ls.length]
 syms:Row W gt 5 (u8s (Bm.tab ls log))
 cells:Row W gc 248 (c3 (dU ls log kc))
 rows:Row W gs 112 vs
 len:vs.length=ls.length
 fam:Fam W w.heap.size vs (aY ls log kf)
 low:w.heap.size≤b∧w.heap.size≤gc∧w.heap.size≤gs
 bel:Below w.heap.size w W
theorem KO{W:World}{b c i x y z:Nat}{v0 v1 v2 u:Value}(h:b≠c)(hc:W.cell? ⟨b,i,none⟩=some u) :
  (((W.setCell ⟨c,x,none⟩ v0).setCell ⟨c,y,none⟩ v1).setCell ⟨c,z,none⟩ v2).cell? ⟨b,i,none⟩=some u:=by
 have h0:∀j,(⟨c,j,none⟩:Addr)≠⟨b,i,none⟩:=fun j e=>h (by injection e with e;exact e.symm)
 rw[World.cell?_setCell_other _ _ _ _ (h0 z),World.cell?_setCell_other _ _ _ _ (h0 y),World.cell?_setCell_other _ _ _ _ (h0 x),hc]
theorem wS{w:World}{g g':Nat}{t t':TypeId}{cs cs':List Value}(h:Row w g t cs)(h':Row w g' t' cs')(hne:t≠t'):g≠g':=by
 rintro rfl;unfold Row at h h';rw[h]at h';injection h' with h'
 injection h' with _ e
 exact hne e
section
variable {w W:World} {ls:List Nat} {log kc k b gc gs gt:Nat} {vs:List Value}
theorem Bld.drewN(h:Bld w W ls log kc k b gc gs gt vs)(n:Nat):Bld w (W.drewN n) ls log kc k b gc gs gt vs:=⟨h.tab,h.syms,h.cells,h.rows,h.len,⟨h.fam.own,h.fam.apart⟩,h.low,below_drewN h.bel n⟩
theorem Bld.below{W':World}(h:Bld w W ls log kc k b gc gs gt vs)(hb:Below W.heap.size W W'):Bld w W' ls log kc k b gc gs gt vs:=
 ⟨aN h.tab hb,aN h.syms hb,aN h.cells hb,aN h.rows hb,h.len,h.fam.below hb,h.low,h.bel.trans (hb.mono h.bel.size)⟩
theorem Bld.push(h:Bld w W ls log kc k b gc gs gt vs){sy:Nat}{v:Value}{r gN cap:Nat}{wN:World}(hsy:sy=bf ls log k)(hv:vs[sy]?=some v)(hr:r=(aY ls log k (bf ls log k)).length)
  (hown:wN.ownsRow w.heap.size 3 1 (.slice (some ⟨gN,0,none⟩) (r+1) cap) (r+1) (aM (aY ls log k sy)++[.int .i64 (k:Int)])) (hg:W.grownBy wN v.ownBlock) (hat:v.ownBlock=some gN∨gN=W.heap.size) :
  Bld w (wN.setCell ⟨gs,sy,none⟩ (.slice (some ⟨gN,0,none⟩) (r+1) cap)) ls log kc (k+1) b gc gs gt (vs.set sy (.slice (some ⟨gN,0,none⟩) (r+1) cap)):=by
 subst hsy;have hk:∀{g:Nat} {t:TypeId} {cs:List Value},Row W g t cs→t≠3→Row wN g t cs:=fun {g t cs} hrow hne=>
  hrow.keep (hg.block g hrow.lt (fun e=>h.fam.Jw hrow hne _ v hv e.symm))
 have r1:=hk h.tab (by decide);have r2:=hk h.syms (by decide);have r3:=hk h.cells (by decide);have r4:=hk h.rows (by decide);have e:=kV ls log k;have hf:Fam wN w.heap.size (vs.set (bf ls log k) (.slice (some ⟨gN,0,none⟩) (r+1) cap)) (aY ls log (k+1)):=
  h.fam.push hv hg hat (by rw[e];simpa [aM]using hown) (by rw[e,List.length_append,←hr];rfl) (fun t ht=>mQ ls log k t (Ne.symm ht))
 have hlow:=h.low;exact⟨r1.far (wS r1 r4 (by decide)) _,r2.far (wS r2 r4 (by decide)) _,r3.far (wS r3 r4 (by decide)) _,r4.aW _ _,by rw[List.length_set];exact h.len,
  hf.far (hf.Jw r4 (by decide)) _,h.low,(h.bel.grown hg h.bel.size (fun q hq=>((h.fam.own _ v hv).lt q hq).1)).setCell (by exact hlow.2.2) _⟩
theorem Bld.cell(h:Bld w W ls log k (k+1) b gc gs gt vs)(hk:k<2^log) :
  Bld w (((W.setCell ⟨gc,k*3,none⟩ (.int .u8 (bf ls log k:Int))).setCell ⟨gc,k*3+1,none⟩ (.int .i64 (aB ls log k:Int))).setCell ⟨gc,k*3+2,none⟩ (.int .i64 (aT ls log k:Int))) ls log (k+1) (k+1) b gc gs gt vs:=by
 have hl:k<(dU ls log k).length:=by rw[jK];exact hk
 have e:=Vk (dU ls log k) k (bf ls log k) (aB ls log k) (aT ls log k) hl (yI ls log k hl);rw[←Co]at e;have hlow:=h.low;have n1:=wS h.tab h.cells (by decide);have n2:=wS h.syms h.cells (by decide);have n4:=wS h.rows h.cells (by decide);have r3:=((h.cells.aW (k*3) (.int .u8 (bf ls log k:Int))).aW (k*3+1) (.int .i64 (aB ls log k:Int))).aW (k*3+2) (.int .i64 (aT ls log k:Int));rw[e]at r3;have hn:=h.fam.Jw h.cells (by decide);exact⟨((h.tab.far n1 _).far n1 _).far n1 _,((h.syms.far n2 _).far n2 _).far n2 _,r3,((h.rows.far n4 _).far n4 _).far n4 _,h.len,((h.fam.far hn _).far hn _).far hn _,h.low,((h.bel.setCell (by exact hlow.2.1) _).setCell (by exact hlow.2.1) _).setCell (by exact hlow.2.1) _⟩
end
theorem GV(A:Option Addr)(c:Nat)(ls:List Nat)(log:Nat)(w:World)(hf:bL ls log)(hr:Reads w A (aM ls))
  (hfair:Calls prog 195 #[.slice A ls.length c,.int .i64 (log:Int)] w fun e w'=>e=.returned (.bool true)∧Below w.heap.size w w') :
  Calls prog 165 #[.slice A ls.length c,.int .i64 (log:Int)] w fun e w'=>∃p,e=.returned (.tuple #[.pointer (some p),.bool true])∧qM w' p ls log∧Below w.heap.size w w':=by
 have Hf:=hid hf;have Hr:=hid hr;have NU:=hid hfair;have hP:=fP log hf.low hf.high;have hl5:=hf.low;have hl9:=hf.high;have hlen:=hf.len;have hsp:∀W,Below w.heap.size w W→Calls prog 197 #[.slice A ls.length c,.int .i64 ((2^log:Nat):Int)] W fun e w'=>∃g,e=.returned (.slice (some ⟨g,0,none⟩) (2^log) (2^log))∧W.heap.size≤g∧Row w' g 5 (u8s (Bm.tab ls log))∧Below W.heap.size W w':=fun W hb=>GY A c ls log W hf (aC hr hb)
 have Hsp:=hid hsp;have hpd:(2:Int)^log=((2^log:Nat):Int):=by simp
 clear hf hr hfair hsp;obtain⟨S,hS⟩:∃S,S=2^log:=⟨_,rfl⟩;rw[←hS]at hP hpd Hsp;have HS:=hid hS;clear hS;have hw:wrap64 (S:Int)=(S:Int):=jk _ (by omega) (by omega);go_enter func165,ntmps165
 go_wp2_with fail
 refine NU.out.mono ?_;rintro e w1 ⟨rfl,hb1⟩;have Hb1:=hid hb1;clear hb1 NU;go_upto_region 4 with fail
 clear hpd hw;go_cut [7] (fun s7 wx=>∃b gc gs,s7=.pointer (some ⟨b,0,none⟩)∧w.heap.size≤b∧w.heap.size≤gc∧w.heap.size≤gs∧Row wx b 251 [.int .i64 (log:Int),.slice (some ⟨gc,0,none⟩) S S,.slice (some ⟨gs,0,none⟩) ls.length ls.length] ∧
  Row wx gc 248 (c3 (List.replicate S (0,0,0)))∧Row wx gs 112 (List.replicate ls.length (.slice none 0 0))∧Below w.heap.size w wx)
 case first=>
  have hm1:=fun W=>LX S (by omega) W
  have hm2:=fun W=>FQ ls.length (by omega) W
  have hz1:=Hb1.out.size;go_region
  all_goals
   go_wp2_with fail
   go_meet
   simp only[←List.toArray_replicate]
  ·obtain⟨r1,r2,r3,r4⟩:=zO w1 248 112 251 (c3 (List.replicate S (0,0,0))) (List.replicate ls.length (.slice none 0 0)) [.int .i64 (log:Int),.slice (some ⟨w1.heap.size,0,none⟩) S S,.slice (some ⟨w1.heap.size+1,0,none⟩) ls.length ls.length];exact⟨_,_,_,rfl,by omega,by omega,by omega,r3,r1,r2,r4 w Hb1.out⟩
  ·obtain⟨r1,r2,r3,r4⟩:=zO w1 112 248 251 (List.replicate ls.length (.slice none 0 0)) (c3 (List.replicate S (0,0,0))) [.int .i64 (log:Int),.slice (some ⟨w1.heap.size+1,0,none⟩) S S,.slice (some ⟨w1.heap.size,0,none⟩) ls.length ls.length];exact⟨_,_,_,rfl,by omega,by omega,by omega,r3,r2,r1,r4 w Hb1.out⟩
 case rest=>
  obtain⟨b,gc,gs,rfl,hlb,hlc,hls,hrb,hrc,hrs,hbx⟩:=hcut;have Hrb:=hid hrb;have Hrc:=hid hrc;have Hrs:=hid hrs;have Hbx:=hid hbx;have akQ:=hid (And.intro hlb (And.intro hlc hls));clear hrb hrc hrs hbx hlb hlc hls Hb1;go_wp2_with fail
  refine(Hsp.out _ Hbx.out).mono ?_;rintro e w2 ⟨gt,rfl,_,hrt,hb2⟩;have ajm:Bld w w2 ls log 0 0 b gc gs gt (List.replicate ls.length (.slice none 0 0)):={
   tab:=by rw[←HS.out];exact aN Hrb.out hb2
   syms:=hrt
   cells:=by rw[Cq,←HS.out];exact aN Hrc.out hb2
   rows:=aN Hrs.out hb2
   len:=List.length_replicate
   fam:=Fam.ahU _ _ _ (fun s=>GD ls log s)
   low:=akQ.out
   bel:=Hbx.out.trans (hb2.mono Hbx.out.size)}
  have aio:=hid ajm;clear ajm hrt hb2 Hrb Hrc Hrs Hbx Hsp;go_wp2;go_loopw [29] (fun i wr=>∃k:Nat,k≤S∧i=.int .i64 (k:Int)∧Hid (∃vs,Bld w wr ls log k k b gc gs gt vs)) (fun i _=>S-(intOf i).toNat)
  case atStart=>exact⟨0,by omega,rfl,hid ⟨_,aio.out⟩⟩
  case round=>
   obtain⟨k,hk,rfl,hB⟩:=hrel;clear aio;obtain⟨vs,hB⟩:=hB.out;by_cases hkS:k<S
   ·have hk2:k<2^log:=by rw[←HS.out];exact hkS
    obtain⟨hsy,hN0⟩:=GQ ls log k Hf.out hk2;obtain⟨n',q1,_,q3,q4,q5,q6⟩:=Dx ls log k Hf.out hk2;rw[List.getElem?_eq_getElem hsy]at q1;injection q1 with q1
    subst q1;rw[←HS.out]at q3;have Qi:oL ls log k=ls[bf ls log k]+(aY ls log k (bf ls log k)).length:=by
     unfold oL nZ;rw[List.getElem?_eq_getElem hsy,Option.getD_some,iN ls log k _ (by omega)]
    have hsv:bf ls log k<vs.length:=by rw[hB.len];exact hsy
    obtain⟨v,hv⟩:∃v,vs[bf ls log k]?=some v:=⟨_,List.getElem?_eq_getElem hsv⟩;obtain⟨A',cap',e1,_,_⟩:=dM (hB.fam.own _ v hv);subst e1;obtain⟨ga,oa,rfl,hca⟩:∃g off,A=some ⟨g,off,none⟩∧wr.cell? ⟨g,off+bf ls log k,none⟩=some (.int .i64 (ls[bf ls log k]:Int)):=by
     obtain⟨g,off,e,hc⟩:=(aC Hr.out hB.bel) (by intro e;have:=congrArg List.length e;rw[aL,List.length_nil]at this;omega);have h1:=hc (bf ls log k) (by rw[aL];exact hsy);rw[bK ls _ hsy]at h1;exact⟨g,off,e,h1⟩
    have cb2:=hB.tab.cell 2;simp only[List.getElem?_cons_succ,List.getElem?_cons_zero]at cb2;have cgs:=(hB.rows.cell (bf ls log k)).trans hv;have ahq:=hB.syms.cell k;have htl:k<(Bm.tab ls log).length:=by rw[bT];exact hk2
    rw[bD _ _ htl,GN ls log k hk2 htl]at ahq;have HB:=hid hB;have Hv:=hid hv;have yA:=hid Qi;obtain⟨r,hr⟩:∃r,r=(aY ls log k (bf ls log k)).length:=⟨_,rfl⟩;rw[←hr]at Hv cgs yA;have alS:r≤512:=by
     rw[hr,iN ls log k _ (by omega)];have h1:=nX (Bm.tab ls log) k (bf ls log k);have h2:=List.count_le_length (a:=bf ls log k) (l:=Bm.tab ls log);rw[bT,←HS.out]at h2;omega
    have Hrl:=hid hr;have Hq6:=hid q6;obtain⟨sy,adx⟩:∃s,s=bf ls log k:=⟨_,rfl⟩;clear hB hv Qi hr q4 q5 q6 htl hk2 hsv;rw[←adx]at cgs ahq;have ahL:sy<ls.length:=by rw[adx];exact hsy
    have hNg:ls[bf ls log k]=ls[sy]:=by congr 1;exact adx.symm
    rw[hNg,←adx]at hca;rw[hNg]at yA q3 hN0;have aem:=hid adx;clear adx hNg;generalize ls[sy]=N at hca yA q3 hN0;have hNr:IntKind.i64.wrap ((N:Int)+(r:Int))=(N:Int)+(r:Int):=IntWalk.i64_in _ (by omega);go_wp2_with fail
    go_quiet (fail)
    have HB1:=hid (HB.out.drewN nq);clear HB hNr hca ahq cgs cb2;generalize (wr.drewN nq)=wr1 at HB1 ⊢;have Hv2:Hid (vs[sy]?=some (Value.slice A' r cap')):=hid (by rw[aem.out];exact Hv.out);obtain⟨Ux,hown0⟩:∃q,q=(Value.slice A' r cap').ownBlock:=⟨_,rfl⟩;have BQ:=hid hown0;clear hown0;have hcb:∀W,wr1.grownBy W Ux→W.cell? ⟨b,2,none⟩=some (.slice (some ⟨gs,0,none⟩) ls.length ls.length):=fun W hW=>by
     have h1:=HB1.out.tab.cell 2;simp only[List.getElem?_cons_succ,List.getElem?_cons_zero]at h1;rw[hW.cell_far _ (by exact HB1.out.tab.lt) (fun e=>HB1.out.fam.Jw HB1.out.tab (by decide) sy _ Hv2.out (by rw[←BQ.out];exact e.symm)),h1]
    have hcs:∀W,wr1.grownBy W Ux→W.cell? ⟨gs,sy,none⟩=some (.slice A' r cap'):=fun W hW=>by
     rw[hW.cell_far _ (by exact HB1.out.rows.lt) (fun e=>HB1.out.fam.Jw HB1.out.rows (by decide) sy _ Hv2.out (by rw[←BQ.out];exact e.symm)),HB1.out.rows.cell sy,Hv2.out]
    have hfs:∀W,wr1.grownBy W Ux→W.frozen? ⟨gs,sy,none⟩=false:=fun W hW=>by
     rw[hW.frozen_far _ (by exact HB1.out.rows.lt) (fun e=>HB1.out.fam.Jw HB1.out.rows (by decide) sy _ Hv2.out (by rw[←BQ.out];exact e.symm)),HB1.out.rows.free sy]
    have Ho0:Hid (wr1.ownsRow w.heap.size 3 1 (.slice A' r cap') r (aM (aY ls log k sy))):=hid (by
     have h1:=HB1.out.fam.own sy _ Hv2.out;rw[show(aY ls log k sy).length=r by rw[aem.out];exact Hrl.out.symm]at h1;exact h1)
    obtain⟨i0,hi,hz0,hz1,hz2⟩:=info_parts gI;go_wp2_with fail
    have hs0:=HB1.out.bel.size;go_cut [] (fun wx=>∃gN cap,Bld w wx ls log k (k+1) b gc gs gt (vs.set sy (.slice (some ⟨gN,0,none⟩) (r+1) cap)))
    case first=>
     have cb:=hcb wr1 (au wr1 Ux);have cs:=hcs wr1 (au wr1 Ux);have fs:=hfs wr1 (au wr1 Ux);have cbA:=hcb (wr1.alloc (.cells #[.int .i64 (k:Int)] 3)) (aD (au wr1 Ux) _);have csA:=hcs (wr1.alloc (.cells #[.int .i64 (k:Int)] 3)) (aD (au wr1 Ux) _);have Hcb:=hid hcb;have Hcs:=hid hcs;have Hfs:=hid hfs;have Hoa:Hid ((wr1.alloc (.cells #[.int .i64 (k:Int)] 3)).drew.ownsRow w.heap.size 3 1 (.slice A' r cap') r (aM (aY ls log k sy))):=hid (Ho0.out.alloc _);have dS:Hid (∀(j:Nat) (u:Value),[Value.int .i64 (k:Int)][j]?=some u→(wr1.alloc (.cells #[.int .i64 (k:Int)] 3)).drew.cell? ((⟨wr1.heap.size,0,none⟩:Addr).add j)=some u):=hid (fun j u hu=>by
      match j,hu with
      | 0,hu=>simp at hu;subst hu;simp[Addr.add])
     clear hcb hcs hfs;go_region_law ((refine step_append_lies ((wr1.alloc (.cells #[.int .i64 (k:Int)] 3)).drew) (by rfl) _ _ _ (by rfl) w.heap.size 3 i0 (.int .i64 0) 1 8 underlying112 hi hz0 hz1 hz2 rfl (by omega) (.slice A' r cap') r (aM (aY ls log k sy)) (by rfl) Hoa.out ⟨wr1.heap.size,0,none⟩ 1 1 [.int .i64 (k:Int)] (by rfl) (by rfl) dS.out (by intro u hu;simp at hu;subst hu;rfl) (by omega) (by unfold maxLen;omega) (by omega) (by simp;omega) (wr1.heap.size+1) (by simp) ?_;intro gN oF wN hoN hgN NC _;have HoN:=hid hoN;have HgN:=hid hgN;have akB:=hid NC;have HGN:Hid (wr1.grownBy wN Ux):=hid ((bA (aD (au wr1 Ux) _)).trans (by rw[BQ.out];exact hgN));have cbN:=Hcb.out wN HGN.out;have csN:=Hcs.out wN HGN.out;have fsN:=Hfs.out wN HGN.out;clear hoN hgN NC))
     all_goals
      go_wp2_with fail
      go_meet
      exact⟨gN,oF,(HB1.out.below (((Below.refl wr1.heap.size wr1).alloc (Nat.le_refl _) (.cells #[.int .i64 (k:Int)] 3)).drew)).push aem.out Hv2.out Hrl.out HoN.out HgN.out (akB.out.imp id (fun h=>h.trans (by simp)))⟩
    case rest=>
     obtain⟨gN,oF,hB2⟩:=hcut;have hk2:k<2^log:=by rw[←HS.out];exact hkS
     have hcc:∀W,Below wc.heap.size wc W→W.cell? ⟨b,1,none⟩=some (.slice (some ⟨gc,0,none⟩) S S):=fun W hW=>by
      have h1:=(aN hB2.tab hW).cell 1;simp only[List.getElem?_cons_succ,List.getElem?_cons_zero]at h1;rw[h1,HS.out]
     have hkl:k<(dU ls log k).length:=by rw[jK];exact hk2
     obtain⟨g0,g1,g2⟩:=OW (dU ls log k) k hkl;rw[yI]at g0 g1 g2;have hd0:∀W,Below wc.heap.size wc W→W.cell? ⟨gc,k*3,none⟩=some (.int .u8 0):=fun W hW=>((aN hB2.cells hW).cell (k*3)).trans g0
     have hd1:∀W,Below wc.heap.size wc W→W.cell? ⟨gc,k*3+1,none⟩=some (.int .i64 0):=fun W hW=>((aN hB2.cells hW).cell (k*3+1)).trans g1
     have hd2:∀W,Below wc.heap.size wc W→W.cell? ⟨gc,k*3+2,none⟩=some (.int .i64 0):=fun W hW=>((aN hB2.cells hW).cell (k*3+2)).trans g2
     have hf0:∀W,Below wc.heap.size wc W→W.frozen? ⟨gc,k*3,none⟩=false:=fun W hW=>(aN hB2.cells hW).free (k*3)
     have hf1:∀W,Below wc.heap.size wc W→W.frozen? ⟨gc,k*3+1,none⟩=false:=fun W hW=>(aN hB2.cells hW).free (k*3+1)
     have hf2:∀W,Below wc.heap.size wc W→W.frozen? ⟨gc,k*3+2,none⟩=false:=fun W hW=>(aN hB2.cells hW).free (k*3+2)
     have HB2:=hid hB2;have ajl:b≠gc:=wS hB2.tab hB2.cells (by decide);clear hB2;have hcf:∀W,Calls prog 198 #[.int .u8 (sy:Int),.int .i64 ((N:Int)+(r:Int)),.int .i64 (log:Int)] W fun e w'=>e=.returned (.agg #[.int .u8 (sy:Int),.int .i64 (aB ls log k:Int),.int .i64 (aT ls log k:Int)])∧Below W.heap.size W w':=fun W=>by
      have h1:=Nc sy (oL ls log k) log W (by rw[yA.out];omega) Hq6.out hl9;unfold aB aT;rw[yA.out]at h1 ⊢;rw[Int.natCast_add]at h1;exact h1
     have Hcf:=hid hcf;have afq:∀W',Below wc.heap.size wc W'→Hid (∃vs,Bld w (((W'.setCell ⟨gc,k*3,none⟩ (.int .u8 (sy:Int))).setCell ⟨gc,k*3+1,none⟩ (.int .i64 (aB ls log k:Int))).setCell ⟨gc,k*3+2,none⟩ (.int .i64 (aT ls log k:Int))) ls log (k+1) (k+1) b gc gs gt vs):=fun W' hW=>hid ⟨_,by rw[aem.out];exact(HB2.out.below hW).cell hk2⟩
     have aiK:=hid afq;clear afq g0 g1 g2 hkl hcf HB1 Hv Hv2 Ho0 BQ yA aem Hrl Hq6 hcb hcs hfs hi hz0 hz1 hz2;generalize aB ls log k=bb at *;generalize aT ls log k=zz at *;go_wp2_with fail
     refine wp_region_held_drew (S:=(fun W=>W.cell? ⟨b,1,none⟩=some (.slice (some ⟨gc,0,none⟩) S S))) (by kernel_rfl) (by exact hcc _ (Below.refl _ _).drew) (fun hHeld=>?_);refine wpAnyH_take (i:=0) (oi:={dst:=some 63,op:=.move (.tmp 7),type:=216,pos:= "spread.go:27",after:=#[],guard:=none}) (v:=?_) rfl (by kernel_rfl) (by kernel_rfl) (by kernel_rfl) (fun _ _ _ h=>h) (Or.inl ⟨by rfl,?_⟩) (by assumption) ?_;rotate_left
     ·(intro w hSw;(try dsimp only at hSw);go_simp;(try with_reducible rfl))
     try simp only[Act.put,List.setIfInBounds_toArray,List.set_cons_zero,List.set_cons_succ]
     refine wpAnyH_take (i:=1) (oi:={dst:=some 64,op:=.nilCheck (.tmp 63),type:=0,pos:= "spread.go:27",after:=#[{on:=0,ground:=.data}],guard:=none}) (v:=?_) rfl (by kernel_rfl) (by kernel_rfl) (by kernel_rfl) (fun _ _ _ h=>h) (Or.inl ⟨by rfl,?_⟩) (by assumption) ?_;rotate_left
     ·(intro w hSw;(try dsimp only at hSw);go_simp;(try with_reducible rfl))
     try simp only[Act.put,List.setIfInBounds_toArray,List.set_cons_zero,List.set_cons_succ]
     refine wpAnyH_take (i:=2) (oi:={dst:=some 65,op:=.fieldAddr 251 (.tmp 64) 1,type:=0,pos:= "spread.go:27",after:=#[{on:=1,ground:=.data}],guard:=none}) (v:=?_) rfl (by kernel_rfl) (by kernel_rfl) (by kernel_rfl) (fun _ _ _ h=>h) (Or.inl ⟨by rfl,?_⟩) (by assumption) ?_;rotate_left
     ·(intro w hSw;(try dsimp only at hSw);go_simp;(try with_reducible rfl))
     try simp only[Act.put,List.setIfInBounds_toArray,List.set_cons_zero,List.set_cons_succ]
     refine wpAnyH_take (i:=3) (oi:={dst:=some 66,op:=.load 210 (.tmp 65),type:=210,pos:= "spread.go:27",after:=#[{on:=2,ground:=.data}],guard:=none}) (v:=?_) rfl (by kernel_rfl) (by kernel_rfl) (by kernel_rfl) (fun _ _ _ h=>h) (Or.inl ⟨by rfl,?_⟩) (by assumption) ?_;rotate_left
     ·(intro w hSw;(try dsimp only at hSw);go_simp;(try with_reducible rfl))
     try simp only[Act.put,List.setIfInBounds_toArray,List.set_cons_zero,List.set_cons_succ]
     refine wpAnyH_take (i:=4) (oi:={dst:=some 67,op:=.move (.tmp 8),type:=3,pos:= "spread.go:27",after:=#[],guard:=none}) (v:=?_) rfl (by kernel_rfl) (by kernel_rfl) (by kernel_rfl) (fun _ _ _ h=>h) (Or.inl ⟨by rfl,?_⟩) (by assumption) ?_;rotate_left
     ·(intro w hSw;(try dsimp only at hSw);go_simp;(try with_reducible rfl))
     try simp only[Act.put,List.setIfInBounds_toArray,List.set_cons_zero,List.set_cons_succ]
     refine wpAnyH_take (i:=5) (oi:={dst:=some 68,op:=.move (.tmp 9),type:=5,pos:= "spread.go:27",after:=#[],guard:=none}) (v:=?_) rfl (by kernel_rfl) (by kernel_rfl) (by kernel_rfl) (fun _ _ _ h=>h) (Or.inl ⟨by rfl,?_⟩) (by assumption) ?_;rotate_left
     ·(intro w hSw;(try dsimp only at hSw);go_simp;(try with_reducible rfl))
     try simp only[Act.put,List.setIfInBounds_toArray,List.set_cons_zero,List.set_cons_succ]
     refine wpAnyH_take (i:=6) (oi:={dst:=some 69,op:=.move (.tmp 10),type:=3,pos:= "spread.go:27",after:=#[],guard:=none}) (v:=?_) rfl (by kernel_rfl) (by kernel_rfl) (by kernel_rfl) (fun _ _ _ h=>h) (Or.inl ⟨by rfl,?_⟩) (by assumption) ?_;rotate_left
     ·(intro w hSw;(try dsimp only at hSw);go_simp;(try with_reducible rfl))
     try simp only[Act.put,List.setIfInBounds_toArray,List.set_cons_zero,List.set_cons_succ]
     refine wpAnyH_take (i:=7) (oi:={dst:=some 70,op:=.move (.tmp 1),type:=3,pos:= "spread.go:27",after:=#[],guard:=none}) (v:=?_) rfl (by kernel_rfl) (by kernel_rfl) (by kernel_rfl) (fun _ _ _ h=>h) (Or.inl ⟨by rfl,?_⟩) (by assumption) ?_;rotate_left
     ·(intro w hSw;(try dsimp only at hSw);go_simp;(try with_reducible rfl))
     try simp only[Act.put,List.setIfInBounds_toArray,List.set_cons_zero,List.set_cons_succ]
     refine wpAnyH_ready (rs:=[8]) (by kernel_rfl) (by simp) ?_;refine AllReadyH.cons (o:={dst:=some 71,op:=.call {callee:=.value (.func 198),args:=#[.tmp 68,.tmp 69,.tmp 70],argTypes:=#[5,3,3]},type:=248,pos:= "spread.go:27",after:=#[{on:=5,ground:=.data},{on:=6,ground:=.data},{on:=7,ground:=.data}],guard:=none}) rfl (fun K hK=>?_) AllReadyH.nil;go_simp
     (go_at_call 198;refine(Hcf.out _).mono ?_;rintro e wC ⟨rfl,hbC⟩;have HwC:=hid ((Below.refl wc.heap.size wc).drew.trans hbC);clear hbC;have k0:=hd0 wC HwC.out;have k1:=hd1 wC HwC.out;have k2:=hd2 wC HwC.out;have m0:=hf0 wC HwC.out;have m1:=hf1 wC HwC.out;have m2:=hf2 wC HwC.out)
     go_simp;refine hK.out _ _ (by exact hcc wC HwC.out) (fun hHeld=>?_);clear hK K
     try simp only[Act.put,List.setIfInBounds_toArray,List.set_cons_zero,List.set_cons_succ]
     refine wpAnyH_take (i:=9) (oi:={dst:=some 72,op:=.indexAddr 210 (.tmp 66) (.tmp 67),type:=0,pos:= "spread.go:27",after:=#[{on:=3,ground:=.data},{on:=4,ground:=.data},{on:=0,ground:=.phase},{on:=1,ground:=.phase},{on:=2,ground:=.phase},{on:=3,ground:=.phase},{on:=4,ground:=.phase},{on:=5,ground:=.phase},{on:=6,ground:=.phase},{on:=7,ground:=.phase},{on:=8,ground:=.phase}],guard:=none}) (v:=?_) rfl (by kernel_rfl) (by kernel_rfl) (by kernel_rfl) (fun _ _ _ h=>h) (Or.inl ⟨by rfl,?_⟩) (by assumption) ?_;rotate_left
     ·(intro w hSw;(try dsimp only at hSw);go_simp;(try with_reducible rfl))
     try simp only[Act.put,List.setIfInBounds_toArray,List.set_cons_zero,List.set_cons_succ]
     refine wpAnyH_ready (rs:=[10]) (by kernel_rfl) (by simp) ?_;refine AllReadyH.cons (o:={dst:=none,op:=.store 248 (.tmp 72) (.tmp 71),type:=0,pos:= "spread.go:27",after:=#[{on:=9,ground:=.data},{on:=8,ground:=.data},{on:=8,ground:=.chain},{on:=0,ground:=.phase},{on:=1,ground:=.phase},{on:=2,ground:=.phase},{on:=3,ground:=.phase},{on:=4,ground:=.phase},{on:=5,ground:=.phase},{on:=6,ground:=.phase},{on:=7,ground:=.phase},{on:=8,ground:=.phase}],guard:=none}) rfl (fun K hK=>?_) AllReadyH.nil;go_simp;refine hK.out _ _ (by exact KO ajl (hcc wC HwC.out)) (fun hHeld=>?_);clear hK K
     try simp only[Act.put,List.setIfInBounds_toArray,List.set_cons_zero,List.set_cons_succ]
     refine wpAnyH_done (by kernel_rfl) ?_ _;have HR:=aiK.out wC HwC.out;clear hcc hd0 hd1 hd2 hf0 hf1 hf2 k0 k1 k2 m0 m1 m2 aiK Hcf HB2 ajl;go_wp2;go_roundw
     case rel=>exact⟨k+1,by omega,by go_num,HR⟩
     case measure=>simp[intOf];omega
   ·obtain rfl:k=S:=by omega
    have hst:qM wr ⟨b,0,none⟩ ls log:=by
     refine⟨b,gc,gs,rfl,hB.tab,?_,vs,hB.rows,hB.len,fun s hs=>?_⟩
     ·have h1:=hB.cells;rw[HS.out,EO]at h1;exact h1
     ·have hsv:s<vs.length:=by rw[hB.len];exact hs
      have h1:=hB.fam.own s vs[s] (List.getElem?_eq_getElem hsv);obtain⟨A',c',e1,e2,_⟩:=dM h1;rw[HS.out,zK ls log s Hf.out]at e1;rw[HS.out]at e2;exact⟨A',c',by rw[List.getElem?_eq_getElem hsv,e1],e2⟩
    have Hst:=hid hst;have jm:=hid hB.bel;clear hB hst;go_wp2;go_ret2;exact⟨_,rfl,Hst.out,jm.out⟩
theorem TI(A:Option Addr)(c:Nat)(l:List Int)(log:Int)(w:World)(hl:l.length≤1000000)(hok:∀x∈l,bM x)(Av:bM log)(hr:Reads w A (lQ l))(hf:Bm.Fair l log) :
  Calls prog 165 #[.slice A l.length c,.int .i64 log] w fun e w'=>∃p,e=.returned (.tuple #[.pointer (some p),.bool true])∧qM w' p (l.map Int.toNat) log.toNat∧Below w.heap.size w w':=by
 have h1:=vX A c l log w hl hok Av hr;rw[show Fh l log=true from decide_eq_true hf]at h1;have hls:aM (l.map Int.toNat)=lQ l:=by rw[←bJ,IQ l log hf]
 have hl9:(log.toNat:Int)=log:=by have:=hf.1;omega
 have h2:=GV A c (l.map Int.toNat) log.toNat w (PK l log hf) (by rw[hls];exact hr) (by rw[hl9,List.length_map];exact h1);rw[hl9,List.length_map]at h2;exact h2
theorem ZK:ahn qM where
 keep:=fun w W p ls log h hb=>bY w W p ls log h hb
 build:=TI
 abR:=TP
 cell:=fun w p ls log st hf h _=>qE w p ls log st hf h
 aaC:=fun w st _=>TQ w st
 size:=fun w p ls log _ h=>(eu w p ls log h).mono fun e w' ⟨he,hw⟩=>⟨he,0,by subst hw;rfl⟩
 acF:=fun w=>(Er w).mono fun e w' ⟨he,hw⟩=>⟨he,0,by subst hw;rfl⟩
 ahS:=fun w p ls log _ h=>(qG w p ls log h).mono fun e w' ⟨he,hw⟩=>⟨he,0,by subst hw;rfl⟩
 afz:=fun w=>(Yn w).mono fun e w' ⟨he,hw⟩=>⟨he,0,by subst hw;rfl⟩
 next:=fun w p ls log st more hf h _ _=>xE w p ls log st more hf h
 back:=fun w p ls log st s hf h _ hs=>En w p ls log st s hf h hs
theorem BA(t:List Nat)(p:List Nat×Nat)(h:qH t=some p):xB 4096 (some t)=(p.1,some (t.drop p.2))∧p.1.length≤4096:=by
 unfold qH at h;split at h
 ·next hc=>
  injection h with h
  subst h;dsimp only;unfold xB;rw[mI 4096 t hc.1 (by omega)];simp only[gW];rw[if_pos (by rw[List.length_drop];exact hc.2.2),List.drop_drop];exact⟨rfl,by rw[List.length_take];omega⟩
 ·cases h
theorem Bz(t:List Nat)(h:qH t=none):xB 4096 (some t)=([],none):=by
 unfold qH at h;split at h
 ·cases h
 ·next hc=>
  unfold xB;by_cases h0:0<(aj t).2∧((aj t).1:Int)≤4096
  ·rw[mI 4096 t h0.1 h0.2];simp only[gW];rw[if_neg (by rw[List.length_drop];omega)]
  ·rw[yY 4096 t h0];rfl
theorem Ia(t:List Nat)(p:List Nat×Nat)(h:qH t=some p)(hlt:∀x∈t,x<256):∀x∈p.1,x<256:=by
 unfold qH at h;split at h
 ·injection h with h
  subst h;exact gQ (bZ hlt _) _
 ·cases h
theorem Xn(c b pos:Nat)(bs:List Nat)(w:World)(hc:c<28)(hs:bs.length≤100000)(hbs:∀x∈bs,x<256)(hle:pos+exK c≤8*bs.length)(h:RS w b 0 bs pos) :
  Calls prog 149 #[.int .u8 (c:Int),.pointer (some ⟨b,0,none⟩)] w fun e w'=>e=.returned (.tuple #[.int .i64 (NI c (aS bs/2^pos):Int),.bool true])∧RS w' b 0 bs (pos+exK c)∧w.grownBy w' (some b):=by
 have hx0:exK c≤15:=by unfold exK;split<;>omega
 have hE:cK c=(exK c:Int):=by unfold cK exK;split;rfl;rw[if_neg (by omega)]
 have ZW:=hid (kg w c (by omega));have hmax:max (cK c) 0=(exK c:Int):=by rw[hE];omega
 have hdec:decide (0≤cK c)=true:=decide_eq_true (by rw[hE];omega);rw[hmax,hdec]at ZW;have Ht:=hid (jN b 0 bs pos (exK c) w (by omega) hbs (by omega) hle h);have hm:=Nat.mod_lt (aS bs/2^pos) (Nat.two_pow_pos (exK c));have hP:2^exK c≤2^15:=Nat.pow_le_pow_right (by omega) hx0;have h15:(2:Nat)^15=32768:=by decide
 have hval:iF c (aS bs/2^pos%2^exK c)=some (NI c (aS bs/2^pos)):=by
  unfold iF NI;unfold exK at hm ⊢;by_cases h16:c<16
  ·simp only[if_pos h16];rw[Nat.pow_zero,Nat.mod_one,if_pos rfl]
  ·simp only[if_neg h16]at hm ⊢;rw[if_neg (by omega),if_pos hm]
 have Hv:=hid (fun W=>Di W c (aS bs/2^pos%2^exK c) (by omega) (by omega));rw[hval]at Hv;dsimp only at Hv;clear hval hE hmax hdec h hbs hm;generalize aS bs/2^pos%2^exK c=m at *;generalize NI c (aS bs/2^pos)=v at *;obtain⟨q,hq⟩:∃q,q=pos+exK c:=⟨_,rfl⟩;rw[←hq]at Ht ⊢;clear hq;generalize exK c=x at *;go_enter func149,ntmps149
 go_wp2_with fail
 refine ZW.out.mono ?_;rintro e w' ⟨rfl,rfl⟩;go_wp2_with fail
 refine Ht.out.mono ?_;rintro e w2 ⟨rfl,hr2,hg2⟩;have Hr2:=hid hr2;have Hg2:=hid hg2;clear hr2 hg2 Ht ZW;go_wp2_with fail
 refine(Hv.out w2).mono ?_;rintro e w3 ⟨rfl,hb3⟩;have Hr3:=hid (Hr2.out.below hb3);have Hg3:=hid (bF Hg2.out (ak hb3 _));clear hb3 Hr2 Hg2 Hv;go_wp2;go_ret2;exact⟨rfl,Hr3.out,Hg3.out⟩
theorem acs(c b pos:Nat)(bs:List Nat)(w:World)(hc:c<28)(hs:bs.length≤100000)(hp:pos≤8*bs.length)(hle:8*bs.length-pos<exK c)(h:RS w b 0 bs pos) :
  Calls prog 149 #[.int .u8 (c:Int),.pointer (some ⟨b,0,none⟩)] w fun e w'=>(∃v:Int,e=.returned (.tuple #[.int .i64 v,.bool false]))∧w.grownBy w' (some b):=by
 have hx0:exK c≤15:=by unfold exK;split<;>omega
 have hE:cK c=(exK c:Int):=by unfold cK exK;split;rfl;rw[if_neg (by omega)]
 have ZW:=hid (kg w c (by omega));have hmax:max (cK c) 0=(exK c:Int):=by rw[hE];omega
 have hdec:decide (0≤cK c)=true:=decide_eq_true (by rw[hE];omega);rw[hmax,hdec]at ZW;have Ht:=hid (qC b 0 bs pos (exK c) w (by omega) hp (by omega) hle h);have Hv:Hid (∀W,Calls prog 186 #[.int .u8 (c:Int),.int .u32 0] W fun e w'=>(∃(v:Int) (z:Bool),e=.returned (.tuple #[.int .i64 v,.bool z]))∧Below W.heap.size W w'):=hid (fun W=>(Di W c 0 (by omega) (by omega)).mono fun e w' ⟨he,hb⟩=>⟨by
  cases hv:iF c 0 with
  | none=>rw[hv]at he;exact⟨_,_,he⟩
  | some g=>rw[hv]at he;exact⟨_,_,he⟩,hb⟩)
 clear hE hmax hdec h hle;generalize exK c=x at *;go_enter func149,ntmps149
 go_wp2_with fail
 refine ZW.out.mono ?_;rintro e w' ⟨rfl,rfl⟩;go_wp2_with fail
 refine Ht.out.mono ?_;rintro e w2 ⟨rfl,k,rfl⟩;clear Ht ZW;go_wp2_with fail
 refine(Hv.out _).mono ?_;rintro e w3 ⟨⟨v,z,rfl⟩,hb3⟩;have Hg3:=hid (bF (bg (au w (some b)) k) (ak hb3 _));clear hb3 Hv;go_wp2;go_ret2;exact⟨⟨v,rfl⟩,Hg3.out⟩
def alo(w':World)(e:Ending):Option (List Nat×Nat)→Prop
 | none=>e=.returned (.tuple #[.pointer none,.bool false])
 | some t=>∃p,e=.returned (.tuple #[.pointer (some p),.bool true])∧qM w' p t.1 t.2
namespace Bm
theorem Lp(hd:List Nat)(t:List Nat×Nat)(h:headD hd=some t):bL t.1 t.2:=by
 unfold headD at h;split at h
 ·cases h
 ·next u hu=>
  split at h
  ·injection h with h
   subst h;exact(sw _ _ u.1 u.2.1 u.2.2 hu).1
  ·cases h
end Bm
theorem Xv(hd:List Nat)(w:World)(hl:hd.length≤4096)(hlt:∀x∈hd,x<256) :
  Calls prog 210 #[.string (strOf hd)] w fun e w'=>alo w' e (Bm.headD hd)∧Below w.heap.size w w':=by
 obtain⟨w1,cap,bO,hcell,hb1⟩:=bU w hd hlt;have hrs:Reads w1 (some ⟨w.heap.size,0,none⟩) (u8s hd):=fun _=>⟨_,_,rfl,fun j hj=>by
  rw[aO]at hj;rw[Nat.zero_add,hcell j hj,bD hd j hj]⟩
 have xX:=hid (qb (some ⟨w.heap.size,0,none⟩) cap hd w1 hlt hrs);have Hb1:=hid hb1;have htake:=fun W b (h:RS W b 0 hd 0)=>Lm W b 0 0 hd (by omega) hlt (by omega) h
 rw[Nat.pow_zero,Nat.div_one,Nat.sub_zero]at htake;have uS:=hid (fun W b pos (hp:pos≤8*hd.length) (h:RS W b 0 hd pos)=>Eu b pos hd W (by omega) hlt hp h);have hres:Bm.headD hd=(match Bm.takeA (aS hd) (8*hd.length)with | none=>none | some t=>if Mw (aS hd) (8*hd.length) t.2.2=true then some (t.1,t.2.1)else none):=rfl;rw[hres];have hfair:=fun l lg e' (h:Bm.takeA (aS hd) (8*hd.length)=some (l,lg,e'))=>sw _ _ l lg e' h
 clear hres hcell hrs hb1;cases htk:Bm.takeA (aS hd) (8*hd.length)with
 | none=>
  rw[htk]at htake;unfold aaq at htake;dsimp only at htake ⊢;have Htk:=hid htake;clear htake hfair htk hlt;generalize strOf hd=sd at *;go_enter func210,ntmps210
  go_wp2_with fail
  refine xX.out.mono ?_;rintro e w2 ⟨rfl,hr2,hb2⟩;have Ht2:=hid (Htk.out w2 _ hr2);have Hb2:=hid (Hb1.out.trans (hb2.mono Hb1.out.size));have Hsz:=hid Hb1.out.size;clear hr2 hb2 xX Hb1 Htk bO;go_wp2_with fail
  refine Ht2.out.mono ?_;rintro e w3 ⟨⟨A,c,rfl⟩,hg3,_⟩;have Hb3:=hid (Hb2.out.grown hg3 Hb2.out.size (fun x e=>by injection e with e;have:=Hsz.out;omega));clear hg3 Ht2 Hb2;go_wp2;go_ret2;exact⟨rfl,Hb3.out⟩
 | some t=>
  obtain⟨ls,lg,e'⟩:=t;obtain⟨hf,he'⟩:=hfair ls lg e' htk;rw[htk]at htake;unfold aaq at htake;dsimp only at htake ⊢;have Htk:=hid htake;have hfl:=hf.len;have hfI:=La ls lg hf;have h9:=hf.high;have YP:Hid (∀A c W,Reads W A (aM ls)→Calls prog 165 #[.slice A ls.length c,.int .i64 (lg:Int)] W fun e w'=>∃p,e=.returned (.tuple #[.pointer (some p),.bool true])∧qM w' p ls lg∧Below W.heap.size W w'):=hid (fun A c W h1=>by
   have h2:=ZK.build A c (ls.map (fun n:Nat=>(n:Int))) (lg:Int) W (by rw[List.length_map];omega) (fun x hx=>by
    have:=hfI.2.2.2.1 x hx;unfold bM;omega) (by unfold bM;omega) (by rw[bJ];exact h1) hfI
   rw[List.length_map,Int.toNat_natCast]at h2;have adr:(ls.map (fun n:Nat=>(n:Int))).map Int.toNat=ls:=by
    rw[List.map_map];conv=>rhs;rw[←List.map_id ls]
    apply List.map_congr_left
    intro x _;rfl
   rw[adr]at h2;exact h2)
  have hen:∀W b,RS W b 0 hd (8*hd.length-e')→Calls prog 151 #[.pointer (some ⟨b,0,none⟩)] W fun e w'=>e=.returned (.bool (Mw (aS hd) (8*hd.length) e'))∧W.grownBy w' (some b):=fun W b h=>by
   have h1:=uS.out W b (8*hd.length-e') (by omega) h;rw[show 8*hd.length-(8*hd.length-e')=e' by omega]at h1;exact h1
  have Hen:=hid hen;clear htake hfair htk hlt hfI hf uS hen;generalize Mw (aS hd) (8*hd.length) e'=r at *;generalize strOf hd=sd at *;go_enter func210,ntmps210
  go_wp2_with fail
  refine xX.out.mono ?_;rintro e w2 ⟨rfl,hr2,hb2⟩;have Ht2:=hid (Htk.out w2 _ hr2);have Hb2:=hid (Hb1.out.trans (hb2.mono Hb1.out.size));have hsz:=Hb1.out.size;have hlt2:=hr2.2.2.2;clear hr2 hb2 xX Hb1 Htk bO;generalize w1.heap.size=b at *;go_wp2_with fail
  refine Ht2.out.mono ?_;rintro e w3 ⟨⟨A,c,rfl,hrd,hA⟩,hg3,hr3⟩;have Hb3:=hid (Hb2.out.grown hg3 Hb2.out.size (fun x e=>by injection e with e;omega));have Hrd:=hid hrd;have HA:=hid hA;have aiv:=hid (Hen.out w3 b (hr3 _ rfl));clear hg3 Ht2 Hb2 hrd hA hr3 Hen;go_wp2_with fail
  refine aiv.out.mono ?_;rintro e w4 ⟨rfl,hg4⟩;have Hb4:=hid (Hb3.out.grown hg4 Hb3.out.size (fun x e=>by injection e with e;omega));have Hbd:=hid (YP.out A c w4 (kD Hrd.out (fun a e=>by have:=HA.out a e;omega) hg4));clear hg4 aiv Hb3 Hrd HA YP;cases r with
  | false=>
   go_wp2;go_ret2;exact⟨rfl,Hb4.out⟩
  | true=>
   go_wp2_with fail
   refine Hbd.out.mono ?_;rintro e w5 ⟨p,rfl,hst,hb5⟩;have Hb5:=hid (Hb4.out.trans (hb5.mono Hb4.out.size));have Hst:=hid hst;clear hst hb5 Hbd Hb4;go_wp2;go_ret2;exact⟨⟨p,rfl,Hst.out⟩,Hb5.out⟩
end Go.Proofs.YtgiicohbigiapaaGreat
