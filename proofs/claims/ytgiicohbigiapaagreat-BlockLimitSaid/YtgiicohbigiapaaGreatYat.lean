/- Contracts, and what they rest on. Conditions: the theorems' premises. -/
import Derived.Test.YtgiicohbigiapaaGreatYar
import Derived.Test.YtgiicohbigiapaaGreatYam
import Derived.Test.YtgiicohbigiapaaGreatYas
import Derived.Deep.RegionHeld3
import Derived.Deep.RegionLaw
import Derived.Deep.DrawnRows
set_option maxHeartbeats 4000000
set_option maxRecDepth 100000
open Go.Lib(hid)
open Go.Proofs.Tryz Go.Proofs.YtgiicohbigiapaaGreat.Bm
namespace Go.Proofs.YtgiicohbigiapaaGreat
open Go.RowKit
theorem RD{w:World}{g off:Nat}{xs:List Value}(h:Reads w (some ⟨g,off,none⟩) xs)(hne:xs≠[]):g<w.heap.size:=by
 obtain⟨g',off',e,hc⟩:=h hne;injection e with e
 injection e with e1 e2
 subst e1 e2;have h0:0<xs.length:=List.length_pos_iff.2 hne;have h1:=hc 0 h0;rw[List.getElem?_eq_getElem h0]at h1;exact World.block_lt_of_cell? w _ h1
theorem WS.below{w w':World}{b off N n:Nat}(h:WS w b off N n)(hb:Below w.heap.size w w'):WS w' b off N n:=h.keep (row:=none) (aj hb none) (by simp) (by simp)
theorem RS.below{w w':World}{b off pos:Nat}{bs:List Nat}(h:RS w b off bs pos)(hb:Below w.heap.size w w'):RS w' b off bs pos:=h.keep (row:=none) (aj hb none) (by simp)
namespace Bm
def dS(ls:List Nat)(log k:Nat):List Cel:=(List.range (2^log)).map fun p=>if p<k then(bf ls log p,aB ls log p,aS ls log p)else(0,0,0)
theorem jE(ls:List Nat)(log k:Nat):(dS ls log k).length=2^log:=by simp[dS]
theorem BS(ls:List Nat)(log:Nat):dS ls log 0=List.replicate (2^log) (0,0,0):=by
 unfold dS;simp only[Nat.not_lt_zero,if_false];rw[List.map_const',List.length_range]
theorem BR(ls:List Nat)(log k:Nat):dS ls log (k+1)=(dS ls log k).set k (bf ls log k,aB ls log k,aS ls log k):=by
 apply List.ext_getElem
 ·simp[jE]
 ·intro p h1 h2;rw[List.getElem_set];simp only[dS,List.getElem_map,List.getElem_range];by_cases e:k=p
  ·subst e;rw[if_pos rfl,if_pos (by omega)]
  ·rw[if_neg e];by_cases h:p<k
   ·rw[if_pos h,if_pos (by omega)]
   ·rw[if_neg h,if_neg (by omega)]
theorem Ey(ls:List Nat)(log:Nat):dS ls log (2^log)=nO ls log:=by
 unfold dS nO;apply List.map_congr_left
 intro p hp;rw[if_pos (List.mem_range.1 hp)]
theorem yg(ls:List Nat)(log k:Nat)(h:k<(dS ls log k).length):(dS ls log k)[k]=(0,0,0):=by
 simp only[dS,List.getElem_map,List.getElem_range];rw[if_neg (by omega)]
end Bm
theorem UA(l:List Cel)(i s B Z:Nat)(h:i<l.length)(hl:l[i]=(0,0,0)):(((c3 l).set (i*3) (.int .u8 (s:Int))).set (i*3+1) (.int .i64 (B:Int))).set (i*3+2) (.int .i64 (Z:Int))=c3 (l.set i (s,B,Z)):=by
 have h1:=(OA l i h s 0 0).1;rw[hl]at h1;rw[h1];have hl2:i<(l.set i (s,0,0)).length:=by simpa using h
 have h2:=adT (l.set i (s,0,0)) i s B Z hl2 (by rw[List.getElem_set_self]);rw[List.set_set]at h2;exact h2
theorem aaM:(prog.info? 112).map (fun i=>(i.zero,i.size,i.bytes))=some (some (.slice none 0 0),1,24):=by kernel_rfl
theorem Lp(n:Nat)(h:n≤1000000)(W:World):(Instr.makeSlice 210 (.int .i64 (n:Int)) (.int .i64 (n:Int))).run prog W=.ok (.slice (some ⟨W.heap.size,0,none⟩) n n) (W.alloc (.cells (c3 (List.replicate n (0,0,0))).toArray 248)):=by
 obtain⟨i0,hi,hz0,hz1,hz2⟩:=info_parts PZ;have h1:=run_make (P:=prog) W 210 248 i0 _ underlying210 hi hz0 .i64 .i64 (n:Int) (n:Int) (by omega) (by omega) (by rw[hz2];omega) (by omega);rw[Int.toNat_natCast,hz1,show(Value.agg #[.int .u8 0,.int .i64 0,.int .i64 0]).cells=#[.int .u8 0,.int .i64 0,.int .i64 0]from rfl]at h1;rw[h1,←abb,Array.toArray_toList]
theorem Fx(n:Nat)(h:n≤1000000)(W:World):(Instr.makeSlice 249 (.int .i64 (n:Int)) (.int .i64 (n:Int))).run prog W=.ok (.slice (some ⟨W.heap.size,0,none⟩) n n) (W.alloc (.cells (List.replicate n (.slice none 0 0)).toArray 112)):=by
 obtain⟨i0,hi,hz0,hz1,hz2⟩:=info_parts aaM;have h1:=run_make (P:=prog) W 249 112 i0 _ underlying249 hi hz0 .i64 .i64 (n:Int) (n:Int) (by omega) (by omega) (by rw[hz2];omega) (by omega);rw[Int.toNat_natCast,hz1,show(Value.slice none 0 0).cells=#[.slice none 0 0]from rfl,Nat.mul_one]at h1;rw[h1,←toList_madeCells_one,Array.toArray_toList]
theorem Tf(A:Option Addr)(c:Nat)(l:List Int)(log:Int)(w:World)(hl:l.length≤1000000)(hok:∀x∈l,bN x)(Ac:bN log)(hr:Reads w A (lI l))(hf:¬Bm.Fair l log) :
  Calls prog 165 #[.slice A l.length c,.int .i64 log] w fun e w'=>e=.returned (.tuple #[.pointer none,.bool false])∧Below w.heap.size w w':=by
 have h1:=vI A c l log w hl hok Ac hr;rw[show EN l log=false from decide_eq_false hf]at h1;have H1:=hid h1;clear h1 hok Ac hr hf;go_enter func165,ntmps165
 go_wp2_with fail
 refine H1.out.mono ?_;rintro e w1 ⟨rfl,hb⟩;go_wp2;go_ret2;exact⟨rfl,hb⟩
theorem zx(w1:World)(t1 t2 t3:TypeId)(l1 l2 l3:List Value) :
  Row (((w1.alloc (.cells l1.toArray t1)).alloc (.cells l2.toArray t2)).alloc (.cells l3.toArray t3)).drew w1.heap.size t1 l1 ∧
  Row (((w1.alloc (.cells l1.toArray t1)).alloc (.cells l2.toArray t2)).alloc (.cells l3.toArray t3)).drew (w1.heap.size+1) t2 l2 ∧
  Row (((w1.alloc (.cells l1.toArray t1)).alloc (.cells l2.toArray t2)).alloc (.cells l3.toArray t3)).drew (w1.heap.size+1+1) t3 l3 ∧
  ∀w:World,Below w.heap.size w w1→Below w.heap.size w (((w1.alloc (.cells l1.toArray t1)).alloc (.cells l2.toArray t2)).alloc (.cells l3.toArray t3)).drew:=by
 have r1:=Row.new w1 t1 l1;have r2:=Row.new (w1.alloc (.cells l1.toArray t1)) t2 l2;have r3:=Row.new ((w1.alloc (.cells l1.toArray t1)).alloc (.cells l2.toArray t2)) t3 l3;have e1:(w1.alloc (.cells l1.toArray t1)).heap.size=w1.heap.size+1:=by simp
 have e2:((w1.alloc (.cells l1.toArray t1)).alloc (.cells l2.toArray t2)).heap.size=w1.heap.size+1+1:=by simp
 rw[e1]at r2;rw[e2]at r3;refine⟨(r1.alloc _).alloc _,r2.alloc _,r3,fun w h=>?_⟩;have hs:=h.size;exact(((h.alloc hs _).alloc (by rw[e1];omega) _).alloc (by rw[e2];omega) _).drew
structure Bld(w W:World)(ls:List Nat)(log kc kf b gc gs gt:Nat)(vs:List Value):Prop where
 tab:Row W b 251 [.int .i64 (log:Int),.slice (some ⟨gc,0,none⟩) (2^log) (2^log),.slice (some ⟨gs,0,none⟩) ls.length ls.length]
 syms:Row W gt 5 (u8s (Bm.tab ls log))
 cells:Row W gc 248 (c3 (dS ls log kc))
 rows:Row W gs 112 vs
 len:vs.length=ls.length
 fam:Fam W w.heap.size vs (aX ls log kf)
 low:w.heap.size≤b∧w.heap.size≤gc∧w.heap.size≤gs
 bel:Below w.heap.size w W
theorem Ku{W:World}{b c i x y z:Nat}{v0 v1 v2 u:Value}(h:b≠c)(hc:W.cell? ⟨b,i,none⟩=some u) :
  (((W.setCell ⟨c,x,none⟩ v0).setCell ⟨c,y,none⟩ v1).setCell ⟨c,z,none⟩ v2).cell? ⟨b,i,none⟩=some u:=by
 have h0:∀j,(⟨c,j,none⟩:Addr)≠⟨b,i,none⟩:=fun j e=>h (by injection e with e;exact e.symm)
 rw[World.cell?_setCell_other _ _ _ _ (h0 z),World.cell?_setCell_other _ _ _ _ (h0 y),World.cell?_setCell_other _ _ _ _ (h0 x),hc]
theorem vZ{w:World}{g g':Nat}{t t':TypeId}{cs cs':List Value}(h:Row w g t cs)(h':Row w g' t' cs')(hne:t≠t'):g≠g':=by
 rintro rfl;unfold Row at h h';rw[h]at h';injection h' with h'
 injection h' with _ e
 exact hne e
section
variable {w W:World} {ls:List Nat} {log kc k b gc gs gt:Nat} {vs:List Value}
theorem Bld.drewN(h:Bld w W ls log kc k b gc gs gt vs)(n:Nat):Bld w (W.drewN n) ls log kc k b gc gs gt vs:=⟨h.tab,h.syms,h.cells,h.rows,h.len,⟨h.fam.own,h.fam.apart⟩,h.low,below_drewN h.bel n⟩
theorem Bld.below{W':World}(h:Bld w W ls log kc k b gc gs gt vs)(hb:Below W.heap.size W W'):Bld w W' ls log kc k b gc gs gt vs:=
 ⟨aN h.tab hb,aN h.syms hb,aN h.cells hb,aN h.rows hb,h.len,h.fam.below hb,h.low,h.bel.trans (hb.mono h.bel.size)⟩
theorem Bld.push(h:Bld w W ls log kc k b gc gs gt vs){sy:Nat}{v:Value}{r gN cap:Nat}{wN:World}(hsy:sy=bf ls log k)(hv:vs[sy]?=some v)(hr:r=(aX ls log k (bf ls log k)).length)
  (hown:wN.ownsRow w.heap.size 3 1 (.slice (some ⟨gN,0,none⟩) (r+1) cap) (r+1) (aL (aX ls log k sy)++[.int .i64 (k:Int)])) (hg:W.grownBy wN v.ownBlock) (hat:v.ownBlock=some gN∨gN=W.heap.size) :
  Bld w (wN.setCell ⟨gs,sy,none⟩ (.slice (some ⟨gN,0,none⟩) (r+1) cap)) ls log kc (k+1) b gc gs gt (vs.set sy (.slice (some ⟨gN,0,none⟩) (r+1) cap)):=by
 subst hsy;have hk:∀{g:Nat} {t:TypeId} {cs:List Value},Row W g t cs→t≠3→Row wN g t cs:=fun {g t cs} hrow hne=>
  hrow.keep (hg.block g hrow.lt (fun e=>h.fam.Jh hrow hne _ v hv e.symm))
 have r1:=hk h.tab (by decide);have r2:=hk h.syms (by decide);have r3:=hk h.cells (by decide);have r4:=hk h.rows (by decide);have e:=kN ls log k;have hf:Fam wN w.heap.size (vs.set (bf ls log k) (.slice (some ⟨gN,0,none⟩) (r+1) cap)) (aX ls log (k+1)):=
  h.fam.push hv hg hat (by rw[e];simpa [aL]using hown) (by rw[e,List.length_append,←hr];rfl) (fun t ht=>mG ls log k t (Ne.symm ht))
 have hlow:=h.low;exact⟨r1.far (vZ r1 r4 (by decide)) _,r2.far (vZ r2 r4 (by decide)) _,r3.far (vZ r3 r4 (by decide)) _,r4.aY _ _,by rw[List.length_set];exact h.len,
  hf.far (hf.Jh r4 (by decide)) _,h.low,(h.bel.grown hg h.bel.size (fun q hq=>((h.fam.own _ v hv).lt q hq).1)).setCell (by exact hlow.2.2) _⟩
theorem Bld.cell(h:Bld w W ls log k (k+1) b gc gs gt vs)(hk:k<2^log) :
  Bld w (((W.setCell ⟨gc,k*3,none⟩ (.int .u8 (bf ls log k:Int))).setCell ⟨gc,k*3+1,none⟩ (.int .i64 (aB ls log k:Int))).setCell ⟨gc,k*3+2,none⟩ (.int .i64 (aS ls log k:Int))) ls log (k+1) (k+1) b gc gs gt vs:=by
 have hl:k<(dS ls log k).length:=by rw[jE];exact hk
 have e:=UA (dS ls log k) k (bf ls log k) (aB ls log k) (aS ls log k) hl (yg ls log k hl);rw[←BR]at e;have hlow:=h.low;have n1:=vZ h.tab h.cells (by decide);have n2:=vZ h.syms h.cells (by decide);have n4:=vZ h.rows h.cells (by decide);have r3:=((h.cells.aY (k*3) (.int .u8 (bf ls log k:Int))).aY (k*3+1) (.int .i64 (aB ls log k:Int))).aY (k*3+2) (.int .i64 (aS ls log k:Int));rw[e]at r3;have hn:=h.fam.Jh h.cells (by decide);exact⟨((h.tab.far n1 _).far n1 _).far n1 _,((h.syms.far n2 _).far n2 _).far n2 _,r3,((h.rows.far n4 _).far n4 _).far n4 _,h.len,((h.fam.far hn _).far hn _).far hn _,h.low,((h.bel.setCell (by exact hlow.2.1) _).setCell (by exact hlow.2.1) _).setCell (by exact hlow.2.1) _⟩
end
theorem Gz(A:Option Addr)(c:Nat)(ls:List Nat)(log:Nat)(w:World)(hf:bL ls log)(hr:Reads w A (aL ls))
  (hfair:Calls prog 195 #[.slice A ls.length c,.int .i64 (log:Int)] w fun e w'=>e=.returned (.bool true)∧Below w.heap.size w w') :
  Calls prog 165 #[.slice A ls.length c,.int .i64 (log:Int)] w fun e w'=>∃p,e=.returned (.tuple #[.pointer (some p),.bool true])∧qE w' p ls log∧Below w.heap.size w w':=by
 have Hf:=hid hf;have Hr:=hid hr;have Nw:=hid hfair;have hP:=fK log hf.low hf.high;have hl5:=hf.low;have hl9:=hf.high;have hlen:=hf.len;have hsp:∀W,Below w.heap.size w W→Calls prog 197 #[.slice A ls.length c,.int .i64 ((2^log:Nat):Int)] W fun e w'=>∃g,e=.returned (.slice (some ⟨g,0,none⟩) (2^log) (2^log))∧W.heap.size≤g∧Row w' g 5 (u8s (Bm.tab ls log))∧Below W.heap.size W w':=fun W hb=>GD A c ls log W hf (aC hr hb)
 have Hsp:=hid hsp;have hpd:(2:Int)^log=((2^log:Nat):Int):=by simp
 clear hf hr hfair hsp;obtain⟨S,hS⟩:∃S,S=2^log:=⟨_,rfl⟩;rw[←hS]at hP hpd Hsp;have HS:=hid hS;clear hS;have hw:wrap64 (S:Int)=(S:Int):=je _ (by omega) (by omega);go_enter func165,ntmps165
 go_wp2_with fail
 refine Nw.out.mono ?_;rintro e w1 ⟨rfl,hb1⟩;have Hb1:=hid hb1;clear hb1 Nw;go_upto_region 4 with fail
 clear hpd hw;go_cut [7] (fun s7 wx=>∃b gc gs,s7=.pointer (some ⟨b,0,none⟩)∧w.heap.size≤b∧w.heap.size≤gc∧w.heap.size≤gs∧Row wx b 251 [.int .i64 (log:Int),.slice (some ⟨gc,0,none⟩) S S,.slice (some ⟨gs,0,none⟩) ls.length ls.length] ∧
  Row wx gc 248 (c3 (List.replicate S (0,0,0)))∧Row wx gs 112 (List.replicate ls.length (.slice none 0 0))∧Below w.heap.size w wx)
 case first=>
  have hm1:=fun W=>Lp S (by omega) W
  have hm2:=fun W=>Fx ls.length (by omega) W
  have hz1:=Hb1.out.size;go_region
  all_goals
   go_wp2_with fail
   go_meet
   simp only[←List.toArray_replicate]
  ·obtain⟨r1,r2,r3,r4⟩:=zx w1 248 112 251 (c3 (List.replicate S (0,0,0))) (List.replicate ls.length (.slice none 0 0)) [.int .i64 (log:Int),.slice (some ⟨w1.heap.size,0,none⟩) S S,.slice (some ⟨w1.heap.size+1,0,none⟩) ls.length ls.length];exact⟨_,_,_,rfl,by omega,by omega,by omega,r3,r1,r2,r4 w Hb1.out⟩
  ·obtain⟨r1,r2,r3,r4⟩:=zx w1 112 248 251 (List.replicate ls.length (.slice none 0 0)) (c3 (List.replicate S (0,0,0))) [.int .i64 (log:Int),.slice (some ⟨w1.heap.size+1,0,none⟩) S S,.slice (some ⟨w1.heap.size,0,none⟩) ls.length ls.length];exact⟨_,_,_,rfl,by omega,by omega,by omega,r3,r2,r1,r4 w Hb1.out⟩
 case rest=>
  obtain⟨b,gc,gs,rfl,hlb,hlc,hls,hrb,hrc,hrs,hbx⟩:=hcut;have Hrb:=hid hrb;have Hrc:=hid hrc;have Hrs:=hid hrs;have Hbx:=hid hbx;have akf:=hid (And.intro hlb (And.intro hlc hls));clear hrb hrc hrs hbx hlb hlc hls Hb1;go_wp2_with fail
  refine(Hsp.out _ Hbx.out).mono ?_;rintro e w2 ⟨gt,rfl,_,hrt,hb2⟩;have aiB:Bld w w2 ls log 0 0 b gc gs gt (List.replicate ls.length (.slice none 0 0)):={
   tab:=by rw[←HS.out];exact aN Hrb.out hb2
   syms:=hrt
   cells:=by rw[BS,←HS.out];exact aN Hrc.out hb2
   rows:=aN Hrs.out hb2
   len:=List.length_replicate
   fam:=Fam.ahj _ _ _ (fun s=>Gm ls log s)
   low:=akf.out
   bel:=Hbx.out.trans (hb2.mono Hbx.out.size)}
  have ahz:=hid aiB;clear aiB hrt hb2 Hrb Hrc Hrs Hbx Hsp;go_wp2;go_loopw [29] (fun i wr=>∃k:Nat,k≤S∧i=.int .i64 (k:Int)∧Hid (∃vs,Bld w wr ls log k k b gc gs gt vs)) (fun i _=>S-(intOf i).toNat)
  case atStart=>exact⟨0,by omega,rfl,hid ⟨_,ahz.out⟩⟩
  case round=>
   obtain⟨k,hk,rfl,hB⟩:=hrel;clear ahz;obtain⟨vs,hB⟩:=hB.out;by_cases hkS:k<S
   ·have hk2:k<2^log:=by rw[←HS.out];exact hkS
    obtain⟨hsy,hN0⟩:=Gw ls log k Hf.out hk2;obtain⟨n',q1,_,q3,q4,q5,q6⟩:=Dg ls log k Hf.out hk2;rw[List.getElem?_eq_getElem hsy]at q1;injection q1 with q1
    subst q1;rw[←HS.out]at q3;have PE:ow ls log k=ls[bf ls log k]+(aX ls log k (bf ls log k)).length:=by
     unfold ow nR;rw[List.getElem?_eq_getElem hsy,Option.getD_some,iJ ls log k _ (by omega)]
    have hsv:bf ls log k<vs.length:=by rw[hB.len];exact hsy
    obtain⟨v,hv⟩:∃v,vs[bf ls log k]?=some v:=⟨_,List.getElem?_eq_getElem hsv⟩;obtain⟨A',cap',e1,_,_⟩:=dL (hB.fam.own _ v hv);subst e1;obtain⟨ga,oa,rfl,hca⟩:∃g off,A=some ⟨g,off,none⟩∧wr.cell? ⟨g,off+bf ls log k,none⟩=some (.int .i64 (ls[bf ls log k]:Int)):=by
     obtain⟨g,off,e,hc⟩:=(aC Hr.out hB.bel) (by intro e;have:=congrArg List.length e;rw[aM,List.length_nil]at this;omega);have h1:=hc (bf ls log k) (by rw[aM];exact hsy);rw[bK ls _ hsy]at h1;exact⟨g,off,e,h1⟩
    have cb2:=hB.tab.cell 2;simp only[List.getElem?_cons_succ,List.getElem?_cons_zero]at cb2;have cgs:=(hB.rows.cell (bf ls log k)).trans hv;have agG:=hB.syms.cell k;have htl:k<(Bm.tab ls log).length:=by rw[bS];exact hk2
    rw[bD _ _ htl,Gv ls log k hk2 htl]at agG;have HB:=hid hB;have Hv:=hid hv;have xS:=hid PE;obtain⟨r,hr⟩:∃r,r=(aX ls log k (bf ls log k)).length:=⟨_,rfl⟩;rw[←hr]at Hv cgs xS;have alf:r≤512:=by
     rw[hr,iJ ls log k _ (by omega)];have h1:=nP (Bm.tab ls log) k (bf ls log k);have h2:=List.count_le_length (a:=bf ls log k) (l:=Bm.tab ls log);rw[bS,←HS.out]at h2;omega
    have Hrl:=hid hr;have Hq6:=hid q6;obtain⟨sy,acN⟩:∃s,s=bf ls log k:=⟨_,rfl⟩;clear hB hv PE hr q4 q5 q6 htl hk2 hsv;rw[←acN]at cgs agG;have ahc:sy<ls.length:=by rw[acN];exact hsy
    have hNg:ls[bf ls log k]=ls[sy]:=by congr 1;exact acN.symm
    rw[hNg,←acN]at hca;rw[hNg]at xS q3 hN0;have adG:=hid acN;clear acN hNg;generalize ls[sy]=N at hca xS q3 hN0;have hNr:IntKind.i64.wrap ((N:Int)+(r:Int))=(N:Int)+(r:Int):=IntWalk.i64_in _ (by omega);go_wp2_with fail
    go_quiet (fail)
    have HB1:=hid (HB.out.drewN nq);clear HB hNr hca agG cgs cb2;generalize (wr.drewN nq)=wr1 at HB1 ⊢;have Hv2:Hid (vs[sy]?=some (Value.slice A' r cap')):=hid (by rw[adG.out];exact Hv.out);obtain⟨TV,hown0⟩:∃q,q=(Value.slice A' r cap').ownBlock:=⟨_,rfl⟩;have Bt:=hid hown0;clear hown0;have hcb:∀W,wr1.grownBy W TV→W.cell? ⟨b,2,none⟩=some (.slice (some ⟨gs,0,none⟩) ls.length ls.length):=fun W hW=>by
     have h1:=HB1.out.tab.cell 2;simp only[List.getElem?_cons_succ,List.getElem?_cons_zero]at h1;rw[hW.cell_far _ (by exact HB1.out.tab.lt) (fun e=>HB1.out.fam.Jh HB1.out.tab (by decide) sy _ Hv2.out (by rw[←Bt.out];exact e.symm)),h1]
    have hcs:∀W,wr1.grownBy W TV→W.cell? ⟨gs,sy,none⟩=some (.slice A' r cap'):=fun W hW=>by
     rw[hW.cell_far _ (by exact HB1.out.rows.lt) (fun e=>HB1.out.fam.Jh HB1.out.rows (by decide) sy _ Hv2.out (by rw[←Bt.out];exact e.symm)),HB1.out.rows.cell sy,Hv2.out]
    have hfs:∀W,wr1.grownBy W TV→W.frozen? ⟨gs,sy,none⟩=false:=fun W hW=>by
     rw[hW.frozen_far _ (by exact HB1.out.rows.lt) (fun e=>HB1.out.fam.Jh HB1.out.rows (by decide) sy _ Hv2.out (by rw[←Bt.out];exact e.symm)),HB1.out.rows.free sy]
    have Ho0:Hid (wr1.ownsRow w.heap.size 3 1 (.slice A' r cap') r (aL (aX ls log k sy))):=hid (by
     have h1:=HB1.out.fam.own sy _ Hv2.out;rw[show(aX ls log k sy).length=r by rw[adG.out];exact Hrl.out.symm]at h1;exact h1)
    obtain⟨i0,hi,hz0,hz1,hz2⟩:=info_parts gH;go_wp2_with fail
    have hs0:=HB1.out.bel.size;go_cut [] (fun wx=>∃gN cap,Bld w wx ls log k (k+1) b gc gs gt (vs.set sy (.slice (some ⟨gN,0,none⟩) (r+1) cap)))
    case first=>
     have cb:=hcb wr1 (ak wr1 TV);have cs:=hcs wr1 (ak wr1 TV);have fs:=hfs wr1 (ak wr1 TV);have cbA:=hcb (wr1.alloc (.cells #[.int .i64 (k:Int)] 3)) (aD (ak wr1 TV) _);have csA:=hcs (wr1.alloc (.cells #[.int .i64 (k:Int)] 3)) (aD (ak wr1 TV) _);have Hcb:=hid hcb;have Hcs:=hid hcs;have Hfs:=hid hfs;have Hoa:Hid ((wr1.alloc (.cells #[.int .i64 (k:Int)] 3)).drew.ownsRow w.heap.size 3 1 (.slice A' r cap') r (aL (aX ls log k sy))):=hid (Ho0.out.alloc _);have dR:Hid (∀(j:Nat) (u:Value),[Value.int .i64 (k:Int)][j]?=some u→(wr1.alloc (.cells #[.int .i64 (k:Int)] 3)).drew.cell? ((⟨wr1.heap.size,0,none⟩:Addr).add j)=some u):=hid (fun j u hu=>by
      match j,hu with
      | 0,hu=>simp at hu;subst hu;simp[Addr.add])
     clear hcb hcs hfs;go_region_law ((refine step_append_lies ((wr1.alloc (.cells #[.int .i64 (k:Int)] 3)).drew) (by rfl) _ _ _ (by rfl) w.heap.size 3 i0 (.int .i64 0) 1 8 underlying112 hi hz0 hz1 hz2 rfl (by omega) (.slice A' r cap') r (aL (aX ls log k sy)) (by rfl) Hoa.out ⟨wr1.heap.size,0,none⟩ 1 1 [.int .i64 (k:Int)] (by rfl) (by rfl) dR.out (by intro u hu;simp at hu;subst hu;rfl) (by omega) (by unfold maxLen;omega) (by omega) (by simp;omega) (wr1.heap.size+1) (by simp) ?_;intro gN nX wN hoN hgN Nf _;have HoN:=hid hoN;have HgN:=hid hgN;have ajP:=hid Nf;have HGN:Hid (wr1.grownBy wN TV):=hid ((bA (aD (ak wr1 TV) _)).trans (by rw[Bt.out];exact hgN));have cbN:=Hcb.out wN HGN.out;have csN:=Hcs.out wN HGN.out;have fsN:=Hfs.out wN HGN.out;clear hoN hgN Nf))
     all_goals
      go_wp2_with fail
      go_meet
      exact⟨gN,nX,(HB1.out.below (((Below.refl wr1.heap.size wr1).alloc (Nat.le_refl _) (.cells #[.int .i64 (k:Int)] 3)).drew)).push adG.out Hv2.out Hrl.out HoN.out HgN.out (ajP.out.imp id (fun h=>h.trans (by simp)))⟩
    case rest=>
     obtain⟨gN,nX,hB2⟩:=hcut;have hk2:k<2^log:=by rw[←HS.out];exact hkS
     have hcc:∀W,Below wc.heap.size wc W→W.cell? ⟨b,1,none⟩=some (.slice (some ⟨gc,0,none⟩) S S):=fun W hW=>by
      have h1:=(aN hB2.tab hW).cell 1;simp only[List.getElem?_cons_succ,List.getElem?_cons_zero]at h1;rw[h1,HS.out]
     have hkl:k<(dS ls log k).length:=by rw[jE];exact hk2
     obtain⟨g0,g1,g2⟩:=Oy (dS ls log k) k hkl;rw[yg]at g0 g1 g2;have hd0:∀W,Below wc.heap.size wc W→W.cell? ⟨gc,k*3,none⟩=some (.int .u8 0):=fun W hW=>((aN hB2.cells hW).cell (k*3)).trans g0
     have hd1:∀W,Below wc.heap.size wc W→W.cell? ⟨gc,k*3+1,none⟩=some (.int .i64 0):=fun W hW=>((aN hB2.cells hW).cell (k*3+1)).trans g1
     have hd2:∀W,Below wc.heap.size wc W→W.cell? ⟨gc,k*3+2,none⟩=some (.int .i64 0):=fun W hW=>((aN hB2.cells hW).cell (k*3+2)).trans g2
     have hf0:∀W,Below wc.heap.size wc W→W.frozen? ⟨gc,k*3,none⟩=false:=fun W hW=>(aN hB2.cells hW).free (k*3)
     have hf1:∀W,Below wc.heap.size wc W→W.frozen? ⟨gc,k*3+1,none⟩=false:=fun W hW=>(aN hB2.cells hW).free (k*3+1)
     have hf2:∀W,Below wc.heap.size wc W→W.frozen? ⟨gc,k*3+2,none⟩=false:=fun W hW=>(aN hB2.cells hW).free (k*3+2)
     have HB2:=hid hB2;have aiA:b≠gc:=vZ hB2.tab hB2.cells (by decide);clear hB2;have hcf:∀W,Calls prog 198 #[.int .u8 (sy:Int),.int .i64 ((N:Int)+(r:Int)),.int .i64 (log:Int)] W fun e w'=>e=.returned (.agg #[.int .u8 (sy:Int),.int .i64 (aB ls log k:Int),.int .i64 (aS ls log k:Int)])∧Below W.heap.size W w':=fun W=>by
      have h1:=MG sy (ow ls log k) log W (by rw[xS.out];omega) Hq6.out hl9;unfold aB aS;rw[xS.out]at h1 ⊢;rw[Int.natCast_add]at h1;exact h1
     have Hcf:=hid hcf;have aeK:∀W',Below wc.heap.size wc W'→Hid (∃vs,Bld w (((W'.setCell ⟨gc,k*3,none⟩ (.int .u8 (sy:Int))).setCell ⟨gc,k*3+1,none⟩ (.int .i64 (aB ls log k:Int))).setCell ⟨gc,k*3+2,none⟩ (.int .i64 (aS ls log k:Int))) ls log (k+1) (k+1) b gc gs gt vs):=fun W' hW=>hid ⟨_,by rw[adG.out];exact(HB2.out.below hW).cell hk2⟩
     have ahV:=hid aeK;clear aeK g0 g1 g2 hkl hcf HB1 Hv Hv2 Ho0 Bt xS adG Hrl Hq6 hcb hcs hfs hi hz0 hz1 hz2;generalize aB ls log k=bb at *;generalize aS ls log k=zz at *;go_wp2_with fail
     refine wp_region_held_drew (S:=(fun W=>W.cell? ⟨b,1,none⟩=some (.slice (some ⟨gc,0,none⟩) S S))) (by kernel_rfl) (by exact hcc _ (Below.refl _ _).drew) (fun hHeld=>?_);refine wpAnyH_take (i:=0) (oi:={dst:=some 63,op:=.move (.tmp 7),type:=216,pos:= "spread.go:27",after:=#[],guard:=none}) (v:=?_) rfl (by kernel_rfl) (by kernel_rfl) (by kernel_rfl) (fun _ _ _ h=>h) (Or.inl ⟨by rfl,?_⟩) (by assumption) ?_;rotate_left
     ·(intro w hSw;(try dsimp only at hSw);go_simp;(try with_reducible rfl))
     try simp only[Act.put,List.setIfInBounds_toArray,List.set_cons_zero,List.set_cons_succ]
     refine wpAnyH_take (i:=1) (oi:={dst:=some 64,op:=.nilCheck (.tmp 63),type:=0,pos:= "spread.go:27",after:=#[{on:=0,ground:=.data}],guard:=none}) (v:=?_) rfl (by kernel_rfl) (by kernel_rfl) (by kernel_rfl) (fun _ _ _ h=>h) (Or.inl ⟨by rfl,?_⟩) (by assumption) ?_;rotate_left
     ·(intro w hSw;(try dsimp only at hSw);go_simp;(try with_reducible rfl))
     try simp only[Act.put,List.setIfInBounds_toArray,List.set_cons_zero,List.set_cons_succ]
     refine wpAnyH_take (i:=2) (oi:={dst:=some 65,op:=.fieldAddr 251 (.tmp 64) 1,type:=0,pos:= "spread.go:27",after:=#[{on:=1,ground:=.data}],guard:=none}) (v:=?_) rfl (by kernel_rfl) (by kernel_rfl) (by kernel_rfl) (fun _ _ _ h=>h) (Or.inl ⟨by rfl,?_⟩) (by assumption) ?_;rotate_left
     ·(intro w hSw;(try dsimp only at hSw);go_simp;(try with_reducible rfl))
     try simp only[Act.put,List.setIfInBounds_toArray,List.set_cons_zero,List.set_cons_succ]
     refine wpAnyH_take (i:=3) (oi:={dst:=some 66,op:=.load 210 (.tmp 65),type:=210,pos:= "spread.go:27",after:=#[{on:=2,ground:=.data}],guard:=none}) (v:=?_) rfl (by kernel_rfl) (by kernel_rfl) (by kernel_rfl) (fun _ _ _ h=>h) (Or.inl ⟨by rfl,?_⟩) (by assumption) ?_;rotate_left
     ·(intro w hSw;(try dsimp only at hSw);go_simp;(try with_reducible rfl))
     try simp only[Act.put,List.setIfInBounds_toArray,List.set_cons_zero,List.set_cons_succ]
     refine wpAnyH_take (i:=4) (oi:={dst:=some 67,op:=.move (.tmp 8),type:=3,pos:= "spread.go:27",after:=#[],guard:=none}) (v:=?_) rfl (by kernel_rfl) (by kernel_rfl) (by kernel_rfl) (fun _ _ _ h=>h) (Or.inl ⟨by rfl,?_⟩) (by assumption) ?_;rotate_left
     ·(intro w hSw;(try dsimp only at hSw);go_simp;(try with_reducible rfl))
     try simp only[Act.put,List.setIfInBounds_toArray,List.set_cons_zero,List.set_cons_succ]
     refine wpAnyH_take (i:=5) (oi:={dst:=some 68,op:=.move (.tmp 9),type:=5,pos:= "spread.go:27",after:=#[],guard:=none}) (v:=?_) rfl (by kernel_rfl) (by kernel_rfl) (by kernel_rfl) (fun _ _ _ h=>h) (Or.inl ⟨by rfl,?_⟩) (by assumption) ?_;rotate_left
     ·(intro w hSw;(try dsimp only at hSw);go_simp;(try with_reducible rfl))
     try simp only[Act.put,List.setIfInBounds_toArray,List.set_cons_zero,List.set_cons_succ]
     refine wpAnyH_take (i:=6) (oi:={dst:=some 69,op:=.move (.tmp 10),type:=3,pos:= "spread.go:27",after:=#[],guard:=none}) (v:=?_) rfl (by kernel_rfl) (by kernel_rfl) (by kernel_rfl) (fun _ _ _ h=>h) (Or.inl ⟨by rfl,?_⟩) (by assumption) ?_;rotate_left
     ·(intro w hSw;(try dsimp only at hSw);go_simp;(try with_reducible rfl))
     try simp only[Act.put,List.setIfInBounds_toArray,List.set_cons_zero,List.set_cons_succ]
     refine wpAnyH_take (i:=7) (oi:={dst:=some 70,op:=.move (.tmp 1),type:=3,pos:= "spread.go:27",after:=#[],guard:=none}) (v:=?_) rfl (by kernel_rfl) (by kernel_rfl) (by kernel_rfl) (fun _ _ _ h=>h) (Or.inl ⟨by rfl,?_⟩) (by assumption) ?_;rotate_left
     ·(intro w hSw;(try dsimp only at hSw);go_simp;(try with_reducible rfl))
     try simp only[Act.put,List.setIfInBounds_toArray,List.set_cons_zero,List.set_cons_succ]
     refine wpAnyH_ready (rs:=[8]) (by kernel_rfl) (by simp) ?_;refine AllReadyH.cons (o:={dst:=some 71,op:=.call {callee:=.value (.func 198),args:=#[.tmp 68,.tmp 69,.tmp 70],argTypes:=#[5,3,3]},type:=248,pos:= "spread.go:27",after:=#[{on:=5,ground:=.data},{on:=6,ground:=.data},{on:=7,ground:=.data}],guard:=none}) rfl (fun K hK=>?_) AllReadyH.nil;go_simp
     (go_at_call 198;refine(Hcf.out _).mono ?_;rintro e wC ⟨rfl,hbC⟩;have HwC:=hid ((Below.refl wc.heap.size wc).drew.trans hbC);clear hbC;have k0:=hd0 wC HwC.out;have k1:=hd1 wC HwC.out;have k2:=hd2 wC HwC.out;have m0:=hf0 wC HwC.out;have m1:=hf1 wC HwC.out;have m2:=hf2 wC HwC.out)
     go_simp;refine hK.out _ _ (by exact hcc wC HwC.out) (fun hHeld=>?_);clear hK K
     try simp only[Act.put,List.setIfInBounds_toArray,List.set_cons_zero,List.set_cons_succ]
     refine wpAnyH_take (i:=9) (oi:={dst:=some 72,op:=.indexAddr 210 (.tmp 66) (.tmp 67),type:=0,pos:= "spread.go:27",after:=#[{on:=3,ground:=.data},{on:=4,ground:=.data},{on:=0,ground:=.phase},{on:=1,ground:=.phase},{on:=2,ground:=.phase},{on:=3,ground:=.phase},{on:=4,ground:=.phase},{on:=5,ground:=.phase},{on:=6,ground:=.phase},{on:=7,ground:=.phase},{on:=8,ground:=.phase}],guard:=none}) (v:=?_) rfl (by kernel_rfl) (by kernel_rfl) (by kernel_rfl) (fun _ _ _ h=>h) (Or.inl ⟨by rfl,?_⟩) (by assumption) ?_;rotate_left
     ·(intro w hSw;(try dsimp only at hSw);go_simp;(try with_reducible rfl))
     try simp only[Act.put,List.setIfInBounds_toArray,List.set_cons_zero,List.set_cons_succ]
     refine wpAnyH_ready (rs:=[10]) (by kernel_rfl) (by simp) ?_;refine AllReadyH.cons (o:={dst:=none,op:=.store 248 (.tmp 72) (.tmp 71),type:=0,pos:= "spread.go:27",after:=#[{on:=9,ground:=.data},{on:=8,ground:=.data},{on:=8,ground:=.chain},{on:=0,ground:=.phase},{on:=1,ground:=.phase},{on:=2,ground:=.phase},{on:=3,ground:=.phase},{on:=4,ground:=.phase},{on:=5,ground:=.phase},{on:=6,ground:=.phase},{on:=7,ground:=.phase},{on:=8,ground:=.phase}],guard:=none}) rfl (fun K hK=>?_) AllReadyH.nil;go_simp;refine hK.out _ _ (by exact Ku aiA (hcc wC HwC.out)) (fun hHeld=>?_);clear hK K
     try simp only[Act.put,List.setIfInBounds_toArray,List.set_cons_zero,List.set_cons_succ]
     refine wpAnyH_done (by kernel_rfl) ?_ _;have HR:=ahV.out wC HwC.out;clear hcc hd0 hd1 hd2 hf0 hf1 hf2 k0 k1 k2 m0 m1 m2 ahV Hcf HB2 aiA;go_wp2;go_roundw
     case rel=>exact⟨k+1,by omega,by go_num,HR⟩
     case measure=>simp[intOf];omega
   ·obtain rfl:k=S:=by omega
    have hst:qE wr ⟨b,0,none⟩ ls log:=by
     refine⟨b,gc,gs,rfl,hB.tab,?_,vs,hB.rows,hB.len,fun s hs=>?_⟩
     ·have h1:=hB.cells;rw[HS.out,Ey]at h1;exact h1
     ·have hsv:s<vs.length:=by rw[hB.len];exact hs
      have h1:=hB.fam.own s vs[s] (List.getElem?_eq_getElem hsv);obtain⟨A',c',e1,e2,_⟩:=dL h1;rw[HS.out,zo ls log s Hf.out]at e1;rw[HS.out]at e2;exact⟨A',c',by rw[List.getElem?_eq_getElem hsv,e1],e2⟩
    have Hst:=hid hst;have jg:=hid hB.bel;clear hB hst;go_wp2;go_ret2;exact⟨_,rfl,Hst.out,jg.out⟩
theorem SX(A:Option Addr)(c:Nat)(l:List Int)(log:Int)(w:World)(hl:l.length≤1000000)(hok:∀x∈l,bN x)(Ac:bN log)(hr:Reads w A (lI l))(hf:Bm.Fair l log) :
  Calls prog 165 #[.slice A l.length c,.int .i64 log] w fun e w'=>∃p,e=.returned (.tuple #[.pointer (some p),.bool true])∧qE w' p (l.map Int.toNat) log.toNat∧Below w.heap.size w w':=by
 have h1:=vI A c l log w hl hok Ac hr;rw[show EN l log=true from decide_eq_true hf]at h1;have hls:aL (l.map Int.toNat)=lI l:=by rw[←bJ,Iu l log hf]
 have hl9:(log.toNat:Int)=log:=by have:=hf.1;omega
 have h2:=Gz A c (l.map Int.toNat) log.toNat w (Pf l log hf) (by rw[hls];exact hr) (by rw[hl9,List.length_map];exact h1);rw[hl9,List.length_map]at h2;exact h2
theorem Ze:agD qE where
 keep:=fun w W p ls log h hb=>bX w W p ls log h hb
 build:=SX
 abl:=Tf
 cell:=fun w p ls log st hf h _=>qw w p ls log st hf h
 ZU:=fun w st _=>Tg w st
 size:=fun w p ls log _ h=>(dY w p ls log h).mono fun e w' ⟨he,hw⟩=>⟨he,0,by subst hw;rfl⟩
 abR:=fun w=>(DZ w).mono fun e w' ⟨he,hw⟩=>⟨he,0,by subst hw;rfl⟩
 ahi:=fun w p ls log _ h=>(qy w p ls log h).mono fun e w' ⟨he,hw⟩=>⟨he,0,by subst hw;rfl⟩
 aeT:=fun w=>(XK w).mono fun e w' ⟨he,hw⟩=>⟨he,0,by subst hw;rfl⟩
 next:=fun w p ls log st more hf h _ _=>wS w p ls log st more hf h
 back:=fun w p ls log st s hf h _ hs=>DW w p ls log st s hf h hs
end Go.Proofs.YtgiicohbigiapaaGreat
