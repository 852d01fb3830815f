/- Contracts, and what they rest on. Conditions: the theorems' premises. -/
import Derived.Test.YtaebnkeddcbmkaaGreatYan
import Derived.Test.YtaebnkeddcbmkaaGreatYah
import Derived.Test.YtaebnkeddcbmkaaGreatYak
import Derived.Deep.DrawnRows
set_option maxHeartbeats 4000000
set_option maxRecDepth 100000
open Go.Lib(hid)
open Go.Proofs.Tryz Go.Proofs.YtaebnkeddcbmkaaGreat.Bm
namespace Go.Proofs.YtaebnkeddcbmkaaGreat
open Go.RowKit
namespace Bm
def dX(ls:List Nat)(log k:Nat):List Cel:=(List.range (2^log)).map fun p=>if p<k then(bg ls log p,aD ls log p,aS ls log p)else(0,0,0)
theorem jT(ls:List Nat)(log k:Nat):(dX ls log k).length=2^log:=by simp[dX]
theorem DZ(ls:List Nat)(log:Nat):dX ls log 0=List.replicate (2^log) (0,0,0):=by
 unfold dX;simp only[Nat.not_lt_zero,if_false];rw[List.map_const',List.length_range]
theorem DY(ls:List Nat)(log k:Nat):dX ls log (k+1)=(dX ls log k).set k (bg ls log k,aD ls log k,aS ls log k):=by
 apply List.ext_getElem
 ·simp[jT]
 ·intro p h1 h2;rw[List.getElem_set];simp only[dX,List.getElem_map,List.getElem_range];by_cases e:k=p
  ·subst e;rw[if_pos rfl,if_pos (by omega)]
  ·rw[if_neg e];by_cases h:p<k
   ·rw[if_pos h,if_pos (by omega)]
   ·rw[if_neg h,if_neg (by omega)]
theorem GH(ls:List Nat)(log:Nat):dX ls log (2^log)=oK ls log:=by
 unfold dX oK;apply List.map_congr_left
 intro p hp;rw[if_pos (List.mem_range.1 hp)]
theorem zH(ls:List Nat)(log k:Nat)(h:k<(dX ls log k).length):(dX ls log k)[k]=(0,0,0):=by
 simp only[dX,List.getElem_map,List.getElem_range];rw[if_neg (by omega)]
end Bm
theorem YC(l:List Cel)(i s B Z:Nat)(h:i<l.length)(hl:l[i]=(0,0,0)):(((c3 l).set (i*3) (.int .u8 (s:Int))).set (i*3+1) (.int .i64 (B:Int))).set (i*3+2) (.int .i64 (Z:Int))=c3 (l.set i (s,B,Z)):=by
 have h1:=(Sd l i h s 0 0).1;rw[hl]at h1;rw[h1];have hl2:i<(l.set i (s,0,0)).length:=by simpa using h
 have h2:=aiu (l.set i (s,0,0)) i s B Z hl2 (by rw[List.getElem_set_self]);rw[List.set_set]at h2;exact h2
theorem afg:(prog.info? 115).map (fun i=>(i.zero,i.size,i.bytes))=some (some (.slice none 0 0),1,24):=by kernel_rfl
theorem OH(n:Nat)(h:n<=1000000)(W:World):(Instr.makeSlice 241 (.int .i64 (n:Int)) (.int .i64 (n:Int))).run prog W=.ok (.slice (some ⟨W.heap.size,0,none⟩) n n) (W.alloc (.cells (c3 (List.replicate n (0,0,0))).toArray 247)):=by
 obtain⟨i0,hi,hz0,hz1,hz2⟩:=info_parts TV;have h1:=run_make (P:=prog) W 241 247 i0 _ underlying241 hi hz0 .i64 .i64 (n:Int) (n:Int) (by omega) (by omega) (by rw[hz2];omega) (by omega);rw[Int.toNat_natCast,hz1,show(Value.agg #[.int .u8 0,.int .i64 0,.int .i64 0]).cells=#[.int .u8 0,.int .i64 0,.int .i64 0]from rfl]at h1;rw[h1,<-afu,Array.toArray_toList]
theorem Ja(n:Nat)(h:n<=1000000)(W:World):(Instr.makeSlice 242 (.int .i64 (n:Int)) (.int .i64 (n:Int))).run prog W=.ok (.slice (some ⟨W.heap.size,0,none⟩) n n) (W.alloc (.cells (List.replicate n (.slice none 0 0)).toArray 115)):=by
 obtain⟨i0,hi,hz0,hz1,hz2⟩:=info_parts afg;have h1:=run_make (P:=prog) W 242 115 i0 _ underlying242 hi hz0 .i64 .i64 (n:Int) (n:Int) (by omega) (by omega) (by rw[hz2];omega) (by omega);rw[Int.toNat_natCast,hz1,show(Value.slice none 0 0).cells=#[.slice none 0 0]from rfl,Nat.mul_one]at h1;rw[h1,<-toList_madeCells_one,Array.toArray_toList]
theorem Xd(A:Option Addr)(c:Nat)(l:List Int)(log:Int)(w:World)(hl:l.length<=1000000)(hok:∀x∈l,bO x)(BZ:bO log)(hr:Reads w A (mH l))(hf:¬Bm.Fair l log) :
  Calls prog 147 #[.slice A l.length c,.int .i64 log] w fun e w'=>e=.returned (.tuple #[.pointer none,.bool false])/\Below w.heap.size w w':=by
 have h1:=xD A c l log w hl hok BZ hr;rw[show Ih l log=false from decide_eq_false hf]at h1;have H1:=hid h1;clear h1 hok BZ hr hf;go_enter func147,ntmps147
 go_wp2_with fail
 refine H1.out.mono ?_;rintro e w1 ⟨rfl,hb⟩;go_wp2;go_ret2;exact⟨rfl,hb⟩
theorem AZ(w1:World)(t1 t2 t3:TypeId)(l1 l2 l3:List Value) :
  Row (((w1.alloc (.cells l1.toArray t1)).alloc (.cells l2.toArray t2)).alloc (.cells l3.toArray t3)).drew w1.heap.size t1 l1 /\
  Row (((w1.alloc (.cells l1.toArray t1)).alloc (.cells l2.toArray t2)).alloc (.cells l3.toArray t3)).drew (w1.heap.size+1) t2 l2 /\
  Row (((w1.alloc (.cells l1.toArray t1)).alloc (.cells l2.toArray t2)).alloc (.cells l3.toArray t3)).drew (w1.heap.size+1+1) t3 l3 /\
  ∀w:World,Below w.heap.size w w1->Below w.heap.size w (((w1.alloc (.cells l1.toArray t1)).alloc (.cells l2.toArray t2)).alloc (.cells l3.toArray t3)).drew:=by
 have r1:=Row.new w1 t1 l1;have r2:=Row.new (w1.alloc (.cells l1.toArray t1)) t2 l2;have r3:=Row.new ((w1.alloc (.cells l1.toArray t1)).alloc (.cells l2.toArray t2)) t3 l3;have e1:(w1.alloc (.cells l1.toArray t1)).heap.size=w1.heap.size+1:=by simp
 have e2:((w1.alloc (.cells l1.toArray t1)).alloc (.cells l2.toArray t2)).heap.size=w1.heap.size+1+1:=by simp
 rw[e1]at r2;rw[e2]at r3;refine⟨(r1.alloc _).alloc _,r2.alloc _,r3,fun w h=>?_⟩;have hs:=h.size;exact(((h.alloc hs _).alloc (by rw[e1];omega) _).alloc (by rw[e2];omega) _).drew
structure Bld(w W:World)(ls:List Nat)(log kc kf b gc gs gt:Nat)(vs:List Value):Prop where
 tab:Row W b 244 [.int .i64 (log:Int),.slice (some ⟨gc,0,none⟩) (2^log) (2^log),.slice (some ⟨gs,0,none⟩) ls.length ls.length]
 syms:Row W gt 5 (u8s (Bm.tab ls log))
 cells:Row W gc 247 (c3 (dX ls log kc))
 rows:Row W gs 115 vs
 len:vs.length=ls.length
 fam:Fam W w.heap.size vs (aX ls log kf)
 low:w.heap.size<=b/\w.heap.size<=gc/\w.heap.size<=gs
 bel:Below w.heap.size w W
theorem Nu{W:World}{b c i x y z:Nat}{v0 v1 v2 u:Value}(h:b≠c)(hc:W.cell? ⟨b,i,none⟩=some u) :
  (((W.setCell ⟨c,x,none⟩ v0).setCell ⟨c,y,none⟩ v1).setCell ⟨c,z,none⟩ v2).cell? ⟨b,i,none⟩=some u:=by
 have h0:∀j,(⟨c,j,none⟩:Addr)≠⟨b,i,none⟩:=fun j e=>h (by injection e with e;exact e.symm)
 rw[World.cell?_setCell_other _ _ _ _ (h0 z),World.cell?_setCell_other _ _ _ _ (h0 y),World.cell?_setCell_other _ _ _ _ (h0 x),hc]
theorem xZ{w:World}{g g':Nat}{t t':TypeId}{cs cs':List Value}(h:Row w g t cs)(h':Row w g' t' cs')(hne:t≠t'):g≠g':=by
 rintro rfl;unfold Row at h h';rw[h]at h';injection h' with h'
 injection h' with _ e
 exact hne e
section
variable {w W:World} {ls:List Nat} {log kc k b gc gs gt:Nat} {vs:List Value}
theorem Bld.drewN(h:Bld w W ls log kc k b gc gs gt vs)(n:Nat):Bld w (W.drewN n) ls log kc k b gc gs gt vs:=⟨h.tab,h.syms,h.cells,h.rows,h.len,⟨h.fam.own,h.fam.apart⟩,h.low,below_drewN h.bel n⟩
theorem Bld.below{W':World}(h:Bld w W ls log kc k b gc gs gt vs)(hb:Below W.heap.size W W'):Bld w W' ls log kc k b gc gs gt vs:=
 ⟨aL h.tab hb,aL h.syms hb,aL h.cells hb,aL h.rows hb,h.len,h.fam.below hb,h.low,h.bel.trans (hb.mono h.bel.size)⟩
theorem Bld.push(h:Bld w W ls log kc k b gc gs gt vs){sy:Nat}{v:Value}{r gN cap:Nat}{wN:World}(hsy:sy=bg ls log k)(hv:vs[sy]?=some v)(hr:r=(aX ls log k (bg ls log k)).length)
  (hown:wN.ownsRow w.heap.size 3 1 (.slice (some ⟨gN,0,none⟩) (r+1) cap) (r+1) (aM (aX ls log k sy)++[.int .i64 (k:Int)])) (hg:W.grownBy wN v.ownBlock) (hat:v.ownBlock=some gN\/gN=W.heap.size) :
  Bld w (wN.setCell ⟨gs,sy,none⟩ (.slice (some ⟨gN,0,none⟩) (r+1) cap)) ls log kc (k+1) b gc gs gt (vs.set sy (.slice (some ⟨gN,0,none⟩) (r+1) cap)):=by
 subst hsy;have hk:∀{g:Nat} {t:TypeId} {cs:List Value},Row W g t cs->t≠3->Row wN g t cs:=fun {g t cs} hrow hne=>
  hrow.keep (hg.block g hrow.lt (fun e=>h.fam.UG hrow hne _ v hv e.symm))
 have r1:=hk h.tab (by decide);have r2:=hk h.syms (by decide);have r3:=hk h.cells (by decide);have r4:=hk h.rows (by decide);have e:=lI ls log k;have hf:Fam wN w.heap.size (vs.set (bg ls log k) (.slice (some ⟨gN,0,none⟩) (r+1) cap)) (aX ls log (k+1)):=
  h.fam.push hv hg hat (by rw[e];simpa [aM]using hown) (by rw[e,List.length_append,<-hr];rfl) (fun t ht=>nD ls log k t (Ne.symm ht))
 have hlow:=h.low;exact⟨r1.far (xZ r1 r4 (by decide)) _,r2.far (xZ r2 r4 (by decide)) _,r3.far (xZ r3 r4 (by decide)) _,r4.aT _ _,by rw[List.length_set];exact h.len,
  hf.far (hf.UG r4 (by decide)) _,h.low,(h.bel.grown hg h.bel.size (fun q hq=>((h.fam.own _ v hv).lt q hq).1)).setCell (by exact hlow.2.2) _⟩
theorem Bld.cell(h:Bld w W ls log k (k+1) b gc gs gt vs)(hk:k<2^log) :
  Bld w (((W.setCell ⟨gc,k*3,none⟩ (.int .u8 (bg ls log k:Int))).setCell ⟨gc,k*3+1,none⟩ (.int .i64 (aD ls log k:Int))).setCell ⟨gc,k*3+2,none⟩ (.int .i64 (aS ls log k:Int))) ls log (k+1) (k+1) b gc gs gt vs:=by
 have hl:k<(dX ls log k).length:=by rw[jT];exact hk
 have e:=YC (dX ls log k) k (bg ls log k) (aD ls log k) (aS ls log k) hl (zH ls log k hl);rw[<-DY]at e;have hlow:=h.low;have n1:=xZ h.tab h.cells (by decide);have n2:=xZ h.syms h.cells (by decide);have n4:=xZ h.rows h.cells (by decide);have r3:=((h.cells.aT (k*3) (.int .u8 (bg ls log k:Int))).aT (k*3+1) (.int .i64 (aD ls log k:Int))).aT (k*3+2) (.int .i64 (aS ls log k:Int));rw[e]at r3;have hn:=h.fam.UG h.cells (by decide);exact⟨((h.tab.far n1 _).far n1 _).far n1 _,((h.syms.far n2 _).far n2 _).far n2 _,r3,((h.rows.far n4 _).far n4 _).far n4 _,h.len,((h.fam.far hn _).far hn _).far hn _,h.low,((h.bel.setCell (by exact hlow.2.1) _).setCell (by exact hlow.2.1) _).setCell (by exact hlow.2.1) _⟩
end
theorem Kh(A:Option Addr)(c:Nat)(ls:List Nat)(log:Nat)(w:World)(hf:bN ls log)(hr:Reads w A (aM ls))
  (hfair:Calls prog 177 #[.slice A ls.length c,.int .i64 (log:Int)] w fun e w'=>e=.returned (.bool true)/\Below w.heap.size w w') :
  Calls prog 147 #[.slice A ls.length c,.int .i64 (log:Int)] w fun e w'=>∃p,e=.returned (.tuple #[.pointer (some p),.bool true])/\rZ w' p ls log/\Below w.heap.size w w':=by
 have Hf:=hid hf;have Hr:=hid hr;have QW:=hid hfair;have hP:=fV log hf.low hf.high;have hl5:=hf.low;have hl9:=hf.high;have hlen:=hf.len;have hsp:∀W,Below w.heap.size w W->Calls prog 179 #[.slice A ls.length c,.int .i64 ((2^log:Nat):Int)] W fun e w'=>∃g,e=.returned (.slice (some ⟨g,0,none⟩) (2^log) (2^log))/\W.heap.size<=g/\Row w' g 5 (u8s (Bm.tab ls log))/\Below W.heap.size W w':=fun W hb=>Kl A c ls log W hf (aC hr hb)
 have Hsp:=hid hsp;have hpd:(2:Int)^log=((2^log:Nat):Int):=by simp
 clear hf hr hfair hsp;obtain⟨S,hS⟩:∃S,S=2^log:=⟨_,rfl⟩;rw[<-hS]at hP hpd Hsp;have HS:=hid hS;clear hS;have hw:wrap64 (S:Int)=(S:Int):=jw _ (by omega) (by omega);go_enter func147,ntmps147
 go_wp2_with fail
 refine QW.out.mono ?_;rintro e w1 ⟨rfl,hb1⟩;have Hb1:=hid hb1;clear hb1 QW;go_upto_region 4 with fail
 clear hpd hw;go_cut [7] (fun s7 wx=>∃b gc gs,s7=.pointer (some ⟨b,0,none⟩)/\w.heap.size<=b/\w.heap.size<=gc/\w.heap.size<=gs/\Row wx b 244 [.int .i64 (log:Int),.slice (some ⟨gc,0,none⟩) S S,.slice (some ⟨gs,0,none⟩) ls.length ls.length] /\
  Row wx gc 247 (c3 (List.replicate S (0,0,0)))/\Row wx gs 115 (List.replicate ls.length (.slice none 0 0))/\Below w.heap.size w wx)
 case first=>
  have hm1:=fun W=>OH S (by omega) W
  have hm2:=fun W=>Ja ls.length (by omega) W
  have hz1:=Hb1.out.size;go_region
  all_goals
   go_wp2_with fail
   go_meet
   simp only[<-List.toArray_replicate]
  ·obtain⟨r1,r2,r3,r4⟩:=AZ w1 247 115 244 (c3 (List.replicate S (0,0,0))) (List.replicate ls.length (.slice none 0 0)) [.int .i64 (log:Int),.slice (some ⟨w1.heap.size,0,none⟩) S S,.slice (some ⟨w1.heap.size+1,0,none⟩) ls.length ls.length];exact⟨_,_,_,rfl,by omega,by omega,by omega,r3,r1,r2,r4 w Hb1.out⟩
  ·obtain⟨r1,r2,r3,r4⟩:=AZ w1 115 247 244 (List.replicate ls.length (.slice none 0 0)) (c3 (List.replicate S (0,0,0))) [.int .i64 (log:Int),.slice (some ⟨w1.heap.size+1,0,none⟩) S S,.slice (some ⟨w1.heap.size,0,none⟩) ls.length ls.length];exact⟨_,_,_,rfl,by omega,by omega,by omega,r3,r2,r1,r4 w Hb1.out⟩
 case rest=>
  obtain⟨b,gc,gs,rfl,hlb,hlc,hls,hrb,hrc,hrs,hbx⟩:=hcut;have Hrb:=hid hrb;have Hrc:=hid hrc;have Hrs:=hid hrs;have Hbx:=hid hbx;have apm:=hid (And.intro hlb (And.intro hlc hls));clear hrb hrc hrs hbx hlb hlc hls Hb1;go_wp2_with fail
  refine(Hsp.out _ Hbx.out).mono ?_;rintro e w2 ⟨gt,rfl,_,hrt,hb2⟩;have anA:Bld w w2 ls log 0 0 b gc gs gt (List.replicate ls.length (.slice none 0 0)):={
   tab:=by rw[<-HS.out];exact aL Hrb.out hb2
   syms:=hrt
   cells:=by rw[DZ,<-HS.out];exact aL Hrc.out hb2
   rows:=aL Hrs.out hb2
   len:=List.length_replicate
   fam:=Fam.amd _ _ _ (fun s=>JU ls log s)
   low:=apm.out
   bel:=Hbx.out.trans (hb2.mono Hbx.out.size)}
  have amw:=hid anA;clear anA hrt hb2 Hrb Hrc Hrs Hbx Hsp;go_wp2;go_loopw [29] (fun i wr=>∃k:Nat,k<=S/\i=.int .i64 (k:Int)/\Hid (∃vs,Bld w wr ls log k k b gc gs gt vs)) (fun i _=>S-(intOf i).toNat)
  case atStart=>exact⟨0,by omega,rfl,hid ⟨_,amw.out⟩⟩
  case round=>
   obtain⟨k,hk,rfl,hB⟩:=hrel;clear amw;obtain⟨vs,hB⟩:=hB.out;by_cases hkS:k<S
   ·have hk2:k<2^log:=by rw[<-HS.out];exact hkS
    obtain⟨hsy,hN0⟩:=Kc ls log k Hf.out hk2;obtain⟨n',q1,_,q3,q4,q5,q6⟩:=EZ ls log k Hf.out hk2;rw[List.getElem?_eq_getElem hsy]at q1;injection q1 with q1
    subst q1;rw[<-HS.out]at q3;have TF:pJ ls log k=ls[bg ls log k]+(aX ls log k (bg ls log k)).length:=by
     unfold pJ oN;rw[List.getElem?_eq_getElem hsy,Option.getD_some,iT ls log k _ (by omega)]
    have hsv:bg ls log k<vs.length:=by rw[hB.len];exact hsy
    obtain⟨v,hv⟩:∃v,vs[bg ls log k]?=some v:=⟨_,List.getElem?_eq_getElem hsv⟩;obtain⟨A',cap',e1,_,_⟩:=dP (hB.fam.own _ v hv);subst e1;obtain⟨ga,oa,rfl,hca⟩:∃g off,A=some ⟨g,off,none⟩/\wr.cell? ⟨g,off+bg ls log k,none⟩=some (.int .i64 (ls[bg ls log k]:Int)):=by
     obtain⟨g,off,e,hc⟩:=(aC Hr.out hB.bel) (by intro e;have:=congrArg List.length e;rw[aN,List.length_nil]at this;omega);have h1:=hc (bg ls log k) (by rw[aN];exact hsy);rw[bK ls _ hsy]at h1;exact⟨g,off,e,h1⟩
    have cb2:=hB.tab.cell 2;simp only[List.getElem?_cons_succ,List.getElem?_cons_zero]at cb2;have cgs:=(hB.rows.cell (bg ls log k)).trans hv;have alu:=hB.syms.cell k;have htl:k<(Bm.tab ls log).length:=by rw[bT];exact hk2
    rw[bD _ _ htl,Ka ls log k hk2 htl]at alu;have HB:=hid hB;have Hv:=hid hv;have zw:=hid TF;obtain⟨r,hr⟩:∃r,r=(aX ls log k (bg ls log k)).length:=⟨_,rfl⟩;rw[<-hr]at Hv cgs zw;have aqn:r<=512:=by
     rw[hr,iT ls log k _ (by omega)];have h1:=oL (Bm.tab ls log) k (bg ls log k);have h2:=List.count_le_length (a:=bg ls log k) (l:=Bm.tab ls log);rw[bT,<-HS.out]at h2;omega
    have Hrl:=hid hr;have Hq6:=hid q6;obtain⟨sy,aho⟩:∃s,s=bg ls log k:=⟨_,rfl⟩;clear hB hv TF hr q4 q5 q6 htl hk2 hsv;rw[<-aho]at cgs alu;have alV:sy<ls.length:=by rw[aho];exact hsy
    have hNg:ls[bg ls log k]=ls[sy]:=by congr 1;exact aho.symm
    rw[hNg,<-aho]at hca;rw[hNg]at zw q3 hN0;have aic:=hid aho;clear aho hNg;generalize ls[sy]=N at hca zw q3 hN0;have hNr:IntKind.i64.wrap ((N:Int)+(r:Int))=(N:Int)+(r:Int):=IntWalk.i64_in _ (by omega);go_wp2_with fail
    go_quiet (fail)
    have HB1:=hid (HB.out.drewN nq);clear HB hNr hca alu cgs cb2;generalize (wr.drewN nq)=wr1 at HB1 ⊢;have Hv2:Hid (vs[sy]?=some (Value.slice A' r cap')):=hid (by rw[aic.out];exact Hv.out);obtain⟨XR,hown0⟩:∃q,q=(Value.slice A' r cap').ownBlock:=⟨_,rfl⟩;have vY:=hid hown0;clear hown0;have hcb:∀W,wr1.grownBy W XR->W.cell? ⟨b,2,none⟩=some (.slice (some ⟨gs,0,none⟩) ls.length ls.length):=fun W hW=>by
     have h1:=HB1.out.tab.cell 2;simp only[List.getElem?_cons_succ,List.getElem?_cons_zero]at h1;rw[hW.cell_far _ (by exact HB1.out.tab.lt) (fun e=>HB1.out.fam.UG HB1.out.tab (by decide) sy _ Hv2.out (by rw[<-vY.out];exact e.symm)),h1]
    have hcs:∀W,wr1.grownBy W XR->W.cell? ⟨gs,sy,none⟩=some (.slice A' r cap'):=fun W hW=>by
     rw[hW.cell_far _ (by exact HB1.out.rows.lt) (fun e=>HB1.out.fam.UG HB1.out.rows (by decide) sy _ Hv2.out (by rw[<-vY.out];exact e.symm)),HB1.out.rows.cell sy,Hv2.out]
    have hfs:∀W,wr1.grownBy W XR->W.frozen? ⟨gs,sy,none⟩=false:=fun W hW=>by
     rw[hW.frozen_far _ (by exact HB1.out.rows.lt) (fun e=>HB1.out.fam.UG HB1.out.rows (by decide) sy _ Hv2.out (by rw[<-vY.out];exact e.symm)),HB1.out.rows.free sy]
    have Ho0:Hid (wr1.ownsRow w.heap.size 3 1 (.slice A' r cap') r (aM (aX ls log k sy))):=hid (by
     have h1:=HB1.out.fam.own sy _ Hv2.out;rw[show(aX ls log k sy).length=r by rw[aic.out];exact Hrl.out.symm]at h1;exact h1)
    obtain⟨i0,hi,hz0,hz1,hz2⟩:=info_parts gQ;go_wp2_with fail
    have hs0:=HB1.out.bel.size;go_cut [] (fun wx=>∃gN cap,Bld w wx ls log k (k+1) b gc gs gt (vs.set sy (.slice (some ⟨gN,0,none⟩) (r+1) cap)))
    case first=>
     have cb:=hcb wr1 (aj wr1 XR);have cs:=hcs wr1 (aj wr1 XR);have fs:=hfs wr1 (aj wr1 XR);have cbA:=hcb (wr1.alloc (.cells #[.int .i64 (k:Int)] 3)) (aF (aj wr1 XR) _);have csA:=hcs (wr1.alloc (.cells #[.int .i64 (k:Int)] 3)) (aF (aj wr1 XR) _);have Hcb:=hid hcb;have Hcs:=hid hcs;have Hfs:=hid hfs;have Hoa:Hid ((wr1.alloc (.cells #[.int .i64 (k:Int)] 3)).drew.ownsRow w.heap.size 3 1 (.slice A' r cap') r (aM (aX ls log k sy))):=hid (Ho0.out.alloc _);have dx:Hid (∀(j:Nat) (u:Value),[Value.int .i64 (k:Int)][j]?=some u->(wr1.alloc (.cells #[.int .i64 (k:Int)] 3)).drew.cell? ((⟨wr1.heap.size,0,none⟩:Addr).add j)=some u):=hid (fun j u hu=>by
      match j,hu with
      | 0,hu=>simp at hu;subst hu;simp[Addr.add])
     clear hcb hcs hfs;go_region_law ((refine step_append_lies ((wr1.alloc (.cells #[.int .i64 (k:Int)] 3)).drew) (by rfl) _ _ _ (by rfl) w.heap.size 3 i0 (.int .i64 0) 1 8 underlying115 hi hz0 hz1 hz2 rfl (by omega) (.slice A' r cap') r (aM (aX ls log k sy)) (by rfl) Hoa.out ⟨wr1.heap.size,0,none⟩ 1 1 [.int .i64 (k:Int)] (by rfl) (by rfl) dx.out (by intro u hu;simp at hu;subst hu;rfl) (by omega) (by unfold maxLen;omega) (by omega) (by simp;omega) (wr1.heap.size+1) (by simp) ?_;intro gN jJ wN hoN hgN Im _;have HoN:=hid hoN;have HgN:=hid hgN;have aoU:=hid Im;have HGN:Hid (wr1.grownBy wN XR):=hid ((bf (aF (aj wr1 XR) _)).trans (by rw[vY.out];exact hgN));have cbN:=Hcb.out wN HGN.out;have csN:=Hcs.out wN HGN.out;have fsN:=Hfs.out wN HGN.out;clear hoN hgN Im))
     all_goals
      go_wp2_with fail
      go_meet
      exact⟨gN,jJ,(HB1.out.below (((Below.refl wr1.heap.size wr1).alloc (Nat.le_refl _) (.cells #[.int .i64 (k:Int)] 3)).drew)).push aic.out Hv2.out Hrl.out HoN.out HgN.out (aoU.out.imp id (fun h=>h.trans (by simp)))⟩
    case rest=>
     obtain⟨gN,jJ,hB2⟩:=hcut;have hk2:k<2^log:=by rw[<-HS.out];exact hkS
     have hcc:∀W,Below wc.heap.size wc W->W.cell? ⟨b,1,none⟩=some (.slice (some ⟨gc,0,none⟩) S S):=fun W hW=>by
      have h1:=(aL hB2.tab hW).cell 1;simp only[List.getElem?_cons_succ,List.getElem?_cons_zero]at h1;rw[h1,HS.out]
     have hkl:k<(dX ls log k).length:=by rw[jT];exact hk2
     obtain⟨g0,g1,g2⟩:=Sb (dX ls log k) k hkl;rw[zH]at g0 g1 g2;have hd0:∀W,Below wc.heap.size wc W->W.cell? ⟨gc,k*3,none⟩=some (.int .u8 0):=fun W hW=>((aL hB2.cells hW).cell (k*3)).trans g0
     have hd1:∀W,Below wc.heap.size wc W->W.cell? ⟨gc,k*3+1,none⟩=some (.int .i64 0):=fun W hW=>((aL hB2.cells hW).cell (k*3+1)).trans g1
     have hd2:∀W,Below wc.heap.size wc W->W.cell? ⟨gc,k*3+2,none⟩=some (.int .i64 0):=fun W hW=>((aL hB2.cells hW).cell (k*3+2)).trans g2
     have hf0:∀W,Below wc.heap.size wc W->W.frozen? ⟨gc,k*3,none⟩=false:=fun W hW=>(aL hB2.cells hW).free (k*3)
     have hf1:∀W,Below wc.heap.size wc W->W.frozen? ⟨gc,k*3+1,none⟩=false:=fun W hW=>(aL hB2.cells hW).free (k*3+1)
     have hf2:∀W,Below wc.heap.size wc W->W.frozen? ⟨gc,k*3+2,none⟩=false:=fun W hW=>(aL hB2.cells hW).free (k*3+2)
     have HB2:=hid hB2;have anz:b≠gc:=xZ hB2.tab hB2.cells (by decide);clear hB2;have hcf:∀W,Calls prog 180 #[.int .u8 (sy:Int),.int .i64 ((N:Int)+(r:Int)),.int .i64 (log:Int)] W fun e w'=>e=.returned (.agg #[.int .u8 (sy:Int),.int .i64 (aD ls log k:Int),.int .i64 (aS ls log k:Int)])/\Below W.heap.size W w':=fun W=>by
      have h1:=Qd sy (pJ ls log k) log W (by rw[zw.out];omega) Hq6.out hl9;unfold aD aS;rw[zw.out]at h1 ⊢;rw[Int.natCast_add]at h1;exact h1
     have Hcf:=hid hcf;have ajo:∀W',Below wc.heap.size wc W'->Hid (∃vs,Bld w (((W'.setCell ⟨gc,k*3,none⟩ (.int .u8 (sy:Int))).setCell ⟨gc,k*3+1,none⟩ (.int .i64 (aD ls log k:Int))).setCell ⟨gc,k*3+2,none⟩ (.int .i64 (aS ls log k:Int))) ls log (k+1) (k+1) b gc gs gt vs):=fun W' hW=>hid ⟨_,by rw[aic.out];exact(HB2.out.below hW).cell hk2⟩
     have amS:=hid ajo;clear ajo g0 g1 g2 hkl hcf HB1 Hv Hv2 Ho0 vY zw aic Hrl Hq6 hcb hcs hfs hi hz0 hz1 hz2;generalize aD ls log k=bb at *;generalize aS ls log k=zz at *;go_wp2_with fail
     refine wp_region_held_drew (S:=(fun W=>W.cell? ⟨b,1,none⟩=some (.slice (some ⟨gc,0,none⟩) S S))) (by kernel_rfl) (by exact hcc _ (Below.refl _ _).drew) (fun hHeld=>?_);refine wpAnyH_take (i:=0) (oi:={dst:=some 63,op:=.move (.tmp 7),type:=208,pos:= "spread.go:27",after:=#[],guard:=none}) (v:=?_) rfl (by kernel_rfl) (by kernel_rfl) (by kernel_rfl) (fun _ _ _ h=>h) (Or.inl ⟨by rfl,?_⟩) (by assumption) ?_;rotate_left
     ·(intro w hSw;(try dsimp only at hSw);go_simp;(try with_reducible rfl))
     try simp only[Act.put,List.setIfInBounds_toArray,List.set_cons_zero,List.set_cons_succ]
     refine wpAnyH_take (i:=1) (oi:={dst:=some 64,op:=.nilCheck (.tmp 63),type:=0,pos:= "spread.go:27",after:=#[{on:=0,ground:=.data}],guard:=none}) (v:=?_) rfl (by kernel_rfl) (by kernel_rfl) (by kernel_rfl) (fun _ _ _ h=>h) (Or.inl ⟨by rfl,?_⟩) (by assumption) ?_;rotate_left
     ·(intro w hSw;(try dsimp only at hSw);go_simp;(try with_reducible rfl))
     try simp only[Act.put,List.setIfInBounds_toArray,List.set_cons_zero,List.set_cons_succ]
     refine wpAnyH_take (i:=2) (oi:={dst:=some 65,op:=.fieldAddr 244 (.tmp 64) 1,type:=0,pos:= "spread.go:27",after:=#[{on:=1,ground:=.data}],guard:=none}) (v:=?_) rfl (by kernel_rfl) (by kernel_rfl) (by kernel_rfl) (fun _ _ _ h=>h) (Or.inl ⟨by rfl,?_⟩) (by assumption) ?_;rotate_left
     ·(intro w hSw;(try dsimp only at hSw);go_simp;(try with_reducible rfl))
     try simp only[Act.put,List.setIfInBounds_toArray,List.set_cons_zero,List.set_cons_succ]
     refine wpAnyH_take (i:=3) (oi:={dst:=some 66,op:=.load 241 (.tmp 65),type:=241,pos:= "spread.go:27",after:=#[{on:=2,ground:=.data}],guard:=none}) (v:=?_) rfl (by kernel_rfl) (by kernel_rfl) (by kernel_rfl) (fun _ _ _ h=>h) (Or.inl ⟨by rfl,?_⟩) (by assumption) ?_;rotate_left
     ·(intro w hSw;(try dsimp only at hSw);go_simp;(try with_reducible rfl))
     try simp only[Act.put,List.setIfInBounds_toArray,List.set_cons_zero,List.set_cons_succ]
     refine wpAnyH_take (i:=4) (oi:={dst:=some 67,op:=.move (.tmp 8),type:=3,pos:= "spread.go:27",after:=#[],guard:=none}) (v:=?_) rfl (by kernel_rfl) (by kernel_rfl) (by kernel_rfl) (fun _ _ _ h=>h) (Or.inl ⟨by rfl,?_⟩) (by assumption) ?_;rotate_left
     ·(intro w hSw;(try dsimp only at hSw);go_simp;(try with_reducible rfl))
     try simp only[Act.put,List.setIfInBounds_toArray,List.set_cons_zero,List.set_cons_succ]
     refine wpAnyH_take (i:=5) (oi:={dst:=some 68,op:=.move (.tmp 9),type:=5,pos:= "spread.go:27",after:=#[],guard:=none}) (v:=?_) rfl (by kernel_rfl) (by kernel_rfl) (by kernel_rfl) (fun _ _ _ h=>h) (Or.inl ⟨by rfl,?_⟩) (by assumption) ?_;rotate_left
     ·(intro w hSw;(try dsimp only at hSw);go_simp;(try with_reducible rfl))
     try simp only[Act.put,List.setIfInBounds_toArray,List.set_cons_zero,List.set_cons_succ]
     refine wpAnyH_take (i:=6) (oi:={dst:=some 69,op:=.move (.tmp 10),type:=3,pos:= "spread.go:27",after:=#[],guard:=none}) (v:=?_) rfl (by kernel_rfl) (by kernel_rfl) (by kernel_rfl) (fun _ _ _ h=>h) (Or.inl ⟨by rfl,?_⟩) (by assumption) ?_;rotate_left
     ·(intro w hSw;(try dsimp only at hSw);go_simp;(try with_reducible rfl))
     try simp only[Act.put,List.setIfInBounds_toArray,List.set_cons_zero,List.set_cons_succ]
     refine wpAnyH_take (i:=7) (oi:={dst:=some 70,op:=.move (.tmp 1),type:=3,pos:= "spread.go:27",after:=#[],guard:=none}) (v:=?_) rfl (by kernel_rfl) (by kernel_rfl) (by kernel_rfl) (fun _ _ _ h=>h) (Or.inl ⟨by rfl,?_⟩) (by assumption) ?_;rotate_left
     ·(intro w hSw;(try dsimp only at hSw);go_simp;(try with_reducible rfl))
     try simp only[Act.put,List.setIfInBounds_toArray,List.set_cons_zero,List.set_cons_succ]
     refine wpAnyH_ready (rs:=[8]) (by kernel_rfl) (by simp) ?_;refine AllReadyH.cons (o:={dst:=some 71,op:=.call {callee:=.value (.func 180),args:=#[.tmp 68,.tmp 69,.tmp 70],argTypes:=#[5,3,3]},type:=247,pos:= "spread.go:27",after:=#[{on:=5,ground:=.data},{on:=6,ground:=.data},{on:=7,ground:=.data}],guard:=none}) rfl (fun K hK=>?_) AllReadyH.nil;go_simp
     (go_at_call 180;refine(Hcf.out _).mono ?_;rintro e wC ⟨rfl,hbC⟩;have HwC:=hid ((Below.refl wc.heap.size wc).drew.trans hbC);clear hbC;have k0:=hd0 wC HwC.out;have k1:=hd1 wC HwC.out;have k2:=hd2 wC HwC.out;have m0:=hf0 wC HwC.out;have m1:=hf1 wC HwC.out;have m2:=hf2 wC HwC.out)
     go_simp;refine hK.out _ _ (by exact hcc wC HwC.out) (fun hHeld=>?_);clear hK K
     try simp only[Act.put,List.setIfInBounds_toArray,List.set_cons_zero,List.set_cons_succ]
     refine wpAnyH_take (i:=9) (oi:={dst:=some 72,op:=.indexAddr 241 (.tmp 66) (.tmp 67),type:=0,pos:= "spread.go:27",after:=#[{on:=3,ground:=.data},{on:=4,ground:=.data},{on:=0,ground:=.phase},{on:=1,ground:=.phase},{on:=2,ground:=.phase},{on:=3,ground:=.phase},{on:=4,ground:=.phase},{on:=5,ground:=.phase},{on:=6,ground:=.phase},{on:=7,ground:=.phase},{on:=8,ground:=.phase}],guard:=none}) (v:=?_) rfl (by kernel_rfl) (by kernel_rfl) (by kernel_rfl) (fun _ _ _ h=>h) (Or.inl ⟨by rfl,?_⟩) (by assumption) ?_;rotate_left
     ·(intro w hSw;(try dsimp only at hSw);go_simp;(try with_reducible rfl))
     try simp only[Act.put,List.setIfInBounds_toArray,List.set_cons_zero,List.set_cons_succ]
     refine wpAnyH_ready (rs:=[10]) (by kernel_rfl) (by simp) ?_;refine AllReadyH.cons (o:={dst:=none,op:=.store 247 (.tmp 72) (.tmp 71),type:=0,pos:= "spread.go:27",after:=#[{on:=9,ground:=.data},{on:=8,ground:=.data},{on:=8,ground:=.chain},{on:=0,ground:=.phase},{on:=1,ground:=.phase},{on:=2,ground:=.phase},{on:=3,ground:=.phase},{on:=4,ground:=.phase},{on:=5,ground:=.phase},{on:=6,ground:=.phase},{on:=7,ground:=.phase},{on:=8,ground:=.phase}],guard:=none}) rfl (fun K hK=>?_) AllReadyH.nil;go_simp;refine hK.out _ _ (by exact Nu anz (hcc wC HwC.out)) (fun hHeld=>?_);clear hK K
     try simp only[Act.put,List.setIfInBounds_toArray,List.set_cons_zero,List.set_cons_succ]
     refine wpAnyH_done (by kernel_rfl) ?_ _;have HR:=amS.out wC HwC.out;clear hcc hd0 hd1 hd2 hf0 hf1 hf2 k0 k1 k2 m0 m1 m2 amS Hcf HB2 anz;go_wp2;go_roundw
     case rel=>exact⟨k+1,by omega,by go_num,HR⟩
     case measure=>simp[intOf];omega
   ·obtain rfl:k=S:=by omega
    have hst:rZ wr ⟨b,0,none⟩ ls log:=by
     refine⟨b,gc,gs,rfl,hB.tab,?_,vs,hB.rows,hB.len,fun s hs=>?_⟩
     ·have h1:=hB.cells;rw[HS.out,GH]at h1;exact h1
     ·have hsv:s<vs.length:=by rw[hB.len];exact hs
      have h1:=hB.fam.own s vs[s] (List.getElem?_eq_getElem hsv);obtain⟨A',c',e1,e2,_⟩:=dP h1;rw[HS.out,AU ls log s Hf.out]at e1;rw[HS.out]at e2;exact⟨A',c',by rw[List.getElem?_eq_getElem hsv,e1],e2⟩
    have Hst:=hid hst;have jB:=hid hB.bel;clear hB hst;go_wp2;go_ret2;exact⟨_,rfl,Hst.out,jB.out⟩
theorem WW(A:Option Addr)(c:Nat)(l:List Int)(log:Int)(w:World)(hl:l.length<=1000000)(hok:∀x∈l,bO x)(BZ:bO log)(hr:Reads w A (mH l))(hf:Bm.Fair l log) :
  Calls prog 147 #[.slice A l.length c,.int .i64 log] w fun e w'=>∃p,e=.returned (.tuple #[.pointer (some p),.bool true])/\rZ w' p (l.map Int.toNat) log.toNat/\Below w.heap.size w w':=by
 have h1:=xD A c l log w hl hok BZ hr;rw[show Ih l log=true from decide_eq_true hf]at h1;have hls:aM (l.map Int.toNat)=mH l:=by rw[<-bJ,KU l log hf]
 have hl9:(log.toNat:Int)=log:=by have:=hf.1;omega
 have h2:=Kh A c (l.map Int.toNat) log.toNat w (SS l log hf) (by rw[hls];exact hr) (by rw[hl9,List.length_map];exact h1);rw[hl9,List.length_map]at h2;exact h2
theorem adt:alq rZ where
 keep:=fun w W p ls log h hb=>bY w W p ls log h hb
 build:=WW
 afC:=Xd
 cell:=fun w p ls log st hf h _=>rM w p ls log st hf h
 aen:=fun w st _=>Xe w st
 size:=fun w p ls log _ h=>(eD w p ls log h).mono fun e w' ⟨he,hw⟩=>⟨he,0,by subst hw;rfl⟩
 agq:=fun w=>(FZ w).mono fun e w' ⟨he,hw⟩=>⟨he,0,by subst hw;rfl⟩
 amc:=fun w p ls log _ h=>(rP w p ls log h).mono fun e w' ⟨he,hw⟩=>⟨he,0,by subst hw;rfl⟩
 ajz:=fun w=>(abN w).mono fun e w' ⟨he,hw⟩=>⟨he,0,by subst hw;rfl⟩
 next:=fun w p ls log st more hf h _ _=>yG w p ls log st more hf h
 back:=fun w p ls log st s hf h _ hs=>FW w p ls log st s hf h hs
theorem Dg(t:List Nat)(p:List Nat×Nat)(h:rQ t=some p):yD 4096 (some t)=(p.1,some (t.drop p.2))/\p.1.length<=4096:=by
 unfold rQ at h;split at h
 ·next hc=>
  injection h with h
  subst h;dsimp only;unfold yD;rw[ni 4096 t hc.1 (by omega)];simp only[gZ];rw[if_pos (by rw[List.length_drop];exact hc.2.2),List.drop_drop];exact⟨rfl,by rw[List.length_take];omega⟩
 ·cases h
theorem Df(t:List Nat)(h:rQ t=none):yD 4096 (some t)=([],none):=by
 unfold rQ at h;split at h
 ·cases h
 ·next hc=>
  unfold yD;by_cases h0:0<(au t).2/\((au t).1:Int)<=4096
  ·rw[ni 4096 t h0.1 h0.2];simp only[gZ];rw[if_neg (by rw[List.length_drop];omega)]
  ·rw[Aa 4096 t h0];rfl
theorem Ko(t:List Nat)(p:List Nat×Nat)(h:rQ t=some p)(hlt:∀x∈t,x<256):∀x∈p.1,x<256:=by
 unfold rQ at h;split at h
 ·injection h with h
  subst h;exact iN (dG hlt _) _
 ·cases h
theorem aaM(c b pos:Nat)(bs:List Nat)(w:World)(hc:c<28)(hs:bs.length<=100000)(hbs:∀x∈bs,x<256)(hle:pos+exK c<=8*bs.length)(h:RS w b 0 bs pos) :
  Calls prog 134 #[.int .u8 (c:Int),.pointer (some ⟨b,0,none⟩)] w fun e w'=>e=.returned (.tuple #[.int .i64 (QF c (aW bs/2^pos):Int),.bool true])/\RS w' b 0 bs (pos+exK c)/\w.grownBy w' (some b):=by
 have hx0:exK c<=15:=by unfold exK;split<;>omega
 have hE:cK c=(exK c:Int):=by unfold cK exK;split;rfl;rw[if_neg (by omega)]
 have adI:=hid (kG w c (by omega));have hmax:max (cK c) 0=(exK c:Int):=by rw[hE];omega
 have hdec:decide (0<=cK c)=true:=decide_eq_true (by rw[hE];omega);rw[hmax,hdec]at adI;have Ht:=hid (jV b 0 bs pos (exK c) w (by omega) hbs (by omega) hle h);have hm:=Nat.mod_lt (aW bs/2^pos) (Nat.two_pow_pos (exK c));have hP:2^exK c<=2^15:=Nat.pow_le_pow_right (by omega) hx0;have h15:(2:Nat)^15=32768:=by decide
 have hval:iJ c (aW bs/2^pos%2^exK c)=some (QF c (aW bs/2^pos)):=by
  unfold iJ QF;unfold exK at hm ⊢;by_cases h16:c<16
  ·simp only[if_pos h16];rw[Nat.pow_zero,Nat.mod_one,if_pos rfl]
  ·simp only[if_neg h16]at hm ⊢;rw[if_neg (by omega),if_pos hm]
 have Hv:=hid (fun W=>EJ W c (aW bs/2^pos%2^exK c) (by omega) (by omega));rw[hval]at Hv;dsimp only at Hv;clear hval hE hmax hdec h hbs hm;generalize aW bs/2^pos%2^exK c=m at *;generalize QF c (aW bs/2^pos)=v at *;obtain⟨q,hq⟩:∃q,q=pos+exK c:=⟨_,rfl⟩;rw[<-hq]at Ht ⊢;clear hq;generalize exK c=x at *;go_enter func134,ntmps134
 go_wp2_with fail
 refine adI.out.mono ?_;rintro e w' ⟨rfl,rfl⟩;go_wp2_with fail
 refine Ht.out.mono ?_;rintro e w2 ⟨rfl,hr2,hg2⟩;have Hr2:=hid hr2;have Hg2:=hid hg2;clear hr2 hg2 Ht adI;go_wp2_with fail
 refine(Hv.out w2).mono ?_;rintro e w3 ⟨rfl,hb3⟩;have Hr3:=hid (Hr2.out.below hb3);have Hg3:=hid (bF Hg2.out (ak hb3 _));clear hb3 Hr2 Hg2 Hv;go_wp2;go_ret2;exact⟨rfl,Hr3.out,Hg3.out⟩
theorem aga(c b pos:Nat)(bs:List Nat)(w:World)(hc:c<28)(hs:bs.length<=100000)(hp:pos<=8*bs.length)(hle:8*bs.length-pos<exK c)(h:RS w b 0 bs pos) :
  Calls prog 134 #[.int .u8 (c:Int),.pointer (some ⟨b,0,none⟩)] w fun e w'=>(∃v:Int,e=.returned (.tuple #[.int .i64 v,.bool false]))/\w.grownBy w' (some b):=by
 have hx0:exK c<=15:=by unfold exK;split<;>omega
 have hE:cK c=(exK c:Int):=by unfold cK exK;split;rfl;rw[if_neg (by omega)]
 have adI:=hid (kG w c (by omega));have hmax:max (cK c) 0=(exK c:Int):=by rw[hE];omega
 have hdec:decide (0<=cK c)=true:=decide_eq_true (by rw[hE];omega);rw[hmax,hdec]at adI;have Ht:=hid (rH b 0 bs pos (exK c) w (by omega) hp (by omega) hle h);have Hv:Hid (∀W,Calls prog 168 #[.int .u8 (c:Int),.int .u32 0] W fun e w'=>(∃(v:Int) (z:Bool),e=.returned (.tuple #[.int .i64 v,.bool z]))/\Below W.heap.size W w'):=hid (fun W=>(EJ W c 0 (by omega) (by omega)).mono fun e w' ⟨he,hb⟩=>⟨by
  cases hv:iJ c 0 with
  | none=>rw[hv]at he;exact⟨_,_,he⟩
  | some g=>rw[hv]at he;exact⟨_,_,he⟩,hb⟩)
 clear hE hmax hdec h hle;generalize exK c=x at *;go_enter func134,ntmps134
 go_wp2_with fail
 refine adI.out.mono ?_;rintro e w' ⟨rfl,rfl⟩;go_wp2_with fail
 refine Ht.out.mono ?_;rintro e w2 ⟨rfl,k,rfl⟩;clear Ht adI;go_wp2_with fail
 refine(Hv.out _).mono ?_;rintro e w3 ⟨⟨v,z,rfl⟩,hb3⟩;have Hg3:=hid (bF (bL (aj w (some b)) k) (ak hb3 _));clear hb3 Hv;go_wp2;go_ret2;exact⟨⟨v,rfl⟩,Hg3.out⟩
def apI(w':World)(e:Ending):Option (List Nat×Nat)->Prop
 | none=>e=.returned (.tuple #[.pointer none,.bool false])
 | some t=>∃p,e=.returned (.tuple #[.pointer (some p),.bool true])/\rZ w' p t.1 t.2
namespace Bm
theorem NZ(hd:List Nat)(t:List Nat×Nat)(h:headD hd=some t):bN t.1 t.2:=by
 unfold headD at h;split at h
 ·cases h
 ·next u hu=>
  split at h
  ·injection h with h
   subst h;exact(uh _ _ u.1 u.2.1 u.2.2 hu).1
  ·cases h
end Bm
theorem aaT(hd:List Nat)(w:World)(hl:hd.length<=4096)(hlt:∀x∈hd,x<256) :
  Calls prog 190 #[.string (strOf hd)] w fun e w'=>apI w' e (Bm.headD hd)/\Below w.heap.size w w':=by
 obtain⟨w1,cap,dB,hcell,hb1⟩:=bU w hd hlt;have hrs:Reads w1 (some ⟨w.heap.size,0,none⟩) (u8s hd):=fun _=>⟨_,_,rfl,fun j hj=>by
  rw[aO]at hj;rw[Nat.zero_add,hcell j hj,bD hd j hj]⟩
 have uY:=hid (qM (some ⟨w.heap.size,0,none⟩) cap hd w1 hlt hrs);have Hb1:=hid hb1;have htake:=fun W b (h:RS W b 0 hd 0)=>NY W b 0 0 hd (by omega) hlt (by omega) h
 rw[Nat.pow_zero,Nat.div_one,Nat.sub_zero]at htake;have vX:=hid (fun W b pos (hp:pos<=8*hd.length) (h:RS W b 0 hd pos)=>Gh b pos hd W (by omega) hlt hp h);have hres:Bm.headD hd=(match Bm.takeA (aW hd) (8*hd.length)with | none=>none | some t=>if Po (aW hd) (8*hd.length) t.2.2=true then some (t.1,t.2.1)else none):=rfl;rw[hres];have hfair:=fun l lg e' (h:Bm.takeA (aW hd) (8*hd.length)=some (l,lg,e'))=>uh _ _ l lg e' h
 clear hres hcell hrs hb1;cases htk:Bm.takeA (aW hd) (8*hd.length)with
 | none=>
  rw[htk]at htake;unfold aea at htake;dsimp only at htake ⊢;have Htk:=hid htake;clear htake hfair htk hlt;generalize strOf hd=sd at *;go_enter func190,ntmps190
  go_wp2_with fail
  refine uY.out.mono ?_;rintro e w2 ⟨rfl,hr2,hb2⟩;have Ht2:=hid (Htk.out w2 _ hr2);have Hb2:=hid (Hb1.out.trans (hb2.mono Hb1.out.size));have Hsz:=hid Hb1.out.size;clear hr2 hb2 uY Hb1 Htk dB;go_wp2_with fail
  refine Ht2.out.mono ?_;rintro e w3 ⟨⟨A,c,rfl⟩,hg3,_⟩;have Hb3:=hid (Hb2.out.grown hg3 Hb2.out.size (fun x e=>by injection e with e;have:=Hsz.out;omega));clear hg3 Ht2 Hb2;go_wp2;go_ret2;exact⟨rfl,Hb3.out⟩
 | some t=>
  obtain⟨ls,lg,e'⟩:=t;obtain⟨hf,he'⟩:=hfair ls lg e' htk;rw[htk]at htake;unfold aea at htake;dsimp only at htake ⊢;have Htk:=hid htake;have hfl:=hf.len;have hfI:=NM ls lg hf;have h9:=hf.high;have acz:Hid (∀A c W,Reads W A (aM ls)->Calls prog 147 #[.slice A ls.length c,.int .i64 (lg:Int)] W fun e w'=>∃p,e=.returned (.tuple #[.pointer (some p),.bool true])/\rZ w' p ls lg/\Below W.heap.size W w'):=hid (fun A c W h1=>by
   have h2:=adt.build A c (ls.map (fun n:Nat=>(n:Int))) (lg:Int) W (by rw[List.length_map];omega) (fun x hx=>by
    have:=hfI.2.2.2.1 x hx;unfold bO;omega) (by unfold bO;omega) (by rw[bJ];exact h1) hfI
   rw[List.length_map,Int.toNat_natCast]at h2;have ahj:(ls.map (fun n:Nat=>(n:Int))).map Int.toNat=ls:=by
    rw[List.map_map];conv=>rhs;rw[<-List.map_id ls]
    apply List.map_congr_left
    intro x _;rfl
   rw[ahj]at h2;exact h2)
  have hen:∀W b,RS W b 0 hd (8*hd.length-e')->Calls prog 136 #[.pointer (some ⟨b,0,none⟩)] W fun e w'=>e=.returned (.bool (Po (aW hd) (8*hd.length) e'))/\W.grownBy w' (some b):=fun W b h=>by
   have h1:=vX.out W b (8*hd.length-e') (by omega) h;rw[show 8*hd.length-(8*hd.length-e')=e' by omega]at h1;exact h1
  have Hen:=hid hen;clear htake hfair htk hlt hfI hf vX hen;generalize Po (aW hd) (8*hd.length) e'=r at *;generalize strOf hd=sd at *;go_enter func190,ntmps190
  go_wp2_with fail
  refine uY.out.mono ?_;rintro e w2 ⟨rfl,hr2,hb2⟩;have Ht2:=hid (Htk.out w2 _ hr2);have Hb2:=hid (Hb1.out.trans (hb2.mono Hb1.out.size));have hsz:=Hb1.out.size;have hlt2:=hr2.2.2.2;clear hr2 hb2 uY Hb1 Htk dB;generalize w1.heap.size=b at *;go_wp2_with fail
  refine Ht2.out.mono ?_;rintro e w3 ⟨⟨A,c,rfl,hrd,hA⟩,hg3,hr3⟩;have Hb3:=hid (Hb2.out.grown hg3 Hb2.out.size (fun x e=>by injection e with e;omega));have Hrd:=hid hrd;have HA:=hid hA;have amE:=hid (Hen.out w3 b (hr3 _ rfl));clear hg3 Ht2 Hb2 hrd hA hr3 Hen;go_wp2_with fail
  refine amE.out.mono ?_;rintro e w4 ⟨rfl,hg4⟩;have Hb4:=hid (Hb3.out.grown hg4 Hb3.out.size (fun x e=>by injection e with e;omega));have Hbd:=hid (acz.out A c w4 (kL Hrd.out (fun a e=>by have:=HA.out a e;omega) hg4));clear hg4 amE Hb3 Hrd HA acz;cases r with
  | false=>
   go_wp2;go_ret2;exact⟨rfl,Hb4.out⟩
  | true=>
   go_wp2_with fail
   refine Hbd.out.mono ?_;rintro e w5 ⟨p,rfl,hst,hb5⟩;have Hb5:=hid (Hb4.out.trans (hb5.mono Hb4.out.size));have Hst:=hid hst;clear hst hb5 Hbd Hb4;go_wp2;go_ret2;exact⟨⟨p,rfl,Hst.out⟩,Hb5.out⟩
def adx(w':World)(b:Nat)(bs:List Nat)(e:Ending):Option (List Nat×Nat)->Prop
 | none=>∃A c,e=.returned (.tuple #[.slice A 0 c,.bool false])
 | some t=>(∃A c,e=.returned (.tuple #[.slice A t.1.length c,.bool true])/\Reads w' A (u8s t.1))/\CR w' b (some (bs.drop t.2))
theorem Mg(b n:Nat)(t:List Nat)(st:Left)(s1 s2:ByteArray)(w:World)
  (h1:Calls prog 106 #[.pointer (some ⟨b,0,none⟩),.int .i64 4096] w fun e w'=>e=.returned (.string s1)/\CR w' b st/\w.grownBy w' (some b))
  (h2:∀W,CR W b st->Calls prog 106 #[.pointer (some ⟨b,0,none⟩),.int .i64 4096] W fun e W'=>e=.returned (.string s2)/\CR W' b none/\W.grownBy W' (some b)) :
  Calls prog 164 #[.pointer (some ⟨b,0,none⟩),.int .i64 (n:Int)] w fun e w'=>adx w' b t e none/\w.grownBy w' (some b):=by
 have H1:=hid h1;have H2:=hid h2;clear h1 h2;go_enter func164,ntmps164
 go_wp2_with fail
 refine H1.out.mono ?_;rintro e w1 ⟨rfl,hc1,hg1⟩;have H3:=hid (H2.out w1 hc1);have Hg1:=hid hg1;clear hc1 hg1 H1 H2;go_wp2_with fail
 refine H3.out.mono ?_;rintro e w2 ⟨rfl,hc2,hg2⟩;have Hb:=hid (aK b none w2 hc2);have Hg2:=hid (ay Hg1.out hg2);clear hc2 hg2 Hg1 H3;go_wp2_with fail
 refine Hb.out.mono ?_;rintro e w3 ⟨rfl,rfl⟩;clear Hb;go_wp2;go_ret2;exact⟨⟨_,_,rfl⟩,Hg2.out⟩
theorem aaO(b n:Nat)(t:List Nat)(w:World)(ht:t.length<=100000000)(hlt:∀x∈t,x<256)(h:CR w b (some t)) :
  Calls prog 164 #[.pointer (some ⟨b,0,none⟩),.int .i64 (n:Int)] w fun e w'=>adx w' b t e (fG t n)/\w.grownBy w' (some b):=by
 have h1:=nC b (some t) 4096 w (by omega) (by omega) ⟨hlt,ht⟩ h;unfold fG;cases hp:rQ t with
 | none=>
  rw[Df t hp]at h1;exact Mg b n t none _ (strOf []) w h1 (fun W hc=>nC b none 4096 W (by omega) (by omega) trivial hc)
 | some p=>
  obtain⟨hd,k⟩:=p;obtain⟨e1,hl1⟩:=Dg t _ hp;have hm1:=Ko t _ hp hlt;rw[e1]at h1;dsimp only at h1 hl1 hm1 ⊢;have hdl:(t.drop k).length<=100000000:=by rw[List.length_drop];omega
  have hdt:∀x∈t.drop k,x<256:=dG hlt k;have h2:=fun W (hc:CR W b (some (t.drop k)))=>nC b (some (t.drop k)) 4096 W (by omega) (by omega) ⟨hdt,hdl⟩ hc
  cases hq:rQ (t.drop k)with
  | none=>
   rw[Df _ hq]at h2;exact Mg b n t _ _ _ w h1 h2
  | some q=>
   obtain⟨bd,m⟩:=q;obtain⟨e2,hl2⟩:=Dg _ _ hq;have hm2:=Ko _ _ hq hdt;rw[e2]at h2;dsimp only at h2 hl2 hm2 ⊢;rw[List.drop_drop]at h2;have H1:=hid h1;have H2:=hid h2;have acI:=hid (fun W=>aaT hd W hl1 hm1);have hfair:=NZ hd;obtain⟨r,hr⟩:∃r,r=Bm.headD hd:=⟨_,rfl⟩;rw[<-hr]at acI hfair ⊢;have jQ:=hid (fun W=>bU W bd hm2);clear hr h1 h2 e1 e2 hp hq hdl hdt hm1;cases r with
   | none=>
    dsimp only;clear hfair jQ;generalize strOf hd=s1 at *;generalize strOf bd=s2 at *;go_enter func164,ntmps164
    go_wp2_with fail
    refine H1.out.mono ?_;rintro e w1 ⟨rfl,hc1,hg1⟩;have H3:=hid (H2.out w1 hc1);have Hg1:=hid hg1;clear hc1 hg1 H1 H2;go_wp2_with fail
    refine H3.out.mono ?_;rintro e w2 ⟨rfl,hc2,hg2⟩;have Hb:=hid (aK b _ w2 hc2);have Hg2:=hid (ay Hg1.out hg2);clear hc2 hg2 Hg1 H3;go_wp2_with fail
    refine Hb.out.mono ?_;rintro e w3 ⟨rfl,rfl⟩;have Ht2:=hid (acI.out w2);clear Hb acI;go_wp2_with fail
    refine Ht2.out.mono ?_;rintro e w4 ⟨rfl,hb4⟩;have Hg4:=hid (ay Hg2.out (ak hb4 _));clear hb4 Ht2 Hg2;go_wp2;go_ret2;exact⟨⟨_,_,rfl⟩,Hg4.out⟩
   | some tb=>
    obtain⟨ls,lg⟩:=tb;have hf:=hfair _ rfl;dsimp only at hf ⊢;have acB:Hid (∀W p A c,rZ W p ls lg->Reads W A (u8s bd)->Calls prog 191 #[.pointer (some p),.slice A bd.length c,.int .i64 (n:Int)] W fun e w'=>vU w' e (BL ls lg bd (n:Int))/\Below W.heap.size W w'):=hid (fun W p A c hst hrd=>YS W p ls lg A c bd (n:Int) hf hst (by omega) hm2 hrd);clear hfair hf;obtain⟨rr,hrr⟩:∃rr,rr=BL ls lg bd (n:Int):=⟨_,rfl⟩;rw[<-hrr]at acB ⊢;clear hrr;generalize strOf hd=s1 at *;have hx:=jQ.out;clear jQ;generalize strOf bd=s2 at *;have jQ:=hid hx;clear hx;go_enter func164,ntmps164
    go_wp2_with fail
    refine H1.out.mono ?_;rintro e w1 ⟨rfl,hc1,hg1⟩;have H3:=hid (H2.out w1 hc1);have Hg1:=hid hg1;clear hc1 hg1 H1 H2;go_wp2_with fail
    refine H3.out.mono ?_;rintro e w2 ⟨rfl,hc2,hg2⟩;have Hb:=hid (aK b _ w2 hc2);have Hg2:=hid (ay Hg1.out hg2);have Hc2:=hid hc2;clear hc2 hg2 Hg1 H3;go_wp2_with fail
    refine Hb.out.mono ?_;rintro e w3 ⟨rfl,rfl⟩;have Ht2:=hid (acI.out w2);clear Hb acI;go_wp2_with fail
    refine Ht2.out.mono ?_;rintro e w4 ⟨⟨p,rfl,hst⟩,hb4⟩;have Hg4:=hid (ay Hg2.out (ak hb4 _));have Hc4:=hid (Hc2.out.below hb4);obtain⟨w5,cap,dB,hcell,hb5⟩:=jQ.out w4;have hrs:Reads w5 (some ⟨w4.heap.size,0,none⟩) (u8s bd):=fun _=>⟨_,_,rfl,fun j hj=>by
     rw[aO]at hj;rw[Nat.zero_add,hcell j hj,bD bd j hj]⟩
    have Hd5:=hid (acB.out w5 p _ cap (bY _ _ _ _ _ hst hb5) hrs);have Hg5:=hid (ay Hg4.out (ak hb5 _));have Hc5:=hid (Hc4.out.below hb5);clear hst hb4 hcell hrs hb5 Ht2 Hg2 Hc2 Hg4 Hc4 acB jQ;go_wp2_with fail
    refine Hd5.out.mono ?_;rintro e w6 ⟨hbp,hb6⟩;have Hg6:=hid (ay Hg5.out (ak hb6 _));have Hc6:=hid (Hc5.out.below hb6);clear Hd5 hb6 Hg5 Hc5 dB;cases rr with
    | none=>
     obtain⟨A,c,rfl⟩:=hbp;go_wp2;go_ret2;exact⟨⟨_,_,rfl⟩,Hg6.out⟩
    | some l=>
     obtain⟨A,c,rfl,hrd⟩:=hbp;have Hrd:=hid hrd;clear hrd;go_wp2;go_ret2;exact⟨⟨⟨_,_,rfl,Hrd.out⟩,Hc6.out⟩,Hg6.out⟩
theorem VA(b n:Nat)(bs:List Nat)(w:World)(hl:bs.length<=100000000)(hlt:∀x∈bs,x<256)(h1:1<=n)(hn:n<=4096)(h:CR w b (some bs)) :
  Calls prog 131 #[.pointer (some ⟨b,0,none⟩),.int .i64 (n:Int)] w fun e w'=>adx w' b bs e (oJ bs n)/\w.grownBy w' (some b):=by
 have hfx:=kM b (some bs) 1 w (by omega) (by omega) ⟨hlt,hl⟩ h;cases bs with
 | nil=>
  have e1:gZ (fx 1) (some [])=([],none):=rfl;rw[e1]at hfx;have Hfx:=hid hfx;clear hfx h hlt e1;show Calls prog 131 #[.pointer (some ⟨b,0,none⟩),.int .i64 (n:Int)] w fun e w'=>adx w' b [] e none/\w.grownBy w' (some b)
  generalize hv:(aW ([],(none:Left)).1)=v at *;go_enter func131,ntmps131
  go_wp2_with fail
  refine Hfx.out.mono ?_;rintro e w1 ⟨rfl,hc1,hg1⟩;have Hb:=hid (aK b _ w1 hc1);have Hg1:=hid hg1;clear hc1 hg1 Hfx;go_wp2_with fail
  refine Hb.out.mono ?_;rintro e w3 ⟨rfl,rfl⟩;clear Hb;go_wp2;go_ret2;exact⟨⟨_,_,rfl⟩,Hg1.out⟩
 | cons k t=>
  rw[vK k t]at hfx;have hk:=hlt k List.mem_cons_self;have htl:t.length<=100000000:=by rw[List.length_cons]at hl;omega
  have htt:∀x∈t,x<256:=fun x hx=>hlt x (List.mem_cons_of_mem _ hx)
  have hv:aW ([k],some t).1=k:=by simp[aW]
  rw[hv]at hfx;have Hfx:=hid hfx;have hdrop:∀m,(k :: t).drop (1+m)=t.drop m:=fun m=>by rw[Nat.add_comm,List.drop_succ_cons]
  clear hfx h hlt hl hv;have vw:=hid (fun W (hc:CR W b (some t))=>aK b (some t) W hc);by_cases hk0:k=0
  ·subst hk0;rw[Fu];have fT:=hid (fun W (hc:CR W b (some t))=>gD b (some t) (n:Int) W hc);rw[Int.toNat_natCast]at fT;by_cases hc:n<=t.length
   ·rw[if_pos hc];rw[xW n t hc]at fT;have hln:(t.take n).length=n:=by rw[List.length_take];omega
    have jQ:=hid (fun W=>bU W (t.take n) (iN htt n));have Hdr:=hid (hdrop n);dsimp only at fT;unfold adx;dsimp only;rw[Hdr.out];clear Hdr hdrop htt hc;generalize t.take n=tn at *;generalize t.drop n=td at *;generalize hstr:strOf tn=st at *;clear hstr;go_enter func131,ntmps131
    go_wp2_with fail
    refine Hfx.out.mono ?_;rintro e w1 ⟨rfl,hc1,hg1⟩;have Hb:=hid (vw.out w1 hc1);have Hr1:=hid (fT.out w1 hc1);have Hg1:=hid hg1;clear hc1 hg1 Hfx vw fT;go_wp2_with fail
    refine Hb.out.mono ?_;rintro e w3 ⟨rfl,rfl⟩;clear Hb;go_wp2_with fail
    refine Hr1.out.mono ?_;rintro e w2 ⟨rfl,hc2,hg2⟩;obtain⟨w5,cap,dB,hcell,hb5⟩:=jQ.out w2;have Hrs:Hid (Reads w5 (some ⟨w2.heap.size,0,none⟩) (u8s tn)):=hid (fun _=>⟨_,_,rfl,fun j hj=>by
     rw[aO]at hj;rw[Nat.zero_add,hcell j hj,bD tn j hj]⟩)
    have Hg5:=hid (ay (ay Hg1.out hg2) (ak hb5 _));have hc5:=hc2.below hb5;have Hb5:=hid (aK b _ w5 hc5);have Hc5:=hid hc5;clear hg2 hcell hb5 hc2 Hg1 jQ hc5 Hr1;go_wp2_with fail
    refine Hb5.out.mono ?_;rintro e w6 ⟨rfl,rfl⟩;clear dB Hb5;go_wp2;go_ret2;refine⟨⟨⟨some ⟨w2.heap.size,0,none⟩,cap,?_,Hrs.out⟩,Hc5.out⟩,Hg5.out⟩;rw[hln];rfl
   ·rw[if_neg hc];rw[Fp n t hc]at fT;have jQ:=hid (fun W=>bU W [] (by simp));dsimp only at fT;clear hdrop htt hc;generalize hstr:strOf []=st at *;clear hstr;go_enter func131,ntmps131
    go_wp2_with fail
    refine Hfx.out.mono ?_;rintro e w1 ⟨rfl,hc1,hg1⟩;have Hb:=hid (vw.out w1 hc1);have Hr1:=hid (fT.out w1 hc1);have Hg1:=hid hg1;clear hc1 hg1 Hfx vw fT;go_wp2_with fail
    refine Hb.out.mono ?_;rintro e w3 ⟨rfl,rfl⟩;clear Hb;go_wp2_with fail
    refine Hr1.out.mono ?_;rintro e w2 ⟨rfl,hc2,hg2⟩;obtain⟨w5,cap,dB,hcell,hb5⟩:=jQ.out w2;have Hg5:=hid (ay (ay Hg1.out hg2) (ak hb5 _));have Hb5:=hid (aK b _ w5 (hc2.below hb5));clear hg2 hcell hb5 hc2 Hg1 jQ Hr1;go_wp2_with fail
    refine Hb5.out.mono ?_;rintro e w6 ⟨rfl,rfl⟩;clear dB Hb5;go_wp2;go_ret2;exact⟨⟨_,_,rfl⟩,Hg5.out⟩
  ·by_cases hk1:k=1
   ·subst hk1;rw[Fv];have fT:=hid (fun W (hc:CR W b (some t))=>gD b (some t) 1 W hc);cases t with
    | nil=>
     have e1:gZ (1:Int).toNat (some ([]:List Nat))=([],none):=rfl;rw[e1]at fT;rw[if_neg (by simp)];have jQ:=hid (fun W=>bU W [] (by simp));have Hrep:=hid (fun A c W=>aaP A c n W h1 hn);dsimp only at fT;clear hdrop htt e1 hk0;generalize hstr:strOf []=st at *;clear hstr;go_enter func131,ntmps131
     go_wp2_with fail
     refine Hfx.out.mono ?_;rintro e w1 ⟨rfl,hc1,hg1⟩;have Hb:=hid (vw.out w1 hc1);have Hr1:=hid (fT.out w1 hc1);have Hg1:=hid hg1;clear hc1 hg1 Hfx vw fT;go_wp2_with fail
     refine Hb.out.mono ?_;rintro e w3 ⟨rfl,rfl⟩;clear Hb;go_wp2_with fail
     refine Hr1.out.mono ?_;rintro e w2 ⟨rfl,hc2,hg2⟩;obtain⟨w5,cap,dB,hcell,hb5⟩:=jQ.out w2;have Hg5:=hid (ay (ay Hg1.out hg2) (ak hb5 _));have Hc5:=hid (hc2.below hb5);have Hr5:=hid (Hrep.out (some ⟨w2.heap.size,0,none⟩) cap w5);clear hg2 hcell hb5 hc2 Hg1 jQ Hr1 Hrep;go_wp2_with fail
     refine Hr5.out.mono ?_;rintro e w6 ⟨⟨A6,c6,rfl⟩,hb6⟩;have Hg6:=hid (ay Hg5.out (ak hb6 _));have Hb6:=hid (aK b _ w6 (Hc5.out.below hb6));clear hb6 Hg5 Hc5 Hr5 dB;go_wp2_with fail
     refine Hb6.out.mono ?_;rintro e w7 ⟨rfl,rfl⟩;clear Hb6;go_wp2;go_ret2;exact⟨⟨_,_,rfl⟩,Hg6.out⟩
    | cons x t=>
     have e1:gZ (1:Int).toNat (some (x :: t))=([x],some t):=rfl;have hx:=htt x List.mem_cons_self;rw[e1]at fT;rw[if_pos (by simp)];simp only[List.getElem?_cons_zero,Option.getD_some];have jQ:=hid (fun W=>bU W [x] (by simpa using hx));have Hrep:=hid (fun A c W hr=>aaQ A c x n W hx h1 hn hr);dsimp only at fT;have Hdr:Hid ((1 :: x :: t).drop 2=t):=hid rfl;unfold adx;dsimp only;rw[Hdr.out,List.length_replicate];clear hdrop htt e1 hk0 Hdr;generalize hstr:strOf [x]=st at *;clear hstr;go_enter func131,ntmps131
     go_wp2_with fail
     refine Hfx.out.mono ?_;rintro e w1 ⟨rfl,hc1,hg1⟩;have Hb:=hid (vw.out w1 hc1);have Hr1:=hid (fT.out w1 hc1);have Hg1:=hid hg1;clear hc1 hg1 Hfx vw fT;go_wp2_with fail
     refine Hb.out.mono ?_;rintro e w3 ⟨rfl,rfl⟩;clear Hb;go_wp2_with fail
     refine Hr1.out.mono ?_;rintro e w2 ⟨rfl,hc2,hg2⟩;obtain⟨w5,cap,dB,hcell,hb5⟩:=jQ.out w2;have hrs:Reads w5 (some ⟨w2.heap.size,0,none⟩) (u8s [x]):=fun _=>⟨_,_,rfl,fun j hj=>by
      rw[aO]at hj;rw[Nat.zero_add,hcell j hj,bD [x] j hj]⟩
     have Hg5:=hid (ay (ay Hg1.out hg2) (ak hb5 _));have Hc5:=hid (hc2.below hb5);have Hr5:=hid (Hrep.out (some ⟨w2.heap.size,0,none⟩) cap w5 hrs);clear hg2 hcell hb5 hc2 Hg1 jQ Hr1 Hrep hrs;go_wp2_with fail
     refine Hr5.out.mono ?_;rintro e w6 ⟨⟨A6,c6,rfl,aok⟩,hb6⟩;have Hg6:=hid (ay Hg5.out (ak hb6 _));have hc6:=Hc5.out.below hb6;have Hb6:=hid (aK b _ w6 hc6);have Hc6:=hid hc6;have apv:=hid aok;clear hb6 Hg5 Hc5 Hr5 dB hc6 aok;go_wp2_with fail
     refine Hb6.out.mono ?_;rintro e w7 ⟨rfl,rfl⟩;clear Hb6;go_wp2;go_ret2;exact⟨⟨⟨_,_,rfl,apv.out⟩,Hc6.out⟩,Hg6.out⟩
   ·by_cases hk2:k=2
    ·subst hk2;rw[Fw];have Gq:=hid (fun W (hc:CR W b (some t))=>aaO b n t W htl htt hc);generalize fG t n=r at *;clear htt hk0 hk1 htl;go_enter func131,ntmps131
     go_wp2_with fail
     refine Hfx.out.mono ?_;rintro e w1 ⟨rfl,hc1,hg1⟩;have Hb:=hid (vw.out w1 hc1);have Hr1:=hid (Gq.out w1 hc1);have Hg1:=hid hg1;clear hc1 hg1 Hfx vw Gq;go_wp2_with fail
     refine Hb.out.mono ?_;rintro e w3 ⟨rfl,rfl⟩;clear Hb;go_wp2_with fail
     refine Hr1.out.mono ?_;rintro e w2 ⟨hcp,hg2⟩;have Hg2:=hid (ay Hg1.out hg2);clear hg2 Hg1 Hr1;cases r with
     | none=>
      obtain⟨A,c,rfl⟩:=hcp;go_wp2;go_ret2;exact⟨⟨_,_,rfl⟩,Hg2.out⟩
     | some q=>
      obtain⟨⟨A,c,rfl,hrd⟩,hc2⟩:=hcp;have Hrd:=hid hrd;have Hc2:=hid hc2;clear hrd hc2;go_wp2;go_ret2;exact⟨⟨⟨_,_,rfl,Hrd.out⟩,by show CR w2 b (some ((2 :: t).drop (1+q.2)));rw[hdrop];exact Hc2.out⟩,Hg2.out⟩
    ·rw[Mj k t n (by omega)];have d0:((k:Int) == 0)=false:=by rw[beq_eq_false_iff_ne];omega
     have d1:((k:Int) == 1)=false:=by rw[beq_eq_false_iff_ne];omega
     have d2:((k:Int) == 2)=false:=by rw[beq_eq_false_iff_ne];omega
     clear hk0 hk1 hk2 hdrop htt;go_enter func131,ntmps131
     go_wp2_with fail
     refine Hfx.out.mono ?_;rintro e w1 ⟨rfl,hc1,hg1⟩;have Hb:=hid (vw.out w1 hc1);have Hg1:=hid hg1;clear hc1 hg1 Hfx vw;go_wp2_with fail
     refine Hb.out.mono ?_;rintro e w3 ⟨rfl,rfl⟩;clear Hb;go_wp2;go_ret2;exact⟨⟨_,_,rfl⟩,Hg1.out⟩
theorem Ph(b n:Nat)(bs:List Nat)(w:World)(hl:bs.length<=100000000)(hlt:∀x∈bs,x<256)(h1:1<=n)(hn:n<=4096)(h:CR w b (some bs)) :
  Calls prog 105 #[.pointer (some ⟨b,0,none⟩),.int .i64 (n:Int)] w fun e w'=>adx w' b bs e (FL bs n)/\w.grownBy w' (some b):=by
 have Hrd:=hid (VA b n bs w hl hlt h1 hn h);have d0:decide ((n:Int)<0)=false:=decide_eq_false (by omega);have d1:decide ((4096:Int)<(n:Int))=false:=decide_eq_false (by omega);have hmem:=Mk bs n hlt;unfold FL;generalize oJ bs n=r at *;clear hlt h;cases r with
 | none=>
  dsimp only;go_enter func105,ntmps105
  go_wp2_with fail
  refine Hrd.out.mono ?_;rintro e w1 ⟨⟨A,c,rfl⟩,hg1⟩;have Hg1:=hid hg1;clear hg1 Hrd;go_wp2;go_ret2;exact⟨⟨_,_,rfl⟩,Hg1.out⟩
 | some q=>
  obtain⟨l,k⟩:=q;dsimp only;obtain⟨hl2,hlt2⟩:=hmem l k rfl;have Hok:=hid (fun A c W hr=>Pf A c l W (by omega) hlt2 hr);clear hl2;by_cases h28:∀x∈l,x<28
  ·rw[if_pos h28];rw[decide_eq_true h28]at Hok;clear h28 hlt2 hmem;go_enter func105,ntmps105
   go_wp2_with fail
   refine Hrd.out.mono ?_;rintro e w1 ⟨⟨⟨A,c,rfl,hrd⟩,hc1⟩,hg1⟩;have Hg1:=hid hg1;have ahX:=hid (Hok.out A c w1 hrd);have acE:=hid hrd;have Hc1:=hid hc1;clear hg1 Hrd hrd hc1 Hok;go_wp2_with fail
   refine ahX.out.mono ?_;rintro e w2 ⟨rfl,rfl⟩;clear ahX;go_wp2;go_ret2;exact⟨⟨⟨_,_,rfl,acE.out⟩,Hc1.out⟩,Hg1.out⟩
  ·rw[if_neg h28];rw[decide_eq_false h28]at Hok;clear h28 hlt2 hmem;go_enter func105,ntmps105
   go_wp2_with fail
   refine Hrd.out.mono ?_;rintro e w1 ⟨⟨⟨A,c,rfl,hrd⟩,hc1⟩,hg1⟩;have Hg1:=hid hg1;have ahX:=hid (Hok.out A c w1 hrd);clear hg1 Hrd hrd hc1 Hok;go_wp2_with fail
   refine ahX.out.mono ?_;rintro e w2 ⟨rfl,rfl⟩;clear ahX;go_wp2;go_ret2;exact⟨⟨_,_,rfl⟩,Hg1.out⟩
def aio(w':World)(e:Ending):Option (List Bm.Stp)->Prop
 | none=>∃A c,e=.returned (.tuple #[.slice A 0 c,.bool false])
 | some l=>∃A c,e=.returned (.tuple #[.slice A l.length c,.bool true])/\Dp w' A l
theorem aak(n:Nat):(madeCells #[Value.int .i64 0,.int .i64 0,.int .i64 0] (n*3)).toList=sqs (List.replicate n (0,0,0)):=by
 apply List.ext_getElem
 ·simp[madeCells,AP]
 ·intro i h1 h2;have hi:i<n*3:=by simpa [madeCells]using h1
  have hq:i/3<(List.replicate n ((0,0,0):Bm.Stp)).length:=by simp;omega
  obtain⟨e0,e1,e2⟩:=CQ (List.replicate n (0,0,0)) (i/3) hq;rw[List.getElem_replicate]at e0 e1 e2;have hl:(madeCells #[Value.int .i64 0,.int .i64 0,.int .i64 0] (n*3)).toList[i]=(#[Value.int .i64 0,.int .i64 0,.int .i64 0]:Array Value)[i%3]!:=by simp[madeCells]
  have hr:i%3=0\/i%3=1\/i%3=2:=by omega
  rw[hl,<-Option.some_inj,<-List.getElem?_eq_getElem h2];rcases hr with hr | hr | hr<;>rw[hr]
  ·rw[show i=i/3*3 by omega,e0];rfl
  ·rw[show i=i/3*3+1 by omega,e1];rfl
  ·rw[show i=i/3*3+2 by omega,e2];rfl
theorem Uz(n:Nat)(h:n<=1000000)(W:World):(Instr.makeSlice 77 (.int .i64 (n:Int)) (.int .i64 (n:Int))).run prog W=.ok (.slice (some ⟨W.heap.size,0,none⟩) n n) (W.alloc (.cells (sqs (List.replicate n (0,0,0))).toArray 121)):=by
 obtain⟨i0,hi,hz0,hz1,hz2⟩:=info_parts Lh;have h1:=run_make (P:=prog) W 77 121 i0 _ underlying77 hi hz0 .i64 .i64 (n:Int) (n:Int) (by omega) (by omega) (by rw[hz2];omega) (by omega);rw[Int.toNat_natCast,hz1,show(Value.agg #[.int .i64 0,.int .i64 0,.int .i64 0]).cells=#[.int .i64 0,.int .i64 0,.int .i64 0]from rfl]at h1;rw[h1,<-aak,Array.toArray_toList]
theorem agt(l:List Bm.Stp)(i:Nat)(x y z:Nat)(h:i<l.length):(((sqs l).set (i*3) (.int .i64 (x:Int))).set (i*3+1) (.int .i64 (y:Int))).set (i*3+2) (.int .i64 (z:Int))=sqs (l.set i (x,y,z)):=by
 induction l generalizing i with
 | nil=>simp at h
 | cons t l ih=>
  cases i with
  | zero=>rfl
  | succ i=>
   have h1:=ih i (by simpa using h);have e1:(i+1)*3=i*3+3:=by omega
   rw[e1,List.set_cons_succ,sqs,sqs,<-h1];rfl
structure StO(w W:World)(b0 br bl bc:Nat)(vs:List Value)(L:List Bm.Stp)(r:Int×Int×Int)(bd:List Nat)(pos:Nat):Prop where
 all:Row W b0 111 vs
 rd:RS W br 0 bd pos
 row:Row W bl 121 (sqs L)
 VK:Row W bc 157 [.int .i64 r.1,.int .i64 r.2.1,.int .i64 r.2.2]
 bel:Below w.heap.size w W
 low:w.heap.size<=b0/\b0<br/\br<bl/\bl<bc/\bc<W.heap.size
section
variable {w W W':World} {b0 br bl bc:Nat} {vs:List Value} {L:List Bm.Stp} {r:Int×Int×Int} {bd:List Nat} {pos:Nat}
theorem StO.below(h:StO w W b0 br bl bc vs L r bd pos)(hb:Below W.heap.size W W'):StO w W' b0 br bl bc vs L r bd pos:=by
 obtain⟨h1,h2,h3,h4,h5,h6⟩:=h;exact⟨h1.below hb,h2.below hb,h3.below hb,h4.below hb,h5.trans (hb.mono h5.size),by have:=hb.size;omega⟩
theorem StO.read(h:StO w W b0 br bl bc vs L r bd pos){p:Nat}(hg:W.grownBy W' (some br))(h2:RS W' br 0 bd p):StO w W' b0 br bl bc vs L r bd p:=by
 obtain⟨h1,_,h3,h4,h5,h6⟩:=h;refine⟨h1.keep (hg.block _ (by omega) (by simp;omega)),h2,h3.keep (hg.block _ (by omega) (by simp;omega)),h4.keep (hg.block _ (by omega) (by simp;omega)),h5.grown hg h5.size (fun x e=>by injection e with e;omega),by have:=hg.size;omega⟩
theorem StO.far(h:StO w W b0 br bl bc vs L r bd pos){p:Addr}(hp:bc<p.block)(u:Value):StO w (W.setCell p u) b0 br bl bc vs L r bd pos:=by
 obtain⟨h1,h2,h3,h4,h5,h6⟩:=h;refine⟨h1.far (by omega) u,h2.keep (dZ W p u) (by simp;omega),h3.far (by omega) u,h4.far (by omega) u,h5.setCell (by omega) u,by simpa using h6⟩
theorem StO.put(h:StO w W b0 br bl bc vs L r bd pos){L':List Bm.Stp}(i:Nat)(x y z ra rb rc:Int)(hr:Row (((W.setCell ⟨bl,i,none⟩ (.int .i64 x)).setCell ⟨bl,i+1,none⟩ (.int .i64 y)).setCell ⟨bl,i+2,none⟩ (.int .i64 z)) bl 121 (sqs L')) :
  StO w ((((((W.setCell ⟨bl,i,none⟩ (.int .i64 x)).setCell ⟨bl,i+1,none⟩ (.int .i64 y)).setCell ⟨bl,i+2,none⟩ (.int .i64 z)).setCell ⟨bc,0,none⟩ (.int .i64 ra)).setCell ⟨bc,1,none⟩ (.int .i64 rb)).setCell ⟨bc,2,none⟩ (.int .i64 rc)).drew b0 br bl bc vs L' (ra,rb,rc) bd pos:=by
 obtain⟨h1,h2,h3,h4,h5,h6⟩:=h;have e1:∀(W:World) i u,Row W b0 111 vs->Row (W.setCell ⟨bl,i,none⟩ u) b0 111 vs:=fun W i u h=>h.far (by show b0≠bl;omega) u
 have e2:∀(W:World) i u,Row W b0 111 vs->Row (W.setCell ⟨bc,i,none⟩ u) b0 111 vs:=fun W i u h=>h.far (by show b0≠bc;omega) u
 have e3:∀(W:World) i u,RS W br 0 bd pos->RS (W.setCell ⟨bl,i,none⟩ u) br 0 bd pos:=fun W i u h=>h.keep (dZ W ⟨bl,i,none⟩ u) (by simp;omega)
 have e4:∀(W:World) i u,RS W br 0 bd pos->RS (W.setCell ⟨bc,i,none⟩ u) br 0 bd pos:=fun W i u h=>h.keep (dZ W ⟨bc,i,none⟩ u) (by simp;omega)
 have e5:∀(W:World) i u {cs},Row W bl 121 cs->Row (W.setCell ⟨bc,i,none⟩ u) bl 121 cs:=fun W i u cs h=>h.far (by show bl≠bc;omega) u
 have e6:∀(W:World) i u {cs},Row W bc 157 cs->Row (W.setCell ⟨bl,i,none⟩ u) bc 157 cs:=fun W i u cs h=>h.far (by show bc≠bl;omega) u
 have e7:∀(W:World) i u,Below w.heap.size w W->Below w.heap.size w (W.setCell ⟨bl,i,none⟩ u):=fun W i u h=>h.setCell (by show w.heap.size<=bl;omega) u
 have e8:∀(W:World) i u,Below w.heap.size w W->Below w.heap.size w (W.setCell ⟨bc,i,none⟩ u):=fun W i u h=>h.setCell (by show w.heap.size<=bc;omega) u
 have r4:=((e6 _ (i+2) (.int .i64 z) (e6 _ (i+1) (.int .i64 y) (e6 _ i (.int .i64 x) h4))).aT 0 (.int .i64 ra));have r5:=(r4.aT 1 (.int .i64 rb)).aT 2 (.int .i64 rc);simp only[List.set_cons_zero,List.set_cons_succ]at r5;have hs:((((((W.setCell ⟨bl,i,none⟩ (.int .i64 x)).setCell ⟨bl,i+1,none⟩ (.int .i64 y)).setCell ⟨bl,i+2,none⟩ (.int .i64 z)).setCell ⟨bc,0,none⟩ (.int .i64 ra)).setCell ⟨bc,1,none⟩ (.int .i64 rb)).setCell ⟨bc,2,none⟩ (.int .i64 rc)).heap.size=W.heap.size:=by simp[World.setCell]
 have q1:=e2 _ 2 (.int .i64 rc) (e2 _ 1 (.int .i64 rb) (e2 _ 0 (.int .i64 ra) (e1 _ (i+2) (.int .i64 z) (e1 _ (i+1) (.int .i64 y) (e1 _ i (.int .i64 x) h1)))));have q2:=e4 _ 2 (.int .i64 rc) (e4 _ 1 (.int .i64 rb) (e4 _ 0 (.int .i64 ra) (e3 _ (i+2) (.int .i64 z) (e3 _ (i+1) (.int .i64 y) (e3 _ i (.int .i64 x) h2)))));have q3:=e5 _ 2 (.int .i64 rc) (e5 _ 1 (.int .i64 rb) (e5 _ 0 (.int .i64 ra) hr));have q5:=e8 _ 2 (.int .i64 rc) (e8 _ 1 (.int .i64 rb) (e8 _ 0 (.int .i64 ra) (e7 _ (i+2) (.int .i64 z) (e7 _ (i+1) (.int .i64 y) (e7 _ i (.int .i64 x) h5)))));clear e1 e2 e3 e4 e5 e6 e7 e8 hr h1 h2 h3 h4 h5 r4;generalize (((((W.setCell ⟨bl,i,none⟩ (.int .i64 x)).setCell ⟨bl,i+1,none⟩ (.int .i64 y)).setCell ⟨bl,i+2,none⟩ (.int .i64 z)).setCell ⟨bc,0,none⟩ (.int .i64 ra)).setCell ⟨bc,1,none⟩ (.int .i64 rb)).setCell ⟨bc,2,none⟩ (.int .i64 rc)=X at *;exact StO.below ⟨q1,q2,q3,r5,q5,by rw[hs];exact h6⟩ (Below.refl _ _).drew
end
namespace Bm
theorem afE(c V:Nat)(h:c<28):QF c V<=65535:=by
 unfold QF;split
 ·omega
 ·have h1:=Nat.mod_lt V (Nat.two_pow_pos (c-12));have h2:2^(c-12)<=2^15:=Nat.pow_le_pow_right (by omega) (by omega);have h3:(2:Nat)^15=32768:=by decide
  omega
theorem afG(a b c n x:Int)(h:yY a b c n=some x):1<=x/\x<=65533:=by
 obtain⟨h1,h2,h3⟩:=aas a b c n x h;exact OP a b c x (by omega)
def Nb(r:Int×Int×Int):Prop:=(1<=r.1/\r.1<=65533)/\(1<=r.2.1/\r.2.1<=65533)/\(1<=r.2.2/\r.2.2<=65533)
theorem VL(r:Int×Int×Int)(x:Int)(h:Nb r)(hx:1<=x/\x<=65533):Nb (oV r.1 r.2.1 r.2.2 x):=by
 obtain⟨h1,h2,h3⟩:=h;unfold oV;split
 ·exact⟨hx,h2,h3⟩
 ·split
  ·exact⟨hx,h1,h3⟩
  ·exact⟨hx,h1,h2⟩
theorem VT(cs:List (List Nat))(n k:Nat)(h:k<n):(lH cs n).drop k=atD cs k :: (lH cs n).drop (k+1):=by
 have hl:k<(lH cs n).length:=by simpa [lH]using h
 rw[List.drop_eq_getElem_cons hl];simp[lH]
end Bm
theorem adp{r:Int×Int×Int}(h:Nb r):mO r.1/\mO r.2.1/\mO r.2.2:=by
 obtain⟨h1,h2,h3⟩:=h;unfold mO;omega
def ajC(xs:List Nat):List Value:=[.int .i64 ((xs[0]?.getD 0:Nat):Int),.int .i64 ((xs[1]?.getD 0:Nat):Int),.int .i64 ((xs[2]?.getD 0:Nat):Int)]
theorem UK(xs:List Nat)(v:Nat)(h:xs.length<3):(ajC xs).set xs.length (.int .i64 (v:Int))=ajC (xs++[v]):=by
 match xs,h with
 | [],_=>rfl
 | [a],_=>rfl
 | [a,b],_=>rfl
theorem ajL(D:List Bm.Stp)(m k:Nat)(h:D.length=k):(sqs (D++List.replicate (m+1) (0,0,0)))[k*3]?=some (.int .i64 0)/\(sqs (D++List.replicate (m+1) (0,0,0)))[k*3+1]?=some (.int .i64 0)/\(sqs (D++List.replicate (m+1) (0,0,0)))[k*3+2]?=some (.int .i64 0):=by
 have hl:k<(D++List.replicate (m+1) ((0,0,0):Bm.Stp)).length:=by rw[List.length_append,List.length_replicate];omega
 have h1:=CQ _ k hl;have e:(D++List.replicate (m+1) ((0,0,0):Bm.Stp))[k]=(0,0,0):=by
  rw[List.getElem_append_right (by omega),List.getElem_replicate]
 rw[e]at h1;exact h1
theorem ags(D:List Bm.Stp)(m k x y z:Nat)(h:D.length=k):(((sqs (D++List.replicate (m+1) (0,0,0))).set (k*3) (.int .i64 (x:Int))).set (k*3+1) (.int .i64 (y:Int))).set (k*3+2) (.int .i64 (z:Int))=sqs ((D++[(x,y,z)])++List.replicate m (0,0,0)):=by
 rw[agt _ k x y z (by rw[List.length_append,List.length_replicate];omega)];congr 1
 rw[List.set_append_right _ _ (by omega),h,Nat.sub_self,List.replicate_succ,List.set_cons_zero,List.append_assoc];rfl
theorem Pg(A0 A1 A2 B:Option Addr)(k0 k1 k2 cb n:Nat)(c0 c1 c2 bd:List Nat)(w:World)(hn:n<=1000)(h0:c0.length=n/\∀x∈c0,x<28)(h1:c1.length=n/\∀x∈c1,x<28)(h2:c2.length=n/\∀x∈c2,x<28)
  (hr0:Reads w A0 (u8s c0)) (hr1:Reads w A1 (u8s c1)) (hr2:Reads w A2 (u8s c2)) (hbl:bd.length<=4096) (hblt:∀x∈bd,x<256) (hrb:Reads w B (u8s bd)) :
  Calls prog 107 #[.agg #[.slice A0 n k0,.slice A1 n k1,.slice A2 n k2],.slice B bd.length cb,.int .i64 (n:Int)] w fun e w'=>aio w' e (kN [c0,c1,c2] n bd)/\Below w.heap.size w w':=by
 obtain⟨res,hres⟩:∃res,res=kN [c0,c1,c2] n bd:=⟨_,rfl⟩;rw[<-hres];have dV:=hid hres;obtain⟨W0,hW0⟩:∃W0,w.alloc (.cells #[.slice A0 n k0,.slice A1 n k1,.slice A2 n k2] 111)=W0:=⟨_,rfl⟩;have ra:=Row.new w 111 [.slice A0 n k0,.slice A1 n k1,.slice A2 n k2];have hb0:=(Below.refl w.heap.size w).alloc (Nat.le_refl _) (.cells #[.slice A0 n k0,.slice A1 n k1,.slice A2 n k2] 111);rw[show w.alloc (.cells [Value.slice A0 n k0,.slice A1 n k1,.slice A2 n k2].toArray 111)=W0 from hW0]at ra;have hsz0:W0.heap.size=w.heap.size+1:=by rw[<-hW0];simp
 rw[hW0]at hb0;have uY:=hid (qM B cb bd W0 hblt (aC hrb hb0));have HW0:=hid hW0;have Hmk:=hid (fun W=>Uz n (by omega) W);have ahN:=hid EI;have Hra:=hid ra;have Hb0:=hid hb0;have amZ:=hid hsz0;have HR:=hid (⟨hr0,hr1,hr2⟩:_/\_/\_);have HC:=hid (⟨h0,h1,h2⟩:_/\_/\_);have acy:=hid hblt;clear hres hW0 ra hb0 hsz0 hr0 hr1 hr2 hrb h0 h1 h2 hblt;go_enter func107,ntmps107
 go_wp2_with fail
 rw[HW0.out];refine uY.out.mono ?_;rintro e w1 ⟨rfl,aeZ,hb1⟩;obtain⟨b0,hb0⟩:∃b0,w.heap.size=b0:=⟨_,rfl⟩;obtain⟨br,hbr⟩:∃br,W0.heap.size=br:=⟨_,rfl⟩;obtain⟨bl,alD⟩:∃bl,w1.heap.size=bl:=⟨_,rfl⟩;have acE:=hid aeZ;have Hb1:=hid hb1;have He:=hid (⟨hb0,hbr,alD⟩:_/\_/\_);have hmk:=Hmk.out w1;rw[alD]at hmk;clear aeZ hb1 uY HW0 hb0 hbr alD Hmk;go_wp2_with fail
 refine(ahN.out _).mono ?_;rintro e w2 ⟨rfl,hb2⟩;obtain⟨bc,hbc⟩:∃bc,w2.heap.size=bc:=⟨_,rfl⟩;have hst:StO w (w2.alloc (.cells #[.int .i64 1,.int .i64 2,.int .i64 4] 157)) b0 br bl bc [.slice A0 n k0,.slice A1 n k1,.slice A2 n k2] (List.replicate n (0,0,0)) (1,2,4) bd 0:=by
  obtain⟨e0,er,el⟩:=He.out;have hs1:=Hb1.out.size;have hs2:=hb2.size;have hbx:=(Below.refl w1.heap.size w1).alloc (Nat.le_refl _) (.cells (sqs (List.replicate n (0,0,0))).toArray 121);have hby:Below w1.heap.size w1 w2:=hbx.trans (hb2.mono hbx.size);have hbz:=hby.alloc hby.size (.cells #[.int .i64 1,.int .i64 2,.int .i64 4] 157);have rl:=Row.new w1 121 (sqs (List.replicate n (0,0,0)));have rc:=Row.new w2 157 [.int .i64 1,.int .i64 2,.int .i64 4];rw[el]at rl;rw[hbc]at rc;have ra:=(Hra.out.below Hb1.out).below hbz;rw[e0]at ra;have rr:=acE.out.below hbz;rw[er]at rr;have hz:=amZ.out;rw[World.size_alloc]at hs2;refine⟨ra,rr,(rl.below hb2).alloc _,rc,(Hb0.out.trans (Hb1.out.mono Hb0.out.size)).trans (hbz.mono (by omega)),?_⟩;rw[World.size_alloc];have hlt1:=acE.out.2.2.2;rw[er]at hlt1;omega
 have Hst:=hid hst;have Hbc:=hid hbc;clear hb2 hst acE Hb1 Hra Hb0 hbc amZ hmk ahN;go_wp2;rw[He.out.1,He.out.2.1,Hbc.out];generalize w2.alloc (.cells #[.int .i64 1,.int .i64 2,.int .i64 4] 157)=wA at *;clear He Hbc;have Hno:=hid (fun c q (W:World) (hc:c<28) (hp:q<=8*bd.length) (hle:8*bd.length-q<exK c) (h:RS W br 0 bd q)=>aga c br q bd W hc (by omega) hp hle h);have aif:=hid (fun c q (W:World) (hc:c<28) (hle:q+exK c<=8*bd.length) (h:RS W br 0 bd q)=>aaM c br q bd W hc (by omega) acy.out hle h);have vX:=hid (fun q (W:World) (hp:q<=8*bd.length) (h:RS W br 0 bd q)=>Gh br q bd W (by omega) acy.out hp h);have mK:Hid (res=aeD (mE (lH [c0,c1,c2] n) (aW bd) (8*bd.length) (1,2,4))):=hid dV.out;clear dV;have hV0:aW bd=aW bd/2^0:=by rw[Nat.pow_zero,Nat.div_one]
 have HV0:=hid hV0;clear hV0 acy;generalize aW bd=V at *;generalize hL:8*bd.length=L at *;clear hL;go_loopw [11,12,13,14,15,16,17,18,19,27] (fun _ _ _ _ _ _ _ _ _ i wr=>∃(k pos:Nat) (D:List Bm.Stp) (r:Int×Int×Int),i=.int .i64 (k:Int)/\k<=n/\pos<=L/\Hid (D.length=k)/\Hid (Nb r) /\
  Hid (StO w wr b0 br bl bc [.slice A0 n k0,.slice A1 n k1,.slice A2 n k2] (D++List.replicate (n-k) (0,0,0)) r bd pos) /\
  Hid (res=aeD ((mE ((lH [c0,c1,c2] n).drop k) (V/2^pos) (L-pos) r).map fun q=>(D++q.1,q.2)))) (fun _ _ _ _ _ _ _ _ _ i _=>n-(intOf i).toNat)
 case atStart=>
  refine⟨0,0,[],(1,2,4),rfl,Nat.zero_le _,Nat.zero_le _,hid rfl,hid ⟨by decide,by decide,by decide⟩,Hst,hid ?_⟩;rw[mK.out,List.drop_zero,Nat.sub_zero,<-HV0.out];cases mE (lH [c0,c1,c2] n) V L (1,2,4)<;>rfl
 case round=>
  obtain⟨k,pos,D,r,rfl,hk,hpos,hD,hr,hst,hres⟩:=hrel;clear Hst HV0 mK;by_cases hkn:k<n
  ·have dk:decide ((k:Int)<(n:Int))=true:=decide_eq_true (by omega);have Yg:Hid ((lH [c0,c1,c2] n).drop k=atD [c0,c1,c2] k :: (lH [c0,c1,c2] n).drop (k+1)):=hid (VT _ n k hkn);have hsW:=hst.out.low;have hb1:wr.heap.size<wr.heap.size+1:=by omega
   have acY:=hst.out.below ((Below.refl wr.heap.size wr).alloc (Nat.le_refl _) (.cells #[.int .i64 0,.int .i64 0,.int .i64 0] 156));have hrn:=Row.new wr 156 (ajC []);obtain⟨bn,hbn⟩:∃bn,wr.heap.size=bn:=⟨_,rfl⟩;rw[hbn]at hrn hsW;have adS:=hid acY;have Hrn:=hid hrn;have Hbn:=hid hbn;have apV:bc<bn:=by omega
   obtain⟨a0,a1,a2⟩:=gB acY.all;clear acY hrn hbn hb1 hst hsW;go_wp2;rw[Hbn.out];have e3:wr.alloc (.cells (ajC []).toArray 156)=wr.alloc (.cells #[.int .i64 0,.int .i64 0,.int .i64 0] 156):=rfl;rw[e3]at Hrn;clear e3;generalize wr.alloc (.cells #[.int .i64 0,.int .i64 0,.int .i64 0] 156)=wB at *;clear Hbn a0 a1 a2;rename World=>wo
   go_loopw [13,14,15,16,31] (fun _ _ _ _ i wr=>∃(j q:Nat) (xs:List Nat),i=.int .i64 (j:Int)/\j<=3/\q<=L/\Hid (xs.length=j)/\Hid (∀x∈xs,x<=65535) /\
    Hid (StO w wr b0 br bl bc [.slice A0 n k0,.slice A1 n k1,.slice A2 n k2] (D++List.replicate (n-k) (0,0,0)) r bd q)/\Hid (Row wr bn 156 (ajC xs)) /\
    Hid (pK (atD [c0,c1,c2] k) (V/2^pos) (L-pos)=(pK ((atD [c0,c1,c2] k).drop j) (V/2^q) (L-q)).map fun t=>(xs++t.1,t.2))) (fun _ _ _ _ i _=>3-(intOf i).toNat)
   case atStart=>
    refine⟨0,pos,[],rfl,by omega,hpos,hid rfl,hid (by simp),adS,Hrn,hid ?_⟩;rw[List.drop_zero];cases pK (atD [c0,c1,c2] k) (V/2^pos) (L-pos)<;>rfl
   case round=>
    obtain⟨j,q,xs,rfl,hj,hq,hxs,aks,hst,hrn,TF⟩:=hrel;clear adS Hrn;by_cases hj3:j<3
    ·have key:∃(g off c:Nat) (kk:Nat) (A:Option Addr),Hid ([Value.slice A0 n k0,.slice A1 n k1,.slice A2 n k2][j]?=some (.slice A n kk))/\A=some ⟨g,off,none⟩/\wr.cell? ⟨g,off+k,none⟩=some (.int .u8 (c:Int))/\c<28/\Hid ((atD [c0,c1,c2] k).drop j=c :: (atD [c0,c1,c2] k).drop (j+1)):=by
      obtain⟨hc0,hc1,hc2⟩:=HC.out;obtain⟨r0,r1,r2⟩:=HR.out;have one:∀(A:Option Addr) (cs:List Nat),(cs.length=n/\∀x∈cs,x<28)->Reads w A (u8s cs)->∃g off,A=some ⟨g,off,none⟩/\∃c:Nat,wr.cell? ⟨g,off+k,none⟩=some (.int .u8 (c:Int))/\c<28/\cs[k]?.getD 0=c:=fun A cs h hr=>by
       have hkl:k<cs.length:=by omega
       obtain⟨g,off,e,hc⟩:=gu (aC hr hst.out.bel) (by intro e;rw[e]at hkl;simp at hkl);exact⟨g,off,e,cs[k],hc k hkl,h.2 _ (List.getElem_mem hkl),by rw[List.getElem?_eq_getElem hkl];rfl⟩
      rcases(by omega:j=0\/j=1\/j=2)with rfl | rfl | rfl
      ·obtain⟨g,off,e,c,h1,h2,h3⟩:=one A0 c0 hc0 r0;exact⟨g,off,c,k0,A0,rfl,e,h1,h2,hid (by simp only[atD,List.map_cons,List.map_nil,List.drop_succ_cons,List.drop_zero,h3])⟩
      ·obtain⟨g,off,e,c,h1,h2,h3⟩:=one A1 c1 hc1 r1;exact⟨g,off,c,k1,A1,rfl,e,h1,h2,hid (by simp only[atD,List.map_cons,List.map_nil,List.drop_succ_cons,List.drop_zero,h3])⟩
      ·obtain⟨g,off,e,c,h1,h2,h3⟩:=one A2 c2 hc2 r2;exact⟨g,off,c,k2,A2,rfl,e,h1,h2,hid (by simp only[atD,List.map_cons,List.map_nil,List.drop_succ_cons,List.drop_zero,h3])⟩
     obtain⟨g,off,c,kk,A,hidx,rfl,hcell,hc28,hdrop⟩:=key;have zw:=hid TF.out;rw[hdrop.out,pK]at zw;have hidx2:∀W,(Instr.index 111 (.agg #[.slice A0 n k0,.slice A1 n k1,.slice A2 n k2]) (.int .i64 (j:Int))).run prog W=.ok (.slice (some ⟨g,off,none⟩) n kk) W:=fun W=>by
      have h:=hidx.out;rcases(by omega:j=0\/j=1\/j=2)with rfl | rfl | rfl
      all_goals
       simp only[List.getElem?_cons_zero,List.getElem?_cons_succ,Option.some.injEq]at h;rw[h];simp[Instr.index,run_underlying underlying111,asIntOf,go_sem]
     clear hidx TF hdrop;by_cases hfit:q+exK c<=L
     ·rw[if_pos (by omega)]at zw;have bA:=hid (aif.out c q wr hc28 hfit hst.out.rd);have hv:=afE c (V/2^q) hc28;rw[Nat.div_div_eq_div_mul,<-Nat.pow_add,Nat.sub_sub]at zw;obtain⟨v,hvv⟩:∃v,v=QF c (V/2^q):=⟨_,rfl⟩;obtain⟨q2,hq2⟩:∃q2,q2=q+exK c:=⟨_,rfl⟩;rw[<-hvv]at bA zw hv;rw[<-hq2]at bA zw hfit;have lT:=hid (hst.out);have akS:=hid (hrn.out);clear hvv hq2 hst hrn Hno aif;go_wp2_with fail
      refine bA.out.mono ?_;rintro e w3 ⟨rfl,TK,hg3⟩;have XQ:=lT.out.read hg3 TK;have hlow:=lT.out.low;have akr:=akS.out.keep (hg3.block bn akS.out.lt (by simp;omega));have lV:=XQ.far (p:=⟨bn,j,none⟩) apV (.int .i64 (v:Int));have alR:=akr.aT j (.int .i64 (v:Int));rw[<-hxs.out,UK xs v (by rw[hxs.out];exact hj3),hxs.out]at alR;have f0:=akr.free j;have hsome:∃u,w3.cell? ⟨bn,j,none⟩=some u:=by
       rw[akr.cell];rcases(by omega:j=0\/j=1\/j=2)with rfl | rfl | rfl<;>exact⟨_,rfl⟩
      obtain⟨u0,hu0⟩:=hsome;have wm:=hid lV;have apw:=hid alR;have ara:(j:Int)<3:=by omega
      clear TK hg3 XQ akr lV alR lT akS hlow bA;go_wp2;go_roundw
      case rel=>
       refine⟨j+1,q2,xs++[v],by go_num,by omega,hfit,hid (by rw[List.length_append,hxs.out];rfl),hid (fun x hx=>?_),wm,apw,hid ?_⟩
       ·rcases List.mem_append.1 hx with hx | hx
        ·exact aks.out x hx
        ·rw[List.mem_singleton.1 hx];exact hv
       ·rw[zw.out];cases pK ((atD [c0,c1,c2] k).drop (j+1)) (V/2^q2) (L-q2)<;>simp
      case measure=>simp[intOf];omega
     ·rw[if_neg (by omega)]at zw;have bA:=hid (Hno.out c q wr hc28 hq (by omega) hst.out.rd);have dR:Hid (res=none):=hid (by rw[hres.out,Yg.out,mE,zw.out];rfl);have lT:=hid (⟨hst.out.bel,hst.out.low⟩:_/\_);clear zw Hno aif vX hfit hst hrn hres Yg HC HR;go_wp2_with fail
      refine bA.out.mono ?_;rintro e w3 ⟨⟨v,rfl⟩,hg3⟩;have Hb3:=hid (lT.out.1.grown hg3 lT.out.1.size (fun x e=>by injection e with e;have:=lT.out.2;omega));clear hg3 bA;go_wp2;go_ret2;rw[dR.out];exact⟨⟨_,_,rfl⟩,Hb3.out⟩
    ·have aeO:j=3:=by omega
     subst aeO;have zw:=hid TF.out;rw[show(atD [c0,c1,c2] k).drop 3=[]from rfl,pK,Option.map_some,List.append_nil]at zw;obtain⟨l,m,o,aqw⟩:∃l m o,xs=[l,m,o]:=by
      match xs,hxs.out with
      | [l,m,o],_=>exact⟨l,m,o,rfl⟩
     subst aqw;have hm:m<=65535:=aks.out m (by simp);have ho:o<=65535:=aks.out o (by simp);have aom:Row wr bn 156 [.int .i64 (l:Int),.int .i64 (m:Int),.int .i64 (o:Int)]:=hrn.out;obtain⟨x0,x1,x2⟩:=gB aom;obtain⟨y0,y1,y2⟩:=gB hst.out.VK;obtain⟨hra,hrb,hrc⟩:=adp hr.out;have zh:=hid hres.out;rw[Yg.out,mE,zw.out]at zh;simp only[List.getElem?_cons_zero,List.getElem?_cons_succ,Option.getD_some]at zh;have lT:=hid hst.out;clear hres zw TF hrn aom hst aks hxs Hno aif Yg;cases hoff:yY r.1 r.2.1 r.2.2 (o:Int)with
     | none=>
      rw[hoff]at zh;have bA:=hid (fun W=>aaR W r.1 r.2.1 r.2.2 l m o hra hrb hrc hm ho hoff);have dR:Hid (res=none):=hid zh.out;have agZ:=hid (⟨lT.out.bel,lT.out.low⟩:_/\_);clear hoff zh lT vX HC HR hra hrb hrc hr;generalize r.1=ra at *;generalize r.2.1=rb at *;generalize r.2.2=rc at *;generalize m+3=m3 at *;go_wp2_with fail
      refine(bA.out _).mono ?_;rintro e w3 ⟨rfl,hb3⟩;have Hb3:=hid ((((agZ.out.1.trans (hb3.mono agZ.out.1.size)).alloc (agZ.out.1.trans (hb3.mono agZ.out.1.size)).size (.cells #[.int .i64 (l:Int),.int .i64 (m3:Int),.int .i64 0] 121)).alloc (by have:=(agZ.out.1.trans (hb3.mono agZ.out.1.size)).size;simp;omega) (.cells #[.int .i64 ra,.int .i64 rb,.int .i64 rc] 157)));clear hb3 bA;go_wp2;go_ret2;rw[dR.out];exact⟨⟨_,_,rfl⟩,Hb3.out⟩
     | some x=>
      rw[hoff]at zh;dsimp only at zh;have hx:=afG _ _ _ _ _ hoff;have bA:=hid (fun W=>VB W r.1 r.2.1 r.2.2 x l m o hra hrb hrc hm ho hoff);have ahZ:=hid (VL r x hr.out hx);obtain⟨⟨ra,rb,rc⟩,hr2⟩:∃r2,r2=oV r.1 r.2.1 r.2.2 x:=⟨_,rfl⟩;rw[<-hr2]at bA ahZ zh;dsimp only at bA;clear hoff hr2 hra hrb hrc hr;obtain⟨x',rfl⟩:∃x':Nat,x=(x':Int):=⟨x.toNat,by omega⟩;rw[Int.toNat_natCast]at zh;have hlow:=lT.out.low;go_wp2_with fail
      refine(bA.out _).mono ?_;rintro e w3 ⟨rfl,hb3⟩;have XQ:=lT.out.below hb3;obtain⟨bs,hbs⟩:∃bs,w3.heap.size=bs:=⟨_,rfl⟩;obtain⟨bt,hbt⟩:∃bt,w3.heap.size+1=bt:=⟨_,rfl⟩;have aeS:=XQ.low;have rs:=(Row.new w3 121 [.int .i64 (l:Int),.int .i64 ((m+3:Nat):Int),.int .i64 (x':Int)]).alloc (.cells #[.int .i64 ra,.int .i64 rb,.int .i64 rc] 157);have rt:=Row.new (w3.alloc (.cells #[.int .i64 (l:Int),.int .i64 ((m+3:Nat):Int),.int .i64 (x':Int)] 121)) 157 [.int .i64 ra,.int .i64 rb,.int .i64 rc];rw[World.size_alloc,hbt]at rt;rw[hbs]at rs;have lV:=(XQ.below ((Below.refl w3.heap.size w3).alloc (Nat.le_refl _) (.cells #[.int .i64 (l:Int),.int .i64 ((m+3:Nat):Int),.int .i64 (x':Int)] 121))).below ((Below.refl _ (w3.alloc (.cells #[.int .i64 (l:Int),.int .i64 ((m+3:Nat):Int),.int .i64 (x':Int)] 121))).alloc (Nat.le_refl _) (.cells #[.int .i64 ra,.int .i64 rb,.int .i64 rc] 157));have wm:=hid lV;have Hrs:=hid rs;have Hrt:=hid rt;have Hbs:=hid hbs;have Hbt:=hid hbt;have hlt:bc<bs/\bc<bt:=by omega
      clear hb3 XQ lV rs rt hbs hbt aeS bA lT x0 x1 x2 y0 y1 y2;generalize m+3=m3 at *;obtain⟨d,hd⟩:∃d,n-k=d+1:=⟨n-k-1,by omega⟩;rw[hd]at wm;have Hd:=hid (show n-(k+1)=d by omega);clear hd;go_wp2_with fail
      rw[Hbt.out,Hbs.out];obtain⟨x0,x1,x2⟩:=gB Hrs.out;obtain⟨x3,x4,x5⟩:=gB Hrt.out;obtain⟨y0,y1,y2⟩:=gB wm.out.VK;have g0:=wm.out.VK.free 0;have g1:=wm.out.VK.free 1;have g2:=wm.out.VK.free 2;obtain⟨z0,z1,z2⟩:=ajL D d k hD.out;have v0:=(wm.out.row.cell (k*3)).trans z0;have v1:=(wm.out.row.cell (k*3+1)).trans z1;have v2:=(wm.out.row.cell (k*3+2)).trans z2;have q0:=wm.out.row.free (k*3);have q1:=wm.out.row.free (k*3+1);have q2':=wm.out.row.free (k*3+2);have alJ:=wm.out.low;have n1:bs≠bl:=by omega
      have n2:bs≠bc:=by omega
      have n3:bt≠bl:=by omega
      have n4:bt≠bc:=by omega
      have n5:bl≠bc:=by omega
      have n6:bc≠bl:=by omega
      generalize (w3.alloc (.cells #[.int .i64 (l:Int),.int .i64 (m3:Int),.int .i64 (x':Int)] 121)).alloc (.cells #[.int .i64 ra,.int .i64 rb,.int .i64 rc] 157)=wD at *;have hput:=ags D d k l m3 x' hD.out;have hrow2:=((wm.out.row.aT (k*3) (.int .i64 (l:Int))).aT (k*3+1) (.int .i64 (m3:Int))).aT (k*3+2) (.int .i64 (x':Int));rw[hput]at hrow2;have dL:=hid hrow2;clear z0 z1 z2 Hrs Hrt Hbs Hbt hput hrow2;go_region
      have ahm:=wm.out.put (k*3) l m3 x' ra rb rc dL.out;have adT:=hid ahm;clear ahm dL wm x0 x1 x2 x3 x4 x5 y0 y1 y2 v0 v1 v2 q0 q1 q2' g0 g1 g2 alJ;generalize (((((wD.setCell ⟨bl,k*3,none⟩ (.int .i64 (l:Int))).setCell ⟨bl,k*3+1,none⟩ (.int .i64 (m3:Int))).setCell ⟨bl,k*3+2,none⟩ (.int .i64 (x':Int))).setCell ⟨bc,0,none⟩ (.int .i64 ra)).setCell ⟨bc,1,none⟩ (.int .i64 rb)).setCell ⟨bc,2,none⟩ (.int .i64 rc)=wE at *;generalize wE.drew=wF at *;go_wp2;go_roundw
      case rel=>
       refine⟨k+1,q,D++[(l,m3,x')],(ra,rb,rc),by go_num,by omega,hq,hid (by rw[List.length_append,hD.out];rfl),ahZ,by rw[Hd.out];exact adT,hid ?_⟩;rw[zh.out];cases mE ((lH [c0,c1,c2] n).drop (k+1)) (V/2^q) (L-q) (ra,rb,rc)<;>simp
      case measure=>simp[intOf];omega
  ·have hkn':k=n:=by omega
   subst hkn';have dk:decide ((k:Int)<(k:Int))=false:=decide_eq_false (by omega);have Hr2:=hid hres.out;rw[show(lH [c0,c1,c2] k).drop k=[]from List.drop_of_length_le (by simp[lH]),mE,Option.map_some,List.append_nil]at Hr2;unfold aeD at Hr2;dsimp only at Hr2;have bA:=hid (vX.out pos wr hpos hst.out.rd);have lT:=hid hst.out;rw[Nat.sub_self,List.replicate_zero,List.append_nil]at lT;clear hres hst Hno aif vX HC HR hr;by_cases hend:L-pos<8/\V/2^pos=0
   ·rw[if_pos hend]at Hr2;rw[decide_eq_true hend]at bA;clear hend;go_wp2_with fail
    refine bA.out.mono ?_;rintro e w3 ⟨rfl,hg3⟩;have hlow:=lT.out.low;have hrow:=lT.out.row.keep (hg3.block bl lT.out.row.lt (by simp;omega));have Hb3:=hid (lT.out.bel.grown hg3 lT.out.bel.size (fun x e=>by injection e with e;omega));have Hrd:Hid (Dp w3 (some ⟨bl,0,none⟩) D):=hid (fun _=>⟨bl,0,rfl,hrow.lt,fun j hj=>by
     obtain⟨s0,s1,s2⟩:=CQ D j hj;rw[Nat.zero_add,hrow.cell,hrow.cell,hrow.cell];exact⟨s0,s1,s2⟩⟩)
    clear hg3 hrow bA lT hlow;go_wp2;go_ret2;rw[Hr2.out];exact⟨⟨some ⟨bl,0,none⟩,k,by rw[hD.out];rfl,Hrd.out⟩,Hb3.out⟩
   ·rw[if_neg hend]at Hr2;rw[decide_eq_false hend]at bA;clear hend;go_wp2_with fail
    refine bA.out.mono ?_;rintro e w3 ⟨rfl,hg3⟩;have hlow:=lT.out.low;have Hb3:=hid (lT.out.bel.grown hg3 lT.out.bel.size (fun x e=>by injection e with e;omega));clear hg3 bA lT hlow;go_wp2;go_ret2;rw[Hr2.out];exact⟨⟨_,_,rfl⟩,Hb3.out⟩
def akk(w':World)(b:Nat)(bs:List Nat)(e:Ending):Option (List Bm.Stp×Nat)->Prop
 | none=>∃A c,e=.returned (.tuple #[.slice A 0 c,.bool false])
 | some t=>(∃A c,e=.returned (.tuple #[.slice A t.1.length c,.bool true])/\Dp w' A t.1)/\CR w' b (some (bs.drop t.2))
theorem tQ{w w':World}{A:Option Addr}{l:List Nat}{b:Nat}{t:TypeId}{cs:List Value}(h:Row w b t cs)(hn:∀(m:Nat) (z:Int),cs[m]?≠some (.int .u8 z))(hr:Reads w A (u8s l))(hg:w.grownBy w' (some b)):Reads w' A (u8s l):=fun hne=>by
 obtain⟨g,off,rfl,hc⟩:=hr hne;refine⟨g,off,rfl,fun j hj=>?_⟩;have h1:=hc j hj;rw[aO]at hj;rw[bD l j hj]at h1 ⊢;refine hg.cell h1 (fun e=>?_);injection e with e
 dsimp only at e;subst e;exact hn _ _ ((Row.cell h (off+j)).symm.trans h1)
theorem xX(st:Left)(m:Nat)(z:Int):(kK st)[m]?≠some (.int .u8 z):=by
 intro hx;rcases st with _ | bs
 all_goals
  match m,hx with
  | 0,hx=>simp[kK]at hx
  | 1,hx=>simp[kK]at hx
  | m+2,hx=>simp[kK]at hx
def abw(n:Nat)(Ss:List (Option Addr×Nat×List Nat))(m:Nat):List Value:=(Ss.map fun s=>Value.slice s.1 n s.2.1)++List.replicate m (.slice none 0 0)
theorem FI(n m:Nat)(Ss:List (Option Addr×Nat×List Nat))(i:Nat)(z:Int):(abw n Ss m)[i]?≠some (.int .u8 z):=by
 intro h;have hm:=List.mem_of_getElem? h;unfold abw at hm;rcases List.mem_append.1 hm with hm | hm
 ·obtain⟨s,_,e⟩:=List.mem_map.1 hm;cases e
 ·rw[List.mem_replicate]at hm;cases hm.2
def Yl(w:World)(n:Nat)(Ss:List (Option Addr×Nat×List Nat)):Prop:=∀s∈Ss,(s.2.2.length=n/\∀x∈s.2.2,x<28)/\Reads w s.1 (u8s s.2.2)
theorem Yl.ame{w w':World}{n:Nat}{Ss:List (Option Addr×Nat×List Nat)}{b:Nat}{t:TypeId}{cs:List Value}(hs:Yl w n Ss)(h:Row w b t cs)(hn:∀(m:Nat) (z:Int),cs[m]?≠some (.int .u8 z))(hg:w.grownBy w' (some b)):Yl w' n Ss:=
 fun s hm=>⟨(hs s hm).1,tQ h hn (hs s hm).2 hg⟩
theorem Yl.below{w w':World}{n:Nat}{Ss:List (Option Addr×Nat×List Nat)}(hs:Yl w n Ss)(hb:Below w.heap.size w w'):Yl w' n Ss:=
 fun s hm=>⟨(hs s hm).1,aC (hs s hm).2 hb⟩
theorem afY(b:Nat)(bs:List Nat)(most:Int)(w:World)
  (hint:Calls prog 40 #[.pointer (some ⟨b,0,none⟩),.int .i64 (min most 1000)] w fun e w'=>e=.returned (.int .i64 0)/\CR w' b none/\w.grownBy w' (some b)) :
  Calls prog 76 #[.pointer (some ⟨b,0,none⟩),.int .i64 most] w fun e w'=>akk w' b bs e none/\w.grownBy w' (some b):=by
 have H1:=hid hint;clear hint;go_enter func76,ntmps76
 go_wp2_with fail
 refine H1.out.mono ?_;rintro e w1 ⟨rfl,hc1,hg1⟩;have Hb:=hid (aK b none w1 hc1);have Hg1:=hid hg1;clear hc1 hg1 H1;go_wp2_with fail
 refine Hb.out.mono ?_;rintro e w3 ⟨rfl,rfl⟩;clear Hb;go_wp2;go_ret2;exact⟨⟨_,_,rfl⟩,Hg1.out⟩
theorem Vx(b k:Nat)(bs:List Nat)(most:Int)(w:World)
  (hint:Calls prog 40 #[.pointer (some ⟨b,0,none⟩),.int .i64 (min most 1000)] w fun e w'=>e=.returned (.int .i64 0)/\CR w' b (some (bs.drop k))/\w.grownBy w' (some b)) :
  Calls prog 76 #[.pointer (some ⟨b,0,none⟩),.int .i64 most] w fun e w'=>akk w' b bs e (some ([],k))/\w.grownBy w' (some b):=by
 have H1:=hid hint;clear hint;go_enter func76,ntmps76
 go_wp2_with fail
 refine H1.out.mono ?_;rintro e w1 ⟨rfl,hc1,hg1⟩;have Hb:=hid (aK b _ w1 hc1);have Hg1:=hid hg1;have Hc1:=hid hc1;clear hc1 hg1 H1;go_wp2_with fail
 refine Hb.out.mono ?_;rintro e w3 ⟨rfl,rfl⟩;clear Hb;go_wp2;go_ret2;exact⟨⟨⟨_,_,rfl,fun h=>absurd h (by simp)⟩,Hc1.out⟩,Hg1.out⟩
theorem Vw(b k n:Nat)(bs:List Nat)(most:Int)(w:World)(hn0:1<=n)(hn:n<=1000)(hl:bs.length<=100000000)(hlt:∀x∈bs,x<256)
  (hint:Calls prog 40 #[.pointer (some ⟨b,0,none⟩),.int .i64 (min most 1000)] w fun e w'=>e=.returned (.int .i64 (n:Int))/\CR w' b (some (bs.drop k))/\w.grownBy w' (some b)) :
  Calls prog 76 #[.pointer (some ⟨b,0,none⟩),.int .i64 most] w fun e w'=>akk w' b bs e (match gH 3 (bs.drop k) n with
   | none=>none
   | some p=>match rQ ((bs.drop k).drop p.2)with
    | none=>none
    | some q=>(kN p.1 n q.1).map fun l=>(l,k+p.2+q.2))/\w.grownBy w' (some b):=by
 obtain⟨res,hres⟩:∃res,res=(match gH 3 (bs.drop k) n with
   | none=>none
   | some p=>match rQ ((bs.drop k).drop p.2)with
    | none=>none
    | some q=>(kN p.1 n q.1).map fun l=>(l,k+p.2+q.2)):=⟨_,rfl⟩
 rw[<-hres];obtain⟨S3,hS3⟩:∃S3,S3=gH 3 (bs.drop k) n:=⟨_,rfl⟩;rw[<-hS3]at hres;have HS3:=hid hS3;have dV:=hid hres;have H1:=hid hint;have Hun:=hid (fun m W (hc:CR W b (some (bs.drop m)))=>Ph b n (bs.drop m) W (by rw[List.length_drop];omega) (dG hlt m) hn0 (by omega) hc);have Htx:=hid (fun m W (hc:CR W b (some (bs.drop m)))=>nC b (some (bs.drop m)) 4096 W (by omega) (by omega) ⟨dG hlt m,by rw[List.length_drop];omega⟩ hc);have Hlt:=hid (fun m=>dG hlt m);have dn:((n:Int) == 0)=false:=by rw[beq_eq_false_iff_ne];omega
 clear hint hres hlt hl hS3;go_enter func76,ntmps76
 go_wp2_with fail
 refine H1.out.mono ?_;rintro e w1 ⟨rfl,hc1,hg1⟩;have Hb:=hid (aK b _ w1 hc1);have Hg1:=hid hg1;have Hc1:=hid hc1;clear hc1 hg1 H1;go_wp2_with fail
 refine Hb.out.mono ?_;rintro e w3 ⟨rfl,rfl⟩;clear Hb;obtain⟨ba,hba⟩:∃ba,w1.heap.size=ba:=⟨_,rfl⟩;have hra:=Row.new w1 111 (abw n [] 3);have hbel:=(Below.refl w1.heap.size w1).alloc (Nat.le_refl _) (.cells #[.slice none 0 0,.slice none 0 0,.slice none 0 0] 111);have e3:w1.alloc (.cells (abw n [] 3).toArray 111)=w1.alloc (.cells #[.slice none 0 0,.slice none 0 0,.slice none 0 0] 111):=rfl;rw[e3,hba]at hra;have Hra:=hid hra;have Hba:=hid hba;have Hc2:=hid (Hc1.out.below hbel);have Hg2:=hid (ay Hg1.out (ak hbel _));have hbb:b<ba:=by rw[<-hba];exact Hc1.out.lt
 have hws:w.heap.size<=ba:=by rw[<-hba];exact Hg1.out.size
 clear hra hbel e3 hba Hc1 Hg1;go_wp2;rw[Hba.out];generalize w1.alloc (.cells #[.slice none 0 0,.slice none 0 0,.slice none 0 0] 111)=wA at *;clear Hba;go_loopw [8,9,10,20] (fun _ _ _ i wr=>∃(j at_:Nat) (Ss:List (Option Addr×Nat×List Nat)),i=.int .i64 (j:Int)/\j<=3/\Hid (Ss.length=j)/\Hid (Row wr ba 111 (abw n Ss (3-j)))/\Hid (Yl wr n Ss)/\Hid (CR wr b (some (bs.drop (k+at_))))/\Hid (w.grownBy wr (some b)) /\
  Hid (S3=(gH (3-j) (bs.drop (k+at_)) n).map fun q=>(Ss.map (fun s=>s.2.2)++q.1,at_+q.2))) (fun _ _ _ i _=>3-(intOf i).toNat)
 case atStart=>
  refine⟨0,0,[],rfl,by omega,hid rfl,Hra,hid (fun s hs=>by cases hs),Hc2,Hg2,hid ?_⟩;rw[Nat.add_zero,Nat.sub_zero,HS3.out];cases gH 3 (bs.drop k) n<;>simp
 case round=>
  obtain⟨j,at_,Ss,rfl,hj,hSl,hrow,hsl,hcr,hg,hstr⟩:=hrel;clear Hra Hc2 Hg2;by_cases hj3:j<3
  ·have dj:(j:Int)<3:=by omega
   have bA:=hid (Hun.out (k+at_) wr hcr.out);have qj:=hid hstr.out;obtain⟨d,hd⟩:∃d,3-j=d+1:=⟨3-j-1,by omega⟩;rw[hd,gH]at qj;have akO:=hid (fun l kk h=>agy (bs.drop (k+at_)) n (Hlt.out _) l kk h);have hrow':=hrow.out;rw[hd]at hrow';have gF:=hid hrow';have Hd:=hid (show 3-(j+1)=d by omega);have Zp:=hcr;clear hstr hcr hrow hrow' hd;cases hs:FL (bs.drop (k+at_)) n with
   | none=>
    rw[hs]at qj bA;dsimp only at qj;have dR:Hid (res=none):=hid (by rw[dV.out,qj.out];rfl);clear qj Hun Htx Hlt dV akO hs hsl gF Hd Zp;go_wp2_with fail
    refine bA.out.mono ?_;rintro e w4 ⟨⟨A,c,rfl⟩,hg4⟩;have Hg4:=hid (ay hg.out hg4);clear hg4 bA hg;go_wp2;go_ret2;rw[dR.out];exact⟨⟨_,_,rfl⟩,Hg4.out⟩
   | some t=>
    obtain⟨l,kk⟩:=t;rw[hs]at qj bA;dsimp only at qj;have hm:=akO.out l kk hs;have Hm:=hid hm;rw[List.drop_drop]at qj;clear akO hs;go_wp2_with fail
    refine bA.out.mono ?_;rintro e w4 ⟨⟨⟨A,c,rfl,hrd⟩,hc4⟩,hg4⟩;dsimp only at hrd hc4 ⊢;rw[List.drop_drop]at hc4;have hrow4:=gF.out.keep (hg4.block ba gF.out.lt (by simp;omega));have aos:=hsl.out.ame Zp.out (xX _) hg4;have hnA:Reads (w4.setCell ⟨ba,j,none⟩ (.slice A n c)) A (u8s l):=tQ hrow4 (FI n (d+1) Ss) hrd (dZ w4 ⟨ba,j,none⟩ (.slice A n c));have aot:=aos.ame hrow4 (FI n (d+1) Ss) (dZ w4 ⟨ba,j,none⟩ (.slice A n c));have hc5:CR (w4.setCell ⟨ba,j,none⟩ (.slice A n c)) b (some (bs.drop (k+at_+kk))):=hc4.keep (dZ w4 ⟨ba,j,none⟩ (.slice A n c)) (by simp;omega);have afa:=hrow4.aT j (.slice A n c);have hset:(abw n Ss (d+1)).set j (.slice A n c)=abw n (Ss++[(A,c,l)]) d:=by
     unfold abw;rw[List.set_append_right _ _ (by rw[List.length_map,hSl.out];omega),List.length_map,hSl.out,Nat.sub_self,List.replicate_succ,List.set_cons_zero,List.map_append,List.append_assoc];rfl
    rw[hset]at afa;have f0:=hrow4.free j;have hsome:∃u,w4.cell? ⟨ba,j,none⟩=some u:=by
     rw[hrow4.cell];unfold abw;rw[List.getElem?_append_right (by rw[List.length_map,hSl.out];omega),List.length_map,hSl.out,Nat.sub_self];exact⟨_,rfl⟩
    obtain⟨u0,hu0⟩:=hsome;have hg5:w.grownBy (w4.setCell ⟨ba,j,none⟩ (.slice A n c)) (some b):=by
     have h1:=ay hg.out hg4;exact⟨h1.os,h1.tape,h1.output,by have:=h1.size;simpa [World.setCell]using this,fun i hi hne=>by
      rw[<-h1.block i hi hne];exact Below.heap_setCell w4 ⟨ba,j,none⟩ _ i (by show i≠ba;omega)⟩
    have apx:Hid (Yl (w4.setCell ⟨ba,j,none⟩ (.slice A n c)) n (Ss++[(A,c,l)])):=hid (fun s hs=>by
     rcases List.mem_append.1 hs with hs | hs
     ·exact aot s hs
     ·rw[List.mem_singleton.1 hs];exact⟨Hm.out,hnA⟩)
    have akT:=hid afa;have Hc5:=hid hc5;have Hg5:=hid hg5;have Hlen:Hid (l.length=n):=hid Hm.out.1;have hln:=Hlen.out;rw[hln];clear hrow4 aos hnA aot hc5 afa hset hg5 hm hrd hc4 hg4 hsl hg gF Hm bA hln Zp;go_wp2;go_roundw
    case rel=>
     refine⟨j+1,at_+kk,Ss++[(A,c,l)],by go_num,by omega,hid (by rw[List.length_append,hSl.out];rfl),by rw[Hd.out];exact akT,apx,by rw[<-Nat.add_assoc];exact Hc5,Hg5,hid ?_⟩;rw[qj.out,Hd.out,<-Nat.add_assoc];cases gH d (bs.drop (k+at_+kk)) n<;>simp[Nat.add_assoc]
    case measure=>simp[intOf];omega
  ·have aeO:j=3:=by omega
   subst aeO;obtain⟨s0,s1,s2,hS3⟩:∃s0 s1 s2,Ss=[s0,s1,s2]:=by
    match Ss,hSl.out with
    | [x,y,z],_=>exact⟨x,y,z,rfl⟩
   subst hS3;have qj:=hid hstr.out;rw[Nat.sub_self,gH,Option.map_some,List.append_nil,Nat.add_zero]at qj;have hrow2:Row wr ba 111 [.slice s0.1 n s0.2.1,.slice s1.1 n s1.2.1,.slice s2.1 n s2.2.1]:=hrow.out;obtain⟨x0,x1,x2⟩:=gB hrow2;have bA:=hid (Htx.out (k+at_) wr hcr.out);have mK:=hid dV.out;rw[qj.out]at mK;simp only[List.map_cons,List.map_nil]at mK;rw[List.drop_drop]at mK;have gF:=hid hrow2;have Zp:=hcr;clear hstr hrow hrow2 dV qj hSl Htx Hun hcr;cases htx:rQ (bs.drop (k+at_))with
   | none=>
    have Hc2:=hid bA.out;rw[Df _ htx]at Hc2;rw[htx]at mK;dsimp only at mK;clear htx bA Hlt hsl gF;go_wp2_with fail
    refine Hc2.out.mono ?_;rintro e w4 ⟨rfl,hc4,hg4⟩;have Hb:=hid (aK b none w4 hc4);have Hg4:=hid (ay hg.out hg4);clear hc4 hg4 hg Hc2;go_wp2_with fail
    refine Hb.out.mono ?_;rintro e w5 ⟨rfl,rfl⟩;clear Hb;go_wp2;go_ret2;rw[mK.out];exact⟨⟨_,_,rfl⟩,Hg4.out⟩
   | some q=>
    obtain⟨bd,m⟩:=q;obtain⟨e1,hl1⟩:=Dg _ _ htx;have hm1:=Ko _ _ htx (Hlt.out _);have Hc2:=hid bA.out;rw[e1]at Hc2;rw[htx]at mK;dsimp only at mK Hc2 hl1 hm1;rw[List.drop_drop]at Hc2;have jQ:=hid (fun W=>bU W bd hm1);have Hst:=hid (fun W A c (h:Yl W n [s0,s1,s2]) hr=>Pg s0.1 s1.1 s2.1 A s0.2.1 s1.2.1 s2.2.1 c n s0.2.2 s1.2.2 s2.2.2 bd W hn (h s0 (by simp)).1 (h s1 (by simp)).1 (h s2 (by simp)).1 (h s0 (by simp)).2 (h s1 (by simp)).2 (h s2 (by simp)).2 hl1 hm1 hr);obtain⟨rr,hrr⟩:∃rr,rr=kN [s0.2.2,s1.2.2,s2.2.2] n bd:=⟨_,rfl⟩;rw[<-hrr]at Hst mK;clear htx e1 bA Hlt hrr hm1;generalize alS:strOf bd=sb at *;clear alS;go_wp2_with fail
    refine Hc2.out.mono ?_;rintro e w4 ⟨rfl,hc4,hg4⟩;have Hb:=hid (aK b _ w4 hc4);have Hg4:=hid (ay hg.out hg4);have amW:=hid (hsl.out.ame Zp.out (xX _) hg4);have hrow4:=gF.out.keep (hg4.block ba gF.out.lt (by simp;omega));obtain⟨y0,y1,y2⟩:=gB hrow4;have Hc4:=hid hc4;clear hc4 hg4 hg Hc2 hsl Zp gF hrow4 x0 x1 x2;go_wp2_with fail
    refine Hb.out.mono ?_;rintro e w5 ⟨rfl,rfl⟩;obtain⟨w6,cap,dB,hcell,hb6⟩:=jQ.out w4;have hrs:Reads w6 (some ⟨w4.heap.size,0,none⟩) (u8s bd):=fun _=>⟨_,_,rfl,fun j hj=>by
     rw[aO]at hj;rw[Nat.zero_add,hcell j hj,bD bd j hj]⟩
    have adT:=hid (Hst.out w6 _ cap (amW.out.below hb6) hrs);have Hg6:=hid (ay Hg4.out (ak hb6 _));have Hc6:=hid (Hc4.out.below hb6);clear Hb hcell hb6 hrs Hst amW Hg4 Hc4 jQ;go_wp2_with fail
    refine adT.out.mono ?_;rintro e w7 ⟨hsp,hb7⟩;have Hg7:=hid (ay Hg6.out (ak hb7 _));have Hc7:=hid (Hc6.out.below hb7);clear hb7 adT Hg6 Hc6 dB y0 y1 y2;cases rr with
    | none=>
     obtain⟨A,c,rfl⟩:=hsp;go_wp2;go_ret2;rw[mK.out];exact⟨⟨_,_,rfl⟩,Hg7.out⟩
    | some l=>
     obtain⟨A,c,rfl,hrd⟩:=hsp;have Hrd:=hid hrd;clear hrd;go_wp2;go_ret2;rw[mK.out];exact⟨⟨⟨_,_,rfl,Hrd.out⟩,Hc7.out⟩,Hg7.out⟩
theorem aaJ(b:Nat)(bs:List Nat)(most:Int)(w:World)(h0:-9223372036854775808<=most)(h1:most<=9223372036854775807)(hl:bs.length<=100000000)(hlt:∀x∈bs,x<256)(h:CR w b (some bs)) :
  Calls prog 76 #[.pointer (some ⟨b,0,none⟩),.int .i64 most] w fun e w'=>akk w' b bs e (su bs most)/\w.grownBy w' (some b):=by
 have hint:=nW b (some bs) (min most 1000) w (by omega) (by omega) ⟨hlt,hl⟩ h;by_cases hc:0<(au bs).2/\((au bs).1:Int)<=min most 1000
 ·rw[ni _ bs hc.1 hc.2]at hint;dsimp only at hint;by_cases hz:(au bs).1=0
  ·rw[abq bs most hc hz];rw[hz]at hint;exact Vx b _ bs most w hint
  ·rw[abn bs most hc hz];exact Vw b _ _ bs most w (by omega) (by omega) hl hlt hint
 ·rw[Aa _ bs hc]at hint;rw[ajI bs most hc];exact afY b bs most w hint
end Go.Proofs.YtaebnkeddcbmkaaGreat
