/- Contracts, and what they rest on. Conditions: the theorems' premises. -/
import Derived.Test.YtgiicohbigiapaaGreatRat
import Derived.Test.YtgiicohbigiapaaGreatRba
set_option maxHeartbeats 4000000
set_option maxRecDepth 100000
open Go.Lib(hid)
open Go.Proofs.Tryz Go.Proofs.YtgiicohbigiapaaGreat.Bm
namespace Go.Proofs.YtgiicohbigiapaaGreat
open Go.RowKit
namespace Bm
theorem Ns(ls:List Nat):jw (ls.map fun n:Nat=>(n:Int))↔bC ls:=by
 have e:(ls.map fun n:Nat=>(n:Int)).map Int.toNat=ls:=by
  rw[List.map_map];conv=>rhs;rw[←List.map_id ls]
  apply List.map_congr_left
  intro x _;simp
 unfold jw;rw[e];refine⟨fun h=>h.2,fun h=>⟨⟨by rw[List.length_map];exact h.1,fun x hx=>?_⟩,h⟩⟩;obtain⟨y,hy,rfl⟩:=List.mem_map.1 hx;have:=h.2.1 y hy;omega
def oQ(F:Nat→Nat)(n i:Nat):List Nat:=(List.range i).map F++List.replicate (n-i) 0
theorem ME(F:Nat→Nat)(n:Nat):oQ F n 0=List.replicate n 0:=by simp[oQ]
theorem Sz(F:Nat→Nat)(n:Nat):oQ F n n=(List.range n).map F:=by simp[oQ]
theorem DX(F:Nat→Nat)(n i:Nat)(h:i≤n):(oQ F n i).length=n:=by simp[oQ];omega
theorem MC(F:Nat→Nat)(n i:Nat)(h:i<n):oQ F n (i+1)=(oQ F n i).set i (F i):=by
 unfold oQ;have h1:((List.range i).map F).length=i:=by simp
 rw[List.set_append_right _ _ (by omega),h1,Nat.sub_self,List.range_succ,List.map_append,List.append_assoc];congr 1
 obtain⟨m,hm⟩:∃m,n-i=m+1:=⟨n-i-1,by omega⟩;rw[hm,show n-(i+1)=m by omega,List.replicate_succ];simp
end Bm
theorem zf(w:World)(b x k:Nat)(bs f rb l:List Nat)(st1 st2:Left)(F P:Nat→Nat)(res:Option (List Nat×Nat))(hx:x=aS f)(hx2:x<256)(hk:k=(x+2)/2)(hbs:∀y∈bs,y<256)(hbl:bs.length≤10000)
  (h1:gW 1 (some bs)=(f,st1)) (h2:gW k st1=(rb,st2)) (hrb:∀y∈rb,y<256) (hrl:rb.length≤10000) (hl:l=(List.range (x+1)).map F) (hF:∀i,F i<16) (hP0:P 0=0) (hPn:P (x+1)≤8*rb.length)
  (hT:∀(W:World) (br i:Nat),i<x+1→RS W br 0 rb (P i)→Calls prog 177 #[.pointer (some ⟨br,0,none⟩),.int .i64 4] W fun e w'=>(∃ok,e=.returned (.tuple #[.int .u32 (F i:Int),.bool ok]))∧RS w' br 0 rb (P (i+1))∧W.grownBy w' (some br))
  (hr1:∀t,st2=some t→Fb rb (P (x+1))→bC l→l[x]?.getD 0≠0→∃q,res=some (l,q)∧bs.drop q=t)
  (hr0:(st2=none∨¬Fb rb (P (x+1))∨¬bC l∨l[x]?.getD 0=0)→res=none)
  (hc:CR w b (some bs)) :
  Calls prog 144 #[.pointer (some ⟨b,0,none⟩)] w fun e w'=>UQ w' b bs e res∧w.grownBy w' (some b):=by
 obtain⟨i0,hi,hz0,hz1,hz2⟩:=info_parts gI;have c0:=Row.cell hc 0;have c1:=Row.cell hc 1;simp only[kC,List.getElem?_cons_zero,List.getElem?_cons_succ]at c0 c1;have Hc:=hid hc;obtain⟨w0,hw0⟩:∃w0,w0=w.alloc (.cells #[.string (strOf bs),.bool false] 73):=⟨_,rfl⟩;have VU:CR w0 w.heap.size (some bs):=by rw[hw0];exact Row.new w 73 _
 have hb0:Below w.heap.size w w0:=by rw[hw0];exact(Below.refl _ _).alloc (Nat.le_refl _) _
 have hfx:=kE w.heap.size (some bs) 1 w0 (by omega) (by omega) ⟨hbs,by omega⟩ VU;rw[show fx 1=1 from by decide,h1]at hfx;dsimp only at hfx;rw[←hx]at hfx;have Hfx:=hid hfx;have fO:Hid (∀(W:World) (z:Int),z=(k:Int)→CR W w.heap.size st1→Calls prog 42 #[.pointer (some ⟨w.heap.size,0,none⟩),.int .i64 z] W fun e w'=>e=.returned (.string (strOf rb))∧CR w' w.heap.size st2∧W.grownBy w' (some w.heap.size)):=hid (fun W z hz hcr=>by
  have h:=fZ w.heap.size st1 z W hcr;rw[hz,Int.toNat_natCast,h2]at h;rw[hz];exact h)
 have Hb0:=hid hb0;have HT:=hid hT;have Hr1:=hid hr1;have Hr0:=hid hr0;have HF:=hid hF;have Hl:=hid hl;have Hrb:=hid hrb;have HP0:=hid hP0;clear hc VU hb0 hfx hx hT hr1 hr0 hF hl h1 h2 hrb hP0 hbs;go_enter func144,ntmps144
 go_wp2_with fail
 rw[←hw0];clear hw0 c0 c1;refine Hfx.out.mono ?_;rintro e wa ⟨rfl,ajs,hga⟩;have aiq:=hid ajs;have Hba:Hid (Below w.heap.size w wa):=hid (Hb0.out.grown hga Hb0.out.size (fun k e=>by injection e with e;omega));clear ajs hga Hfx Hb0;go_wp2_with fail
 refine(fO.out _ _ (by omega) aiq.out).mono ?_;rintro e wb ⟨rfl,ahx,hgb⟩;obtain⟨wc,cap,bO,hcells,hbc⟩:=bU wb rb Hrb.out;have ajT:Reads wc (some ⟨wb.heap.size,0,none⟩) (u8s rb):=fun _=>⟨_,_,rfl,fun j hj=>by
  rw[aO]at hj;rw[Nat.zero_add,hcells j hj,bD rb j hj]⟩
 have hbb:Below w.heap.size w wb:=Hba.out.grown hgb Hba.out.size (fun k e=>by injection e with e;omega);have hbc2:=hbb.trans (hbc.mono hbb.size);have air:=hid (ahx.below hbc);have Hnr:=hid (qb (some ⟨wb.heap.size,0,none⟩) cap rb wc Hrb.out ajT);have Hbc:=hid hbc2;have hlw:w.heap.size<wc.heap.size:=Nat.lt_of_lt_of_le ahx.lt hbc.size;clear ahx hgb hcells hbc ajT hbb hbc2 Hba aiq fO;go_wp2_with fail
 refine Hnr.out.mono ?_;rintro e wd ⟨rfl,hrs,hbd⟩;have Hrs:=hid hrs;have ais:=hid (air.out.below hbd);have Hbd:=hid (Hbc.out.trans (hbd.mono Hbc.out.size));have hld:wc.heap.size<wd.heap.size:=hrs.2.2.2;clear hrs hbd air Hbc Hnr bO;go_wp2_with (at_make;refine wpList_make_full _ rfl _ _ 112 rfl w.heap.size 3 i0 (.int .i64 0) 1 underlying112 hi hz0 hz1 .i64 .i64 _ _ (x+1) rfl rfl ?c1 ?c1 ?c2 ?c3 ?c4 ?_)
 case c1=>omega
 case c2=>first | omega | (rw[hz2];omega)
 case c3=>unfold maxLen;omega
 try case c4=>omega
 intro we afj hge;have hbe:=aJ hge;have hre:=dF afj;have Hre:=hid hre;have aiN:=hid (Hrs.out.keep hge (by simp));have ait:=hid (ais.out.below hbe);have Hbe:=hid (Hbd.out.trans (hbe.mono Hbd.out.size));clear afj hge hbe hre hi hz0 hz1 hz2 Hrs ais Hbd;generalize wd.heap.size=gl at *;generalize wc.heap.size=br at *;go_wp2;go_loopw [29] (fun iv wr=>∃i:Nat,i≤x+1∧iv=.int .i64 (i:Int)∧Hid (RS wr br 0 rb (P i))∧Hid (Row wr gl 3 (aM (oQ F (x+1) i)))∧Hid (CR wr w.heap.size st2)∧Hid (Below w.heap.size w wr)) (fun iv _=>x+1-(intOf iv).toNat)
 case atStart=>exact⟨0,by omega,rfl,hid (by rw[HP0.out];exact aiN.out),hid (by rw[ME];exact Hre.out),ait,Hbe⟩
 case round=>
  obtain⟨i,hix,rfl,hrs,hrow,hcr,hbel⟩:=hrel;clear aiN Hre ait Hbe;by_cases hi1:i<x+1
  ·have htk:=HT.out wr br i hi1 hrs.out;have aml:=HF.out i;have hnx:=MC F (x+1) i hi1;have hln:=DX F (x+1) i (by omega);have Htk:=hid htk;have BK:Hid (∀W,Row W gl 3 (aM (oQ F (x+1) i))→Row (W.setCell ⟨gl,i,none⟩ (.int .i64 (F i:Int))) gl 3 (aM (oQ F (x+1) (i+1)))):=hid (fun W h=>by
    have h1:=h.aW i (.int .i64 (F i:Int));rw[hnx,show aM ((oQ F (x+1) i).set i (F i))=(aM (oQ F (x+1) i)).set i (.int .i64 (F i:Int)) by simp[aM,List.map_set]];exact h1)
   have Hln:=hid hln;clear htk hnx hln;generalize F i=v at *;go_wp2_with fail
   refine Htk.out.mono ?_;rintro e w2 ⟨⟨ok,rfl⟩,ND,hg2⟩;have hrow2:Row w2 gl 3 (aM (oQ F (x+1) i)):=hrow.out.keep (hg2.block gl hrow.out.lt (fun e=>by injection e with e;omega));have hcell:∃u,w2.cell? ⟨gl,i,none⟩=some u:=⟨_,(hrow2.cell i).trans (List.getElem?_eq_getElem (by rw[aL,Hln.out];omega))⟩;obtain⟨u0,hcd⟩:=hcell;have hfd:w2.frozen? ⟨gl,i,none⟩=false:=hrow2.free i;have jS:=hid (BK.out w2 hrow2);have jQ:CR w2 w.heap.size st2:=hcr.out.keep hg2 (fun e=>by injection e with e;omega);have NG:RS (w2.setCell ⟨gl,i,none⟩ (.int .i64 (v:Int))) br 0 rb (P (i+1)):=ND.keep (row:=some gl) (aH (au w2 (some gl)) i _) (fun e=>by injection e with e;omega);have aag:=hid NG;have akG:Hid (CR (w2.setCell ⟨gl,i,none⟩ (.int .i64 (v:Int))) w.heap.size st2):=hid (jQ.keep (row:=some gl) (aH (au w2 (some gl)) i _) (fun e=>by injection e with e;omega));have hb2:Below w.heap.size w w2:=hbel.out.grown hg2 hbel.out.size (fun k e=>by injection e with e;omega);have Hb3:=hid (hb2.setCell (p:=⟨gl,i,none⟩) (by show w.heap.size≤gl;omega) (.int .i64 (v:Int)));clear hrow hrow2 hcr jQ hrs ND NG hg2 hbel hb2 Htk BK Hln;go_wp2;go_roundw
   case rel=>exact⟨i+1,by omega,by go_num,aag,jS,akG,Hb3⟩
   case measure=>simp[intOf];omega
  ·obtain rfl:i=x+1:=by omega
   rw[Sz,←Hl.out]at hrow;have hll:l.length=x+1:=by rw[Hl.out];simp
   clear HT HF HP0 Hl;have Kr:=hid (aK w.heap.size st2 wr hcr.out);cases st2 with
   | none=>
    have dQ:=hid (Hr0.out (.inl rfl));clear Hr0 Hr1;go_wp2_with fail
    refine Kr.out.mono ?_;rintro e w' ⟨rfl,rfl⟩;go_wp2;go_ret2;rw[dQ.out];exact⟨⟨_,_,rfl⟩,ak hbel.out _⟩
   | some t=>
    have gV:=hid (ze br rb (P (x+1)) wr hrl Hrb.out hPn hrs.out);clear hrs;by_cases hE:Fb rb (P (x+1))
    ·rw[decide_eq_true hE]at gV;have Hwh:Hid (∀W,Row W gl 3 (aM l)→Calls prog 140 #[.slice (some ⟨gl,0,none⟩) (x+1) (x+1)] W fun e w'=>e=.returned (.bool (decide (bC l)))∧W=w'):=hid (fun W h=>by
      have h1:=sH (some ⟨gl,0,none⟩) (x+1) (l.map fun n:Nat=>(n:Int)) W (by rw[List.length_map];omega) (by rw[bJ];exact bR h);rw[List.length_map,hll,decide_eq_decide.2 (Ns l)]at h1;exact h1)
     by_cases hW:bC l
     ·rw[decide_eq_true hW]at Hwh;have hge:l[x]?.getD 0=l[x]:=by rw[List.getElem?_eq_getElem (by omega),Option.getD_some]
      have hr1:=Hr1.out t rfl hE hW;have hr0:=fun h=>Hr0.out (.inr (.inr (.inr h)))
      rw[hge]at hr1 hr0;have Hq1:=hid hr1;have Hq0:=hid hr0;have Hcl:Hid (∀W,Row W gl 3 (aM l)→W.cell? ⟨gl,x,none⟩=some (.int .i64 (l[x]:Int))):=hid (fun W h=>by rw[h.cell x,bK l x (by omega)]);clear hge hr1 hr0 Hr0 Hr1;generalize l[x]=z at *;go_wp2_with fail
      refine Kr.out.mono ?_;rintro e w' ⟨rfl,rfl⟩;go_wp2_with fail
      refine gV.out.mono ?_;rintro e w2 ⟨rfl,hg2⟩;have hb2:=hbel.out.grown hg2 hbel.out.size (fun k e=>by injection e with e;omega);have hrow2:Row w2 gl 3 (aM l):=hrow.out.keep (hg2.block gl hrow.out.lt (fun e=>by injection e with e;omega));have jQ:CR w2 w.heap.size (some t):=hcr.out.keep hg2 (fun e=>by injection e with e;omega);have Hb2:=hid hb2;have dJ:=hid hrow2;have uR:=hid jQ;have cz:=Hcl.out w2 hrow2;have d0:=Row.cell jQ 0;have d1:=Row.cell jQ 1;simp only[kC,List.getElem?_cons_zero,List.getElem?_cons_succ]at d0 d1;have hcb:CR w2 b (some bs):=Hc.out.below hb2;have e0:=Row.cell hcb 0;have e1:=Row.cell hcb 1;simp only[kC,List.getElem?_cons_zero,List.getElem?_cons_succ]at e0 e1;have f0:=Row.free hcb 0;have f1:=Row.free hcb 1;have BK:Hid (CR ((w2.setCell ⟨b,0,none⟩ (.string (strOf t))).setCell ⟨b,1,none⟩ (.bool false)) b (some t)):=hid (by
       have h:=(Row.aW hcb 0 (.string (strOf t))).aW 1 (.bool false);exact h)
      have Hgs:Hid (w.grownBy ((w2.setCell ⟨b,0,none⟩ (.string (strOf t))).setCell ⟨b,1,none⟩ (.bool false)) (some b)):=hid (aH (aH (ak hb2 (some b)) 0 _) 1 _);have hbw:b<w.heap.size:=Hc.out.lt;have Hrd:Hid (Reads ((w2.setCell ⟨b,0,none⟩ (.string (strOf t))).setCell ⟨b,1,none⟩ (.bool false)) (some ⟨gl,0,none⟩) (aM l)):=hid (bR ((hrow2.far (p:=⟨b,0,none⟩) (by show gl≠b;omega) _).far (p:=⟨b,1,none⟩) (by show gl≠b;omega) _));have agi:=hid (Hwh.out w2 hrow2);have hxi:(x:Int)+1-1=(x:Int):=by omega
      clear hg2 hb2 hrow2 jQ hcb hbel hrow hcr Hwh Hcl;by_cases hz:z=0
      ·subst hz;have dQ:=hid (Hq0.out rfl);clear Hq0 Hq1 d0 d1 e0 e1 f0 f1;go_wp2_with fail
       refine agi.out.mono ?_;rintro e w' ⟨rfl,rfl⟩;go_wp2;go_ret2;rw[dQ.out];exact⟨⟨_,_,rfl⟩,ak Hb2.out _⟩
      ·have hd:((z:Int) == 0)=false:=by rw[beq_eq_false_iff_ne];omega
       obtain⟨q,hres,hdq⟩:=Hq1.out hz;have dQ:=hid hres;have Hdq:=hid hdq;have Hll:=hid hll;clear Hq0 Hq1 hres hdq hll;go_wp2_with fail
       refine agi.out.mono ?_;rintro e w' ⟨rfl,rfl⟩;go_wp2;go_ret2;rw[dQ.out];exact⟨⟨some ⟨gl,0,none⟩,x+1,by rw[Hll.out];rfl,Hrd.out,by rw[Hdq.out];exact BK.out⟩,Hgs.out⟩
     ·rw[decide_eq_false hW]at Hwh;have dQ:=hid (Hr0.out (.inr (.inr (.inl hW))));clear Hr0 Hr1;go_wp2_with fail
      refine Kr.out.mono ?_;rintro e w' ⟨rfl,rfl⟩;go_wp2_with fail
      refine gV.out.mono ?_;rintro e w2 ⟨rfl,hg2⟩;have hrow2:Row w2 gl 3 (aM l):=hrow.out.keep (hg2.block gl hrow.out.lt (fun e=>by injection e with e;omega));have agi:=hid (Hwh.out w2 hrow2);have Hb2:=hid (hbel.out.grown hg2 hbel.out.size (fun k e=>by injection e with e;omega));clear hg2 hrow2 Hwh;go_wp2_with fail
      refine agi.out.mono ?_;rintro e w' ⟨rfl,rfl⟩;go_wp2;go_ret2;rw[dQ.out];exact⟨⟨_,_,rfl⟩,ak Hb2.out _⟩
    ·rw[decide_eq_false hE]at gV;have dQ:=hid (Hr0.out (.inr (.inl hE)));clear Hr0 Hr1;go_wp2_with fail
     refine Kr.out.mono ?_;rintro e w' ⟨rfl,rfl⟩;go_wp2_with fail
     refine gV.out.mono ?_;rintro e w2 ⟨rfl,hg2⟩;have Hb2:=hid (hbel.out.grown hg2 hbel.out.size (fun k e=>by injection e with e;omega));clear hg2;go_wp2;go_ret2;rw[dQ.out];exact⟨⟨_,_,rfl⟩,ak Hb2.out _⟩
namespace Bm
theorem Ij(s:List Nat)(h:∀x∈s,x<256)(j:Nat):aS s/256^j%256=s[j]?.getD 0:=by
 rcases Nat.lt_or_ge j s.length with hj | hj
 ·have e:=mq s h;have h1:(bytesOf (aS s) s.length)[j]?=s[j]?:=by rw[e]
  rw[Cm _ _ _ hj]at h1;rw[←h1,Option.getD_some]
 ·have hv:=jP s h;have:=Nat.pow_le_pow_right (n:=256) (by omega) hj;rw[Nat.div_eq_of_lt (by omega),List.getElem?_eq_none hj];rfl
theorem Rj(s:List Nat)(h:∀x∈s,x<256)(i:Nat):aS s/2^(4*i)%2^4=if i%2=1 then s[i/2]?.getD 0/16%16 else s[i/2]?.getD 0%16:=by
 have e:=Ij s h (i/2);rw[rO]at e;split
 ·next ho=>
  rw[←e,show 4*i=8*(i/2)+4 by omega,Nat.pow_add,←Nat.div_div_eq_div_mul];omega
 ·next ho=>
  rw[←e,show 4*i=8*(i/2) by omega];omega
theorem zG:∀l:List Nat,0<(aI l).length→(aI l)[(aI l).length-1]?.getD 0≠0
 | [],h=>by simp[aI]at h
 | n :: l,h=>by
  unfold aI at h ⊢;split
  ·next h0=>rw[if_pos h0]at h;simp at h
  ·next h0=>
   rcases Nat.eq_zero_or_pos (aI l).length with h1 | h1
   ·have h2:=List.eq_nil_of_length_eq_zero h1;rw[h2];have h3:l.sum=0:=by
     have:=short_zero l h2;have hz:∀l:List Nat,(∀x∈l,x=0)→l.sum=0:=fun l=>by
      induction l with
      | nil=>simp
      | cons a l ih=>
       intro h;rw[List.sum_cons,h a List.mem_cons_self,ih (fun x hx=>h x (List.mem_cons_of_mem _ hx))]
     exact hz l this
    simp only[List.length_cons,List.length_nil,List.getElem?_cons_zero,Nat.zero_add,Nat.sub_self,Option.getD_some];omega
   ·have ih:=zG l h1;obtain⟨q,hq⟩:∃q,(aI l).length=q+1:=⟨(aI l).length-1,by omega⟩;rw[hq,Nat.add_sub_cancel]at ih;rw[List.length_cons,hq,Nat.add_sub_cancel,List.getElem?_cons_succ];exact ih
theorem MQ(l:List Nat)(h:(aI l).length=l.length):aI l=l:=by
 obtain⟨m,hm⟩:=fE l;have e:=congrArg List.length hm;rw[List.length_append,List.length_replicate]at e;have hm0:m=0:=by omega
 subst hm0;rw[List.replicate_zero,List.append_nil]at hm;exact hm.symm
theorem zF(l:List Nat)(h:l[l.length-1]?.getD 0≠0):aI l=l:=by
 have h0:0<l.length:=by
  rcases Nat.eq_zero_or_pos l.length with h1 | h1
  ·rw[List.eq_nil_of_length_eq_zero h1]at h;simp at h
  ·exact h1
 have:=rZ l l.length (Nat.le_refl _) (fun j hj=>by rw[List.getElem?_eq_none hj];rfl) (.inr h);rwa [List.take_length]at this
section
variable (y:Nat) (rest rb:List Nat) (hy:y<256) (hb:∀x∈y :: rest,x<256) (hk:(y+2)/2≤rest.length) (hrb:rb=rest.take ((y+2)/2))
include hrb in
theorem acw(j:Nat)(hj:j<(y+2)/2):rb[j]?.getD 0=(y :: rest)[1+j]?.getD 0:=by
 rw[hrb,List.getElem?_take_of_lt hj,Nat.add_comm,List.getElem?_cons_succ]
include hk hrb in
theorem Sg:rb.length=(y+2)/2:=by rw[hrb,List.length_take];omega
include hb hrb in
theorem Xx:∀x∈rb,x<256:=fun x hx=>hb x (List.mem_cons_of_mem _ (List.mem_of_mem_take (by rw[←hrb];exact hx)))
include hb hrb in
theorem afB(i:Nat)(hi:i<y+1):aS rb/2^(4*i)%2^4=ug (y :: rest) i:=by
 rw[Rj rb (Xx y rest rb hb hrb),ug,acw y rest rb hrb (i/2) (by omega)]
include hb hrb in
theorem abP:(List.range (y+1)).map (fun i=>aS rb/2^(4*i)%2^4)=tJ (y :: rest) (y+1):=by
 unfold tJ;apply List.map_congr_left
 intro i hi;exact afB y rest rb hb hrb i (List.mem_range.1 hi)
theorem Rk(i:Nat)(hi:i<y+1):(tJ (y :: rest) (y+1))[i]?.getD 0=ug (y :: rest) i:=by
 unfold tJ;rw[List.getElem?_map,List.getElem?_range hi];rfl
include hb hk hrb in
theorem aeD:Fb rb (4*(y+1))↔(y%2=0→rb[y/2]?.getD 0/16=0):=by
 have hl:=Sg y rest rb hk hrb;have hlt:=Xx y rest rb hb hrb;have hm:rb[y/2]?.getD 0<256:=by
  rcases h:rb[y/2]? with _ | v
  ·simp
  ·exact hlt v (List.mem_of_getElem? h)
 rw[Jj rb hlt _ (by omega),hl];by_cases he:y%2=0
 ·have e:=Rj rb hlt (y+1);rw[if_pos (by omega),show(y+1)/2=y/2 by omega]at e;rw[show 8*((y+2)/2)-4*(y+1)=4 by omega,e];constructor
  ·intro h _;omega
  ·intro h;have:=h he;omega
 ·rw[show 8*((y+2)/2)-4*(y+1)=0 by omega];constructor
  ·intro _ h;omega
  ·intro _;exact⟨by omega,by rw[Nat.pow_zero,Nat.mod_one]⟩
include hb hk hrb in
theorem Ki:bS (tJ (y :: rest) (y+1))=(y :: rest).take (1+(y+2)/2)↔Fb rb (4*(y+1)):=by
 rw[aeD y rest rb hb hk hrb];have hl:=Sg y rest rb hk hrb;have hlt:=Xx y rest rb hb hrb;have hn:=gL (y :: rest) (y+1);have ht:(y :: rest).take (1+(y+2)/2)=y :: rb:=by rw[Nat.add_comm,List.take_succ_cons,hrb]
 have hlt2:∀j:Nat,rb[j]?.getD 0<256:=fun j=>by
  rcases h:rb[j]? with _ | v
  ·simp
  ·exact hlt v (List.mem_of_getElem? h)
 have afl:∀j:Nat,j<(y+2)/2→(qj (tJ (y :: rest) (y+1)) j=rb[j]?.getD 0↔(2*j=y→rb[j]?.getD 0/16=0)):=fun j hj=>by
  have e1:=Rk y rest (2*j) (by omega);have n1:ug (y :: rest) (2*j)=rb[j]?.getD 0%16:=by
   rw[ug,if_neg (by omega),acw y rest rb hrb j hj,show 2*j/2=j by omega]
  have:=hlt2 j;unfold qj;rw[e1,n1];by_cases h2:2*j=y
  ·have e0:(tJ (y :: rest) (y+1))[2*j+1]?.getD 0=0:=by rw[List.getElem?_eq_none (by rw[hn];omega),Option.getD_none]
   rw[e0];constructor
   ·intro h _;omega
   ·intro h;have:=h h2;omega
  ·have e2:=Rk y rest (2*j+1) (by omega);have n2:ug (y :: rest) (2*j+1)=rb[j]?.getD 0/16%16:=by
    rw[ug,if_pos (by omega),acw y rest rb hrb j hj,show(2*j+1)/2=j by omega]
   rw[e2,n2];constructor
   ·intro _ h;exact absurd h h2
   ·intro _;omega
 rw[ht];unfold bS;rw[hn,Nat.add_sub_cancel,show(y+1+1)/2=(y+2)/2 by omega];constructor
 ·intro h he;injection h with _ h
  have hj:y/2<(y+2)/2:=by omega
  have h1:((List.range ((y+2)/2)).map (qj (tJ (y :: rest) (y+1))))[y/2]?=rb[y/2]?:=by rw[h]
  rw[List.getElem?_map,List.getElem?_range hj,Option.map_some]at h1;exact(afl (y/2) hj).1 (by rw[←h1,Option.getD_some]) (by omega)
 ·intro h;congr 1
  apply List.ext_getElem
  ·rw[List.length_map,List.length_range,hl]
  ·intro j h1 h2;rw[List.length_map,List.length_range]at h1;rw[List.getElem_map,List.getElem_range,(afl j h1).2 (fun e=>by rw[show j=y/2 by omega];exact h (by omega)),List.getElem?_eq_getElem h2,Option.getD_some]
include hb hk hrb in
theorem Sj(hE:Fb rb (4*(y+1)))(hW:bC (tJ (y :: rest) (y+1)))(hn:(tJ (y :: rest) (y+1))[y]?.getD 0≠0):jf (y :: rest)=some (tJ (y :: rest) (y+1),1+(y+2)/2):=by
 have hl:=gL (y :: rest) (y+1);have hs:=zF (tJ (y :: rest) (y+1)) (by rw[hl,Nat.add_sub_cancel];exact hn);unfold jf;rw[List.getElem?_cons_zero,Option.getD_some,if_neg (by simp),if_neg (by rw[List.length_cons];omega),hs,if_pos ⟨hW,(Ki y rest rb hb hk hrb).2 hE⟩]
include hb hk hrb in
theorem Xy(h:¬Fb rb (4*(y+1))∨¬bC (tJ (y :: rest) (y+1))∨(tJ (y :: rest) (y+1))[y]?.getD 0=0):jf (y :: rest)=none:=by
 have hl:=gL (y :: rest) (y+1);unfold jf;rw[List.getElem?_cons_zero,Option.getD_some,if_neg (by simp),if_neg (by rw[List.length_cons];omega)];split
 ·next hc=>
  exfalso
  obtain⟨hW,ht⟩:=hc;have h0:=(oZ _ hW).2;have hh:(aI (tJ (y :: rest) (y+1))).length-1=y:=by
   have:=congrArg (fun l=>l[0]?.getD 0) ht;rw[Nat.add_comm 1,List.take_succ_cons]at this;simpa [bS]using this
  have hs:=MQ (tJ (y :: rest) (y+1)) (by rw[hl];omega);rw[hs]at ht;have hE:=(Ki y rest rb hb hk hrb).1 ht;have hlast:=zG _ h0;rw[hs,hl,Nat.add_sub_cancel]at hlast;rcases h with h | h | h
  ·exact h hE
  ·exact h hW
  ·exact hlast h
 ·rfl
end
end Bm
theorem Dl(w:World)(b x:Nat)(bs f:List Nat)(st1:Left)(hx:x=aS f)(hx2:x<256)(hbs:∀y∈bs,y<256)(hbl:bs.length≤10000)
  (h1:gW 1 (some bs)=(f,st1)) (h2:gW ((x+2)/2) st1=([],none)) (hres:jf bs=none) (hc:CR w b (some bs)) :
  Calls prog 144 #[.pointer (some ⟨b,0,none⟩)] w fun e w'=>UQ w' b bs e (jf bs)∧w.grownBy w' (some b):=by
 refine zf w b x ((x+2)/2) bs f [] ((List.range (x+1)).map fun _=>0) st1 none (fun _=>0) (fun _=>0) _ hx hx2 rfl hbs hbl h1 h2 (by simp) (by simp) rfl (fun _=>by omega) rfl (by simp) ?_ ?_ (fun _=>hres) hc
 ·intro W br i _ hrs;refine(qC br 0 [] 0 4 W (by simp) (by simp) (by omega) (by simp) hrs).mono ?_;rintro e w' ⟨rfl,k,rfl⟩;exact⟨⟨false,rfl⟩,hrs.drewN k,bg (au _ _) k⟩
 ·intro t ht;cases ht
theorem WI:aao:=by
 intro w b bs hl hb hc;rcases bs with _ | ⟨y,rest⟩
 ·exact Dl w b 0 [] [] none rfl (by omega) hb hl rfl rfl rfl hc
 ·have hy:y<256:=hb y List.mem_cons_self;have h1:gW 1 (some (y :: rest))=([y],some rest):=by simp[gW]
  have hv:y=aS [y]:=by simp[aS]
  by_cases hk:(y+2)/2≤rest.length
  ·have h2:gW ((y+2)/2) (some rest)=(rest.take ((y+2)/2),some (rest.drop ((y+2)/2))):=by exact if_pos hk
   obtain⟨rb,hrb⟩:∃rb,rb=rest.take ((y+2)/2):=⟨_,rfl⟩;have hrl:=Sg y rest rb hk hrb;have hrt:=Xx y rest rb hb hrb;have hnb:=abP y rest rb hb hrb;have hyes:=Sj y rest rb hb hk hrb;have hno:=Xy y rest rb hb hk hrb;rw[←hrb]at h2;refine zf w b y ((y+2)/2) (y :: rest) [y] rb (tJ (y :: rest) (y+1)) (some rest) (some (rest.drop ((y+2)/2))) (fun i=>aS rb/2^(4*i)%2^4) (fun i=>4*i) _ hv hy rfl hb hl h1 h2 hrt (by omega) hnb.symm (fun i=>Nat.mod_lt _ (by decide)) rfl (by omega) ?_ ?_ ?_ hc
   ·intro W br i hi hrs;refine(jN br 0 rb (4*i) 4 W (by omega) hrt (by omega) (by omega) hrs).mono ?_;rintro e w' ⟨rfl,h3,h4⟩;exact⟨⟨true,rfl⟩,by rw[show 4*(i+1)=4*i+4 by omega];exact h3,h4⟩
   ·intro t ht hE hW hn;injection ht with ht
    exact⟨_,hyes hE hW hn,by rw[Nat.add_comm,List.drop_succ_cons];exact ht⟩
   ·rintro(h | h)
    ·cases h
    ·exact hno h
  ·have h2:gW ((y+2)/2) (some rest)=([],none):=by exact if_neg hk
   refine Dl w b y (y :: rest) [y] (some rest) hv hy hb hl h1 h2 ?_ hc;unfold jf;rw[List.getElem?_cons_zero,Option.getD_some,if_neg (by simp),if_pos (by rw[List.length_cons];omega)]
namespace Bm
def AU:List Nat→Nat
 | []=>0
 | x :: l=>x+16*AU l
theorem Dt:∀(l:List Nat) (x:Nat),AU (l++[x])=AU l+x*16^l.length
 | [],x=>by simp[AU]
 | y :: l,x=>by
  rw[List.cons_append,AU,Dt l x,AU,List.length_cons,Nat.pow_succ,Nat.mul_add,←Nat.mul_assoc 16 x,Nat.mul_comm 16 x,Nat.mul_assoc x 16,Nat.mul_comm 16 (16^l.length)];omega
theorem FW:∀(l:List Nat) (_:∀x∈l,x<16) (j:Nat),AU l/16^j%16=l[j]?.getD 0
 | [],_,j=>by simp[AU]
 | x :: l,h,0=>by
  have:=h x List.mem_cons_self;rw[AU,List.getElem?_cons_zero,Option.getD_some,Nat.pow_zero];omega
 | x :: l,h,j+1=>by
  have h0:=h x List.mem_cons_self;rw[AU,List.getElem?_cons_succ,←FW l (fun y hy=>h y (List.mem_cons_of_mem _ hy)) j,Nat.pow_succ,Nat.mul_comm (16^j),←Nat.div_div_eq_div_mul,show(x+16*AU l)/16=AU l by omega]
theorem ahW(k:Nat):256^k=16^(2*k):=by rw[Nat.pow_mul]
theorem GR(l:List Nat)(h:∀x∈l,x<16)(h0:0<l.length)(h2:l.length≤256):bytesOf (l.length-1+AU l*2^8) ((8+4*l.length+7)/8)=bS l:=by
 apply List.ext_getElem
 ·rw[bytesOf_length,dI];omega
 ·intro i h3 h4;rw[dI]at h4;rw[fB];cases i with
  | zero=>
   simp only[bS,List.getElem_cons_zero,Nat.pow_zero];omega
  | succ k=>
   simp only[bS,List.getElem_cons_succ,List.getElem_map,List.getElem_range];rw[Nat.pow_succ 256 k,Nat.mul_comm (256^k),←Nat.div_div_eq_div_mul,show(l.length-1+AU l*2^8)/256=AU l by omega,ahW];unfold qj;rw[←FW l h (2*k),←FW l h (2*k+1),Nat.pow_succ,←Nat.div_div_eq_div_mul];omega
theorem WT(l:List Nat)(k:Nat)(hk:k<l.length)(h:l[k]<16)(M:Nat):M+AU (l.take k)*2^8+l[k]%2^4*2^(8+4*k)=M+AU (l.take (k+1))*2^8:=by
 have hl:(l.take k).length=k:=by rw[List.length_take];omega
 rw[List.take_succ_eq_append_getElem hk,Dt,hl,Nat.mod_eq_of_lt (by simpa using h),Nat.add_mul,Nat.pow_add,Nat.pow_mul,show(2:Nat)^4=16 by rfl,Nat.mul_comm (2^8),Nat.mul_assoc];omega
end Bm
theorem WQ(A:Option Addr)(c:Nat)(ls:List Nat)(w:World)(hW:bC ls)(hc:ls.length≤c)(hr:Reads w A (aM ls))
  (hwh:Calls prog 140 #[.slice A ls.length c] w fun e w'=>e=.returned (.bool true)∧w=w') :
  Calls prog 107 #[.slice A ls.length c] w fun e w'=>e=.returned (afN (some (bS (aI ls))))∧Below w.heap.size w w':=by
 have Hsh:=hid (QO A c ls w hW.1 hc hr);have Hwh:=hid hwh;obtain⟨h1,h2⟩:=oZ ls hW;obtain⟨m0,hm0⟩:=fE ls;have hrd:Reads w A (aM (aI ls)):=by
  have h:=Mv hr (aI ls).length;have e:∀l1 l2:List Nat,(aM (l1++l2)).take l1.length=aM l1:=fun l1 l2=>by rw[←oK,←aL l1,List.take_left]
  have e2:=e (aI ls) (List.replicate m0 0);rw[←hm0]at e2;rwa [e2]at h
 clear hm0 hr hwh;generalize aI ls=l at *;have hl2:=h1.1;have H11:=hid h1.2.1;have Htb:=hid (GR l (fun x hx=>by have:=h1.2.1 x hx;omega) h2 hl2);have Hlt:=hid (xA l h1.2.1 hl2);have Hlen:Hid ((8+4*l.length+7)/8=(bS l).length):=hid (by rw[dI];omega);generalize bS l=tb at *;have Hrd:=hid hrd;have hcu:IntKind.u32.wrap ((l.length:Int)-1)=((l.length-1:Nat):Int):=by simp[IntKind.wrap,IntKind.bits,IntKind.signed];omega
 have zU:Hid (∀(W:World) (b N n v m:Nat),n≤1000000000→v<4294967296→m≤32→WS W b 0 N n→Calls prog 99 #[.pointer (some ⟨b,0,none⟩),.int .u32 (v:Int),.int .i64 (m:Int)] W fun e w'=>e=.returned (.bool true)∧WS w' b 0 (N+v%2^m*2^n) (n+m)∧W.grownBy w' (some b)):=hid (fun W b N n v m h1 h2 h3 h4=>qm b 0 N n v m W h1 h2 h3 h4);have xX:=hid (WS.new w 153 (by decide));have Hal:=hid ((Below.refl w.heap.size w).alloc (Nat.le_refl _) (.cells #[.pointer none,.int .u64 0,.int .i64 0] 153));clear hrd h1 hW;go_enter func107,ntmps107
 go_wp2_with fail
 refine Hwh.out.mono ?_;rintro e w' ⟨rfl,rfl⟩;clear Hwh;go_wp2_with fail
 refine Hsh.out.mono ?_;rintro e w' ⟨rfl,rfl⟩;clear Hsh;go_wp2_with fail
 refine(zU.out _ w.heap.size 0 0 (l.length-1) 8 (by omega) (by omega) (by omega) xX.out).mono ?_;rintro e w2 ⟨rfl,hws,hg⟩;rw[Nat.zero_add,Nat.zero_add,Nat.pow_zero,Nat.mul_one,Nat.mod_eq_of_lt (show l.length-1<2^8 by omega)]at hws;have Hws:=hid hws;have Hb2:Hid (Below w.heap.size w w2):=hid (Hal.out.grown hg Hal.out.size (fun k e=>by injection e with e;omega));clear hws hg xX Hal hcu;go_wp2;go_loopw [20] (fun iv wr=>∃k:Nat,k≤l.length∧iv=.int .i64 (k:Int)∧Hid (WS wr w.heap.size 0 (l.length-1+AU (l.take k)*2^8) (8+4*k))∧Hid (Below w.heap.size w wr)) (fun iv _=>l.length-(intOf iv).toNat)
 case atStart=>exact⟨0,by omega,rfl,hid (by rw[List.take_zero,AU,Nat.zero_mul];exact Hws.out),Hb2⟩
 case round=>
  obtain⟨k,hk,rfl,hws,hbel⟩:=hrel;clear Hws Hb2;by_cases hkl:k<l.length
  ·obtain⟨g,off,rfl,hc1⟩:=fQ (aC Hrd.out hbel.out) (by omega);have c0:=hc1 k hkl;have hx:=H11.out l[k] (List.getElem_mem hkl);have hst:=WT l k hkl (by omega) (l.length-1);have Hp:=hid (zU.out wr w.heap.size _ (8+4*k) l[k] 4 (by omega) (by omega) (by omega) hws.out);rw[hst]at Hp;clear hc1 hst hws;generalize l[k]=x at *;have hcu:IntKind.u32.wrap (x:Int)=(x:Int):=by simp[IntKind.wrap,IntKind.bits,IntKind.signed];omega
   go_wp2_with fail
   refine Hp.out.mono ?_;rintro e w3 ⟨rfl,Zt,hg3⟩;have adl:=hid Zt;have Hb3:Hid (Below w.heap.size w w3):=hid (hbel.out.grown hg3 hbel.out.size (fun k e=>by injection e with e;omega));clear Zt hg3 hbel Hp;go_wp2;go_roundw
   case rel=>exact⟨k+1,by omega,by go_num,adl,Hb3⟩
   case measure=>simp[intOf];omega
  ·obtain rfl:k=l.length:=by omega
   rw[List.take_length]at hws;have hby:=jV w.heap.size 0 _ _ wr (by omega) hws.out;rw[Htb.out]at hby;have Hby:=hid hby;rw[Hlen.out]at Hby;have Hcv:Hid (∀W A c,Reads W A (u8s tb)→(convert 87 9 (.slice A tb.length c)).run prog W=.ok (.string (strOf tb)) W):=hid (fun W A c hrd=>bP W A c _ Hlt.out hrd);clear hby hws Htb;go_wp2_with fail
   refine Hby.out.mono ?_;rintro e w4 ⟨g4,rfl,hg4,hr4,hb4⟩;have hcv:=Hcv.out w4 _ tb.length (bR hr4);have Hb4:=hid (hbel.out.trans (hb4.mono hbel.out.size));clear hr4 hb4 hbel Hby Hcv;go_wp2;go_ret2;exact⟨rfl,Hb4.out⟩
theorem abI(A:Option Addr)(c:Nat)(l:List Int)(w:World)
  (hwh:Calls prog 140 #[.slice A l.length c] w fun e w'=>e=.returned (.bool false)∧w=w') :
  Calls prog 107 #[.slice A l.length c] w fun e w'=>e=.returned (afN none)∧w=w':=by
 have Hwh:=hid hwh;clear hwh;go_enter func107,ntmps107
 go_wp2_with fail
 refine Hwh.out.mono ?_;rintro e w' ⟨rfl,rfl⟩;clear Hwh;go_wp2;go_ret2;exact⟨rfl,rfl⟩
theorem abH:aes:=by
 intro w A c l hl hc hb hr;have h:=sH A c l w (by omega) hr;by_cases hW:jw l
 ·rw[if_pos hW];rw[decide_eq_true hW]at h;obtain⟨e,h11,hln⟩:=Aw l hW.1;have h1:=WQ A c (l.map Int.toNat) w hW.2 (by omega) (by rw[←bJ,←e];exact hr) (by rw[hln];exact h);rw[hln]at h1;exact h1
 ·rw[if_neg hW];rw[decide_eq_false hW]at h;exact(abI A c l w h).mono fun e w' ⟨h1,h2⟩=>⟨h1,by rw[←h2];exact Below.refl _ _⟩
end Go.Proofs.YtgiicohbigiapaaGreat
