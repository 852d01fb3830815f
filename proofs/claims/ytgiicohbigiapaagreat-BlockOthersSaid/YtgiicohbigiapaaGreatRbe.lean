/- Contracts, and what they rest on. Conditions: the theorems' premises. -/
import Derived.Test.YtgiicohbigiapaaGreatRaq
import Derived.Test.YtgiicohbigiapaaGreatRau
import Derived.Test.YtgiicohbigiapaaGreatRba
set_option maxHeartbeats 4000000
set_option maxRecDepth 100000
open Go.Lib(hid)
open Go.Proofs.Tryz Go.Proofs.YtgiicohbigiapaaGreat.Bm
namespace Go.Proofs.YtgiicohbigiapaaGreat
open Go.RowKit
theorem nY{w w1 w2:World}{row:Option Nat}(h:w.grownBy w1 row)(h2:w1.grownBy w2 row):w.grownBy w2 row:=
 ⟨h2.os.trans h.os,h2.tape.trans h.tape,h2.output.trans h.output,Nat.le_trans h.size h2.size,fun i hi hne=>(h2.block i (Nat.lt_of_lt_of_le hi h.size) hne).trans (h.block i hi hne)⟩
namespace Bm
theorem vF(ls:List Nat):∀(i:Nat) (l:List Nat),xM ls (i+1) l=(xM ls i l).bind fun t=>(Jr ls t.2).map fun k=>(t.1++[k],t.2.drop (ls[k]?.getD 0))
 | 0,l=>by
  rw[xM,xM,Option.bind_some];cases h:Jr ls l with
  | none=>rfl
  | some k=>rw[Option.bind_some,xM,Option.map_some];rfl
 | i+1,l=>by
  rw[xM];conv=>rhs;rw[xM]
  cases h:Jr ls l with
  | none=>rfl
  | some k=>
   rw[Option.bind_some,Option.bind_some,vF ls i];cases h2:xM ls i (l.drop (ls[k]?.getD 0))with
   | none=>rfl
   | some t=>
    rw[Option.bind_some,Option.map_some,Option.bind_some];cases h3:Jr ls t.2 with
    | none=>simp
    | some k2=>simp
theorem Cw(ls l:List Nat)(i:Nat)(h:xM ls i l=none):∀m,xM ls (i+m) l=none
 | 0=>h
 | m+1=>by rw[←Nat.add_assoc,vF,Cw ls l i h m];rfl
theorem drop_cons(l:List Nat)(p:Nat)(h:p<l.length):l.drop p=l[p] :: l.drop (p+1):=List.drop_eq_getElem_cons h
end Bm
def iH(s:List Nat):List Nat:=Bm.bitsOf (aS s) (8*s.length)
theorem Ci(s:List Nat):(iH s).length=8*s.length:=aU _ _
theorem OD(s:List Nat)(p:Nat)(h:p<(iH s).length):(iH s)[p]=aS s/2^p%2:=dw _ _ _ h
def ahh(ls s:List Nat)(br pos:Nat)(e:Ending)(w':World):Option Nat→Prop
 | none=>e=.returned (.tuple #[.int .u8 0,.bool false])
 | some k=>e=.returned (.tuple #[.int .u8 (k:Int),.bool true])∧k<ls.length∧pos+ls[k]?.getD 0≤8*s.length∧RS w' br 0 s (pos+ls[k]?.getD 0)
theorem LW(base g cap br pos:Nat)(ls s:List Nat)(P:List (List Nat))(F:List (Int×Int))(w:World)(hW:bC ls)(hT:Bm.Tr ls ls.length P F)(hft:FT w base g cap F)(hl:s.length≤10000)(hs:∀x∈s,x<256)(hp:pos≤8*s.length)(hrs:RS w br 0 s pos)(hne:g≠br) :
  Calls prog 180 #[.slice (some ⟨g,0,none⟩) F.length cap,.pointer (some ⟨br,0,none⟩)] w fun e w'=>ahh ls s br pos e w' (Jr ls ((iH s).drop pos))∧w.grownBy w' (some br):=by
 have hLl:=Ci s;have Da:=hW.1;obtain⟨res,hres⟩:∃r,r=Jr ls ((iH s).drop pos):=⟨_,rfl⟩;rw[←hres];have dQ:=hid hres;have HW:=hid hW;have HT:=hid hT;have Hft:=hid hft;have Hs:=hid hs;have Hrs:=hid hrs;have HLl:=hid hLl;clear hres hW hT hft hs hrs hLl;go_enter func180,ntmps180
 go_wp2;go_loopw [6] (fun av wr=>∃(m a:Nat),pos+m≤8*s.length∧av=.int .i64 (a:Int)∧Hid (P[a]?=some (((iH s).drop pos).take m))∧Hid (RS wr br 0 s (pos+m))∧Hid (w.grownBy wr (some br))) (fun _ wr=>8*s.length-(intOf ((wr.cell? ⟨br,0+1,none⟩).getD undef)).toNat)
 case atStart=>exact⟨0,0,by omega,rfl,hid (by rw[List.take_zero];exact HT.out.root),Hrs,hid (au _ _)⟩
 case round=>
  obtain⟨m,a,hm,rfl,hat,hrs,hgr⟩:=hrel;clear Hrs;have ajI:wr.cell? ⟨br,0+1,none⟩=some (.int .i64 ((pos+m:Nat):Int)):=hrs.out.2.1;have akS:=hid ajI;clear ajI;by_cases hlt:pos+m<8*s.length
  ·have htk:=jN br 0 s (pos+m) 1 wr (by omega) Hs.out (by omega) (by omega) hrs.out;have hge:=OD s (pos+m) (by rw[HLl.out];exact hlt);have hdp:(iH s).drop (pos+m)=(iH s)[pos+m]'(by rw[HLl.out];exact hlt) :: (iH s).drop (pos+m+1):=Bm.drop_cons _ _ _;rw[hge]at hdp;have hsp:(iH s).drop pos=((iH s).drop pos).take m++(iH s).drop (pos+m):=by
    rw[←List.drop_drop];exact(List.take_append_drop m _).symm
   have hnx:((iH s).drop pos).take (m+1)=((iH s).drop pos).take m++[aS s/2^(pos+m)%2]:=by
    rw[List.take_succ_eq_append_getElem (by rw[List.length_drop,HLl.out];omega),List.getElem_drop,hge]
   have hb2:aS s/2^(pos+m)%2<2:=Nat.mod_lt _ (by decide);rw[Nat.pow_one]at htk;rw[hdp]at hsp;have Htk:=hid htk;have Hsp:=hid hsp;have Hnx:=hid hnx;clear htk hsp hnx hdp hge;generalize aS s/2^(pos+m)%2=bb at *;go_wp2_with fail
   refine Htk.out.mono ?_;rintro e w2 ⟨rfl,ND,hg2⟩;have hal:a<F.length:=by rw[HT.out.len];exact EF hat.out
   have cz:=(Hft.out.keep (nY hgr.out hg2) (fun e=>hne (by injection e with e;exact e.symm))).cell hal hb2;have YW:=hid ND;have Hg2:=hid (nY hgr.out hg2);have hml:(((iH s).drop pos).take m).length=m:=by rw[List.length_take,List.length_drop,HLl.out];omega
   have Hml:=hid hml;clear ND hg2 hrs hgr Htk hml;rcases Int.lt_trichotomy (nk F a bb) 0 with hz | hz | hz
   ·obtain⟨k,hk,hzk,hlk,hmt⟩:=HT.out.Sk HW.out hat.out hb2 hz ((iH s).drop (pos+m+1));rw[←Hsp.out,←dQ.out]at hmt;rw[Hml.out]at hlk;rw[hzk]at cz;have Hmt:=hid hmt;have Hlk:=hid hlk;clear hz hzk hmt hlk;go_wp2;go_ret2;rw[Hmt.out];refine⟨⟨?_,hk,by rw[Hlk.out];omega,by rw[Hlk.out];exact YW.out⟩,Hg2.out⟩;exact congrArg (fun z:Int=>Ending.returned (Value.tuple #[.int .u8 z,.bool true])) (show -1-(-1-(k:Int))=(k:Int) by omega)
   ·rw[hz]at cz;have hmt:=HT.out.Sl HW.out hat.out hb2 hz ((iH s).drop (pos+m+1));rw[←Hsp.out,←dQ.out]at hmt;have Hmt:=hid hmt;clear hz hmt;go_wp2;go_ret2;rw[Hmt.out];exact⟨rfl,Hg2.out⟩
   ·obtain⟨z,hzz⟩:∃z:Nat,nk F a bb=(z:Int):=⟨(nk F a bb).toNat,by omega⟩;have hon:=HT.out.on hat.out hb2 hz;rw[hzz,Int.toNat_natCast,←Hnx.out]at hon;rw[hzz]at cz hz;have hz0:((z:Int) == 0)=false:=by rw[beq_eq_false_iff_ne];omega
    have Hon:=hid hon;clear hon hzz;go_wp2;go_roundw
    case rel=>exact⟨m+1,z,by omega,rfl,Hon,YW,Hg2⟩
    case measure=>rw[akS.out,show w2.cell? ⟨br,0+1,none⟩=some (.int .i64 ((pos+m+1:Nat):Int))from YW.out.2.1];simp[intOf];omega
  ·have htk:=qC br 0 s (pos+m) 1 wr (by omega) (by omega) (by omega) (by omega) hrs.out;have hmt:=HT.out.Xz HW.out (Jq hat.out);rw[List.take_of_length_le (by rw[List.length_drop,HLl.out];omega),←dQ.out]at hmt;have Htk:=hid htk;have Hmt:=hid hmt;clear htk hmt hrs;go_wp2_with fail
   refine Htk.out.mono ?_;rintro e w2 ⟨rfl,k,rfl⟩;go_wp2;go_ret2;rw[Hmt.out];exact⟨rfl,bg hgr.out k⟩
theorem Wv(A:Option Addr)(c:Nat)(ls s:List Nat)(N:Nat)(w:World)(hW:bC ls)(hN:N≤1048576)(hl:s.length≤1000)(hs:∀x∈s,x<256)(hr:Reads w A (aM ls))
  (hcd:Calls prog 142 #[.slice A ls.length c] w fun e w'=>∃g,e=.returned (.tuple #[.slice (some ⟨g,0,none⟩) ls.length ls.length,.bool true])∧Reads w' (some ⟨g,0,none⟩) (aM (iU ls))∧w.heap.size≤g∧Below w.heap.size w w') :
  Calls prog 145 #[.slice A ls.length c,.string (strOf s),.int .i64 (N:Int)] w fun e w'=>adB w' e (KX ls s N)∧Below w.heap.size w w':=by
 obtain⟨i0,hi,hz0,hz1,hz2⟩:=info_parts jc;obtain⟨res,hres⟩:∃r,r=KX ls s N:=⟨_,rfl⟩;rw[←hres];have dQ:Hid (res=(xM ls N (iH s)).bind aeC):=hid hres;have HW:=hid hW;have Hcd:=hid hcd;have Hr:=hid hr;have Hs:=hid hs;clear hres hW hr hcd hs;go_enter func145,ntmps145
 go_wp2_with fail
 refine Hcd.out.mono ?_;rintro e w1 ⟨gc,rfl,hrc,hgc,hb1⟩;have Htr:=hid (FL A (some ⟨gc,0,none⟩) c ls.length ls w1 HW.out (aC Hr.out hb1) hrc);have Hb1:=hid hb1;clear hrc hb1 Hcd Hr;go_wp2_with fail
 refine Htr.out.mono ?_;rintro e w2 ⟨g,cap,P,F,rfl,hft,hT,hb2⟩;obtain⟨w3,aiZ,bO,hcells,hb3⟩:=bU w2 s Hs.out;have Qm:Reads w3 (some ⟨w2.heap.size,0,none⟩) (u8s s):=fun _=>⟨_,_,rfl,fun j hj=>by
  rw[aO]at hj;rw[Nat.zero_add,hcells j hj,bD s j hj]⟩
 have hgl:g<w2.heap.size:=hft.lt;have ahv:=Hb1.out.trans (hb2.mono Hb1.out.size);have aji:=ahv.trans (hb3.mono ahv.size);have aix:=hid (hft.below hb3);have Hnr:=hid (qb (some ⟨w2.heap.size,0,none⟩) aiZ s w3 Hs.out Qm);have Hb3:=hid aji;have HT:=hid hT;have amD:g<w3.heap.size:=Nat.lt_of_lt_of_le hgl hb3.size;clear hft hT hb2 hcells hb3 Qm ahv aji Htr Hb1 hgl;go_wp2_with fail
 refine Hnr.out.mono ?_;rintro e w4 ⟨rfl,hrs,hb4⟩;have aiL:=hid hrs;have aiy:=hid (aix.out.below hb4);have Hb4:=hid (Hb3.out.trans (hb4.mono Hb3.out.size));have hl4:w3.heap.size<w4.heap.size:=hrs.2.2.2;clear hrs hb4 Hnr aix bO;go_wp2_with (at_make;refine wpList_make_full _ rfl _ _ 87 rfl w.heap.size 5 i0 (.int .u8 0) 1 underlying87 hi hz0 hz1 .i64 .i64 _ _ N rfl rfl ?c1 ?c1 ?c2 ?c3 ?c4 ?_)
 case c1=>omega
 case c2=>first | omega | (rw[hz2];omega)
 case c3=>unfold maxLen;omega
 try case c4=>exact Hb4.out.size
 intro w5 hown5 hg5;have hb5:=aJ hg5;have Hr5:=hid (nI hown5);have aiM:=hid (aiL.out.keep hg5 (by simp));have aiz:=hid (aiy.out.below hb5);have Hb5:=hid (Hb4.out.trans (hb5.mono Hb4.out.size));have hlow:w.heap.size≤w3.heap.size:=Hb3.out.size;clear hown5 hg5 hb5 hi hz0 hz1 hz2 aiL aiy Hb4 Hb3;generalize w4.heap.size=gb at *;generalize w3.heap.size=br at *;go_wp2;go_loopw [39] (fun iv wr=>∃(i pos:Nat) (d:List Nat),i≤N∧iv=.int .i64 (i:Int)∧d.length=i∧pos≤8*s.length∧Hid (xM ls i (iH s)=some (d,(iH s).drop pos))∧Hid (RS wr br 0 s pos)∧Hid (Row wr gb 5 (u8s (d++List.replicate (N-i) 0)))∧Hid (FT wr w1.heap.size g cap F)∧Hid (Below w.heap.size w wr)) (fun iv _=>N-(intOf iv).toNat)
 case atStart=>exact⟨0,0,[],by omega,rfl,rfl,by omega,hid (by rw[List.drop_zero];rfl),aiM,hid (by rw[List.nil_append,Nat.sub_zero];exact Hr5.out),aiz,Hb5⟩
 case round=>
  obtain⟨i,pos,d,hiN,rfl,hdl,hpos,hdec,hrs,hrow,hft,hbel⟩:=hrel;clear aiM Hr5 aiz Hb5;by_cases hin:i<N
  ·have hsy:=LW w1.heap.size g cap br pos ls s P F wr HW.out HT.out hft.out (by omega) Hs.out hpos hrs.out (by omega);have hsn:=vF ls i (iH s);rw[hdec.out,Option.bind_some]at hsn;dsimp only at hsn;have hno:xM ls (i+1) (iH s)=none→res=none:=fun h=>by
    have:=Cw ls (iH s) (i+1) h (N-(i+1));rw[show i+1+(N-(i+1))=N by omega]at this;rw[dQ.out,this];rfl
   have hset:∀W (k:Nat),Row W gb 5 (u8s (d++List.replicate (N-i) 0))→Row (W.setCell ⟨gb,i,none⟩ (.int .u8 (k:Int))) gb 5 (u8s ((d++[k])++List.replicate (N-(i+1)) 0)):=fun W k h=>by
    have h1:=h.aW i (.int .u8 (k:Int));obtain⟨m,hm⟩:∃m,N-i=m+1:=⟨N-i-1,by omega⟩;rw[xG,hm,List.replicate_succ,List.set_append_right _ _ (by omega),hdl,Nat.sub_self,List.set_cons_zero]at h1;rw[show N-(i+1)=m by omega,List.append_assoc];exact h1
   have hcl:∀W,Row W gb 5 (u8s (d++List.replicate (N-i) 0))→∃v,W.cell? ⟨gb,i,none⟩=some v:=fun W h=>⟨_,(h.cell i).trans (List.getElem?_eq_getElem (by rw[aO,List.length_append,List.length_replicate];omega))⟩
   have Hsy:=hid hsy;have Hsn:=hid hsn;have Hno:=hid hno;have BK:=hid hset;have Hcl:=hid hcl;clear hsy hsn hno hset hcl hdec hrs;cases hms:Jr ls ((iH s).drop pos)with
   | none=>
    rw[hms]at Hsy Hsn;have Hx:=hid (Hno.out Hsn.out);clear hms Hno Hsn BK;go_wp2_with fail
    refine Hsy.out.mono ?_;rintro e w6 ⟨he,hg6⟩;have he2:e=.returned (.tuple #[.int .u8 0,.bool false]):=he;subst he2;have vM:Row w6 gb 5 (u8s (d++List.replicate (N-i) 0)):=hrow.out.keep (hg6.block gb hrow.out.lt (fun e=>by injection e with e;omega));obtain⟨v0,hcd⟩:=Hcl.out w6 vM;have hfd:w6.frozen? ⟨gb,i,none⟩=false:=vM.free i;have hb6:Below w.heap.size w w6:=hbel.out.grown hg6 hbel.out.size (fun k e=>by injection e with e;omega);have Hb7:=hid (hb6.setCell (p:=⟨gb,i,none⟩) (by show w.heap.size≤gb;omega) (.int .u8 0));clear he hg6 hb6 vM hrow hft hbel Hsy Hcl;go_wp2;go_ret2;rw[Hx.out];exact⟨⟨_,_,rfl⟩,Hb7.out⟩
   | some k=>
    rw[hms]at Hsy Hsn;rw[Option.map_some,List.drop_drop]at Hsn;clear hms Hno;go_wp2_with fail
    refine Hsy.out.mono ?_;rintro e w6 ⟨⟨he,hk,hpk,ajW⟩,hg6⟩;subst he;have vM:Row w6 gb 5 (u8s (d++List.replicate (N-i) 0)):=hrow.out.keep (hg6.block gb hrow.out.lt (fun e=>by injection e with e;omega));obtain⟨v0,hcd⟩:=Hcl.out w6 vM;have hfd:w6.frozen? ⟨gb,i,none⟩=false:=vM.free i;have hb6:Below w.heap.size w w6:=hbel.out.grown hg6 hbel.out.size (fun k e=>by injection e with e;omega);have Hb7:=hid (hb6.setCell (p:=⟨gb,i,none⟩) (by show w.heap.size≤gb;omega) (.int .u8 (k:Int)));have agT:=hid (BK.out w6 k vM);have ajA:FT w6 w1.heap.size g cap F:=hft.out.keep hg6 (fun e=>by injection e with e;omega);have adq:FT (w6.setCell ⟨gb,i,none⟩ (.int .u8 (k:Int))) w1.heap.size g cap F:=ajA.keep (row:=some gb) (aH (au w6 (some gb)) i _) (fun e=>by injection e with e;omega);have ajX:RS (w6.setCell ⟨gb,i,none⟩ (.int .u8 (k:Int))) br 0 s (pos+ls[k]?.getD 0):=ajW.keep (row:=some gb) (aH (au w6 (some gb)) i _) (fun e=>by injection e with e;omega);have agJ:=hid adq;have agU:=hid ajX;clear hg6 hb6 vM hrow hft hbel Hsy Hcl BK ajA adq ajW ajX;go_wp2;go_roundw
    case rel=>exact⟨i+1,pos+ls[k]?.getD 0,d++[k],by omega,by go_num,by simp[hdl],hpk,Hsn,agU,agT,agJ,Hb7⟩
    case measure=>simp[intOf];omega
  ·obtain rfl:i=N:=by omega
   rw[Nat.sub_self,List.replicate_zero,List.append_nil]at hrow;have hend:=ze br s pos wr (by omega) Hs.out hpos hrs.out;have hrr:res=aeC (d,(iH s).drop pos):=by rw[dQ.out,hdec.out];rfl
   have gV:=hid hend;have fu:=hid hrow.out;by_cases hE:Fb s pos
   ·have hx:res=some d:=by rw[hrr];exact if_pos hE
    rw[decide_eq_true hE]at gV;have Hx:=hid hx;have Hdl:=hid hdl;clear hend hrr hx hrs hdec hrow hft;go_wp2_with fail
    refine gV.out.mono ?_;rintro e w6 ⟨rfl,hg6⟩;have vM:Row w6 gb 5 (u8s d):=fu.out.keep (hg6.block gb fu.out.lt (fun e=>by injection e with e;omega));have Hb6:=hid (hbel.out.grown hg6 hbel.out.size (fun k e=>by injection e with e;omega));have Hrd:=hid (bR vM);clear hg6 vM;go_wp2;go_ret2;rw[Hx.out];exact⟨⟨some ⟨gb,0,none⟩,i,by rw[Hdl.out];rfl,by rw[Hdl.out];omega,Hrd.out⟩,Hb6.out⟩
   ·have hx:res=none:=by rw[hrr];exact if_neg hE
    rw[decide_eq_false hE]at gV;have Hx:=hid hx;clear hend hrr hx hrs hdec hrow hft;go_wp2_with fail
    refine gV.out.mono ?_;rintro e w6 ⟨rfl,hg6⟩;have Hb6:=hid (hbel.out.grown hg6 hbel.out.size (fun k e=>by injection e with e;omega));clear hg6;go_wp2;go_ret2;rw[Hx.out];exact⟨⟨_,_,rfl⟩,Hb6.out⟩
end Go.Proofs.YtgiicohbigiapaaGreat
