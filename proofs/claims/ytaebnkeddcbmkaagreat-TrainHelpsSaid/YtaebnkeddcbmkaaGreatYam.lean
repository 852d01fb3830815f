/- Contracts, and what they rest on. Conditions: the theorems' premises. -/
import Derived.Test.YtaebnkeddcbmkaaGreatYal
set_option maxHeartbeats 4000000
set_option maxRecDepth 100000
open Go.Lib(hid)
open Go.Proofs.Tryz Go.Proofs.YtaebnkeddcbmkaaGreat.Bm
namespace Go.Proofs.YtaebnkeddcbmkaaGreat
open Go.RowKit
theorem Rs(W b:Nat)(hW:W<4294967296)(hb:b<32):bits .and .i64 (W:Int) (((2^b:Nat):Int)-1)=((W%2^b:Nat):Int):=by
 have hp:2^b<2^32:=Nat.pow_lt_pow_right (by omega) hb;have hpos:=Nat.two_pow_pos b;have h1:∀a:Nat,a<4294967296->(BitVec.ofInt 64 (a:Int)).toNat=a:=fun a ha=>by
  rw[BitVec.ofInt_natCast,BitVec.toNat_ofNat];exact Nat.mod_eq_of_lt (by omega)
 rw[show((2^b:Nat):Int)-1=((2^b-1:Nat):Int) by omega];show IntKind.i64.wrap ((BitVec.ofInt 64 (W:Int) &&& BitVec.ofInt 64 ((2^b-1:Nat):Int)).toNat:Int)=_;rw[BitVec.toNat_and,h1 W hW,h1 _ (by omega),Nat.and_two_pow_sub_one_eq_mod,IntKind.wrap_i64];have h2:=Nat.mod_lt W hpos;omega
theorem and_one(x:Nat)(hx:x<4294967296):bits .and .i64 (x:Int) 1=((x%2:Nat):Int):=by
 have h:=Rs x 1 hx (by omega);exact h
theorem IU(A B:Option Addr)(c d:Nat)(ls:List Nat)(w:World)(hW:bC ls)(hr:Reads w A (aM ls))(hs:Reads w B (aM (iZ ls))) :
  Calls prog 161 #[.slice A ls.length c,.slice B ls.length d] w fun e w'=>∃g cap P F,e=.returned (.slice (some ⟨g,0,none⟩) (F:List (Int×Int)).length cap)/\FT w' w.heap.size g cap F/\Bm.Tr ls ls.length P F/\Below w.heap.size w w':=by
 obtain⟨i0,hi,hz0,hz1,hz2⟩:=info_parts TW;have Hr:=hid hr;have Hs:=hid hs;have HW:=hid hW;have BX:=hW.1;clear hr hs hW;go_enter func161,ntmps161
 go_wp2_with (at_make;refine wpList_make_full _ rfl _ _ 227 rfl w.heap.size 263 i0 (.agg #[.int .i64 0,.int .i64 0]) 2 underlying227 hi hz0 hz1 .i64 .i64 _ _ 1 rfl rfl ?c1 ?c1 ?c2 ?c3 ?c4 ?_)
 case c1=>omega
 case c2=>first | omega | (rw[hz2];omega)
 case c3=>unfold maxLen;omega
 try case c4=>omega
 intro w1 hown1 hg1;have hb1:=aJ hg1;have anM:FT w1 w.heap.size w.heap.size 1 [(0,0)]:=Er (n:=1) rfl (by rw[<-Zh];exact hown1);have amF:=hid anM;have Hb1:=hid hb1;have ana:=hid (Bm.Tr.start ls);clear hown1 hg1 hb1 anM;go_wp2;go_loopw [5,15] (fun fv iv wr=>∃(q g cap:Nat) (P:List (List Nat)) (F:List (Int×Int)),q<=ls.length/\iv=.int .i64 (q:Int)/\fv=.slice (some ⟨g,0,none⟩) F.length cap/\F.length<=1+11*q/\Hid (FT wr w.heap.size g cap F)/\Hid (Bm.Tr ls q P F)/\Hid (Below w.heap.size w wr)) (fun _ iv _=>ls.length-(intOf iv).toNat)
 case atStart=>exact⟨0,w.heap.size,1,[[]],[(0,0)],by omega,rfl,rfl,by simp,amF,ana,Hb1⟩
 case round=>
  obtain⟨q,g,cap,P,F,hq,rfl,rfl,hFl,hft,htr,hbel⟩:=hrel;clear amF ana Hb1;by_cases hql:q<ls.length
  ·obtain⟨gl,ol,rfl,hc⟩:=fZ (aC Hr.out hbel.out) (by omega);have c0:=hc q hql;have hge:ls[q]?.getD 0=ls[q]:=by rw[List.getElem?_eq_getElem hql,Option.getD_some]
   have h11:=HW.out.2.1 ls[q] (List.getElem_mem hql);have Hsk:=hid (fun h=>htr.out.skip h);have Hcl:=hid (aQ ls q);have Hc9:=hid (fun h=>vH ls q hql HW.out h);have Hcg:=hid (fun j h=>wJ ls q j h);rw[hge]at Hsk Hcl Hc9 Hcg;clear hc hge;by_cases hx:ls[q]=0
   ·rw[hx]at c0;have ala:=hid (Hsk.out hx);clear Hsk Hcl Hc9 Hcg htr;go_wp2;go_roundw
    case rel=>exact⟨q+1,g,cap,P,F,by omega,by go_num,rfl,by omega,hft,ala,hbel⟩
    case measure=>simp[intOf];omega
   ·have hx0:0<ls[q]:=by omega
    obtain⟨gc,oc,rfl,hcc⟩:=fZ (aC Hs.out hbel.out) (by rw[jL];omega);have c1:=hcc q (by rw[jL];exact hql);rw[Ec ls q hql]at c1;have hc9:=Hc9.out hx0;clear hcc Hsk Hc9;generalize eX ls q=cn at *;obtain⟨n,hn⟩:∃n,ls[q]=n+1:=⟨ls[q]-1,by omega⟩;rw[hn]at c0 hc9 h11 Hcl Hcg;have hd0:((n:Int)+1 == 0)=false:=by rw[beq_eq_false_iff_ne];omega
    clear hx hx0 hn;have anD:cn<2048:=Nat.lt_of_lt_of_le hc9 (Nat.pow_le_pow_right (n:=2) (j:=11) (by omega) h11);go_wp2;go_loopw [5,9,10] (fun fv av iv wr=>∃(j a g cap:Nat) (P:List (List Nat)) (F:List (Int×Int)),j<=n/\iv=.int .i64 ((n-j:Nat):Int)/\av=.int .i64 (a:Int)/\fv=.slice (some ⟨g,0,none⟩) F.length cap/\F.length<=1+11*q+j/\Hid (FT wr w.heap.size g cap F)/\Hid (Bm.Tr ls q P F)/\Hid (Below w.heap.size w wr)/\Hid (P[a]?=some ((aY ls q).take j))/\Hid (∀i,i<=j->(aY ls q).take i∈P)) (fun _ _ iv _=>(intOf iv).toNat)
    case atStart=>
     refine⟨0,0,g,cap,P,F,by omega,rfl,rfl,rfl,by omega,hft,htr,hbel,hid (by rw[List.take_zero];exact htr.out.root),hid (fun i hi=>?_)⟩;obtain rfl:i=0:=by omega
     rw[List.take_zero];exact List.mem_of_getElem? htr.out.root
    case round=>
     clear hft htr hbel c0 c1;obtain⟨j,a,g,cap,P,F,hj,rfl,rfl,rfl,hFl,hft,htr,hbel,hat,hall⟩:=hrel;rename World=>wx
     have hal:a<F.length:=by rw[htr.out.len];exact Gu hat.out
     by_cases hjn:j<n
     ·have hjc:j<(aY ls q).length:=by rw[Hcl.out];omega
      have hbt:=Hcg.out j hjc;rw[Nat.add_sub_cancel]at hbt;have hb2:=kW ls q _ (List.getElem_mem hjc);have hpos:=htr.out.pos HW.out hql hjc hat.out;have hnx:=rJ (aY ls q) j hjc;have hj2:j+1<(aY ls q).length:=by rw[Hcl.out];omega
      have Hgr:=hid (fun(h:nP F a (aY ls q)[j]=0)=>htr.out.grow hj2 hat.out h);have ajW:=hid (fun(h:0<nP F a (aY ls q)[j])=>htr.out.on hat.out hb2 h);have hbit:bits .and .i64 ((cn:Int)/2^(n-j)) 1=(((aY ls q)[j]:Nat):Int):=by
       have h:=and_one (cn/2^(n-j)) (Nat.lt_of_le_of_lt (Nat.div_le_self _ _) (by omega));rw[hbt,<-h];simp
      rw[<-hnx]at ajW;clear hbt hnx;generalize (aY ls q)[j]=bb at *;have cz:=hft.out.cell hal hb2;have fz:=hft.out.free (a*2+bb);have Hc7:=hid (fun(z:Int)=>BP F a bb z hal);have Dn:=hid (fun z=>hft.out.set z hal hb2);have hlen:=htr.out.len;by_cases hz:nP F a bb=0
      ·rw[hz]at cz;have ala:=hid (Hgr.out hz);have anN:=(Dn.out (P.length:Int)).below ((Below.refl _ _).alloc (Nat.le_refl _) (.cells #[.int .i64 0,.int .i64 0] 263));have hown2:=anN.own;rw[bZ]at hown2;have sF:=hid hown2;have Hb2:=hid ((hbel.out.setCell (p:=⟨g,a*2+bb,none⟩) hft.out.low (.int .i64 (P.length:Int))).alloc (by simpa using hbel.out.size) (.cells #[.int .i64 0,.int .i64 0] 263));have hFb:F.length<=1+11*256+11:=by omega
       rw[<-hlen]at sF Hb2;have Hlen:=hid hlen;have hrn:=Row.new (wx.setCell ⟨g,a*2+bb,none⟩ (.int .i64 (F.length:Int))) 263 [.int .i64 0,.int .i64 0];rw[show(wx.setCell ⟨g,a*2+bb,none⟩ (.int .i64 (F.length:Int))).heap.size=wx.heap.size by simp]at hrn;have dx:=hid (Aq (bP hrn));clear hrn hlen anN hown2 Dn Hgr ajW hpos hft htr hbel;go_wp2_with (at_builtin;refine wpList_append_lies _ rfl _ _ 227 rfl w.heap.size 263 i0 (.agg #[.int .i64 0,.int .i64 0]) 2 16 underlying227 hi hz0 hz1 hz2 rfl (by decide) _ _ _ rfl sF.out ⟨wx.heap.size,0,none⟩ 1 1 [.int .i64 0,.int .i64 0] rfl rfl ?d1 ?d2 (by decide) ?d3 ?d4 ?d5 _ rfl ?_)
       case d1=>exact dx.out
       case d2=>intro u hu;simp at hu;subst hu;rfl
       case d3=>unfold maxLen;omega
       case d4=>omega
       case d5=>have:=Hb2.out.size;simpa using this
       intro g7 akl w7 bM fO ahg akp;rw[Zg]at bM;have hl7:(Mx F a bb (F.length:Int)++[(0,0)]).length=F.length+1:=by rw[List.length_append,bZ];rfl
       have ahh:=Er hl7.symm bM;have c7:=ahh.cell (a:=a) (b:=bb) (by omega) hb2;rw[SK _ _ _ _ (by rw[bZ];exact hal),Hc7.out]at c7;have akJ:=hid ahh;have Hb7:Hid (Below w.heap.size w w7):=hid (Hb2.out.grown fO Hb2.out.size (fun k e=>by have:=(sF.out.lt k e).1;exact this));have Hl7:=hid hl7;clear hl7 bM fO ahg ahh Hb2 sF hi hz0 hz1 hz2 cz fz;go_wp2;go_roundw
       case rel=>
        refine⟨j+1,F.length,g7,akl,P++[(aY ls q).take (j+1)],_,by omega,by go_num,rfl,by rw[Hl7.out],by rw[Hl7.out];omega,akJ,?_,Hb7,hid ?_,hid (fun i hi=>?_)⟩
        ·rw[Hlen.out];exact ala
        ·rw[Hlen.out,List.getElem?_append_right (Nat.le_refl _),Nat.sub_self];rfl
        ·by_cases e:i=j+1
         ·subst e;simp
         ·exact List.mem_append_left _ (hall.out i (by omega))
       case measure=>simp[intOf];omega
      ·have hzp:0<nP F a bb:=by omega
       have hd1:(nP F a bb == 0)=false:=by rw[beq_eq_false_iff_ne];exact hz
       have akn:=ajW.out hzp;obtain⟨z,hzz⟩:∃z:Nat,nP F a bb=(z:Int):=⟨(nP F a bb).toNat,by omega⟩;rw[hzz]at cz hd1 akn;rw[Int.toNat_natCast]at akn;have amt:=hid akn;clear Dn Hgr ajW hpos hlen hzz hz hzp Hc7 fz akn;go_wp2;go_roundw
       case rel=>
        refine⟨j+1,z,g,cap,P,F,by omega,by go_num,rfl,rfl,by omega,hft,htr,hbel,amt,hid (fun i hi=>?_)⟩;by_cases e:i=j+1
        ·subst e;exact LG amt.out
        ·exact hall.out i (by omega)
       case measure=>simp[intOf];omega
     ·obtain rfl:j=n:=by omega
      rw[Nat.sub_self];have hjc:j<(aY ls q).length:=by rw[Hcl.out];omega
      have hbt:=Hcg.out j hjc;rw[Nat.add_sub_cancel,Nat.sub_self,Nat.pow_zero,Nat.div_one]at hbt;have hb2:=kW ls q _ (List.getElem_mem hjc);have Hlf:=hid (htr.out.leaf Hcl.out.symm hat.out hall.out);have hbit:bits .and .i64 (cn:Int) 1=(((aY ls q)[j]:Nat):Int):=by
       rw[hbt];exact and_one cn (by omega)
      clear hbt;generalize (aY ls q)[j]=bb at *;have cz:=hft.out.cell hal hb2;have fz:=hft.out.free (a*2+bb);have Dn:=hid (hft.out.set (-1-(q:Int)) hal hb2);have Hb3:=hid (hbel.out.setCell (p:=⟨g,a*2+bb,none⟩) hft.out.low (.int .i64 (-1-(q:Int))));have hsl:=bZ F a bb (-1-(q:Int));have Hsl:=hid hsl;clear hft htr hbel hat hall hsl;go_wp2;go_roundw
      case rel=>exact⟨q+1,g,cap,P,_,by omega,by go_num,by rw[Hsl.out],by rw[Hsl.out];omega,Dn,Hlf,Hb3⟩
      case measure=>simp[intOf];omega
  ·obtain rfl:q=ls.length:=by omega
   go_wp2;go_ret;exact⟨g,cap,P,F,rfl,hft.out,htr.out,hbel.out⟩
theorem oM{w w1 w2:World}{row:Option Nat}(h:w.grownBy w1 row)(h2:w1.grownBy w2 row):w.grownBy w2 row:=
 ⟨h2.os.trans h.os,h2.tape.trans h.tape,h2.output.trans h.output,Nat.le_trans h.size h2.size,fun i hi hne=>(h2.block i (Nat.lt_of_lt_of_le hi h.size) hne).trans (h.block i hi hne)⟩
namespace Bm
theorem wR(ls:List Nat):∀(i:Nat) (l:List Nat),yT ls (i+1) l=(yT ls i l).bind fun t=>(LH ls t.2).map fun k=>(t.1++[k],t.2.drop (ls[k]?.getD 0))
 | 0,l=>by
  rw[yT,yT,Option.bind_some];cases h:LH ls l with
  | none=>rfl
  | some k=>rw[Option.bind_some,yT,Option.map_some];rfl
 | i+1,l=>by
  rw[yT];conv=>rhs;rw[yT]
  cases h:LH ls l with
  | none=>rfl
  | some k=>
   rw[Option.bind_some,Option.bind_some,wR ls i];cases h2:yT ls i (l.drop (ls[k]?.getD 0))with
   | none=>rfl
   | some t=>
    rw[Option.bind_some,Option.map_some,Option.bind_some];cases h3:LH ls t.2 with
    | none=>simp
    | some k2=>simp
theorem Ee(ls l:List Nat)(i:Nat)(h:yT ls i l=none):∀m,yT ls (i+m) l=none
 | 0=>h
 | m+1=>by rw[<-Nat.add_assoc,wR,Ee ls l i h m];rfl
theorem drop_cons(l:List Nat)(p:Nat)(h:p<l.length):l.drop p=l[p] :: l.drop (p+1):=List.drop_eq_getElem_cons h
end Bm
def iL(s:List Nat):List Nat:=Bm.bitsOf (aW s) (8*s.length)
theorem DR(s:List Nat):(iL s).length=8*s.length:=aU _ _
theorem RH(s:List Nat)(p:Nat)(h:p<(iL s).length):(iL s)[p]=aW s/2^p%2:=dw _ _ _ h
def alj(ls s:List Nat)(br pos:Nat)(e:Ending)(w':World):Option Nat->Prop
 | none=>e=.returned (.tuple #[.int .u8 0,.bool false])
 | some k=>e=.returned (.tuple #[.int .u8 (k:Int),.bool true])/\k<ls.length/\pos+ls[k]?.getD 0<=8*s.length/\RS w' br 0 s (pos+ls[k]?.getD 0)
theorem OG(base g cap br pos:Nat)(ls s:List Nat)(P:List (List Nat))(F:List (Int×Int))(w:World)(hW:bC ls)(hT:Bm.Tr ls ls.length P F)(hft:FT w base g cap F)(hl:s.length<=10000)(hs:∀x∈s,x<256)(hp:pos<=8*s.length)(hrs:RS w br 0 s pos)(hne:g≠br) :
  Calls prog 162 #[.slice (some ⟨g,0,none⟩) F.length cap,.pointer (some ⟨br,0,none⟩)] w fun e w'=>alj ls s br pos e w' (LH ls ((iL s).drop pos))/\w.grownBy w' (some br):=by
 have hLl:=DR s;have BX:=hW.1;obtain⟨res,hres⟩:∃r,r=LH ls ((iL s).drop pos):=⟨_,rfl⟩;rw[<-hres];have dV:=hid hres;have HW:=hid hW;have HT:=hid hT;have Hft:=hid hft;have Hs:=hid hs;have Hrs:=hid hrs;have HLl:=hid hLl;clear hres hW hT hft hs hrs hLl;go_enter func162,ntmps162
 go_wp2;go_loopw [6] (fun av wr=>∃(m a:Nat),pos+m<=8*s.length/\av=.int .i64 (a:Int)/\Hid (P[a]?=some (((iL s).drop pos).take m))/\Hid (RS wr br 0 s (pos+m))/\Hid (w.grownBy wr (some br))) (fun _ wr=>8*s.length-(intOf ((wr.cell? ⟨br,0+1,none⟩).getD undef)).toNat)
 case atStart=>exact⟨0,0,by omega,rfl,hid (by rw[List.take_zero];exact HT.out.root),Hrs,hid (aj _ _)⟩
 case round=>
  obtain⟨m,a,hm,rfl,hat,hrs,hgr⟩:=hrel;clear Hrs;have anZ:wr.cell? ⟨br,0+1,none⟩=some (.int .i64 ((pos+m:Nat):Int)):=hrs.out.2.1;have apn:=hid anZ;clear anZ;by_cases hlt:pos+m<8*s.length
  ·have htk:=jV br 0 s (pos+m) 1 wr (by omega) Hs.out (by omega) (by omega) hrs.out;have hge:=RH s (pos+m) (by rw[HLl.out];exact hlt);have hdp:(iL s).drop (pos+m)=(iL s)[pos+m]'(by rw[HLl.out];exact hlt) :: (iL s).drop (pos+m+1):=Bm.drop_cons _ _ _;rw[hge]at hdp;have hsp:(iL s).drop pos=((iL s).drop pos).take m++(iL s).drop (pos+m):=by
    rw[<-List.drop_drop];exact(List.take_append_drop m _).symm
   have hnx:((iL s).drop pos).take (m+1)=((iL s).drop pos).take m++[aW s/2^(pos+m)%2]:=by
    rw[List.take_succ_eq_append_getElem (by rw[List.length_drop,HLl.out];omega),List.getElem_drop,hge]
   have hb2:aW s/2^(pos+m)%2<2:=Nat.mod_lt _ (by decide);rw[Nat.pow_one]at htk;rw[hdp]at hsp;have Htk:=hid htk;have Hsp:=hid hsp;have Hnx:=hid hnx;clear htk hsp hnx hdp hge;generalize aW s/2^(pos+m)%2=bb at *;go_wp2_with fail
   refine Htk.out.mono ?_;rintro e w2 ⟨rfl,QC,hg2⟩;have hal:a<F.length:=by rw[HT.out.len];exact Gu hat.out
   have cz:=(Hft.out.keep (oM hgr.out hg2) (fun e=>hne (by injection e with e;exact e.symm))).cell hal hb2;have acG:=hid QC;have Hg2:=hid (oM hgr.out hg2);have hml:(((iL s).drop pos).take m).length=m:=by rw[List.length_take,List.length_drop,HLl.out];omega
   have Hml:=hid hml;clear QC hg2 hrs hgr Htk hml;rcases Int.lt_trichotomy (nP F a bb) 0 with hz | hz | hz
   ·obtain⟨k,hk,hzk,hlk,hmt⟩:=HT.out.VG HW.out hat.out hb2 hz ((iL s).drop (pos+m+1));rw[<-Hsp.out,<-dV.out]at hmt;rw[Hml.out]at hlk;rw[hzk]at cz;have Hmt:=hid hmt;have Hlk:=hid hlk;clear hz hzk hmt hlk;go_wp2;go_ret2;rw[Hmt.out];refine⟨⟨?_,hk,by rw[Hlk.out];omega,by rw[Hlk.out];exact acG.out⟩,Hg2.out⟩;exact congrArg (fun z:Int=>Ending.returned (Value.tuple #[.int .u8 z,.bool true])) (show -1-(-1-(k:Int))=(k:Int) by omega)
   ·rw[hz]at cz;have hmt:=HT.out.VH HW.out hat.out hb2 hz ((iL s).drop (pos+m+1));rw[<-Hsp.out,<-dV.out]at hmt;have Hmt:=hid hmt;clear hz hmt;go_wp2;go_ret2;rw[Hmt.out];exact⟨rfl,Hg2.out⟩
   ·obtain⟨z,hzz⟩:∃z:Nat,nP F a bb=(z:Int):=⟨(nP F a bb).toNat,by omega⟩;have hon:=HT.out.on hat.out hb2 hz;rw[hzz,Int.toNat_natCast,<-Hnx.out]at hon;rw[hzz]at cz hz;have hz0:((z:Int) == 0)=false:=by rw[beq_eq_false_iff_ne];omega
    have Hon:=hid hon;clear hon hzz;go_wp2;go_roundw
    case rel=>exact⟨m+1,z,by omega,rfl,Hon,acG,Hg2⟩
    case measure=>rw[apn.out,show w2.cell? ⟨br,0+1,none⟩=some (.int .i64 ((pos+m+1:Nat):Int))from acG.out.2.1];simp[intOf];omega
  ·have htk:=rH br 0 s (pos+m) 1 wr (by omega) (by omega) (by omega) (by omega) hrs.out;have hmt:=HT.out.aaX HW.out (LG hat.out);rw[List.take_of_length_le (by rw[List.length_drop,HLl.out];omega),<-dV.out]at hmt;have Htk:=hid htk;have Hmt:=hid hmt;clear htk hmt hrs;go_wp2_with fail
   refine Htk.out.mono ?_;rintro e w2 ⟨rfl,k,rfl⟩;go_wp2;go_ret2;rw[Hmt.out];exact⟨rfl,bL hgr.out k⟩
theorem ZO(A:Option Addr)(c:Nat)(ls s:List Nat)(N:Nat)(w:World)(hW:bC ls)(hN:N<=1048576)(hl:s.length<=1000)(hs:∀x∈s,x<256)(hr:Reads w A (aM ls))
  (hcd:Calls prog 127 #[.slice A ls.length c] w fun e w'=>∃g,e=.returned (.tuple #[.slice (some ⟨g,0,none⟩) ls.length ls.length,.bool true])/\Reads w' (some ⟨g,0,none⟩) (aM (iZ ls))/\w.heap.size<=g/\Below w.heap.size w w') :
  Calls prog 130 #[.slice A ls.length c,.string (strOf s),.int .i64 (N:Int)] w fun e w'=>ahu w' e (NI ls s N)/\Below w.heap.size w w':=by
 obtain⟨i0,hi,hz0,hz1,hz2⟩:=info_parts jh;obtain⟨res,hres⟩:∃r,r=NI ls s N:=⟨_,rfl⟩;rw[<-hres];have dV:Hid (res=(yT ls N (iL s)).bind aiw):=hid hres;have HW:=hid hW;have Hcd:=hid hcd;have Hr:=hid hr;have Hs:=hid hs;clear hres hW hr hcd hs;go_enter func130,ntmps130
 go_wp2_with fail
 refine Hcd.out.mono ?_;rintro e w1 ⟨gc,rfl,hrc,hgc,hb1⟩;have Htr:=hid (IU A (some ⟨gc,0,none⟩) c ls.length ls w1 HW.out (aC Hr.out hb1) hrc);have Hb1:=hid hb1;clear hrc hb1 Hcd Hr;go_wp2_with fail
 refine Htr.out.mono ?_;rintro e w2 ⟨g,cap,P,F,rfl,hft,hT,hb2⟩;obtain⟨w3,ani,dB,hcells,hb3⟩:=bU w2 s Hs.out;have TK:Reads w3 (some ⟨w2.heap.size,0,none⟩) (u8s s):=fun _=>⟨_,_,rfl,fun j hj=>by
  rw[aO]at hj;rw[Nat.zero_add,hcells j hj,bD s j hj]⟩
 have hgl:g<w2.heap.size:=hft.lt;have alC:=Hb1.out.trans (hb2.mono Hb1.out.size);have anv:=alC.trans (hb3.mono alC.size);have amG:=hid (hft.below hb3);have Hnr:=hid (qM (some ⟨w2.heap.size,0,none⟩) ani s w3 Hs.out TK);have Hb3:=hid anv;have HT:=hid hT;have aqZ:g<w3.heap.size:=Nat.lt_of_lt_of_le hgl hb3.size;clear hft hT hb2 hcells hb3 TK alC anv Htr Hb1 hgl;go_wp2_with fail
 refine Hnr.out.mono ?_;rintro e w4 ⟨rfl,hrs,hb4⟩;have amT:=hid hrs;have amH:=hid (amG.out.below hb4);have Hb4:=hid (Hb3.out.trans (hb4.mono Hb3.out.size));have hl4:w3.heap.size<w4.heap.size:=hrs.2.2.2;clear hrs hb4 Hnr amG dB;go_wp2_with (at_make;refine wpList_make_full _ rfl _ _ 60 rfl w.heap.size 5 i0 (.int .u8 0) 1 underlying60 hi hz0 hz1 .i64 .i64 _ _ N rfl rfl ?c1 ?c1 ?c2 ?c3 ?c4 ?_)
 case c1=>omega
 case c2=>first | omega | (rw[hz2];omega)
 case c3=>unfold maxLen;omega
 try case c4=>exact Hb4.out.size
 intro w5 hown5 hg5;have hb5:=aJ hg5;have Hr5:=hid (nX hown5);have amU:=hid (amT.out.keep hg5 (by simp));have amI:=hid (amH.out.below hb5);have Hb5:=hid (Hb4.out.trans (hb5.mono Hb4.out.size));have hlow:w.heap.size<=w3.heap.size:=Hb3.out.size;clear hown5 hg5 hb5 hi hz0 hz1 hz2 amT amH Hb4 Hb3;generalize w4.heap.size=gb at *;generalize w3.heap.size=br at *;go_wp2;go_loopw [39] (fun iv wr=>∃(i pos:Nat) (d:List Nat),i<=N/\iv=.int .i64 (i:Int)/\d.length=i/\pos<=8*s.length/\Hid (yT ls i (iL s)=some (d,(iL s).drop pos))/\Hid (RS wr br 0 s pos)/\Hid (Row wr gb 5 (u8s (d++List.replicate (N-i) 0)))/\Hid (FT wr w1.heap.size g cap F)/\Hid (Below w.heap.size w wr)) (fun iv _=>N-(intOf iv).toNat)
 case atStart=>exact⟨0,0,[],by omega,rfl,rfl,by omega,hid (by rw[List.drop_zero];rfl),amU,hid (by rw[List.nil_append,Nat.sub_zero];exact Hr5.out),amI,Hb5⟩
 case round=>
  obtain⟨i,pos,d,hiN,rfl,hdl,hpos,hdec,hrs,hrow,hft,hbel⟩:=hrel;clear amU Hr5 amI Hb5;by_cases hin:i<N
  ·have hsy:=OG w1.heap.size g cap br pos ls s P F wr HW.out HT.out hft.out (by omega) Hs.out hpos hrs.out (by omega);have hsn:=wR ls i (iL s);rw[hdec.out,Option.bind_some]at hsn;dsimp only at hsn;have hno:yT ls (i+1) (iL s)=none->res=none:=fun h=>by
    have:=Ee ls (iL s) (i+1) h (N-(i+1));rw[show i+1+(N-(i+1))=N by omega]at this;rw[dV.out,this];rfl
   have hset:∀W (k:Nat),Row W gb 5 (u8s (d++List.replicate (N-i) 0))->Row (W.setCell ⟨gb,i,none⟩ (.int .u8 (k:Int))) gb 5 (u8s ((d++[k])++List.replicate (N-(i+1)) 0)):=fun W k h=>by
    have h1:=h.aT i (.int .u8 (k:Int));obtain⟨m,hm⟩:∃m,N-i=m+1:=⟨N-i-1,by omega⟩;rw[yK,hm,List.replicate_succ,List.set_append_right _ _ (by omega),hdl,Nat.sub_self,List.set_cons_zero]at h1;rw[show N-(i+1)=m by omega,List.append_assoc];exact h1
   have hcl:∀W,Row W gb 5 (u8s (d++List.replicate (N-i) 0))->∃v,W.cell? ⟨gb,i,none⟩=some v:=fun W h=>⟨_,(h.cell i).trans (List.getElem?_eq_getElem (by rw[aO,List.length_append,List.length_replicate];omega))⟩
   have Hsy:=hid hsy;have Hsn:=hid hsn;have Hno:=hid hno;have Dn:=hid hset;have Hcl:=hid hcl;clear hsy hsn hno hset hcl hdec hrs;cases hms:LH ls ((iL s).drop pos)with
   | none=>
    rw[hms]at Hsy Hsn;have Hx:=hid (Hno.out Hsn.out);clear hms Hno Hsn Dn;go_wp2_with fail
    refine Hsy.out.mono ?_;rintro e w6 ⟨he,hg6⟩;have he2:e=.returned (.tuple #[.int .u8 0,.bool false]):=he;subst he2;have xg:Row w6 gb 5 (u8s (d++List.replicate (N-i) 0)):=hrow.out.keep (hg6.block gb hrow.out.lt (fun e=>by injection e with e;omega));obtain⟨v0,hcd⟩:=Hcl.out w6 xg;have hfd:w6.frozen? ⟨gb,i,none⟩=false:=xg.free i;have hb6:Below w.heap.size w w6:=hbel.out.grown hg6 hbel.out.size (fun k e=>by injection e with e;omega);have Hb7:=hid (hb6.setCell (p:=⟨gb,i,none⟩) (by show w.heap.size<=gb;omega) (.int .u8 0));clear he hg6 hb6 xg hrow hft hbel Hsy Hcl;go_wp2;go_ret2;rw[Hx.out];exact⟨⟨_,_,rfl⟩,Hb7.out⟩
   | some k=>
    rw[hms]at Hsy Hsn;rw[Option.map_some,List.drop_drop]at Hsn;clear hms Hno;go_wp2_with fail
    refine Hsy.out.mono ?_;rintro e w6 ⟨⟨he,hk,hpk,aop⟩,hg6⟩;subst he;have xg:Row w6 gb 5 (u8s (d++List.replicate (N-i) 0)):=hrow.out.keep (hg6.block gb hrow.out.lt (fun e=>by injection e with e;omega));obtain⟨v0,hcd⟩:=Hcl.out w6 xg;have hfd:w6.frozen? ⟨gb,i,none⟩=false:=xg.free i;have hb6:Below w.heap.size w w6:=hbel.out.grown hg6 hbel.out.size (fun k e=>by injection e with e;omega);have Hb7:=hid (hb6.setCell (p:=⟨gb,i,none⟩) (by show w.heap.size<=gb;omega) (.int .u8 (k:Int)));have akU:=hid (Dn.out w6 k xg);have anO:FT w6 w1.heap.size g cap F:=hft.out.keep hg6 (fun e=>by injection e with e;omega);have ahh:FT (w6.setCell ⟨gb,i,none⟩ (.int .u8 (k:Int))) w1.heap.size g cap F:=anO.keep (row:=some gb) (aB (aj w6 (some gb)) i _) (fun e=>by injection e with e;omega);have aoq:RS (w6.setCell ⟨gb,i,none⟩ (.int .u8 (k:Int))) br 0 s (pos+ls[k]?.getD 0):=aop.keep (row:=some gb) (aB (aj w6 (some gb)) i _) (fun e=>by injection e with e;omega);have akJ:=hid ahh;have akV:=hid aoq;clear hg6 hb6 xg hrow hft hbel Hsy Hcl Dn anO ahh aop aoq;go_wp2;go_roundw
    case rel=>exact⟨i+1,pos+ls[k]?.getD 0,d++[k],by omega,by go_num,by simp[hdl],hpk,Hsn,akV,akU,akJ,Hb7⟩
    case measure=>simp[intOf];omega
  ·obtain rfl:i=N:=by omega
   rw[Nat.sub_self,List.replicate_zero,List.append_nil]at hrow;have hend:=Ac br s pos wr (by omega) Hs.out hpos hrs.out;have hrr:res=aiw (d,(iL s).drop pos):=by rw[dV.out,hdec.out];rfl
   have dR:=hid hend;have gF:=hid hrow.out;by_cases hE:Ib s pos
   ·have hx:res=some d:=by rw[hrr];exact if_pos hE
    rw[decide_eq_true hE]at dR;have Hx:=hid hx;have Hdl:=hid hdl;clear hend hrr hx hrs hdec hrow hft;go_wp2_with fail
    refine dR.out.mono ?_;rintro e w6 ⟨rfl,hg6⟩;have xg:Row w6 gb 5 (u8s d):=gF.out.keep (hg6.block gb gF.out.lt (fun e=>by injection e with e;omega));have Hb6:=hid (hbel.out.grown hg6 hbel.out.size (fun k e=>by injection e with e;omega));have Hrd:=hid (bP xg);clear hg6 xg;go_wp2;go_ret2;rw[Hx.out];exact⟨⟨some ⟨gb,0,none⟩,i,by rw[Hdl.out];rfl,by rw[Hdl.out];omega,Hrd.out⟩,Hb6.out⟩
   ·have hx:res=none:=by rw[hrr];exact if_neg hE
    rw[decide_eq_false hE]at dR;have Hx:=hid hx;clear hend hrr hx hrs hdec hrow hft;go_wp2_with fail
    refine dR.out.mono ?_;rintro e w6 ⟨rfl,hg6⟩;have Hb6:=hid (hbel.out.grown hg6 hbel.out.size (fun k e=>by injection e with e;omega));clear hg6;go_wp2;go_ret2;rw[Hx.out];exact⟨⟨_,_,rfl⟩,Hb6.out⟩
end Go.Proofs.YtaebnkeddcbmkaaGreat
namespace Go.Proofs.YtaebnkeddcbmkaaGreat.Bm
theorem fF(a b:Nat×Nat):lt2 a b↔(a.1<b.1\/(a.1=b.1/\a.2<b.2)):=Iff.rfl
abbrev at2(l:List (Nat×Nat))(i:Nat):Nat×Nat:=l[i]?.getD (0,0)
theorem yx(l:List (Nat×Nat))(i j k:Nat)(hi:i<l.length)(hj:j<l.length):at2 (swp (0,0) l i j) k=if k=j then at2 l i else if k=i then at2 l j else at2 l k:=by
 unfold at2 swp;rw[List.getElem?_set,List.length_set];by_cases h1:j=k
 ·subst h1;rw[if_pos rfl,if_pos rfl,if_pos hj,Option.getD_some]
 ·rw[if_neg h1,if_neg (fun h=>h1 h.symm),List.getElem?_set];by_cases h2:i=k
  ·subst h2;rw[if_pos rfl,if_pos rfl,if_pos hi,Option.getD_some]
  ·rw[if_neg h2,if_neg (fun h=>h2 h.symm)]
theorem rF(l:List (Nat×Nat))(i j:Nat)(hi:i<l.length)(hj:j<l.length):(swp (0,0) l i j).Perm l:=by
 unfold swp;rw[List.getElem?_eq_getElem hi,List.getElem?_eq_getElem hj,Option.getD_some,Option.getD_some];rcases Nat.lt_trichotomy i j with h | h | h
 ·exact List.set_set_perm hi hj
 ·subst h;exact List.set_set_perm hi hj
 ·exact List.set_set_perm hi hj
def jC(l:List (Nat×Nat))(n:Nat):Prop:=∀k,0<k->k<n->¬lt2 (at2 l k) (at2 l ((k-1)/2))
def UpN(l:List (Nat×Nat))(n j:Nat):Prop:=(∀k,0<k->k<n->k≠j->¬lt2 (at2 l k) (at2 l ((k-1)/2)))/\(0<j->∀k,0<k->k<n->(k-1)/2=j->¬lt2 (at2 l k) (at2 l ((j-1)/2)))
def MW(l:List (Nat×Nat))(n i:Nat):Prop:=(∀k,0<k->k<n->(k-1)/2≠i->¬lt2 (at2 l k) (at2 l ((k-1)/2)))/\(0<i->∀k,0<k->k<n->(k-1)/2=i->¬lt2 (at2 l k) (at2 l ((i-1)/2)))
theorem agI(l:List (Nat×Nat))(n:Nat)(h:UpN l n 0):jC l n:=fun k h0 hk=>h.1 k h0 hk (by omega)
theorem ajS(l:List (Nat×Nat))(n j:Nat)(h:UpN l n j)(hj:¬lt2 (at2 l j) (at2 l ((j-1)/2))):jC l n:=fun k h0 hk=>by
 by_cases e:k=j
 ·subst e;exact hj
 ·exact h.1 k h0 hk e
theorem agJ(l:List (Nat×Nat))(n j:Nat)(hn:n<=l.length)(hj:j<n)(h0:0<j)(h:UpN l n j)(hlt:lt2 (at2 l j) (at2 l ((j-1)/2))):UpN (swp (0,0) l ((j-1)/2) j) n ((j-1)/2):=by
 obtain⟨p,hp⟩:∃p,p=(j-1)/2:=⟨_,rfl⟩;rw[<-hp]at hlt ⊢;obtain⟨h1,h2⟩:=h;rw[<-hp]at h2;have hs:=fun k=>yx l p j k (by omega) (by omega)
 refine⟨fun k k0 kn kp=>?_,fun p0 k k0 kn kp=>?_⟩
 ·rw[hs,hs];by_cases e:k=j
  ·subst e;rw[if_pos rfl,<-hp,if_neg (by omega),if_pos rfl];rw[fF]at hlt ⊢;omega
  ·rw[if_neg e,if_neg kp];by_cases e2:(k-1)/2=j
   ·rw[if_pos e2];exact h2 h0 k k0 kn e2
   ·rw[if_neg e2];by_cases e3:(k-1)/2=p
    ·rw[if_pos e3];have:=h1 k k0 kn e;rw[e3]at this;rw[fF]at hlt this ⊢;omega
    ·rw[if_neg e3];exact h1 k k0 kn e
 ·rw[hs,hs,if_neg (show ¬(p-1)/2=j by omega),if_neg (show ¬(p-1)/2=p by omega)];have hpp:=h1 p p0 (by omega) (by omega);by_cases e:k=j
  ·rw[if_pos e];exact hpp
  ·rw[if_neg e,if_neg (show ¬k=p by omega)];have:=h1 k k0 kn e;rw[kp]at this;rw[fF]at this hpp ⊢;omega
theorem vI(l:List (Nat×Nat))(n i:Nat)(h:MW l n i)(hi:∀k,0<k->k<n->(k-1)/2=i->¬lt2 (at2 l k) (at2 l i)):jC l n:=fun k h0 hk=>by
 by_cases e:(k-1)/2=i
 ·rw[e];exact hi k h0 hk e
 ·exact h.1 k h0 hk e
theorem wS(l:List (Nat×Nat))(n i j:Nat)(hn:n<=l.length)(hj:j<n)(h0:0<j)(hji:(j-1)/2=i)(h:MW l n i)(hlt:lt2 (at2 l j) (at2 l i))(TD:∀k,0<k->k<n->(k-1)/2=i->¬lt2 (at2 l k) (at2 l j)) :
  MW (swp (0,0) l i j) n j:=by
 obtain⟨h1,h2⟩:=h;have hs:=fun k=>yx l i j k (by omega) (by omega)
 refine⟨fun k k0 kn kp=>?_,fun _ k k0 kn kp=>?_⟩
 ·rw[hs,hs];by_cases e:k=j
  ·subst e;rw[if_pos rfl,hji,if_neg (by omega),if_pos rfl];rw[fF]at hlt ⊢;omega
  ·rw[if_neg e,if_neg kp];by_cases e2:(k-1)/2=i
   ·rw[if_pos e2,if_neg (show ¬k=i by omega)];exact TD k k0 kn e2
   ·rw[if_neg e2];by_cases e3:k=i
    ·rw[if_pos e3];have:=h2 (by omega) j h0 hj hji;rw[e3];exact this
    ·rw[if_neg e3];exact h1 k k0 kn e2
 ·rw[hs,hs,hji,if_neg (show ¬k=j by omega),if_neg (show ¬k=i by omega),if_neg (show ¬i=j by omega),if_pos rfl];have:=h1 k k0 kn (by omega);rw[kp]at this;exact this
theorem Oa(l:List (Nat×Nat))(n:Nat)(h:jC l n):∀k,k<n->¬lt2 (at2 l k) (at2 l 0):=by
 intro k;induction k using Nat.strongRecOn with
 | _ k ih=>
  intro hk;by_cases e:k=0
  ·subst e;rw[fF];omega
  ·have h1:=h k (by omega) hk;have h2:=ih ((k-1)/2) (by omega) (by omega);rw[fF]at h1 h2 ⊢;omega
theorem Tp(l:List (Nat×Nat))(x:Nat×Nat)(h:jC l l.length):UpN (l++[x]) (l.length+1) l.length:=by
 have hg:∀k,k<l.length->at2 (l++[x]) k=at2 l k:=fun k hk=>by
  unfold at2;rw[List.getElem?_append_left hk]
 refine⟨fun k k0 kn kj=>?_,fun h0 k k0 kn kp=>by omega⟩;rw[hg k (by omega),hg ((k-1)/2) (by omega)];exact h k k0 (by omega)
theorem Zv(l:List (Nat×Nat))(n:Nat)(hn:l.length=n+1)(h:jC l (n+1)):MW (swp (0,0) l 0 n) n 0:=by
 have hs:=fun k=>yx l 0 n k (by omega) (by omega)
 refine⟨fun k k0 kn kp=>?_,fun h0=>by omega⟩;rw[hs,hs,if_neg (by omega),if_neg (by omega),if_neg (by omega),if_neg kp];exact h k k0 (by omega)
theorem Tq(l:List (Nat×Nat))(n:Nat)(h:jC l n):jC (l.take n) n:=fun k k0 kn=>by
 have hg:∀k,k<n->at2 (l.take n) k=at2 l k:=fun k hk=>by
  unfold at2;rw[List.getElem?_take,if_pos hk]
 rw[hg k kn,hg _ (by omega)];exact h k k0 kn
def iR(cs:List Nat)(k:Nat):List (Nat×Nat):=(List.range k).flatMap fun i=>if 0<cs[i]?.getD 0 then [(cs[i]?.getD 0,i)]else []
def lvs(cs:List Nat):List (Nat×Nat):=iR cs cs.length
theorem iW(cs:List Nat)(k:Nat):iR cs (k+1)=iR cs k++if 0<cs[k]?.getD 0 then [(cs[k]?.getD 0,k)]else []:=by
 unfold iR;rw[List.range_succ,List.flatMap_append];simp
theorem kH(cs:List Nat):∀k,(iR cs k).length<=k
 | 0=>by simp[iR]
 | k+1=>by
  have:=kH cs k;rw[iW,List.length_append];split<;>simp<;>omega
theorem bX(cs:List Nat)(k:Nat)(t:Nat×Nat):t∈iR cs k↔t.2<k/\t.1=cs[t.2]?.getD 0/\0<t.1:=by
 unfold iR;rw[List.mem_flatMap];constructor
 ·rintro⟨i,hi,ht⟩;have hi:=List.mem_range.1 hi;split at ht
  ·next h=>simp at ht;subst ht;exact⟨hi,rfl,h⟩
  ·simp at ht
 ·rintro⟨h1,h2,h3⟩;refine⟨t.2,List.mem_range.2 h1,?_⟩;rw[if_pos (by omega),<-h2];simp
theorem Cj(cs:List Nat)(F:Nat×Nat->Nat):∀k,((iR cs k).map F).sum=((List.range k).map fun i=>if 0<cs[i]?.getD 0 then F (cs[i]?.getD 0,i)else 0).sum
 | 0=>by simp[iR]
 | k+1=>by
  rw[iW,List.map_append,List.sum_append_nat,Cj cs F k,List.range_succ,List.map_append,List.sum_append_nat];split<;>simp_all
theorem EO(cs:List Nat):∀k,k<=cs.length->(iR cs k).map (·.1)=jk (cs.take k)
 | 0,_=>by simp[iR,jk]
 | k+1,h=>by
  rw[iW,List.map_append,EO cs k (by omega),Vm cs k (by omega),List.getElem?_eq_getElem (by omega),Option.getD_some];congr 1
  split<;>simp
theorem nk(cs:List Nat):(lvs cs).map (·.1)=jk cs:=by
 unfold lvs;rw[EO cs cs.length (Nat.le_refl _),List.take_length]
abbrev bH(l:List Nat)(i:Nat):Nat:=l[i]?.getD 0
def QL(A:List Nat)(d:Nat->Nat):Prop:=∀i,i<A.length->bH A i≠0->d i=d (bH A i)+1
def QI(L:List (Nat×Nat))(d:Nat->Nat):Nat:=(L.map fun t=>t.1*d t.2).sum
def PY(D:Nat)(L:List (Nat×Nat))(d:Nat->Nat):Nat:=(L.map fun t=>2^(D-d t.2)).sum
structure Bo(cs A:List Nat)(L:List (Nat×Nat))(C:Nat):Prop where
 len:cs.length<=A.length
 free:∀t∈L,t.2<A.length/\bH A t.2=0
 apart:(L.map (·.2)).Nodup
 above:∀i,i<A.length->bH A i≠0->i<bH A i/\bH A i<A.length
 none:∀i,i<cs.length->bH cs i=0->bH A i=0
 some:∀i,i<cs.length->0<bH cs i->bH A i≠0\/i∈L.map (·.2)
 cost:∀d,QL A d->QI (lvs cs) d=QI L d+C
 afj:∀d D,QL A d->(∀i,d i<=D)->PY D (lvs cs) d=PY D L d
 best:C+oF (L.map (·.1))=oF (jk cs)
 last:cs.length<A.length->A.length-1∈L.map (·.2)
 count:L.length+(A.length-cs.length)=(lvs cs).length
 total:(L.map (·.1)).sum=(jk cs).sum
 pos:∀t∈L,t.2<cs.length->0<bH cs t.2
theorem qO(cs:List Nat):∀k,((iR cs k).map (·.2)).Nodup
 | 0=>by simp[iR]
 | k+1=>by
  rw[iW,List.map_append];have ih:=qO cs k;split
  ·rw[List.nodup_append];refine⟨ih,by simp,?_⟩;intro a ha b hb;obtain⟨t,ht,rfl⟩:=List.mem_map.1 ha;have:=((bX cs k t).1 ht).1;simp at hb;omega
  ·simpa using ih
theorem lG(n i:Nat):bH (List.replicate n 0) i=0:=by
 unfold bH;rw[List.getElem?_replicate];split<;>rfl
theorem Ov(cs:List Nat)(L:List (Nat×Nat))(h:L.Perm (lvs cs)):Bo cs (List.replicate cs.length 0) L 0 where
 len:=by simp
 free:=fun t ht=>by
  have:=(bX cs _ t).1 (h.mem_iff.1 ht);exact⟨by simpa using this.1,lG _ _⟩
 apart:=(h.map _).nodup_iff.2 (qO cs _)
 above:=fun i _ h=>absurd (lG _ _) h
 none:=fun i _ _=>lG _ _
 some:=fun i hi h0=>.inr ((h.map _).mem_iff.2 (List.mem_map.2 ⟨(bH cs i,i),(bX cs _ _).2 ⟨hi,rfl,h0⟩,rfl⟩))
 cost:=fun d _=>by unfold QI;rw[(h.map _).sum_nat];rfl
 afj:=fun d D _ _=>by unfold PY;rw[(h.map _).sum_nat]
 best:=by rw[Nat.zero_add,kE (h.map _),nk]
 last:=fun h=>by simp at h
 count:=by simp[h.length_eq]
 total:=by rw[(h.map _).sum_nat,nk]
 pos:=fun t ht _=>by
  have:=(bX cs _ t).1 (h.mem_iff.1 ht);unfold bH;omega
theorem agp(A:List Nat)(a b P i:Nat)(ha:a<A.length)(hb:b<A.length):bH ((A.set a P).set b P++[0]) i=if i=a\/i=b then P else bH A i:=by
 unfold bH;by_cases h1:i<A.length
 ·rw[List.getElem?_append_left (by simpa using h1),List.getElem?_set,List.getElem?_set,List.length_set];by_cases e1:b=i
  ·subst e1;rw[if_pos rfl,if_pos hb,if_pos (.inr rfl)];rfl
  ·rw[if_neg e1];by_cases e2:a=i
   ·subst e2;rw[if_pos rfl,if_pos ha,if_pos (.inl rfl)];rfl
   ·rw[if_neg e2,if_neg (by omega)]
 ·rw[List.getElem?_append_right (by simpa using h1),if_neg (by omega),List.getElem?_eq_none (show A.length<=i by omega),List.getElem?_singleton];split<;>rfl
theorem join_step{cs A:List Nat}{L R L':List (Nat×Nat)}{C wa a wb b:Nat}(h:Bo cs A L C)(hp:L.Perm ((wa,a) :: (wb,b) :: R))(hab:wa<=wb)(hR:∀y∈R,wb<=y.1)(h2:2<=A.length)(hL':L'.Perm ((wa+wb,A.length) :: R)) :
  Bo cs ((A.set a A.length).set b A.length++[0]) L' (C+(wa+wb)):=by
 have ma:=h.free (wa,a) (hp.mem_iff.2 (by simp));have mb:=h.free (wb,b) (hp.mem_iff.2 (by simp));have hR2:∀t∈R,t.2<A.length/\bH A t.2=0:=fun t ht=>h.free t (hp.mem_iff.2 (by simp[ht]))
 have hnd:=(hp.map (·.2)).nodup_iff.1 h.apart;simp only[List.map_cons,List.nodup_cons,List.mem_cons,not_or]at hnd;obtain⟨⟨hne,haR⟩,hbR,hRn⟩:=hnd;have hs:=fun i=>agp A a b A.length i ma.1 mb.1
 have hlen:((A.set a A.length).set b A.length++[0]).length=A.length+1:=by simp
 have anJ:∀d,QL ((A.set a A.length).set b A.length++[0]) d->QL A d/\d a=d A.length+1/\d b=d A.length+1:=fun d hd=>by
  refine⟨fun i hi hA=>?_,?_,?_⟩
  ·have h1:=hd i (by omega);rw[hs,if_neg (by
    rintro(rfl | rfl)
    ·exact hA ma.2
    ·exact hA mb.2)]at h1
   exact h1 hA
  ·have h1:=hd a (by have:=ma.1;omega);rw[hs,if_pos (.inl rfl)]at h1;exact h1 (by omega)
  ·have h1:=hd b (by have:=mb.1;omega);rw[hs,if_pos (.inr rfl)]at h1;exact h1 (by omega)
 refine⟨by rw[hlen];have:=h.len;omega,fun t ht=>?_,?_,fun i hi hA=>?_,fun i hi h0=>?_,fun i hi h0=>?_,fun d hd=>?_,fun d D hd hD=>?_,?_,fun _=>?_,?_,?_,fun t ht hc=>?_⟩
 ·rw[hlen,hs];rcases List.mem_cons.1 (hL'.mem_iff.1 ht)with rfl | ht
  ·refine⟨by show A.length<A.length+1;omega,?_⟩;rw[if_neg (by have:=ma.1;have:=mb.1;simp only;omega)];unfold bH;rw[List.getElem?_eq_none (by exact Nat.le_refl _)];rfl
  ·have h1:=hR2 t ht;refine⟨by omega,?_⟩;rw[if_neg (by
    rintro(e | e)
    ·exact haR (List.mem_map.2 ⟨t,ht,e⟩)
    ·exact hbR (List.mem_map.2 ⟨t,ht,e⟩))]
   exact h1.2
 ·refine(hL'.map (·.2)).nodup_iff.2 ?_;rw[List.map_cons,List.nodup_cons];refine⟨fun hm=>?_,hRn⟩;obtain⟨t,ht,e⟩:=List.mem_map.1 hm;have:=(hR2 t ht).1;simp only at e;omega
 ·rw[hs]at hA ⊢;rw[hlen]at hi ⊢;split at hA
  ·next hc=>
   rw[if_pos hc];have:=ma.1;have:=mb.1;omega
  ·next hc=>
   rw[if_neg hc];have hi2:i<A.length:=by
    rcases Nat.lt_or_ge i A.length with h1 | h1
    ·exact h1
    ·exfalso
     apply hA
     unfold bH;rw[List.getElem?_eq_none h1];rfl
   have:=h.above i hi2 hA;omega
 ·rw[hs];have h1:=h.none i hi h0;rw[if_neg ?_]
  ·exact h1
  ·rintro(rfl | rfl)
   ·have:=h.pos (wa,i) (hp.mem_iff.2 (by simp)) hi;simp only at this;omega
   ·have:=h.pos (wb,i) (hp.mem_iff.2 (by simp)) hi;simp only at this;omega
 ·rw[hs];have:=h.len;rcases h.some i hi h0 with h1 | h1
  ·left
   split
   ·omega
   ·exact h1
  ·rw[(hp.map _).mem_iff]at h1;simp only[List.map_cons,List.mem_cons]at h1;rcases h1 with h1 | h1 | h1
   ·left;rw[if_pos (.inl h1)];omega
   ·left;rw[if_pos (.inr h1)];omega
   ·right
    rw[(hL'.map _).mem_iff];simp[h1]
 ·obtain⟨h1,h3,h4⟩:=anJ d hd;have e1:QI L d=wa*d a+(wb*d b+QI R d):=by
   unfold QI;rw[(hp.map _).sum_nat,List.map_cons,List.map_cons,List.sum_cons,List.sum_cons]
  have e2:QI L' d=(wa+wb)*d A.length+QI R d:=by
   unfold QI;rw[(hL'.map _).sum_nat,List.map_cons,List.sum_cons]
  rw[h.cost d h1,e1,e2,h3,h4,Nat.mul_succ,Nat.mul_succ,Nat.add_mul];omega
 ·obtain⟨h1,h3,h4⟩:=anJ d hd;have e1:PY D L d=2^(D-d a)+(2^(D-d b)+PY D R d):=by
   unfold PY;rw[(hp.map _).sum_nat,List.map_cons,List.map_cons,List.sum_cons,List.sum_cons]
  have e2:PY D L' d=2^(D-d A.length)+PY D R d:=by
   unfold PY;rw[(hL'.map _).sum_nat,List.map_cons,List.sum_cons]
  have hDa:=hD a;rw[h.afj d D h1 hD,e1,e2,h3,h4,show D-d A.length=(D-(d A.length+1))+1 by omega,Nat.pow_succ];omega
 ·have e1:oF (L.map (·.1))=(wa+wb)+oF (R.map (·.1)++[wa+wb]):=by
   rw[kE (hp.map _)];simp only[List.map_cons];exact NT wa wb (R.map (·.1)) hab (fun x hx=>by
    obtain⟨y,hy,rfl⟩:=List.mem_map.1 hx;exact hR y hy)
  have e2:oF (L'.map (·.1))=oF (R.map (·.1)++[wa+wb]):=by
   rw[kE (hL'.map _)];simp only[List.map_cons];exact kE (List.perm_append_singleton _ _).symm
  have:=h.best;omega
 ·rw[hlen,Nat.add_sub_cancel,(hL'.map _).mem_iff];simp
 ·have h1:=h.count;have h3:=hp.length_eq;have h4:=hL'.length_eq;have:=h.len;simp only[List.length_cons]at h3 h4;rw[hlen];omega
 ·have h1:=h.total;rw[(hp.map _).sum_nat]at h1;rw[(hL'.map _).sum_nat,<-h1];simp only[List.map_cons,List.sum_cons];omega
 ·rcases List.mem_cons.1 (hL'.mem_iff.1 ht)with rfl | ht
  ·have:=h.len;simp only at hc;omega
  ·exact h.pos t (hp.mem_iff.2 (by simp[ht])) hc
structure aeb(cs ls:List Nat):Prop where
 len:ls.length=cs.length
 just:∀i,i<cs.length->(0<ls[i]?.getD 0↔0<cs[i]?.getD 0)
 whole:(∀x∈ls,x<=11)->bC ls
 cost:NG cs ls=Yx cs
 most:∀x∈ls,x<=512
theorem qx(cs ls:List Nat):NG cs ls=((lvs cs).map fun t=>t.1*bH ls t.2).sum:=by
 unfold lvs;rw[Cj];unfold NG;congr 1
 apply List.map_congr_left
 intro i _;split
 ·rfl
 ·next h=>rw[show cs[i]?.getD 0=0 by omega,Nat.zero_mul]
theorem Uf(cs ls:List Nat)(hl:ls.length=cs.length)(hj:∀i,i<cs.length->(0<ls[i]?.getD 0↔0<cs[i]?.getD 0)):krN ls=((lvs cs).map fun t=>2^(11-bH ls t.2)).sum:=by
 unfold lvs;rw[Cj,qK,hl];congr 1
 apply List.map_congr_left
 intro i hi;have h1:=hj i (List.mem_range.1 hi);unfold dD bH;by_cases h:0<cs[i]?.getD 0
 ·rw[if_pos h,if_neg (by omega)]
 ·rw[if_neg h,if_pos (by omega)]
structure QM(A ls:List Nat):Prop where
 len:ls.length=A.length
 none:∀i,i<A.length->bH A i=0->bH ls i=0
 some:∀i,i<A.length->bH A i≠0->bH ls i=bH ls (bH A i)+1
 most:∀i,i<A.length->bH ls i<=A.length-i
theorem ZH{cs A ls:List Nat}{t:Nat×Nat}{C:Nat}(h:Bo cs A [t] C)(hd:QM A ls)(h2:2<=(lvs cs).length)(aeI:cs.length<=256)(hA:A.length<=512):aeb cs (ls.take cs.length):=by
 have hcnt:=h.count;have hlen:=h.len;simp only[List.length_singleton]at hcnt;have hlast:=h.last (by omega);simp only[List.map_cons,List.map_nil,List.mem_singleton]at hlast;have hfree:=h.free t (by simp);have hok:QL A (bH ls):=fun i hi h0=>hd.some i hi h0
 have hdt:bH ls t.2=0:=hd.none t.2 hfree.1 hfree.2;have hg:∀i,i<cs.length->(ls.take cs.length)[i]?.getD 0=bH ls i:=fun i hi=>by rw[List.getElem?_take,if_pos hi]
 have Zx:∀i,i<cs.length->(0<(ls.take cs.length)[i]?.getD 0↔0<cs[i]?.getD 0):=fun i hi=>by
  rw[hg i hi];constructor
  ·intro h1;rcases Nat.eq_zero_or_pos (cs[i]?.getD 0)with h0 | h0
   ·have:=hd.none i (by omega) (h.none i hi h0);omega
   ·exact h0
  ·intro h0;rcases h.some i hi h0 with h1 | h1
   ·have:=hd.some i (by omega) h1;omega
   ·simp only[List.map_cons,List.map_nil,List.mem_singleton]at h1;omega
 have htl:(ls.take cs.length).length=cs.length:=by rw[List.length_take,hd.len];omega
 have hmem:∀u∈lvs cs,u.2<cs.length:=fun u hu=>((bX cs _ u).1 hu).1
 refine⟨htl,Zx,fun h11=>⟨by omega,h11,.inl ?_⟩,?_,?_⟩
 ·rw[Uf cs _ htl Zx];obtain⟨D,hD,aqF⟩:∃D,(∀i,bH ls i<=D)/\11<=D:=⟨512,fun i=>by
   rcases Nat.lt_or_ge i A.length with hi | hi
   ·have:=hd.most i hi;omega
   ·unfold bH;rw[List.getElem?_eq_none (by rw[hd.len];exact hi)];exact Nat.zero_le _,by omega⟩
  have hk:=h.afj (bH ls) D hok hD;have e1:PY D [t] (bH ls)=2^D:=by simp[PY,hdt]
  have e2:PY D (lvs cs) (bH ls)=2^(D-11)*((lvs cs).map fun u=>2^(11-bH (ls.take cs.length) u.2)).sum:=by
   unfold PY;have:∀L:List (Nat×Nat),(∀u∈L,u∈lvs cs)->(L.map fun u=>2^(D-bH ls u.2)).sum=2^(D-11)*(L.map fun u=>2^(11-bH (ls.take cs.length) u.2)).sum:=fun L=>by
    induction L with
    | nil=>intro _;rfl
    | cons u L ih=>
     intro hL;have hu:=hmem u (hL u (by simp));have h5:bH (ls.take cs.length) u.2<=11:=by
      unfold bH;rw[List.getElem?_eq_getElem (by omega),Option.getD_some];exact h11 _ (List.getElem_mem _)
     rw[List.map_cons,List.sum_cons,List.map_cons,List.sum_cons,ih (fun v hv=>hL v (by simp[hv])),Nat.mul_add,<-Nat.pow_add];have e3:bH (ls.take cs.length) u.2=bH ls u.2:=hg u.2 hu;rw[e3]at h5 ⊢;rw[show D-11+(11-bH ls u.2)=D-bH ls u.2 by omega]
   exact this _ (fun _ h=>h)
  rw[e1,e2,show D=(D-11)+11 by omega,Nat.pow_add,Nat.add_sub_cancel]at hk;have h2k:(2:Nat)^11=2048:=by decide
  rw[h2k]at hk;exact Nat.eq_of_mul_eq_mul_left (Nat.two_pow_pos _) hk
 ·rw[qx];have hc:=h.cost (bH ls) hok;have e1:QI [t] (bH ls)=0:=by simp[QI,hdt]
  have hb:=h.best;have hb0:oF ([t].map (·.1))=0:=Ti _ (by simp);have hne:(jk cs).length≠1:=by rw[<-nk,List.length_map];omega
  unfold Yx;rw[if_neg hne,<-hb,hb0,Nat.add_zero];rw[e1,Nat.zero_add]at hc;rw[<-hc];unfold QI;congr 1
  apply List.map_congr_left
  intro u hu;rw[show bH (ls.take cs.length) u.2=bH ls u.2 from hg u.2 (hmem u hu)]
 ·intro x hx;obtain⟨i,hi,rfl⟩:=List.mem_iff_getElem.1 hx;rw[htl]at hi;have h5:=hd.most i (by omega);have h6:=hg i hi;rw[List.getElem?_eq_getElem (by omega),Option.getD_some]at h6;rw[h6];omega
theorem Xn{cs:List Nat}{c i:Nat}(h:lvs cs=[(c,i)])(aeI:cs.length<=256):aeb cs ((List.replicate cs.length 0).set i 1):=by
 have hm:=(bX cs cs.length (c,i)).1 (show(c,i)∈lvs cs by rw[h];simp);simp only at hm;obtain⟨hi,hc,h0⟩:=hm;have hg:∀k,k<cs.length->((List.replicate cs.length 0).set i 1)[k]?.getD 0=if k=i then 1 else 0:=fun k hk=>by
  rw[List.getElem?_set];by_cases e:i=k
  ·subst e;rw[if_pos rfl,if_pos (by simpa using hk),if_pos rfl];rfl
  ·rw[if_neg e,if_neg (fun h=>e h.symm)];exact lG _ _
 have hl:((List.replicate cs.length 0).set i 1).length=cs.length:=by simp
 have hj:∀k,k<cs.length->(0<((List.replicate cs.length 0).set i 1)[k]?.getD 0↔0<cs[k]?.getD 0):=fun k hk=>by
  rw[hg k hk];by_cases e:k=i
  ·subst e;rw[if_pos rfl];omega
  ·rw[if_neg e];constructor
   ·intro h;omega
   ·intro h1;have:(cs[k]?.getD 0,k)∈lvs cs:=(bX cs _ _).2 ⟨hk,rfl,h1⟩;rw[h]at this;simp at this;omega
 have hms:∀x∈(List.replicate cs.length 0).set i 1,x<=1:=fun x hx=>by
  obtain⟨k,hk,rfl⟩:=List.mem_iff_getElem.1 hx;have h1:=hg k (by omega);rw[List.getElem?_eq_getElem (by omega),Option.getD_some]at h1;rw[h1];split<;>omega
 have hn1:bH ((List.replicate cs.length 0).set i 1) i=1:=by rw[bH,hg i hi,if_pos rfl]
 have hkr:krN ((List.replicate cs.length 0).set i 1)=1024:=by
  rw[Uf cs _ hl hj,h];simp[hn1]
 refine⟨hl,hj,fun h11=>⟨by omega,h11,.inr ⟨?_,hkr⟩⟩,?_,fun x hx=>by have:=hms x hx;omega⟩
 ·unfold jq;have:∀(n k:Nat),k<n->((List.replicate n 0).set k 1).countP (fun n=>decide (0<n))=1:=fun n=>by
   induction n with
   | zero=>intro k hk;omega
   | succ n ih=>
    intro k hk;rw[List.replicate_succ];cases k with
    | zero=>simp[List.countP_replicate]
    | succ k=>
     rw[List.set_cons_succ,List.countP_cons,ih k (by omega)];simp
  exact this _ _ hi
 ·rw[qx,h];have hp:jk cs=[c]:=by rw[<-nk,h];rfl
  unfold Yx;rw[hp];simp[hn1]
end Go.Proofs.YtaebnkeddcbmkaaGreat.Bm
namespace Go.Proofs.YtaebnkeddcbmkaaGreat
open Go.RowKit
theorem TY:(prog.info? 215).map (fun i=>(i.zero,i.size,i.bytes))=some (some (.agg #[.int .i64 0,.int .i64 0]),2,16):=by kernel_rfl
theorem WV(v:Value)(W:World):(Instr.typeAssert (.iface 215 v) 20 215 true).run prog W=.ok (.tuple #[v,.bool true]) W:=by kernel_rfl
theorem afy(L:List Nod)(a q:Nat):n2 L++[.int .i64 (a:Int),.int .i64 (q:Int)]=n2 (L++[(a,q)]):=by
 unfold n2;rw[sI];rfl
theorem aaI{base p g cap a q gN jJ:Nat}{L:List Nod}{w w1 wN:World}(hp:jD w1 base p g cap L)(hw:Below w.heap.size w w1)(hb:base<=w.heap.size)
  (ho:wN.ownsRow base 215 2 (.slice (some ⟨gN,0,none⟩) (L.length+1) jJ) (L.length+1) (n2 L++[.int .i64 (a:Int),.int .i64 (q:Int)])) (hg:w1.grownBy wN (some g)) :
  jD (wN.setCell ⟨p,0,none⟩ (.slice (some ⟨gN,0,none⟩) (L.length+1) jJ)) base p gN jJ (L++[(a,q)])/\iO base w (wN.setCell ⟨p,0,none⟩ (.slice (some ⟨gN,0,none⟩) (L.length+1) jJ)):=by
 obtain⟨post,hpl,hrow⟩:=hp.row;have hv:Row wN p 252 [.slice (some ⟨g,0,none⟩) L.length cap]:=hp.var.keep (hg.block p hp.var.lt (fun e=>by injection e with e;exact hp.ne e));have hv2:=hv.aT 0 (.slice (some ⟨gN,0,none⟩) (L.length+1) jJ);have hv3:Row (wN.setCell ⟨p,0,none⟩ (.slice (some ⟨gN,0,none⟩) (L.length+1) jJ)) p 252 [.slice (some ⟨gN,0,none⟩) (L++[(a,q)]).length jJ]:=by
  rw[List.length_append];exact hv2
 rw[afy]at ho;have hne:(Value.slice (some ⟨gN,0,none⟩) (L.length+1) jJ).ownBlock≠some p:=fun e=>by
  obtain⟨c,fz,hk⟩:=Lib.ownsRow_kind ho p e;unfold Row at hv;rw[hv]at hk;injection hk with hk
  injection hk with _ hk
  exact absurd hk (by decide)
 have ho2:=ownsRow_setCell_other ho (a:=⟨p,0,none⟩) hne (.slice (some ⟨gN,0,none⟩) (L.length+1) jJ);refine⟨Jr hv3 hp.IX (by rw[List.length_append];exact ho2),?_⟩;have k1:iO base w w1:=iO.below hw hb;have k2:iO base w1 wN:=iO.grown hg hrow (.inr rfl) hp.IW;have k3:iO base wN (wN.setCell ⟨p,0,none⟩ (.slice (some ⟨gN,0,none⟩) (L.length+1) jJ)):=iO.grown (aB (aj wN (some p)) 0 _) hv (.inl rfl) hp.IX;exact(k1.trans k2).trans k3
theorem Qm(base p g cap a q:Nat)(L:List Nod)(w:World)(hb:base<=w.heap.size)(hL:L.length<=100000)(hp:jD w base p g cap L) :
  Calls prog 239 #[.pointer (some ⟨p,0,none⟩),.iface 215 (.agg #[.int .i64 (a:Int),.int .i64 (q:Int)])] w fun e w'=>e=.returned (.tuple #[])/\∃g' cap',jD w' base p g' cap' (L++[(a,q)])/\iO base w w':=by
 obtain⟨i0,hi,hz0,hz1,hz2⟩:=info_parts TY;have Hp:=hid hp;clear hp;go_enter func239,ntmps239
 have hta:=fun W=>WV (.agg #[.int .i64 (a:Int),.int .i64 (q:Int)]) W
 go_wp2_with fail
 clear hta;obtain⟨w1,hw1⟩:∃w1,w1=w.alloc (.cells #[.int .i64 (a:Int),.int .i64 (q:Int)] 215):=⟨_,rfl⟩;have hbl:Below w.heap.size w w1:=by rw[hw1];exact(Below.refl _ _).alloc (Nat.le_refl _) _
 have hp1:=Hp.out.below hbl;have Gl:Row w1 w.heap.size 215 [.int .i64 (a:Int),.int .i64 (q:Int)]:=by rw[hw1];exact Row.new w _ _
 have hgb:g<w.heap.size:=by
  obtain⟨_,_,hr⟩:=Hp.out.row;exact hr.lt
 rw[<-hw1];have hs1:w1.heap.size=w.heap.size+1:=by rw[hw1];simp
 clear hw1;have hcp:∀W,w1.grownBy W (some g)->W.cell? ⟨p,0,none⟩=some (.slice (some ⟨g,0,none⟩) L.length cap):=fun W hW=>by
  rw[hW.cell_far _ (by exact hp1.var.lt) (fun e=>hp1.ne (by injection e)),hp1.cell]
 have hfp:∀W,w1.grownBy W (some g)->W.frozen? ⟨p,0,none⟩=false:=fun W hW=>by
  rw[hW.frozen_far _ (by exact hp1.var.lt) (fun e=>hp1.ne (by injection e)),hp1.var.free]
 have hb0:∀W,w1.grownBy W (some g)->W.cell? ⟨w.heap.size,0,none⟩=some (.int .i64 (a:Int)):=fun W hW=>by
  rw[hW.cell_far _ (by exact Gl.lt) (fun e=>by injection e with e;exact absurd (show w.heap.size=g from e) (by omega)),Gl.cell];rfl
 have hb1:∀W,w1.grownBy W (some g)->W.cell? ⟨w.heap.size,1,none⟩=some (.int .i64 (q:Int)):=fun W hW=>by
  rw[hW.cell_far _ (by exact Gl.lt) (fun e=>by injection e with e;exact absurd (show w.heap.size=g from e) (by omega)),Gl.cell];rfl
 have c0:=hcp w1 (aj w1 _);have c1:=hb0 w1 (aj w1 _);have c2:=hb1 w1 (aj w1 _);have c0A:=hcp (w1.alloc (.cells #[.int .i64 (a:Int),.int .i64 (q:Int)] 215)) (aF (aj w1 _) _);have Hcp:=hid hcp;have Hfp:=hid hfp;have Hbl:=hid hbl;have Hp1:=hid hp1;have Hoa:Hid ((w1.alloc (.cells #[.int .i64 (a:Int),.int .i64 (q:Int)] 215)).drew.ownsRow base 215 2 (.slice (some ⟨g,0,none⟩) L.length cap) L.length (n2 L)):=hid (hp1.own.alloc _);have dx:Hid (∀(j:Nat) (u:Value),[Value.int .i64 (a:Int),Value.int .i64 (q:Int)][j]?=some u->(w1.alloc (.cells #[.int .i64 (a:Int),.int .i64 (q:Int)] 215)).drew.cell? ((⟨w1.heap.size,0,none⟩:Addr).add j)=some u):=hid (fun j u hu=>by
  match j,hu with
  | 0,hu=>simp at hu;subst hu;simp[Addr.add]
  | 1,hu=>simp at hu;subst hu;simp[Addr.add])
 have hs0:base<=w1.heap.size:=by omega
 clear hcp hfp hb0 hb1 hbl hp1 Gl Hp hs1 hgb;go_region_law ((refine step_append_lies ((w1.alloc (.cells #[.int .i64 (a:Int),.int .i64 (q:Int)] 215)).drew) (by rfl) _ _ _ (by rfl) base 215 i0 (.agg #[.int .i64 0,.int .i64 0]) 2 16 underlying252 hi hz0 hz1 hz2 rfl (by omega) (.slice (some ⟨g,0,none⟩) L.length cap) L.length (n2 L) (by rfl) Hoa.out ⟨w1.heap.size,0,none⟩ 1 1 [.int .i64 (a:Int),.int .i64 (q:Int)] (by rfl) (by rfl) dx.out (by intro u hu;simp at hu;rcases hu with rfl | rfl<;>rfl) (by omega) (by unfold maxLen;omega) (by omega) (by simp;omega) (w1.heap.size+1) (by simp) ?_;intro gN jJ wN hoN hgN Im _;have HoN:=hid hoN;have HGN:Hid (w1.grownBy wN (some g)):=hid ((bf (aF (aj w1 (some g)) _)).trans hgN);have csN:=Hcp.out wN HGN.out;have fsN:=Hfp.out wN HGN.out;clear hoN hgN Im))
 all_goals
  go_wp2_with fail
  go_end0
  obtain⟨r1,r2⟩:=aaI Hp1.out Hbl.out hb HoN.out HGN.out;exact⟨rfl,gN,jJ,r1,r2⟩
theorem afz(L:List Nod)(k:Nat):n2 (L.take k)=(n2 L).take (k*2):=YE L k
theorem afU{base p g cap n:Nat}{L:List Nod}{w w1:World}(hp:jD w1 base p g cap L)(hw:Below w.heap.size w w1)(hb:base<=w.heap.size)(hn:L.length=n+1) :
  jD (w1.setCell ⟨p,0,none⟩ (.slice (some ⟨g,0,none⟩) n cap)) base p g cap (L.take n)/\cO base p g w (w1.setCell ⟨p,0,none⟩ (.slice (some ⟨g,0,none⟩) n cap)):=by
 obtain⟨post,hpl,hrow⟩:=hp.row;have hv:=hp.var;have hv2:=hv.aT 0 (.slice (some ⟨g,0,none⟩) n cap);have hlt:(L.take n).length=n:=by rw[List.length_take];omega
 have hv3:Row (w1.setCell ⟨p,0,none⟩ (.slice (some ⟨g,0,none⟩) n cap)) p 252 [.slice (some ⟨g,0,none⟩) (L.take n).length cap]:=by
  rw[hlt];exact hv2
 have hf:=hp.fits;have hl:=fJ (f:=EX) (h:=EW) L;have k1:cO base p g w w1:=cO.below hw hb;have k3:cO base p g w1 (w1.setCell ⟨p,0,none⟩ (.slice (some ⟨g,0,none⟩) n cap)):=cO.grown (aB (aj w1 (some p)) 0 _) hv.lt (.inl rfl) hp.IX;refine⟨⟨hp.IX,hp.IW,by omega,hp.most,hv3,(n2 L).drop (n*2)++post,?_,?_⟩,k1.trans k3⟩
 ·rw[List.length_append,List.length_drop,hlt];unfold n2;omega
 ·rw[afz,<-List.append_assoc,List.take_append_drop];exact hrow.far (fun e=>hp.ne e.symm) _
theorem Xp(base p g cap n:Nat)(L:List Nod)(w:World)(hb:base<=w.heap.size)(hL:L.length<=100000)(hn:L.length=n+1)(hp:jD w base p g cap L) :
  Calls prog 238 #[.pointer (some ⟨p,0,none⟩)] w fun e w'=>e=.returned (.iface 215 (.agg #[EX (L[n]?.getD (0,0)),EW (L[n]?.getD (0,0))]))/\jD w' base p g cap (L.take n)/\cO base p g w w':=by
 have Hp:=hid hp;have c0:=hp.cell;obtain⟨post,hpl,hrow⟩:=hp.row;obtain⟨k0,k1⟩:=gy (f:=EX) (h:=EW) hrow n (by omega);have hge:L[n]?.getD (0,0)=L[n]:=by rw[List.getElem?_eq_getElem (by omega),Option.getD_some]
 rw[hge];have dR:=hid (afU hp (Below.refl _ _) hb hn);have hf0:w.frozen? ⟨p,0,none⟩=false:=hp.var.free 0;have hpb:=hp.var.lt;have hgb:=hrow.lt;have hft:=hp.fits;have Hn:Hid (L.length=n+1):=hid hn;clear hp hrow hpl hge;simp only[EX,EW]at k0 k1 ⊢;generalize L[n].1=a at *;generalize L[n].2=q at *;rw[hn]at c0 hft;have hn1:n<=100000:=by omega
 clear hn hL Hp;go_enter func238,ntmps238
 go_wp2_with fail
 go_ret;obtain⟨r1,r2⟩:=dR.out;have hb2:=(Below.refl (w.setCell ⟨p,0,none⟩ (.slice (some ⟨g,0,none⟩) n cap)).heap.size _).alloc (Nat.le_refl _) (.cells #[.int .i64 (a:Int),.int .i64 (q:Int)] 215);exact⟨rfl,r1.below hb2,r2.trans (cO.below hb2 (Nat.le_trans hb r2.bel.size))⟩
section
variable {w:World} {base p g cap n c:Nat} {L:List Nod}
theorem xO(h:jD w base p g cap L)(i j:Nat)(hi:i<L.length)(hj:j<L.length) :
  Calls prog 237 #[.slice (some ⟨g,0,none⟩) L.length cap,.int .i64 (i:Int),.int .i64 (j:Int)] w fun e w'=>e=.returned (.bool (decide (lt2 (Bm.at2 L i) (Bm.at2 L j))))/\Below w.heap.size w w':=by
 obtain⟨post,_,hr⟩:=h.row;have h1:=gy (f:=EX) (h:=EW) hr i hi;have h2:=gy (f:=EX) (h:=EW) hr j hj;unfold Bm.at2;rw[List.getElem?_eq_getElem hi,List.getElem?_eq_getElem hj,Option.getD_some,Option.getD_some];exact Ql g L.length cap i j L[i] L[j] w hi hj h1 h2
theorem xP(h:jD w base p g cap L)(i j:Nat)(hi:i<L.length)(hj:j<L.length) :
  Calls prog 240 #[.slice (some ⟨g,0,none⟩) L.length cap,.int .i64 (i:Int),.int .i64 (j:Int)] w fun e w'=>e=.returned (.tuple #[])/\jD w' base p g cap (swp (0,0) L i j)/\cO base p g w w':=by
 obtain⟨post,hl,hr⟩:=h.row;refine(Qn g cap i j L post w hi hj hr).mono ?_;rintro e w' ⟨he,h1,h2⟩;exact⟨he,h.same (oh _ _ _ _) h2 hl h1,cO.grown h2 hr.lt (.inr rfl) h.IW⟩
end
theorem qG:∀args w,(callFunc 237 args).run prog w=.ok (.enter 237 args) w:=enters_of func237 (by kernel_rfl) rfl
theorem qH:∀args w,(callFunc 240 args).run prog w=.ok (.enter 240 args) w:=enters_of func240 (by kernel_rfl) rfl
theorem SN:∀args w,(callFunc 150 args).run prog w=.ok (.enter 150 args) w:=enters_of func150 (by kernel_rfl) rfl
theorem Za:∀args w,(callFunc 239 args).run prog w=.ok (.enter 239 args) w:=enters_of func239 (by kernel_rfl) rfl
theorem aeC:∀args w,(callFunc 238 args).run prog w=.ok (.enter 238 args) w:=enters_of func238 (by kernel_rfl) rfl
theorem Zz(base p g cap j:Nat)(L:List Nod)(w:World)(hb:base<=w.heap.size)(hL:L.length<=100000)(hj:j<L.length)(hp:jD w base p g cap L)(hu:UpN L L.length j) :
  Calls prog 81 #[.iface 212 (.pointer (some ⟨p,0,none⟩)),.int .i64 (j:Int)] w fun e w'=>e=.returned (.tuple #[])/\∃L',L'.Perm L/\jC L' L'.length/\jD w' base p g cap L'/\cO base p g w w':=by
 obtain⟨n,hn⟩:∃n,n=L.length:=⟨_,rfl⟩;rw[<-hn]at hL hj hu;have Hn:=hid hn;have Hp:=hid hp;have Hu:=hid hu;clear hn hp hu;go_enter func81,ntmps81
 go_wp2;go_loopw [1] (fun jv wr=>∃(j:Nat) (L':List Nod),jv=.int .i64 (j:Int)/\j<n/\Hid (L'.Perm L)/\Hid (UpN L' n j)/\Hid (jD wr base p g cap L')/\Hid (cO base p g w wr)) (fun jv _=>(intOf jv).toNat)
 case atStart=>exact⟨j,L,rfl,hj,hid (List.Perm.refl _),Hu,Hp,hid (cO.refl _ _ _ _)⟩
 case round=>
  obtain⟨j,L',rfl,hj,hperm,hup,hpl,hk⟩:=hrel;clear Hp Hu;have hlen:L'.length=n:=by rw[hperm.out.length_eq,Hn.out]
  have Hlen:=hid hlen;have c0:=hpl.out.cell;rw[hlen]at c0;clear hlen;by_cases h0:j=0
  ·subst h0;have hfin:∃L',L'.Perm L/\jC L' L'.length/\jD wr base p g cap L'/\cO base p g w wr:=⟨L',hperm.out,by rw[Hlen.out];exact agI _ _ hup.out,hpl.out,hk.out⟩;have Hf:=hid hfin;clear hfin;go_wp2;go_end0
   exact⟨rfl,Hf.out⟩
  ·have mL:=xQ p n cap (some ⟨g,0,none⟩) wr c0;have eL:=qG;obtain⟨i,hi⟩:∃i,i=(j-1)/2:=⟨_,rfl⟩;have hq:((j-1:Nat):Int)/2=(i:Int):=by omega
   have hq2:((j:Int)-1)/2=(i:Int):=by omega
   have hij:i<j:=by omega
   have hl:=xO hpl.out j i (by rw[Hlen.out];exact hj) (by rw[Hlen.out];omega);rw[Hlen.out]at hl;have Hl:=hid hl;have Hi:=hid hi;clear hl hi;obtain⟨r,hr⟩:∃r,r=decide (lt2 (Bm.at2 L' j) (Bm.at2 L' i)):=⟨_,rfl⟩;rw[<-hr]at Hl;have Hr:=hid hr;clear hr;go_wp2_with fail
   refine Hl.out.mono ?_;rintro e w1 ⟨rfl,hb1⟩;clear hq hq2;have mq:=hpl.out.below hb1;have Hk1:=hid (hk.out.trans (cO.below hb1 (Nat.le_trans hb hk.out.bel.size)));have c1:=mq.cell;rw[Hlen.out]at c1;have Dm:=hid mq;clear hb1 mq mL eL c0 hk hpl Hl;cases r with
   | false=>
    have hlt:¬lt2 (Bm.at2 L' j) (Bm.at2 L' i):=by have:=Hr.out;simpa using this.symm
    rw[Hi.out]at hlt;have hfin:∃L',L'.Perm L/\jC L' L'.length/\jD w1 base p g cap L'/\cO base p g w w1:=⟨L',hperm.out,by rw[Hlen.out];exact ajS _ _ _ hup.out hlt,Dm.out,Hk1.out⟩;have Hf:=hid hfin;clear hfin hlt;go_wp2;go_end0
    exact⟨rfl,Hf.out⟩
   | true=>
    have hlt:lt2 (Bm.at2 L' j) (Bm.at2 L' i):=by have:=Hr.out;simpa using this.symm
    have Hlt:=hid hlt;have mS:=xR p n cap (some ⟨g,0,none⟩) w1 c1;have eS:=qH;have hs:=xP Dm.out i j (by rw[Hlen.out];omega) (by rw[Hlen.out];exact hj);rw[Hlen.out]at hs;have Hs:=hid hs;clear hs hlt;go_wp2_with fail
    refine Hs.out.mono ?_;rintro e w2 ⟨rfl,pG,hk2⟩;have aju:UpN (swp (0,0) L' i j) n i:=by
     have h1:=agJ L' n j (by rw[Hlen.out];exact Nat.le_refl _) hj (by omega) hup.out (by rw[<-Hi.out];exact Hlt.out);rw[<-Hi.out]at h1;exact h1
    have ald:=hid aju;have Ye:=hid pG;have Hk2:=hid (Hk1.out.trans hk2);have akR:=hid ((rF L' i j (by rw[Hlen.out];omega) (by rw[Hlen.out];exact hj)).trans hperm.out);clear aju pG hk2 mS eS Hs c1;go_wp2;go_roundw
    case rel=>exact⟨i,swp (0,0) L' i j,rfl,by omega,akR,ald,Ye,Hk2⟩
    case measure=>simp[intOf];omega
def QK(e:Ending):Prop:=∃b,e=.returned (.bool b)
theorem vG(b:Bool):QK (.returned (.bool b)):=⟨b,rfl⟩
theorem Ol(base p g cap n:Nat)(L:List Nod)(w:World)(hb:base<=w.heap.size)(hL:L.length<=100000)(hn:n<L.length)(hp:jD w base p g cap L)(hd:MW L n 0) :
  Calls prog 80 #[.iface 212 (.pointer (some ⟨p,0,none⟩)),.int .i64 0,.int .i64 (n:Int)] w fun e w'=>QK e/\∃L',L'.Perm L/\jC L' n/\(∀k,n<=k->Bm.at2 L' k=Bm.at2 L k)/\jD w' base p g cap L'/\cO base p g w w':=by
 obtain⟨nL,hnL⟩:∃nL,nL=L.length:=⟨_,rfl⟩;rw[<-hnL]at hL hn;have HnL:=hid hnL;have Hp:=hid hp;have Hd:=hid hd;clear hnL hp hd;go_enter func80,ntmps80
 go_wp2;go_loopw [7] (fun iv wr=>∃(i:Nat) (L':List Nod),iv=.int .i64 (i:Int)/\i<=n/\Hid (L'.Perm L)/\Hid (∀k,n<=k->Bm.at2 L' k=Bm.at2 L k)/\Hid (MW L' n i)/\Hid (jD wr base p g cap L')/\Hid (cO base p g w wr)) (fun iv _=>n-(intOf iv).toNat)
 case atStart=>exact⟨0,L,rfl,by omega,hid (List.Perm.refl _),hid (fun _ _=>rfl),Hd,Hp,hid (cO.refl _ _ _ _)⟩
 case round=>
  obtain⟨i,L',rfl,hi,hperm,hsame,hdn,hpl,hk⟩:=hrel;clear Hp Hd;have hlen:L'.length=nL:=by rw[hperm.out.length_eq,HnL.out]
  have Hlen:=hid hlen;have c0:=hpl.out.cell;rw[hlen]at c0;clear hlen;by_cases h1:n<=2*i+1
  ·have hfin:∃L',L'.Perm L/\jC L' n/\(∀k,n<=k->Bm.at2 L' k=Bm.at2 L k)/\jD wr base p g cap L'/\cO base p g w wr:=⟨L',hperm.out,vI _ _ _ hdn.out (fun k k0 kn ki=>by omega),hsame.out,hpl.out,hk.out⟩;have Hf:=hid hfin;clear hfin;go_wp2;go_ret;exact⟨vG _,Hf.out⟩
  ·by_cases h2:n<=2*i+2
   ·have iA:Hid (∀k,0<k->k<n->(k-1)/2=i->¬lt2 (Bm.at2 L' k) (Bm.at2 L' (2*i+1))):=hid (fun k k0 kn ki=>by
     obtain rfl:k=2*i+1:=by omega
     rw[fF];omega)
    have mL2:=xQ p nL cap (some ⟨g,0,none⟩) wr c0;have eL2:=qG;have hl2:=xO hpl.out (2*i+1) i (by rw[Hlen.out];omega) (by rw[Hlen.out];omega);rw[Hlen.out]at hl2;obtain⟨r2,hr2⟩:∃r2,r2=decide (lt2 (Bm.at2 L' (2*i+1)) (Bm.at2 L' i)):=⟨_,rfl⟩;rw[<-hr2]at hl2;have Hr2:=hid hr2;have Hl2:=hid hl2;clear hr2 hl2;have hcast:Value.int IntKind.i64 (((2*i+1:Nat)):Int)=.int .i64 (2*(i:Int)+1):=by go_num
    rw[hcast]at Hl2;clear hcast;go_wp2_with fail
    refine Hl2.out.mono ?_;rintro e w3 ⟨rfl,hb3⟩;have qI:=hpl.out.below hb3;have Hk3:=hid (hk.out.trans (cO.below hb3 (Nat.le_trans hb hk.out.bel.size)));have c3:=qI.cell;rw[Hlen.out]at c3;have Dw:=hid qI;clear hb3 qI mL2 eL2 c0 Hl2;cases r2 with
    | false=>
     have hlt:¬lt2 (Bm.at2 L' (2*i+1)) (Bm.at2 L' i):=by have:=Hr2.out;simpa using this.symm
     have hfin:∃L',L'.Perm L/\jC L' n/\(∀k,n<=k->Bm.at2 L' k=Bm.at2 L k)/\jD w3 base p g cap L'/\cO base p g w w3:=⟨L',hperm.out,vI _ _ _ hdn.out (fun k k0 kn ki=>by
      have h1:=iA.out k k0 kn ki;rw[fF]at h1 hlt ⊢;omega),hsame.out,Dw.out,Hk3.out⟩
     have Hf:=hid hfin;clear hfin hlt;go_wp2;go_ret;exact⟨vG _,Hf.out⟩
    | true=>
     have hlt:lt2 (Bm.at2 L' (2*i+1)) (Bm.at2 L' i):=by have:=Hr2.out;simpa using this.symm
     have Hlt:=hid hlt;have mS:=xR p nL cap (some ⟨g,0,none⟩) w3 c3;have eS:=qH;have hs:=xP Dw.out i (2*i+1) (by rw[Hlen.out];omega) (by rw[Hlen.out];omega);rw[Hlen.out]at hs;have Hs:=hid hs;clear hs hlt;go_wp2_with fail
     refine Hs.out.mono ?_;rintro e w4 ⟨rfl,zl,hk4⟩;have QV:=hid (wS L' n i (2*i+1) (by rw[Hlen.out];omega) (by omega) (by omega) (by omega) hdn.out Hlt.out iA.out);have Rf:=hid zl;have Hk4:=hid (Hk3.out.trans hk4);have Rh:=hid ((rF L' i (2*i+1) (by rw[Hlen.out];omega) (by rw[Hlen.out];omega)).trans hperm.out);have Rj:Hid (∀k,n<=k->Bm.at2 (swp (0,0) L' i (2*i+1)) k=Bm.at2 L k):=hid (fun k hk=>by
      rw[yx L' i (2*i+1) k (by rw[Hlen.out];omega) (by rw[Hlen.out];omega),if_neg (by omega),if_neg (by omega)];exact hsame.out k hk)
     clear zl hk4 mS eS Hs c3;go_wp2;go_roundw
     case rel=>exact⟨(2*i+1),swp (0,0) L' i (2*i+1),by go_num,by omega,Rh,Rj,QV,Rf,Hk4⟩
     case measure=>simp[intOf];omega
   ·have mL:=xQ p nL cap (some ⟨g,0,none⟩) wr c0;have eL:=qG;have hl:=xO hpl.out (2*i+2) (2*i+1) (by rw[Hlen.out];omega) (by rw[Hlen.out];omega);rw[Hlen.out]at hl;obtain⟨r,hr⟩:∃r,r=decide (lt2 (Bm.at2 L' (2*i+2)) (Bm.at2 L' (2*i+1))):=⟨_,rfl⟩;rw[<-hr]at hl;have Hr:=hid hr;rw[show((2*i+2:Nat):Int)=2*(i:Int)+1+1 by omega,show((2*i+1:Nat):Int)=2*(i:Int)+1 by omega]at hl;have Hl:=hid hl;clear hr hl;go_wp2_with fail
    refine Hl.out.mono ?_;rintro e w1 ⟨rfl,hb1⟩;have mq:=hpl.out.below hb1;have Hk1:=hid (hk.out.trans (cO.below hb1 (Nat.le_trans hb hk.out.bel.size)));have c1:=mq.cell;rw[Hlen.out]at c1;have Dm:=hid mq;clear hb1 mq mL eL c0 hk hpl Hl;cases r with
    | false=>
     have hlt:¬lt2 (Bm.at2 L' (2*i+2)) (Bm.at2 L' (2*i+1)):=by have:=Hr.out;simpa using this.symm
     have iA:Hid (∀k,0<k->k<n->(k-1)/2=i->¬lt2 (Bm.at2 L' k) (Bm.at2 L' (2*i+1))):=hid (fun k k0 kn ki=>by
      obtain rfl | rfl:k=2*i+1\/k=2*i+2:=by omega
      ·rw[fF];omega
      ·exact hlt)
     clear hlt;have mL2:=xQ p nL cap (some ⟨g,0,none⟩) w1 c1;have eL2:=qG;have hl2:=xO Dm.out (2*i+1) i (by rw[Hlen.out];omega) (by rw[Hlen.out];omega);rw[Hlen.out]at hl2;obtain⟨r2,hr2⟩:∃r2,r2=decide (lt2 (Bm.at2 L' (2*i+1)) (Bm.at2 L' i)):=⟨_,rfl⟩;rw[<-hr2]at hl2;have Hr2:=hid hr2;have Hl2:=hid hl2;clear hr2 hl2;have hcast:Value.int IntKind.i64 (((2*i+1:Nat)):Int)=.int .i64 (2*(i:Int)+1):=by go_num
     rw[hcast]at Hl2;clear hcast;go_wp2_with fail
     refine Hl2.out.mono ?_;rintro e w3 ⟨rfl,hb3⟩;have qI:=Dm.out.below hb3;have Hk3:=hid (Hk1.out.trans (cO.below hb3 (Nat.le_trans hb Hk1.out.bel.size)));have c3:=qI.cell;rw[Hlen.out]at c3;have Dw:=hid qI;clear hb3 qI mL2 eL2 c1 Hl2;cases r2 with
     | false=>
      have hlt:¬lt2 (Bm.at2 L' (2*i+1)) (Bm.at2 L' i):=by have:=Hr2.out;simpa using this.symm
      have hfin:∃L',L'.Perm L/\jC L' n/\(∀k,n<=k->Bm.at2 L' k=Bm.at2 L k)/\jD w3 base p g cap L'/\cO base p g w w3:=⟨L',hperm.out,vI _ _ _ hdn.out (fun k k0 kn ki=>by
       have h1:=iA.out k k0 kn ki;rw[fF]at h1 hlt ⊢;omega),hsame.out,Dw.out,Hk3.out⟩
      have Hf:=hid hfin;clear hfin hlt;go_wp2;go_ret;exact⟨vG _,Hf.out⟩
     | true=>
      have hlt:lt2 (Bm.at2 L' (2*i+1)) (Bm.at2 L' i):=by have:=Hr2.out;simpa using this.symm
      have Hlt:=hid hlt;have mS:=xR p nL cap (some ⟨g,0,none⟩) w3 c3;have eS:=qH;have hs:=xP Dw.out i (2*i+1) (by rw[Hlen.out];omega) (by rw[Hlen.out];omega);rw[Hlen.out]at hs;have Hs:=hid hs;clear hs hlt;go_wp2_with fail
      refine Hs.out.mono ?_;rintro e w4 ⟨rfl,zl,hk4⟩;have QV:=hid (wS L' n i (2*i+1) (by rw[Hlen.out];omega) (by omega) (by omega) (by omega) hdn.out Hlt.out iA.out);have Rf:=hid zl;have Hk4:=hid (Hk3.out.trans hk4);have Rh:=hid ((rF L' i (2*i+1) (by rw[Hlen.out];omega) (by rw[Hlen.out];omega)).trans hperm.out);have Rj:Hid (∀k,n<=k->Bm.at2 (swp (0,0) L' i (2*i+1)) k=Bm.at2 L k):=hid (fun k hk=>by
       rw[yx L' i (2*i+1) k (by rw[Hlen.out];omega) (by rw[Hlen.out];omega),if_neg (by omega),if_neg (by omega)];exact hsame.out k hk)
      clear zl hk4 mS eS Hs c3;go_wp2;go_roundw
      case rel=>exact⟨(2*i+1),swp (0,0) L' i (2*i+1),by go_num,by omega,Rh,Rj,QV,Rf,Hk4⟩
      case measure=>simp[intOf];omega
    | true=>
     have hlt:lt2 (Bm.at2 L' (2*i+2)) (Bm.at2 L' (2*i+1)):=by have:=Hr.out;simpa using this.symm
     have iA:Hid (∀k,0<k->k<n->(k-1)/2=i->¬lt2 (Bm.at2 L' k) (Bm.at2 L' (2*i+2))):=hid (fun k k0 kn ki=>by
      obtain rfl | rfl:k=2*i+1\/k=2*i+2:=by omega
      ·rw[fF]at hlt ⊢;omega
      ·rw[fF];omega)
     clear hlt;have mL2:=xQ p nL cap (some ⟨g,0,none⟩) w1 c1;have eL2:=qG;have hl2:=xO Dm.out (2*i+2) i (by rw[Hlen.out];omega) (by rw[Hlen.out];omega);rw[Hlen.out]at hl2;obtain⟨r2,hr2⟩:∃r2,r2=decide (lt2 (Bm.at2 L' (2*i+2)) (Bm.at2 L' i)):=⟨_,rfl⟩;rw[<-hr2]at hl2;have Hr2:=hid hr2;have Hl2:=hid hl2;clear hr2 hl2;have hcast:Value.int IntKind.i64 (((2*i+2:Nat)):Int)=.int .i64 (2*(i:Int)+1+1):=by go_num
     rw[hcast]at Hl2;clear hcast;go_wp2_with fail
     refine Hl2.out.mono ?_;rintro e w3 ⟨rfl,hb3⟩;have qI:=Dm.out.below hb3;have Hk3:=hid (Hk1.out.trans (cO.below hb3 (Nat.le_trans hb Hk1.out.bel.size)));have c3:=qI.cell;rw[Hlen.out]at c3;have Dw:=hid qI;clear hb3 qI mL2 eL2 c1 Hl2;cases r2 with
     | false=>
      have hlt:¬lt2 (Bm.at2 L' (2*i+2)) (Bm.at2 L' i):=by have:=Hr2.out;simpa using this.symm
      have hfin:∃L',L'.Perm L/\jC L' n/\(∀k,n<=k->Bm.at2 L' k=Bm.at2 L k)/\jD w3 base p g cap L'/\cO base p g w w3:=⟨L',hperm.out,vI _ _ _ hdn.out (fun k k0 kn ki=>by
       have h1:=iA.out k k0 kn ki;rw[fF]at h1 hlt ⊢;omega),hsame.out,Dw.out,Hk3.out⟩
      have Hf:=hid hfin;clear hfin hlt;go_wp2;go_ret;exact⟨vG _,Hf.out⟩
     | true=>
      have hlt:lt2 (Bm.at2 L' (2*i+2)) (Bm.at2 L' i):=by have:=Hr2.out;simpa using this.symm
      have Hlt:=hid hlt;have mS:=xR p nL cap (some ⟨g,0,none⟩) w3 c3;have eS:=qH;have hs:=xP Dw.out i (2*i+2) (by rw[Hlen.out];omega) (by rw[Hlen.out];omega);rw[Hlen.out]at hs;have Hs:=hid hs;clear hs hlt;go_wp2_with fail
      refine Hs.out.mono ?_;rintro e w4 ⟨rfl,zl,hk4⟩;have QV:=hid (wS L' n i (2*i+2) (by rw[Hlen.out];omega) (by omega) (by omega) (by omega) hdn.out Hlt.out iA.out);have Rf:=hid zl;have Hk4:=hid (Hk3.out.trans hk4);have Rh:=hid ((rF L' i (2*i+2) (by rw[Hlen.out];omega) (by rw[Hlen.out];omega)).trans hperm.out);have Rj:Hid (∀k,n<=k->Bm.at2 (swp (0,0) L' i (2*i+2)) k=Bm.at2 L k):=hid (fun k hk=>by
       rw[yx L' i (2*i+2) k (by rw[Hlen.out];omega) (by rw[Hlen.out];omega),if_neg (by omega),if_neg (by omega)];exact hsame.out k hk)
      clear zl hk4 mS eS Hs c3;go_wp2;go_roundw
      case rel=>exact⟨(2*i+2),swp (0,0) L' i (2*i+2),by go_num,by omega,Rh,Rj,QV,Rf,Hk4⟩
      case measure=>simp[intOf];omega
def oU(w:World)(base p:Nat)(L:List Nod):Prop:=jC L L.length/\∃g cap,jD w base p g cap L
theorem zX(base p a q:Nat)(L:List Nod)(w:World)(hb:base<=w.heap.size)(hL:L.length<100000)(hp:oU w base p L) :
  Calls prog 52 #[.iface 212 (.pointer (some ⟨p,0,none⟩)),.iface 215 (.agg #[.int .i64 (a:Int),.int .i64 (q:Int)])] w fun e w'=>e=.returned (.tuple #[])/\∃L',L'.Perm ((a,q) :: L)/\oU w' base p L'/\iO base w w':=by
 obtain⟨hh,g,cap,hpl⟩:=hp;have sG:=hid (Qm base p g cap a q L w hb (by omega) hpl);have Hh:=hid hh;clear hh hpl;have mP:=afT p w;have eP:=Za;go_enter func52,ntmps52
 go_wp2_with fail
 refine sG.out.mono ?_;rintro e w1 ⟨rfl,g1,Sg,mq,hk1⟩;have hlen:(L++[(a,q)]).length=L.length+1:=by simp
 have c1:=mq.cell;rw[hlen]at c1;have hup:=Zz base p g1 Sg L.length (L++[(a,q)]) w1 (Nat.le_trans hb hk1.bel.size) (by omega) (by omega) mq (by rw[hlen];exact Tp L (a,q) Hh.out);have Hup:=hid hup;have Hk1:=hid hk1;have Dm:=hid mq;have mN:=adn p (L.length+1) Sg (some ⟨g1,0,none⟩) w1 c1;have eN:=SN;have Hlen:Hid (∀W,Calls prog 150 #[.slice (some ⟨g1,0,none⟩) (L.length+1) Sg] W fun e w'=>e=.returned (.int .i64 ((L.length:Int)+1))/\W=w'):=hid (fun W=>by
  have h1:=rT (some ⟨g1,0,none⟩) (L.length+1) Sg W;rw[Int.natCast_add]at h1;exact h1)
 clear hup hk1 mq hlen mP eP sG Hh;go_wp2_with fail
 refine(Hlen.out _).mono ?_;rintro e w2 ⟨rfl,rfl⟩;clear mN eN c1 Hlen;go_wp2_with fail
 refine Hup.out.mono ?_;rintro e w2 ⟨rfl,L',hpm,hhp,pG,hk2⟩;have hfin:∃L',L'.Perm ((a,q) :: L)/\oU w2 base p L'/\iO base w w2:=⟨L',hpm.trans (List.perm_append_singleton _ _),⟨hhp,_,_,pG⟩,Hk1.out.trans (hk2.kept Dm.out)⟩;have Hf:=hid hfin;clear hfin hpm hhp pG hk2 Hup;go_wp2;go_end0
 exact⟨rfl,Hf.out⟩
def alp(w w':World)(base p g cap:Nat)(L:List Nod)(a q:Nat):Prop:=∃L',L.Perm ((a,q) :: L')/\(∀y∈L',¬lt2 y (a,q))/\jC L' L'.length/\jD w' base p g cap L'/\cO base p g w w'
def apH(w w':World)(base p:Nat)(L:List Nod)(a q:Nat):Prop:=∃L',L.Perm ((a,q) :: L')/\(∀y∈L',¬lt2 y (a,q))/\oU w' base p L'/\iO base w w'
theorem aaC{w w':World}{base p g cap n:Nat}{L L2:List Nod}(hn:L.length=n+1)(hh:jC L L.length)(hpm:L2.Perm (swp (0,0) L 0 n))(hh2:jC L2 n)(hat:∀k,n<=k->Bm.at2 L2 k=Bm.at2 (swp (0,0) L 0 n) k)(hpl:jD w' base p g cap (L2.take n))(hk:cO base p g w w') :
  L2[n]?.getD (0,0)=Bm.at2 L 0/\alp w w' base p g cap L (Bm.at2 L 0).1 (Bm.at2 L 0).2:=by
 have Lf:=hpm.trans (rF L 0 n (by omega) (by omega));have hl2:L2.length=n+1:=by rw[Lf.length_eq,hn]
 have he:Bm.at2 L2 n=Bm.at2 L 0:=by
  rw[hat n (Nat.le_refl _),yx L 0 n n (by omega) (by omega),if_pos rfl]
 have hL2:L2=L2.take n++[Bm.at2 L 0]:=by
  rw[<-he];unfold Bm.at2;rw[List.getElem?_eq_getElem (by omega),Option.getD_some,<-List.take_succ_eq_append_getElem (by omega),List.take_of_length_le (by omega)]
 have hperm:L.Perm (Bm.at2 L 0 :: L2.take n):=Lf.symm.trans (by
  conv=>lhs;rw[hL2]
  exact List.perm_append_singleton _ _)
 refine⟨he,L2.take n,hperm,fun y hy=>?_,?_,hpl,hk⟩
 ·have hy2:y∈L:=hperm.mem_iff.2 (List.mem_cons_of_mem _ hy);obtain⟨k,hk,rfl⟩:=List.mem_iff_getElem.1 hy2;have h1:=Oa L L.length hh k hk;unfold Bm.at2 at h1;rw[List.getElem?_eq_getElem hk,Option.getD_some]at h1;exact h1
 ·rw[List.length_take,Nat.min_eq_left (by omega)];exact Tq L2 n hh2
theorem TH(base p g cap n:Nat)(L:List Nod)(w:World)(hb:base<=w.heap.size)(hL:L.length<=100000)(hn:L.length=n+1)(hh:jC L L.length)(hpl:jD w base p g cap L) :
  Calls prog 51 #[.iface 212 (.pointer (some ⟨p,0,none⟩))] w fun e w'=>e=.returned (.iface 215 (.agg #[.int .i64 ((Bm.at2 L 0).1:Int),.int .i64 ((Bm.at2 L 0).2:Int)]))/\alp w w' base p g cap L (Bm.at2 L 0).1 (Bm.at2 L 0).2:=by
 have hn1:n<=100000:=by omega
 have Hh:=hid hh;have c0:=hpl.cell;rw[hn]at c0;have Hsw:=xP hpl 0 n (by omega) (by omega);rw[hn]at Hsw;have Hs:=hid Hsw;have Hlen:Hid (∀W,Calls prog 150 #[.slice (some ⟨g,0,none⟩) (n+1) cap] W fun e w'=>e=.returned (.int .i64 ((n:Int)+1))/\W=w'):=hid (fun W=>by
  have h1:=rT (some ⟨g,0,none⟩) (n+1) cap W;rw[Int.natCast_add]at h1;exact h1)
 have HL:=hid hL;have Hn:=hid hn;have mN:=adn p (n+1) cap (some ⟨g,0,none⟩) w c0;have eN:=SN;have mS:=xR p (n+1) cap (some ⟨g,0,none⟩) w c0;have eS:=qH;obtain⟨a,ha⟩:∃a,a=(Bm.at2 L 0).1:=⟨_,rfl⟩;obtain⟨q,hq⟩:∃q,q=(Bm.at2 L 0).2:=⟨_,rfl⟩;rw[<-ha,<-hq];have Ha:=hid ha;have Hq:=hid hq;clear hh hpl Hsw hn hL ha hq c0;go_enter func51,ntmps51
 go_wp2_with fail
 refine(Hlen.out _).mono ?_;rintro e w2 ⟨rfl,rfl⟩;clear mN eN Hlen;go_wp2_with fail
 refine Hs.out.mono ?_;rintro e w1 ⟨rfl,mq,hk1⟩;have hb1:=Nat.le_trans hb hk1.bel.size;have Hdn:=hid (Ol base p g cap n (swp (0,0) L 0 n) w1 hb1 (by rw[oh];exact HL.out) (by rw[oh,Hn.out];omega) mq (Zv L n Hn.out (by have h1:=Hh.out;rw[Hn.out]at h1;exact h1)));have Hk1:=hid hk1;clear mq hk1 mS eS Hs;go_wp2_with fail
 refine Hdn.out.mono ?_;rintro e w2 ⟨hbe,L2,hpm,hh2,hat,pG,hk2⟩;obtain⟨b0,rfl⟩:=hbe;have hl2:L2.length=n+1:=by rw[hpm.length_eq,oh,Hn.out]
 have QA:=hid (Xp base p g cap n L2 w2 (Nat.le_trans hb1 hk2.bel.size) (by have:=HL.out;have:=Hn.out;omega) hl2 pG);have Hk2:=hid (Hk1.out.trans hk2);have Hpm:=hid hpm;have Hh2:=hid hh2;have Hat:=hid hat;clear hpm hh2 hat pG hk2 hl2 Hdn Hk1 hb1;have mP:=ajE p w2;have eP:=aeC;go_wp2_with fail
 refine QA.out.mono ?_;rintro e w3 ⟨rfl,qI,hk3⟩;obtain⟨he,hfin⟩:=aaC Hn.out Hh.out Hpm.out Hh2.out Hat.out qI (Hk2.out.trans hk3);have Hf:Hid (alp w w3 base p g cap L a q):=hid (by rw[Ha.out,Hq.out];exact hfin);have Hv:Hid (Value.iface 215 (.agg #[EX (L2[n]?.getD (0,0)),EW (L2[n]?.getD (0,0))])=.iface 215 (.agg #[.int .i64 (a:Int),.int .i64 (q:Int)])):=hid (by rw[he,Ha.out,Hq.out];rfl);rw[Hv.out];clear he hfin qI hk3 QA Hv mP eP;go_wp2;go_ret;exact⟨rfl,Hf.out⟩
theorem jD.Uc{w w':World}{base p g cap:Nat}{L:List Nod}(h:jD w base p g cap L)(hp:w'.heap[p]?=w.heap[p]?)(hg:w'.heap[g]?=w.heap[g]?):jD w' base p g cap L:=by
 obtain⟨post,h1,hr⟩:=h.row;exact⟨h.IX,h.IW,h.fits,h.most,h.var.keep hp,post,h1,hr.keep hg⟩
theorem Uo{w w1 w2:World}{base:Nat}(hk:iO base w w1)(hB:Below w.heap.size w1 w2)(hb:base<=w.heap.size):iO base w w2:=
 ⟨hk.bel.trans (hB.mono hb),fun b t cs h1 h2 hr=>(hk.rows b t cs h1 h2 hr).keep (hB.block b hr.lt)⟩
theorem uj(base p n:Nat)(L:List Nod)(w:World)(hb:base<=w.heap.size)(hL:L.length<=100000)(hn:L.length=n+1)(hp:oU w base p L) :
  Calls prog 151 #[.pointer (some ⟨p,0,none⟩)] w fun e w'=>e=.returned (.agg #[.int .i64 ((Bm.at2 L 0).1:Int),.int .i64 ((Bm.at2 L 0).2:Int)])/\apH w w' base p L (Bm.at2 L 0).1 (Bm.at2 L 0).2:=by
 obtain⟨hh,g,cap,hpl⟩:=hp;have hal:=(Below.refl w.heap.size w).alloc (Nat.le_refl _) (.cells #[.int .i64 0,.int .i64 0] 215);have hp1:=hpl.below hal;have QA:=hid (TH base p g cap n L _ (Nat.le_trans hb hal.size) hL hn hh hp1);have Hal:=hid hal;have Hb:=hid hb;obtain⟨a,ha⟩:∃a,a=(Bm.at2 L 0).1:=⟨_,rfl⟩;obtain⟨q,hq⟩:∃q,q=(Bm.at2 L 0).2:=⟨_,rfl⟩;rw[<-ha,<-hq]at QA ⊢;have hta:=fun W=>WV (.agg #[.int .i64 (a:Int),.int .i64 (q:Int)]) W
 have agX:=hid hpl.var.lt;have agT:Hid (g<w.heap.size):=hid (by obtain⟨_,_,hr⟩:=hpl.row;exact hr.lt);have aps:=hid hpl;clear hh hpl hal hp1 hL hn ha hq;go_enter func151,ntmps151
 go_wp2_with fail
 refine QA.out.mono ?_;rintro e w1 ⟨rfl,hpp⟩;obtain⟨L',hpm,hle,hhp,mq,hk1⟩:=hpp;have hrow:Row w1 w.heap.size 215 [.int .i64 0,.int .i64 0]:=(Row.new w 215 [.int .i64 0,.int .i64 0]).keep (hk1.blk _ (by simp) (by have:=agX.out;omega) (by have:=agT.out;omega));have k0:=hrow.cell 0;have k1:=hrow.cell 1;have f0:=hrow.free 0;have f1:=hrow.free 1;simp only[List.getElem?_cons_zero,List.getElem?_cons_succ]at k0 k1;have hlt:=hrow.lt;have gF:=hid hrow;have iy:Hid (∃L',L.Perm ((a,q) :: L')/\(∀y∈L',¬lt2 y (a,q))/\jC L' L'.length/\jD w1 base p g cap L'/\cO base p g w w1):=hid ⟨L',hpm,hle,hhp,mq,(cO.below Hal.out Hb.out).trans hk1⟩;clear hpm hle hhp mq hk1 hrow QA;go_wp2_with fail
 have hres:Row (((w1.setCell ⟨w.heap.size,0,none⟩ (.int .i64 (a:Int))).setCell ⟨w.heap.size,1,none⟩ (.int .i64 (q:Int))).alloc (.cells #[.int .i64 (a:Int),.int .i64 (q:Int)] 215)) w.heap.size 215 [.int .i64 (a:Int),.int .i64 (q:Int)]:=((gF.out.aT 0 _).aT 1 _).alloc _;refine bodyPost_ret (results_cell_row rfl _ _ w.heap.size 215 #[.int .i64 (a:Int),.int .i64 (q:Int)] (0,0) _ rfl hres underlying215 rfl (by kernel_rfl)) rfl ?_;refine⟨rfl,?_⟩;obtain⟨L',hpm,hle,hhp,mq,hk1⟩:=iy.out;have hB:Below w.heap.size w1 (((w1.setCell ⟨w.heap.size,0,none⟩ (.int .i64 (a:Int))).setCell ⟨w.heap.size,1,none⟩ (.int .i64 (q:Int))).alloc (.cells #[.int .i64 (a:Int),.int .i64 (q:Int)] 215)):=
  (((Below.refl _ _).setCell (by exact Nat.le_refl _) _).setCell (by exact Nat.le_refl _) _).alloc (by simpa [World.setCell]using Nat.le_of_lt hlt) _
 exact⟨L',hpm,hle,⟨hhp,g,cap,mq.Uc (hB.block p agX.out) (hB.block g agT.out)⟩,Uo (hk1.kept aps.out) hB Hb.out⟩
theorem abS(A:Option Addr)(c:Nat)(cs:List Nat)(w:World)(hl:cs.length<=256)(hr:Reads w A (aM cs)) :
  Calls prog 149 #[.slice A cs.length c] w fun e w'=>∃p L,e=.returned (.pointer (some ⟨p,0,none⟩))/\L.Perm (lvs cs)/\oU w' w.heap.size p L/\Below w.heap.size w w':=by
 have Hr:=hid hr;clear hr;go_enter func149,ntmps149
 go_wp2;go_loopw [10] (fun iv wr=>∃k:Nat,k<=cs.length/\iv=.int .i64 (k:Int)/\Hid (∃L,L.Perm (iR cs k)/\oU wr w.heap.size (w.heap.size+1) L)/\Hid (Below w.heap.size w wr)) (fun iv _=>cs.length-(intOf iv).toNat)
 case atStart=>
  have hb1:=(Below.refl w.heap.size w).alloc (Nat.le_refl _) (.cells #[] 215);have hb2:=hb1.alloc hb1.size (.cells #[.slice (some ⟨w.heap.size,0,none⟩) 0 0] 252);have r1:=(Row.new w 215 []).alloc (.cells #[.slice (some ⟨w.heap.size,0,none⟩) 0 0] 252);have r2:=Row.new (w.alloc (.cells #[] 215)) 252 [.slice (some ⟨w.heap.size,0,none⟩) 0 0];rw[show(w.alloc (.cells #[] 215)).heap.size=w.heap.size+1 by simp]at r2;exact⟨0,by omega,rfl,hid ⟨[],by simp[iR],fun k h0 hk=>by simp at hk,w.heap.size,0,⟨by omega,by omega,by simp,by unfold maxLen;omega,r2,[],rfl,r1⟩⟩,hid hb2⟩
 case round=>
  obtain⟨k,hk,rfl,hpl,hbel⟩:=hrel;by_cases hkl:k<cs.length
  ·obtain⟨g,off,rfl,hc⟩:=fZ (aC Hr.out hbel.out) (by omega);have c0:=hc k hkl;have Hst:=hid (iW cs k);rw[List.getElem?_eq_getElem hkl,Option.getD_some]at Hst;have hln:=kH cs k;clear hc;generalize cs[k]=x at *;by_cases hx:0<x
   ·rw[if_pos hx]at Hst;have hpush:Calls prog 52 #[.iface 212 (.pointer (some ⟨w.heap.size+1,0,none⟩)),.iface 215 (.agg #[.int .i64 (x:Int),.int .i64 (k:Int)])] wr fun e w'=>e=.returned (.tuple #[])/\Hid (∃L,L.Perm (iR cs (k+1))/\oU w' w.heap.size (w.heap.size+1) L)/\Hid (Below w.heap.size w w'):=by
     obtain⟨L,hpm,hph⟩:=hpl.out;refine(zX w.heap.size (w.heap.size+1) x k L wr hbel.out.size (by rw[hpm.length_eq];omega) hph).mono ?_;rintro e w' ⟨rfl,L',ajl,aqk,hk'⟩;refine⟨rfl,hid ⟨L',ajl.trans ?_,aqk⟩,hid (hbel.out.trans hk'.bel)⟩;rw[Hst.out];exact(hpm.cons _).trans (List.perm_append_singleton _ _).symm
    have sG:=hid hpush;clear hpush hpl hbel;go_wp2_with fail
    refine sG.out.mono ?_;rintro e w' ⟨rfl,hpl',Zo⟩;go_wp2;go_roundw
    case rel=>exact⟨k+1,by omega,by go_num,hpl',Zo⟩
    case measure=>simp[intOf];omega
   ·rw[if_neg hx,List.append_nil]at Hst;go_wp2;go_roundw
    case rel=>exact⟨k+1,by omega,by go_num,by rw[Hst.out];exact hpl,hbel⟩
    case measure=>simp[intOf];omega
  ·obtain rfl:k=cs.length:=by omega
   go_wp2;go_ret;obtain⟨L,hpm,hph⟩:=hpl.out;exact⟨_,L,rfl,hpm,hph,hbel.out⟩
namespace Bm
structure oP(A ls:List Nat)(k:Nat):Prop where
 len:ls.length=A.length
 low:∀i,i<k->bH ls i=0
 none:∀i,k<=i->i<A.length->bH A i=0->bH ls i=0
 some:∀i,k<=i->i<A.length->bH A i≠0->bH ls i=bH ls (bH A i)+1
 most:∀i,i<A.length->bH ls i<=A.length-i
theorem Ia(A:List Nat):oP A (List.replicate A.length 0) A.length where
 len:=by simp
 low:=fun i _=>lG _ _
 none:=fun i _ _ _=>lG _ _
 some:=fun i h1 h2 _=>by omega
 most:=fun i _=>by rw[lG];omega
theorem SC{A ls:List Nat}(h:oP A ls 0):QM A ls:=⟨h.len,fun i hi=>h.none i (by omega) hi,fun i hi=>h.some i (by omega) hi,h.most⟩
theorem NJ{A ls:List Nat}{k:Nat}(h:oP A ls (k+1))(h0:bH A k=0):oP A ls k:=
 ⟨h.len,fun i hi=>h.low i (by omega),fun i h1 h2 h3=>by
  by_cases e:i=k
  ·subst e;exact h.low i (by omega)
  ·exact h.none i (by omega) h2 h3,fun i h1 h2 h3=>by
  by_cases e:i=k
  ·subst e;exact absurd h0 h3
  ·exact h.some i (by omega) h2 h3,h.most⟩
theorem NK{A ls:List Nat}{k:Nat}(hA:∀i,i<A.length->bH A i≠0->i<bH A i/\bH A i<A.length)(hk:k<A.length)(h:oP A ls (k+1))(h0:bH A k≠0):oP A (ls.set k (bH ls (bH A k)+1)) k:=by
 have hs:∀i,bH (ls.set k (bH ls (bH A k)+1)) i=if i=k then bH ls (bH A k)+1 else bH ls i:=fun i=>by
  unfold bH;rw[List.getElem?_set];by_cases e:k=i
  ·subst e;rw[if_pos rfl,if_pos (by rw[h.len];exact hk),if_pos rfl,Option.getD_some]
  ·rw[if_neg e,if_neg (fun h=>e h.symm)]
 have hAk:=hA k hk h0;refine⟨by rw[List.length_set,h.len],fun i hi=>?_,fun i h1 h2 h3=>?_,fun i h1 h2 h3=>?_,fun i hi=>?_⟩
 ·rw[hs,if_neg (by omega)];exact h.low i (by omega)
 ·rw[hs];by_cases e:i=k
  ·subst e;exact absurd h3 h0
  ·rw[if_neg e];exact h.none i (by omega) h2 h3
 ·have h4:=hA i h2 h3;rw[hs,hs,if_neg (show ¬bH A i=k by omega)];by_cases e:i=k
  ·subst e;rw[if_pos rfl]
  ·rw[if_neg e];exact h.some i (by omega) h2 h3
 ·rw[hs];split
  ·next e=>
   subst e;have:=h.most (bH A i) hAk.2;omega
  ·exact h.most i hi
end Bm
theorem Qi(A:Option Addr)(c:Nat)(bs:List Nat)(w:World)(hl:bs.length<=100000)(hA:∀i,i<bs.length->bH bs i≠0->i<bH bs i/\bH bs i<bs.length)(hr:Reads w A (aM bs)) :
  Calls prog 152 #[.slice A bs.length c] w fun e w'=>∃g ls,e=.returned (.slice (some ⟨g,0,none⟩) bs.length bs.length)/\Row w' g 3 (aM ls)/\QM bs ls/\w.heap.size<=g/\Below w.heap.size w w':=by
 obtain⟨i0,hi,hz0,hz1,hz2⟩:=info_parts gQ;have Hr:=hid hr;have HA:=hid hA;clear hr hA;obtain⟨g0,hg0⟩:∃g,g=w.heap.size:=⟨_,rfl⟩;have Hg0:=hid hg0;clear hg0;go_enter func152,ntmps152
 go_wp2_with (at_make;refine wpList_make_full _ rfl _ _ 115 rfl w.heap.size 3 i0 (.int .i64 0) 1 underlying115 hi hz0 hz1 .i64 .i64 _ _ bs.length rfl rfl ?c1 ?c1 ?c2 ?c3 ?c4 ?_)
 case c1=>omega
 case c2=>first | omega | (rw[hz2];omega)
 case c3=>unfold maxLen;omega
 try case c4=>exact Nat.le_refl _
 intro w1 hown1 hg1;have hb1:=aJ hg1;have hr1:=dH hown1;rw[<-Hg0.out]at hr1 ⊢;have Hb1:=hid hb1;have Hr1:=hid hr1;have Hd1:=hid (Ia bs);clear hown1 hg1 hb1 hr1 hi hz0 hz1 hz2;go_wp2;go_loopw [4] (fun iv wr=>∃(k:Nat) (ls:List Nat),k<=bs.length/\iv=.int .i64 ((k:Int)-1)/\Hid (oP bs ls k)/\Hid (Row wr g0 3 (aM ls))/\Hid (Below w.heap.size w wr)) (fun iv _=>(intOf iv+1).toNat)
 case atStart=>exact⟨bs.length,_,by omega,by go_num,Hd1,Hr1,Hb1⟩
 case round=>
  obtain⟨k,ls,hk,rfl,hd,hrow,hbel⟩:=hrel;clear Hr1 Hb1 Hd1;by_cases h0:0<k
  ·obtain⟨j,rfl⟩:∃j,k=j+1:=⟨k-1,by omega⟩;have hjl:j<bs.length:=by omega
   obtain⟨g,off,rfl,hc⟩:=fZ (aC Hr.out hbel.out) (by omega);have c0:=hc j hjl;have hgj:bH bs j=bs[j]:=by unfold bH;rw[List.getElem?_eq_getElem hjl,Option.getD_some]
   have Haj:=hid (HA.out j hjl);have Hsk:=hid (NJ hd.out);have Hst:=hid (NK HA.out hjl hd.out);rw[hgj]at Haj Hsk Hst;clear hc;have hll:ls.length=bs.length:=hd.out.len;have aje:=fun(h:bs[j]<bs.length)=>hd.out.most bs[j] h
   have adL:=hid aje;clear aje hgj;generalize bs[j]=x at *;rw[show((j+1:Nat):Int)-1=(j:Int) by omega];by_cases hx:x=0
   ·subst hx;have Hs2:=hid (Hsk.out rfl);clear Hst Haj adL;go_wp2;go_roundw
    case rel=>exact⟨j,ls,by omega,by go_num,Hs2,hrow,hbel⟩
    case measure=>simp[intOf]
   ·obtain⟨a1,a2⟩:=Haj.out hx;have hm:=adL.out a2;have Hs2:=hid (Hst.out hx);have hxl:x<ls.length:=by omega
    have k0:wr.cell? ⟨g0,x,none⟩=some (.int .i64 (bH ls x:Int)):=by
     unfold bH;rw[hrow.out.cell,bK ls x hxl,List.getElem?_eq_getElem hxl,Option.getD_some]
    have k1:wr.cell? ⟨g0,j,none⟩=some (.int .i64 (ls[j]'(by omega):Int)):=by
     rw[hrow.out.cell,bK ls j (by omega)]
    have f1:wr.frozen? ⟨g0,j,none⟩=false:=hrow.out.free j;have hrow2:Row (wr.setCell ⟨g0,j,none⟩ (.int .i64 ((bH ls x:Int)+1))) g0 3 (aM (ls.set j (bH ls x+1))):=by
     have h1:=hrow.out.aT j (.int .i64 ((bH ls x:Int)+1));rw[show aM (ls.set j (bH ls x+1))=(aM ls).set j (.int .i64 ((bH ls x:Int)+1)) by simp[aM,List.map_set]];exact h1
    have dL:=hid hrow2;have QT:=hid (hbel.out.setCell (p:=⟨g0,j,none⟩) (by rw[Hg0.out];exact Nat.le_refl _) (.int .i64 ((bH ls x:Int)+1)));clear hrow2 Hsk Hst Haj adL hrow hbel;have hx0:0<x:=by omega
    clear hx;generalize bH ls x=y at *;generalize ls[j]'(by omega)=z at k1;go_wp2;go_roundw
    case rel=>exact⟨j,_,by omega,by go_num,Hs2,dL,QT⟩
    case measure=>simp[intOf]
  ·obtain rfl:k=0:=by omega
   have Hd2:=hid (SC hd.out);go_wp2;go_ret;exact⟨g0,ls,rfl,hrow.out,Hd2.out,by rw[Hg0.out];exact Nat.le_refl _,hbel.out⟩
def ajK:Value->Nat
 | .slice _ n _=>n
 | _=>0
theorem Seg.kept{w w':World}{base b0 g off cap:Nat}{l:List Nat}(h:Seg w base g off cap l)(hk:iO b0 w w'):Seg w' base g off cap l:=by
 obtain⟨h1,h2,pre,post,h3,h4,h5⟩:=h;exact⟨h1,h2,pre,post,h3,h4,hk.rows _ _ _ (by decide) (by decide) h5⟩
theorem Seg.own{w:World}{base g cap:Nat}{l:List Nat}(h:Seg w base g 0 cap l):w.ownsRow base 3 1 (.slice (some ⟨g,0,none⟩) l.length cap) l.length (aM l):=by
 obtain⟨h1,h2,pre,post,h3,h4,h5⟩:=h;obtain rfl:pre=[]:=List.eq_nil_of_length_eq_zero h3;have hl:=aN l;refine⟨by omega,.inr ⟨g,cap,(aM l++post).toArray,rfl,h1,h5,by omega,h2,?_,?_⟩⟩
 ·rw[List.size_toArray,List.length_append];omega
 ·rw[List.toList_toArray,List.take_left' (by omega)]
theorem Seg.reads{w:World}{base g cap:Nat}{l:List Nat}(h:Seg w base g 0 cap l):Reads w (some ⟨g,0,none⟩) (aM l):=fun _=>
 ⟨g,0,rfl,fun j hj=>by
  rw[aN]at hj;have h1:=h.cell j hj;rw[bK l j hj];exact h1⟩
structure adX(base:Nat)(w wr:World)(p g cap:Nat)(cs A:List Nat)(L:List Nod)(C:Nat):Prop where
 seg:Seg wr base g 0 cap A
 pile:oU wr base p L
 sums:Bo cs A L C
 bel:Below base w wr
theorem Iz{cs A:List Nat}{L R:List Nod}{C wa a wb b:Nat}(h:Bo cs A L C)(hp:L.Perm ((wa,a) :: (wb,b) :: R))(hm:(jk cs).sum<=1000000000):a<A.length/\b<A.length/\wa+wb<=1000000000:=by
 refine⟨(h.free (wa,a) (hp.mem_iff.2 (by simp))).1,(h.free (wb,b) (hp.mem_iff.2 (by simp))).1,?_⟩;have:=h.total;rw[(hp.map _).sum_nat]at this;simp only[List.map_cons,List.sum_cons]at this;omega
theorem Ua{cs A:List Nat}{L:List Nod}{C:Nat}(h:Bo cs A L C)(hl:cs.length<=256)(hL:1<=L.length):A.length<=511/\L.length<=256:=by
 have h1:=h.count;have h2:=kH cs cs.length;have h3:=h.len;unfold lvs at h1;omega
theorem oU.far{w w':World}{base p g:Nat}{L:List Nod}{cs:List Value}(h:oU w base p L)(hr:Row w g 3 cs)(hg:w.grownBy w' (some g)):oU w' base p L:=by
 obtain⟨hh,g',cap',hpl⟩:=h;obtain⟨post,hl,hrow⟩:=hpl.row;refine⟨hh,g',cap',hpl.Uc (hg.block p hpl.var.lt (fun e=>?_)) (hg.block g' hrow.lt (fun e=>?_))⟩
 ·injection e with e
  subst e;have hv:=hpl.var;unfold Row at hv hr;rw[hr]at hv;injection hv with hv
  injection hv with _ e
  exact absurd e (by decide)
 ·injection e with e
  subst e;unfold Row at hrow hr;rw[hr]at hrow;injection hrow with hrow
  injection hrow with _ e
  exact absurd e (by decide)
theorem Seg.row{w:World}{base g off cap:Nat}{l:List Nat}(h:Seg w base g off cap l):∃cs,Row w g 3 cs/\base<=g:=by
 obtain⟨h1,_,pre,post,_,_,h5⟩:=h;exact⟨_,h5,h1⟩
theorem Xm(base p:Nat)(cs:List Nat)(L:List Nod)(w:World)(hb:base<=w.heap.size)(hl:cs.length<=256)(hm:(jk cs).sum<=1000000000)(hL:L.Perm (lvs cs))(h2:2<=L.length)(hp:oU w base p L) :
  Calls prog 153 #[.pointer (some ⟨p,0,none⟩),.int .i64 (cs.length:Int)] w fun e w'=>∃g A c t C,e=.returned (.slice (some ⟨g,0,none⟩) A.length c)/\Reads w' (some ⟨g,0,none⟩) (aM A)/\Bo cs A [t] C/\A.length<=512/\Below base w w':=by
 obtain⟨i0,hi,hz0,hz1,hz2⟩:=info_parts gQ;have hn2:2<=cs.length:=by
  have:=hL.length_eq;have h3:=kH cs cs.length;unfold lvs at this;omega
 have HL:=hid hL;have Hp:=hid hp;clear hL hp;go_enter func153,ntmps153
 go_wp2_with (at_make;refine wpList_make_full _ rfl _ _ 115 rfl w.heap.size 3 i0 (.int .i64 0) 1 underlying115 hi hz0 hz1 .i64 .i64 _ _ cs.length rfl rfl ?c1 ?c1 ?c2 ?c3 ?c4 ?_)
 case c1=>omega
 case c2=>first | omega | (rw[hz2];omega)
 case c3=>unfold maxLen;omega
 try case c4=>exact Nat.le_refl _
 intro w1 hown1 hg1;have hb1:=aJ hg1;have bW:=dH hown1;have hstart:adX base w w1 p w.heap.size cs.length cs (List.replicate cs.length 0) L 0:=by
  obtain⟨hh,g,cap,hpl⟩:=Hp.out;exact⟨⟨hb,by unfold maxLen;omega,[],[],rfl,by simp,by simpa using bW⟩,⟨hh,g,cap,hpl.below hb1⟩,Ov cs L HL.out,hb1.mono hb⟩
 have acH:=hid hstart;clear hown1 hg1 hb1 bW hstart;go_wp2;go_loopw [5] (fun av wr=>∃(A:List Nat) (L:List Nod) (C g cap:Nat),av=.slice (some ⟨g,0,none⟩) A.length cap/\1<=L.length/\Hid (adX base w wr p g cap cs A L C)) (fun av _=>600-ajK av)
 case atStart=>exact⟨_,L,0,w.heap.size,cs.length,by simp,by omega,acH⟩
 case round=>
  obtain⟨A,L,C,g,cap,rfl,hL1,hj⟩:=hrel;clear acH Hp HL;obtain⟨hsz,hsz2⟩:=Ua hj.out.sums hl hL1;have hAc:cs.length<=A.length:=hj.out.sums.len;obtain⟨c0,hc0⟩:∃v,wr.cell? ⟨p,0,none⟩=some v/\∃g' cap',v=.slice (some ⟨g',0,none⟩) L.length cap':=by
   obtain⟨hh,g',cap',hpl⟩:=hj.out.pile;exact⟨_,hpl.cell,g',cap',rfl⟩
  obtain⟨hc0,gP,YD,rfl⟩:=hc0;have Hlen:=hid (fun W=>rT (some ⟨gP,0,none⟩) L.length YD W);by_cases h1:L.length=1
  ·obtain⟨t,rfl⟩:=List.length_eq_one_iff.1 h1;have hfin:Reads wr (some ⟨g,0,none⟩) (aM A)/\Bo cs A [t] C/\Below base w wr:=⟨hj.out.seg.reads,hj.out.sums,hj.out.bel⟩;have Hf:=hid hfin;clear hfin hj hL1 h1;go_wp2_with fail
   refine(Hlen.out _).mono ?_;rintro e w2 ⟨rfl,rfl⟩;go_wp2;go_ret;exact⟨g,A,cap,t,C,rfl,Hf.out.1,Hf.out.2.1,by omega,Hf.out.2.2⟩
  ·obtain⟨n,hn⟩:∃n,L.length=n+1+1:=⟨L.length-2,by omega⟩;have hbr:=Nat.le_trans hb hj.out.bel.size;have Hli:=hid (uj base p (n+1) L wr hbr (by omega) hn hj.out.pile);obtain⟨wa,hwa⟩:∃x,x=(Bm.at2 L 0).1:=⟨_,rfl⟩;obtain⟨a,ha⟩:∃x,x=(Bm.at2 L 0).2:=⟨_,rfl⟩;rw[<-hwa,<-ha]at Hli;clear hwa ha;have ahR:Hid (∀W,Calls prog 150 #[.slice (some ⟨gP,0,none⟩) (n+1+1) YD] W fun e w'=>e=.returned (.int .i64 ((n:Int)+1+1))/\W=w'):=hid (fun W=>by
    have h5:=Hlen.out W;rw[hn]at h5;exact h5)
   rw[hn]at hc0 hsz2;have Hn:Hid (L.length=n+1+1):=hid hn;clear hn h1 hL1 Hlen;go_wp2_with fail
   refine(ahR.out _).mono ?_;rintro e w2 ⟨rfl,rfl⟩;clear ahR hc0;go_wp2_with fail
   refine Hli.out.mono ?_;rintro e w1 ⟨rfl,L1,alO,hle1,aod,hk1⟩;have hn1:L1.length=n+1:=by have:=alO.length_eq;rw[Hn.out,List.length_cons]at this;omega
   have akN:=hid (uj base p n L1 w1 (Nat.le_trans hbr hk1.bel.size) (by omega) hn1 aod);have ajd:Bm.at2 L1 0∈L1:=by
    unfold Bm.at2;rw[List.getElem?_eq_getElem (by omega),Option.getD_some];exact List.getElem_mem _
   have alB:=hle1 _ ajd;have apk:=hid hle1;have amQ:=hid alO;have Hk1:=hid hk1;obtain⟨wb,hwb⟩:∃x,x=(Bm.at2 L1 0).1:=⟨_,rfl⟩;obtain⟨b,hb'⟩:∃x,x=(Bm.at2 L1 0).2:=⟨_,rfl⟩;have hab:wa<=wb:=by
    rw[fF,<-hwb]at alB;simp only at alB;omega
   rw[<-hwb,<-hb']at akN;clear hle1 alO hk1 aod ajd alB hwb hb' Hli;go_wp2_with fail
   refine akN.out.mono ?_;rintro e w2 ⟨rfl,R,Lf,hle2,ajk,hk2⟩;have Hpm:Hid (L.Perm ((wa,a) :: (wb,b) :: R)):=hid (amQ.out.trans (Lf.cons _));have apl:Hid (∀y∈R,wb<=y.1):=hid (fun y hy=>by
    have:=hle2 y hy;rw[fF]at this;simp only at this;omega)
   have Hk2:=hid (Hk1.out.trans hk2);have amP:=hid ajk;obtain⟨ba,bb,bw⟩:=Iz hj.out.sums Hpm.out hm;have HR:Hid (R.length=n):=hid (by have:=Lf.length_eq;rw[hn1,List.length_cons]at this;omega);clear Lf hle2 ajk hk2 akN apk amQ Hk1 hn1;have ajr:=hj.out.seg.kept Hk2.out;have adR:=hid ajr;have hbw2:base<=w2.heap.size:=Nat.le_trans hbr Hk2.out.bel.size;clear ajr;go_wp2_with fail
   obtain⟨w3,hw3⟩:∃w3,w3=(w2.alloc (.cells #[.int .i64 (wa:Int),.int .i64 (a:Int)] 215)).alloc (.cells #[.int .i64 (wb:Int),.int .i64 (b:Int)] 215):=⟨_,rfl⟩;have hb3:Below w2.heap.size w2 w3:=by
    rw[hw3];exact((Below.refl _ _).alloc (Nat.le_refl _) _).alloc (by simp) _
   have hr6:Row w3 w2.heap.size 215 [.int .i64 (wa:Int),.int .i64 (a:Int)]:=by
    rw[hw3];exact(Row.new w2 215 [.int .i64 (wa:Int),.int .i64 (a:Int)]).alloc _
   have hr7:Row w3 (w2.heap.size+1) 215 [.int .i64 (wb:Int),.int .i64 (b:Int)]:=by
    have h5:=Row.new (w2.alloc (.cells #[.int .i64 (wa:Int),.int .i64 (a:Int)] 215)) 215 [.int .i64 (wb:Int),.int .i64 (b:Int)];rw[show(w2.alloc (.cells #[.int .i64 (wa:Int),.int .i64 (a:Int)] 215)).heap.size=w2.heap.size+1 by simp,<-hw3]at h5;exact h5
   have Iu:=adR.out.below hb3;have aoe:oU w3 base p R:=by
    obtain⟨hh,g',cap',hpl⟩:=amP.out;exact⟨hh,g',cap',hpl.below hb3⟩
   have Hk3:=hid (Hk2.out.trans (iO.below hb3 hbw2));rw[<-hw3];have hgl:g<w2.heap.size:=adR.out.lt;generalize w2.heap.size=q6 at *;have e0:=hr6.cell 0;have e1:=hr6.cell 1;have e2:=hr7.cell 0;have e3:=hr7.cell 1;simp only[List.getElem?_cons_zero,List.getElem?_cons_succ]at e0 e1 e2 e3;have k0:=Iu.cell a ba;have k1:=Iu.cell b bb;rw[Nat.zero_add]at k0 k1;have f0:=Iu.free a;have f1:=Iu.free b;obtain⟨v1,hy1⟩:=cell?_setCell_some (w:=w3) (p:=⟨g,a,none⟩) (x:=.int .i64 (A.length:Int)) (q:=⟨g,b,none⟩) k1;have afc:=(Iu.set a ba A.length).set b (by simpa using bb) A.length;rw[Nat.zero_add,Nat.zero_add]at afc;obtain⟨w4,hw4⟩:∃w4,w4=((w3.setCell ⟨g,a,none⟩ (.int .i64 (A.length:Int))).setCell ⟨g,b,none⟩ (.int .i64 (A.length:Int))).drew:=⟨_,rfl⟩;have hg4:w3.grownBy w4 (some g):=by
    rw[hw4];exact bf (aB (aB (aj w3 (some g)) _ _) _ _)
   have acX:Seg w4 base g 0 cap ((A.set a A.length).set b A.length):=by rw[hw4];exact afc
   have aia:=hid acX;have Hg4:=hid hg4;have Hr6:=hid hr6;have Hr7:=hid hr7;have apr:=hid aoe;have akW:=hid Iu;have Hw4:=hid hw4;clear hw3 hb3 hr6 hr7 Iu aoe afc acX hg4 hw4 adR amP Hk2;go_region
   all_goals rw[show((w3.setCell ⟨g,a,none⟩ (.int .i64 (A.length:Int))).setCell ⟨g,b,none⟩ (.int .i64 (A.length:Int))).drew=w4 from Hw4.out.symm]
   all_goals clear Hw4 e0 e1 e2 e3 k0 k1 f0 f1 hy1
   have wZ:w4.ownsRow base 3 1 (.slice (some ⟨g,0,none⟩) A.length cap) A.length (aM ((A.set a A.length).set b A.length)):=by
    have h5:=aia.out.own;rw[List.length_set,List.length_set]at h5;exact h5
   have Dv:=hid wZ;have hb4:base<=w4.heap.size:=Nat.le_trans hbr (Nat.le_trans Hk3.out.bel.size Hg4.out.size);clear wZ;go_wp2_with (at_builtin;refine wpList_append_own _ rfl _ _ 115 rfl base 3 i0 (.int .i64 0) 1 8 underlying115 hi hz0 hz1 hz2 rfl (by decide) _ _ _ rfl (Dv.out.alloc _) ⟨w4.heap.size,0,none⟩ 1 1 [.int .i64 0] rfl rfl ?d1 ?d2 ?d3 ?d4 ?d5 ?_)
   case d1=>
    intro j u hj;match j,hj with
    | 0,hj=>simp at hj;subst hj;simp[Addr.add]
   case d2=>intro u hu;simp at hu;subst hu;rfl
   case d3=>unfold maxLen;omega
   case d4=>omega
   case d5=>simp;omega
   intro u' w7 bM fO _;obtain⟨_,gN,jJ,rfl,ajs⟩:=PE (l:=(A.set a A.length).set b A.length++[0]) (by rw[<-pI];exact bM) (by omega);have hga:w4.grownBy (w4.alloc (.cells #[.int .i64 0] 3)) (some g):=aF (aj _ _) _;have anP:w3.grownBy w7 (some g):=(Hg4.out.trans hga).trans fO;have ahO:=hid anP;have akX:=hid ajs;clear bM fO hga anP ajs Dv aia Hg4;obtain⟨ics,ajq,hbg⟩:=akW.out.row;have aof:=apr.out.far ajq ahO.out;have hr6:Row w7 q6 215 [.int .i64 (wa:Int),.int .i64 (a:Int)]:=Hr6.out.keep (ahO.out.block _ Hr6.out.lt (fun e=>by injection e with e;omega));have hr7:Row w7 (q6+1) 215 [.int .i64 (wb:Int),.int .i64 (b:Int)]:=Hr7.out.keep (ahO.out.block _ Hr7.out.lt (fun e=>by injection e with e;omega));have e0:=hr6.cell 0;have e1:=hr7.cell 0;simp only[List.getElem?_cons_zero]at e0 e1;have hb7:base<=w7.heap.size:=Nat.le_trans hbr (Nat.le_trans Hk3.out.bel.size ahO.out.size);have hpush:=zX base p (wa+wb) A.length R w7 hb7 (by rw[HR.out];omega) aof;rw[Int.natCast_add]at hpush;have sG:=hid hpush;have QU:=hid ((hj.out.bel.trans Hk3.out.bel).trans (below_grown ahO.out hbg (Nat.le_trans hbr Hk3.out.bel.size)));clear ajq aof hr6 hr7 hpush hbg hb4;go_wp2_with fail
   refine sG.out.mono ?_;rintro e w8 ⟨rfl,L',ajl,aog,hk8⟩;have hfin:adX base w w8 p gN jJ cs ((A.set a A.length).set b A.length++[0]) L' (C+(wa+wb)):=
    ⟨akX.out.kept hk8,aog,Bm.join_step hj.out.sums Hpm.out hab apl.out (by omega) ajl,QU.out.trans hk8.bel⟩
   have iy:=hid hfin;have apO:1<=L'.length:=by rw[ajl.length_eq,List.length_cons];omega
   clear hfin ajl aog hk8 sG e0 e1;go_wp2;go_roundw
   case rel=>exact⟨_,L',_,gN,jJ,by simp,apO,iy⟩
   case measure=>simp[ajK];omega
namespace Bm
theorem Jw(cs:List Nat)(M:Nat)(h:∀x∈cs,x<=M):(jk cs).sum<=M*cs.length:=by
 have h1:(jk cs).sum<=M*(jk cs).length:=by
  have:∀L:List Nat,(∀x∈L,x<=M)->L.sum<=M*L.length:=fun L=>by
   induction L with
   | nil=>simp
   | cons a L ih=>
    intro hL;have:=ih (fun x hx=>hL x (by simp[hx]));have:=hL a (by simp);rw[List.sum_cons,List.length_cons,Nat.mul_succ];omega
  exact this _ (fun x hx=>h x (aaF cs x hx).1)
 exact Nat.le_trans h1 (Nat.mul_le_mul_left M (Vk cs))
theorem Ci(cs:List Nat)(h:∃x∈cs,0<x):1<=(lvs cs).length:=by
 have:=Vl cs h;rw[<-nk,List.length_map]at this;exact this
end Bm
theorem NN(x y:Value)(W:World):(Instr.field 215 (.agg #[x,y]) 1).run prog W=.ok y W:=by kernel_rfl
theorem acd(A:Option Addr)(c:Nat)(cs:List Nat)(w:World)(hl:cs.length<=256)(hm:∀x∈cs,x<=1048576)(hs:∃x∈cs,0<x)(hr:Reads w A (aM cs)) :
  Calls prog 122 #[.slice A cs.length c] w fun e w'=>∃g ls,e=.returned (.slice (some ⟨g,0,none⟩) cs.length cs.length)/\Reads w' (some ⟨g,0,none⟩) (aM ls)/\aeb cs ls/\Below w.heap.size w w':=by
 obtain⟨i0,hi,hz0,hz1,hz2⟩:=info_parts gQ;have Hlv:=hid (abS A c cs w hl hr);have hsum:(jk cs).sum<=1000000000:=by
  have:=Jw cs 1048576 hm;omega
 have h1:=Ci cs hs;have h1l:(lvs cs).length<=256:=Nat.le_trans (kH cs cs.length) hl;clear hr hm hs;go_enter func122,ntmps122
 go_wp2_with fail
 refine Hlv.out.mono ?_;rintro e w1 ⟨p,L,rfl,hpm,hph,hb1⟩;have hLl:L.length=(lvs cs).length:=hpm.length_eq;obtain⟨v0,hc0,gP,YD,hv0⟩:∃v,w1.cell? ⟨p,0,none⟩=some v/\∃g' cap',v=.slice (some ⟨g',0,none⟩) L.length cap':=by
  obtain⟨hh,g',cap',hpl⟩:=hph;exact⟨_,hpl.cell,g',cap',rfl⟩
 subst hv0;have Hlen:=hid (fun W=>rT (some ⟨gP,0,none⟩) L.length YD W);have Hb1:=hid hb1;have Hpm:=hid hpm;have Hph:=hid hph;have hs1:=hb1.size;clear hb1 hpm hph Hlv;by_cases hone:L.length=1
 ·obtain⟨t,rfl⟩:=List.length_eq_one_iff.1 hone;obtain⟨cc,ii⟩:=t;have hlv:lvs cs=[(cc,ii)]:=List.perm_singleton.1 Hpm.out.symm;have Hun:=hid (Xn hlv hl);have hii:ii<cs.length:=((bX cs cs.length (cc,ii)).1 (show(cc,ii)∈lvs cs by rw[hlv];simp)).1;clear hone hlv hLl;simp only[List.length_cons,List.length_nil]at hc0 Hlen;go_wp2_with fail
  refine(Hlen.out _).mono ?_;rintro e w2 ⟨rfl,rfl⟩;clear Hlen hc0;go_wp2_with (at_make;refine wpList_make_full _ rfl _ _ 115 rfl w1.heap.size 3 i0 (.int .i64 0) 1 underlying115 hi hz0 hz1 .i64 .i64 _ _ cs.length rfl rfl ?c1 ?c1 ?c2 ?c3 ?c4 ?_)
  case c1=>omega
  case c2=>first | omega | (rw[hz2];omega)
  case c3=>unfold maxLen;omega
  try case c4=>exact Nat.le_refl _
  intro w2 hown1 hg1;have hb2:=aJ hg1;have hrow2:=dH hown1;have hs2:w1.heap.size<w2.heap.size:=hrow2.lt;have ajk:oU w2 w.heap.size p [(cc,ii)]:=by
   obtain⟨hh,g',cap',hpl⟩:=Hph.out;exact⟨hh,g',cap',hpl.below hb2⟩
  have Hli:=hid (uj w.heap.size p 0 [(cc,ii)] w2 (by omega) (by simp) rfl ajk);have Hb2:=hid (Hb1.out.trans (hb2.mono hs1));have dL:=hid hrow2;clear hown1 hg1 hb2 hrow2 ajk;go_wp2_with fail
  refine Hli.out.mono ?_;rintro e w3 ⟨rfl,L',_,_,_,hk3⟩;have hrow3:=hk3.rows _ _ _ (by decide) (by decide) dL.out;have hcell:w3.cell? ⟨w1.heap.size,ii,none⟩=some (.int .i64 0):=by
   rw[hrow3.cell,bK _ _ (by simpa using hii)];simp
  have hfree:w3.frozen? ⟨w1.heap.size,ii,none⟩=false:=hrow3.free ii;have hrow4:Row (w3.setCell ⟨w1.heap.size,ii,none⟩ (.int .i64 1)) w1.heap.size 3 (aM ((List.replicate cs.length 0).set ii 1)):=by
   have h5:=hrow3.aT ii (.int .i64 1);rw[show aM ((List.replicate cs.length 0).set ii 1)=(aM (List.replicate cs.length 0)).set ii (.int .i64 1) by simp only[aM,List.map_set];rfl];exact h5
  have Dy:=hid hrow4;have Hb4:=hid ((Hb2.out.trans hk3.bel).setCell (p:=⟨w1.heap.size,ii,none⟩) (by exact hs1) (.int .i64 1));have hat:Bm.at2 [(cc,ii)] 0=(cc,ii):=rfl;rw[hat];clear hrow3 hrow4 hk3 Hli dL hat;have aqX:=fun W=>NN (.int .i64 (cc:Int)) (.int .i64 (ii:Int)) W
  go_wp2;go_ret;refine⟨w1.heap.size,_,rfl,?_,Hun.out,Hb4.out⟩;intro _;exact⟨w1.heap.size,0,rfl,fun j hj=>by rw[Nat.zero_add];exact Dy.out.cell j⟩
 ·have h2:2<=L.length:=by omega
  have Hjo:=hid (Xm w.heap.size p cs L w1 hs1 hl hsum Hpm.out h2 Hph.out);have h2l:2<=(lvs cs).length:=by omega
  have hne:((L.length:Int) == 1)=false:=by rw[beq_eq_false_iff_ne];omega
  clear hLl;go_wp2_with fail
  refine(Hlen.out _).mono ?_;rintro e w2 ⟨rfl,rfl⟩;clear Hlen hc0;go_wp2_with fail
  refine Hjo.out.mono ?_;rintro e w2 ⟨g,bs,cap,t,C,rfl,hrd,hjn,hbs,hb2⟩;have hlA:=hjn.len;have Hde:=hid (Qi (some ⟨g,0,none⟩) cap bs w2 (by omega) hjn.above hrd);have Hjn:=hid hjn;have Hb2:=hid (Hb1.out.trans hb2);clear hrd hjn hb2 Hjo;go_wp2_with fail
  refine Hde.out.mono ?_;rintro e w3 ⟨g3,ls,rfl,hrow3,hdn,hg3,hb3⟩;have Hun:=hid (ZH Hjn.out hdn h2l hl hbs);have hll:=hdn.len;have TK:Reads w3 (some ⟨g3,0,none⟩) (aM (ls.take cs.length)):=fun _=>⟨g3,0,rfl,fun j hj=>by
   rw[aN,List.length_take]at hj;rw[Nat.zero_add,hrow3.cell,bK ls j (by omega),bK (ls.take cs.length) j (by rw[List.length_take];exact hj),List.getElem_take]⟩
  have apu:=hid TK;have Hb3:=hid (Hb2.out.trans (hb3.mono Hb2.out.size));clear hrow3 hdn hb3 TK hll Hde;go_wp2;go_ret;exact⟨g3,_,rfl,apu.out,Hun.out,Hb3.out⟩
theorem agH(A:Option Addr)(c:Nat)(l:List Int)(w:World)(hl:l.length<=maxLen)(hr:Reads w A (mH l))(hR:¬Bm.Right l) :
  Calls prog 100 #[.slice A l.length c] w fun e w'=>e=.returned (.tuple #[.slice none 0 0,.bool false])/\w=w':=by
 have hri:=LQ A c l w hl hr;rw[show lY l=false from decide_eq_false hR]at hri;have Hri:=hid hri;clear hri hR hr;go_enter func100,ntmps100
 go_wp2_with fail
 refine Hri.out.mono ?_;rintro e w' ⟨rfl,rfl⟩;go_wp2;go_ret2;exact⟨rfl,rfl⟩
def Dz(w w':World)(cs:List Nat)(v:Value):Prop:=∃B d ls,v=.slice B cs.length d/\cs.length<=d/\Reads w' B (aM ls)/\Bj cs ls/\Below w.heap.size w w'
theorem abT{cs ls:List Nat}(h:aeb cs ls)(h11:∀x∈ls,x<=11):Bj cs ls:=⟨h.len,h.whole h11,h.just,by rw[h.cost];exact Nat.le_max_right _ _⟩
theorem abR(A:Option Addr)(c:Nat)(cs:List Nat)(w:World)(hl:cs.length<=256)(hm:∀x∈cs,x<=1048576)(hs:∃x∈cs,0<x)(hr:Reads w A (aM cs))(hri:Calls prog 121 #[.slice A cs.length c] w fun e w'=>e=.returned (.bool true)/\w=w')
  (hB:∀ls,aeb cs ls->(∀x∈ls,x<=11)\/(∀W,Below w.heap.size w W->Calls prog 124 #[.slice A cs.length c] W fun e w'=>∃v,e=.returned v/\Dz W w' cs v)) :
  Calls prog 100 #[.slice A cs.length c] w fun e w'=>∃v,e=.returned (.tuple #[v,.bool true])/\Dz w w' cs v:=by
 have Hri:=hid hri;have Hun:=hid (acd A c cs w hl hm hs hr);have HB:=hid hB;clear hri hm hs hr hB;go_enter func100,ntmps100
 go_wp2_with fail
 refine Hri.out.mono ?_;rintro e w' ⟨rfl,rfl⟩;clear Hri;go_wp2_with fail
 refine Hun.out.mono ?_;rintro e w1 ⟨g,ls,rfl,hrd,hun,hb⟩;have hll:=hun.len;have hmay:=Dh (some ⟨g,0,none⟩) cs.length (ls.map fun n:Nat=>(n:Int)) w1 (by rw[List.length_map];omega) (by rw[bJ];exact hrd);rw[List.length_map,hll]at hmay;have hiff:Rl (ls.map fun n:Nat=>(n:Int))↔∀x∈ls,x<=11:=by
  unfold Rl;constructor
  ·intro h x hx;have:=h.2 (x:Int) (List.mem_map.2 ⟨x,hx,rfl⟩);omega
  ·intro h;refine⟨by rw[List.length_map];omega,fun z hz=>?_⟩;obtain⟨x,hx,rfl⟩:=List.mem_map.1 hz;have:=h x hx;omega
 by_cases h11:∀x∈ls,x<=11
 ·rw[decide_eq_true (hiff.2 h11)]at hmay;have ahU:=hid hmay;have hfin:Dz w w1 cs (.slice (some ⟨g,0,none⟩) cs.length cs.length):=⟨_,_,ls,rfl,Nat.le_refl _,hrd,abT hun h11,hb⟩;have Hf:=hid hfin;clear hmay hiff h11 hrd hun hb hll Hun HB hfin;go_wp2_with fail
  refine ahU.out.mono ?_;rintro e w' ⟨rfl,rfl⟩;clear ahU;go_wp2;go_ret2;exact⟨_,rfl,Hf.out⟩
 ·rw[decide_eq_false (fun h=>h11 (hiff.1 h))]at hmay;have ahU:=hid hmay;have Hbn:=hid ((HB.out ls hun).resolve_left h11 w1 hb);have Hb:=hid hb;clear hmay hiff h11 hrd hun hb hll Hun HB;go_wp2_with fail
  refine ahU.out.mono ?_;rintro e w' ⟨rfl,rfl⟩;clear ahU;go_wp2_with fail
  refine Hbn.out.mono ?_;rintro e w2 ⟨v,rfl,hlp⟩;have hfin:Dz w w2 cs v:=by
   obtain⟨B,d,ls',h1,h2,h3,h4,h5⟩:=hlp;exact⟨B,d,ls',h1,h2,h3,h4,Hb.out.trans (h5.mono Hb.out.size)⟩
  have Hf:=hid hfin;clear hfin hlp Hbn;go_wp2;go_ret2;exact⟨_,rfl,Hf.out⟩
theorem abP(D:List Nat->Prop)(A:Option Addr)(c:Nat)(l:List Int)(w:World)(hl:l.length<=maxLen)(hr:Reads w A (mH l))(hR:Bm.Right l)(hD:D (l.map Int.toNat))
  (hB:∀(cs ls:List Nat) (W:World),D cs->cs.length<=256->(∀x∈cs,x<=1048576)->(∃x∈cs,0<x)->Reads W A (aM cs)->aeb cs ls->(∀x∈ls,x<=11)\/(Calls prog 124 #[.slice A cs.length c] W fun e w'=>∃v,e=.returned v/\Dz W w' cs v)) :
  Calls prog 100 #[.slice A l.length c] w fun e w'=>∃v,e=.returned (.tuple #[v,.bool true])/\Dz w w' (l.map Int.toNat) v:=by
 have hri:=LQ A c l w hl hr;rw[show lY l=true from decide_eq_true hR]at hri;obtain⟨e1,k1,n1⟩:=VP l hR;have aeI:=hR.1;have hex:∃x∈l.map Int.toNat,0<x:=by
  obtain⟨x,hx,h0⟩:=hR.2.2;exact⟨x.toNat,List.mem_map.2 ⟨x,hx,rfl⟩,by omega⟩
 have hr2:Reads w A (aM (l.map Int.toNat)):=by rw[<-bJ,<-e1];exact hr
 have h:=abR A c (l.map Int.toNat) w (by omega) k1 hex hr2 (by rw[n1];exact hri) (fun ls hu=>by
  by_cases h11:∀x∈ls,x<=11
  ·exact .inl h11
  ·exact .inr (fun W hW=>((hB (l.map Int.toNat) ls W hD (by omega) k1 hex (aC hr2 hW) hu).resolve_left h11)))
 rw[n1]at h;exact h
namespace Bm
def Cr:List Nat->Nat
 | []=>0
 | x :: l=>x+16*Cr l
theorem EU:∀(l:List Nat) (x:Nat),Cr (l++[x])=Cr l+x*16^l.length
 | [],x=>by simp[Cr]
 | y :: l,x=>by
  rw[List.cons_append,Cr,EU l x,Cr,List.length_cons,Nat.pow_succ,Nat.mul_add,<-Nat.mul_assoc 16 x,Nat.mul_comm 16 x,Nat.mul_assoc x 16,Nat.mul_comm 16 (16^l.length)];omega
theorem Jh:∀(l:List Nat) (_:∀x∈l,x<16) (j:Nat),Cr l/16^j%16=l[j]?.getD 0
 | [],_,j=>by simp[Cr]
 | x :: l,h,0=>by
  have:=h x List.mem_cons_self;rw[Cr,List.getElem?_cons_zero,Option.getD_some,Nat.pow_zero];omega
 | x :: l,h,j+1=>by
  have h0:=h x List.mem_cons_self;rw[Cr,List.getElem?_cons_succ,<-Jh l (fun y hy=>h y (List.mem_cons_of_mem _ hy)) j,Nat.pow_succ,Nat.mul_comm (16^j),<-Nat.div_div_eq_div_mul,show(x+16*Cr l)/16=Cr l by omega]
theorem amf(k:Nat):256^k=16^(2*k):=by rw[Nat.pow_mul]
theorem Ke(l:List Nat)(h:∀x∈l,x<16)(h0:0<l.length)(h2:l.length<=256):bytesOf (l.length-1+Cr l*2^8) ((8+4*l.length+7)/8)=bR l:=by
 apply List.ext_getElem
 ·rw[bytesOf_length,dK];omega
 ·intro i h3 h4;rw[dK]at h4;rw[fE];cases i with
  | zero=>
   simp only[bR,List.getElem_cons_zero,Nat.pow_zero];omega
  | succ k=>
   simp only[bR,List.getElem_cons_succ,List.getElem_map,List.getElem_range];rw[Nat.pow_succ 256 k,Nat.mul_comm (256^k),<-Nat.div_div_eq_div_mul,show(l.length-1+Cr l*2^8)/256=Cr l by omega,amf];unfold qR;rw[<-Jh l h (2*k),<-Jh l h (2*k+1),Nat.pow_succ,<-Nat.div_div_eq_div_mul];omega
theorem aan(l:List Nat)(k:Nat)(hk:k<l.length)(h:l[k]<16)(M:Nat):M+Cr (l.take k)*2^8+l[k]%2^4*2^(8+4*k)=M+Cr (l.take (k+1))*2^8:=by
 have hl:(l.take k).length=k:=by rw[List.length_take];omega
 rw[List.take_succ_eq_append_getElem hk,EU,hl,Nat.mod_eq_of_lt (by simpa using h),Nat.add_mul,Nat.pow_add,Nat.pow_mul,show(2:Nat)^4=16 by rfl,Nat.mul_comm (2^8),Nat.mul_assoc];omega
end Bm
theorem aaj(A:Option Addr)(c:Nat)(ls:List Nat)(w:World)(hW:bC ls)(hc:ls.length<=c)(hr:Reads w A (aM ls))
  (hwh:Calls prog 125 #[.slice A ls.length c] w fun e w'=>e=.returned (.bool true)/\w=w') :
  Calls prog 101 #[.slice A ls.length c] w fun e w'=>e=.returned (ajP (some (bR (aI ls))))/\Below w.heap.size w w':=by
 have Hsh:=hid (Ur A c ls w hW.1 hc hr);have Hwh:=hid hwh;obtain⟨h1,h2⟩:=pY ls hW;obtain⟨m0,hm0⟩:=fH ls;have hrd:Reads w A (aM (aI ls)):=by
  have h:=Pn hr (aI ls).length;have e:∀l1 l2:List Nat,(aM (l1++l2)).take l1.length=aM l1:=fun l1 l2=>by rw[<-pI,<-aN l1,List.take_left]
  have e2:=e (aI ls) (List.replicate m0 0);rw[<-hm0]at e2;rwa [e2]at h
 clear hm0 hr hwh;generalize aI ls=l at *;have hl2:=h1.1;have H11:=hid h1.2.1;have Htb:=hid (Ke l (fun x hx=>by have:=h1.2.1 x hx;omega) h2 hl2);have Hlt:=hid (yC l h1.2.1 hl2);have Hlen:Hid ((8+4*l.length+7)/8=(bR l).length):=hid (by rw[dK];omega);generalize bR l=tb at *;have Hrd:=hid hrd;have hcu:IntKind.u32.wrap ((l.length:Int)-1)=((l.length-1:Nat):Int):=by simp[IntKind.wrap,IntKind.bits,IntKind.signed];omega
 have Bl:Hid (∀(W:World) (b N n v m:Nat),n<=1000000000->v<4294967296->m<=32->WS W b 0 N n->Calls prog 93 #[.pointer (some ⟨b,0,none⟩),.int .u32 (v:Int),.int .i64 (m:Int)] W fun e w'=>e=.returned (.bool true)/\WS w' b 0 (N+v%2^m*2^n) (n+m)/\W.grownBy w' (some b)):=hid (fun W b N n v m h1 h2 h3 h4=>qY b 0 N n v m W h1 h2 h3 h4);have uY:=hid (WS.new w 155 (by decide));have Hal:=hid ((Below.refl w.heap.size w).alloc (Nat.le_refl _) (.cells #[.pointer none,.int .u64 0,.int .i64 0] 155));clear hrd h1 hW;go_enter func101,ntmps101
 go_wp2_with fail
 refine Hwh.out.mono ?_;rintro e w' ⟨rfl,rfl⟩;clear Hwh;go_wp2_with fail
 refine Hsh.out.mono ?_;rintro e w' ⟨rfl,rfl⟩;clear Hsh;go_wp2_with fail
 refine(Bl.out _ w.heap.size 0 0 (l.length-1) 8 (by omega) (by omega) (by omega) uY.out).mono ?_;rintro e w2 ⟨rfl,hws,hg⟩;rw[Nat.zero_add,Nat.zero_add,Nat.pow_zero,Nat.mul_one,Nat.mod_eq_of_lt (show l.length-1<2^8 by omega)]at hws;have Hws:=hid hws;have Hb2:Hid (Below w.heap.size w w2):=hid (Hal.out.grown hg Hal.out.size (fun k e=>by injection e with e;omega));clear hws hg uY Hal hcu;go_wp2;go_loopw [20] (fun iv wr=>∃k:Nat,k<=l.length/\iv=.int .i64 (k:Int)/\Hid (WS wr w.heap.size 0 (l.length-1+Cr (l.take k)*2^8) (8+4*k))/\Hid (Below w.heap.size w wr)) (fun iv _=>l.length-(intOf iv).toNat)
 case atStart=>exact⟨0,by omega,rfl,hid (by rw[List.take_zero,Cr,Nat.zero_mul];exact Hws.out),Hb2⟩
 case round=>
  obtain⟨k,hk,rfl,hws,hbel⟩:=hrel;clear Hws Hb2;by_cases hkl:k<l.length
  ·obtain⟨g,off,rfl,hc1⟩:=fZ (aC Hrd.out hbel.out) (by omega);have c0:=hc1 k hkl;have hx:=H11.out l[k] (List.getElem_mem hkl);have hst:=aan l k hkl (by omega) (l.length-1);have Hp:=hid (Bl.out wr w.heap.size _ (8+4*k) l[k] 4 (by omega) (by omega) (by omega) hws.out);rw[hst]at Hp;clear hc1 hst hws;generalize l[k]=x at *;have hcu:IntKind.u32.wrap (x:Int)=(x:Int):=by simp[IntKind.wrap,IntKind.bits,IntKind.signed];omega
   go_wp2_with fail
   refine Hp.out.mono ?_;rintro e w3 ⟨rfl,acZ,hg3⟩;have ahb:=hid acZ;have Hb3:Hid (Below w.heap.size w w3):=hid (hbel.out.grown hg3 hbel.out.size (fun k e=>by injection e with e;omega));clear acZ hg3 hbel Hp;go_wp2;go_roundw
   case rel=>exact⟨k+1,by omega,by go_num,ahb,Hb3⟩
   case measure=>simp[intOf];omega
  ·obtain rfl:k=l.length:=by omega
   rw[List.take_length]at hws;have hby:=kr w.heap.size 0 _ _ wr (by omega) hws.out;rw[Htb.out]at hby;have Hby:=hid hby;rw[Hlen.out]at Hby;have Hcv:Hid (∀W A c,Reads W A (u8s tb)->(convert 60 9 (.slice A tb.length c)).run prog W=.ok (.string (strOf tb)) W):=hid (fun W A c hrd=>bS W A c _ Hlt.out hrd);clear hby hws Htb;go_wp2_with fail
   refine Hby.out.mono ?_;rintro e w4 ⟨g4,rfl,hg4,hr4,hb4⟩;have hcv:=Hcv.out w4 _ tb.length (bP hr4);have Hb4:=hid (hbel.out.trans (hb4.mono hbel.out.size));clear hr4 hb4 hbel Hby Hcv;go_wp2;go_ret2;exact⟨rfl,Hb4.out⟩
theorem aft(A:Option Addr)(c:Nat)(l:List Int)(w:World)
  (hwh:Calls prog 125 #[.slice A l.length c] w fun e w'=>e=.returned (.bool false)/\w=w') :
  Calls prog 101 #[.slice A l.length c] w fun e w'=>e=.returned (ajP none)/\w=w':=by
 have Hwh:=hid hwh;clear hwh;go_enter func101,ntmps101
 go_wp2_with fail
 refine Hwh.out.mono ?_;rintro e w' ⟨rfl,rfl⟩;clear Hwh;go_wp2;go_ret2;exact⟨rfl,rfl⟩
theorem afs:aik:=by
 intro w A c l hl hc hb hr;have h:=uq A c l w (by omega) hr;by_cases hW:jG l
 ·rw[if_pos hW];rw[decide_eq_true hW]at h;obtain⟨e,h11,hln⟩:=Cc l hW.1;have h1:=aaj A c (l.map Int.toNat) w hW.2 (by omega) (by rw[<-bJ,<-e];exact hr) (by rw[hln];exact h);rw[hln]at h1;exact h1
 ·rw[if_neg hW];rw[decide_eq_false hW]at h;exact(aft A c l w h).mono fun e w' ⟨h1,h2⟩=>⟨h1,by rw[<-h2];exact Below.refl _ _⟩
end Go.Proofs.YtaebnkeddcbmkaaGreat
