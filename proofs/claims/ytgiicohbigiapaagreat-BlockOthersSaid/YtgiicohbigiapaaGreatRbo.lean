/- Contracts, and what they rest on. Conditions: the theorems' premises. -/
import Derived.Test.YtgiicohbigiapaaGreatRbh
import Derived.Test.YtgiicohbigiapaaGreatRbn
set_option maxHeartbeats 4000000
set_option maxRecDepth 100000
open Go.Lib(hid)
open Go.Proofs.Tryz Go.Proofs.YtgiicohbigiapaaGreat.Bm
namespace Go.Proofs.YtgiicohbigiapaaGreat
open Go.RowKit
namespace Bm
theorem acg(l:List StZ)(r:Int×Int×Int)(h:∀s∈l,Ew s)(j:Nat):∀x∈cZ j (aP r l),x<28:=by
 have hle:=rJ l r h;intro x hx;unfold cZ at hx;obtain⟨vs,hvs,rfl⟩:=List.mem_map.1 hx;refine(Fg _ ?_).2;rcases Nat.lt_or_ge j vs.length with h1 | h1
 ·rw[List.getElem?_eq_getElem h1,Option.getD_some];exact hle _ (List.mem_flatten.2 ⟨vs,hvs,List.getElem_mem h1⟩)
 ·rw[List.getElem?_eq_none h1,Option.getD_none];omega
end Bm
theorem Aj{w w':World}{A:Option Addr}{l:List Nat}{b:Nat}{bs:List Nat}(h:CW w b bs)(hr:Reads w A (u8s l))(hg:w.grownBy w' (some b)):Reads w' A (u8s l):=by
 obtain⟨p,ts,hrow,_,_⟩:=h;refine rU hrow (fun m z hx=>?_) hr hg;match m,hx with
 | 0,hx=>simp at hx
 | 1,hx=>simp at hx
 | m+2,hx=>simp at hx
def Im(e:Ending)(l:List StZ):Prop:=
 if ∀s∈l,Ew s then ∃S,aev l S∧e=.returned (.tuple #[.string (strOf S),.bool true])else e=.returned (.tuple #[.string (strOf []),.bool false])
theorem Xm(A:Option Addr)(c:Nat)(w:World):Calls prog 36 #[.slice A 0 c] w fun e w'=>Im e []∧Below w.heap.size w w':=by
 have hq:=XM [] rfl;have hpost:∀e,e=.returned (.tuple #[.string (strOf [0]),.bool true])→Im e []:=fun e he=>by
  unfold Im;rw[if_pos (by simp)];exact⟨[0],hq,he⟩
 have BS:=hid hpost;obtain⟨Pst,PV⟩:∃Pst:Ending→Prop,Pst=fun e=>Im e []:=⟨_,rfl⟩
 have YM:=hid PV;have hgoal:(fun(e:Ending) (w':World)=>Im e []∧Below w.heap.size w w')=fun e w'=>Pst e∧Below w.heap.size w w':=by rw[PV]
 rw[hgoal];have e0:([]:List Nat)++grp 0=[0]:=by rw[fq 0 (by omega)];rfl
 have hgr:=iR w.heap.size 0 [] _ (by omega) (by simp) (CW.new w);rw[e0]at hgr;have Hgr:=hid hgr;have NR:=hid ((Below.refl w.heap.size w).alloc (Nat.le_refl _) (.cells #[.pointer none,.int .i64 0] 62));have pE:=hid (fun W (h:CW W w.heap.size [0])=>iP w.heap.size [0] W (by simp) (by simp) h);clear hq hpost hgoal PV e0 hgr;go_enter func36,ntmps36
 go_wp2_with fail
 refine Hgr.out.mono ?_;rintro e w1 ⟨rfl,hc1,hg1⟩;have Hs1:=hid (pE.out w1 hc1);have Hb1:=hid (NR.out.trans (below_grown hg1 (Nat.le_refl _) NR.out.size));clear hc1 hg1 Hgr NR pE;go_wp2_with fail
 refine Hs1.out.mono ?_;rintro e w2 ⟨rfl,hb2⟩;have Hb2:=hid (Hb1.out.trans (hb2.mono Hb1.out.size));clear hb2 Hb1 Hs1;generalize hsx:strOf [0]=sx at *;have Hsx:=hid hsx;clear hsx;go_wp2;go_ret2;refine⟨?_,Hb2.out⟩;rw[YM.out];exact BS.out _ rfl
theorem RZ(A:Option Addr)(c:Nat)(l:List StZ)(w:World)(h0:0<l.length)(hl:l.length≤700)(hok:ZOk l)(hr:Uu w A l) :
  Calls prog 36 #[.slice A l.length c] w fun e w'=>Im e l∧Below w.heap.size w w':=by
 obtain⟨Pst,PV⟩:∃Pst:Ending→Prop,Pst=fun e=>Im e l:=⟨_,rfl⟩
 have YM:=hid PV;have hgoal:(fun(e:Ending) (w':World)=>Im e l∧Below w.heap.size w w')=fun e w'=>Pst e∧Below w.heap.size w w':=by rw[PV]
 rw[hgoal];clear hgoal PV;obtain⟨bw,hbw⟩:∃bw,w.heap.size=bw:=⟨_,rfl⟩;have hcw:=CW.new w;rw[hbw]at hcw;have hgr:=iR bw l.length [] _ (by omega) (by simp) hcw;rw[List.nil_append]at hgr;have Hgr:=hid hgr;have NR:=hid ((Below.refl w.heap.size w).alloc (Nat.le_refl _) (.cells #[.pointer none,.int .i64 0] 62));have Hco:=hid (fun W (hb:Below w.heap.size w W)=>Mi A c l W hl hok (hr.below hb));have Hbw:=hid hbw;have hwrap:IntKind.u64.wrap (l.length:Int)=(l.length:Int):=by rw[IntKind.wrap_u64];omega
 have dn:((l.length:Int) == 0)=false:=by rw[beq_eq_false_iff_ne];omega
 have dn2:decide ((1000:Int)<(l.length:Int))=false:=decide_eq_false (by omega);clear hcw hgr hbw hok hr;go_enter func36,ntmps36
 go_wp2_with fail
 rw[Hbw.out];refine Hgr.out.mono ?_;rintro e w1 ⟨rfl,hc1,hg1⟩;have hb1:=NR.out.trans (below_grown hg1 (Nat.le_of_eq Hbw.out) NR.out.size);have Hb1:=hid hb1;have Hc1:=hid hc1;have YQ:=hid (Hco.out w1 hb1);clear hc1 hg1 hb1 Hgr NR Hco;by_cases hall:∀s∈l,Ew s
 ·unfold lT at YQ;simp only[if_pos hall]at YQ;have BJ:=hid hall;clear hall;go_wp2_with fail
  refine YQ.out.mono ?_;rintro e w2 ⟨⟨A0,k0,A1,k1,A2,k2,B,kb,rfl,hk0,hk1,hk2,hr0,hr1,hr2,hrb⟩,hb2⟩;have hb2':=Hb1.out.trans (hb2.mono Hb1.out.size);have hc2:=Hc1.out.below hb2;obtain⟨ba,hba⟩:∃ba,w2.heap.size=ba:=⟨_,rfl⟩;have hal:=(Below.refl w2.heap.size w2).alloc (Nat.le_refl _) (.cells #[.slice A0 l.length k0,.slice A1 l.length k1,.slice A2 l.length k2] 108);have hra:=Row.new w2 108 [.slice A0 l.length k0,.slice A1 l.length k1,.slice A2 l.length k2];obtain⟨a0,a1,a2⟩:=fV hra;have Hb3:=hid (hb2'.trans (hal.mono hb2'.size));have Hc3:=hid (hc2.below hal);have HR3:=hid (⟨aC hr0 hal,aC hr1 hal,aC hr2 hal,aC hrb hal⟩:_∧_∧_∧_);have hpl:∀j,(cZ j (aP (1,2,4) l)).length=l.length:=fun j=>by rw[cZ,List.length_map,fK]
  have Hst:Hid (∀j A k W,l.length≤k→Reads W A (u8s (cZ j (aP (1,2,4) l)))→Calls prog 62 #[.slice A l.length k] W fun e w'=>(∃S,UU (cZ j (aP (1,2,4) l)) S∧e=.returned (.string (strOf S)))∧Below W.heap.size W w'):=hid (fun j A k W hk hr=>by
   have h1:=Xu A k (cZ j (aP (1,2,4) l)) W (by rw[hpl];exact h0) (by rw[hpl];exact hl) (by rw[hpl];exact hk) (acg l _ BJ.out j) hr;rw[hpl]at h1;exact h1)
  have ady:=dx l.length (by omega);have hbE:(dK (aP (1,2,4) l)).length≤5000:=by
   have h1:=uq _ (rJ l (1,2,4) BJ.out);rw[iY]at h1;rw[dK,Bm.bytesOf_length];omega
  have fO:=hid (fun W (X S:List Nat) (hX:X.length+S.length≤100000) (h:CW W bw X)=>gX bw X S W (by omega) h);have hb256:∀x∈dK (aP (1,2,4) l),x<256:=eF _ _;have Hcv:=hid (fun W A c (h:Reads W A (u8s (dK (aP (1,2,4) l))))=>bP W A c _ hb256 h);have Htx:=hid (fun W (X:List Nat) (hX:X.length≤100000) (h:CW W bw X)=>qL bw X (dK (aP (1,2,4) l)) W (by omega) (by omega) h);have pE:=hid (fun W (X:List Nat) (hX:X.length≤100000) (hx:∀x∈X,x<256) (h:CW W bw X)=>iP bw X W (by omega) hx h);have lu:=hid (fun S0 S1 S2 h1 h2 h3=>acD l h0 hl BJ.out S0 S1 S2 h1 h2 h3);have HK:=hid (⟨hk0,hk1,hk2⟩:_∧_∧_);have ajn:w.heap.size≤bw:=Nat.le_of_eq Hbw.out;have Hlen:=hid hpl;clear hb2 hb2' hc2 hr0 hr1 hr2 hrb hk0 hk1 hk2 hal hra hpl hb256 YQ Hb1 Hc1 Hbw;generalize hbx:dK (aP (1,2,4) l)=bE at *;have Hbx:=hid hbx;clear hbx;generalize hnl:l.length=n at *;have Hnl:=hid hnl;clear hnl;go_wp2;rw[hba]at *;generalize w2.alloc (.cells #[.slice A0 n k0,.slice A1 n k1,.slice A2 n k2] 108)=wA at *;clear a0 a1 a2;go_loopw [9,30] (fun _ i wr=>∃(j:Nat) (Ss:List (List Nat)),i=.int .i64 (j:Int)∧j≤3∧Hid (Ss.length=j)∧Hid (∀q S,Ss[q]?=some S→UU (cZ q (aP (1,2,4) l)) S)∧Hid (CW wr bw (grp n++Ss.flatten))∧Hid (Ss.flatten.length≤j*701) ∧
   Hid (Below w.heap.size w wr)∧Hid (Reads wr A0 (u8s (cZ 0 (aP (1,2,4) l)))∧Reads wr A1 (u8s (cZ 1 (aP (1,2,4) l)))∧Reads wr A2 (u8s (cZ 2 (aP (1,2,4) l)))∧Reads wr B (u8s bE))) (fun _ i _=>3-(intOf i).toNat)
  case atStart=>exact⟨0,[],rfl,by omega,hid rfl,hid (fun q S h=>by simp at h),by rw[List.flatten_nil,List.append_nil];exact Hc3,hid (by simp),Hb3,HR3⟩
  case round=>
   obtain⟨j,Ss,rfl,hj,hSl,hSp,hcw,hfl,hbel,hrr⟩:=hrel;clear Hc3 Hb3 HR3;by_cases hj3:j<3
   ·have dj:(j:Int)<3:=by omega
    have key:∃(A:Option Addr) (kk:Nat),Hid ([Value.slice A0 n k0,.slice A1 n k1,.slice A2 n k2][j]?=some (.slice A n kk))∧n≤kk∧Hid (Reads wr A (u8s (cZ j (aP (1,2,4) l)))):=by
     obtain⟨r0,r1,r2,_⟩:=hrr.out;obtain⟨q0,q1,q2⟩:=HK.out;rcases(by omega:j=0∨j=1∨j=2)with rfl | rfl | rfl
     ·exact⟨A0,k0,rfl,q0,r0⟩
     ·exact⟨A1,k1,rfl,q1,r1⟩
     ·exact⟨A2,k2,rfl,q2,r2⟩
    obtain⟨A,kk,hidx,hkk,hrj⟩:=key;have hidx2:∀W,(Instr.index 108 (.agg #[.slice A0 n k0,.slice A1 n k1,.slice A2 n k2]) (.int .i64 (j:Int))).run prog W=.ok (.slice A n kk) W:=fun W=>by
     have h:=hidx.out;rcases(by omega:j=0∨j=1∨j=2)with rfl | rfl | rfl
     all_goals
      simp only[List.getElem?_cons_zero,List.getElem?_cons_succ,Option.some.injEq]at h;rw[h];simp[Instr.index,run_underlying underlying108,asIntOf,go_sem]
    have bB:=hid (Hst.out j A kk wr hkk hrj.out);clear hidx hrj;go_wp2_with fail
    refine bB.out.mono ?_;rintro e w4 ⟨⟨S,hS,rfl⟩,hb4⟩;have ajd:=hS.len;have hln:=Hlen.out j;rw[hln]at ajd;have Hs:=hid hS;have ahy:=hcw.out.below hb4;have aeO:=hbel.out.trans (hb4.mono hbel.out.size);have ahz:=hfl.out;have Hr4:=hid (fO.out w4 (grp n++Ss.flatten) S (by rw[List.length_append];omega) ahy);have HR4:=hid (⟨aC hrr.out.1 hb4,aC hrr.out.2.1 hb4,aC hrr.out.2.2.1 hb4,aC hrr.out.2.2.2 hb4⟩:_∧_∧_∧_);have adP:=hid ahy;have Hb4:=hid aeO;have akK:Hid ((Ss++[S]).flatten.length≤(j+1)*701):=hid (by rw[List.flatten_append,List.length_append,List.flatten_singleton];omega);clear hb4 hS hln ahy aeO ahz bB hbel hrr hcw hfl ajd;go_wp2_with fail
    refine Hr4.out.mono ?_;rintro e w5 ⟨rfl,hc5,hg5⟩;have Hc5:Hid (CW w5 bw (grp n++(Ss++[S]).flatten)):=hid (by rw[List.flatten_append,List.flatten_singleton,←List.append_assoc];exact hc5);have HR5:=hid (⟨Aj adP.out HR4.out.1 hg5,Aj adP.out HR4.out.2.1 hg5,Aj adP.out HR4.out.2.2.1 hg5,Aj adP.out HR4.out.2.2.2 hg5⟩:_∧_∧_∧_);have Hb5:=hid (Hb4.out.trans (below_grown hg5 ajn Hb4.out.size));clear hc5 hg5 Hr4 HR4 adP Hb4;go_wp2;go_roundw
    case rel=>
     refine⟨j+1,Ss++[S],by go_num,by omega,hid (by rw[List.length_append,hSl.out];rfl),hid (fun q S' h=>?_),Hc5,akK,Hb5,HR5⟩;rcases Nat.lt_or_ge q Ss.length with hq | hq
     ·rw[List.getElem?_append_left hq]at h;exact hSp.out q S' h
     ·rw[List.getElem?_append_right hq,List.getElem?_singleton]at h;split at h
      ·next h0=>
       injection h with h
       have:q=j:=by rw[←hSl.out];omega
       rw[this,←h];exact Hs.out
      ·cases h
    case measure=>simp[intOf];omega
   ·have abe:j=3:=by omega
    subst abe;obtain⟨S0,S1,S2,hS3⟩:∃S0 S1 S2,Ss=[S0,S1,S2]:=by
     match Ss,hSl.out with
     | [x,y,z],_=>exact⟨x,y,z,rfl⟩
    subst hS3;have hQ:=lu.out S0 S1 S2 (hSp.out 0 S0 rfl) (hSp.out 1 S1 rfl) (hSp.out 2 S2 rfl);have e0:(grp n++[S0,S1,S2].flatten)++(grp bE.length++bE)=JW n S0 S1 S2 bE:=by
     simp[JW]
    have hcv:=Hcv.out wr B kb hrr.out.2.2.2;have ahz:=hfl.out;have ht1:=Htx.out wr _ (by rw[List.length_append];omega) hcw.out;rw[e0]at ht1;have Ht1:=hid ht1;have Hs1:=hid (fun W (h:CW W bw (JW n S0 S1 S2 bE))=>pE.out W _ (by have:=hQ.len;omega) hQ.lt h);have BS:Hid (∀e,e=.returned (.tuple #[.string (strOf (JW n S0 S1 S2 bE)),.bool true])→Im e l):=hid (fun e he=>by
     unfold Im;rw[if_pos BJ.out];exact⟨_,hQ,he⟩)
    have jm:=hid hbel.out;clear hQ e0 ahz ht1 hbel hrr hcw hfl hSp hSl Htx pE fO Hst lu Hcv HK Hlen;generalize JW n S0 S1 S2 bE=E at *;go_wp2_with fail
    refine Ht1.out.mono ?_;rintro e w5 ⟨rfl,hc5,hg5⟩;have Hb5:=hid (jm.out.trans (below_grown hg5 ajn jm.out.size));have Hs5:=hid (Hs1.out w5 hc5);clear hc5 hg5 jm Ht1 Hs1 hcv;go_wp2_with fail
    refine Hs5.out.mono ?_;rintro e w6 ⟨rfl,hb6⟩;have Hb6:=hid (Hb5.out.trans (hb6.mono Hb5.out.size));clear hb6 Hb5 Hs5;generalize strOf E=sE at *;go_wp2;go_ret2;refine⟨?_,Hb6.out⟩;rw[YM.out];exact BS.out _ rfl
 ·unfold lT at YQ;simp only[if_neg hall]at YQ;have BS:Hid (∀e,e=.returned (.tuple #[.string (strOf []),.bool false])→Im e l):=hid (fun e he=>by
   unfold Im;rw[if_neg hall];exact he)
  clear hall;go_wp2_with fail
  refine YQ.out.mono ?_;rintro e w2 ⟨rfl,hb2⟩;have Hb2:=hid ((Hb1.out.trans (hb2.mono Hb1.out.size)).alloc (Hb1.out.trans (hb2.mono Hb1.out.size)).size (.cells #[.slice none 0 0,.slice none 0 0,.slice none 0 0] 108));clear hb2 Hb1 YQ Hc1;go_wp2;go_ret2;refine⟨?_,Hb2.out⟩;rw[YM.out];exact BS.out _ rfl
theorem Xl(A:Option Addr)(c:Nat)(l:List StZ)(w:World)(hl:l.length≤700)(hok:ZOk l)(hr:Uu w A l) :
  Calls prog 36 #[.slice A l.length c] w fun e w'=>Im e l∧Below w.heap.size w w':=by
 cases l with
 | nil=>exact Xm A c w
 | cons s l=>exact RZ A c (s :: l) w (by simp) hl hok hr
end Go.Proofs.YtgiicohbigiapaaGreat
