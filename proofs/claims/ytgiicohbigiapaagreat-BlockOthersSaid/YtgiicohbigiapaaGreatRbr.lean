/- Contracts, and what they rest on. Conditions: the theorems' premises. -/
import Derived.Test.YtgiicohbigiapaaGreatRbb
import Derived.Test.YtgiicohbigiapaaGreatRbe
import Derived.Test.YtgiicohbigiapaaGreatRbq
import Derived.Test.YtgiicohbigiapaaGreatRbc
set_option maxHeartbeats 4000000
set_option maxRecDepth 100000
open Go.Lib(hid)
open Go.Proofs.Tryz Go.Proofs.YtgiicohbigiapaaGreat.Bm
namespace Go.Proofs.YtgiicohbigiapaaGreat
open Go.RowKit
def Kt(w':World)(b:Nat)(bs:List Nat)(e:Ending):Option (List Nat×Nat)→Prop
 | none=>e=.returned (.tuple #[.string (strOf []),.bool false])
 | some t=>e=.returned (.tuple #[.string (strOf t.1),.bool true])∧CR w' b (some (bs.drop t.2))
theorem Qb(A:Option Addr)(c:Nat)(ls:List Nat)(w:World)(hW:bC ls)(hr:Reads w A (aM ls)) :
  Calls prog 142 #[.slice A ls.length c] w fun e w'=>∃g,e=.returned (.tuple #[.slice (some ⟨g,0,none⟩) ls.length ls.length,.bool true])∧Reads w' (some ⟨g,0,none⟩) (aM (iU ls))∧w.heap.size≤g∧Below w.heap.size w w':=by
 have hl:=hW.1;have h:=yU A c (ls.map fun n:Nat=>(n:Int)) w (by rw[List.length_map];omega) (by rw[bJ];exact hr) ((xJ ls).2 hW);rw[List.length_map,AL]at h;exact h
theorem WG(b n:Nat)(t:List Nat)(w:World)(ht:t.length≤1000)(hlt:∀x∈t,x<256)(hn:n≤1048576)(h:CR w b (some t)) :
  Calls prog 110 #[.pointer (some ⟨b,0,none⟩),.int .i64 (n:Int)] w fun e w'=>Kt w' b t e (eD 2 n t)∧w.grownBy w' (some b):=by
 have Hr:=hid (WI w b t (by omega) hlt h);have e2:eD 2 n t=(match jf t with | none=>none | some p=>(oG p.1 (t.drop p.2) n).map fun q=>(q.1,p.2+q.2)):=by
  unfold eD;rw[if_neg (by decide),if_neg (by decide),if_pos rfl];rfl
 rw[e2];clear e2 h;have hat:=JL t;have hwh:=wR t;cases hrd:jf t with
 | none=>
  rw[hrd]at Hr;dsimp only;clear hat hwh hrd hlt ht;go_enter func110,ntmps110
  go_wp2_with fail
  refine Hr.out.mono ?_;rintro e w1 ⟨⟨A,c,rfl⟩,hg1⟩;go_wp2;go_ret2;exact⟨rfl,hg1⟩
 | some p=>
  obtain⟨ls,sz⟩:=p;have hr1:=Hr.out;rw[hrd]at hr1;unfold UQ at hr1;dsimp only at hr1;replace Hr:=hid hr1
  clear hr1;have hW:=hwh (ls,sz) hrd;dsimp only at hW ⊢;have hdl:(t.drop sz).length≤1000:=by rw[List.length_drop];omega
  have hdt:∀x∈t.drop sz,x<256:=bZ hlt sz;have hdd:∀k,(t.drop sz).drop k=t.drop (sz+k):=fun k=>by rw[List.drop_drop]
  have Hdd:=hid hdd;have Htx:=hid (fun W (h:CR W b (some (t.drop sz)))=>mO b (some (t.drop sz)) 9223372036854775807 W (by omega) (by omega) ⟨hdt,by omega⟩ h);have HW:=hid hW;clear hat hwh hrd hlt ht hW hdd;generalize t.drop sz=u at *;by_cases hc:0<(aj u).2∧(aj u).1≤u.length-(aj u).2
  ·have ht2:=Ym u hc (by omega);have ecb:oG ls u n=(KX ls ((u.drop (aj u).2).take (aj u).1) n).map fun x=>(x,(aj u).2+(aj u).1):=by unfold oG;rw[if_pos hc]
   rw[ht2]at Htx;rw[ecb];dsimp only at Htx;obtain⟨cd,hcd⟩:∃cd,cd=(u.drop (aj u).2).take (aj u).1:=⟨_,rfl⟩;have hcl:cd.length≤1000:=by rw[hcd,List.length_take,List.length_drop];omega
   have hct:∀x∈cd,x<256:=fun x hx=>hdt x (List.mem_of_mem_drop (List.mem_of_mem_take (by rw[hcd]at hx;exact hx)))
   rw[←hcd]at Htx ⊢;obtain⟨k,hk⟩:∃k,k=(aj u).2+(aj u).1:=⟨_,rfl⟩;rw[←hk]at Htx ⊢;have UD:=hid (fun W A c (hr:Reads W A (aM ls))=>Wv A c ls cd n W HW.out (by omega) hcl hct hr (Qb A c ls W HW.out hr));have Hlen:=hid (fun d (h:KX ls cd n=some d)=>(Am ls cd d n hct h).2.2);clear hc ht2 ecb hcd hcl hct hk hdl hdt;have afY:=hid (fun W A c bs h1 h2=>bP W A c bs h1 h2);generalize strOf cd=scd at *;go_enter func110,ntmps110
   go_wp2_with fail
   refine Hr.out.mono ?_;rintro e w1 ⟨⟨A,c,rfl,abp,rD⟩,hg1⟩;have Hg1:=hid hg1;have YV:=hid abp;have aip:=hid rD;have Ut:=hid (Htx.out w1 rD);clear abp hg1 Hr Htx rD;go_wp2_with fail
   refine Ut.out.mono ?_;rintro e w2 ⟨rfl,jQ,hg2⟩;have Hg2:=hid (aA Hg1.out hg2);have Hrb:=hid (aK b _ w2 jQ);have aiJ:=hid (Mt aip.out YV.out hg2);have uR:=hid jQ;clear hg2 jQ Hg1 Ut YV aip;go_wp2_with fail
   refine Hrb.out.mono ?_;rintro e w3 ⟨rfl,rfl⟩;have Hd2:=hid (UD.out w2 A c aiJ.out);clear Hrb UD aiJ;cases hdc:KX ls cd n with
   | none=>
    rw[hdc]at Hd2;have hnil:∀W A c,(convert 87 9 (.slice A 0 c)).run prog W=.ok (.string (strOf [])) W:=fun W A c=>afY.out W A c [] (by simp) (fun h=>absurd rfl h)
    have Hdc:=hid hdc;clear Hlen afY hdc uR;go_wp2_with fail
    refine Hd2.out.mono ?_;rintro e w4 ⟨⟨A4,c4,rfl⟩,hb4⟩;have Hg4:=hid (aA Hg2.out (ak hb4 (some b)));have hcv:=hnil w4 A4 c4;clear hb4 Hg2 Hd2 hnil;go_wp2;go_ret2;rw[Hdc.out];exact⟨rfl,Hg4.out⟩
   | some d=>
    rw[hdc]at Hd2;have aeR:∀x∈d,x<256:=fun x hx=>Nat.lt_of_lt_of_le (Hlen.out d hdc x hx) HW.out.1
    have aju:=hid (fun W A c h=>afY.out W A c d aeR h);have Hdc:=hid hdc;clear Hlen afY hdc aeR;have adM:Hid (CR w2 b (some (t.drop (sz+k)))):=hid (by rw[←Hdd.out];exact uR.out);clear uR;go_wp2_with fail
    refine Hd2.out.mono ?_;rintro e w4 ⟨⟨A4,c4,rfl,_,ajR⟩,hb4⟩;have hcv:=aju.out w4 A4 c4 ajR;have Hg4:=hid (aA Hg2.out (ak hb4 (some b)));have Us:=hid (adM.out.below hb4);clear hb4 Hg2 Hd2 aju ajR adM;generalize hsd:strOf d=sd at *;have Hsd:=hid hsd;clear hsd;go_wp2;go_ret2;rw[Hdc.out,←Hsd.out];exact⟨⟨rfl,Us.out⟩,Hg4.out⟩
  ·have ht2:=acS u hc (by omega);have ecb:oG ls u n=none:=by unfold oG;rw[if_neg hc]
   rw[ht2]at Htx;rw[ecb];dsimp only at Htx;rw[Option.map_none];have Hcv:=hid (ay []);generalize strOf []=sN at *;clear ht2 ecb hc hdl hdt Hdd HW;go_enter func110,ntmps110
   go_wp2_with fail
   refine Hr.out.mono ?_;rintro e w1 ⟨⟨A,c,rfl,abp,rD⟩,hg1⟩;have Hg1:=hid hg1;have Ut:=hid (Htx.out w1 rD);clear abp hg1 Hr Htx rD;go_wp2_with fail
   refine Ut.out.mono ?_;rintro e w2 ⟨rfl,jQ,hg2⟩;have Hg2:=hid (aA Hg1.out hg2);have Hrb:=hid (aK b _ w2 jQ);clear hg2 jQ Hg1 Ut;go_wp2_with fail
   refine Hrb.out.mono ?_;rintro e w3 ⟨rfl,rfl⟩;clear Hrb;go_wp2;go_ret2;exact⟨rfl,Hg2.out⟩
namespace Bm
theorem Lf(s ls:List Nat)(h:zT (aR s) ls)(h0:0<s.length):aI ls=ls:=by
 have hl:=h.len;rw[ng]at hl;obtain⟨x,hx⟩:∃x,x∈s:=by
  cases s with
  | nil=>simp at h0
  | cons x s=>exact⟨x,List.mem_cons_self⟩
 have:=jG s x hx;obtain⟨b,hb,e⟩:=TT s (by omega);have hp:=h.fit b (by rw[ng];omega) (yM s b hb);refine zF ls ?_;rw[show ls.length-1=b by omega];omega
theorem VP(s ls:List Nat)(h:zT (aR s) ls):∀b∈s,0<ls[b]?.getD 0:=fun b hb=>h.fit b (by rw[ng];exact jG s b hb) (yM s b hb)
theorem Ct(ls bs:List Nat)(h:∀x∈ls,x≤11):Ah ls bs≤11*bs.length:=by
 unfold Ah;induction bs with
 | nil=>simp
 | cons b bs ih=>
  have h3:=CO h b;rw[List.map_cons,List.sum_cons,List.length_cons];omega
def ZP(s ls c:List Nat):Prop:=bC ls∧aI ls=ls∧NA ls s=some c∧c.length≤100000∧∀x∈c,x<256
theorem aaF(s ls:List Nat)(h:zT (aR s) ls)(h0:0<s.length)(hs:s.length≤10000):∃c,ZP s ls c:=by
 obtain⟨t,ht⟩:=CF ls s (VP s ls h);have htl:=vI ls s t ht;have hcl:=Ct ls s h.whole.2.1;refine⟨oN t,h.whole,Lf s ls h h0,by rw[NA,ht];rfl,by rw[mK];omega,JE t⟩
end Bm
theorem Li(A:Option Addr)(c:Nat)(ls:List Nat)(w:World)(hW:bC ls)(hr:Reads w A (aM ls)) :
  Calls prog 142 #[.slice A ls.length c] w fun e w'=>∃g,e=.returned (.tuple #[.slice (some ⟨g,0,none⟩) ls.length ls.length,.bool true])∧Reads w' (some ⟨g,0,none⟩) (aM (iU ls))∧w.heap.size≤g∧Below w.heap.size w w':=by
 have hl:=hW.1;have h:=yU A c (ls.map fun n:Nat=>(n:Int)) w (by rw[List.length_map];omega) (by rw[bJ];exact hr) ((xJ ls).2 hW);rw[List.length_map,AL]at h;exact h
theorem WO(A:Option Addr)(c:Nat)(ls:List Nat)(w:World)(hW:bC ls)(hc:ls.length≤c)(hr:Reads w A (aM ls)) :
  Calls prog 107 #[.slice A ls.length c] w fun e w'=>e=.returned (.tuple #[.string (strOf (bS (aI ls))),.bool true])∧Below w.heap.size w w':=by
 have hl:=hW.1;have h:=abH w A c (ls.map fun n:Nat=>(n:Int)) (by rw[List.length_map];omega) (by rw[List.length_map];exact hc) (fun x hx=>by
  obtain⟨n,hn,rfl⟩:=List.mem_map.1 hx;have:=hW.2.1 n hn;constructor<;>omega) (by rw[bJ];exact hr)
 rw[List.length_map,AL,if_pos ((xJ ls).2 hW)]at h;exact h
theorem Yq(A:Option Addr)(c:Nat)(s:List Nat)(w:World)(h0:0<s.length)(hs:s.length≤10000)(hlt:∀x∈s,x<256)(hr:Reads w A (aM (aR s))) :
  Calls prog 106 #[.slice A (iD s) c] w fun e w'=>∃B d ls,e=.returned (.tuple #[.slice B (iD s) d,.bool true])∧iD s≤d∧ls.length=iD s∧Reads w' B (aM ls)∧(∃c,ZP s ls c)∧Below w.heap.size w w':=by
 have ht:=jO s hlt;have h1:=acW w A c (aF s) (by rw[bI];omega) (fun x hx=>by have:=kN s x hx;constructor<;>omega) (by unfold aF;rw[bJ];exact hr) (pK s hlt (by omega) h0);rw[bI,EZ]at h1;refine h1.mono ?_;rintro e w' ⟨B,d,ls,rfl,hd,hrd,hg,hb⟩;exact⟨B,d,ls,rfl,hd,by rw[hg.len,ng],hrd,aaF s ls hg h0 hs,hb⟩
theorem abB(A:Option Addr)(c:Nat)(s:List Nat)(w:World)(h0:0<s.length)(hs:s.length≤10000)(hlt:∀x∈s,x<256)(hr:Reads w A (aM (aR s))) :
  Calls prog 68 #[.string (strOf s),.slice A (iD s) c] w fun e w'=>(∃ls c,ZP s ls c∧e=.returned (.tuple #[.string (strOf (gD ls c s)),.bool true]))∧Below w.heap.size w w':=by
 have Hl:=hid (Yq A c s w h0 hs hlt hr);have hcv:=fun W=>bU W s hlt
 have Hcv:=hid hcv;have Ob:∀W,Calls prog 66 #[.int .u64 2,.string (strOf s)] W _:=fun W=>AA 2 s W (by decide) (by omega)
 have agd:=hid Ob;have Hlt:=hid hlt;have Hs:=hid hs;clear hr hlt hcv Ob h0 hs;go_enter func68,ntmps68
 go_wp2_with fail
 refine Hl.out.mono ?_;rintro e w1 ⟨B,d,ls,rfl,hd,hll,hrd,⟨cd,hcd⟩,hb1⟩;have Hll:=hid hll;have htab:=WO B d ls w1 hcd.1 (by omega) hrd;rw[hcd.2.1,hll]at htab;have YZ:=hid htab;have Hrd:=hid hrd;have Hcd:=hid hcd;have Hb1:=hid hb1;clear hrd hcd hb1 htab hll Hl hd;go_wp2_with fail
 refine YZ.out.mono ?_;rintro e w2 ⟨rfl,hb2⟩;obtain⟨w3,cap,bO,hcell,hb3⟩:=Hcv.out w2;have hrs:Reads w3 (some ⟨w2.heap.size,0,none⟩) (u8s s):=fun _=>⟨_,_,rfl,fun j hj=>by
  rw[aO]at hj;rw[Nat.zero_add,hcell j hj,bD s j hj]⟩
 have hrl:=aC (aC Hrd.out hb2) hb3;have henc:=Ww B (some ⟨w2.heap.size,0,none⟩) d cap ls s w3 Hcd.out.1 Hs.out Hlt.out hrl hrs (Li B d ls w3 Hcd.out.1 hrl);rw[Hcd.out.2.2.1,Hll.out]at henc;unfold afN at henc;dsimp only at henc;have YR:=hid henc;have Hb3:=hid (Hb1.out.trans ((hb2.trans (hb3.mono hb2.size)).mono Hb1.out.size));clear hb2 hb3 hrs hrl henc hcell Hb1 YZ Hrd Hcv Hll;have hcl:=Hcd.out.2.2.2.1;have htl:(bS ls).length≤200:=by
  rw[dI];have:=Hcd.out.1.1;omega
 have ady:=dx s.length (by have:=Hs.out;omega);have fO:=hid (fun W b h=>gX b (2 :: grp s.length) (bS ls) W (by rw[List.length_cons];omega) h);have aam:=hid (fun W b h=>qL b (2 :: grp s.length++bS ls) cd W (by rw[List.length_append,List.length_cons];omega) (by omega) h);have htc:=dx cd.length (by omega);have e0:2 :: grp s.length++bS ls++(grp cd.length++cd)=gD ls cd s:=by
  unfold gD;simp only[List.cons_append,List.append_assoc]
 have hall:∀x∈gD ls cd s,x<256:=by
  have hls:=Hcd.out.1;refine zD 2 _ _ (by decide) (by have:=Hs.out;omega) (jU (xA ls hls.2.1 hls.1) (jU (jX _ (by omega)) Hcd.out.2.2.2.2))
 have hlen:(gD ls cd s).length≤1000000:=by
  unfold gD;simp only[List.length_cons,List.length_append];omega
 rw[e0]at aam;have pE:=hid (fun W b h=>iP b (gD ls cd s) W (by omega) hall h);clear e0 hall hlen hcl htl ady htc Hs Hlt;go_wp2_with fail
 refine YR.out.mono ?_;rintro e w4 ⟨rfl,hb4⟩;have Hb4:=hid (Hb3.out.trans (hb4.mono Hb3.out.size));clear hb4 Hb3 YR;go_wp2_with fail
 refine(agd.out w4).mono ?_;rintro e w5 ⟨rfl,hc5,hb5⟩;have Hb5:=hid (Hb4.out.trans (hb5.mono Hb4.out.size));have Hle:=hid Hb4.out.size;have Hr5:=hid (fO.out w5 _ hc5);clear hc5 hb5 Hb4 fO agd;generalize w4.heap.size=b at *;go_wp2_with fail
 refine Hr5.out.mono ?_;rintro e w6 ⟨rfl,hc6,hg6⟩;have Hb6:=hid (Hb5.out.trans (below_grown hg6 Hle.out Hb5.out.size));have Ht6:=hid (aam.out w6 _ hc6);clear hc6 hg6 Hb5 Hr5 aam;go_wp2_with fail
 refine Ht6.out.mono ?_;rintro e w7 ⟨rfl,hc7,hg7⟩;have Hb7:=hid (Hb6.out.trans (below_grown hg7 Hle.out Hb6.out.size));have Hs7:=hid (pE.out w7 _ hc7);clear hc7 hg7 Hb6 Ht6 pE;go_wp2_with fail
 refine Hs7.out.mono ?_;rintro e w8 ⟨rfl,hb8⟩;have Hb8:=hid (Hb7.out.trans (hb8.mono Hb7.out.size));clear hb8 Hb7 Hs7;go_wp2;go_ret2;exact⟨⟨ls,cd,Hcd.out,rfl⟩,Hb8.out⟩
theorem WA(A:Option Addr)(c:Nat)(s:ByteArray)(w:World) :
  Calls prog 68 #[.string s,.slice A 0 c] w fun e w'=>e=.returned (.tuple #[.string (strOf []),.bool false])∧Below w.heap.size w w':=by
 have h:Calls prog 106 #[.slice A 0 c] w _:=acX A c [] w (by unfold maxLen;simp) (fun h=>absurd rfl h) (by rintro⟨_,_,x,hx,_⟩;simp at hx);have H:=hid h;clear h;go_enter func68,ntmps68
 go_wp2_with fail
 refine H.out.mono ?_;rintro e w' ⟨rfl,rfl⟩;go_wp2;go_ret2;exact⟨rfl,Below.refl _ _⟩
theorem abG(k:Nat)(s:List Nat)(w:World)(hk:k<256)(hs:s.length≤10000000) :
  Calls prog 66 #[.int .u64 (k:Int),.string (strOf s)] w fun e w'=>∃b,e=.returned (.pointer (some ⟨b,0,none⟩))∧CW w' b (k :: grp s.length)∧w.heap.size≤b∧Below w.heap.size w w':=
 (AA k s w hk hs).mono fun _ _ ⟨h1,h2,h3⟩=>⟨_,h1,h2,Nat.le_refl _,h3⟩
theorem FN(s:List Nat)(w:World)(hs:s.length≤10000)(hlt:∀x∈s,x<256)(h1:kH (aF s)=1) :
  Calls prog 37 #[.string (strOf s)] w fun e w'=>e=.returned (.string (strOf (Ca s)))∧Below w.heap.size w w':=by
 obtain⟨x,hx,h0⟩:=vZ s h1;obtain⟨w1,cap,bO,hcell,hb1⟩:=bU w s hlt;have hrs:Reads w1 (some ⟨w.heap.size,0,none⟩) (u8s s):=fun _=>⟨_,_,rfl,fun j hj=>by
  rw[aO]at hj;rw[Nat.zero_add,hcell j hj,bD s j hj]⟩
 have Hof:=hid (Zy (some ⟨w.heap.size,0,none⟩) cap s w1 (by omega) hlt hrs);have hsy:=fun A c W h=>vY A c s W hlt h
 rw[h1]at hsy;have Hsy:=hid hsy;have Ob:∀W,Calls prog 66 #[.int .u64 1,.string (strOf s)] W _:=fun W=>abG 1 s W (by decide) (by omega)
 have agd:=hid Ob;have ady:=dx s.length (by omega);have ht1:(s.take 1).length≤1:=by rw[List.length_take];omega
 have fO:=hid (fun W b h=>gX b (1 :: grp s.length) (s.take 1) W (by rw[List.length_cons];omega) h);have pE:=hid (fun W b h=>iP b ((1 :: grp s.length)++s.take 1) W (by rw[List.length_append,List.length_cons];omega) (zD 1 s.length (s.take 1) (by decide) (by omega) (gQ hlt 1)) h);have e0:(1 :: grp s.length)++s.take 1=Ca s:=rfl;rw[e0]at fO pE;have hcut:∀W:World,(Instr.slice 9 (.string (strOf s)) none (some (.int .i64 1)) none).run prog W=.ok (.string (strOf (s.take 1))) W:=fun W=>oh s 1 (by omega) W
 have hsz:=ay s;have Hb1:=hid hb1;clear hx hcell hrs hsy Ob ady ht1 e0 h1 hlt hb1;generalize Ca s=E at *;generalize strOf (s.take 1)=s1 at *;generalize strOf s=str at *;go_enter func37,ntmps37
 go_wp2_with fail
 refine Hof.out.mono ?_;rintro e w2 ⟨A,c,rfl,hr2,hb2⟩;have Hb2:=hid (Hb1.out.trans (hb2.mono Hb1.out.size));have Hs2:=hid (Hsy.out A c w2 hr2);clear hr2 hb2 Hb1 Hof Hsy bO;go_wp2_with fail
 refine Hs2.out.mono ?_;rintro e w3 ⟨rfl,hb3⟩;have Hb3:=hid (Hb2.out.trans (hb3.mono Hb2.out.size));clear hb3 Hb2 Hs2;go_upto_region 3 with fail
 refine wp_region_held_drew (S:=(fun _:World=>True)) (by kernel_rfl) (by trivial) (fun hHeld=>?_);refine wpAnyH_take (i:=0) (oi:={dst:=some 13,op:=.move (.tmp 0),type:=9,pos:= "lits.go:30",after:=#[],guard:=none}) (v:=?_) rfl (by kernel_rfl) (by kernel_rfl) (by kernel_rfl) (fun _ _ _ h=>h) (Or.inl ⟨by rfl,?_⟩) (by assumption) ?_;rotate_left
 ·(intro w hSw;(try dsimp only at hSw);go_simp;(try with_reducible rfl))
 try simp only[Act.put,List.setIfInBounds_toArray,List.set_cons_zero,List.set_cons_succ]
 refine wpAnyH_take (i:=2) (oi:={dst:=some 15,op:=.move (.tmp 0),type:=9,pos:= "lits.go:30",after:=#[],guard:=none}) (v:=?_) rfl (by kernel_rfl) (by kernel_rfl) (by kernel_rfl) (fun _ _ _ h=>h) (Or.inl ⟨by rfl,?_⟩) (by assumption) ?_;rotate_left
 ·(intro w hSw;(try dsimp only at hSw);go_simp;(try with_reducible rfl))
 try simp only[Act.put,List.setIfInBounds_toArray,List.set_cons_zero,List.set_cons_succ]
 refine wpAnyH_take (i:=3) (oi:={dst:=some 16,op:=.slice 9 (.tmp 15) none (some (.const (.int .i64 1))) none,type:=9,pos:= "lits.go:30",after:=#[{on:=2,ground:=.data}],guard:=none}) (v:=?_) rfl (by kernel_rfl) (by kernel_rfl) (by kernel_rfl) (fun _ _ _ h=>h) (Or.inl ⟨by rfl,?_⟩) (by assumption) ?_;rotate_left
 ·(intro w hSw;(try dsimp only at hSw);go_simp;(try with_reducible rfl))
 try simp only[Act.put,List.setIfInBounds_toArray,List.set_cons_zero,List.set_cons_succ]
 refine wpAnyH_ready (rs:=[1]) (by kernel_rfl) (by simp) ?_;refine AllReadyH.cons (o:={dst:=some 14,op:=.call {callee:=.value (.func 66),args:=#[.const (.int .u64 1),.tmp 13],argTypes:=#[31,9]},type:=63,pos:= "lits.go:30",after:=#[{on:=0,ground:=.data}],guard:=none}) rfl (fun K hK=>?_) AllReadyH.nil;go_simp
 (go_at_call 66;refine(agd.out _).mono ?_;rintro e w4 ⟨b,rfl,hc4,hbb,hb4⟩;have HX:=hid (Hb3.out.drew.trans (hb4.mono Hb3.out.size));have HB:=hid (Nat.le_trans Hb3.out.drew.size hbb);have HC:=hid hc4;clear hc4 hb4 hbb)
 go_simp;refine hK.out _ _ (by trivial) (fun hHeld=>?_);clear hK K
 try simp only[Act.put,List.setIfInBounds_toArray,List.set_cons_zero,List.set_cons_succ]
 refine wpAnyH_ready (rs:=[4]) (by kernel_rfl) (by simp) ?_;refine AllReadyH.cons (o:={dst:=some 17,op:=.call {callee:=.value (.func 33),args:=#[.tmp 14,.tmp 16],argTypes:=#[63,9]},type:=63,pos:= "lits.go:30",after:=#[{on:=1,ground:=.data},{on:=3,ground:=.data},{on:=1,ground:=.chain}],guard:=none}) rfl (fun K hK=>?_) AllReadyH.nil;go_simp
 (go_at_call 33;refine(fO.out _ _ HC.out).mono ?_;rintro e w5 ⟨rfl,hc5,hg5⟩;have HY:=hid (HX.out.trans (below_grown hg5 HB.out HX.out.size));have HD:=hid hc5;clear hc5 hg5)
 go_simp;refine hK.out _ _ (by trivial) (fun hHeld=>?_);clear hK K
 try simp only[Act.put,List.setIfInBounds_toArray,List.set_cons_zero,List.set_cons_succ]
 refine wpAnyH_ready (rs:=[5]) (by kernel_rfl) (by simp) ?_;refine AllReadyH.cons (o:={dst:=some 18,op:=.call {callee:=.value (.func 34),args:=#[.tmp 17],argTypes:=#[63]},type:=9,pos:= "lits.go:30",after:=#[{on:=4,ground:=.data},{on:=4,ground:=.chain}],guard:=none}) rfl (fun K hK=>?_) AllReadyH.nil;go_simp
 (go_at_call 34;refine(pE.out _ _ HD.out).mono ?_;rintro e w6 ⟨rfl,hb6⟩;have HZ:=hid (HY.out.trans (hb6.mono HY.out.size));clear hb6)
 go_simp;refine hK.out _ _ (by trivial) (fun hHeld=>?_);clear hK K
 try simp only[Act.put,List.setIfInBounds_toArray,List.set_cons_zero,List.set_cons_succ]
 refine wpAnyH_take (i:=6) (oi:={dst:=some 2,op:=.assign (.tmp 18),type:=9,pos:= "lits.go:30",after:=#[{on:=5,ground:=.data},{on:=5,ground:=.chain},{on:=0,ground:=.phase},{on:=1,ground:=.phase},{on:=2,ground:=.phase},{on:=3,ground:=.phase},{on:=4,ground:=.phase},{on:=5,ground:=.phase}],guard:=none}) (v:=?_) rfl (by kernel_rfl) (by kernel_rfl) (by kernel_rfl) (fun _ _ _ h=>h) (Or.inl ⟨by rfl,?_⟩) (by assumption) ?_;rotate_left
 ·(intro w hSw;(try dsimp only at hSw);go_simp;(try with_reducible rfl))
 try simp only[Act.put,List.setIfInBounds_toArray,List.set_cons_zero,List.set_cons_succ]
 refine wpAnyH_done (by kernel_rfl) ?_ _;go_wp2;go_ret;exact⟨rfl,HZ.out⟩
theorem FP(s:List Nat)(w:World)(hs:s.length≤10000)(hlt:∀x∈s,x<256)(h1:kH (aF s)≠1) :
  Calls prog 37 #[.string (strOf s)] w fun e w'=>(∃E,aap s E∧e=.returned (.string (strOf E)))∧Below w.heap.size w w':=by
 obtain⟨w1,cap,bO,hcell,hb1⟩:=bU w s hlt;have hrs:Reads w1 (some ⟨w.heap.size,0,none⟩) (u8s s):=fun _=>⟨_,_,rfl,fun j hj=>by
  rw[aO]at hj;rw[Nat.zero_add,hcell j hj,bD s j hj]⟩
 have Hof:=hid (Zy (some ⟨w.heap.size,0,none⟩) cap s w1 (by omega) hlt hrs);obtain⟨m,hm⟩:∃m,m=kH (aF s):=⟨_,rfl⟩;have hsy:=fun A c W h=>vY A c s W hlt h
 rw[←hm]at h1 hsy;have Hsy:=hid hsy;have dm:((m:Int) == 1)=false:=by rw[beq_eq_false_iff_ne];omega
 have fO:=hid (fun W=>WH s W (by omega) hlt);have HpR:=hid (acC s hlt (by omega));have Hb1:=hid hb1;have hin:(s=[]∧iD s=0)∨0<s.length:=by
  cases s with
  | nil=>exact .inl ⟨rfl,rfl⟩
  | cons x s=>exact .inr (by simp)
 have Hin:=hid (fun A c W h0 h=>abB A c s W h0 hs hlt h);have Hno:=hid (fun A c W=>WA A c (strOf s) W);have Hs:=hid hs;clear hcell hrs hsy hb1 hlt hm hs;go_enter func37,ntmps37
 go_wp2_with fail
 refine Hof.out.mono ?_;rintro e w2 ⟨A,c,rfl,hr2,hb2⟩;have Hb2:=hid (Hb1.out.trans (hb2.mono Hb1.out.size));have Hs2:=hid (Hsy.out A c w2 hr2);have Hr2:=hid hr2;clear hr2 hb2 Hb1 Hof Hsy bO;go_wp2_with fail
 refine Hs2.out.mono ?_;rintro e w3 ⟨rfl,hb3⟩;have Hb3:=hid (Hb2.out.trans (hb3.mono Hb2.out.size));have Hr3:=hid (aC Hr2.out hb3);clear hb3 Hb2 Hs2 Hr2 h1;go_wp2_with fail
 refine(fO.out w3).mono ?_;rintro e w4 ⟨rfl,hb4⟩;have Hb4:=hid (Hb3.out.trans (hb4.mono Hb3.out.size));have Hr4:=hid (aC Hr3.out hb4);clear hb4 Hb3 fO Hr3;have hsR:=ay (NJ s);have gV:Hid (∃E',aap s E'∧strOf (NJ s)=strOf E'):=hid ⟨NJ s,HpR.out,rfl⟩;clear HpR;generalize hlR:(NJ s).length=lR at hsR;have HlR:=hid hlR;clear hlR;generalize strOf (NJ s)=sR at *;rcases hin with⟨_,ht⟩ | h0
 ·rw[ht];have Hn4:=hid (Hno.out A c w4);clear Hin Hno Hr4 ht Hs HlR;generalize strOf s=str at *;have es:(strOf []).size=0:=ay [];generalize strOf []=sN at *;go_wp2_with fail
  refine Hn4.out.mono ?_;rintro e w5 ⟨rfl,hb5⟩;have Hb5:=hid (Hb4.out.trans (hb5.mono Hb4.out.size));clear hb5 Hb4 Hn4;obtain⟨E',h1,h2⟩:=gV.out;have H1:=hid h1;have H2:=hid h2;clear h1 h2 gV;go_wp2;go_ret;exact⟨⟨E',H1.out,congrArg (fun x=>Ending.returned (Value.string x)) H2.out⟩,Hb5.out⟩
 ·have Hi4:=hid (Hin.out A c w4 h0 Hr4.out);clear Hin Hno Hr4;go_wp2_with fail
  refine Hi4.out.mono ?_;rintro e w5 ⟨⟨ls,cd,hcd,rfl⟩,hb5⟩;have Hb5:=hid (Hb4.out.trans (hb5.mono Hb4.out.size));have Hcd:=hid hcd;have hsE:=ay (gD ls cd s);clear hb5 Hb4 Hi4 hcd;by_cases hl:(gD ls cd s).length<lR
  ·have HpE:=hid (SQ ls cd s (by have:=Hs.out;omega) Hcd.out.1 Hcd.out.2.1 Hcd.out.2.2.1 (by have:=Hcd.out.2.2.2.1;omega) Hcd.out.2.2.2.2 (by rw[HlR.out];exact hl));have d1:decide (((gD ls cd s).length:Int)<(lR:Int))=true:=decide_eq_true (by omega);have d2:decide ((gD ls cd s).length<lR)=true:=decide_eq_true hl;clear hl Hcd Hs HlR gV;generalize gD ls cd s=E at *;have H2:=hid (rfl:strOf E=strOf E);generalize hE:strOf E=sE at hsE H2 ⊢;have H3:=hid hE.symm;clear hE H2;generalize E.length=lE at *;go_wp2;go_ret;exact⟨⟨E,HpE.out,congrArg (fun x=>Ending.returned (Value.string x)) H3.out⟩,Hb5.out⟩
  ·have d1:decide (((gD ls cd s).length:Int)<(lR:Int))=false:=decide_eq_false (by omega);have d2:decide ((gD ls cd s).length<lR)=false:=decide_eq_false hl;clear hl Hcd Hs HlR;generalize strOf (gD ls cd s)=sE at *;generalize (gD ls cd s).length=lE at *;obtain⟨E',h1,h2⟩:=gV.out;have H1:=hid h1;have H2:=hid h2;clear h1 h2 gV;go_wp2;go_ret;exact⟨⟨E',H1.out,congrArg (fun x=>Ending.returned (Value.string x)) H2.out⟩,Hb5.out⟩
theorem QY(s:List Nat)(w:World)(hs:s.length≤10000)(hlt:∀x∈s,x<256) :
  Calls prog 37 #[.string (strOf s)] w fun e w'=>(∃E,aap s E∧e=.returned (.string (strOf E)))∧Below w.heap.size w w':=by
 by_cases h1:kH (aF s)=1
 ·exact(FN s w hs hlt h1).mono fun e w' ⟨he,hb⟩=>⟨⟨_,SL s hlt (by omega) h1,he⟩,hb⟩
 ·exact FP s w hs hlt h1
end Go.Proofs.YtgiicohbigiapaaGreat
