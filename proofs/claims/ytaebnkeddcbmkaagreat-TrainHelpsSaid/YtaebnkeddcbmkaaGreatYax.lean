/- Contracts, and what they rest on. Conditions: the theorems' premises. -/
import Derived.Test.YtaebnkeddcbmkaaGreatYaw
set_option maxHeartbeats 4000000
set_option maxRecDepth 100000
open Go.Lib(hid)
open Go.Proofs.Tryz Go.Proofs.YtaebnkeddcbmkaaGreat.Bm
namespace Go.Proofs.YtaebnkeddcbmkaaGreat
open Go.RowKit
def jE(w:World)(T:List Pcl):Prop:=∀t∈T,∃post,Row w t.2.1.1 3 (aM t.2.2++post)
theorem jE.below{w w':World}{T:List Pcl}(h:jE w T)(hb:Below w.heap.size w w'):jE w' T:=fun t ht=>by
 obtain⟨post,hr⟩:=h t ht;exact⟨post,aL hr hb⟩
theorem jE.grown{w w':World}{T:List Pcl}{row:Option Nat}(h:jE w T)(hg:w.grownBy w' row)(hr:∀b,row=some b->∃cs,Row w b 223 cs):jE w' T:=fun t ht=>by
 obtain⟨post,hrow⟩:=h t ht;refine⟨post,hrow.keep (hg.block _ hrow.lt (fun e=>?_))⟩;obtain⟨cs,hc⟩:=hr _ e.symm;unfold Row at hrow hc;rw[hc]at hrow;injection hrow with hrow
 injection hrow with _ e2
 exact absurd e2 (by decide)
theorem pR{w:World}{base n:Nat}{v:Value}{T:List Pcl}(h:w.ownsRow base 223 2 v n (p2 T))(hn:0<n):T.length=n/\∃g cap post,v=.slice (some ⟨g,0,none⟩) n cap/\base<=g/\n<=cap/\cap<=maxLen/\dh w g T post:=by
 have hl:T.length=n:=by have:=h.1;rw[xK]at this;omega
 rcases h.2 with⟨_,h0⟩ | ⟨g,cap,cur,rfl,hb,hg,hnc,hcm,hcs,ht⟩
 ·omega
 ·refine⟨hl,g,cap,cur.toList.drop (n*2),rfl,hb,hnc,hcm,?_⟩;unfold dh Row;rw[<-ht,List.take_append_drop,Array.toArray_toList];exact hg
theorem uL{a b c:World}{row:Option Nat}(h:a.grownBy b row)(k:b.grownBy c row):a.grownBy c row:=
 ⟨k.os.trans h.os,k.tape.trans h.tape,k.output.trans h.output,Nat.le_trans h.size k.size,fun i hi hn=>(k.block i (Nat.lt_of_lt_of_le hi h.size) hn).trans (h.block i hi hn)⟩
def zy(cs:List Nat)(k:Nat)(T:List Pcl):Prop:=T.map (fun t=>(t.1,t.2.2))=(iR cs k).map fun u=>(u.1,[u.2])
theorem abu{cs:List Nat}{T S:List Pcl}(h:zy cs cs.length T)(hs:Srt S)(hst:Stb T S):wz cs S/\(S.map (·.1)).Perm (jk cs)/\S.length=(lvs cs).length:=by
 have h1:T.map (·.1)=(lvs cs).map (·.1):=by
  have:=congrArg (List.map (fun p:Nat×List Nat=>p.1)) h;rw[List.map_map,List.map_map]at this;exact this
 have h2:bq T=(lvs cs).map (·.2):=by
  have:=congrArg (List.flatMap (fun p:Nat×List Nat=>p.2)) h;rw[List.flatMap_map,List.flatMap_map]at this;unfold bq lvs;rw[this];generalize iR cs cs.length=L;induction L with
  | nil=>rfl
  | cons a L ih=>rw[List.flatMap_cons,ih,List.map_cons];rfl
 have hsy:=FR hst.1;refine⟨⟨hs,fun t ht=>?_,?_,fun i hi h0=>?_⟩,?_,?_⟩
 ·have hT:=hst.1.mem_iff.2 ht;have hm:(t.1,t.2.2)∈(iR cs cs.length).map (fun u=>(u.1,[u.2])):=by
   rw[<-h];exact List.mem_map.2 ⟨t,hT,rfl⟩
  obtain⟨u,hu,e⟩:=List.mem_map.1 hm;obtain⟨u1,u2,u3⟩:=(bX cs cs.length u).1 hu;injection e with e1 e2
  exact⟨u.2,e2.symm,by rw[<-e1,u2],by unfold bH;omega,u1⟩
 ·refine(hsy.nodup_iff).1 ?_;rw[h2];exact qO cs _
 ·refine hsy.mem_iff.1 ?_;rw[h2];exact List.mem_map.2 ⟨(bH cs i,i),(bX cs _ _).2 ⟨hi,rfl,h0⟩,rfl⟩
 ·refine(hst.1.symm.map _).trans ?_;rw[h1,nk]
 ·rw[<-hst.1.length_eq,<-List.length_map (f:=(·.1)),h1,List.length_map]
theorem Xq(A:Option Addr)(c:Nat)(cs:List Nat)(w:World)(hl:cs.length<=256)(hm:∀x∈cs,x<=1048576)(hex:∃x∈cs,0<x)(hr:Reads w A (aM cs)) :
  Calls prog 154 #[.slice A cs.length c] w fun e w'=>∃g cap post S,e=.returned (.slice (some ⟨g,0,none⟩) S.length cap)/\S.length<=cap/\cap<=maxLen/\dh w' g S post/\jE w' S/\wz cs S/\(S.map (·.1)).Perm (jk cs)/\S.length=(lvs cs).length/\Below w.heap.size w w':=by
 obtain⟨i0,hi,hz0,hz1,hz2⟩:=info_parts vM;have Hr:=hid hr;have Hm:=hid hm;have Hex:=hid hex;clear hr hm hex;go_enter func154,ntmps154
 go_wp2;go_loopw [3,8] (fun vv iv wr=>∃k:Nat,k<=cs.length/\iv=.int .i64 (k:Int)/\Hid (∃T,T.length<=k/\zy cs k T/\wr.ownsRow w.heap.size 223 2 vv T.length (p2 T)/\jE wr T)/\Hid (Below w.heap.size w wr)) (fun _ iv _=>cs.length-(intOf iv).toNat)
 case atStart=>exact⟨0,by omega,rfl,hid ⟨[],by simp,by simp[zy,iR],World.ownsRow_nil _ _ _ _,fun t ht=>by simp at ht⟩,hid (Below.refl _ _)⟩
 case round=>
  obtain⟨k,hk,rfl,hst,hbel⟩:=hrel;by_cases hkl:k<cs.length
  ·obtain⟨g,off,rfl,hc⟩:=fZ (aC Hr.out hbel.out) (by omega);have c0:=hc k hkl;have Hlv:=hid (iW cs k);rw[List.getElem?_eq_getElem hkl,Option.getD_some]at Hlv;have hx:=Hm.out cs[k] (List.getElem_mem hkl);clear hc;generalize cs[k]=x at *;by_cases h0:0<x
   ·rw[if_pos h0]at Hlv;obtain⟨T,hTl,hT,hown,hsm⟩:=hst.out;obtain⟨n,hn⟩:∃n,n=T.length:=⟨_,rfl⟩;rw[<-hn]at hown hTl;have Hn:=hid hn;have HT:=hid hT;have Hsm:=hid hsm;have qg:=hid hown;have hws:=hbel.out.size;clear hst hT hown hsm hn;go_wp2_with (at_builtin;refine wpList_append_own _ rfl _ _ 218 rfl w.heap.size 223 i0 (.agg #[.int .i64 0,.slice none 0 0]) 2 32 underlying218 hi hz0 hz1 hz2 rfl (by decide) _ _ _ rfl ((qg.out.alloc _).alloc _) ⟨wr.heap.size+1,0,none⟩ 1 1 [.int .i64 (x:Int),.slice (some ⟨wr.heap.size,0,none⟩) 1 1] rfl rfl ?d1 ?d2 ?d3 ?d4 ?d5 ?_)
    case d1=>
     intro j u hj;match j,hj with
     | 0,hj=>simp at hj;subst hj;simp[Addr.add]
     | 1,hj=>simp at hj;subst hj;simp[Addr.add]
    case d2=>
     intro u hu;simp at hu;rcases hu with rfl | rfl<;>rfl
    case d3=>unfold maxLen;omega
    case d4=>omega
    case d5=>simp;omega
    intro u' w7 bM fO _;have hb2:Below wr.heap.size wr ((wr.alloc (.cells #[.int .i64 (k:Int)] 3)).alloc (.cells #[.int .i64 (x:Int),.slice (some ⟨wr.heap.size,0,none⟩) 1 1] 223)):=((Below.refl _ _).alloc (Nat.le_refl _) _).alloc (by simp) _;have hnew:=(Row.new wr 3 [.int .i64 (k:Int)]).alloc (.cells #[.int .i64 (x:Int),.slice (some ⟨wr.heap.size,0,none⟩) 1 1] 223);have hfin:∃T',T'.length<=k+1/\zy cs (k+1) T'/\w7.ownsRow w.heap.size 223 2 u' T'.length (p2 T')/\jE w7 T':=by
     have hkind:∀b,u3.ownBlock=some b->∃cs,Row ((wr.alloc (.cells #[.int .i64 (k:Int)] 3)).alloc (.cells #[.int .i64 (x:Int),.slice (some ⟨wr.heap.size,0,none⟩) 1 1] 223)) b 223 cs:=fun b hb=>by
      rcases qg.out.2 with⟨rfl,_⟩ | ⟨g',cap',cur,rfl,_,hg',_⟩
      ·cases hb
      ·simp only[Value.ownBlock,Option.some.injEq]at hb;subst hb;have hr':Row wr g' 223 cur.toList:=by unfold Row;rw[Array.toArray_toList];exact hg'
       exact⟨_,(hr'.alloc _).alloc _⟩
     refine⟨T++[(x,(wr.heap.size,1),[k])],by rw[List.length_append,<-Hn.out];simp;omega,?_,?_,fun t ht=>?_⟩
     ·have h2:=HT.out;unfold zy at h2 ⊢;rw[Hlv.out,List.map_append,List.map_append,h2];rfl
     ·rw[List.length_append,<-Hn.out,xJ];exact bM
     ·rcases List.mem_append.1 ht with ht | ht
      ·exact(((Hsm.out.below hb2)).grown fO hkind) t ht
      ·simp only[List.mem_singleton]at ht;subst ht;refine⟨[],hnew.keep (fO.block _ hnew.lt (fun e=>?_))⟩;have:=(qg.out.lt _ e.symm).2;omega
    have iy:=hid hfin;have Hb7:=hid ((hbel.out.trans (hb2.mono hws)).grown fO (Nat.le_trans hws hb2.size) (fun q hq=>(qg.out.lt q hq).1));clear hfin hb2 hnew bM fO qg Hsm HT hbel c0;go_wp2;go_roundw
    case rel=>exact⟨k+1,by omega,by go_num,iy,Hb7⟩
    case measure=>simp[intOf];omega
   ·rw[if_neg h0,List.append_nil]at Hlv;go_wp2;go_roundw
    case rel=>exact⟨k+1,by omega,by go_num,hid (by
     obtain⟨T,h1,h2,h3,h4⟩:=hst.out;exact⟨T,by omega,by unfold zy at h2 ⊢;rw[Hlv.out];exact h2,h3,h4⟩),hbel⟩
    case measure=>simp[intOf];omega
  ·obtain rfl:k=cs.length:=by omega
   obtain⟨T,hTl,hT,hown,hsm⟩:=hst.out;have hTn:T.length=(lvs cs).length:=by
    have:=congrArg List.length hT;rw[List.length_map,List.length_map]at this;exact this
   have h1:=Ci cs Hex.out;obtain⟨_,g,cap,post,hv,hbg,hnc,hcm,aeW⟩:=pR hown (by omega);subst hv;have uM:Light T:=fun t ht=>by
    have hm:(t.1,t.2.2)∈(iR cs cs.length).map (fun u=>(u.1,[u.2])):=by
     rw[<-hT];exact List.mem_map.2 ⟨t,ht,rfl⟩
    obtain⟨u,hu,e⟩:=List.mem_map.1 hm;obtain⟨u1,u2,u3⟩:=(bX cs cs.length u).1 hu;injection e with e1 _
    rw[<-e1,u2,List.getElem?_eq_getElem u1,Option.getD_some];have:=Hm.out _ (List.getElem_mem u1);omega
   have Hli:=hid (uX g cap T post wr (by omega) uM aeW);have gF:=hid aeW;have Hsm:=hid hsm;have HT:=hid hT;have HTn:=hid hTn;clear hst hown hsm hT aeW uM hTn;go_wp2_with fail
   refine Hli.out.mono ?_;rintro e w2 ⟨rfl,S,k1,k2,k3,k4⟩;obtain⟨z1,z2,z3⟩:=abu HT.out k2 k3;have hsl:=k3.1.length_eq;have aou:jE w2 S:=fun t ht=>(Hsm.out.grown k4 (fun b hb=>by injection hb with hb;subst hb;exact⟨_,gF.out⟩)) t (k3.1.mem_iff.2 ht)
   have hfin:S.length<=cap/\cap<=maxLen/\dh w2 g S post/\jE w2 S/\wz cs S/\(S.map (·.1)).Perm (jk cs)/\S.length=(lvs cs).length/\Below w.heap.size w w2:=
    ⟨by omega,hcm,k1,aou,z1,z2,z3,below_grown (uL (ak hbel.out (some g)) k4) hbg (Nat.le_refl _)⟩
   have Hf:=hid hfin;rw[hsl];clear hfin k1 k2 k3 k4 aou z1 z2 z3 hsl Hli;go_wp2;go_ret;exact⟨g,cap,post,S,rfl,Hf.out⟩
def acJ:Prop:=∀(W:World) (g cap:Nat) (T:List Pcl) (post:List Value),2<=T.length->T.length<=1000->T.length<=cap->cap<=maxLen->(∀t∈T,t.1<=1100000000/\1<=t.2.2.length/\t.2.2.length<=2000)->dh W g T post->jE W T ->
 Calls prog 157 #[.slice (some ⟨g,0,none⟩) T.length cap] W fun e w'=>∃v P,e=.returned v/\mQ T P/\w'.ownsRow W.heap.size 223 2 v P.length (p2 P)/\jE w' P/\Below W.heap.size W w'
structure alk(w wr:World)(g cap:Nat)(S T:List Pcl)(t:Nat):Prop where
 lev:Lev S t T
 fits:T.length<=cap
 most:cap<=maxLen
 row:∃post,dh wr g T post
 sy:jE wr T
theorem KL{w:World}{g:Nat}{L:List Pcl}{post:List Value}(h:dh w g L post):∀W,Below w.heap.size w W->∀j u,(p2 L)[j]?=some u->W.cell? ((⟨g,0,none⟩:Addr).add j)=some u:=fun W hW j u hu=>by
 have h1:=h.below hW;have e:((⟨g,0,none⟩:Addr).add j)=⟨g,j,none⟩:=by
  unfold Addr.add;split<;>simp_all
 have hj:j<(p2 L).length:=(List.getElem?_eq_some_iff.1 hu).1;rw[e,Row.cell h1,List.getElem?_append_left hj];exact hu
theorem abO(hP:acJ)(A:Option Addr)(c:Nat)(cs:List Nat)(w:World)(hl:cs.length<=256)(hm:∀x∈cs,x<=1048576)(hex:∃x∈cs,0<x)(h2:2<=(lvs cs).length)(hr:Reads w A (aM cs)) :
  Calls prog 124 #[.slice A cs.length c] w fun e w'=>∃v,e=.returned v/\Dz w w' cs v:=by
 obtain⟨i0,hi,hz0,hz1,hz2⟩:=info_parts gQ;have Hsi:=hid (Xq A c cs w hl hm hex hr);have hlv:(lvs cs).length<=256:=Nat.le_trans (kH cs cs.length) hl;have Hm:=hid hm;have HP:=hid hP;clear hr hm hex hP;go_enter func124,ntmps124
 go_wp2_with fail
 refine Hsi.out.mono ?_;rintro e w1 ⟨gS,ahd,postS,S,rfl,hSc,apQ,aeK,alA,hSN,acQ,aiB,hb1⟩;obtain⟨n,hn⟩:∃n,n=S.length:=⟨_,rfl⟩;have hn2:2<=n:=by omega
 have aqi:n<=256:=by omega
 have Hn:=hid hn;have Hb1:=hid hb1;have HSN:=hid hSN;have ahx:=hid aeK;have amr:=hid alA;have acw:=hid acQ;have ahw:=hid aiB;have hst:alk w w1 gS ahd S S 0:=⟨.zero,hSc,apQ,⟨postS,aeK⟩,alA⟩;have Hst:=hid hst;rw[<-hn]at hSc ⊢;clear hst hSN aeK alA acQ aiB hb1 hn Hsi;go_wp2;go_loopw [4,13] (fun lv iv wr=>∃(t g cap m:Nat) (T:List Pcl),iv=.int .i64 (t:Int)/\t<=10/\lv=.slice (some ⟨g,0,none⟩) m cap/\m=T.length/\Hid (alk w wr g cap S T t)/\Hid (Below w1.heap.size w1 wr)) (fun _ iv _=>10-(intOf iv).toNat)
 case atStart=>exact⟨0,gS,ahd,n,S,rfl,by omega,rfl,Hn.out,Hst,hid (Below.refl _ _)⟩
 case round=>
  obtain⟨t,g,cap,m,T,rfl,ht,rfl,hmT,Lb,hb⟩:=hrel;clear Hst;obtain⟨z1,z2,z3⟩:=ZR HSN.out Hm.out Lb.out.lev;have alM:2^t<=1024:=by
   have:2^t<=2^10:=Nat.pow_le_pow_right (by omega) ht;have h3:(2:Nat)^10=1024:=by decide
   omega
  rw[<-hmT,<-Hn.out]at z1 z2;have HmT:=hid hmT;clear hmT;by_cases htl:t<10
  ·have hpc:Calls prog 157 #[.slice (some ⟨g,0,none⟩) m cap] wr fun e w'=>∃v P,e=.returned v/\Hid (mQ T P/\w'.ownsRow wr.heap.size 223 2 v P.length (p2 P)/\jE w' P/\Below wr.heap.size wr w'):=by
    have hmT:=HmT.out;obtain⟨post,hrow⟩:=Lb.out.row;have h:=HP.out wr g cap T post (by omega) (by omega) Lb.out.fits Lb.out.most (fun u hu=>by
     have h3:=z3 u hu;have h4:=((LC HSN.out Lb.out.lev).2 u hu).2.1;have:2^t*1048576<=1024*1048576:=Nat.mul_le_mul_right _ alM;omega) hrow Lb.out.sy
    rw[<-hmT]at h;exact h.mono fun e w' ⟨v,P,h1,h2,h3,h4,h5⟩=>⟨v,P,h1,hid ⟨h2,h3,h4,h5⟩⟩
   have Hpc:=hid hpc;clear hpc;go_wp2_with fail
   refine Hpc.out.mono ?_;rintro e w2 ⟨v,P,rfl,hp⟩;obtain⟨hpo,hown,aoy,hb2⟩:=hp.out;have hPl:=hpo.len;rw[<-HmT.out]at hPl;obtain⟨_,gP,YD,aqz,hv,hgP,hPc,aqL,aiA⟩:=pR hown (by omega);subst hv;have Hpo:=hid hpo;have aoR:=hid aoy;have akB:=hid aiA;have Hb2:=hid (hb.out.trans (hb2.mono hb.out.size));obtain⟨pl,hpl⟩:∃pl,pl=P.length:=⟨_,rfl⟩;rw[<-hpl]at hPl hPc ⊢;have Hpl:=hid hpl;have mq:1<=pl:=by omega
   have pG:pl<=1000:=by omega
   have anl:∀u∈P,u.1<=4000000000:=fun u hu=>by
    obtain⟨x,hx,rfl⟩:=List.mem_iff_getElem.1 hu;have a1:=hpo.wt x hx;have hl2:=hpo.len;have hmT:=HmT.out;unfold Bm.wt at a1;rw[List.getElem?_eq_getElem hx,Option.getD_some]at a1;have b1:=z3 _ (nT (show 2*x<T.length by omega));have b2:=z3 _ (nT (show 2*x+1<T.length by omega));have:2^t*1048576<=1024*1048576:=Nat.mul_le_mul_right _ alM;omega
   have aoS:=hid anl;have HPl:=hid hPl;have arx:=hb.out.size;clear hp hown aoy aiA hb2 hpo hpl Hpc anl hb hPl;have hcon:∀o,o=Obj.cells #[.slice (some ⟨gS,0,none⟩) n ahd,.slice (some ⟨gP,0,none⟩) pl YD] 218->Calls prog 156 #[.slice (some ⟨w2.heap.size,0,none⟩) 2 2] (w2.alloc o) fun e w'=>∃g2 cap2,e=.returned (.slice (some ⟨g2,0,none⟩) (n+pl) cap2)/\Hid (w1.heap.size<=g2/\n+pl<=cap2/\cap2<=maxLen/\(∃post,dh w' g2 (S++P) post)/\jE w' (S++P)/\Below w1.heap.size w1 w'):=by
    rintro o rfl;have hal:=(Below.refl w2.heap.size w2).alloc (Nat.le_refl _) (.cells #[.slice (some ⟨gS,0,none⟩) n ahd,.slice (some ⟨gP,0,none⟩) pl YD] 218);have hw3:=Hb2.out.trans (hal.mono Hb2.out.size);have h:=Xl w2.heap.size gS n ahd gP pl YD S P _ (by omega) Hn.out.symm Hpl.out.symm (by omega) (by omega) (Row.new w2 218 [.slice (some ⟨gS,0,none⟩) n ahd,.slice (some ⟨gP,0,none⟩) pl YD]) (KL (ahx.out.below hw3)) (KL (akB.out.below hal));refine h.mono ?_;rintro e w' ⟨v,he,hown,hb⟩;obtain⟨hlen,g2,cap2,Vp,hv,hg2,hc2,hm2,hrow2⟩:=pR hown (by omega);refine⟨g2,cap2,by rw[he,hv],hid ⟨Nat.le_trans hw3.size hg2,hc2,hm2,⟨Vp,hrow2⟩,fun t ht=>?_,hw3.trans (hb.mono hw3.size)⟩⟩;rcases List.mem_append.1 ht with ht | ht
    ·exact(amr.out.below (hw3.trans (hb.mono hw3.size))) t ht
    ·exact((aoR.out.below hal).below hb) t ht
   have agS:=hid (hcon _ rfl);clear hcon;go_wp2_with fail
   refine agS.out.mono ?_;rintro e w4 ⟨g2,cap2,rfl,hh⟩;obtain⟨hg2,hc2,hm2,⟨Vp,hrow2⟩,hsy2,hb4⟩:=hh.out;have Te:∀u∈S,u.1<=4000000000:=fun u hu=>by
    obtain⟨i,e1,e2,_,e4⟩:=HSN.out.one u hu;rw[e2];unfold bH;rw[List.getElem?_eq_getElem e4,Option.getD_some];have:=Hm.out _ (List.getElem_mem e4);omega
   have hSP:(S++P).length=n+pl:=by rw[List.length_append,<-Hn.out,<-Hpl.out]
   have hli:=uX g2 cap2 (S++P) Vp w4 (by omega) (fun u hu=>by
    rcases List.mem_append.1 hu with hu | hu
    ·exact Te u hu
    ·exact aoS.out u hu) hrow2
   rw[hSP]at hli;have Hli:=hid hli;have dL:=hid hrow2;have akZ:=hid hsy2;have Hb4:=hid hb4;have HSP:=hid hSP;clear hh hrow2 hsy2 hb4 Te hli hSP agS;go_wp2_with fail
   refine Hli.out.mono ?_;rintro e w5 ⟨rfl,T',k1,k2,k3,k4⟩;have hT':n+pl=T'.length:=by rw[<-k3.1.length_eq,HSP.out]
   have aiY:alk w w5 g2 cap2 S T' (t+1):=⟨.succ Lb.out.lev Hpo.out k3 k2,by omega,hm2,⟨Vp,k1⟩,fun u hu=>(akZ.out.grown k4 (fun b hb=>by injection hb with hb;subst hb;exact⟨_,dL.out⟩)) u (k3.1.mem_iff.2 hu)⟩;have akM:=hid aiY;have Hb5:Hid (Below w1.heap.size w1 w5):=hid (below_grown (uL (ak Hb4.out (some g2)) k4) hg2 (Nat.le_refl _));have HT':=hid hT';clear k1 k2 k3 k4 aiY hT' Hli Lb;go_wp2;go_roundw
   case rel=>exact⟨t+1,g2,cap2,n+pl,T',by go_num,by omega,rfl,HT'.out,akM,Hb5⟩
   case measure=>simp[intOf];omega
  ·obtain rfl:t=10:=by omega
   obtain⟨b1,b2⟩:=Np HSN.out hl (by rw[<-Hn.out];exact hn2) (by rw[ahw.out,<-nk,List.length_map]) acw.out Lb.out.lev;rw[<-Hn.out]at b1 b2;have ahP:=hid b2;obtain⟨K,hK⟩:∃K,K=2*n-2:=⟨_,rfl⟩;have hKm:K<=m:=by rw[HmT.out,hK];exact b1
   have hKi:2*(n:Int)-2=(K:Int):=by omega
   have hcm:=Lb.out.fits;rw[<-HmT.out]at hcm;have hKc:K<=cap:=by omega
   have hok:=(LC HSN.out Lb.out.lev).2;have hcl:=Lb.out.most;unfold maxLen at hcl;rw[<-hK]at ahP;have Hok:=hid hok;have akL:=hid Lb.out;have apN:K<=512:=by omega
   have Hsz:=hid z3;have Hbw:Hid (Below w.heap.size w wr):=hid (Hb1.out.trans (hb.out.mono Hb1.out.size));obtain⟨wt,hwt⟩:∃wt:World,wt=wr:=⟨_,rfl⟩;subst hwt;clear b1 b2 hok Lb hb z1 z2 z3 hK HSN ahx amr acw ahw Hb1;go_wp2_with (at_make;refine wpList_make_full _ rfl _ _ 115 rfl wt.heap.size 3 i0 (.int .i64 0) 1 underlying115 hi hz0 hz1 .i64 .i64 _ _ cs.length rfl rfl ?c1 ?c1 ?c2 ?c3 ?c4 ?_)
   case c1=>omega
   case c2=>first | omega | (rw[hz2];omega)
   case c3=>unfold maxLen;omega
   try case c4=>exact Nat.le_refl _
   intro w7 bM hg7;obtain⟨g0,hg0⟩:∃g0,g0=wt.heap.size:=⟨_,rfl⟩;have dS:=dH bM;rw[<-OE,<-hg0]at dS;have Hg0:=hid hg0;have jZ:Hid (Row w7 g0 3 (aM (dF cs (bq (T.take 0))))):=hid (by simpa [bq]using dS);have Hb7:=hid (aJ hg7);have alV:∀L:List Pcl,(∀u∈L,u∈T)->(bq L).length<=1024*L.length:=fun L=>by
    induction L with
    | nil=>intro _;simp[bq]
    | cons u L ih=>
     intro hL;have h3:=ih (fun v hv=>hL v (List.mem_cons_of_mem _ hv));have h4:=(Hsz.out u (hL u List.mem_cons_self)).1;have e2:bq (u :: L)=u.2.2++bq L:=by simp[bq]
     have h5:(2:Nat)^10=1024:=by decide
     rw[e2,List.length_append,List.length_cons];omega
   have amY:=hid alV;rw[<-hg0];clear bM hg7 dS hg0 alV alM Hsz;go_wp2;go_loopw [32] (fun kv wr=>∃(k:Nat),kv=.int .i64 (k:Int)/\k<=K/\Hid (Row wr g0 3 (aM (dF cs (bq (T.take k)))))/\Hid (Below wt.heap.size wt wr)) (fun kv _=>K-(intOf kv).toNat)
   case atStart=>exact⟨0,rfl,by omega,jZ,Hb7⟩
   case round=>
    obtain⟨k,rfl,hk,hrow,hb⟩:=hrel;clear jZ Hb7;by_cases hkK:k<K
    ·obtain⟨aqA,aiC⟩:=akL.out.row;have hkT:k<T.length:=by have:=HmT.out;omega
     obtain⟨u,hu⟩:∃u,u=T[k]:=⟨_,rfl⟩;have huT:u∈T:=by rw[hu];exact List.getElem_mem hkT
     have hTk:T[k]?=some u:=by rw[hu];exact List.getElem?_eq_getElem hkT
     obtain⟨c0,c1⟩:=tO (aiC.below hb.out) hTk;have hsy:=(akL.out.sy.below hb.out) u huT;obtain⟨aqB,aiD⟩:=akL.out.sy u huT;have HU:=hid aiD;have hnext:bq (T.take (k+1))=bq (T.take k)++u.2.2:=by
      rw[List.take_succ_eq_append_getElem hkT,fI,<-hu];simp[bq]
     have oQ:=hid hnext;have huk:=fun y (hy:y∈u.2.2)=>((Hok.out u huT).2.2 y hy).2
     have Huk:=hid huk;have hul:u.2.2.length<=1048576*1024:=by
      have h3:=amY.out [u] (fun v hv=>by simp only[List.mem_singleton]at hv;subst hv;exact huT);simp[bq]at h3;omega
     have hYl:=amY.out (T.take k) (fun v hv=>List.mem_of_mem_take hv);rw[List.length_take]at hYl;have HYl:Hid ((bq (T.take k)).length<=1024*1024):=hid (by omega);simp only[Me]at c1;obtain⟨us,hus⟩:∃us,us=u.2.2:=⟨_,rfl⟩;obtain⟨ub,hub⟩:∃ub,ub=u.2.1.1:=⟨_,rfl⟩;obtain⟨uc,huc⟩:∃uc,uc=u.2.1.2:=⟨_,rfl⟩;rw[<-hus,<-hub,<-huc]at c1;rw[<-hus,<-hub]at HU;rw[<-hus]at oQ Huk hul;have hkc:(k:Int)<(K:Int):=by omega
     have aqs:=hb.out.size;clear aiC hu huT hTk hsy aiD hnext huk hYl hus hub huc hkT;generalize u.1=uw at c0;go_wp2;rename World=>wx
     have Hst:Hid (Row (wx.alloc (.cells #[.int .i64 (uw:Int),.slice (some ⟨ub,0,none⟩) us.length uc] 223)) g0 3 (aM (dF cs (bq (T.take k)++us.take 0)))):=hid (by simpa using hrow.out.alloc _);have Hb8:Hid (Below wt.heap.size wt (wx.alloc (.cells #[.int .i64 (uw:Int),.slice (some ⟨ub,0,none⟩) us.length uc] 223))):=hid (hb.out.alloc aqs _);clear hrow hb c0 c1;go_loopw [39] (fun jv wr=>∃(j:Nat),jv=.int .i64 (j:Int)/\j<=us.length/\Hid (Row wr g0 3 (aM (dF cs (bq (T.take k)++us.take j))))/\Hid (Below wt.heap.size wt wr)) (fun jv _=>us.length-(intOf jv).toNat)
     case atStart=>exact⟨0,rfl,by omega,Hst,Hb8⟩
     case round=>
      obtain⟨j,rfl,hj,hrow,hb⟩:=hrel;clear Hst Hb8;by_cases hjl:j<us.length
      ·have hUr:=aL HU.out hb.out;have c0:wr.cell? ⟨ub,j,none⟩=some (.int .i64 (us[j]:Int)):=by
        rw[hUr.cell,List.getElem?_append_left (by rw[aN];exact hjl),bK us j hjl]
       have hy:=Huk.out us[j] (List.getElem_mem hjl);obtain⟨y,hyy⟩:∃y,y=us[j]:=⟨_,rfl⟩;rw[<-hyy]at c0 hy;obtain⟨Y,hYY⟩:∃Y,Y=bq (T.take k)++us.take j:=⟨_,rfl⟩;have hstep:=IL cs Y y;have hY2:bq (T.take k)++us.take (j+1)=Y++[y]:=by rw[List.take_succ_eq_append_getElem hjl,<-List.append_assoc,<-hYY,<-hyy]
       have aqV:Y.count y<=1048576*2048:=by
        have h3:=List.count_le_length (a:=y) (l:=Y);have h4:Y.length=(bq (T.take k)).length+min j us.length:=by rw[hYY,List.length_append,List.length_take]
        have:=HYl.out;omega
       rw[<-hYY]at hrow;have hll:(dF cs Y).length=cs.length:=by simp[dF]
       have c1:wr.cell? ⟨g0,y,none⟩=some (.int .i64 ((Y.count y:Nat):Int)):=by
        rw[hrow.out.cell,bK _ y (by omega)];simp[dF]
       have f1:wr.frozen? ⟨g0,y,none⟩=false:=hrow.out.free y;have hrow2:Row (wr.setCell ⟨g0,y,none⟩ (.int .i64 ((Y.count y:Int)+1))) g0 3 (aM (dF cs (bq (T.take k)++us.take (j+1)))):=by
        rw[hY2,hstep];have h1:=hrow.out.aT y (.int .i64 ((Y.count y:Int)+1));rw[show aM ((dF cs Y).set y (Y.count y+1))=(aM (dF cs Y)).set y (.int .i64 ((Y.count y:Int)+1)) by simp[aM,List.map_set]];exact h1
       have dL:=hid hrow2;have Hb2:=hid (hb.out.setCell (p:=⟨g0,y,none⟩) (by rw[Hg0.out];exact Nat.le_refl _) (.int .i64 ((Y.count y:Int)+1)));clear hUr hyy hYY hstep hY2 hll hrow2 hrow hb;generalize Y.count y=cn at *;go_wp2;go_roundw
       case rel=>exact⟨j+1,by go_num,by omega,dL,Hb2⟩
       case measure=>simp[intOf];omega
      ·obtain rfl:j=us.length:=by omega
       have dL:Hid (Row wr g0 3 (aM (dF cs (bq (T.take (k+1)))))):=hid (by
        rw[oQ.out];have h1:=hrow.out;rw[List.take_length]at h1;exact h1)
       clear hrow;go_wp2;go_roundw
       case rel=>exact⟨k+1,by go_num,by omega,dL,hb⟩
       case measure=>simp[intOf];omega
    ·obtain rfl:k=K:=by omega
     have hfin:Dz w wr cs (.slice (some ⟨g0,0,none⟩) cs.length cs.length):=⟨_,_,_,rfl,Nat.le_refl _,fun _=>⟨g0,0,rfl,fun j _=>by rw[Nat.zero_add];exact hrow.out.cell j⟩,ahP.out,Hbw.out.trans (hb.out.mono Hbw.out.size)⟩;have Hf:=hid hfin;clear hfin hrow hb;go_wp2;go_ret;exact⟨_,rfl,Hf.out⟩
end Go.Proofs.YtaebnkeddcbmkaaGreat
