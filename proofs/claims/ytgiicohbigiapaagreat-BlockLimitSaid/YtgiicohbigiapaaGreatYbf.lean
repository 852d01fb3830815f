/- Contracts, and what they rest on. Conditions: the theorems' premises. -/
import Derived.Test.YtgiicohbigiapaaGreatYaj
import Derived.Test.YtgiicohbigiapaaGreatYbe
import Derived.Test.YtgiicohbigiapaaGreatYau
import Derived.Test.YtgiicohbigiapaaGreatYay
set_option maxHeartbeats 4000000
set_option maxRecDepth 100000
open Go.Lib(hid)
open Go.Proofs.Tryz Go.Proofs.YtgiicohbigiapaaGreat.Bm
namespace Go.Proofs.YtgiicohbigiapaaGreat
open Go.RowKit
namespace Bm
theorem Sj(bs:List Nat)(hlt:∀x∈bs,x<256)(hl:bs.length≤1048576)(h0:0<bs.length):(jc (aF bs) (iH (aF bs):Int)).length=iy bs:=by
 obtain⟨hr,h5,h9,hs⟩:=(kH bs hlt hl).2 h0;have hp:=rF (aF bs) hr;obtain⟨cs,e1,e2,e3,_,_,e6,e7⟩:=hp;unfold jc;rw[if_pos ⟨hr,h5,h9,hs⟩,Int.toNat_natCast,List.length_map,e2];rw[Int.toNat_natCast]at hs;rw[(rJ cs (2^iH (aF bs)) e7 (by rw[e6];exact hs)).2.1,e3,bI]
theorem Gi(bs ls:List Nat)(hlt:∀x∈bs,x<256)(hl:bs.length≤1048576)(h0:0<bs.length)(hls:jc (aF bs) (iH (aF bs):Int)=ls.map (fun n:Nat=>(n:Int)))(hpos:∀b∈bs,0<ls[b]?.getD 0):aI ls=ls:=by
 have hlen:=Sj bs hlt hl h0;rw[hls,List.length_map]at hlen;obtain⟨b,hb,e⟩:=Tj bs (uy bs (by intro e;rw[e]at h0;simp at h0));have hp:=hpos b hb;refine wu ls (fun hne=>?_);rw[List.getLast_eq_getElem];have hi:ls.length-1=b:=by omega
 have hbl:b<ls.length:=by omega
 rw[List.getElem?_eq_getElem hbl,Option.getD_some]at hp;simp only[hi];exact hp
end Bm
theorem FM{w:World}{base g:Nat}{ss:List (List Nat)}(h:Row w g 9 (kR ss))(hb:base≤g)(hm:ss.length≤1000000000):w.ownsRow base 9 1 (.slice (some ⟨g,0,none⟩) ss.length ss.length) ss.length (kR ss):=
 ⟨by rw[iw,Nat.mul_one],.inr ⟨g,ss.length,(kR ss).toArray,rfl,hb,h,Nat.le_refl _,by unfold maxLen;omega,by simp[iw],by rw[List.take_of_length_le (by simp[iw])]⟩⟩
theorem Vx:(prog.info? 9).map (fun i=>(i.zero,i.size,i.bytes))=some (some (.string ⟨#[]⟩),1,16):=by kernel_rfl
theorem abF(A B:Option Addr)(c d:Nat)(cs:List Nat)(w:World)(h0:0<cs.length)(hl:cs.length≤700)(h28:∀x∈cs,x<28)(hr:Reads w A (u8s cs))(hrc:Reads w B (lI (aF cs))) :
  Calls prog 134 #[.slice A cs.length c,.slice B (iy cs) d] w fun e w'=>(∃S,Uo cs S∧e=.returned (.tuple #[.string (strOf S),.bool true]))∧Below w.heap.size w w':=by
 have hlt:∀x∈cs,x<256:=fun x hx=>by have:=h28 x hx;omega
 obtain⟨l,hll⟩:∃l,l=aF cs:=⟨_,rfl⟩;have hlen:l.length=iy cs:=by rw[hll];exact bI cs
 have hT1:=jH cs hlt;have hok:∀x∈l,bN x:=fun x hx=>by
  rw[hll]at hx;have:=kG cs x hx;unfold bN;omega
 have hiff:=kH cs hlt (by omega);obtain⟨ls,hls,hfair,hpos,aey⟩:=Gh cs hlt (by omega) h0;have hshort:=Gi cs ls hlt (by omega) h0 hls hpos;rw[←hll]at hiff hls hfair hrc;have aiV:5≤iH l∧iH l≤9:=by have:=hfair.1;have:=hfair.2.1;omega
 have Ac:bN (iH l:Int):=by unfold bN;omega
 have H2:=hid (abk B d l w (by omega) hok hrc);have hsl:(jc l (iH l:Int)).length=ls.length:=by rw[hls,List.length_map]
 have hsi:lI (jc l (iH l:Int))=aL ls:=by rw[hls,bJ]
 have H3:Hid (∀W,Reads W B (lI l)→Calls prog 163 #[.slice B l.length d,.int .i64 (iH l:Int)] W fun e w'=>∃A' c',e=.returned (.tuple #[.slice A' ls.length c',.bool true])∧Reads w' A' (aL ls)∧Below W.heap.size W w'):=hid (fun W h1=>by
  have h2:=QF B d l _ W (by omega) hok Ac h1;rw[decide_eq_true (hiff.2 h0),hsl,hsi]at h2;exact h2)
 rw[hls]at hfair;have hfn:=Pf _ _ hfair;have acI:(ls.map (fun n:Nat=>(n:Int))).map Int.toNat=ls:=by
  rw[List.map_map];conv=>rhs;rw[←List.map_id ls]
  apply List.map_congr_left
  intro x _;rfl
 rw[acI,Int.toNat_natCast]at hfn;have agS:0<ls.length:=by
  cases ls with
  | nil=>
   have h:=hfn.sum;have h2:=Nat.two_pow_pos (iH l);rw[List.sum_nil]at h;omega
  | cons _ _=>simp
 have H4:Hid (∀A c W,Reads W A (aL ls)→Calls prog 165 #[.slice A ls.length c,.int .i64 (iH l:Int)] W fun e w'=>∃p,e=.returned (.tuple #[.pointer (some p),.bool true])∧qE w' p ls (iH l)∧Below W.heap.size W w'):=hid (fun A c W h1=>by
  have h2:=Ze.build A c (ls.map (fun n:Nat=>(n:Int))) (iH l:Int) W (by rw[List.length_map];omega) (fun x hx=>by
   have:=hfair.2.2.2.1 x hx;unfold bN;omega) Ac (by rw[bJ];exact h1) hfair
  rw[List.length_map,acI,Int.toNat_natCast]at h2;exact h2)
 have zF:Hid (∀W b A c,WS W b 0 0 0→Reads W A (aL ls)→(∀a,A=some a→a.block≠b)→Calls prog 164 #[.pointer (some ⟨b,0,none⟩),.slice A ls.length c,.int .i64 (iH l:Int)] W fun e w'=>e=.returned (.bool true)∧WS w' b 0 (jf ls (iH l)).1 (jf ls (iH l)).2∧W.grownBy w' (some b)):=hid (fun W b A c hws h1 hA=>by
  have h2:=Pv W b 0 0 0 A c (ls.map (fun n:Nat=>(n:Int))) (iH l:Int) (by omega) hws (by rw[List.length_map];omega) (fun x hx=>by
   have:=hfair.2.2.2.1 x hx;unfold bN;omega) Ac (by rw[bJ];exact h1) (fun a e _=>hA a e) hfair
  rw[List.length_map,acI,Int.toNat_natCast,Nat.pow_zero,Nat.mul_one,Nat.zero_add,Nat.zero_add]at h2;exact h2)
 obtain⟨t,ht⟩:=Ir ls (iH l) hfn cs hpos;obtain⟨N,k,hc⟩:∃N k,tu ls (iH l) cs=some (N,k):=⟨_,_,by unfold tu;rw[ht];rfl⟩;obtain⟨hN,hk,_⟩:=EC ls (iH l) hfn cs N k hc;have he:UU ls (iH l) cs=some (iZ N k):=by unfold UU;rw[hc];rfl
 have hsl2:=sU N k;have La:=Xh N k;have hk9:k≤9*701:=Nat.le_trans hk (Nat.mul_le_mul aiV.2 (by omega));have H6:Hid (∀W p,qE W p ls (iH l)→Reads W A (u8s cs)→Calls prog 166 #[.pointer (some p),.slice A cs.length c] W fun e w'=>(∃A c,e=.returned (.tuple #[.slice A (iZ N k).length c,.bool true])∧Reads w' A (u8s (iZ N k)))∧Below W.heap.size W w'):=hid (fun W p ht hr=>by
  have h1:=UR W p ls (iH l) A c cs hfn ht (by omega) hlt hr;rw[he]at h1;exact h1)
 have hQ:=SE cs ls (iZ N k) (iH l) h28 hfn hshort he (by omega) La (by omega);have hb3:=Cw ls (iH l) hfn;obtain⟨hd,hhd⟩:∃hd,hd=Bm.bytesOf (jf ls (iH l)).1 (((jf ls (iH l)).2+7)/8):=⟨_,rfl⟩;have hhl:hd.length=((jf ls (iH l)).2+7)/8:=by rw[hhd,Bm.bytesOf_length]
 have aiT:∀x∈hd,x<256:=by rw[hhd];exact eB _ _
 rw[←hhd]at hQ;have Hby:Hid (∀W b,WS W b 0 (jf ls (iH l)).1 (jf ls (iH l)).2→Calls prog 100 #[.pointer (some ⟨b,0,none⟩)] W fun e w'=>∃g,e=.returned (.slice (some ⟨g,0,none⟩) hd.length hd.length)∧Reads w' (some ⟨g,0,none⟩) (u8s hd)∧Below W.heap.size W w'):=hid (fun W b h=>by
  have h1:=jO b 0 (jf ls (iH l)).1 (jf ls (iH l)).2 W (by omega) h;rw[hhl,hhd];exact h1.mono fun e w' ⟨g,he,_,hrow,hb⟩=>⟨g,he,bP hrow,hb⟩)
 have HQ:=hid hQ;have ajS:=hid (fun W=>rV 2 W (by omega));have adg:=hid (fun W A c (h:Reads W A (u8s hd))=>bR W A c hd aiT h);have ahF:=hid (fun W A c (h:Reads W A (u8s (iZ N k)))=>bR W A c (iZ N k) La h);have hg1:=eO hd.length (by omega);have hg2:=eO (iZ N k).length (by omega);have TQ:=hid (fun W b (h:CW W b [2])=>qD b [2] hd W (by simp) (by omega) h);have aij:=hid (fun W b (h:CW W b ([2]++(grp hd.length++hd)))=>qD b ([2]++(grp hd.length++hd)) (iZ N k) W (by simp;omega) (by omega) h);have e0:([2]++(grp hd.length++hd))++(grp (iZ N k).length++iZ N k)=oP hd (iZ N k):=by
  unfold oP;simp
 rw[e0]at aij;have oN:=hid (fun W b (h:CW W b (oP hd (iZ N k)))=>iK b (oP hd (iZ N k)) W (by simp[oP];omega) hQ.lt h);have Hr:=hid hr;have Hrc:=hid hrc;have akc:=hid (fun W W' p h hb=>bX W W' p ls (iH l) h hb);rw[←hlen];clear hll hT1 hok hiff hls hfair hpos aey hshort Ac hsl hsi hfn acI ht hc hN hk he hsl2 La hQ hb3 hhd hhl aiT hg1 hg2 e0 hr hrc hlt h28 hlen hk9 aiV;generalize iZ N k=sl at *;generalize oP hd sl=E at *;generalize jf ls (iH l)=hda at *;generalize iH l=lg at *;generalize l.length=ln at *;have Hls:Hid (aL ls≠[]):=hid (fun e=>by rw[←List.length_eq_zero_iff,aM]at e;omega);clear agS;generalize ls.length=lsn at *;generalize hcl:cs.length=m at *;clear hcl;go_enter func134,ntmps134
 go_wp2_with fail
 refine H2.out.mono ?_;rintro e w1 ⟨rfl,hb1⟩;have Hb1:=hid hb1;have H3':=hid (H3.out w1 (aC Hrc.out hb1));clear hb1 H2 H3 Hrc;go_wp2_with fail
 refine H3'.out.mono ?_;rintro e w2 ⟨A2,c2,rfl,hr2,hb2⟩;have Hb2:=hid (Hb1.out.trans (hb2.mono Hb1.out.size));obtain⟨bw,hbw⟩:∃bw,w2.heap.size=bw:=⟨_,rfl⟩;have hal:=(Below.refl w2.heap.size w2).alloc (Nat.le_refl _) (.cells #[.pointer none,.int .u64 0,.int .i64 0] 153);have hws:=WS.new w2 153 (by decide);have hA2:∀a,A2=some a→a.block≠bw:=fun a e=>by
  obtain⟨g,off,e2,hcell⟩:=hr2 Hls.out;rw[e2]at e;injection e with e
  subst e;have h1:0<(aL ls).length:=List.length_pos_iff.2 Hls.out;have h2:=hcell 0 h1;rw[List.getElem?_eq_getElem h1]at h2;have h3:=World.block_lt_of_cell? w2 _ h2;dsimp only at h3 ⊢;omega
 have hr3:=aC hr2 hal;have Hr3:=hid hr3;have Hp:=hid (zF.out _ _ A2 c2 hws hr3 (by rw[hbw];exact hA2));have Ns:=hid (Hb2.out.trans (hal.mono Hb2.out.size));have Hbw:=hid hbw;have HA2:=hid hA2;have hle:w.heap.size≤bw:=by rw[←hbw];exact Hb2.out.size
 clear hr2 hb2 Hb1 H3' hal hws hA2 hr3 hbw zF Hls;go_wp2_with fail
 rw[Hbw.out]at Hp;rw[Hbw.out];refine Hp.out.mono ?_;rintro e w4 ⟨rfl,ajH,hg4⟩;have Hb4:=hid (Ns.out.grown hg4 Ns.out.size (fun x e=>by injection e with e;omega));have hr4:=jY Hr3.out HA2.out hg4;have ahy:=hid (H4.out A2 c2 w4 hr4);have ail:=hid ajH;clear ajH hg4 Hp Ns hr4 Hr3 HA2 H4 Hbw Hb2;go_wp2_with fail
 refine ahy.out.mono ?_;rintro e w5 ⟨p,rfl,PU,hb5⟩;have Hb5:=hid (Hb4.out.trans (hb5.mono Hb4.out.size));have ain:=hid (ail.out.below hb5);have He5:=hid (H6.out w5 p PU (aC Hr.out Hb5.out));clear PU hb5 Hb4 ail ahy H6 Hr;go_wp2_with fail
 refine He5.out.mono ?_;rintro e w6 ⟨⟨A6,c6,rfl,hr6⟩,hb6⟩;have Hb6:=hid (Hb5.out.trans (hb6.mono Hb5.out.size));have aky:=hid (ain.out.below hb6);have Hr6:=hid hr6;clear hr6 hb6 Hb5 ain He5;have adh:Hid (∀W,Below w6.heap.size w6 W→(convert 87 9 (.slice A6 sl.length c6)).run prog W=.ok (.string (strOf sl)) W):=hid (fun W hb=>ahF.out W A6 c6 (aC Hr6.out hb));have alO:=adh.out;clear ahF Hr6 adh;generalize strOf sl=sls at *;generalize strOf hd=shd at *;have gT:Hid (∃S,Uo cs S∧strOf E=strOf S):=hid ⟨E,HQ.out,rfl⟩;clear HQ;generalize strOf E=sE at *;go_upto_region 9 with fail
 refine wp_region_held_drew (S:=(fun W:World=>Below w6.heap.size w6 W)) (by kernel_rfl) (by exact(Below.refl _ _).drew) (fun hHeld=>?_);refine wpAnyH_take (i:=4) (oi:={dst:=some 43,op:=.move (.tmp 12),type:=87,pos:= "stream.go:81",after:=#[],guard:=none}) (v:=?_) rfl (by kernel_rfl) (by kernel_rfl) (by kernel_rfl) (fun _ _ _ h=>h) (Or.inl ⟨by rfl,?_⟩) (by assumption) ?_;rotate_left
 ·(intro w hSw;(try dsimp only at hSw);go_simp;(try with_reducible rfl))
 try simp only[Act.put,List.setIfInBounds_toArray,List.set_cons_zero,List.set_cons_succ]
 refine wpAnyH_take (i:=5) (oi:={dst:=some 44,op:=.convert 87 9 (.tmp 43),type:=9,pos:= "stream.go:81",after:=#[{on:=4,ground:=.data}],guard:=none}) (v:=?_) rfl (by kernel_rfl) (by kernel_rfl) (by kernel_rfl) (fun _ _ _ h=>h) (Or.inl ⟨by rfl,?_⟩) (by assumption) ?_;rotate_left
 ·(intro w hSw;(try dsimp only at hSw);go_simp;(try with_reducible rfl))
 try simp only[Act.put,List.setIfInBounds_toArray,List.set_cons_zero,List.set_cons_succ]
 refine wpAnyH_ready (rs:=[0]) (by kernel_rfl) (by simp) ?_;refine AllReadyH.cons (o:={dst:=some 39,op:=.call {callee:=.value (.func 133),args:=#[.const (.int .u64 2)],argTypes:=#[31]},type:=63,pos:= "stream.go:81",after:=#[],guard:=none}) rfl (fun K hK=>?_) AllReadyH.nil;go_simp
 (go_at_call 133;refine(ajS.out _).mono ?_;rintro e w7 ⟨b,rfl,hc7,hbb,hb7⟩;have HX:=hid (hHeld.trans (hb7.mono hHeld.size));have HB:=hid (Nat.le_trans hHeld.size hbb);have HC:=hid hc7;clear hc7 hb7 hbb)
 go_simp;refine hK.out _ _ (by exact HX.out) (fun hHeld=>?_);clear hK K
 try simp only[Act.put,List.setIfInBounds_toArray,List.set_cons_zero,List.set_cons_succ]
 refine wpAnyH_ready (rs:=[1]) (by kernel_rfl) (by simp) ?_;refine AllReadyH.cons (o:={dst:=some 40,op:=.call {callee:=.value (.func 100),args:=#[.tmp 9],argTypes:=#[153]},type:=87,pos:= "stream.go:81",after:=#[{on:=0,ground:=.chain}],guard:=none}) rfl (fun K hK=>?_) AllReadyH.nil;go_simp
 (go_at_call 100;refine(Hby.out _ _ (aky.out.below HX.out)).mono ?_;rintro e w8 ⟨g,rfl,hr8,hb8⟩;have HY:=hid (HX.out.trans (hb8.mono HX.out.size));have HD:=hid (HC.out.below hb8);have HR:=hid hr8;clear hr8 hb8 HX HC)
 go_simp;refine hK.out _ _ (by exact HY.out) (fun hHeld=>?_);clear hK K
 try simp only[Act.put,List.setIfInBounds_toArray,List.set_cons_zero,List.set_cons_succ]
 have aiI:=adg.out w8 _ hd.length HR.out;refine wpAnyH_ready (rs:=[2]) (by kernel_rfl) (by simp) ?_;refine AllReadyH.cons (o:={dst:=some 41,op:=.convert 87 9 (.tmp 40),type:=9,pos:= "stream.go:81",after:=#[{on:=1,ground:=.data}],guard:=none}) rfl (fun K hK=>?_) AllReadyH.nil;go_simp;refine hK.out _ _ (by exact HY.out) (fun hHeld=>?_);clear hK K
 try simp only[Act.put,List.setIfInBounds_toArray,List.set_cons_zero,List.set_cons_succ]
 refine wpAnyH_ready (rs:=[3]) (by kernel_rfl) (by simp) ?_;refine AllReadyH.cons (o:={dst:=some 42,op:=.call {callee:=.value (.func 63),args:=#[.tmp 39,.tmp 41],argTypes:=#[63,9]},type:=63,pos:= "stream.go:81",after:=#[{on:=0,ground:=.data},{on:=2,ground:=.data},{on:=1,ground:=.chain}],guard:=none}) rfl (fun K hK=>?_) AllReadyH.nil;go_simp
 (go_at_call 63;refine(TQ.out _ _ HD.out).mono ?_;rintro e w9 ⟨rfl,hc9,hg9⟩;have HZ:=hid (HY.out.trans (below_grown hg9 HB.out HY.out.size));have HE:=hid hc9;clear hc9 hg9)
 go_simp;refine hK.out _ _ (by exact HZ.out) (fun hHeld=>?_);clear hK K
 try simp only[Act.put,List.setIfInBounds_toArray,List.set_cons_zero,List.set_cons_succ]
 refine wpAnyH_ready (rs:=[6]) (by kernel_rfl) (by simp) ?_;refine AllReadyH.cons (o:={dst:=some 45,op:=.call {callee:=.value (.func 63),args:=#[.tmp 42,.tmp 44],argTypes:=#[63,9]},type:=63,pos:= "stream.go:81",after:=#[{on:=3,ground:=.data},{on:=5,ground:=.data},{on:=3,ground:=.chain}],guard:=none}) rfl (fun K hK=>?_) AllReadyH.nil;go_simp
 (go_at_call 63;refine(aij.out _ _ HE.out).mono ?_;rintro e w10 ⟨rfl,aiD,aau⟩;have HU:=hid (HZ.out.trans (below_grown aau HB.out HZ.out.size));have HF:=hid aiD;clear aiD aau)
 go_simp;refine hK.out _ _ (by exact HU.out) (fun hHeld=>?_);clear hK K
 try simp only[Act.put,List.setIfInBounds_toArray,List.set_cons_zero,List.set_cons_succ]
 refine wpAnyH_ready (rs:=[7]) (by kernel_rfl) (by simp) ?_;refine AllReadyH.cons (o:={dst:=some 46,op:=.call {callee:=.value (.func 34),args:=#[.tmp 45],argTypes:=#[63]},type:=9,pos:= "stream.go:81",after:=#[{on:=6,ground:=.data},{on:=6,ground:=.chain}],guard:=none}) rfl (fun K hK=>?_) AllReadyH.nil;go_simp
 (go_at_call 34;refine(oN.out _ _ HF.out).mono ?_;rintro e w11 ⟨rfl,YF⟩;have HV:=hid (HU.out.trans (YF.mono HU.out.size));clear YF)
 go_simp;refine hK.out _ _ (by exact HV.out) (fun hHeld=>?_);clear hK K
 try simp only[Act.put,List.setIfInBounds_toArray,List.set_cons_zero,List.set_cons_succ]
 refine wpAnyH_take (i:=8) (oi:={dst:=some 4,op:=.assign (.tmp 46),type:=9,pos:= "stream.go:81",after:=#[{on:=7,ground:=.data},{on:=7,ground:=.chain},{on:=0,ground:=.phase},{on:=1,ground:=.phase},{on:=2,ground:=.phase},{on:=3,ground:=.phase},{on:=4,ground:=.phase},{on:=5,ground:=.phase},{on:=6,ground:=.phase},{on:=7,ground:=.phase}],guard:=none}) (v:=?_) rfl (by kernel_rfl) (by kernel_rfl) (by kernel_rfl) (fun _ _ _ h=>h) (Or.inl ⟨by rfl,?_⟩) (by assumption) ?_;rotate_left
 ·(intro w hSw;(try dsimp only at hSw);go_simp;(try with_reducible rfl))
 try simp only[Act.put,List.setIfInBounds_toArray,List.set_cons_zero,List.set_cons_succ]
 refine wpAnyH_take (i:=9) (oi:={dst:=some 5,op:=.assign (.const (.bool true)),type:=4,pos:= "stream.go:81",after:=#[{on:=8,ground:=.chain},{on:=0,ground:=.phase},{on:=1,ground:=.phase},{on:=2,ground:=.phase},{on:=3,ground:=.phase},{on:=4,ground:=.phase},{on:=5,ground:=.phase},{on:=6,ground:=.phase},{on:=7,ground:=.phase},{on:=8,ground:=.phase}],guard:=none}) (v:=?_) rfl (by kernel_rfl) (by kernel_rfl) (by kernel_rfl) (fun _ _ _ h=>h) (Or.inl ⟨by rfl,?_⟩) (by assumption) ?_;rotate_left
 ·(intro w hSw;(try dsimp only at hSw);go_simp;(try with_reducible rfl))
 try simp only[Act.put,List.setIfInBounds_toArray,List.set_cons_zero,List.set_cons_succ]
 refine wpAnyH_done (by kernel_rfl) ?_ _;go_wp2;go_ret2;obtain⟨S,hS1,hS2⟩:=gT.out;exact⟨⟨S,hS1,by rw[←hS2];rfl⟩,Hb6.out.trans (HV.out.mono Hb6.out.size)⟩
theorem akF(A:Option Addr)(L c q:Nat)(W:World)(h:q≤L)(hc:L≤c):(Instr.slice 87 (.slice A L c) none (some (.int .i64 (q:Int))) none).run prog W=.ok (.slice A q c) W:=by
 have h1:q≤c:=by omega
 go_simp
theorem Gd{w:World}{A:Option Addr}{l:List Nat}(k:Nat)(h:Reads w A (u8s l)):Reads w A (u8s (l.take k)):=fun hne=>by
 have h0:l.take k≠[]:=by intro e;rw[e]at hne;exact hne rfl
 obtain⟨g,off,e,hc⟩:=h (by
   intro e;have:l=[]:=by simpa [u8s]using e
   rw[this]at h0;simp at h0)
 refine⟨g,off,e,fun j hj=>?_⟩;rw[aO,List.length_take]at hj;rw[hc j (by rw[aO];omega),bD l j (by omega),bD (l.take k) j (by rw[List.length_take];omega),List.getElem_take]
theorem Gc{w w':World}{A:Option Addr}{xs:List Value}{row:Option Nat}(h:Reads w A xs)(hA:∀a,A=some a→row≠some a.block)(hg:w.grownBy w' row):Reads w' A xs:=fun hne=>by
 obtain⟨g,off,rfl,hc⟩:=h hne;have hgb:=hA _ rfl;refine⟨g,off,rfl,fun j hj=>?_⟩;have h1:=hc j hj;have hlt:j<xs.length:=hj;rw[List.getElem?_eq_getElem hlt]at h1 ⊢;have h2:=World.block_lt_of_cell? w _ h1;exact(World.cell?_of_block (a:=⟨g,off+j,none⟩) (hg.block g h2 (fun e=>hgb e.symm))).trans h1
theorem Dl(A:Option Addr)(c:Nat)(cs:List Nat)(w:World)(h0:0<cs.length)(hl:cs.length≤700)(hc:cs.length≤c)(h28:∀x∈cs,x<28)(hr:Reads w A (u8s cs)) :
  Calls prog 102 #[.slice A cs.length c] w fun e w'=>(∃A' c' ss,e=.returned (.slice A' ss.length c')∧Reads w' A' (kR ss)∧(∀s∈ss,Uo cs s)∧ss[0]?=some (dW cs)∧ss.length≤3)∧Below w.heap.size w w':=by
 obtain⟨i0,hi,hz0,hz1,hz2⟩:=info_parts Vx;have hlt:∀x∈cs,x<256:=fun x hx=>by have:=h28 x hx;omega
 have hT1:=jH cs hlt;have Hcv:Hid (∀W,Below w.heap.size w W→(convert 87 9 (.slice A cs.length c)).run prog W=.ok (.string (strOf cs)) W):=hid (fun W hb=>bR W A c cs hlt (aC hr hb));have ht1:(cs.take 1).length=1:=by rw[List.length_take];omega
 have adg:Hid (∀W,Below w.heap.size w W→(convert 87 9 (.slice A 1 c)).run prog W=.ok (.string (strOf (cs.take 1))) W):=hid (fun W hb=>by
  have h:=bR W A c (cs.take 1) (gM hlt 1) (Gd 1 (aC hr hb));rw[ht1]at h;exact h)
 have Hsl:Hid (∀W,(Instr.slice 87 (.slice A cs.length c) none (some (.int .i64 1)) none).run prog W=.ok (.slice A 1 c) W):=hid (fun W=>akF A cs.length c 1 W (by omega) hc);have acX:=hid (fun W=>rV 0 W (by omega));have Zl:=hid (fun W=>rV 1 W (by omega));have Zw:=hid (fun W b (h:CW W b [0])=>gV b [0] cs W (by simp;omega) h);have Uh:=hid (fun W b (h:CW W b [1])=>gV b [1] (cs.take 1) W (by simp;omega) h);have e0:[0]++cs=dW cs:=rfl;have e1:[1]++cs.take 1=jm cs:=rfl;have Hq0:=hid (SG cs h28);have aeE:∀x∈dW cs,x<256:=Hq0.out.lt;have aee:∀x∈jm cs,x<256:=fun x hx=>by
  rcases List.mem_cons.1 hx with rfl | hx
  ·omega
  ·exact gM hlt 1 x hx
 rw[e0]at Zw;rw[e1]at Uh;have adF:=hid (fun W b (h:CW W b (dW cs))=>iK b (dW cs) W (by simp[dW];omega) aeE h);have ZB:=hid (fun W b (h:CW W b (jm cs))=>iK b (jm cs) W (by simp[jm];omega) aee h);have Hq1:=hid (fun h=>SB cs h28 h);have Hof:=hid (fun W (hb:Below w.heap.size w W)=>abm A c cs W (by omega) hlt (aC hr hb));have Hsy:=hid (fun A c W h=>vJ A c cs W hlt h);have Hin:=hid (fun B d W (hb:Below w.heap.size w W) (h:Reads W B (aL (aR cs)))=>abF A B c d cs W h0 hl h28 (aC hr hb) (by unfold aF;rw[bJ];exact h));have hcv:=Hcv.out;clear h28 hr hlt hT1 e0 e1 aeE aee ht1 Hcv;go_enter func102,ntmps102
 go_upto_region 1 with fail
 refine wp_region_held_drew (S:=(fun W:World=>Below w.heap.size w W)) (by kernel_rfl) (by exact(Below.refl _ _).drew) (fun hHeld=>?_);refine wpAnyH_take (i:=1) (oi:={dst:=some 8,op:=.move (.tmp 0),type:=87,pos:= "stream.go:52",after:=#[],guard:=none}) (v:=?_) rfl (by kernel_rfl) (by kernel_rfl) (by kernel_rfl) (fun _ _ _ h=>h) (Or.inl ⟨by rfl,?_⟩) (by assumption) ?_;rotate_left
 ·(intro w hSw;(try dsimp only at hSw);go_simp;(try with_reducible rfl))
 try simp only[Act.put,List.setIfInBounds_toArray,List.set_cons_zero,List.set_cons_succ]
 refine wpAnyH_take (i:=2) (oi:={dst:=some 9,op:=.convert 87 9 (.tmp 8),type:=9,pos:= "stream.go:52",after:=#[{on:=1,ground:=.data}],guard:=none}) (v:=?_) rfl (by kernel_rfl) (by kernel_rfl) (by kernel_rfl) (fun _ _ _ h=>h) (Or.inl ⟨by rfl,?_⟩) (by assumption) ?_;rotate_left
 ·(intro w hSw;(try dsimp only at hSw);go_simp;(try with_reducible rfl))
 try simp only[Act.put,List.setIfInBounds_toArray,List.set_cons_zero,List.set_cons_succ]
 refine wpAnyH_ready (rs:=[0]) (by kernel_rfl) (by simp) ?_;refine AllReadyH.cons (o:={dst:=some 7,op:=.call {callee:=.value (.func 133),args:=#[.const (.int .u64 0)],argTypes:=#[31]},type:=63,pos:= "stream.go:52",after:=#[],guard:=none}) rfl (fun K hK=>?_) AllReadyH.nil;go_simp
 (go_at_call 133;refine(acX.out _).mono ?_;rintro e w7 ⟨b,rfl,hc7,hbb,hb7⟩;have HX:=hid (hHeld.trans (hb7.mono hHeld.size));have HB:=hid (Nat.le_trans hHeld.size hbb);have HC:=hid hc7;clear hc7 hb7 hbb)
 go_simp;refine hK.out _ _ (by exact HX.out) (fun hHeld=>?_);clear hK K
 try simp only[Act.put,List.setIfInBounds_toArray,List.set_cons_zero,List.set_cons_succ]
 refine wpAnyH_ready (rs:=[3]) (by kernel_rfl) (by simp) ?_;refine AllReadyH.cons (o:={dst:=some 10,op:=.call {callee:=.value (.func 33),args:=#[.tmp 7,.tmp 9],argTypes:=#[63,9]},type:=63,pos:= "stream.go:52",after:=#[{on:=0,ground:=.data},{on:=2,ground:=.data},{on:=0,ground:=.chain}],guard:=none}) rfl (fun K hK=>?_) AllReadyH.nil;go_simp
 (go_at_call 33;refine(Zw.out _ _ HC.out).mono ?_;rintro e w9 ⟨rfl,hc9,hg9⟩;have HZ:=hid (HX.out.trans (below_grown hg9 HB.out HX.out.size));have HE:=hid hc9;clear hc9 hg9)
 go_simp;refine hK.out _ _ (by exact HZ.out) (fun hHeld=>?_);clear hK K
 try simp only[Act.put,List.setIfInBounds_toArray,List.set_cons_zero,List.set_cons_succ]
 refine wpAnyH_ready (rs:=[4]) (by kernel_rfl) (by simp) ?_;refine AllReadyH.cons (o:={dst:=some 11,op:=.call {callee:=.value (.func 34),args:=#[.tmp 10],argTypes:=#[63]},type:=9,pos:= "stream.go:52",after:=#[{on:=3,ground:=.data},{on:=3,ground:=.chain}],guard:=none}) rfl (fun K hK=>?_) AllReadyH.nil;go_simp
 (go_at_call 34;refine(adF.out _ _ HE.out).mono ?_;rintro e w11 ⟨rfl,YF⟩;have HV:=hid (HZ.out.trans (YF.mono HZ.out.size));clear YF)
 go_simp;refine hK.out _ _ (by exact HV.out) (fun hHeld=>?_);clear hK K
 try simp only[Act.put,List.setIfInBounds_toArray,List.set_cons_zero,List.set_cons_succ]
 refine wpAnyH_ready (rs:=[5]) (by kernel_rfl) (by simp) ?_;refine AllReadyH.cons (o:={dst:=some 12,op:=.buildSlice 163 1 #[(0,.tmp 11)],type:=163,pos:= "stream.go:52",after:=#[{on:=4,ground:=.data}],guard:=none}) rfl (fun K hK=>?_) AllReadyH.nil;go_simp;refine hK.out _ _ (by exact HV.out.alloc HV.out.size _) (fun hHeld=>?_);clear hK K
 try simp only[Act.put,List.setIfInBounds_toArray,List.set_cons_zero,List.set_cons_succ]
 refine wpAnyH_take (i:=6) (oi:={dst:=some 3,op:=.assign (.tmp 12),type:=163,pos:= "stream.go:52",after:=#[{on:=5,ground:=.data},{on:=4,ground:=.chain},{on:=0,ground:=.phase},{on:=1,ground:=.phase},{on:=2,ground:=.phase},{on:=3,ground:=.phase},{on:=4,ground:=.phase},{on:=5,ground:=.phase}],guard:=none}) (v:=?_) rfl (by kernel_rfl) (by kernel_rfl) (by kernel_rfl) (fun _ _ _ h=>h) (Or.inl ⟨by rfl,?_⟩) (by assumption) ?_;rotate_left
 ·(intro w hSw;(try dsimp only at hSw);go_simp;(try with_reducible rfl))
 try simp only[Act.put,List.setIfInBounds_toArray,List.set_cons_zero,List.set_cons_succ]
 refine wpAnyH_done (by kernel_rfl) ?_ _;have hrow:=Row.new w11 9 (kR [dW cs]);have hown:=FM hrow HV.out.size (by simp);have aiw:=HV.out.alloc HV.out.size (.cells #[.string (strOf (dW cs))] 9);have e9:w11.alloc (.cells (kR [dW cs]).toArray 9)=w11.alloc (.cells #[.string (strOf (dW cs))] 9):=rfl;rw[e9]at hown;obtain⟨u,hu⟩:∃u,u=Value.slice (some ⟨w11.heap.size,0,none⟩) 1 1:=⟨_,rfl⟩;have hown2:(w11.alloc (.cells #[.string (strOf (dW cs))] 9)).ownsRow w.heap.size 9 1 u 1 (kR [dW cs]):=by rw[hu];exact hown
 have sZ:=hid hown2;have afp:=hid aiw;rw[←hu];clear hrow hown aiw e9 hu hown2 HX HB HC HZ HE HV acX Zw adF hHeld;generalize w11.alloc (.cells #[.string (strOf (dW cs))] 9)=wA at *;clear hcv;go_wp2_with fail
 refine(Hof.out wA afp.out).mono ?_;rintro e w2 ⟨B,d,rfl,⟨hr2,hB⟩,hb2⟩;have HU:Hid (∀a q,B=some a→u.ownBlock=some q→q≠a.block):=hid (fun a q e1 e2 e3=>by
  have h1:=hB a e1;have h2:=(sZ.out.lt q e2).2;omega)
 clear hB;have Hb2:=hid (afp.out.trans (hb2.mono afp.out.size));have qI:=hid (own_below sZ.out hb2);have Hs2:=hid (Hsy.out B d w2 hr2);have Hr2:=hid hr2;clear hr2 hb2 afp sZ Hof Hsy;go_wp2_with fail
 refine Hs2.out.mono ?_;rintro e w3 ⟨rfl,hb3⟩;have Hb3:=hid (Hb2.out.trans (hb3.mono Hb2.out.size));have Hr3:=hid (aC Hr2.out hb3);have kD:=hid (own_below qI.out hb3);clear hb3 Hb2 Hs2 Hr2 qI;have ahM:=Hin;clear Hin;by_cases h1:kr (aF cs)=1
 case' pos=>
  have hQ1:=Hq1.out h1;rw[h1];have HQ1:=hid hQ1;clear h1 hQ1 Hq1;have aiI:=adg.out;have hsl:=Hsl.out;clear adg Hsl;go_upto_region 4 with fail
  refine wp_region_held_drew (S:=(fun W:World=>Below w.heap.size w W)) (by kernel_rfl) (by exact Hb3.out.drew) (fun hHeld=>?_);refine wpAnyH_take (i:=0) (oi:={dst:=some 18,op:=.move (.tmp 3),type:=163,pos:= "stream.go:55",after:=#[],guard:=none}) (v:=?_) rfl (by kernel_rfl) (by kernel_rfl) (by kernel_rfl) (fun _ _ _ h=>h) (Or.inl ⟨by rfl,?_⟩) (by assumption) ?_;rotate_left
  ·(intro w hSw;(try dsimp only at hSw);go_simp;(try with_reducible rfl))
  try simp only[Act.put,List.setIfInBounds_toArray,List.set_cons_zero,List.set_cons_succ]
  refine wpAnyH_take (i:=2) (oi:={dst:=some 20,op:=.move (.tmp 0),type:=87,pos:= "stream.go:55",after:=#[],guard:=none}) (v:=?_) rfl (by kernel_rfl) (by kernel_rfl) (by kernel_rfl) (fun _ _ _ h=>h) (Or.inl ⟨by rfl,?_⟩) (by assumption) ?_;rotate_left
  ·(intro w hSw;(try dsimp only at hSw);go_simp;(try with_reducible rfl))
  try simp only[Act.put,List.setIfInBounds_toArray,List.set_cons_zero,List.set_cons_succ]
  refine wpAnyH_take (i:=3) (oi:={dst:=some 21,op:=.slice 87 (.tmp 20) none (some (.const (.int .i64 1))) none,type:=87,pos:= "stream.go:55",after:=#[{on:=2,ground:=.data}],guard:=none}) (v:=?_) rfl (by kernel_rfl) (by kernel_rfl) (by kernel_rfl) (fun _ _ _ h=>h) (Or.inl ⟨by rfl,?_⟩) (by assumption) ?_;rotate_left
  ·(intro w hSw;(try dsimp only at hSw);go_simp;(try with_reducible rfl))
  try simp only[Act.put,List.setIfInBounds_toArray,List.set_cons_zero,List.set_cons_succ]
  refine wpAnyH_take (i:=4) (oi:={dst:=some 22,op:=.convert 87 9 (.tmp 21),type:=9,pos:= "stream.go:55",after:=#[{on:=3,ground:=.data}],guard:=none}) (v:=?_) rfl (by kernel_rfl) (by kernel_rfl) (by kernel_rfl) (fun _ _ _ h=>h) (Or.inl ⟨by rfl,?_⟩) (by assumption) ?_;rotate_left
  ·(intro w hSw;(try dsimp only at hSw);go_simp;(try with_reducible rfl))
  try simp only[Act.put,List.setIfInBounds_toArray,List.set_cons_zero,List.set_cons_succ]
  refine wpAnyH_ready (rs:=[1]) (by kernel_rfl) (by simp) ?_;refine AllReadyH.cons (o:={dst:=some 19,op:=.call {callee:=.value (.func 133),args:=#[.const (.int .u64 1)],argTypes:=#[31]},type:=63,pos:= "stream.go:55",after:=#[],guard:=none}) rfl (fun K hK=>?_) AllReadyH.nil;go_simp
  (go_at_call 133;refine(Zl.out _).mono ?_;rintro e w7 ⟨b,rfl,hc7,hbb,hb7⟩;have HX:=hid ((Below.refl w3.heap.size w3).drew.trans (hb7.mono (Nat.le_refl _)));have HB:=hid hbb;have HC:=hid hc7;clear hc7 hb7 hbb)
  go_simp;refine hK.out _ _ (by exact Hb3.out.trans (HX.out.mono Hb3.out.size)) (fun hHeld=>?_);clear hK K
  try simp only[Act.put,List.setIfInBounds_toArray,List.set_cons_zero,List.set_cons_succ]
  refine wpAnyH_ready (rs:=[5]) (by kernel_rfl) (by simp) ?_;refine AllReadyH.cons (o:={dst:=some 23,op:=.call {callee:=.value (.func 33),args:=#[.tmp 19,.tmp 22],argTypes:=#[63,9]},type:=63,pos:= "stream.go:55",after:=#[{on:=1,ground:=.data},{on:=4,ground:=.data},{on:=1,ground:=.chain}],guard:=none}) rfl (fun K hK=>?_) AllReadyH.nil;go_simp
  (go_at_call 33;refine(Uh.out _ _ HC.out).mono ?_;rintro e w9 ⟨rfl,hc9,hg9⟩;have HZ:=hid (HX.out.trans (below_grown hg9 HB.out HX.out.size));have HE:=hid hc9;clear hc9 hg9)
  go_simp;refine hK.out _ _ (by exact Hb3.out.trans (HZ.out.mono Hb3.out.size)) (fun hHeld=>?_);clear hK K
  try simp only[Act.put,List.setIfInBounds_toArray,List.set_cons_zero,List.set_cons_succ]
  refine wpAnyH_ready (rs:=[6]) (by kernel_rfl) (by simp) ?_;refine AllReadyH.cons (o:={dst:=some 24,op:=.call {callee:=.value (.func 34),args:=#[.tmp 23],argTypes:=#[63]},type:=9,pos:= "stream.go:55",after:=#[{on:=5,ground:=.data},{on:=5,ground:=.chain}],guard:=none}) rfl (fun K hK=>?_) AllReadyH.nil;go_simp
  (go_at_call 34;refine(ZB.out _ _ HE.out).mono ?_;rintro e w11 ⟨rfl,YF⟩;have HV:=hid (HZ.out.trans (YF.mono HZ.out.size));clear YF)
  go_simp;refine hK.out _ _ (by exact Hb3.out.trans (HV.out.mono Hb3.out.size)) (fun hHeld=>?_);clear hK K
  try simp only[Act.put,List.setIfInBounds_toArray,List.set_cons_zero,List.set_cons_succ]
  refine wpAnyH_ready (rs:=[7]) (by kernel_rfl) (by simp) ?_;refine AllReadyH.cons (o:={dst:=some 25,op:=.buildSlice 163 1 #[(0,.tmp 24)],type:=163,pos:= "stream.go:55",after:=#[{on:=6,ground:=.data}],guard:=none}) rfl (fun K hK=>?_) AllReadyH.nil;go_simp;refine hK.out _ _ (by exact Hb3.out.trans ((HV.out.alloc HV.out.size _).mono Hb3.out.size)) (fun hHeld=>?_);clear hK K
  try simp only[Act.put,List.setIfInBounds_toArray,List.set_cons_zero,List.set_cons_succ]
  have Hbb:=hid (HV.out.alloc HV.out.size (.cells #[.string (strOf (jm cs))] 9));have Zv:=hid (own_below kD.out Hbb.out);have dR:=hid (World.news_of_block (heap_alloc_new w11 (.cells #[.string (strOf (jm cs))] 9)));refine wpAnyH_ready (rs:=[8]) (by kernel_rfl) (by simp) ?_;refine AllReadyH.cons (o:={dst:=some 26,op:=.call {callee:=.builtin .append,args:=#[.tmp 18,.tmp 25],argTypes:=#[163,163]},type:=163,pos:= "stream.go:55",after:=#[{on:=0,ground:=.data},{on:=7,ground:=.data},{on:=6,ground:=.chain}],guard:=none}) rfl (fun K hK=>?_) AllReadyH.nil
  (refine step_append_lies _ (by rfl) _ _ _ (by rfl) w.heap.size 9 i0 (.string ⟨#[]⟩) 1 16 underlying163 hi hz0 hz1 hz2 rfl (by omega) u 1 (kR [dW cs]) (by rfl) Zv.out ⟨w11.heap.size,0,none⟩ 1 1 [.string (strOf (jm cs))] (by rfl) (by rfl) dR.out (by intro u hu;simp at hu;subst hu;rfl) (by omega) (by unfold maxLen;omega) (by omega) (by have:=Hbb.out.size;have:=Hb3.out.size;omega) _ rfl ?_;intro gN nX wN hoN hgN _ _;have HoN:=hid hoN;have HbN:=hid ((Hb3.out.trans (Hbb.out.mono Hb3.out.size)).grown hgN (by have:=Hbb.out.size;have:=Hb3.out.size;omega) (fun q e=>(Zv.out.lt q e).1));have HRb:=hid (Gc (aC Hr3.out Hbb.out) (fun a e e2=>HU.out a _ e e2 rfl) hgN);clear hoN hgN)
  refine hK.out _ _ (by exact HbN.out) (fun hHeld=>?_);clear hK K
  try simp only[Act.put,List.setIfInBounds_toArray,List.set_cons_zero,List.set_cons_succ]
  refine wpAnyH_take (i:=9) (oi:={dst:=some 3,op:=.assign (.tmp 26),type:=163,pos:= "stream.go:55",after:=#[{on:=8,ground:=.data},{on:=8,ground:=.chain},{on:=0,ground:=.phase},{on:=1,ground:=.phase},{on:=2,ground:=.phase},{on:=3,ground:=.phase},{on:=4,ground:=.phase},{on:=5,ground:=.phase},{on:=6,ground:=.phase},{on:=7,ground:=.phase},{on:=8,ground:=.phase}],guard:=none}) (v:=?_) rfl (by kernel_rfl) (by kernel_rfl) (by kernel_rfl) (fun _ _ _ h=>h) (Or.inl ⟨by rfl,?_⟩) (by assumption) ?_;rotate_left
  ·(intro w hSw;(try dsimp only at hSw);go_simp;(try with_reducible rfl))
  try simp only[Act.put,List.setIfInBounds_toArray,List.set_cons_zero,List.set_cons_succ]
  refine wpAnyH_done (by kernel_rfl) ?_ _;have hE:kR [dW cs]++[Value.string (strOf (jm cs))]=kR [dW cs,jm cs]:=rfl;have hown:=HoN.out;rw[hE]at hown;obtain⟨u2,hu2⟩:∃u2,u2=Value.slice (some ⟨gN,0,none⟩) 2 nX:=⟨_,rfl⟩;rw[show(1+1:Nat)=2 from rfl,←hu2]at hown;rw[←hu2];obtain⟨ss,hss⟩:∃ss,ss=[dW cs,jm cs]:=⟨_,rfl⟩;rw[←hss]at hown;have NC:=hid hown;have afx:Hid ((∀s∈ss,Uo cs s)∧ss[0]?=some (dW cs)):=hid (by
   rw[hss];refine⟨fun s hs=>?_,by simp⟩;simp at hs;rcases hs with rfl | rfl
   ·exact Hq0.out
   ·exact HQ1.out)
  obtain⟨k,hk⟩:∃k,k=2:=⟨_,rfl⟩;rw[←hk]at NC;have HkT:Hid (ss.length=k∧k≤2):=hid (by rw[hss,hk];exact⟨rfl,Nat.le_refl _⟩);have HrT:=HRb;have HbT:=HbN;have hk2:k≤2:=by omega
  clear hE hown hu2 hss hk HRb HbN HoN Hbb Zv dR HX HB HC HZ HE HV hHeld aiI hsl HQ1 Hq0 Uh ZB Zl Hr3 Hb3 kD HU;rename World=>wT
 case' neg=>
  have hsy:(((kr (aF cs):Nat):Int) == 1)=false:=by rw[beq_eq_false_iff_ne];omega
  generalize kr (aF cs)=sy at *;obtain⟨ss,hss⟩:∃ss,ss=[dW cs]:=⟨_,rfl⟩;have afx:Hid ((∀s∈ss,Uo cs s)∧ss[0]?=some (dW cs)):=hid (by
   rw[hss];refine⟨fun s hs=>?_,by simp⟩;simp at hs;rw[hs];exact Hq0.out)
  obtain⟨k,hk⟩:∃k,k=1:=⟨_,rfl⟩;have NC:Hid (w3.ownsRow w.heap.size 9 1 u k (kR ss)):=hid (by rw[hk,hss];exact kD.out);have HkT:Hid (ss.length=k∧k≤2):=hid (by rw[hss,hk];exact⟨rfl,by omega⟩);have HrT:=Hr3;have HbT:=Hb3;have hk2:k≤2:=by omega
  obtain⟨u2,hu2⟩:∃u2,u2=u:=⟨_,rfl⟩;rw[←hu2]at NC ⊢;clear hss hk hu2 Hq0 Hq1 Uh ZB Zl Hr3 Hb3 kD HU h1 Hsl adg;rename World=>wT
 all_goals
  have Hi4:=hid (ahM.out B d wT HbT.out HrT.out);clear ahM HrT;go_wp2_with fail
  refine Hi4.out.mono ?_;rintro e w5 ⟨⟨S,hS,rfl⟩,hb5⟩;have Hb5:=hid (HbT.out.trans (hb5.mono HbT.out.size));have NA:=hid (own_below NC.out hb5);have HS:=hid hS;have hs5:=Hb5.out.size;clear hS hb5 HbT NC Hi4;go_wp2_with (at_builtin;refine wpList_append_own _ rfl _ _ 163 rfl w.heap.size 9 i0 (.string ⟨#[]⟩) 1 16 underlying163 hi hz0 hz1 hz2 rfl (by decide) _ _ _ rfl (NA.out.alloc _) ⟨w5.heap.size,0,none⟩ 1 1 [.string (strOf S)] rfl rfl ?d1 ?d2 ?d3 ?d4 ?d5 ?_)
  case d1=>
   intro j u hj;match j,hj with
   | 0,hj=>simp at hj;subst hj;simp[Addr.add]
  case d2=>intro u hu;simp at hu;subst hu;rfl
  case d3=>unfold maxLen;omega
  case d4=>omega
  case d5=>simp;omega
  intro u' w7 bM gG _;have Cv:Below w.heap.size w w7:=(Hb5.out.alloc Hb5.out.size _).grown gG (by simp;omega) (fun x e=>(NA.out.lt x e).1);have e:kR ss++[Value.string (strOf S)]=kR (ss++[S]):=by simp[kR]
  rw[e]at bM;obtain⟨A',c',rfl,hrd,_⟩:=dL bM;have Hrd:=hid hrd;have Hb7:=hid Cv;clear bM gG Cv e hrd NA;go_wp2;go_ret;refine⟨⟨A',c',ss++[S],by rw[List.length_append,HkT.out.1];rfl,Hrd.out,fun s hs=>?_,(List.getElem?_append_left (List.getElem?_eq_some_iff.1 afx.out.2).1).trans afx.out.2,by rw[List.length_append,HkT.out.1];simp;omega⟩,Hb7.out⟩;rcases List.mem_append.1 hs with hs | hs
  ·exact afx.out.1 s hs
  ·rw[List.mem_singleton.1 hs];exact HS.out
theorem WR(A:Option Addr)(c:Nat)(cs:List Nat)(w:World)(h0:0<cs.length)(hl:cs.length≤700)(hc:cs.length≤c)(h28:∀x∈cs,x<28)(hr:Reads w A (u8s cs)) :
  Calls prog 62 #[.slice A cs.length c] w fun e w'=>(∃S,Un cs S∧e=.returned (.string (strOf S)))∧Below w.heap.size w w':=by
 have Hs:=hid (Dl A c cs w h0 hl hc h28 hr);have ahO:=hid (fun A c ss W h0 hl hr=>Ye A c ss W h0 hl hr);clear hr h28;generalize hm:cs.length=m at *;have Hm:=hid hm;clear hm;go_enter func62,ntmps62
 go_wp2_with fail
 refine Hs.out.mono ?_;rintro e w2 ⟨⟨A',c',ss,rfl,hrd,hq,hp,hl3⟩,hb2⟩;have Hb2:=hid hb2;have Hq:=hid (⟨hq,hp⟩:_∧_);have Hm2:=hid (ahO.out A' c' ss w2 (List.getElem?_eq_some_iff.1 hp).1 (by omega) hrd);clear hrd hq hp hl3 hb2 Hs ahO;go_wp2_with fail
 refine Hm2.out.mono ?_;rintro e w3 ⟨⟨S,hS,hmin,aiM,rfl⟩,rfl⟩;have HS:Hid (Un cs S):=hid ⟨Hq.out.1 S hS,by
  have:=hmin _ (List.mem_of_getElem? Hq.out.2);simpa [dW]using this,fun h=>aiM _ Hq.out.2 (by rw[h];rfl)⟩
 clear hS hmin aiM Hm2 Hq;have gT:Hid (∃S',Un cs S'∧strOf S=strOf S'):=hid ⟨S,HS.out,rfl⟩;generalize strOf S=sS at *;go_wp2;go_ret;obtain⟨S',h1,h2⟩:=gT.out;exact⟨⟨S',h1,congrArg (fun x=>Ending.returned (Value.string x)) h2⟩,Hb2.out⟩
end Go.Proofs.YtgiicohbigiapaaGreat
