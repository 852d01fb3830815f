/- Contracts, and what they rest on. Conditions: the theorems' premises. -/
import Derived.Test.YtgiicohbigiapaaGreatYat
set_option maxHeartbeats 4000000
set_option maxRecDepth 100000
open Go.Lib(hid)
open Go.Proofs.Tryz Go.Proofs.YtgiicohbigiapaaGreat.Bm
namespace Go.Proofs.YtgiicohbigiapaaGreat
open Go.RowKit
theorem QN(A:Option Addr)(c:Nat)(bs:List Nat)(w:World)(hl:bs.length≤10000)(hb:∀x∈bs,x<256)(hr:Reads w A (u8s bs)) :
  (qZ bs=none∧Calls prog 224 #[.slice A bs.length c] w fun e w'=>e=.returned (.tuple #[.pointer none,.bool false])∧Below w.heap.size w w') ∨
  ∃M L,qZ bs=some (M,L)∧M<2^L∧aV bs=M+2^L∧L<8*bs.length∧Calls prog 224 #[.slice A bs.length c] w fun e w'=>∃b,e=.returned (.tuple #[.pointer (some ⟨b,0,none⟩),.bool true])∧TS w' w.heap.size b bs L∧Below w.heap.size w w':=by
 rcases List.eq_nil_or_concat bs with rfl | ⟨front,b,e⟩
 ·exact .inl ⟨by simp[qZ],(LB A c w).mono fun e w' ⟨he,hw⟩=>⟨he,by subst hw;exact Below.refl _ _⟩⟩
 ·rw[List.concat_eq_append]at e;have hlen:bs.length=front.length+1:=by rw[e,List.length_append,List.length_singleton]
  have hlast:bs[front.length]'(by omega)=b:=by subst e;simp
  have hgl:bs.getLast?.getD 0=b:=by rw[e,List.getLast?_append,List.getLast?_singleton];rfl
  obtain⟨g,off,rfl,hc⟩:=fO hr (by intro h;rw[h]at hlen;simp at hlen);have hg:=RD hr (by intro h;have:=congrArg List.length h;rw[aO,hlen,List.length_nil]at this;omega);rcases Nat.eq_zero_or_pos b with h0 | h0
  ·refine .inl ⟨by unfold qZ;rw[if_pos (by rw[hgl,h0])],?_⟩;have h1:=hc front.length (by omega);rw[hlast,h0]at h1;rw[hlen];exact(QT g off front.length c w (by omega) h1).mono fun e w' ⟨he,hw⟩=>⟨he,by subst hw;exact Below.refl _ _⟩
  ·have hb0:b≠0:=by omega
   have hb256:=hb b (by rw[e];simp);obtain⟨l1,l8,ht⟩:=JR front b (fun x hx=>hb x (by rw[e];exact List.mem_append_left _ hx)) hb256 hb0;rw[←e]at ht;have hlg:=Ba _ _ ht;have hopen:qZ bs=some (aV bs%2^(aV bs).log2,(aV bs).log2):=by unfold qZ;rw[if_neg (by rw[hgl];exact hb0)]
   obtain⟨k1,_,k3⟩:=Dz bs _ _ hb hopen;have hs:=ht.sum;rw[hlg]at hopen k1 k3;refine .inr ⟨_,_,hopen,k1,by omega,k3,?_⟩;rw[hlen];exact QS g off front.length c bs b w (by omega) hb256 hb0 hlen hlast hr hg
theorem abf(M left k:Nat)(h:k≤left):M%2^left/2^(left-k)=M/2^(left-k)%2^k∧M%2^left%2^(left-k)=M%2^(left-k):=by
 have e:2^left=2^(left-k)*2^k:=by rw[←Nat.pow_add];congr 1;omega
 rw[e];exact⟨Nat.mod_mul_right_div_self _ _ _,Nat.mod_mul_right_mod _ _ _⟩
theorem Ih(ls:List Nat)(log st:Nat)(h:st<2^log):Kt (tq ls log (st:Int))=.agg #[.int .u8 (bf ls log st:Int),.int .i64 (aB ls log st:Int),.int .i64 (aS ls log st:Int)]:=by
 unfold tq Kt;rw[if_pos ⟨by omega,by omega⟩,Int.toNat_natCast]
theorem Jf(ls:List Nat)(log st v:Nat)(h:st<2^log)(hv:v<2^aB ls log st):Ao ls log (st:Int) (v:Int)=true∧CZ ls log (st:Int) (v:Int)=((aS ls log st+v:Nat):Int):=by
 have h1:Ao ls log (st:Int) (v:Int)=true:=by
  unfold Ao;rw[Int.toNat_natCast];exact decide_eq_true ⟨by omega,by omega,by omega,by omega⟩
 refine⟨h1,?_⟩;unfold CZ;rw[h1,if_pos rfl,Int.toNat_natCast,Int.natCast_add]
theorem Va(w0 w:World)(p:Addr)(ls:List Nat)(log B b left st:Nat)(bs:List Nat)(hf:bL ls log)(ht:qE w0 p ls log)(hw:Below w0.heap.size w0 w)(hB:w0.heap.size≤B)(hs:bs.length≤10000)(hbs:∀x∈bs,x<256)(hlb:left<8*bs.length)
  (hst:st<2^log) (hle:aB ls log st≤left) (h:TS w B b bs left) :
  Calls prog 226 #[.pointer (some p),.pointer (some ⟨b,0,none⟩),.int .i64 (st:Int)] w fun e w'=>
   e=.returned (.tuple #[.int .u8 (bf ls log st:Int),.int .i64 ((aS ls log st+aV bs/2^(left-aB ls log st)%2^aB ls log st:Nat):Int),.bool true])∧TS w' B b bs (left-aB ls log st)∧w.grownBy w' (some b)∧w'.cell? ⟨b,0,none⟩=w.cell? ⟨b,0,none⟩:=by
 have aej:=uP ls log st hf hst;have h9:=hf.high;have hBb:B≤b:=by obtain⟨_,_,_,_,_,h3,_⟩:=h;exact h3
 have uF:=hid (qw w p ls log (st:Int) hf (bX _ _ _ _ _ ht hw));have hP:=fK log hf.low hf.high;have hba:=uO ls log st hf hst;have hv:=Nat.mod_lt (aV bs/2^(left-aB ls log st)) (Nat.two_pow_pos (aB ls log st));obtain⟨n1,n2⟩:=Jf ls log st _ hst hv;have uK:=hid (fun W (hW:TS W B b bs left)=>Ox B b left bs (aB ls log st) W (by omega) hbs (by omega) hle hlb hW);have Br:=hid (fun W v (hW:Below w0.heap.size w0 W)=>wS W p ls log (st:Int) v hf (bX _ _ _ _ _ ht hW));have hd:decide (0≤(st:Int)∧(st:Int)<((2^log:Nat):Int))=true:=decide_eq_true ⟨by omega,by omega⟩;rw[Ih ls log st hst,hd]at uF;have Hn1:=hid n1;have Hn2:=hid n2;have alh:aV bs/2^(left-aB ls log st)%2^aB ls log st≤512:=by
  have h2:2^aB ls log st≤512:=Nat.le_trans (Nat.le_trans (Nat.le_add_left _ _) hba) hP.2;omega
 have Hts:=hid h;have Hw:=hid hw;clear hd n1 n2 hv hba hf ht hst hlb hbs h hw;generalize aV bs/2^(left-aB ls log st)%2^aB ls log st=V at *;generalize bf ls log st=sy at *;generalize aS ls log st=z at *;generalize aB ls log st=k at *;go_enter func226,ntmps226
 go_wp2_with fail
 refine uF.out.mono ?_;rintro e w1 ⟨rfl,hb1⟩;have hw1:=hb1.alloc hb1.size (.cells #[.int .u8 (sy:Int),.int .i64 (k:Int),.int .i64 (z:Int)] 248);obtain⟨W2,hW2⟩:∃W2,W2=w1.alloc (.cells #[.int .u8 (sy:Int),.int .i64 (k:Int),.int .i64 (z:Int)] 248):=⟨_,rfl⟩;have hrow:Row W2 w1.heap.size 248 [.int .u8 (sy:Int),.int .i64 (k:Int),.int .i64 (z:Int)]:=by rw[hW2];exact Row.new w1 _ _
 rw[←hW2]at hw1;have hbl:b<w.heap.size:=by obtain⟨_,_,_,_,_,_,h4,_⟩:=Hts.out;exact h4
 have alL:b<w1.heap.size:=Nat.lt_of_lt_of_le hbl hb1.size;have Ht2:=hid (uK.out W2 (Hts.out.keep (aj hw1 none) (by simp)));have HW2:=hid hW2;have Hw1:=hid hw1;clear hb1 hW2 hw1 uK uF;go_wp2_with fail
 rw[←HW2.out];refine Ht2.out.mono ?_;rintro e W3 ⟨rfl,ajx,hg3,hk3⟩;have hbW2:b<W2.heap.size:=Nat.lt_of_lt_of_le hbl Hw1.out.size;have akN:b<W3.heap.size:=Nat.lt_of_lt_of_le hbW2 hg3.size;have Hk3:Hid (W3.cell? ⟨b,0,none⟩=w.cell? ⟨b,0,none⟩):=hid (hk3.trans (Hw1.out.cell (p:=⟨b,0,none⟩) hbl));clear hk3;have c0:W3.cell? ⟨w1.heap.size,0,none⟩=some (.int .u8 (sy:Int)):=by
  rw[World.cell?_of_block (hg3.block w1.heap.size hrow.lt (fun e=>by injection e with e;omega))];exact hrow.cell 0
 have hb3:Below w0.heap.size w0 W3:=(Hw.out.trans (Hw1.out.mono Hw.out.size)).grown hg3 (Nat.le_trans Hw.out.size Hw1.out.size) (fun k e=>by injection e with e;omega);have Hn3:=hid (Br.out W3 (V:Int) hb3);rw[Hn1.out,Hn2.out]at Hn3;have akt:=hid ajx;have Hg3:=hid ((aj Hw1.out (some b)).trans hg3);clear ajx hg3 hb3 hrow Ht2 Br Hn1 Hn2;go_wp2_with fail
 refine Hn3.out.mono ?_;rintro e W4 ⟨rfl,hb4⟩;have c1:W4.cell? ⟨w1.heap.size,0,none⟩=some (.int .u8 (sy:Int)):=(hb4.cell (p:=⟨w1.heap.size,0,none⟩) (by
  rcases Nat.lt_or_ge w1.heap.size W3.heap.size with h | h
  ·exact h
  ·unfold World.cell? at c0;rw[Array.getElem?_eq_none h]at c0;cases c0)).trans c0
 have agq:=hid (akt.out.keep (aj hb4 none) (by simp));have Hg4:=hid (Hg3.out.trans (aj hb4 (some b)));have Hk4:=hid ((hb4.cell (p:=⟨b,0,none⟩) akN).trans Hk3.out);clear hb4 c0;go_wp2;refine bodyPost_ret (v:=.tuple #[.int .u8 (sy:Int),.int .i64 ((z+V:Nat):Int),.bool true]) (by simp[results,results226,go_sem]) rfl ⟨rfl,agq.out,Hg4.out,Hk4.out⟩
theorem Pb(w0 w:World)(p:Addr)(ls:List Nat)(log B b left st:Nat)(bs:List Nat)(hf:bL ls log)(ht:qE w0 p ls log)(hw:Below w0.heap.size w0 w)
  (hst:st<2^log) (hle:left<aB ls log st) (h:TS w B b bs left) :
  Calls prog 226 #[.pointer (some p),.pointer (some ⟨b,0,none⟩),.int .i64 (st:Int)] w fun e w'=>
   (∃v:Nat,v≤512∧e=.returned (.tuple #[.int .u8 (bf ls log st:Int),.int .i64 (v:Int),.bool false]))∧TS w' B b bs left∧w.grownBy w' (some b):=by
 have aej:=uP ls log st hf hst;have h9:=hf.high;have uF:=hid (qw w p ls log (st:Int) hf (bX _ _ _ _ _ ht hw));have hP:=fK log hf.low hf.high;have hba:=uO ls log st hf hst;obtain⟨n1,n2⟩:=Jf ls log st 0 hst (Nat.two_pow_pos _);have uK:=hid (fun W (hW:TS W B b bs left)=>Ow B b left bs (aB ls log st) W (by omega) hle hW);have Br:=hid (fun W v (hW:Below w0.heap.size w0 W)=>wS W p ls log (st:Int) v hf (bX _ _ _ _ _ ht hW));have hd:decide (0≤(st:Int)∧(st:Int)<((2^log:Nat):Int))=true:=decide_eq_true ⟨by omega,by omega⟩;rw[Ih ls log st hst,hd]at uF;have Hn1:=hid n1;have Hn2:=hid n2;have hz:aS ls log st≤512:=Nat.le_trans (Nat.le_trans (Nat.le_add_right _ _) hba) hP.2;have Hts:=hid h;have Hw:=hid hw;clear hd n1 n2 hba hf ht hst h hw;generalize bf ls log st=sy at *;generalize aS ls log st=z at *;generalize aB ls log st=k at *;go_enter func226,ntmps226
 go_wp2_with fail
 refine uF.out.mono ?_;rintro e w1 ⟨rfl,hb1⟩;have hw1:=hb1.alloc hb1.size (.cells #[.int .u8 (sy:Int),.int .i64 (k:Int),.int .i64 (z:Int)] 248);obtain⟨W2,hW2⟩:∃W2,W2=w1.alloc (.cells #[.int .u8 (sy:Int),.int .i64 (k:Int),.int .i64 (z:Int)] 248):=⟨_,rfl⟩;have hrow:Row W2 w1.heap.size 248 [.int .u8 (sy:Int),.int .i64 (k:Int),.int .i64 (z:Int)]:=by rw[hW2];exact Row.new w1 _ _
 rw[←hW2]at hw1;have acP:=Hts.out.keep (aj hw1 none) (by simp);have Ht2:=hid (uK.out W2 acP);have afy:=hid acP;have HW2:=hid hW2;have Hw1:=hid hw1;have c0:=hrow.cell 0;have hrl:=hrow.lt;have Hn3:=hid (Br.out W2 ((0:Nat):Int) (Hw.out.trans (hw1.mono Hw.out.size)));rw[Hn1.out,Hn2.out]at Hn3;clear hb1 hW2 hw1 uK uF hrow acP Br Hn1 Hn2;go_wp2_with fail
 rw[←HW2.out];refine Ht2.out.mono ?_;rintro e W3 ⟨rfl,rfl⟩;go_wp2_with fail
 refine Hn3.out.mono ?_;rintro e W4 ⟨rfl,hb4⟩;have c1:W4.cell? ⟨w1.heap.size,0,none⟩=some (.int .u8 (sy:Int)):=(hb4.cell (p:=⟨w1.heap.size,0,none⟩) hrl).trans c0;have agq:=hid (afy.out.keep (aj hb4 none) (by simp));have Hg4:=hid ((aj Hw1.out (some b)).trans (aj hb4 (some b)));clear hb4 c0;go_wp2;refine bodyPost_ret (v:=.tuple #[.int .u8 (sy:Int),.int .i64 (z:Int),.bool false]) (by simp[results,results226,go_sem]) rfl ⟨⟨z,hz,rfl⟩,agq.out,Hg4.out⟩
theorem TS.far{w w':World}{B b left g cap:Nat}{bs:List Nat}{row:Option Nat}(h:TS w B b bs left)(hc:w.cell? ⟨b,0,none⟩=some (.slice (some ⟨g,0,none⟩) bs.length cap))(hg:w.grownBy w' row)(h1:row≠some b)(h2:row≠some g):TS w' B b bs left:=by
 obtain⟨g',cap',k0,k1,k2,k3,k4,k5,k6,k7,k8,k9,k10⟩:=h;rw[k0]at hc;simp only[Option.some.injEq,Value.slice.injEq,Addr.mk.injEq]at hc;obtain⟨⟨rfl,_⟩,_,rfl⟩:=hc;have hl:=hg.block b k4 (fun e=>h1 e.symm);have hl2:=hg.block g' k6 (fun e=>h2 e.symm);refine⟨g',cap',(World.cell?_of_block hl).trans k0,(World.cell?_of_block hl).trans k1,(World.frozen?_of_block hl).trans k2,k3,Nat.lt_of_lt_of_le k4 hg.size,k5,Nat.lt_of_lt_of_le k6 hg.size,k7,k8,k9,fun hne=>?_⟩;obtain⟨g2,off,e,hcs⟩:=k10 hne;injection e with e
 injection e with e1 e2
 subst e1 e2;exact⟨_,_,rfl,fun j hj=>(World.cell?_of_block (a:=⟨g',0+j,none⟩) hl2).trans (hcs j hj)⟩
theorem UQ(w:World)(p:Addr)(ls:List Nat)(log:Nat)(A:Option Addr)(m c:Nat)(n:Int)(hf:bL ls log)(ht:qE w p ls log)(hn:n<0∨1048576<n):Calls prog 211 #[.pointer (some p),.slice A m c,.int .i64 n] w fun e w'=>uE w' e none∧Below w.heap.size w w':=by
 have Hz:=hid (dY w p ls log ht);have hP:=fK log hf.low hf.high;clear ht hf;have Hdz:Hid ((((2^log:Nat):Int) == 0)=false):=hid (by rw[beq_eq_false_iff_ne];omega);clear hP;generalize 2^log=S at *;have dz:=Hdz.out;rcases hn with h | h
 ·go_enter func211,ntmps211
  go_wp2_with fail
  refine Hz.out.mono ?_;rintro e w' ⟨rfl,rfl⟩;go_wp2;go_ret2;exact⟨⟨_,_,rfl⟩,Below.refl _ _⟩
 ·go_enter func211,ntmps211
  go_wp2_with fail
  refine Hz.out.mono ?_;rintro e w' ⟨rfl,rfl⟩;go_wp2;go_ret2;exact⟨⟨_,_,rfl⟩,Below.refl _ _⟩
theorem OT(w:World)(p:Addr)(ls:List Nat)(log:Nat)(A:Option Addr)(m c n:Nat)(q:Option Addr)(okb:Bool)(hf:bL ls log)(ht:qE w p ls log)(hn:n≤1048576)
  (hopen:Calls prog 224 #[.slice A m c] w fun e w'=>e=.returned (.tuple #[.pointer q,.bool okb])∧Below w.heap.size w w'∧Calls prog 225 #[.pointer q,.int .i64 (log:Int)] w' fun e w2=>e=.returned (.tuple #[.int .u32 0,.bool false])∧w'=w2) :
  Calls prog 211 #[.pointer (some p),.slice A m c,.int .i64 (n:Int)] w fun e w'=>uE w' e none∧Below w.heap.size w w':=by
 obtain⟨i0,hi,hz0,hz1,hz2⟩:=info_parts iV;have Hz:=hid (dY w p ls log ht);have Yr:=hid (fun W (hb:Below w.heap.size w W)=>qy W p ls log (bX _ _ _ _ _ ht hb));have hP:=fK log hf.low hf.high;have h9:=hf.high;have Hop:=hid hopen;clear ht hf hopen;have Hdz:Hid ((((2^log:Nat):Int) == 0)=false):=hid (by rw[beq_eq_false_iff_ne];omega);clear hP;generalize 2^log=S at *;have dz:=Hdz.out;have dn0:decide ((n:Int)<0)=false:=decide_eq_false (by omega);have dn1:decide (1048576<(n:Int))=false:=decide_eq_false (by omega);go_enter func211,ntmps211
 go_wp2_with fail
 refine Hz.out.mono ?_;rintro e w' ⟨rfl,rfl⟩;go_wp2_with fail
 refine Hop.out.mono ?_;rintro e w1 ⟨rfl,hb1,hbt⟩;have Hb1:=hid hb1;have Hbt:=hid hbt;have Hl1:=hid (Yr.out w1 hb1);clear hb1 hbt Hop Yr;go_wp2_with fail
 refine Hl1.out.mono ?_;rintro e w' ⟨rfl,rfl⟩;go_wp2_with fail
 refine Hbt.out.mono ?_;rintro e w' ⟨rfl,rfl⟩;go_wp2_with (at_make;refine wpList_make_own _ rfl _ _ 87 rfl w.heap.size 5 i0 (.int .u8 0) 1 underlying87 hi hz0 hz1 .i64 .i64 _ n rfl rfl ?c1 ?c2 ?c3 ?c4 ?_)
 case c1=>rfl
 case c2=>rw[hz2];omega
 case c3=>unfold maxLen;omega
 case c4=>exact Hb1.out.size
 intro w5 hown hg5;have Hb5:=hid (Hb1.out.grown hg5 Hb1.out.size (by simp));clear hown hg5;go_wp2;go_loopw [11,12,13,14] (fun ok _ _ _ wr=>ok=.bool false∧Hid (Below w.heap.size w wr)) (fun _ _ _ _ _=>0)
 case atStart=>exact⟨rfl,Hb5⟩
 case round=>
  obtain⟨rfl,hb⟩:=hrel;go_wp2;go_ret2;exact⟨⟨_,_,rfl⟩,hb.out⟩
theorem UO(w:World)(p:Addr)(ls:List Nat)(log:Nat)(A:Option Addr)(m c n:Nat)(hf:bL ls log)(ht:qE w p ls log)(hn:n≤1048576)
  (hopen:Calls prog 224 #[.slice A m c] w fun e w'=>∃b:Nat,e=.returned (.tuple #[.pointer (some ⟨b,0,none⟩),.bool true])∧Below w.heap.size w w'∧Calls prog 225 #[.pointer (some ⟨b,0,none⟩),.int .i64 (log:Int)] w' fun e w2=>e=.returned (.tuple #[.int .u32 0,.bool false])∧w'=w2) :
  Calls prog 211 #[.pointer (some p),.slice A m c,.int .i64 (n:Int)] w fun e w'=>uE w' e none∧Below w.heap.size w w':=by
 obtain⟨i0,hi,hz0,hz1,hz2⟩:=info_parts iV;have Hz:=hid (dY w p ls log ht);have Yr:=hid (fun W (hb:Below w.heap.size w W)=>qy W p ls log (bX _ _ _ _ _ ht hb));have hP:=fK log hf.low hf.high;have h9:=hf.high;have Hop:=hid hopen;clear ht hf hopen;have Hdz:Hid ((((2^log:Nat):Int) == 0)=false):=hid (by rw[beq_eq_false_iff_ne];omega);clear hP;generalize 2^log=S at *;have dz:=Hdz.out;have dn0:decide ((n:Int)<0)=false:=decide_eq_false (by omega);have dn1:decide (1048576<(n:Int))=false:=decide_eq_false (by omega);go_enter func211,ntmps211
 go_wp2_with fail
 refine Hz.out.mono ?_;rintro e w' ⟨rfl,rfl⟩;go_wp2_with fail
 refine Hop.out.mono ?_;rintro e w1 ⟨b,rfl,hb1,hbt⟩;have Hb1:=hid hb1;have Hbt:=hid hbt;have Hl1:=hid (Yr.out w1 hb1);clear hb1 hbt Hop Yr;go_wp2_with fail
 refine Hl1.out.mono ?_;rintro e w' ⟨rfl,rfl⟩;go_wp2_with fail
 refine Hbt.out.mono ?_;rintro e w' ⟨rfl,rfl⟩;go_wp2_with (at_make;refine wpList_make_own _ rfl _ _ 87 rfl w.heap.size 5 i0 (.int .u8 0) 1 underlying87 hi hz0 hz1 .i64 .i64 _ n rfl rfl ?c1 ?c2 ?c3 ?c4 ?_)
 case c1=>rfl
 case c2=>rw[hz2];omega
 case c3=>unfold maxLen;omega
 case c4=>exact Hb1.out.size
 intro w5 hown hg5;have Hb5:=hid (Hb1.out.grown hg5 Hb1.out.size (by simp));clear hown hg5;go_wp2;go_loopw [11,12,13,14] (fun ok _ _ _ wr=>ok=.bool false∧Hid (Below w.heap.size w wr)) (fun _ _ _ _ _=>0)
 case atStart=>exact⟨rfl,Hb5⟩
 case round=>
  obtain⟨rfl,hb⟩:=hrel;go_wp2;go_ret2;exact⟨⟨_,_,rfl⟩,hb.out⟩
def lenOf:Value→Nat
 | .slice _ n _=>n
 | _=>0
theorem Jm{w w':World}{base b:Nat}{e:TypeId}{v:Value}{n:Nat}{xs:List Value}(h:w.ownsRow base e 1 v n xs)(hg:w.grownBy w' (some b))(hb:b<base):w'.ownsRow base e 1 v n xs:=
 h.kept hg (by
  cases hv:v.ownBlock with
  | none=>exact .inl rfl
  | some x=>exact .inr (fun e=>by injection e with e;have:=(h.lt x hv).1;omega))
theorem FL{w:World}{base:Nat}{e:TypeId}{v:Value}{n:Nat}{xs:List Value}(h:w.ownsRow base e 1 v n xs):lenOf v=n:=by
 rcases h.2 with⟨rfl,h0⟩ | ⟨g,cap,cur,rfl,_⟩
 ·exact h0.symm
 ·rfl
theorem OU(w:World)(p:Addr)(ls:List Nat)(log:Nat)(A:Option Addr)(c n M q:Nat)(bs:List Nat)(hf:bL ls log)(ht:qE w p ls log)(hn:n≤1048576)(hs:bs.length≤10000)(hbs:∀x∈bs,x<256)(hM:M<2^(q+log))(hval:aV bs=M+2^(q+log))(hL:q+log<8*bs.length)
  (hopen:Calls prog 224 #[.slice A bs.length c] w fun e w'=>∃b,e=.returned (.tuple #[.pointer (some ⟨b,0,none⟩),.bool true])∧TS w' w.heap.size b bs (q+log)∧Below w.heap.size w w') :
  Calls prog 211 #[.pointer (some p),.slice A bs.length c,.int .i64 (n:Int)] w fun e w'=>uE w' e (yw ls log n (M%2^q) q (M/2^q))∧Below w.heap.size w w':=by
 obtain⟨i0,hi,hz0,hz1,hz2⟩:=info_parts iV;obtain⟨r,hr⟩:∃r,r=yw ls log n (M%2^q) q (M/2^q):=⟨_,rfl⟩;rw[←hr];have Hz:=hid (dY w p ls log ht);have Yr:=hid (fun W (hb:Below w.heap.size w W)=>qy W p ls log (bX _ _ _ _ _ ht hb));have hP:=fK log hf.low hf.high;have h9:=hf.high;have hst:M/2^q<2^log:=by
  rw[Nat.pow_add,Nat.mul_comm]at hM;exact(Nat.div_lt_iff_lt_mul (Nat.pow_pos (by omega))).2 hM
 have Cy:aV bs/2^q%2^log=M/2^q:=by
  rw[hval,zf M (q+log) q log (Nat.le_refl _),Nat.mod_eq_of_lt hst]
 have uK:=hid (fun W b (h:TS W w.heap.size b bs (q+log))=>Ox w.heap.size b (q+log) bs log W (by omega) hbs (by omega) (by omega) hL h);rw[Nat.add_sub_cancel,Cy]at uK;have ajV:Hid (∀left k,k≤left→left≤q+log→M%2^left/2^(left-k)=aV bs/2^(left-k)%2^k∧M%2^left%2^(left-k)=M%2^(left-k)):=hid (fun left k h1 h2=>by
  obtain⟨e1,e2⟩:=abf M left k h1;rw[e1,e2,hval,zf M (q+log) (left-k) k (by omega)];exact⟨rfl,rfl⟩)
 have Hok:=hid (fun W b left st (hW:Below w.heap.size w W) (h1:left≤q+log) (h2:st<2^log) (h3:aB ls log st≤left) (h:TS W w.heap.size b bs left)=>Va w W p ls log w.heap.size b left st bs hf ht hW (Nat.le_refl _) hs hbs (by omega) h2 h3 h);have adl:=hid (fun W b left st (hW:Below w.heap.size w W) (h2:st<2^log) (h3:left<aB ls log st) (h:TS W w.heap.size b bs left)=>Pb w W p ls log w.heap.size b left st bs hf ht hW h2 h3 h);have Hf:=hid hf;have Hop:=hid hopen;have Hr:=hid hr;clear ht hf hopen hr Cy hval hM hbs;have Hdz:Hid ((((2^log:Nat):Int) == 0)=false):=hid (by rw[beq_eq_false_iff_ne];omega);obtain⟨S,hS⟩:∃S,S=2^log:=⟨_,rfl⟩;have HS:=hid hS;rw[←hS]at Hz Hdz Hok adl hP hst;clear hS;have dz:=Hdz.out;have dn0:decide ((n:Int)<0)=false:=decide_eq_false (by omega);have dn1:decide (1048576<(n:Int))=false:=decide_eq_false (by omega);go_enter func211,ntmps211
 go_wp2_with fail
 refine Hz.out.mono ?_;rintro e w' ⟨rfl,rfl⟩;go_wp2_with fail
 refine Hop.out.mono ?_;rintro e w1 ⟨b,rfl,hts,hb1⟩;have Hb1:=hid hb1;have Hts:=hid hts;have Hl1:=hid (Yr.out w1 hb1);have Ht1:=hid (uK.out w1 b hts);obtain⟨g,cap,k0,_,_,hwb,hbl,hwg,hgl,_⟩:=hts;have K0:=hid k0;clear hb1 k0 Hop Yr uK;go_wp2_with fail
 refine Hl1.out.mono ?_;rintro e w' ⟨rfl,rfl⟩;go_wp2_with fail
 refine Ht1.out.mono ?_;rintro e w2 ⟨rfl,acP,hg2,hk2⟩;have Hb2:=hid (Hb1.out.grown hg2 Hb1.out.size (fun x e=>by injection e with e;omega));have hs2:=hg2.size;have afy:=hid acP;have Hk2:=hid (hk2.trans K0.out);clear acP hg2 hk2 Ht1 Hl1 K0 Hts Hb1;generalize hF:M/2^q=F at *;have HF:=hid hF;clear hF;go_wp2_with (at_make;refine wpList_make_own _ rfl _ _ 87 rfl w2.heap.size 5 i0 (.int .u8 0) 1 underlying87 hi hz0 hz1 .i64 .i64 _ n rfl rfl ?c1 ?c2 ?c3 ?c4 ?_)
 case c1=>rfl
 case c2=>rw[hz2];omega
 case c3=>unfold maxLen;omega
 case c4=>exact Nat.le_refl _
 intro w5 hown hg5;have Hb5:=hid (Hb2.out.grown hg5 Hb2.out.size (by simp));have sZ:=hid hown;have aif:=hid (afy.out.keep hg5 (by simp));have Hk5:=hid ((World.cell?_of_block (a:=⟨b,0,none⟩) (hg5.block b (by omega) (by simp))).trans Hk2.out);have hs5:=hg5.size;clear hown hg5 Hb2 afy Hk2;go_wp2;clear dn0 dn1 dz Hdz Hz;go_loopw [11,12,13,14] (fun ok sv u _ wr=>∃(k left st:Nat) (acc:List Nat) (okb:Bool),ok=.bool okb∧sv=.int .i64 (st:Int)∧k≤n∧acc.length=k∧left≤q∧st≤512∧w5.heap.size≤wr.heap.size∧Hid (wr.ownsRow w2.heap.size 5 1 u k (u8s acc))∧Hid (Below w.heap.size w wr)∧Hid ((okb=true→st<S∧TS wr w.heap.size b bs left∧wr.cell? ⟨b,0,none⟩=some (.slice (some ⟨g,0,none⟩) bs.length cap)∧r=(yw ls log (n-k) (M%2^left) left st).map (acc++·))∧(okb=false→r=none))) (fun _ _ u _ _=>n-lenOf u)
 case atStart=>exact⟨0,q,F,[],true,rfl,rfl,by omega,rfl,Nat.le_refl _,by omega,Nat.le_refl _,sZ,Hb5,hid ⟨fun _=>⟨hst,aif.out,Hk5.out,by rw[Hr.out,Nat.sub_zero];cases yw ls log n (M%2^q) q F<;>rfl⟩,fun h=>by cases h⟩⟩
 case round=>
  obtain⟨k,left,st,acc,okb,rfl,rfl,hk,hacc,hleft,PU,hsz,hown,hbel,hrest⟩:=hrel;clear sZ Hb5 aif Hk5 Hr HF hst;obtain⟨A1,c1,rfl,hrd,hA1⟩:=dL hown.out;have Hlen:=hid (FL hown.out);have Hrd:=hid hrd;clear hrd hA1;cases okb with
  | false=>
   have hx:=hid (hrest.out.2 rfl);clear hrest hown;go_wp2;go_ret2;rw[hx.out];exact⟨⟨_,_,rfl⟩,hbel.out⟩
  | true=>
   obtain⟨hst,hts,hc0,hrr⟩:=hrest.out.1 rfl;have Hts:=hid hts;have Hc0:=hid hc0;have Hrr:=hid hrr;clear hts hc0 hrr hrest;by_cases hkn:k<n
   ·have xA:st<2^log:=by rw[←HS.out];exact hst
    have ajz:yw ls log (n-k) (M%2^left) left st=if left<aB ls log st then none else(yw ls log (n-(k+1)) (M%2^left%2^(left-aB ls log st)) (left-aB ls log st) (aS ls log st+M%2^left/2^(left-aB ls log st))).map fun l=>bf ls log st :: l:=by
     rw[show n-k=(n-(k+1))+1 by omega,yw]
    rw[ajz]at Hrr;clear ajz;have hba:=uO ls log st Hf.out xA;by_cases Bl:left<aB ls log st
    ·rw[if_pos Bl]at Hrr;have oO:=hid (adl.out wr b left st hbel.out hst Bl Hts.out);clear hba Bl xA;generalize bf ls log st=sy at *;go_wp2_with fail
     refine oO.out.mono ?_;rintro e W6 ⟨⟨v,hv,rfl⟩,_,hg6⟩;have hs6:=hg6.size;have El:=hid (Jm hown.out hg6 (by omega));have Bo:=hid (hbel.out.grown hg6 hbel.out.size (fun x e=>by injection e with e;omega));clear hg6 hown hbel oO;go_wp2_with (at_builtin;refine wpList_append_own _ rfl _ _ 87 rfl w2.heap.size 5 i0 (.int .u8 0) 1 1 underlying87 hi hz0 hz1 hz2 rfl (by decide) _ _ _ rfl (El.out.alloc _) ⟨W6.heap.size,0,none⟩ 1 1 [.int .u8 (sy:Int)] rfl rfl ?d1 ?d2 ?d3 ?d4 ?d5 ?_)
     case d1=>
      intro j u hj;match j,hj with
      | 0,hj=>simp at hj;subst hj;simp[Addr.add]
     case d2=>intro u hu;simp at hu;subst hu;rfl
     case d3=>unfold maxLen;omega
     case d4=>omega
     case d5=>simp;omega
     intro u' w7 bM gG _;have Cv:Below w.heap.size w w7:=(Bo.out.alloc Bo.out.size _).grown gG (by have:=Bo.out.size;simp;omega) (fun x e=>by have:=(El.out.lt x e).1;omega);have e:u8s acc++[Value.int .u8 (sy:Int)]=u8s (acc++[sy]):=by simp[u8s]
     rw[e]at bM;have hl7:=FL bM;have hs7:w5.heap.size≤w7.heap.size:=by have:=gG.size;simp at this;omega
     have nH:=hid bM;have Nu:=hid Cv;clear bM gG Cv e;go_wp2;go_roundw
     case rel=>exact⟨k+1,left,v,acc++[sy],false,rfl,rfl,by omega,by simp[hacc],hleft,by omega,hs7,nH,Nu,hid ⟨fun h=>(by cases h),fun _=>Hrr.out⟩⟩
     case measure=>rw[hl7];show n-(k+1)<n-k;omega
    ·rw[if_neg Bl]at Hrr;have hkl:aB ls log st≤left:=by omega
     obtain⟨g1,g2⟩:=ajV.out left _ hkl (by omega);rw[g1,g2]at Hrr;have hv:=Nat.mod_lt (aV bs/2^(left-aB ls log st)) (Nat.two_pow_pos (aB ls log st));have hnx:aS ls log st+aV bs/2^(left-aB ls log st)%2^aB ls log st<S:=by
      rw[HS.out];generalize 2^aB ls log st=P at *;omega
     have oO:=hid (Hok.out wr b left st hbel.out (by omega) hst hkl Hts.out);clear hba Bl xA g1 g2 hv;generalize bf ls log st=sy at *;generalize aS ls log st+aV bs/2^(left-aB ls log st)%2^aB ls log st=nx at *;generalize aB ls log st=kb at *;go_wp2_with fail
     refine oO.out.mono ?_;rintro e W6 ⟨rfl,ajy,hg6,hk6⟩;have hs6:=hg6.size;have aii:=hid ajy;have Hk6:=hid (hk6.trans Hc0.out);have El:=hid (Jm hown.out hg6 (by omega));have Bo:=hid (hbel.out.grown hg6 hbel.out.size (fun x e=>by injection e with e;omega));clear hg6 hown hbel oO ajy hk6 Hc0 Hts;go_wp2_with (at_builtin;refine wpList_append_own _ rfl _ _ 87 rfl w2.heap.size 5 i0 (.int .u8 0) 1 1 underlying87 hi hz0 hz1 hz2 rfl (by decide) _ _ _ rfl (El.out.alloc _) ⟨W6.heap.size,0,none⟩ 1 1 [.int .u8 (sy:Int)] rfl rfl ?d1 ?d2 ?d3 ?d4 ?d5 ?_)
     case d1=>
      intro j u hj;match j,hj with
      | 0,hj=>simp at hj;subst hj;simp[Addr.add]
     case d2=>intro u hu;simp at hu;subst hu;rfl
     case d3=>unfold maxLen;omega
     case d4=>omega
     case d5=>simp;omega
     intro u' w7 bM gG _;have Cv:Below w.heap.size w w7:=(Bo.out.alloc Bo.out.size _).grown gG (by have:=Bo.out.size;simp;omega) (fun x e=>by have:=(El.out.lt x e).1;omega);have e:u8s acc++[Value.int .u8 (sy:Int)]=u8s (acc++[sy]):=by simp[u8s]
     rw[e]at bM;have hl7:=FL bM;have hs7:w5.heap.size≤w7.heap.size:=by have:=gG.size;simp at this;omega
     have hgz:W6.grownBy (W6.alloc (.cells #[.int .u8 (sy:Int)] 5)) none:=aD (ak _ _) _;have afX:=hid ((World.cell?_of_block (a:=⟨b,0,none⟩) (hgz.block b (by omega) (by simp))).trans Hk6.out);have adH:=hid (aii.out.far Hk6.out hgz (by simp) (by simp));have hnb:∀x,x<w2.heap.size→(Value.slice A1 k c1).ownBlock≠some x:=fun x hx e=>by have:=(El.out.lt x e).1;omega
     have aku:=hid (adH.out.far afX.out gG (hnb b (by omega)) (hnb g (by omega)));have Hk7:=hid ((World.cell?_of_block (a:=⟨b,0,none⟩) (gG.block b (by simp;omega) (fun e=>hnb b (by omega) e.symm))).trans afX.out);have nH:=hid bM;have Nu:=hid Cv;clear bM gG Cv e hgz afX adH hnb aii Hk6 El Bo;go_wp2;go_roundw
     case rel=>
      refine⟨k+1,left-kb,nx,acc++[sy],true,rfl,rfl,by omega,by simp[hacc],by omega,by omega,hs7,nH,Nu,hid ⟨fun _=>⟨hnx,aku.out,Hk7.out,?_⟩,fun h=>(by cases h)⟩⟩;rw[Hrr.out];cases yw ls log (n-(k+1)) (M%2^(left-kb)) (left-kb) nx with
      | none=>rfl
      | some l=>simp
     case measure=>rw[hl7];show n-(k+1)<n-k;omega
   ·obtain rfl:k=n:=by omega
    rw[Nat.sub_self]at Hrr;have Nz:=hid (Oi w.heap.size b left bs wr Hts.out);clear Hts Hc0 Hok adl;by_cases hz:st=0∧left=0
    ·obtain⟨rfl,rfl⟩:=hz;have Hx:=hid (show r=some acc by rw[Hrr.out];simp[yw]);have Hl:=hid hacc;clear Hrr hacc hown;go_wp2_with fail
     refine Nz.out.mono ?_;rintro e w' ⟨rfl,rfl⟩;go_wp2;go_ret2;rw[Hx.out];exact⟨⟨A1,c1,by rw[Hl.out];rfl,Hrd.out⟩,hbel.out⟩
    ·have Hx:=hid (show r=none by rw[Hrr.out,yw,if_neg hz];rfl);clear Hrr hacc hown;by_cases hl0:0<left
     ·have d1:decide (0<left)=true:=decide_eq_true hl0;go_wp2_with fail
      refine Nz.out.mono ?_;rintro e w' ⟨rfl,rfl⟩;go_wp2;go_ret2;rw[Hx.out];exact⟨⟨_,_,rfl⟩,hbel.out⟩
     ·have hs0:0<st:=by omega
      obtain rfl:left=0:=by omega
      have d1:((st:Int) == 0)=false:=by rw[beq_eq_false_iff_ne];omega
      go_wp2_with fail
      refine Nz.out.mono ?_;rintro e w' ⟨rfl,rfl⟩;go_wp2;go_ret2;rw[Hx.out];exact⟨⟨_,_,rfl⟩,hbel.out⟩
theorem UN(w:World)(p:Addr)(ls:List Nat)(log:Nat)(A:Option Addr)(c:Nat)(bs:List Nat)(n:Int)(hf:bL ls log)(ht:qE w p ls log)(hs:bs.length≤10000)(hbs:∀x∈bs,x<256)(hr:Reads w A (u8s bs)) :
  Calls prog 211 #[.pointer (some p),.slice A bs.length c,.int .i64 n] w fun e w'=>uE w' e (zU ls log bs n)∧Below w.heap.size w w':=by
 by_cases hn:n<0∨1048576<n
 ·have hx:zU ls log bs n=none:=by
   unfold zU;cases qZ bs with
   | none=>rfl
   | some t=>rw[Option.bind_some];unfold acG;rw[if_neg (by omega)]
  rw[hx];exact UQ w p ls log A bs.length c n hf ht hn
 ·obtain⟨m,rfl⟩:=Int.eq_ofNat_of_zero_le (show 0≤n by omega);rcases QN A c bs w hs hbs hr with⟨ho,hc⟩ | ⟨M,L,ho,hM,hval,hL,hc⟩
  ·have hx:zU ls log bs (m:Int)=none:=by unfold zU;rw[ho];rfl
   rw[hx];exact OT w p ls log A bs.length c m none false hf ht (by omega) (hc.mono fun e w' ⟨he,hb⟩=>⟨he,hb,ZT w' _⟩)
  ·by_cases Bl:L<log
   ·have hx:zU ls log bs (m:Int)=none:=by
     unfold zU;rw[ho,Option.bind_some];unfold acG;rw[if_neg (by omega)]
    rw[hx];have h9:=hf.high;refine UO w p ls log A bs.length c m hf ht (by omega) (hc.mono fun e w' ⟨b,he,hts,hb⟩=>⟨b,he,hb,Ow w.heap.size b L bs log w' (by omega) Bl hts⟩)
   ·obtain⟨q,rfl⟩:∃q,L=q+log:=⟨L-log,by omega⟩;have hx:zU ls log bs (m:Int)=yw ls log m (M%2^q) q (M/2^q):=by
     unfold zU;rw[ho,Option.bind_some];unfold acG;rw[if_pos ⟨rfl,by omega,by omega,by omega⟩,Int.toNat_natCast,Nat.add_sub_cancel]
    rw[hx];exact OU w p ls log A c m M q bs hf ht (by omega) hs hbs hM hval hL hc
theorem Cx(x:Nat)(w:World)(hx:x<4294967296) :
  Calls prog 196 #[.int .i64 (x:Int)] w fun e w'=>e=.returned (.int .i64 (Bm.wid x:Int))∧w=w':=by
 have H:=hid (iC x w hx);have hcu:IntKind.u32.wrap (x:Int)=(x:Int):=by simp[IntKind.wrap,IntKind.bits,IntKind.signed];omega
 go_enter func196,ntmps196
 go_wp2_with fail
 refine H.out.mono ?_;rintro e w' ⟨rfl,rfl⟩;go_wp2;go_ret;exact⟨rfl,rfl⟩
theorem bF{w w1 w2:World}{row:Option Nat}(h:w.grownBy w1 row)(h2:w1.grownBy w2 row):w.grownBy w2 row:=
 ⟨h2.os.trans h.os,h2.tape.trans h.tape,h2.output.trans h.output,Nat.le_trans h.size h2.size,fun i hi hne=>(h2.block i (Nat.lt_of_lt_of_le hi h.size) hne).trans (h.block i hi hne)⟩
theorem CF(log:Nat)(h5:5≤log)(h9:log≤9):32≤2^log∧2^log≤512:=
 ⟨Nat.pow_le_pow_right (n:=2) (i:=5) (by omega) h5,Nat.pow_le_pow_right (n:=2) (j:=9) (by omega) h9⟩
theorem PO{w:World}{A:Option Addr}{l:List Nat}(h:Reads w A (aL l))(hne:0<l.length):∃g off,A=some ⟨g,off,none⟩∧∀j (hj:j<l.length),w.cell? ⟨g,off+j,none⟩=some (.int .i64 (l[j]:Int)):=by
 rw[←bJ]at h;obtain⟨g,off,e,hc⟩:=ni h (by simpa using hne);exact⟨g,off,e,fun j hj=>by have:=hc j (by simpa using hj);simpa using this⟩
namespace Bm
theorem Vq(l:List Nat):gD l 0=(0,0):=by cases l<;>simp[gD]
theorem Ya:wid 0=0:=by decide +kernel
theorem Vp(x:Nat)(l:List Nat)(R:Nat)(h:x≤R):gD (x :: l) R=(x+(gD l (R-x)).1*2^wid R,wid R+(gD l (R-x)).2):=by
 rw[gD];split
 ·next h0=>
  subst h0;obtain rfl:x=0:=by omega
  simp[Vq,Ya]
 ·rfl
theorem uq(M x m k H:Nat):M+(x+H*2^k)*2^m=M+x*2^m+H*2^(m+k):=by
 rw[Nat.add_mul,Nat.mul_assoc,←Nat.pow_add,Nat.add_comm k m,Nat.add_assoc]
end Bm
theorem KR(w:World)(b off N n:Nat)(A:Option Addr)(c:Nat)(ls:List Nat)(lg:Nat)(hn:n≤100000)(hws:WS w b off N n)(hr:Reads w A (aL ls))(hA:∀a,A=some a→a.block≠b)(hf:bL ls lg)
  (hfair:Calls prog 195 #[.slice A ls.length c,.int .i64 (lg:Int)] w fun e w'=>e=.returned (.bool true)∧Below w.heap.size w w') :
  Calls prog 164 #[.pointer (some ⟨b,off,none⟩),.slice A ls.length c,.int .i64 (lg:Int)] w fun e w'=>e=.returned (.bool true)∧WS w' b off (N+(jf ls lg).1*2^n) (n+(jf ls lg).2)∧w.grownBy w' (some b):=by
 have h5:=hf.low;have h9:=hf.high;have hP:=CF lg h5 h9;have Cz:=hf.len;have hsum:=hf.sum;have hcu:IntKind.u32.wrap ((lg:Int)-5)=((lg-5:Nat):Int):=by simp[IntKind.wrap,IntKind.bits,IntKind.signed];omega
 have hwr:wrap64 ((lg:Int)-5)=(lg:Int)-5:=je _ (by omega) (by omega);obtain⟨T,hT⟩:∃T,T=N+(jf ls lg).1*2^n:=⟨_,rfl⟩;obtain⟨C,hC⟩:∃C,C=n+(jf ls lg).2:=⟨_,rfl⟩;rw[←hT,←hC];unfold jf at hT hC;dsimp only at hT hC;obtain⟨S,hS⟩:∃S,S=2^lg:=⟨_,rfl⟩;rw[←hS]at hT hC hP hsum;have hpd:(2:Int)^lg=(S:Int):=by rw[hS];simp
 have hw64:wrap64 (S:Int)=(S:Int):=je _ (by omega) (by omega);have HT:=hid hT;have HC:=hid hC;have Hws:=hid hws;have Hr:=hid hr;have HA:=hid hA;have Nw:=hid hfair;have zF:Hid (∀(W:World) (N n v m:Nat),n≤1000000000→v<4294967296→m≤32→WS W b off N n→Calls prog 99 #[.pointer (some ⟨b,off,none⟩),.int .u32 (v:Int),.int .i64 (m:Int)] W fun e w'=>e=.returned (.bool true)∧WS w' b off (N+v%2^m*2^n) (n+m)∧W.grownBy w' (some b)):=hid (fun W N n v m h1 h2 h3 h4=>pW b off N n v m W h1 h2 h3 h4);clear hT hC hws hr hA hf hfair hS;go_enter func164,ntmps164
 go_wp2_with fail
 refine Nw.out.mono ?_;rintro e w1 ⟨rfl,hb1⟩;have Hg1:=hid (aj hb1 (some b));have aik:=hid (Hws.out.below hb1);have Hr1:=hid (aC Hr.out hb1);clear hb1 Hws Hr Nw;go_wp2_with fail
 refine(zF.out w1 N n (lg-5) 3 (by omega) (by omega) (by omega) aik.out).mono ?_;rintro e w2 ⟨rfl,ajG,hg2⟩;have Hg2:=hid (bF Hg1.out hg2);have akx:=hid ajG;have Hr2:Hid (∀W,w1.grownBy W (some b)→Reads W A (aL ls)):=hid (fun W hg hne=>by
  obtain⟨g,off,e,hc⟩:=Hr1.out hne;refine⟨g,off,e,fun j hj=>?_⟩;have h1:=hc j hj;rw[List.getElem?_eq_getElem hj]at h1 ⊢;exact(World.cell?_of_block (a:=⟨g,off+j,none⟩) (hg.block g (World.block_lt_of_cell? w1 _ h1) (fun e2=>HA.out _ e (by injection e2)))).trans h1)
 have ajZ:=hid hg2;clear ajG hg2 Hg1 aik Hr1 hcu hwr;go_wp2;clear hpd hw64;have agv:Hid (∀(x:Nat) (W:World),x<4294967296→Calls prog 196 #[.int .i64 (x:Int)] W fun e w'=>e=.returned (.int .i64 (Bm.wid x:Int))∧W=w'):=hid Cx;go_loopw [7,27] (fun q i wr=>∃k R M m:Nat,k≤ls.length∧i=.int .i64 (k:Int)∧q=.int .i64 (R:Int)∧R=(ls.drop k).sum∧R≤512∧m≤n+3+10*k∧Hid (WS wr b off M m)∧Hid (w1.grownBy wr (some b))∧Hid (w.grownBy wr (some b)) ∧
  Hid (T=M+(gD (ls.drop k) R).1*2^m∧C=m+(gD (ls.drop k) R).2)) (fun _ i _=>ls.length-(intOf i).toNat)
 case atStart=>
  refine⟨0,S,_,_,by omega,rfl,rfl,hsum.symm,by omega,by omega,akx,ajZ,Hg2,hid ⟨?_,?_⟩⟩
  ·rw[HT.out,List.drop_zero,Nat.mod_eq_of_lt (show lg-5<2^3 by omega)];exact Bm.uq N (lg-5) n 3 _
  ·rw[HC.out,List.drop_zero];omega
 case round=>
  obtain⟨k,R,M,m,hk,rfl,rfl,hR,hR5,hm,hws,hg1,hgw,htot⟩:=hrel;by_cases hkl:k<ls.length
  ·have hd:=List.drop_eq_getElem_cons hkl;rw[hd,List.sum_cons]at hR;obtain⟨g,og,rfl,hc⟩:=PO (Hr2.out _ hg1.out) (by omega);have c0:=hc k hkl;have Uk:=hid htot.out;rw[hd,Vp ls[k] (ls.drop (k+1)) R (by omega)]at Uk;have Hdr:Hid (R-ls[k]=(ls.drop (k+1)).sum):=hid (by omega);have hx:ls[k]≤R:=by omega
   clear hc htot hd hR;generalize ls[k]=x at *;have hwd:=qC R;have ajF:=dZ R 10 (by omega);have hcu:IntKind.u32.wrap (x:Int)=(x:Int):=by simp[IntKind.wrap,IntKind.bits,IntKind.signed];omega
   have Hp:=hid (zF.out _ M m x (Bm.wid R) (by omega) (by omega) (by omega) hws.out);rw[Nat.mod_eq_of_lt (show x<2^Bm.wid R by omega)]at Hp;have hrx:((R-x:Nat):Int)=(R:Int)-(x:Int):=by omega
   have hwq:wrap64 ((R:Int)-(x:Int))=(R:Int)-(x:Int):=je _ (by omega) (by omega);have Ht:Hid (T=M+x*2^m+(gD (ls.drop (k+1)) (R-x)).1*2^(m+Bm.wid R)∧C=m+Bm.wid R+(gD (ls.drop (k+1)) (R-x)).2):=hid ⟨by rw[Uk.out.1];exact Bm.uq _ _ _ _ _,by rw[Uk.out.2];dsimp only;omega⟩;clear Uk hwd;have Hw:=hid (agv.out R wr (by omega));generalize Bm.wid R=wd at *;go_wp2_with fail
   refine Hw.out.mono ?_;rintro e w' ⟨rfl,rfl⟩;go_wp2_with fail
   refine Hp.out.mono ?_;rintro e w3 ⟨rfl,YP,hg3⟩;have acD:=hid YP;have Hg3:=hid (bF hg1.out hg3);have akb:=hid (bF hgw.out hg3);clear YP hg3 hws hg1 hgw Hp;go_wp2;go_roundw
   case rel=>exact⟨k+1,R-x,_,_,by omega,by go_num,by rw[hrx],Hdr.out,by omega,by omega,acD,Hg3,akb,Ht⟩
   case measure=>simp[intOf];omega
  ·obtain rfl:k=ls.length:=by omega
   have Ht:=htot.out;rw[List.drop_length]at Ht;simp only[gD,Nat.zero_mul,Nat.add_zero]at Ht;obtain⟨rfl,rfl⟩:=Ht;go_wp2;go_ret;exact⟨rfl,hws.out,hgw.out⟩
theorem Pg{A:Option Addr}{c:Nat}{l:List Int}{log:Int}{w:World}(hl:l.length≤1000000)(hok:∀x∈l,bN x)(Ac:bN log)(hr:Reads w A (lI l))(hf:Bm.Fair l log) :
  Calls prog 195 #[.slice A l.length c,.int .i64 log] w fun e w'=>e=.returned (.bool true)∧Below w.heap.size w w':=by
 have h1:=vI A c l log w hl hok Ac hr;rw[show EN l log=true from decide_eq_true hf]at h1;exact h1
theorem Pv(w:World)(b off N n:Nat)(A:Option Addr)(c:Nat)(l:List Int)(log:Int)(hn:n≤100000)(hws:WS w b off N n)(hl:l.length≤1000000)(hok:∀x∈l,bN x)(Ac:bN log)(hr:Reads w A (lI l))(hA:∀a,A=some a→l≠[]→a.block≠b)(hf:Bm.Fair l log) :
  Calls prog 164 #[.pointer (some ⟨b,off,none⟩),.slice A l.length c,.int .i64 log] w fun e w'=>e=.returned (.bool true)∧WS w' b off (N+(jf (l.map Int.toNat) log.toNat).1*2^n) (n+(jf (l.map Int.toNat) log.toNat).2)∧w.grownBy w' (some b):=by
 have hfr:=Pg (c:=c) hl hok Ac hr hf;have hfn:=Pf l log hf;have hmap:=Iu l log hf;have hl9:(log.toNat:Int)=log:=by have:=hf.1;omega
 have hne:l≠[]:=by
  rintro rfl;have h1:=hfn.sum;have h2:=Nat.two_pow_pos log.toNat;simp at h1;omega
 have hls:aL (l.map Int.toNat)=lI l:=by rw[←bJ,hmap]
 have hlen:(l.map Int.toNat).length=l.length:=by simp
 rw[←hls]at hr;have h:=KR w b off N n A c (l.map Int.toNat) log.toNat hn hws hr (fun a e=>hA a e hne) hfn (by rw[hlen,hl9];exact hfr);rw[hlen,hl9]at h;exact h
theorem MX(c:Nat)(w:World)(hc:c<256):Calls prog 184 #[.int .u8 (c:Int)] w fun e w'=>e=.returned (.bool (decide (28≤c)))∧w=w':=by
 obtain⟨r,hr⟩:∃r,r=decide (28≤c):=⟨_,rfl⟩;have d1:decide (28≤c)=r:=hr.symm;have d2:decide ((28:Int)≤(c:Int))=r:=by rw[hr];exact decide_eq_decide.2 (by omega)
 rw[←hr];clear hr;go_enter func184,ntmps184
 go_wp2;go_ret;exact⟨rfl,rfl⟩
theorem OY:∀args w,(callFunc 184 args).run prog w=.ok (.enter 184 args) w:=enters_of func184 (by kernel_rfl) rfl
theorem MZ(A:Option Addr)(c:Nat)(l:List Nat)(w:World)(hl:l.length≤1000000)(hlt:∀x∈l,x<256)(hr:Reads w A (u8s l)) :
  Calls prog 212 #[.slice A l.length c,.func (.func 184) #[] #[]] w fun e w'=>(∃r:Int,e=.returned (.int .i64 r)∧decide (0≤r)=decide (¬∀x∈l,x<28))∧w=w':=by
 have Hl:=hid (fun a (h:a<256)=>MX a w h);have ec:=OY;have Hr:=hid hr;have Hlt:=hid hlt;obtain⟨n,hn⟩:∃n,n=l.length:=⟨_,rfl⟩;have Hn:=hid hn;rw[←hn]at hl ⊢;clear hr hlt hn;go_enter func212,ntmps212
 go_wp2;go_loopw [5,8] (fun _ i wr=>wr=w∧∃k:Nat,i=.int .i64 (k:Int)∧k≤n∧Hid (∀x∈l.take k,x<28)) (fun _ i _=>n-(intOf i).toNat)
 case atStart=>exact⟨rfl,0,rfl,Nat.zero_le _,hid (by simp)⟩
 case round=>
  obtain⟨rfl,k,rfl,hk,hall⟩:=hrel;by_cases hkl:k<n
  ·have hkl':k<l.length:=by rw[←Hn.out];exact hkl
   obtain⟨g,off,rfl,hc⟩:=fO Hr.out (by intro e;rw[e]at hkl';simp at hkl');have c1:=hc k hkl';have hx:=Hlt.out l[k] (List.getElem_mem hkl');have Hin:=hid (List.getElem_mem hkl');have Htk:Hid (l.take (k+1)=l.take k++[l[k]]):=hid (by rw[List.take_add_one,List.getElem?_eq_getElem hkl'];rfl);clear hc;generalize l[k]=x at *;have bB:=hid (Hl.out x hx);by_cases h28:28≤x
   ·rw[decide_eq_true h28]at bB;have dQ:Hid (decide (0≤(k:Int))=decide (¬∀y∈l,y<28)):=hid (by
     rw[decide_eq_true (by omega:(0:Int)≤(k:Int)),decide_eq_true];exact fun h=>by have:=h x Hin.out;omega)
    clear hall Hl h28 Htk Hr;go_wp2_with fail
    refine bB.out.mono ?_;rintro e w' ⟨rfl,rfl⟩;go_wp2;go_ret;exact⟨⟨_,rfl,dQ.out⟩,rfl⟩
   ·rw[decide_eq_false h28]at bB;have afP:Hid (∀y∈l.take (k+1),y<28):=hid (fun y hy=>by
     rw[Htk.out]at hy;rcases List.mem_append.1 hy with hy | hy
     ·exact hall.out y hy
     ·rw[List.mem_singleton.1 hy];omega)
    clear hall Hl h28 Htk Hr;go_wp2_with fail
    refine bB.out.mono ?_;rintro e w' ⟨rfl,rfl⟩;go_wp2;go_roundw
    case rel=>exact⟨trivial,k+1,by go_num,by omega,afP⟩
    case measure=>simp[intOf];omega
  ·have hkn:k=n:=by omega
   have dQ:Hid (decide (0≤(-1:Int))=decide (¬∀y∈l,y<28)):=hid (by
    have h:=hall.out;rw[hkn,Hn.out,List.take_length]at h;rw[decide_eq_false (by omega),decide_eq_false (fun hh=>hh h)])
   have dk:decide ((k:Int)<(n:Int))=false:=decide_eq_false (by omega);clear hall Hl hkn;go_wp2;go_ret;exact⟨⟨_,rfl,dQ.out⟩,rfl⟩
theorem Bf(A:Option Addr)(c:Nat)(l:List Nat)(w:World)(hl:l.length≤1000000)(hlt:∀x∈l,x<256)(hr:Reads w A (u8s l)) :
  Calls prog 183 #[.slice A l.length c,.func (.func 184) #[] #[]] w fun e w'=>e=.returned (.bool (decide (¬∀x∈l,x<28)))∧w=w':=by
 have Hi:=hid (MZ A c l w hl hlt hr);clear hlt hr;generalize decide (¬∀x∈l,x<28)=r at *;go_enter func183,ntmps183
 go_wp2_with fail
 refine Hi.out.mono ?_;rintro e w' ⟨⟨z,rfl,hz⟩,rfl⟩;clear Hi;go_wp2;go_ret;exact⟨rfl,rfl⟩
theorem LJ(A:Option Addr)(c:Nat)(l:List Nat)(w:World)(hl:l.length≤1000000)(hlt:∀x∈l,x<256)(hr:Reads w A (u8s l)) :
  Calls prog 147 #[.slice A l.length c] w fun e w'=>e=.returned (.bool (decide (∀x∈l,x<28)))∧w=w':=by
 have hi:=Bf A c l w hl hlt hr;have hd:decide (¬∀x∈l,x<28)=!decide (∀x∈l,x<28):=decide_not;rw[hd]at hi;have Hi:=hid hi;clear hlt hr hi hd;generalize decide (∀x∈l,x<28)=r at *;go_enter func147,ntmps147
 go_wp2_with fail
 refine Hi.out.mono ?_;rintro e w' ⟨rfl,rfl⟩;clear Hi;cases r <;>
 ·go_wp2;go_ret;exact⟨rfl,rfl⟩
theorem Ec(b pos:Nat)(bs:List Nat)(w:World)(hs:bs.length≤100000)(hbs:∀x∈bs,x<256)(hp:pos≤8*bs.length)(h:RS w b 0 bs pos) :
  Calls prog 151 #[.pointer (some ⟨b,0,none⟩)] w fun e w'=>e=.returned (.bool (decide (8*bs.length-pos<8∧aV bs/2^pos=0)))∧w.grownBy w' (some b):=by
 obtain⟨m,hm⟩:∃m,m=8*bs.length-pos:=⟨_,rfl⟩;have hle:Calls prog 188 #[.pointer (some ⟨b,0,none⟩)] w fun e w'=>e=.returned (.int .i64 (m:Int))∧∃k,w'=w.drewN k:=by rw[hm];exact uh b 0 bs pos w (by omega) hp h
 have Hle:=hid hle;rw[←hm];by_cases h8:m<8
 ·have ht:=fun k=>(jG b 0 bs pos m (w.drewN k) (by omega) hbs (by omega) (by omega) (h.drewN k)).mono fun e w' (hh:_∧_∧_)=>(⟨hh.1,bF (bg (ak w (some b)) k) hh.2.2⟩:_∧w.grownBy w' (some b))
  have hv:aV bs/2^pos%2^m=aV bs/2^pos:=by
   apply Nat.mod_eq_of_lt
   have h1:=kT bs hbs;rw[ru,show 8*bs.length=m+pos by omega,Nat.pow_add]at h1;exact(Nat.div_lt_iff_lt_mul (Nat.pow_pos (by omega))).2 h1
  rw[hv]at ht;have Ht:=hid ht;clear ht;generalize aV bs/2^pos=v at *;have d1:decide ((m:Int)<8)=true:=decide_eq_true (by omega);have d2:decide (m<8)=true:=decide_eq_true h8;obtain⟨r,hr⟩:∃r,r=decide (m<8∧v=0):=⟨_,rfl⟩;have d3:((v:Int) == 0)=r:=by
   rw[hr];by_cases hv0:v=0
   ·subst hv0;simp[h8]
   ·rw[decide_eq_false (fun hh=>hv0 hh.2),beq_eq_false_iff_ne];omega
  rw[←hr];clear hle hv h hbs hm hr h8;go_enter func151,ntmps151
  go_wp2_with fail
  refine Hle.out.mono ?_;rintro e w' ⟨rfl,k,rfl⟩;go_wp2_with fail
  refine(Ht.out k).mono ?_;rintro e w2 ⟨rfl,hg2⟩;have Hg2:=hid hg2;clear hg2 Ht Hle;go_wp2;go_ret;exact⟨rfl,Hg2.out⟩
 ·have ht:∀k,Calls prog 177 #[.pointer (some ⟨b,0,none⟩),.int .i64 (m:Int)] (w.drewN k) fun e w'=>(∃(v:Nat) (z:Bool),e=.returned (.tuple #[.int .u32 (v:Int),.bool z]))∧w.grownBy w' (some b):=fun k=>by
   by_cases h32:m≤32
   ·exact(jG b 0 bs pos m (w.drewN k) (by omega) hbs h32 (by omega) (h.drewN k)).mono fun e w' ⟨he,_,hg⟩=>⟨⟨_,_,he⟩,bF (bg (ak w (some b)) k) hg⟩
   ·exact(JN ⟨b,0,none⟩ (m:Int) (w.drewN k) (Or.inr (by omega))).mono fun e w' ⟨he,hw⟩=>⟨⟨0,false,he⟩,hw▸bg (ak w (some b)) k⟩
  have Ht:=hid ht;have d1:decide ((m:Int)<8)=false:=decide_eq_false (by omega);have d2:decide (m<8)=false:=decide_eq_false h8;have d3:decide (m<8∧aV bs/2^pos=0)=false:=decide_eq_false (fun hh=>h8 hh.1);rw[d3];clear hle ht h hbs hm h8 d3;go_enter func151,ntmps151
  go_wp2_with fail
  refine Hle.out.mono ?_;rintro e w' ⟨rfl,k,rfl⟩;go_wp2_with fail
  refine(Ht.out k).mono ?_;rintro e w2 ⟨⟨v,z,rfl⟩,hg2⟩;have Hg2:=hid hg2;clear hg2 Ht Hle;go_wp2;go_ret;exact⟨rfl,Hg2.out⟩
def YJ:Value→Nat
 | .slice _ n _=>n
 | _=>0
theorem PG{w w':World}{base b:Nat}{e:TypeId}{v:Value}{n:Nat}{xs:List Value}(h:w.ownsRow base e 1 v n xs)(hg:w.grownBy w' (some b))(hb:b<base):w'.ownsRow base e 1 v n xs:=
 h.kept hg (by
  cases hv:v.ownBlock with
  | none=>exact .inl rfl
  | some x=>exact .inr (fun e=>by injection e with e;have:=(h.lt x hv).1;omega))
theorem IC{w:World}{base:Nat}{e:TypeId}{v:Value}{n:Nat}{xs:List Value}(h:w.ownsRow base e 1 v n xs):YJ v=n:=by
 rcases h.2 with⟨rfl,h0⟩ | ⟨g,cap,cur,rfl,_⟩
 ·exact h0.symm
 ·rfl
def ZI(n0:Nat)(w':World)(e:Ending):Option (List Nat×Nat×Nat)→Prop
 | none=>∃A c,e=.returned (.tuple #[.slice A 0 c,.int .i64 0,.bool false])
 | some t=>∃A c,e=.returned (.tuple #[.slice A t.1.length c,.int .i64 (t.2.1:Int),.bool true])∧Reads w' A (aL t.1)∧∀a,A=some a→n0≤a.block
def agA(n0:Nat)(w':World)(e:Ending)(b off:Nat)(bs:List Nat):Option (List Nat×Nat)→Prop
 | none=>e=.returned (.tuple #[.slice none 0 0,.bool false])
 | some t=>∃A c,e=.returned (.tuple #[.slice A t.1.length c,.bool true])∧(Reads w' A (aL t.1)∧∀a,A=some a→n0≤a.block)∧RS w' b off bs (8*bs.length-t.2)
namespace Bm
theorem ME(f N len:Nat):takeN f 0 N len=some ([],len):=by cases f<;>simp[takeN]
theorem SY(f R N len:Nat)(h0:0<R)(h:len<wid R):takeN f R N len=none:=by
 cases f with
 | zero=>rw[takeN,if_neg (by omega)]
 | succ f=>rw[takeN,if_neg (by omega),if_pos h]
theorem Gy(f R N len:Nat)(h0:0<R)(h:R<N%2^wid R):takeN f R N len=none:=by
 cases f with
 | zero=>rw[takeN,if_neg (by omega)]
 | succ f=>rw[takeN,if_neg (by omega)];split<;>rfl
theorem MC(f R V p L:Nat)(h0:0<R)(hp:p+wid R≤L)(h:V/2^p%2^wid R≤R) :
  takeN (f+1) R (V/2^p) (L-p)=(takeN f (R-V/2^p%2^wid R) (V/2^(p+wid R)) (L-(p+wid R))).map fun t=>(V/2^p%2^wid R :: t.1,t.2):=by
 rw[takeN,if_neg (by omega),if_neg (by omega),if_neg (by omega),Nat.div_div_eq_div_mul,←Nat.pow_add,Nat.sub_sub]
end Bm
theorem KQ(w:World)(b off pos rest:Nat)(bs:List Nat)(hs:bs.length≤100000)(hbs:∀x∈bs,x<256)(hp:pos≤8*bs.length)(hrest:rest≤512)(hrs:RS w b off bs pos) :
  Calls prog 232 #[.pointer (some ⟨b,off,none⟩),.int .i64 (rest:Int)] w fun e w'=>agA w.heap.size w' e b off bs (Bm.takeN 256 rest (aV bs/2^pos) (8*bs.length-pos))∧w.grownBy w' (some b):=by
 obtain⟨i0,hi,hz0,hz1,hz2⟩:=info_parts gH;obtain⟨r,hr⟩:∃r,r=Bm.takeN 256 rest (aV bs/2^pos) (8*bs.length-pos):=⟨_,rfl⟩;rw[←hr];have Hr:=hid hr;have Hrs:=hid hrs;have hbl:b<w.heap.size:=hrs.2.2.2;have agv:Hid (∀(x:Nat) (W:World),x<4294967296→Calls prog 196 #[.int .i64 (x:Int)] W fun e w'=>e=.returned (.int .i64 (Bm.wid x:Int))∧W=w'):=hid Cx;have adl:Hid (∀W p m,p≤8*bs.length→m≤32→8*bs.length-p<m→RS W b off bs p→Calls prog 177 #[.pointer (some ⟨b,off,none⟩),.int .i64 (m:Int)] W fun e w'=>e=.returned (.tuple #[.int .u32 0,.bool false])∧∃k,w'=W.drewN k):=hid (fun W p m h1 h2 h3 h4=>qo b off bs p m W (by omega) h1 h2 h3 h4);have uK:Hid (∀W p m,m≤32→p+m≤8*bs.length→RS W b off bs p→Calls prog 177 #[.pointer (some ⟨b,off,none⟩),.int .i64 (m:Int)] W fun e w'=>e=.returned (.tuple #[.int .u32 ((aV bs/2^p%2^m:Nat):Int),.bool true])∧RS w' b off bs (p+m)∧W.grownBy w' (some b)):=hid (fun W p m h1 h2 h3=>jG b off bs p m W (by omega) hbs h1 h2 h3);clear hr hrs hbs;generalize aV bs=V at *;generalize hL:8*bs.length=L at *;have HL:=hid hL;clear hL;go_enter func232,ntmps232
 go_wp2;go_loopw [1,6] (fun q u wr=>∃(R p:Nat) (acc:List Nat),q=.int .i64 (R:Int)∧R≤512∧p≤L∧acc.length≤256∧w.heap.size≤wr.heap.size∧Hid (wr.ownsRow w.heap.size 3 1 u acc.length (aL acc))∧Hid (RS wr b off bs p)∧Hid (w.grownBy wr (some b)) ∧
  Hid (r=(Bm.takeN (256-acc.length) R (V/2^p) (L-p)).map fun t=>(acc++t.1,t.2))) (fun _ u _=>256-YJ u)
 case atStart=>
  refine⟨rest,pos,[],rfl,hrest,hp,by simp,Nat.le_refl _,hid (World.ownsRow_nil w _ _ _),Hrs,hid (ak _ _),hid ?_⟩;rw[Hr.out];cases Bm.takeN 256 rest (V/2^pos) (L-pos)<;>simp_all
 case round=>
  obtain⟨R,p,acc,rfl,hR,hpL,hacc,hsz,hown,hrs,hg,hres⟩:=hrel;clear Hr Hrs;obtain⟨A1,c1,rfl,hrd,hA1⟩:=dL hown.out;have Hrd:=hid hrd;have HA1:=hid (fun a e=>(hA1 a e).1);clear hA1;have hlen:=IC hown.out;have Hlen:=hid hlen;clear hrd hlen;by_cases hR0:R=0
  ·subst hR0;have Hx:=hid hres.out;rw[ME]at Hx;clear hres hown;go_wp2;go_ret2;rw[Hx.out];refine⟨⟨A1,c1,?_,?_,?_⟩,hg.out⟩
   ·simp
   ·exact⟨by simpa using Hrd.out,HA1.out⟩
   ·rw[HL.out,show L-(L-p)=p by omega];exact hrs.out
  ·have ajF:=dZ R 10 (by omega);have Hw:=hid (agv.out R wr (by omega));have d0:decide ((0:Int)<(R:Int))=true:=decide_eq_true (by omega);by_cases Bl:L-p<Bm.wid R
   ·have Hx:Hid (r=none):=hid (by rw[hres.out,SY _ _ _ _ (by omega) Bl];rfl);have Hf:=hid (adl.out wr p (Bm.wid R) hpL (by omega) Bl hrs.out);clear hres hown Bl hrs;generalize Bm.wid R=wd at *;go_wp2_with fail
    refine Hw.out.mono ?_;rintro e w' ⟨rfl,rfl⟩;go_wp2_with fail
    refine Hf.out.mono ?_;rintro e w' ⟨rfl,q,rfl⟩;go_wp2;go_ret2;rw[Hx.out];exact⟨rfl,bg hg.out q⟩
   ·have Ht:=hid (uK.out wr p (Bm.wid R) (by omega) (by omega) hrs.out);have hv:=Nat.mod_lt (V/2^p) (Nat.two_pow_pos (Bm.wid R));have alD:2^Bm.wid R≤2^10:=Nat.pow_le_pow_right (by omega) ajF;have akG:(2:Nat)^10=1024:=by decide
    by_cases aef:R<V/2^p%2^Bm.wid R
    ·have Hx:Hid (r=none):=hid (by rw[hres.out,Gy _ _ _ _ (by omega) aef];rfl);clear hres hown;generalize V/2^p%2^Bm.wid R=x at *;generalize Bm.wid R=wd at *;generalize 2^wd=P at *;have hci:IntKind.i64.wrap (x:Int)=(x:Int):=IntWalk.i64_in _ (by omega);have d1:decide ((R:Int)<(x:Int))=true:=decide_eq_true (by omega);go_wp2_with fail
     refine Hw.out.mono ?_;rintro e w' ⟨rfl,rfl⟩;go_wp2_with fail
     refine Ht.out.mono ?_;rintro e w3 ⟨rfl,Nh,hg3⟩;have Hg3:=hid (bF hg.out hg3);clear Nh hg3;go_wp2;go_ret2;rw[Hx.out];exact⟨rfl,Hg3.out⟩
    ·by_cases hfull:acc.length=256
     ·have Hx:Hid (r=none):=hid (by rw[hres.out,hfull,Bm.takeN,if_neg hR0];rfl);clear hres hown;generalize V/2^p%2^Bm.wid R=x at *;generalize Bm.wid R=wd at *;generalize 2^wd=P at *;have hci:IntKind.i64.wrap (x:Int)=(x:Int):=IntWalk.i64_in _ (by omega);have d1:decide ((R:Int)<(x:Int))=false:=decide_eq_false (by omega);rw[hfull]at *;go_wp2_with fail
      refine Hw.out.mono ?_;rintro e w' ⟨rfl,rfl⟩;go_wp2_with fail
      refine Ht.out.mono ?_;rintro e w3 ⟨rfl,Nh,hg3⟩;have Hg3:=hid (bF hg.out hg3);clear Nh hg3;go_wp2;go_ret2;rw[Hx.out];exact⟨rfl,Hg3.out⟩
     ·have dQ:=hid hres.out;rw[show 256-acc.length=(256-(acc.length+1))+1 by omega,MC _ _ _ _ _ (by omega) (by omega) (by omega)]at dQ;clear hres;generalize V/2^p%2^Bm.wid R=x at *;generalize Bm.wid R=wd at *;generalize 2^wd=P at *;generalize hn:acc.length=n at *;have Hn:=hid hn;clear hn;have hci:IntKind.i64.wrap (x:Int)=(x:Int):=IntWalk.i64_in _ (by omega);have d1:decide ((R:Int)<(x:Int))=false:=decide_eq_false (by omega);have d2:((n:Int) == 256)=false:=by rw[beq_eq_false_iff_ne];omega
      have hrx:((R-x:Nat):Int)=(R:Int)-(x:Int):=by omega
      have hwq:wrap64 ((R:Int)-(x:Int))=(R:Int)-(x:Int):=je _ (by omega) (by omega);go_wp2_with fail
      refine Hw.out.mono ?_;rintro e w' ⟨rfl,rfl⟩;go_wp2_with fail
      refine Ht.out.mono ?_;rintro e w3 ⟨rfl,Nh,hg3⟩;have Hg3:=hid (bF hg.out hg3);have Zx:=hid Nh;have kD:=hid (PG hown.out hg3 hbl);have hs3:=hg3.size;clear Nh hg3 hrs hg hown Ht;go_wp2_with (at_builtin;refine wpList_append_own _ rfl _ _ 112 rfl w.heap.size 3 i0 (.int .i64 0) 1 8 underlying112 hi hz0 hz1 hz2 rfl (by decide) _ _ _ rfl (kD.out.alloc _) ⟨w3.heap.size,0,none⟩ 1 1 [.int .i64 (x:Int)] rfl rfl ?d1 ?d2 ?d3 ?d4 ?d5 ?_)
      case d1=>
       intro j u hj;match j,hj with
       | 0,hj=>simp at hj;subst hj;simp[Addr.add]
      case d2=>intro u hu;simp at hu;subst hu;rfl
      case d3=>unfold maxLen;omega
      case d4=>omega
      case d5=>simp;omega
      intro u' w7 bM gG _;have hga:w3.grownBy (w3.alloc (.cells #[.int .i64 (x:Int)] 3)) (some b):=aD (ak _ _) _;have hnb:(Value.slice A1 n c1).ownBlock≠some b:=fun e=>by have:=(kD.out.lt b e).1;omega
      have agj:=hid (RS.keep (RS.keep Zx.out (aD (ak w3 none) (.cells #[.int .i64 (x:Int)] 3)) (by simp)) gG hnb);have Hg7:Hid (w.grownBy w7 (some b)):=hid (by
       have h1:=bF Hg3.out hga;refine⟨gG.os.trans h1.os,gG.tape.trans h1.tape,gG.output.trans h1.output,Nat.le_trans h1.size gG.size,fun i hi2 hne=>?_⟩;rw[←h1.block i hi2 hne];exact gG.block i (Nat.lt_of_lt_of_le hi2 h1.size) (fun e=>by have:=(kD.out.lt i e.symm).1;omega))
      have e:aL acc++[Value.int .i64 (x:Int)]=aL (acc++[x]):=by simp[aL]
      rw[e]at bM;have hl7:=IC bM;have hs7:w.heap.size≤w7.heap.size:=Hg7.out.size;have nH:=hid bM;have Hln:Hid ((acc++[x]).length=n+1):=hid (by rw[List.length_append,Hn.out];rfl);clear bM gG e hga hnb kD Hg3 Zx;go_wp2;go_roundw
      case rel=>
       refine⟨R-x,p+wd,acc++[x],by rw[hrx],by omega,by omega,by rw[Hln.out];omega,hs7,by rw[Hln.out];exact nH,agj,Hg7,hid ?_⟩;rw[dQ.out,Hln.out];cases Bm.takeN (256-(n+1)) (R-x) (V/2^(p+wd)) (L-(p+wd))with
       | none=>rfl
       | some t=>simp
      case measure=>rw[hl7];show 256-(n+1)<256-n;omega
theorem KS(w:World)(b off pos:Nat)(bs:List Nat)(hs:bs.length≤100000)(hbs:∀x∈bs,x<256)(hp:pos≤8*bs.length)(hrs:RS w b off bs pos) :
  Calls prog 223 #[.pointer (some ⟨b,off,none⟩)] w fun e w'=>ZI w.heap.size w' e (Bm.takeA (aV bs/2^pos) (8*bs.length-pos))∧w.grownBy w' (some b) ∧
   ∀t,Bm.takeA (aV bs/2^pos) (8*bs.length-pos)=some t→RS w' b off bs (8*bs.length-t.2.2):=by
 unfold Bm.takeA;by_cases Bl:8*bs.length-pos<3
 ·rw[if_pos Bl];have Hf:=hid (qo b off bs pos 3 w (by omega) hp (by omega) Bl hrs);clear hrs hbs;go_enter func223,ntmps223
  go_wp2_with fail
  refine Hf.out.mono ?_;rintro e w' ⟨rfl,q,rfl⟩;go_wp2;go_ret3
  exact⟨⟨_,_,rfl⟩,bg (ak _ _) q,fun t h=>by cases h⟩
 ·rw[if_neg Bl];have ht:=jG b off bs pos 3 w (by omega) hbs (by omega) (by omega) hrs;have hm:=Nat.mod_lt (aV bs/2^pos) (Nat.two_pow_pos 3);have h8:(2:Nat)^3=8:=by decide
  by_cases h4:4<aV bs/2^pos%2^3
  ·rw[if_pos h4];have Ht:=hid ht;clear ht hrs hbs;generalize aV bs/2^pos%2^3=x at *;have hci:IntKind.i64.wrap (x:Int)=(x:Int):=IntWalk.i64_in _ (by omega);have hw5:wrap64 (5+(x:Int))=5+(x:Int):=je _ (by omega) (by omega);have d1:decide ((9:Int)<5+(x:Int))=true:=decide_eq_true (by omega);go_enter func223,ntmps223
   go_wp2_with fail
   refine Ht.out.mono ?_;rintro e w' ⟨rfl,_,hg⟩;have Hg:=hid hg;clear hg;go_wp2;go_ret3
   exact⟨⟨_,_,rfl⟩,Hg.out,fun t h=>by cases h⟩
  ·rw[if_neg h4];have hP:=CF (5+aV bs/2^pos%2^3) (by omega) (by omega);have Ue:=hid (fun W (h:RS W b off bs (pos+3))=>KQ W b off (pos+3) (2^(5+aV bs/2^pos%2^3)) bs hs hbs (by omega) hP.2 h);rw[Nat.pow_add (m:=pos) (n:=3),←Nat.div_div_eq_div_mul,←Nat.sub_sub]at Ue;have Ht:=hid ht;clear ht hrs hbs;generalize hr:Bm.takeN 256 (2^(5+aV bs/2^pos%2^3)) (aV bs/2^pos/2^3) (8*bs.length-pos-3)=r at *;clear hr;generalize aV bs/2^pos%2^3=x at *;have hci:IntKind.i64.wrap (x:Int)=(x:Int):=IntWalk.i64_in _ (by omega);have hw5:wrap64 (5+(x:Int))=5+(x:Int):=je _ (by omega) (by omega);have d1:decide ((9:Int)<5+(x:Int))=false:=decide_eq_false (by omega);have d2:decide (5+(x:Int)<0)=false:=decide_eq_false (by omega);have htn:(5+(x:Int)).toNat=5+x:=by omega
   have hpd:(2:Int)^(5+x)=((2^(5+x):Nat):Int):=by simp
   have H5x:Hid (5+(x:Int)=((5+x:Nat):Int)):=hid (by omega);obtain⟨S,hS⟩:∃S,S=2^(5+x):=⟨_,rfl⟩;rw[←hS]at hP hpd Ue;have hw64:wrap64 (S:Int)=(S:Int):=je _ (by omega) (by omega);clear hS;go_enter func223,ntmps223
   go_wp2_with fail
   refine Ht.out.mono ?_;rintro e w1 ⟨rfl,ajk,hg1⟩;have Hn1:=hid (Ue.out w1 ajk);have Hg1:=hid hg1;have Hs1:=hid hg1.size;clear ajk hg1 Ue Ht;cases r with
   | none=>
    go_wp2_with fail
    refine Hn1.out.mono ?_;rintro e w2 ⟨rfl,hg2⟩;have Hg2:=hid (bF Hg1.out hg2);clear hg2;go_wp2;go_ret3
    exact⟨⟨_,_,rfl⟩,Hg2.out,fun t h=>by cases h⟩
   | some t=>
    go_wp2_with fail
    refine Hn1.out.mono ?_;rintro e w2 ⟨⟨A,c,rfl,hrd,Ng⟩,hg2⟩;have Hg2:=hid (bF Hg1.out hg2);have Hrd:=hid hrd;have Yv:=hid Ng;clear hg2 hrd Ng;go_wp2;go_ret3
    refine⟨⟨A,c,?_,Hrd.out.1,fun a e=>Nat.le_trans Hs1.out (Hrd.out.2 a e)⟩,Hg2.out,fun t h=>?_⟩
    ·rw[H5x.out];rfl
    ·injection h with h
     subst h;exact Yv.out
end Go.Proofs.YtgiicohbigiapaaGreat
