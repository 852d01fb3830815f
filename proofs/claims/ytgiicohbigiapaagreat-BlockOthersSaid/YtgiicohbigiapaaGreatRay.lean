/- Contracts, and what they rest on. Conditions: the theorems' premises. -/
import Derived.Test.YtgiicohbigiapaaGreatRav
import Derived.Test.YtgiicohbigiapaaGreatRax
set_option maxHeartbeats 4000000
set_option maxRecDepth 100000
open Go.Lib(hid)
open Go.Proofs.Tryz Go.Proofs.YtgiicohbigiapaaGreat.Bm
namespace Go.Proofs.YtgiicohbigiapaaGreat
open Go.RowKit
theorem Rt(A:Option Addr)(c:Nat)(bs:List Nat)(w:World)(hl:bs.length≤10000)(hb:∀x∈bs,x<256)(hr:Reads w A (u8s bs)) :
  (rM bs=none∧Calls prog 224 #[.slice A bs.length c] w fun e w'=>e=.returned (.tuple #[.pointer none,.bool false])∧Below w.heap.size w w') ∨
  ∃M L,rM bs=some (M,L)∧M<2^L∧aS bs=M+2^L∧L<8*bs.length∧Calls prog 224 #[.slice A bs.length c] w fun e w'=>∃b,e=.returned (.tuple #[.pointer (some ⟨b,0,none⟩),.bool true])∧TS w' w.heap.size b bs L∧Below w.heap.size w w':=by
 rcases List.eq_nil_or_concat bs with rfl | ⟨front,b,e⟩
 ·exact .inl ⟨by simp[rM],(Me A c w).mono fun e w' ⟨he,hw⟩=>⟨he,by subst hw;exact Below.refl _ _⟩⟩
 ·rw[List.concat_eq_append]at e;have hlen:bs.length=front.length+1:=by rw[e,List.length_append,List.length_singleton]
  have hlast:bs[front.length]'(by omega)=b:=by subst e;simp
  have hgl:bs.getLast?.getD 0=b:=by rw[e,List.getLast?_append,List.getLast?_singleton];rfl
  obtain⟨g,off,rfl,hc⟩:=fT hr (by intro h;rw[h]at hlen;simp at hlen);have hg:=Sm hr (by intro h;have:=congrArg List.length h;rw[aO,hlen,List.length_nil]at this;omega);rcases Nat.eq_zero_or_pos b with h0 | h0
  ·refine .inl ⟨by unfold rM;rw[if_pos (by rw[hgl,h0])],?_⟩;have h1:=hc front.length (by omega);rw[hlast,h0]at h1;rw[hlen];exact(Rw g off front.length c w (by omega) h1).mono fun e w' ⟨he,hw⟩=>⟨he,by subst hw;exact Below.refl _ _⟩
  ·have hb0:b≠0:=by omega
   have hb256:=hb b (by rw[e];simp);obtain⟨l1,l8,ht⟩:=Km front b (fun x hx=>hb x (by rw[e];exact List.mem_append_left _ hx)) hb256 hb0;rw[←e]at ht;have hlg:=Bw _ _ ht;have hopen:rM bs=some (aS bs%2^(aS bs).log2,(aS bs).log2):=by unfold rM;rw[if_neg (by rw[hgl];exact hb0)]
   obtain⟨k1,_,k3⟩:=DZ bs _ _ hb hopen;have hs:=ht.sum;rw[hlg]at hopen k1 k3;refine .inr ⟨_,_,hopen,k1,by omega,k3,?_⟩;rw[hlen];exact Rv g off front.length c bs b w (by omega) hb256 hb0 hlen hlast hr hg
theorem abM(M left k:Nat)(h:k≤left):M%2^left/2^(left-k)=M/2^(left-k)%2^k∧M%2^left%2^(left-k)=M%2^(left-k):=by
 have e:2^left=2^(left-k)*2^k:=by rw[←Nat.pow_add];congr 1;omega
 rw[e];exact⟨Nat.mod_mul_right_div_self _ _ _,Nat.mod_mul_right_mod _ _ _⟩
theorem Iy(ls:List Nat)(log st:Nat)(h:st<2^log):KN (tV ls log (st:Int))=.agg #[.int .u8 (bf ls log st:Int),.int .i64 (aB ls log st:Int),.int .i64 (aT ls log st:Int)]:=by
 unfold tV KN;rw[if_pos ⟨by omega,by omega⟩,Int.toNat_natCast]
theorem Ju(ls:List Nat)(log st v:Nat)(h:st<2^log)(hv:v<2^aB ls log st):AR ls log (st:Int) (v:Int)=true∧Dr ls log (st:Int) (v:Int)=((aT ls log st+v:Nat):Int):=by
 have h1:AR ls log (st:Int) (v:Int)=true:=by
  unfold AR;rw[Int.toNat_natCast];exact decide_eq_true ⟨by omega,by omega,by omega,by omega⟩
 refine⟨h1,?_⟩;unfold Dr;rw[h1,if_pos rfl,Int.toNat_natCast,Int.natCast_add]
theorem VG(w0 w:World)(p:Addr)(ls:List Nat)(log B b left st:Nat)(bs:List Nat)(hf:bL ls log)(ht:qM w0 p ls log)(hw:Below w0.heap.size w0 w)(hB:w0.heap.size≤B)(hs:bs.length≤10000)(hbs:∀x∈bs,x<256)(hlb:left<8*bs.length)
  (hst:st<2^log) (hle:aB ls log st≤left) (h:TS w B b bs left) :
  Calls prog 226 #[.pointer (some p),.pointer (some ⟨b,0,none⟩),.int .i64 (st:Int)] w fun e w'=>
   e=.returned (.tuple #[.int .u8 (bf ls log st:Int),.int .i64 ((aT ls log st+aS bs/2^(left-aB ls log st)%2^aB ls log st:Nat):Int),.bool true])∧TS w' B b bs (left-aB ls log st)∧w.grownBy w' (some b)∧w'.cell? ⟨b,0,none⟩=w.cell? ⟨b,0,none⟩:=by
 have aeP:=vg ls log st hf hst;have h9:=hf.high;have hBb:B≤b:=by obtain⟨_,_,_,_,_,h3,_⟩:=h;exact h3
 have uQ:=hid (qE w p ls log (st:Int) hf (bY _ _ _ _ _ ht hw));have hP:=fP log hf.low hf.high;have hba:=uZ ls log st hf hst;have hv:=Nat.mod_lt (aS bs/2^(left-aB ls log st)) (Nat.two_pow_pos (aB ls log st));obtain⟨n1,n2⟩:=Ju ls log st _ hst hv;have uV:=hid (fun W (hW:TS W B b bs left)=>OV B b left bs (aB ls log st) W (by omega) hbs (by omega) hle hlb hW);have xY:=hid (fun W v (hW:Below w0.heap.size w0 W)=>xE W p ls log (st:Int) v hf (bY _ _ _ _ _ ht hW));have hd:decide (0≤(st:Int)∧(st:Int)<((2^log:Nat):Int))=true:=decide_eq_true ⟨by omega,by omega⟩;rw[Iy ls log st hst,hd]at uQ;have Hn1:=hid n1;have Hn2:=hid n2;have alU:aS bs/2^(left-aB ls log st)%2^aB ls log st≤512:=by
  have h2:2^aB ls log st≤512:=Nat.le_trans (Nat.le_trans (Nat.le_add_left _ _) hba) hP.2;omega
 have Hts:=hid h;have Hw:=hid hw;clear hd n1 n2 hv hba hf ht hst hlb hbs h hw;generalize aS bs/2^(left-aB ls log st)%2^aB ls log st=V at *;generalize bf ls log st=sy at *;generalize aT ls log st=z at *;generalize aB ls log st=k at *;go_enter func226,ntmps226
 go_wp2_with fail
 refine uQ.out.mono ?_;rintro e w1 ⟨rfl,hb1⟩;have hw1:=hb1.alloc hb1.size (.cells #[.int .u8 (sy:Int),.int .i64 (k:Int),.int .i64 (z:Int)] 248);obtain⟨W2,hW2⟩:∃W2,W2=w1.alloc (.cells #[.int .u8 (sy:Int),.int .i64 (k:Int),.int .i64 (z:Int)] 248):=⟨_,rfl⟩;have hrow:Row W2 w1.heap.size 248 [.int .u8 (sy:Int),.int .i64 (k:Int),.int .i64 (z:Int)]:=by rw[hW2];exact Row.new w1 _ _
 rw[←hW2]at hw1;have hbl:b<w.heap.size:=by obtain⟨_,_,_,_,_,_,h4,_⟩:=Hts.out;exact h4
 have amw:b<w1.heap.size:=Nat.lt_of_lt_of_le hbl hb1.size;have Ht2:=hid (uV.out W2 (Hts.out.keep (ak hw1 none) (by simp)));have HW2:=hid hW2;have Hw1:=hid hw1;clear hb1 hW2 hw1 uV uQ;go_wp2_with fail
 rw[←HW2.out];refine Ht2.out.mono ?_;rintro e W3 ⟨rfl,akj,hg3,hk3⟩;have hbW2:b<W2.heap.size:=Nat.lt_of_lt_of_le hbl Hw1.out.size;have alB:b<W3.heap.size:=Nat.lt_of_lt_of_le hbW2 hg3.size;have Hk3:Hid (W3.cell? ⟨b,0,none⟩=w.cell? ⟨b,0,none⟩):=hid (hk3.trans (Hw1.out.cell (p:=⟨b,0,none⟩) hbl));clear hk3;have c0:W3.cell? ⟨w1.heap.size,0,none⟩=some (.int .u8 (sy:Int)):=by
  rw[World.cell?_of_block (hg3.block w1.heap.size hrow.lt (fun e=>by injection e with e;omega))];exact hrow.cell 0
 have hb3:Below w0.heap.size w0 W3:=(Hw.out.trans (Hw1.out.mono Hw.out.size)).grown hg3 (Nat.le_trans Hw.out.size Hw1.out.size) (fun k e=>by injection e with e;omega);have Hn3:=hid (xY.out W3 (V:Int) hb3);rw[Hn1.out,Hn2.out]at Hn3;have ale:=hid akj;have Hg3:=hid ((ak Hw1.out (some b)).trans hg3);clear akj hg3 hb3 hrow Ht2 xY Hn1 Hn2;go_wp2_with fail
 refine Hn3.out.mono ?_;rintro e W4 ⟨rfl,hb4⟩;have c1:W4.cell? ⟨w1.heap.size,0,none⟩=some (.int .u8 (sy:Int)):=(hb4.cell (p:=⟨w1.heap.size,0,none⟩) (by
  rcases Nat.lt_or_ge w1.heap.size W3.heap.size with h | h
  ·exact h
  ·unfold World.cell? at c0;rw[Array.getElem?_eq_none h]at c0;cases c0)).trans c0
 have aha:=hid (ale.out.keep (ak hb4 none) (by simp));have Hg4:=hid (Hg3.out.trans (ak hb4 (some b)));have Hk4:=hid ((hb4.cell (p:=⟨b,0,none⟩) alB).trans Hk3.out);clear hb4 c0;go_wp2;refine bodyPost_ret (v:=.tuple #[.int .u8 (sy:Int),.int .i64 ((z+V:Nat):Int),.bool true]) (by simp[results,results226,go_sem]) rfl ⟨rfl,aha.out,Hg4.out,Hk4.out⟩
theorem PG(w0 w:World)(p:Addr)(ls:List Nat)(log B b left st:Nat)(bs:List Nat)(hf:bL ls log)(ht:qM w0 p ls log)(hw:Below w0.heap.size w0 w)
  (hst:st<2^log) (hle:left<aB ls log st) (h:TS w B b bs left) :
  Calls prog 226 #[.pointer (some p),.pointer (some ⟨b,0,none⟩),.int .i64 (st:Int)] w fun e w'=>
   (∃v:Nat,v≤512∧e=.returned (.tuple #[.int .u8 (bf ls log st:Int),.int .i64 (v:Int),.bool false]))∧TS w' B b bs left∧w.grownBy w' (some b):=by
 have aeP:=vg ls log st hf hst;have h9:=hf.high;have uQ:=hid (qE w p ls log (st:Int) hf (bY _ _ _ _ _ ht hw));have hP:=fP log hf.low hf.high;have hba:=uZ ls log st hf hst;obtain⟨n1,n2⟩:=Ju ls log st 0 hst (Nat.two_pow_pos _);have uV:=hid (fun W (hW:TS W B b bs left)=>OU B b left bs (aB ls log st) W (by omega) hle hW);have xY:=hid (fun W v (hW:Below w0.heap.size w0 W)=>xE W p ls log (st:Int) v hf (bY _ _ _ _ _ ht hW));have hd:decide (0≤(st:Int)∧(st:Int)<((2^log:Nat):Int))=true:=decide_eq_true ⟨by omega,by omega⟩;rw[Iy ls log st hst,hd]at uQ;have Hn1:=hid n1;have Hn2:=hid n2;have hz:aT ls log st≤512:=Nat.le_trans (Nat.le_trans (Nat.le_add_right _ _) hba) hP.2;have Hts:=hid h;have Hw:=hid hw;clear hd n1 n2 hba hf ht hst h hw;generalize bf ls log st=sy at *;generalize aT ls log st=z at *;generalize aB ls log st=k at *;go_enter func226,ntmps226
 go_wp2_with fail
 refine uQ.out.mono ?_;rintro e w1 ⟨rfl,hb1⟩;have hw1:=hb1.alloc hb1.size (.cells #[.int .u8 (sy:Int),.int .i64 (k:Int),.int .i64 (z:Int)] 248);obtain⟨W2,hW2⟩:∃W2,W2=w1.alloc (.cells #[.int .u8 (sy:Int),.int .i64 (k:Int),.int .i64 (z:Int)] 248):=⟨_,rfl⟩;have hrow:Row W2 w1.heap.size 248 [.int .u8 (sy:Int),.int .i64 (k:Int),.int .i64 (z:Int)]:=by rw[hW2];exact Row.new w1 _ _
 rw[←hW2]at hw1;have adz:=Hts.out.keep (ak hw1 none) (by simp);have Ht2:=hid (uV.out W2 adz);have agh:=hid adz;have HW2:=hid hW2;have Hw1:=hid hw1;have c0:=hrow.cell 0;have hrl:=hrow.lt;have Hn3:=hid (xY.out W2 ((0:Nat):Int) (Hw.out.trans (hw1.mono Hw.out.size)));rw[Hn1.out,Hn2.out]at Hn3;clear hb1 hW2 hw1 uV uQ hrow adz xY Hn1 Hn2;go_wp2_with fail
 rw[←HW2.out];refine Ht2.out.mono ?_;rintro e W3 ⟨rfl,rfl⟩;go_wp2_with fail
 refine Hn3.out.mono ?_;rintro e W4 ⟨rfl,hb4⟩;have c1:W4.cell? ⟨w1.heap.size,0,none⟩=some (.int .u8 (sy:Int)):=(hb4.cell (p:=⟨w1.heap.size,0,none⟩) hrl).trans c0;have aha:=hid (agh.out.keep (ak hb4 none) (by simp));have Hg4:=hid ((ak Hw1.out (some b)).trans (ak hb4 (some b)));clear hb4 c0;go_wp2;refine bodyPost_ret (v:=.tuple #[.int .u8 (sy:Int),.int .i64 (z:Int),.bool false]) (by simp[results,results226,go_sem]) rfl ⟨⟨z,hz,rfl⟩,aha.out,Hg4.out⟩
theorem TS.far{w w':World}{B b left g cap:Nat}{bs:List Nat}{row:Option Nat}(h:TS w B b bs left)(hc:w.cell? ⟨b,0,none⟩=some (.slice (some ⟨g,0,none⟩) bs.length cap))(hg:w.grownBy w' row)(h1:row≠some b)(h2:row≠some g):TS w' B b bs left:=by
 obtain⟨g',cap',k0,k1,k2,k3,k4,k5,k6,k7,k8,k9,k10⟩:=h;rw[k0]at hc;simp only[Option.some.injEq,Value.slice.injEq,Addr.mk.injEq]at hc;obtain⟨⟨rfl,_⟩,_,rfl⟩:=hc;have hl:=hg.block b k4 (fun e=>h1 e.symm);have hl2:=hg.block g' k6 (fun e=>h2 e.symm);refine⟨g',cap',(World.cell?_of_block hl).trans k0,(World.cell?_of_block hl).trans k1,(World.frozen?_of_block hl).trans k2,k3,Nat.lt_of_lt_of_le k4 hg.size,k5,Nat.lt_of_lt_of_le k6 hg.size,k7,k8,k9,fun hne=>?_⟩;obtain⟨g2,off,e,hcs⟩:=k10 hne;injection e with e
 injection e with e1 e2
 subst e1 e2;exact⟨_,_,rfl,fun j hj=>(World.cell?_of_block (a:=⟨g',0+j,none⟩) hl2).trans (hcs j hj)⟩
theorem Vz(w:World)(p:Addr)(ls:List Nat)(log:Nat)(A:Option Addr)(m c:Nat)(n:Int)(hf:bL ls log)(ht:qM w p ls log)(hn:n<0∨1048576<n):Calls prog 211 #[.pointer (some p),.slice A m c,.int .i64 n] w fun e w'=>uP w' e none∧Below w.heap.size w w':=by
 have Hz:=hid (eu w p ls log ht);have hP:=fP log hf.low hf.high;clear ht hf;have Hdz:Hid ((((2^log:Nat):Int) == 0)=false):=hid (by rw[beq_eq_false_iff_ne];omega);clear hP;generalize 2^log=S at *;have dz:=Hdz.out;rcases hn with h | h
 ·go_enter func211,ntmps211
  go_wp2_with fail
  refine Hz.out.mono ?_;rintro e w' ⟨rfl,rfl⟩;go_wp2;go_ret2;exact⟨⟨_,_,rfl⟩,Below.refl _ _⟩
 ·go_enter func211,ntmps211
  go_wp2_with fail
  refine Hz.out.mono ?_;rintro e w' ⟨rfl,rfl⟩;go_wp2;go_ret2;exact⟨⟨_,_,rfl⟩,Below.refl _ _⟩
theorem Pv(w:World)(p:Addr)(ls:List Nat)(log:Nat)(A:Option Addr)(m c n:Nat)(q:Option Addr)(okb:Bool)(hf:bL ls log)(ht:qM w p ls log)(hn:n≤1048576)
  (hopen:Calls prog 224 #[.slice A m c] w fun e w'=>e=.returned (.tuple #[.pointer q,.bool okb])∧Below w.heap.size w w'∧Calls prog 225 #[.pointer q,.int .i64 (log:Int)] w' fun e w2=>e=.returned (.tuple #[.int .u32 0,.bool false])∧w'=w2) :
  Calls prog 211 #[.pointer (some p),.slice A m c,.int .i64 (n:Int)] w fun e w'=>uP w' e none∧Below w.heap.size w w':=by
 obtain⟨i0,hi,hz0,hz1,hz2⟩:=info_parts jc;have Hz:=hid (eu w p ls log ht);have YT:=hid (fun W (hb:Below w.heap.size w W)=>qG W p ls log (bY _ _ _ _ _ ht hb));have hP:=fP log hf.low hf.high;have h9:=hf.high;have Hop:=hid hopen;clear ht hf hopen;have Hdz:Hid ((((2^log:Nat):Int) == 0)=false):=hid (by rw[beq_eq_false_iff_ne];omega);clear hP;generalize 2^log=S at *;have dz:=Hdz.out;have dn0:decide ((n:Int)<0)=false:=decide_eq_false (by omega);have dn1:decide (1048576<(n:Int))=false:=decide_eq_false (by omega);go_enter func211,ntmps211
 go_wp2_with fail
 refine Hz.out.mono ?_;rintro e w' ⟨rfl,rfl⟩;go_wp2_with fail
 refine Hop.out.mono ?_;rintro e w1 ⟨rfl,hb1,hbt⟩;have Hb1:=hid hb1;have Hbt:=hid hbt;have Hl1:=hid (YT.out w1 hb1);clear hb1 hbt Hop YT;go_wp2_with fail
 refine Hl1.out.mono ?_;rintro e w' ⟨rfl,rfl⟩;go_wp2_with fail
 refine Hbt.out.mono ?_;rintro e w' ⟨rfl,rfl⟩;go_wp2_with (at_make;refine wpList_make_own _ rfl _ _ 87 rfl w.heap.size 5 i0 (.int .u8 0) 1 underlying87 hi hz0 hz1 .i64 .i64 _ n rfl rfl ?c1 ?c2 ?c3 ?c4 ?_)
 case c1=>rfl
 case c2=>rw[hz2];omega
 case c3=>unfold maxLen;omega
 case c4=>exact Hb1.out.size
 intro w5 hown hg5;have Hb5:=hid (Hb1.out.grown hg5 Hb1.out.size (by simp));clear hown hg5;go_wp2;go_loopw [11,12,13,14] (fun ok _ _ _ wr=>ok=.bool false∧Hid (Below w.heap.size w wr)) (fun _ _ _ _ _=>0)
 case atStart=>exact⟨rfl,Hb5⟩
 case round=>
  obtain⟨rfl,hb⟩:=hrel;go_wp2;go_ret2;exact⟨⟨_,_,rfl⟩,hb.out⟩
theorem Vy(w:World)(p:Addr)(ls:List Nat)(log:Nat)(A:Option Addr)(m c n:Nat)(hf:bL ls log)(ht:qM w p ls log)(hn:n≤1048576)
  (hopen:Calls prog 224 #[.slice A m c] w fun e w'=>∃b:Nat,e=.returned (.tuple #[.pointer (some ⟨b,0,none⟩),.bool true])∧Below w.heap.size w w'∧Calls prog 225 #[.pointer (some ⟨b,0,none⟩),.int .i64 (log:Int)] w' fun e w2=>e=.returned (.tuple #[.int .u32 0,.bool false])∧w'=w2) :
  Calls prog 211 #[.pointer (some p),.slice A m c,.int .i64 (n:Int)] w fun e w'=>uP w' e none∧Below w.heap.size w w':=by
 obtain⟨i0,hi,hz0,hz1,hz2⟩:=info_parts jc;have Hz:=hid (eu w p ls log ht);have YT:=hid (fun W (hb:Below w.heap.size w W)=>qG W p ls log (bY _ _ _ _ _ ht hb));have hP:=fP log hf.low hf.high;have h9:=hf.high;have Hop:=hid hopen;clear ht hf hopen;have Hdz:Hid ((((2^log:Nat):Int) == 0)=false):=hid (by rw[beq_eq_false_iff_ne];omega);clear hP;generalize 2^log=S at *;have dz:=Hdz.out;have dn0:decide ((n:Int)<0)=false:=decide_eq_false (by omega);have dn1:decide (1048576<(n:Int))=false:=decide_eq_false (by omega);go_enter func211,ntmps211
 go_wp2_with fail
 refine Hz.out.mono ?_;rintro e w' ⟨rfl,rfl⟩;go_wp2_with fail
 refine Hop.out.mono ?_;rintro e w1 ⟨b,rfl,hb1,hbt⟩;have Hb1:=hid hb1;have Hbt:=hid hbt;have Hl1:=hid (YT.out w1 hb1);clear hb1 hbt Hop YT;go_wp2_with fail
 refine Hl1.out.mono ?_;rintro e w' ⟨rfl,rfl⟩;go_wp2_with fail
 refine Hbt.out.mono ?_;rintro e w' ⟨rfl,rfl⟩;go_wp2_with (at_make;refine wpList_make_own _ rfl _ _ 87 rfl w.heap.size 5 i0 (.int .u8 0) 1 underlying87 hi hz0 hz1 .i64 .i64 _ n rfl rfl ?c1 ?c2 ?c3 ?c4 ?_)
 case c1=>rfl
 case c2=>rw[hz2];omega
 case c3=>unfold maxLen;omega
 case c4=>exact Hb1.out.size
 intro w5 hown hg5;have Hb5:=hid (Hb1.out.grown hg5 Hb1.out.size (by simp));clear hown hg5;go_wp2;go_loopw [11,12,13,14] (fun ok _ _ _ wr=>ok=.bool false∧Hid (Below w.heap.size w wr)) (fun _ _ _ _ _=>0)
 case atStart=>exact⟨rfl,Hb5⟩
 case round=>
  obtain⟨rfl,hb⟩:=hrel;go_wp2;go_ret2;exact⟨⟨_,_,rfl⟩,hb.out⟩
def lenOf:Value→Nat
 | .slice _ n _=>n
 | _=>0
theorem JC{w w':World}{base b:Nat}{e:TypeId}{v:Value}{n:Nat}{xs:List Value}(h:w.ownsRow base e 1 v n xs)(hg:w.grownBy w' (some b))(hb:b<base):w'.ownsRow base e 1 v n xs:=
 h.kept hg (by
  cases hv:v.ownBlock with
  | none=>exact .inl rfl
  | some x=>exact .inr (fun e=>by injection e with e;have:=(h.lt x hv).1;omega))
theorem Gb{w:World}{base:Nat}{e:TypeId}{v:Value}{n:Nat}{xs:List Value}(h:w.ownsRow base e 1 v n xs):lenOf v=n:=by
 rcases h.2 with⟨rfl,h0⟩ | ⟨g,cap,cur,rfl,_⟩
 ·exact h0.symm
 ·rfl
theorem Pw(w:World)(p:Addr)(ls:List Nat)(log:Nat)(A:Option Addr)(c n M q:Nat)(bs:List Nat)(hf:bL ls log)(ht:qM w p ls log)(hn:n≤1048576)(hs:bs.length≤10000)(hbs:∀x∈bs,x<256)(hM:M<2^(q+log))(hval:aS bs=M+2^(q+log))(hL:q+log<8*bs.length)
  (hopen:Calls prog 224 #[.slice A bs.length c] w fun e w'=>∃b,e=.returned (.tuple #[.pointer (some ⟨b,0,none⟩),.bool true])∧TS w' w.heap.size b bs (q+log)∧Below w.heap.size w w') :
  Calls prog 211 #[.pointer (some p),.slice A bs.length c,.int .i64 (n:Int)] w fun e w'=>uP w' e (yN ls log n (M%2^q) q (M/2^q))∧Below w.heap.size w w':=by
 obtain⟨i0,hi,hz0,hz1,hz2⟩:=info_parts jc;obtain⟨r,hr⟩:∃r,r=yN ls log n (M%2^q) q (M/2^q):=⟨_,rfl⟩;rw[←hr];have Hz:=hid (eu w p ls log ht);have YT:=hid (fun W (hb:Below w.heap.size w W)=>qG W p ls log (bY _ _ _ _ _ ht hb));have hP:=fP log hf.low hf.high;have h9:=hf.high;have hst:M/2^q<2^log:=by
  rw[Nat.pow_add,Nat.mul_comm]at hM;exact(Nat.div_lt_iff_lt_mul (Nat.pow_pos (by omega))).2 hM
 have CZ:aS bs/2^q%2^log=M/2^q:=by
  rw[hval,zC M (q+log) q log (Nat.le_refl _),Nat.mod_eq_of_lt hst]
 have uV:=hid (fun W b (h:TS W w.heap.size b bs (q+log))=>OV w.heap.size b (q+log) bs log W (by omega) hbs (by omega) (by omega) hL h);rw[Nat.add_sub_cancel,CZ]at uV;have akH:Hid (∀left k,k≤left→left≤q+log→M%2^left/2^(left-k)=aS bs/2^(left-k)%2^k∧M%2^left%2^(left-k)=M%2^(left-k)):=hid (fun left k h1 h2=>by
  obtain⟨e1,e2⟩:=abM M left k h1;rw[e1,e2,hval,zC M (q+log) (left-k) k (by omega)];exact⟨rfl,rfl⟩)
 have Hok:=hid (fun W b left st (hW:Below w.heap.size w W) (h1:left≤q+log) (h2:st<2^log) (h3:aB ls log st≤left) (h:TS W w.heap.size b bs left)=>VG w W p ls log w.heap.size b left st bs hf ht hW (Nat.le_refl _) hs hbs (by omega) h2 h3 h);have adS:=hid (fun W b left st (hW:Below w.heap.size w W) (h2:st<2^log) (h3:left<aB ls log st) (h:TS W w.heap.size b bs left)=>PG w W p ls log w.heap.size b left st bs hf ht hW h2 h3 h);have Hf:=hid hf;have Hop:=hid hopen;have Hr:=hid hr;clear ht hf hopen hr CZ hval hM hbs;have Hdz:Hid ((((2^log:Nat):Int) == 0)=false):=hid (by rw[beq_eq_false_iff_ne];omega);obtain⟨S,hS⟩:∃S,S=2^log:=⟨_,rfl⟩;have HS:=hid hS;rw[←hS]at Hz Hdz Hok adS hP hst;clear hS;have dz:=Hdz.out;have dn0:decide ((n:Int)<0)=false:=decide_eq_false (by omega);have dn1:decide (1048576<(n:Int))=false:=decide_eq_false (by omega);go_enter func211,ntmps211
 go_wp2_with fail
 refine Hz.out.mono ?_;rintro e w' ⟨rfl,rfl⟩;go_wp2_with fail
 refine Hop.out.mono ?_;rintro e w1 ⟨b,rfl,hts,hb1⟩;have Hb1:=hid hb1;have Hts:=hid hts;have Hl1:=hid (YT.out w1 hb1);have Ht1:=hid (uV.out w1 b hts);obtain⟨g,cap,k0,_,_,hwb,hbl,hwg,hgl,_⟩:=hts;have K0:=hid k0;clear hb1 k0 Hop YT uV;go_wp2_with fail
 refine Hl1.out.mono ?_;rintro e w' ⟨rfl,rfl⟩;go_wp2_with fail
 refine Ht1.out.mono ?_;rintro e w2 ⟨rfl,adz,hg2,hk2⟩;have Hb2:=hid (Hb1.out.grown hg2 Hb1.out.size (fun x e=>by injection e with e;omega));have hs2:=hg2.size;have agh:=hid adz;have Hk2:=hid (hk2.trans K0.out);clear adz hg2 hk2 Ht1 Hl1 K0 Hts Hb1;generalize hF:M/2^q=F at *;have HF:=hid hF;clear hF;go_wp2_with (at_make;refine wpList_make_own _ rfl _ _ 87 rfl w2.heap.size 5 i0 (.int .u8 0) 1 underlying87 hi hz0 hz1 .i64 .i64 _ n rfl rfl ?c1 ?c2 ?c3 ?c4 ?_)
 case c1=>rfl
 case c2=>rw[hz2];omega
 case c3=>unfold maxLen;omega
 case c4=>exact Nat.le_refl _
 intro w5 hown hg5;have Hb5:=hid (Hb2.out.grown hg5 Hb2.out.size (by simp));have tT:=hid hown;have aiT:=hid (agh.out.keep hg5 (by simp));have Hk5:=hid ((World.cell?_of_block (a:=⟨b,0,none⟩) (hg5.block b (by omega) (by simp))).trans Hk2.out);have hs5:=hg5.size;clear hown hg5 Hb2 agh Hk2;go_wp2;clear dn0 dn1 dz Hdz Hz;go_loopw [11,12,13,14] (fun ok sv u _ wr=>∃(k left st:Nat) (acc:List Nat) (okb:Bool),ok=.bool okb∧sv=.int .i64 (st:Int)∧k≤n∧acc.length=k∧left≤q∧st≤512∧w5.heap.size≤wr.heap.size∧Hid (wr.ownsRow w2.heap.size 5 1 u k (u8s acc))∧Hid (Below w.heap.size w wr)∧Hid ((okb=true→st<S∧TS wr w.heap.size b bs left∧wr.cell? ⟨b,0,none⟩=some (.slice (some ⟨g,0,none⟩) bs.length cap)∧r=(yN ls log (n-k) (M%2^left) left st).map (acc++·))∧(okb=false→r=none))) (fun _ _ u _ _=>n-lenOf u)
 case atStart=>exact⟨0,q,F,[],true,rfl,rfl,by omega,rfl,Nat.le_refl _,by omega,Nat.le_refl _,tT,Hb5,hid ⟨fun _=>⟨hst,aiT.out,Hk5.out,by rw[Hr.out,Nat.sub_zero];cases yN ls log n (M%2^q) q F<;>rfl⟩,fun h=>by cases h⟩⟩
 case round=>
  obtain⟨k,left,st,acc,okb,rfl,rfl,hk,hacc,hleft,Qp,hsz,hown,hbel,hrest⟩:=hrel;clear tT Hb5 aiT Hk5 Hr HF hst;obtain⟨A1,c1,rfl,hrd,hA1⟩:=dM hown.out;have Hlen:=hid (Gb hown.out);have Hrd:=hid hrd;clear hrd hA1;cases okb with
  | false=>
   have hx:=hid (hrest.out.2 rfl);clear hrest hown;go_wp2;go_ret2;rw[hx.out];exact⟨⟨_,_,rfl⟩,hbel.out⟩
  | true=>
   obtain⟨hst,hts,hc0,hrr⟩:=hrest.out.1 rfl;have Hts:=hid hts;have Hc0:=hid hc0;have Hrr:=hid hrr;clear hts hc0 hrr hrest;by_cases hkn:k<n
   ·have xQ:st<2^log:=by rw[←HS.out];exact hst
    have akl:yN ls log (n-k) (M%2^left) left st=if left<aB ls log st then none else(yN ls log (n-(k+1)) (M%2^left%2^(left-aB ls log st)) (left-aB ls log st) (aT ls log st+M%2^left/2^(left-aB ls log st))).map fun l=>bf ls log st :: l:=by
     rw[show n-k=(n-(k+1))+1 by omega,yN]
    rw[akl]at Hrr;clear akl;have hba:=uZ ls log st Hf.out xQ;by_cases BM:left<aB ls log st
    ·rw[if_pos BM]at Hrr;have jI:=hid (adS.out wr b left st hbel.out hst BM Hts.out);clear hba BM xQ;generalize bf ls log st=sy at *;go_wp2_with fail
     refine jI.out.mono ?_;rintro e W6 ⟨⟨v,hv,rfl⟩,_,hg6⟩;have hs6:=hg6.size;have EB:=hid (JC hown.out hg6 (by omega));have BN:=hid (hbel.out.grown hg6 hbel.out.size (fun x e=>by injection e with e;omega));clear hg6 hown hbel jI;go_wp2_with (at_builtin;refine wpList_append_own _ rfl _ _ 87 rfl w2.heap.size 5 i0 (.int .u8 0) 1 1 underlying87 hi hz0 hz1 hz2 rfl (by decide) _ _ _ rfl (EB.out.alloc _) ⟨W6.heap.size,0,none⟩ 1 1 [.int .u8 (sy:Int)] rfl rfl ?d1 ?d2 ?d3 ?d4 ?d5 ?_)
     case d1=>
      intro j u hj;match j,hj with
      | 0,hj=>simp at hj;subst hj;simp[Addr.add]
     case d2=>intro u hu;simp at hu;subst hu;rfl
     case d3=>unfold maxLen;omega
     case d4=>omega
     case d5=>simp;omega
     intro u' w7 bN gH _;have CV:Below w.heap.size w w7:=(BN.out.alloc BN.out.size _).grown gH (by have:=BN.out.size;simp;omega) (fun x e=>by have:=(EB.out.lt x e).1;omega);have e:u8s acc++[Value.int .u8 (sy:Int)]=u8s (acc++[sy]):=by simp[u8s]
     rw[e]at bN;have hl7:=Gb bN;have hs7:w5.heap.size≤w7.heap.size:=by have:=gH.size;simp at this;omega
     have nQ:=hid bN;have NT:=hid CV;clear bN gH CV e;go_wp2;go_roundw
     case rel=>exact⟨k+1,left,v,acc++[sy],false,rfl,rfl,by omega,by simp[hacc],hleft,by omega,hs7,nQ,NT,hid ⟨fun h=>(by cases h),fun _=>Hrr.out⟩⟩
     case measure=>rw[hl7];show n-(k+1)<n-k;omega
    ·rw[if_neg BM]at Hrr;have hkl:aB ls log st≤left:=by omega
     obtain⟨g1,g2⟩:=akH.out left _ hkl (by omega);rw[g1,g2]at Hrr;have hv:=Nat.mod_lt (aS bs/2^(left-aB ls log st)) (Nat.two_pow_pos (aB ls log st));have hnx:aT ls log st+aS bs/2^(left-aB ls log st)%2^aB ls log st<S:=by
      rw[HS.out];generalize 2^aB ls log st=P at *;omega
     have jI:=hid (Hok.out wr b left st hbel.out (by omega) hst hkl Hts.out);clear hba BM xQ g1 g2 hv;generalize bf ls log st=sy at *;generalize aT ls log st+aS bs/2^(left-aB ls log st)%2^aB ls log st=nx at *;generalize aB ls log st=kb at *;go_wp2_with fail
     refine jI.out.mono ?_;rintro e W6 ⟨rfl,akk,hg6,hk6⟩;have hs6:=hg6.size;have aiU:=hid akk;have Hk6:=hid (hk6.trans Hc0.out);have EB:=hid (JC hown.out hg6 (by omega));have BN:=hid (hbel.out.grown hg6 hbel.out.size (fun x e=>by injection e with e;omega));clear hg6 hown hbel jI akk hk6 Hc0 Hts;go_wp2_with (at_builtin;refine wpList_append_own _ rfl _ _ 87 rfl w2.heap.size 5 i0 (.int .u8 0) 1 1 underlying87 hi hz0 hz1 hz2 rfl (by decide) _ _ _ rfl (EB.out.alloc _) ⟨W6.heap.size,0,none⟩ 1 1 [.int .u8 (sy:Int)] rfl rfl ?d1 ?d2 ?d3 ?d4 ?d5 ?_)
     case d1=>
      intro j u hj;match j,hj with
      | 0,hj=>simp at hj;subst hj;simp[Addr.add]
     case d2=>intro u hu;simp at hu;subst hu;rfl
     case d3=>unfold maxLen;omega
     case d4=>omega
     case d5=>simp;omega
     intro u' w7 bN gH _;have CV:Below w.heap.size w w7:=(BN.out.alloc BN.out.size _).grown gH (by have:=BN.out.size;simp;omega) (fun x e=>by have:=(EB.out.lt x e).1;omega);have e:u8s acc++[Value.int .u8 (sy:Int)]=u8s (acc++[sy]):=by simp[u8s]
     rw[e]at bN;have hl7:=Gb bN;have hs7:w5.heap.size≤w7.heap.size:=by have:=gH.size;simp at this;omega
     have hgz:W6.grownBy (W6.alloc (.cells #[.int .u8 (sy:Int)] 5)) none:=aD (au _ _) _;have agK:=hid ((World.cell?_of_block (a:=⟨b,0,none⟩) (hgz.block b (by omega) (by simp))).trans Hk6.out);have aen:=hid (aiU.out.far Hk6.out hgz (by simp) (by simp));have hnb:∀x,x<w2.heap.size→(Value.slice A1 k c1).ownBlock≠some x:=fun x hx e=>by have:=(EB.out.lt x e).1;omega
     have alf:=hid (aen.out.far agK.out gH (hnb b (by omega)) (hnb g (by omega)));have Hk7:=hid ((World.cell?_of_block (a:=⟨b,0,none⟩) (gH.block b (by simp;omega) (fun e=>hnb b (by omega) e.symm))).trans agK.out);have nQ:=hid bN;have NT:=hid CV;clear bN gH CV e hgz agK aen hnb aiU Hk6 EB BN;go_wp2;go_roundw
     case rel=>
      refine⟨k+1,left-kb,nx,acc++[sy],true,rfl,rfl,by omega,by simp[hacc],by omega,by omega,hs7,nQ,NT,hid ⟨fun _=>⟨hnx,alf.out,Hk7.out,?_⟩,fun h=>(by cases h)⟩⟩;rw[Hrr.out];cases yN ls log (n-(k+1)) (M%2^(left-kb)) (left-kb) nx with
      | none=>rfl
      | some l=>simp
     case measure=>rw[hl7];show n-(k+1)<n-k;omega
   ·obtain rfl:k=n:=by omega
    rw[Nat.sub_self]at Hrr;have NW:=hid (OH w.heap.size b left bs wr Hts.out);clear Hts Hc0 Hok adS;by_cases hz:st=0∧left=0
    ·obtain⟨rfl,rfl⟩:=hz;have Hx:=hid (show r=some acc by rw[Hrr.out];simp[yN]);have Hl:=hid hacc;clear Hrr hacc hown;go_wp2_with fail
     refine NW.out.mono ?_;rintro e w' ⟨rfl,rfl⟩;go_wp2;go_ret2;rw[Hx.out];exact⟨⟨A1,c1,by rw[Hl.out];rfl,Hrd.out⟩,hbel.out⟩
    ·have Hx:=hid (show r=none by rw[Hrr.out,yN,if_neg hz];rfl);clear Hrr hacc hown;by_cases hl0:0<left
     ·have d1:decide (0<left)=true:=decide_eq_true hl0;go_wp2_with fail
      refine NW.out.mono ?_;rintro e w' ⟨rfl,rfl⟩;go_wp2;go_ret2;rw[Hx.out];exact⟨⟨_,_,rfl⟩,hbel.out⟩
     ·have hs0:0<st:=by omega
      obtain rfl:left=0:=by omega
      have d1:((st:Int) == 0)=false:=by rw[beq_eq_false_iff_ne];omega
      go_wp2_with fail
      refine NW.out.mono ?_;rintro e w' ⟨rfl,rfl⟩;go_wp2;go_ret2;rw[Hx.out];exact⟨⟨_,_,rfl⟩,hbel.out⟩
theorem Vx(w:World)(p:Addr)(ls:List Nat)(log:Nat)(A:Option Addr)(c:Nat)(bs:List Nat)(n:Int)(hf:bL ls log)(ht:qM w p ls log)(hs:bs.length≤10000)(hbs:∀x∈bs,x<256)(hr:Reads w A (u8s bs)) :
  Calls prog 211 #[.pointer (some p),.slice A bs.length c,.int .i64 n] w fun e w'=>uP w' e (Ak ls log bs n)∧Below w.heap.size w w':=by
 by_cases hn:n<0∨1048576<n
 ·have hx:Ak ls log bs n=none:=by
   unfold Ak;cases rM bs with
   | none=>rfl
   | some t=>rw[Option.bind_some];unfold adp;rw[if_neg (by omega)]
  rw[hx];exact Vz w p ls log A bs.length c n hf ht hn
 ·obtain⟨m,rfl⟩:=Int.eq_ofNat_of_zero_le (show 0≤n by omega);rcases Rt A c bs w hs hbs hr with⟨ho,hc⟩ | ⟨M,L,ho,hM,hval,hL,hc⟩
  ·have hx:Ak ls log bs (m:Int)=none:=by unfold Ak;rw[ho];rfl
   rw[hx];exact Pv w p ls log A bs.length c m none false hf ht (by omega) (hc.mono fun e w' ⟨he,hb⟩=>⟨he,hb,aaB w' _⟩)
  ·by_cases BM:L<log
   ·have hx:Ak ls log bs (m:Int)=none:=by
     unfold Ak;rw[ho,Option.bind_some];unfold adp;rw[if_neg (by omega)]
    rw[hx];have h9:=hf.high;refine Vy w p ls log A bs.length c m hf ht (by omega) (hc.mono fun e w' ⟨b,he,hts,hb⟩=>⟨b,he,hb,OU w.heap.size b L bs log w' (by omega) BM hts⟩)
   ·obtain⟨q,rfl⟩:∃q,L=q+log:=⟨L-log,by omega⟩;have hx:Ak ls log bs (m:Int)=yN ls log m (M%2^q) q (M/2^q):=by
     unfold Ak;rw[ho,Option.bind_some];unfold adp;rw[if_pos ⟨rfl,by omega,by omega,by omega⟩,Int.toNat_natCast,Nat.add_sub_cancel]
    rw[hx];exact Pw w p ls log A c m M q bs hf ht (by omega) hs hbs hM hval hL hc
end Go.Proofs.YtgiicohbigiapaaGreat
