/- Contracts, and what they rest on. Conditions: the theorems' premises. -/
import Derived.Test.YtgiicohbigiapaaGreatYbr
import Derived.Test.YtgiicohbigiapaaGreatYbq
set_option maxHeartbeats 4000000
set_option maxRecDepth 100000
open Go.Lib(hid)
open Go.Proofs.Tryz Go.Proofs.YtgiicohbigiapaaGreat.Bm
namespace Go.Proofs.YtgiicohbigiapaaGreat
open Go.RowKit
def acE(w w':World)(b:Nat)(e:Ending)(o:Option (List Nat)):Prop:=
 ∃x ok st,e=.returned (.tuple #[.string (strOf x),.bool ok])∧(ok=true→CR w' b st)∧w.grownBy w' (some b)∧o=if ok=true∧st=some []then some x else none
theorem adR(D:List Nat)(n:Nat)(bs:List Nat):gY D 2 n bs=match tC bs (n:Int)with
  | none=>none
  | some t=>match qG (bs.drop t.2) (n:Int)with
   | none=>none
   | some q=>if t.2+q.2=bs.length∧(tK D t.1 (q.1.map qH) n).2=0∧(tK D t.1 (q.1.map qH) n).1.length=n then some (tK D t.1 (q.1.map qH) n).1 else none:=by
 unfold gY;rw[if_neg (by decide),if_neg (by decide)];rfl
theorem TM(l:List Bm.Stp)(h:∀s∈l,s.1≤65538∧s.2.1≤65538∧s.2.2≤65538):ZOk (l.map qH):=fun s hs=>by
 obtain⟨t,ht,rfl⟩:=List.mem_map.1 hs;have:=h t ht;exact⟨⟨by show _≤(t.1:Int);omega,by show(t.1:Int)≤_;omega⟩,⟨by show _≤(t.2.1:Int);omega,by show(t.2.1:Int)≤_;omega⟩,⟨by show _≤(t.2.2:Int);omega,by show(t.2.2:Int)≤_;omega⟩⟩
theorem NR(D L:List Nat)(l:List StZ)(n:Nat):(tK D L l n).2≤5:=by
 unfold tK;split
 ·exact Nat.zero_le _
 ·rcases Ae (a:=D.length) (lim:=n) l 0 L.length with h | h | h
  ·rw[h];exact Nat.zero_le _
  ·rw[h];decide
  ·rw[h];decide
theorem ZL(D L:List Nat)(l:List StZ)(n:Nat):(tK D L l n).1.length≤n:=by
 unfold tK;split
 ·next h=>
  have h1:=IX h;have h2:=mJ h1 (show D.length=D.length+0 by omega);have h3:=(vG h1).2;dsimp only;rw[List.length_drop,h2];omega
 ·exact Nat.zero_le _
theorem zK(b n:Nat)(D bs:List Nat)(w:World)(hl:bs.length≤1000)(hlt:∀x∈bs,x<256)(hD:D.length≤1000)(hDlt:∀x∈D,x<256)(hn:n≤512)(h:CR w b (some bs)) :
  Calls prog 43 #[.pointer (some ⟨b,0,none⟩),.int .i64 (n:Int),.string (strOf D)] w fun e w'=>acE w w' b e (gY D 2 n bs):=by
 have H1:=hid (Qx b bs (n:Int) w hl hlt ⟨by omega,by omega⟩ h);have hb2:=adR D n bs;clear h;cases hd:tC bs (n:Int)with
 | none=>
  rw[hd]at H1 hb2;dsimp only at hb2;rw[hb2];clear hb2 hd hl hlt hD hDlt hn;go_enter func43,ntmps43
  go_wp2_with fail
  refine H1.out.mono ?_;rintro e w1 ⟨rfl,hg1⟩;go_wp2;go_ret2;exact⟨[],false,none,rfl,fun h=>(by cases h),hg1,rfl⟩
 | some t=>
  obtain⟨L,j⟩:=t;have hj:=aad bs n (L,j) hlt hd;have Ct:=OM bs n (L,j) hlt hd;dsimp only at hj Ct;rw[hd]at H1 hb2;dsimp only at hb2;have hdl:(bs.drop j).length≤1000:=by rw[List.length_drop];omega
  have H2:=hid (fun W hc=>WG b (bs.drop j) (n:Int) W (by omega) (by omega) (by omega) (dB hlt j) hc);cases hs:qG (bs.drop j) (n:Int)with
  | none=>
   rw[hs]at H2 hb2;dsimp only at hb2;rw[hb2];clear hb2 hs hd hl hlt hD hDlt hn hj Ct hdl;go_enter func43,ntmps43
   go_wp2_with fail
   refine H1.out.mono ?_;rintro e w1 ⟨⟨rfl,hc1⟩,hg1⟩;have H3:=hid (H2.out w1 hc1);have Hg1:=hid hg1;clear hc1 hg1 H1 H2;go_wp2_with fail
   refine H3.out.mono ?_;rintro e w2 ⟨⟨A,c,rfl⟩,hg2⟩;go_wp2;go_ret2;exact⟨[],false,none,rfl,fun h=>(by cases h),ay Hg1.out hg2,rfl⟩
  | some q=>
   obtain⟨l,i⟩:=q;have hi:=Zc (bs.drop j) n (l,i) hs;have hsm:=TM l (Si (bs.drop j) n (l,i) hs);rw[hs]at H2 hb2;rw[List.length_drop]at hi;dsimp only at hi hb2;have afv:=hid (fun W A c hr=>VB D L A c (l.map qH) (n:Int) n W (by omega) (by omega) (by rw[List.length_map];omega) ⟨by omega,by omega⟩ (by omega) (by omega) hDlt Ct hsm (Zd hr));have hz5:=NR D L (l.map qH) n;have hzl:=ZL D L (l.map qH) n;rw[List.length_map]at afv;generalize tK D L (l.map qH) n=Z at *;obtain⟨X,z⟩:=Z;dsimp only at hb2 afv hz5 hzl;have hsz:=aA X;have gT:Hid (∀W,CR W b (some ((bs.drop j).drop i))→w.grownBy W (some b)→acE w W b (.returned (.tuple #[.string (strOf X),.bool (decide (z=0) && decide (X.length=n))])) (gY D 2 n bs)):=hid (fun W hc hg=>by
    refine⟨X,_,some ((bs.drop j).drop i),rfl,fun _=>hc,hg,?_⟩;rw[hb2,List.drop_drop];by_cases hz:z=0∧X.length=n
    ·by_cases hji:j+i=bs.length
     ·rw[if_pos ⟨hji,hz.1,hz.2⟩,if_pos ⟨by simp[hz.1,hz.2],by rw[List.drop_eq_nil_of_le (by omega)]⟩]
     ·rw[if_neg (fun c=>hji c.1),if_neg (fun c=>hji (by
       have h1:=List.drop_eq_nil_iff.1 (Option.some.inj c.2);omega))]
    ·rw[if_neg (fun c=>hz c.2),if_neg (fun c=>hz (by simpa using c.1))])
   clear hb2 hs hd hl hlt hD hDlt hj Ct hdl hi hsm;go_enter func43,ntmps43
   go_wp2_with fail
   refine H1.out.mono ?_;rintro e w1 ⟨⟨rfl,hc1⟩,hg1⟩;have H3:=hid (H2.out w1 hc1);have Hg1:=hid hg1;clear hc1 hg1 H1 H2;go_wp2_with fail
   refine H3.out.mono ?_;rintro e w2 ⟨⟨⟨A,c,rfl,hr⟩,hc2⟩,hg2⟩;have Hr2:=hid (afv.out w2 A c hr);have Hg2:=hid (ay Hg1.out hg2);have Hc2:=hid hc2;clear hr hc2 hg2 Hg1 afv H3;dsimp only;generalize strOf X=sX at *;go_wp2_with fail
   refine Hr2.out.mono ?_;rintro e w3 ⟨rfl,hb3⟩;have hend:=gT.out w3 (Hc2.out.below hb3) (ay Hg2.out (aj hb3 _));clear Hr2 hb3 Hg2 Hc2 gT;by_cases hz:z=0
   ·subst hz;have dn:((X.length:Int) == (n:Int))=decide (X.length=n):=by
     by_cases h:X.length=n
     ·rw[h,decide_eq_true rfl];simp
     ·rw[decide_eq_false h,beq_eq_false_iff_ne];omega
    have dn2:decide ((X.length:Int)=(n:Int))=decide (X.length=n):=decide_eq_decide.2 (by omega);rw[decide_eq_true rfl,Bool.true_and]at hend;go_wp2;go_ret2;exact hend
   ·have dz:((z:Int) == 0)=false:=by rw[beq_eq_false_iff_ne];omega
    have dz2:decide ((z:Int)=0)=false:=decide_eq_false (by omega);rw[decide_eq_false hz,Bool.false_and]at hend;go_wp2;go_ret2;exact hend
theorem abI(n:Nat)(bs:List Nat):(if (gU n (some bs)).2=some []then some (gU n (some bs)).1 else none)=if bs.length=n then some bs else none:=by
 by_cases h:n≤bs.length
 ·rw[vW n bs h];by_cases h2:bs.length=n
  ·rw[if_pos h2,if_pos (by rw[List.drop_eq_nil_of_le (by omega)])];dsimp only;rw[List.take_of_length_le (by omega)]
  ·rw[if_neg h2,if_neg (fun c=>h2 (by have:=List.drop_eq_nil_iff.1 (Option.some.inj c);omega))]
 ·rw[Dm n bs h,if_neg (by simp),if_neg (by omega)]
theorem Oo(b ep n s:Nat)(D bs:List Nat)(w:World)(h:CR w b (some bs)) :
  Calls prog 20 #[.pointer (some ⟨b,0,none⟩),.agg #[.int .u64 0,.int .i64 (ep:Int),.int .i64 (n:Int),.int .u64 (s:Int)],.string (strOf D)] w fun e w'=>acE w w' b e (gY D 0 n bs):=by
 have hc0:=h.below ((Below.refl w.heap.size w).alloc (Nat.le_refl _) (.cells #[.int .u64 0,.int .i64 (ep:Int),.int .i64 (n:Int),.int .u64 (s:Int)] 49));have Hg0:=hid (aD (ak w (some b)) (.cells #[.int .u64 0,.int .i64 (ep:Int),.int .i64 (n:Int),.int .u64 (s:Int)] 49));have hr:=fT b (some bs) (n:Int) _ hc0;rw[Int.toNat_natCast]at hr;have he:gY D 0 n bs=if true=true∧(gU n (some bs)).2=some []then some (gU n (some bs)).1 else none:=by
  simp only[true_and];rw[abI n bs];rfl
 have He:=hid he;have Hr:=hid hr;clear h hc0 hr he;generalize gU n (some bs)=R at *;obtain⟨x,st⟩:=R;dsimp only at Hr He;generalize strOf D=sD at *;have HX:=hid (fun e (h:e=Ending.returned (.tuple #[.string (strOf x),.bool true]))=>h);go_enter func20,ntmps20
 go_wp2_with fail
 refine Hr.out.mono ?_;rintro e w1 ⟨rfl,hc1,hg1⟩;go_wp2;go_ret2;exact⟨x,true,st,rfl,fun _=>hc1,ay Hg0.out hg1,by simpa using He.out⟩
theorem Ot(b ep n s:Nat)(D bs:List Nat)(w:World)(hl:bs.length≤1000)(hlt:∀x∈bs,x<256)(hD:D.length≤1000)(hDlt:∀x∈D,x<256)(hn:n≤512)(h:CR w b (some bs)) :
  Calls prog 20 #[.pointer (some ⟨b,0,none⟩),.agg #[.int .u64 2,.int .i64 (ep:Int),.int .i64 (n:Int),.int .u64 (s:Int)],.string (strOf D)] w fun e w'=>acE w w' b e (gY D 2 n bs):=by
 have hc0:=h.below ((Below.refl w.heap.size w).alloc (Nat.le_refl _) (.cells #[.int .u64 2,.int .i64 (ep:Int),.int .i64 (n:Int),.int .u64 (s:Int)] 49));have Hg0:=hid (aD (ak w (some b)) (.cells #[.int .u64 2,.int .i64 (ep:Int),.int .i64 (n:Int),.int .u64 (s:Int)] 49));have Hr:=hid (zK b n D bs _ hl hlt hD hDlt hn hc0);clear h hc0 hl hlt hD hDlt hn;generalize strOf D=sD at *;go_enter func20,ntmps20
 go_wp2_with fail
 refine Hr.out.mono ?_;rintro e w1 ⟨x,ok,st,rfl,hc1,hg1,he⟩;go_wp2;go_ret2;exact⟨x,ok,st,rfl,hc1,ay Hg0.out hg1,he⟩
theorem Oq(b ep n s:Nat)(D bs:List Nat)(w:World)(hlt:∀x∈bs,x<256)(hn:n≤512)(h:CR w b (some bs)) :
  Calls prog 20 #[.pointer (some ⟨b,0,none⟩),.agg #[.int .u64 1,.int .i64 (ep:Int),.int .i64 (n:Int),.int .u64 (s:Int)],.string (strOf D)] w fun e w'=>acE w w' b e (gY D 1 n bs):=by
 have hc0:=h.below ((Below.refl w.heap.size w).alloc (Nat.le_refl _) (.cells #[.int .u64 1,.int .i64 (ep:Int),.int .i64 (n:Int),.int .u64 (s:Int)] 49));have Hg0:=hid (aD (ak w (some b)) (.cells #[.int .u64 1,.int .i64 (ep:Int),.int .i64 (n:Int),.int .u64 (s:Int)] 49));have hrow:Row (w.alloc (.cells #[.int .u64 1,.int .i64 (ep:Int),.int .i64 (n:Int),.int .u64 (s:Int)] 49)) w.heap.size 49 [.int .u64 1,.int .i64 (ep:Int),.int .i64 (n:Int),.int .u64 (s:Int)]:=Row.new w 49 [.int .u64 1,.int .i64 (ep:Int),.int .i64 (n:Int),.int .u64 (s:Int)];have fZ:=hid hrow;have Hb:=hid h.lt;have hr:=fun W (hc:CR W b (some bs))=>fT b (some bs) 1 W hc
 rw[show(1:Int).toNat=1 from rfl]at hr;have hrep:∃R,(∀W,Calls prog 30 #[.string (strOf (gU 1 (some bs)).1),.int .i64 (n:Int)] W fun e w'=>e=.returned (.string (strOf R))∧Below W.heap.size W w') ∧
   gY D 1 n bs=if true=true∧(gU 1 (some bs)).2=some []then some R else none:=by
  cases bs with
  | nil=>exact⟨[],fun W=>wH n W (by omega),rfl⟩
  | cons x u=>
   refine⟨List.replicate n x,fun W=>oH x n W (by omega),?_⟩;cases u with
   | nil=>rfl
   | cons y u=>rfl
 obtain⟨R,hrep,he⟩:=hrep;have Hrep:=hid hrep;have He:=hid he;have Hr:=hid hr;have Hc0:=hid hc0;clear h hc0 hr he hrep hrow hlt hn;generalize gU 1 (some bs)=Q at *;obtain⟨x,st⟩:=Q;dsimp only at Hr He Hrep;generalize strOf D=sD at *;go_enter func20,ntmps20
 go_upto_region 5 with fail
 generalize w.alloc (.cells #[.int .u64 1,.int .i64 (ep:Int),.int .i64 (n:Int),.int .u64 (s:Int)] 49)=wA at *;have uF:=hid (show wA.cell? ⟨w.heap.size,2,none⟩=some (.int .i64 (n:Int))from fZ.out.cell 2);refine wp_region_held_drew (S:=(fun W:World=>W.cell? ⟨w.heap.size,2,none⟩=some (.int .i64 (n:Int)))) (by kernel_rfl) (by exact uF.out) (fun hHeld=>?_);refine wpAnyH_take (i:=0) (oi:={dst:=some 18,op:=.move (.tmp 0),type:=46,pos:= "block.go:126",after:=#[],guard:=none}) (v:=?_) rfl (by kernel_rfl) (by kernel_rfl) (by kernel_rfl) (fun _ _ _ h=>h) (Or.inl ⟨by rfl,?_⟩) (by assumption) ?_;rotate_left
 ·(intro w hSw;(try dsimp only at hSw);go_simp;(try with_reducible rfl))
 try simp only[Act.put,List.setIfInBounds_toArray,List.set_cons_zero,List.set_cons_succ]
 refine wpAnyH_take (i:=2) (oi:={dst:=some 20,op:=.fieldAddr 49 (.tmp 4) 2,type:=0,pos:= "block.go:126",after:=#[],guard:=none}) (v:=?_) rfl (by kernel_rfl) (by kernel_rfl) (by kernel_rfl) (fun _ _ _ h=>h) (Or.inl ⟨by rfl,?_⟩) (by assumption) ?_;rotate_left
 ·(intro w hSw;(try dsimp only at hSw);go_simp;(try with_reducible rfl))
 try simp only[Act.put,List.setIfInBounds_toArray,List.set_cons_zero,List.set_cons_succ]
 refine wpAnyH_take (i:=3) (oi:={dst:=some 21,op:=.load 3 (.tmp 20),type:=3,pos:= "block.go:126",after:=#[{on:=2,ground:=.data}],guard:=none}) (v:=?_) rfl (by kernel_rfl) (by kernel_rfl) (by kernel_rfl) (fun _ _ _ h=>h) (Or.inl ⟨by rfl,?_⟩) (by assumption) ?_;rotate_left
 ·(intro w hSw;(try dsimp only at hSw);go_simp;(try with_reducible rfl))
 try simp only[Act.put,List.setIfInBounds_toArray,List.set_cons_zero,List.set_cons_succ]
 refine wpAnyH_ready (rs:=[1]) (by kernel_rfl) (by simp) ?_;refine AllReadyH.cons (o:={dst:=some 19,op:=.call {callee:=.value (.func 42),args:=#[.tmp 18,.const (.int .i64 1)],argTypes:=#[46,3]},type:=9,pos:= "block.go:126",after:=#[{on:=0,ground:=.data}],guard:=none}) rfl (fun K hK=>?_) AllReadyH.nil;go_simp
 (go_at_call 42;refine(Hr.out _ Hc0.out.drew).mono ?_;rintro e w1 ⟨rfl,hc1,hg1⟩;have HG:=hid (ay (bA Hg0.out) hg1);have HC:=hid hc1;have HK:=hid (show w1.cell? ⟨w.heap.size,2,none⟩=some (.int .i64 (n:Int))from(fZ.out.keep (w':=w1) (hg1.block w.heap.size fZ.out.lt (by have:=Hb.out;simp;omega))).cell 2);clear hc1 hg1)
 go_simp;refine hK.out _ _ (by exact HK.out) (fun hHeld=>?_);clear hK K
 try simp only[Act.put,List.setIfInBounds_toArray,List.set_cons_zero,List.set_cons_succ]
 refine wpAnyH_ready (rs:=[4]) (by kernel_rfl) (by simp) ?_;refine AllReadyH.cons (o:={dst:=some 22,op:=.call {callee:=.value (.func 30),args:=#[.tmp 19,.tmp 21],argTypes:=#[9,3]},type:=9,pos:= "block.go:126",after:=#[{on:=1,ground:=.data},{on:=3,ground:=.data},{on:=1,ground:=.chain}],guard:=none}) rfl (fun K hK=>?_) AllReadyH.nil;go_simp
 (go_at_call 30;refine(Hrep.out _).mono ?_;rintro e w2 ⟨rfl,hb2⟩;have HZ:=hid (ay HG.out (aj hb2 (some b)));have HD:=hid (HC.out.below hb2);have HK2:=hid ((hb2.cell (p:=⟨w.heap.size,2,none⟩) (World.block_lt_of_cell? _ _ HK.out)).trans HK.out);clear hb2)
 go_simp;refine hK.out _ _ (by exact HK2.out) (fun hHeld=>?_);clear hK K
 try simp only[Act.put,List.setIfInBounds_toArray,List.set_cons_zero,List.set_cons_succ]
 refine wpAnyH_take (i:=5) (oi:={dst:=some 6,op:=.assign (.tmp 22),type:=9,pos:= "block.go:126",after:=#[{on:=4,ground:=.data},{on:=4,ground:=.chain},{on:=0,ground:=.phase},{on:=1,ground:=.phase},{on:=2,ground:=.phase},{on:=3,ground:=.phase},{on:=4,ground:=.phase}],guard:=none}) (v:=?_) rfl (by kernel_rfl) (by kernel_rfl) (by kernel_rfl) (fun _ _ _ h=>h) (Or.inl ⟨by rfl,?_⟩) (by assumption) ?_;rotate_left
 ·(intro w hSw;(try dsimp only at hSw);go_simp;(try with_reducible rfl))
 try simp only[Act.put,List.setIfInBounds_toArray,List.set_cons_zero,List.set_cons_succ]
 refine wpAnyH_take (i:=6) (oi:={dst:=some 7,op:=.assign (.const (.bool true)),type:=4,pos:= "block.go:126",after:=#[{on:=5,ground:=.chain},{on:=0,ground:=.phase},{on:=1,ground:=.phase},{on:=2,ground:=.phase},{on:=3,ground:=.phase},{on:=4,ground:=.phase},{on:=5,ground:=.phase}],guard:=none}) (v:=?_) rfl (by kernel_rfl) (by kernel_rfl) (by kernel_rfl) (fun _ _ _ h=>h) (Or.inl ⟨by rfl,?_⟩) (by assumption) ?_;rotate_left
 ·(intro w hSw;(try dsimp only at hSw);go_simp;(try with_reducible rfl))
 try simp only[Act.put,List.setIfInBounds_toArray,List.set_cons_zero,List.set_cons_succ]
 refine wpAnyH_done (by kernel_rfl) ?_ _;go_wp2;go_ret2;exact⟨R,true,st,rfl,fun _=>HD.out,HZ.out,by simpa using He.out⟩
theorem Es(b k ep n s:Nat)(D bs:List Nat)(w:World)(hk:k<3)(hl:bs.length≤1000)(hlt:∀x∈bs,x<256)(hD:D.length≤1000)(hDlt:∀x∈D,x<256)(hn:n≤512)(h:CR w b (some bs)) :
  Calls prog 20 #[.pointer (some ⟨b,0,none⟩),.agg #[.int .u64 (k:Int),.int .i64 (ep:Int),.int .i64 (n:Int),.int .u64 (s:Int)],.string (strOf D)] w fun e w'=>acE w w' b e (gY D k n bs):=by
 rcases(by omega:k=0∨k=1∨k=2)with rfl | rfl | rfl
 ·exact Oo b ep n s D bs w h
 ·exact Oq b ep n s D bs w hlt hn h
 ·exact Ot b ep n s D bs w hl hlt hD hDlt hn h
theorem ZR{D bs X:List Nat}{k n:Nat}(hD:∀x∈D,x<256)(hbs:∀x∈bs,x<256)(h:gY D k n bs=some X):∀x∈X,x<256:=by
 unfold gY at h;split at h
 ·split at h
  ·injection h with h;subst h;exact hbs
  ·cases h
 ·split at h
  ·split at h
   ·next h1=>
    injection h with h
    subst h;intro x hx;rw[(List.mem_replicate.1 hx).2,List.getElem?_eq_getElem (by omega)];exact hbs _ (List.getElem_mem _)
   ·cases h
  ·split at h
   ·cases h
   ·next t ht=>
    split at h
    ·cases h
    ·next q _=>
     split at h
     ·next hc=>
      injection h with h
      rw[←h];unfold tK;split
      ·exact dB (AX _ _ _ hD (OM bs n t hbs ht)) _
      ·intro x hx;cases hx
     ·cases h
theorem Ib(D bs:List Nat)(lim:Int)(w:World)(hl:bs.length≤1000)(hlt:∀x∈bs,x<256)(hD:D.length≤1000)(hDlt:∀x∈D,x<256) :
  Calls prog 9 #[.string (strOf bs),.string (strOf D),.int .i64 lim] w fun e w'=>e=.returned (.tuple #[.string (strOf (xK D bs lim).1),.int .i64 ((xK D bs lim).2:Int)])∧Below w.heap.size w w':=by
 have Hn:=hid (zR bs w);have Hh:=hid (fun W hc=>nW w.heap.size bs W (by omega) hlt hc);have afu:=hid (fun W k ep n s at_ (hk:k<3) (hn:n≤512) hc=>Es w.heap.size k ep n s D (bs.drop at_) W hk (by rw[List.length_drop];omega) (dB hlt at_) hD hDlt hn hc);have Ym:=hid (fun k n at_ X (h:gY D k n (bs.drop at_)=some X)=>ZR hDlt (dB hlt at_) h);obtain⟨V,hV⟩:∃V,V=xK D bs lim:=⟨_,rfl⟩;rw[←hV];have hhd:∀h,iG bs=some h→h.1<3:=fun h he=>by
  unfold iG at he;split at he
  ·cases he
  ·split at he
   ·cases he
   ·next k r hk=>
    cases ht:wO r with
    | none=>rw[ht]at he;cases he
    | some t=>rw[ht]at he;injection he with he;rw[←he];dsimp only;omega
 unfold xK at hV;clear hl hlt hD hDlt;generalize strOf bs=sB at *;generalize strOf D=sD at *;go_enter func9,ntmps9
 go_wp2_with fail
 refine Hn.out.mono ?_;rintro e w1 ⟨rfl,hc1,hb1⟩;have Hb1:=hid hb1;have Hh1:=hid (Hh.out w1 hc1);clear hc1 hb1 Hn Hh;go_wp2_with fail
 refine Hh1.out.mono ?_;rintro e w2 ⟨hp,hg2⟩;have Hsz:=hid Hb1.out.size;have Hb2:=hid (Hb1.out.trans (below_grown hg2 (Nat.le_refl _) Hb1.out.size));have Hw1:=hid hg2.size;clear hg2 Hb1 Hh1;cases hd:iG bs with
 | none=>
  rw[hd]at hp hV;obtain rfl:e=.returned (.tuple #[.agg #[.int .u64 0,.int .i64 0,.int .i64 0,.int .u64 0],.int .i64 3]):=hp;subst hV;clear hd hhd afu Ym;have HbZ:=hid (fun u=>Hb2.out.alloc Hb2.out.size u);clear Hb2;go_wp2;go_ret2;exact⟨rfl,HbZ.out _⟩
 | some h=>
  obtain⟨k,ep,n,s,at_⟩:=h;have hk:=hhd _ hd;rw[hd]at hp hV;obtain⟨rfl,hc2⟩:e=.returned (.tuple #[.agg #[.int .u64 (k:Int),.int .i64 (ep:Int),.int .i64 (n:Int),.int .u64 (s:Int)],.int .i64 0])∧CR w2 w.heap.size (some (bs.drop at_)):=hp;dsimp only at hV hk;have hrow:Row (w2.alloc (.cells #[.int .u64 (k:Int),.int .i64 (ep:Int),.int .i64 (n:Int),.int .u64 (s:Int)] 49)) w2.heap.size 49 [.int .u64 (k:Int),.int .i64 (ep:Int),.int .i64 (n:Int),.int .u64 (s:Int)]:=Row.new w2 49 [.int .u64 (k:Int),.int .i64 (ep:Int),.int .i64 (n:Int),.int .u64 (s:Int)];have fZ:=hid hrow;have HbA:=hid (Hb2.out.alloc Hb2.out.size (.cells #[.int .u64 (k:Int),.int .i64 (ep:Int),.int .i64 (n:Int),.int .u64 (s:Int)] 49));have HcA:=hid (hc2.below ((Below.refl w2.heap.size w2).alloc (Nat.le_refl _) (.cells #[.int .u64 (k:Int),.int .i64 (ep:Int),.int .i64 (n:Int),.int .u64 (s:Int)] 49)));have aft:=hid (hc2.lt);clear hd hhd hc2 Hb2 hrow;by_cases hbig:lim<(n:Int)∨512<n
  ·rw[if_pos hbig]at hV;subst hV;have d1:decide (min lim 512<(n:Int))=true:=decide_eq_true (by omega);clear afu Ym hbig;go_wp2;go_ret2;exact⟨rfl,HbA.out⟩
  ·rw[if_neg hbig]at hV;have d1:decide (min lim 512<(n:Int))=false:=decide_eq_false (by omega);have Hr:=hid (afu.out _ k ep n s at_ hk (by omega) HcA.out);have uF:=hid (fZ.out.cell 3);have Hx:=hid (fun X h=>Ym.out k n at_ X h);have Hxl:=hid (fun X (h:gY D k n (bs.drop at_)=some X)=>Nat.le_trans (Nat.le_of_eq (ZN h)) (by omega:n≤512));clear afu Ym;have c0:=fZ.out.cell 0;have c1:=fZ.out.cell 1;have c2:=fZ.out.cell 2;have c3:=fZ.out.cell 3;simp only[List.getElem?_cons_zero,List.getElem?_cons_succ]at c0 c1 c2 c3;go_wp2_with fail
   clear c0 c1 c2 c3;generalize w2.alloc (.cells #[.int .u64 (k:Int),.int .i64 (ep:Int),.int .i64 (n:Int),.int .u64 (s:Int)] 49)=wA at *;refine Hr.out.mono ?_;rintro e w3 ⟨x,ok,st,rfl,hc3,hg3,he⟩;have hrow3:=fZ.out.keep (hg3.block w2.heap.size fZ.out.lt (by have:=aft.out;simp;omega));have Bp:=hid (show w3.cell? ⟨w2.heap.size,3,none⟩=some (.int .u64 (s:Int))from hrow3.cell 3);have Hb3:=hid (HbA.out.trans (below_grown hg3 (Nat.le_refl _) HbA.out.size));clear hrow3 hg3 HbA fZ HcA uF Hr;cases ok with
   | false=>
    rw[he]at hV;simp only[Bool.false_eq_true,false_and,if_false]at hV;subst hV;clear he hc3 Hx Hxl Bp;go_wp2;go_ret2;exact⟨rfl,Hb3.out⟩
   | true=>
    have Hd:=hid (Ry w.heap.size st w3 (hc3 rfl));by_cases hst:st=some []
    ·rw[decide_eq_true hst]at Hd;rw[if_pos ⟨rfl,hst⟩]at he;rw[he]at hV;dsimp only at hV;have hx:=Hx.out x he;have hxl:=Hxl.out x he;have acA:=hid (fun W=>Sv x W (by omega) hx);clear he hc3 Hx Hxl hst hx hxl;go_wp2_with fail
     refine Hd.out.mono ?_;rintro e w4 ⟨rfl,rfl⟩;clear Hd;go_upto_region 10 with fail
     refine wp_region_held_drew (S:=(fun W:World=>W.cell? ⟨w2.heap.size,3,none⟩=some (.int .u64 (s:Int)))) (by kernel_rfl) (by exact Bp.out) (fun hHeld=>?_);refine wpAnyH_take (i:=0) (oi:={dst:=some 42,op:=.move (.tmp 11),type:=9,pos:= "block.go:70",after:=#[],guard:=none}) (v:=?_) rfl (by kernel_rfl) (by kernel_rfl) (by kernel_rfl) (fun _ _ _ h=>h) (Or.inl ⟨by rfl,?_⟩) (by assumption) ?_;rotate_left
     ·(intro w hSw;(try dsimp only at hSw);go_simp;(try with_reducible rfl))
     try simp only[Act.put,List.setIfInBounds_toArray,List.set_cons_zero,List.set_cons_succ]
     refine wpAnyH_take (i:=2) (oi:={dst:=some 44,op:=.fieldAddr 49 (.tmp 9) 3,type:=0,pos:= "block.go:70",after:=#[],guard:=none}) (v:=?_) rfl (by kernel_rfl) (by kernel_rfl) (by kernel_rfl) (fun _ _ _ h=>h) (Or.inl ⟨by rfl,?_⟩) (by assumption) ?_;rotate_left
     ·(intro w hSw;(try dsimp only at hSw);go_simp;(try with_reducible rfl))
     try simp only[Act.put,List.setIfInBounds_toArray,List.set_cons_zero,List.set_cons_succ]
     refine wpAnyH_take (i:=3) (oi:={dst:=some 45,op:=.load 31 (.tmp 44),type:=31,pos:= "block.go:70",after:=#[{on:=2,ground:=.data}],guard:=none}) (v:=?_) rfl (by kernel_rfl) (by kernel_rfl) (by kernel_rfl) (fun _ _ _ h=>h) (Or.inl ⟨by rfl,?_⟩) (by assumption) ?_;rotate_left
     ·(intro w hSw;(try dsimp only at hSw);go_simp;(try with_reducible rfl))
     try simp only[Act.put,List.setIfInBounds_toArray,List.set_cons_zero,List.set_cons_succ]
     refine wpAnyH_ready (rs:=[1]) (by kernel_rfl) (by simp) ?_;refine AllReadyH.cons (o:={dst:=some 43,op:=.call {callee:=.value (.func 22),args:=#[.tmp 42],argTypes:=#[9]},type:=31,pos:= "block.go:70",after:=#[{on:=0,ground:=.data}],guard:=none}) rfl (fun K hK=>?_) AllReadyH.nil;go_simp
     (go_at_call 22;refine(acA.out _).mono ?_;rintro e w5 ⟨rfl,hb5⟩;have HZ:=hid (Hb3.out.drew.trans (hb5.mono Hb3.out.drew.size));have HK:=hid ((hb5.cell (p:=⟨w2.heap.size,3,none⟩) (World.block_lt_of_cell? _ _ Bp.out)).trans Bp.out);clear hb5)
     go_simp;refine hK.out _ _ (by exact HK.out) (fun hHeld=>?_);clear hK K
     try simp only[Act.put,List.setIfInBounds_toArray,List.set_cons_zero,List.set_cons_succ]
     refine wpAnyH_take (i:=4) (oi:={dst:=some 46,op:=.binOp .neq 31 (.tmp 43) (.tmp 45) 31,type:=4,pos:= "block.go:70",after:=#[{on:=1,ground:=.data},{on:=3,ground:=.data}],guard:=none}) (v:=?_) rfl (by kernel_rfl) (by kernel_rfl) (by kernel_rfl) (fun _ _ _ h=>h) (Or.inl ⟨by rfl,?_⟩) (by assumption) ?_;rotate_left
     ·(intro w hSw;(try dsimp only at hSw);go_simp;(try with_reducible rfl))
     try simp only[Act.put,List.setIfInBounds_toArray,List.set_cons_zero,List.set_cons_succ]
     refine wpAnyH_done (by kernel_rfl) ?_ _;by_cases hsum:Bm.sumOf x=s
     ·rw[if_pos hsum]at hV;subst hV;rw[hsum];clear acA hsum;go_wp2;go_ret2;exact⟨rfl,HZ.out⟩
     ·rw[if_neg hsum]at hV;subst hV;have dz:((Bm.sumOf x:Int) == (s:Int))=false:=by rw[beq_eq_false_iff_ne];omega
      clear acA;generalize Bm.sumOf x=y at *;go_wp2;go_ret2;exact⟨rfl,HZ.out⟩
    ·rw[decide_eq_false hst]at Hd;rw[if_neg (fun c=>hst c.2)]at he;rw[he]at hV;subst hV;clear he hc3 Hx Hxl hst Bp;go_wp2_with fail
     refine Hd.out.mono ?_;rintro e w4 ⟨rfl,rfl⟩;clear Hd;go_wp2;go_ret2;exact⟨rfl,Hb3.out⟩
namespace Bm
structure Yj(D X:List Nat)(ep:Nat)(S:List Nat):Prop where
 lt:∀x∈S,x<256
 len:S.length≤X.length+16
 pos:0<S.length
 plain:S.length≤(hdB 0 ep X++X).length
 head:∃k a,0<a∧iG S=some (k,ep,X.length,sumOf X,a)
 yes:∀lim:Int,(X.length:Int)≤lim→xK D S lim=(X,0)
 few:∀lim:Int,lim<(X.length:Int)→xK D S lim=([],5)
 cut:∀j,j<S.length→xK D (S.take j) (X.length:Int)=([],3)
 more:∀x,xK D (S++[x]) (X.length:Int)=([],3)
 other:∀(D':List Nat) (lim:Int) (Y:List Nat),xK D' S lim=(Y,0)→sumOf Y=sumOf X
theorem agP(k ep:Nat)(X:List Nat)(hk:k<256)(hep:ep≤1073741824)(hX:X.length≤512):∀x∈hdB k ep X,x<256:=fun x hx=>by
 unfold hdB at hx;rcases List.mem_cons.1 hx with rfl | hx
 ·exact hk
 ·rcases List.mem_append.1 hx with hx | hx
  ·exact kX ep (by omega) x hx
  ·rcases List.mem_append.1 hx with hx | hx
   ·exact kX X.length (by omega) x hx
   ·exact eB _ _ x hx
theorem agE{D X T:List Nat}{k ep:Nat}(h:uD D X k T)(hep:ep≤1073741824)(hX:X.length≤512):Yj D X ep (hdB k ep X++T):=by
 have h1:=agO k ep X hep hX;have h2:=iU k ep X;have h3:=iU 0 ep X;have h4:=h.len;have h5:=h.kind;refine⟨fun x hx=>(List.mem_append.1 hx).elim (agP k ep X (by omega) hep hX x) (h.lt x),?_,?_,?_,⟨k,_,?_,gF k ep X T h.kind hep hX⟩,ZQ h hep hX,ZP h.kind hep hX,ZO h hep hX,Ux h hep hX,fun D' lim Y=>Ol h.kind hep hX lim⟩
 ·rw[List.length_append];omega
 ·rw[List.length_append];omega
 ·rw[List.length_append,List.length_append];omega
 ·omega
end Bm
theorem Od(D X:List Nat)(ep:Nat)(v:Int)(w:World)(hD:D.length≤256)(hX:X.length≤512)(hDlt:∀x∈D,x<256)(hXlt:∀x∈X,x<256)(hep:ep≤1073741824)(hv:bN v) :
  Calls prog 8 #[.string (strOf X),.string (strOf D),.int .i64 (ep:Int),.int .i64 v] w fun e w'=>(∃S,Yj D X ep S∧e=.returned (.tuple #[.string (strOf S),.int .i64 0]))∧Below w.heap.size w w':=by
 refine(Uv D X ep v w hD hX hDlt hXlt hep hv).mono ?_;rintro e w' ⟨⟨k,T,hq,he⟩,hb⟩;exact⟨⟨_,agE hq hep hX,he⟩,hb⟩
theorem adP{D X S:List Nat}{ep:Nat}(hf:Yj D X ep S)(D':List Nat)(lim:Int)(w:World)(hX:X.length≤512)(hD':D'.length≤1000)(hDlt:∀x∈D',x<256) :
  Calls prog 9 #[.string (strOf S),.string (strOf D'),.int .i64 lim] w fun e w'=>e=.returned (.tuple #[.string (strOf (xK D' S lim).1),.int .i64 ((xK D' S lim).2:Int)])∧Below w.heap.size w w':=
 Ib D' S lim w (by have:=hf.len;omega) hf.lt hD' hDlt
theorem Xz:strOf []=⟨#[]⟩:=rfl
theorem SF:strOf [104,101,108,108,111,32,104,101,108,108,111,32,104,101,108,108,111]=⟨#[104,101,108,108,111,32,104,101,108,108,111,32,104,101,108,108,111]⟩:=by decide
theorem Xy:strOf [104,101,108,108,111,32]=⟨#[104,101,108,108,111,32]⟩:=by decide
theorem Uy{D:List Nat}{S:List Nat}(h:Yj D [] 0 S):S.length=11:=by
 have h1:=h.plain;obtain⟨k,a,_,hk⟩:=h.head;have h2:(hdB 0 0 []++[]).length=11:=by decide
 have h3:11≤S.length:=by
  have hy:=h.yes 0 (by simp);rcases Nat.lt_or_ge 10 S.length with h0 | h0
  ·exact h0
  ·exfalso
   have hh:iG S=none∨∃z,iG S=some z∧11≤S.length:=by
    unfold iG;cases S with
    | nil=>exact .inl rfl
    | cons x r=>
     dsimp only;split
     ·exact .inl rfl
     ·cases ht:wO r with
      | none=>exact .inl rfl
      | some t=>
       refine .inr ⟨_,rfl,?_⟩;unfold wO at ht;split at ht
       ·split at ht
        ·rw[List.length_cons];omega
        ·cases ht
       ·cases ht
   rcases hh with hh | ⟨_,_,hh⟩
   ·rw[hh]at hk;cases hk
   ·omega
 omega
theorem xW(w:World):Calls prog 7 #[] w fun e w'=>e=.returned (.bool true)∧Below w.heap.size w w':=by
 have H1:=hid (Od [104,101,108,108,111,32] [104,101,108,108,111,32,104,101,108,108,111,32,104,101,108,108,111] 3 2 w (by decide) (by decide) (by decide) (by decide) (by decide) ⟨by omega,by omega⟩);have H2:=hid (fun W S (hf:Yj [104,101,108,108,111,32] [104,101,108,108,111,32,104,101,108,108,111,32,104,101,108,108,111] 3 S)=>adP hf [104,101,108,108,111,32] 17 W (by decide) (by decide) (by decide));have H5:=hid (fun W=>Od [] [] 0 1 W (by decide) (by decide) (by decide) (by decide) (by decide) ⟨by omega,by omega⟩);obtain⟨X,hX⟩:∃X,X=[104,101,108,108,111,32,104,101,108,108,111,32,104,101,108,108,111]:=⟨_,rfl⟩;obtain⟨D,hD⟩:∃D,D=[104,101,108,108,111,32]:=⟨_,rfl⟩;have hXl:X.length=17:=by rw[hX];rfl
 have hsX:=SF;have hsD:=Xy;rw[←hX]at H1 H2 hsX;rw[←hD]at H1 H2 hsD;rw[hsX,hsD]at H1;rw[hsD]at H2;rw[Xz]at H5;have H1:Hid (Calls prog 8 #[.string ⟨#[104,101,108,108,111,32,104,101,108,108,111,32,104,101,108,108,111]⟩,.string ⟨#[104,101,108,108,111,32]⟩,.int .i64 3,.int .i64 2] w fun e w'=>(∃S,Yj D X 3 S∧e=.returned (.tuple #[.string (strOf S),.int .i64 0]))∧Below w.heap.size w w'):=hid H1.out;have H5:Hid (∀W,Calls prog 8 #[.string ⟨#[]⟩,.string ⟨#[]⟩,.int .i64 0,.int .i64 1] W fun e w'=>(∃S,Yj [] [] 0 S∧e=.returned (.tuple #[.string (strOf S),.int .i64 0]))∧Below W.heap.size W w'):=hid H5.out;have hXX:((ByteArray.mk #[104,101,108,108,111,32,104,101,108,108,111,32,104,101,108,108,111]).toList == (ByteArray.mk #[104,101,108,108,111,32,104,101,108,108,111,32,104,101,108,108,111]).toList)=true:=by simp
 clear hX hD hsD;go_enter func7,ntmps7
 go_wp2_with fail
 refine H1.out.mono ?_;rintro e w1 ⟨⟨S,hf,rfl⟩,hb1⟩;have Hb1:=hid hb1;have hd:=fun W=>H2.out W S hf
 rw[hf.yes 17 (by omega)]at hd;dsimp only at hd;rw[hsX]at hd;obtain⟨k,a,_,hh⟩:=hf.head;have hln:=hf.len;have hep:=fun W=>Ki S W (by omega) hf.lt
 have hsi:=fun W=>Ov S W (by omega) hf.lt
 rw[hh]at hep hsi;dsimp only at hep hsi;rw[hXl]at hsi;have Hd:=hid hd;have Hep:=hid hep;have Hsi:=hid hsi;clear hb1 hd hep hsi hf hh hln H1 H2 hsX;generalize strOf S=sS at *;go_wp2_with fail
 refine(Hd.out _).mono ?_;rintro e w2 ⟨rfl,hb2⟩;have Hb2:=hid (Hb1.out.trans (hb2.mono Hb1.out.size));clear hb2 Hb1 Hd;go_wp2_with fail
 refine(Hep.out _).mono ?_;rintro e w3 ⟨rfl,hb3⟩;have Hb3:=hid (Hb2.out.trans (hb3.mono Hb2.out.size));clear hb3 Hb2 Hep;go_wp2_with fail
 refine(Hsi.out _).mono ?_;rintro e w4 ⟨rfl,hb4⟩;have Hb4:=hid (Hb3.out.trans (hb4.mono Hb3.out.size));clear hb4 Hb3 Hsi;go_wp2_with fail
 refine(H5.out _).mono ?_;rintro e w5 ⟨⟨S0,hf0,rfl⟩,hb5⟩;have Hb5:=hid (Hb4.out.trans (hb5.mono Hb4.out.size));have h11:(strOf S0).size=11:=by rw[aA];exact Uy hf0
 clear hb5 Hb4 H5 hf0;generalize strOf S0=s0 at *;go_wp2;go_ret;exact⟨rfl,Hb5.out⟩
theorem Kl(X D:List Nat)(cut:Int)(w:World)(hX:X.length≤9223372036854775807)(hD:D.length≤9223372036854775807)(h:200<X.length∨X.length<1∨100<D.length) :
  Calls prog 6 #[.string (strOf X),.string (strOf D),.int .u16 cut] w fun e w'=>e=.returned (.bool true)∧Below w.heap.size w w':=by
 have Haw:=hid (xW w);have hs1:=aA X;have hs2:=aA D;generalize strOf X=sX at *;generalize strOf D=sD at *;generalize X.length=m at *;generalize D.length=n at *;go_enter func6,ntmps6
 go_wp2_with fail
 refine Haw.out.mono ?_;rintro e w1 ⟨rfl,hb1⟩;by_cases h1:200<m
 ·have d1:decide ((200:Int)<(m:Int))=true:=decide_eq_true (by omega);clear h;go_wp2;go_ret;exact⟨rfl,hb1⟩
 ·have d1:decide ((200:Int)<(m:Int))=false:=decide_eq_false (by omega);by_cases h2:m<1
  ·have d2:decide ((m:Int)<1)=true:=decide_eq_true (by omega);clear h;go_wp2;go_ret;exact⟨rfl,hb1⟩
  ·have d2:decide ((m:Int)<1)=false:=decide_eq_false (by omega);have d3:decide ((100:Int)<(n:Int))=true:=decide_eq_true (by omega);clear h;go_wp2;go_ret;exact⟨rfl,hb1⟩
theorem Oj(X D:List Nat)(cut:Nat)(w:World)(hX:X.length≤200)(hX0:1≤X.length)(hD:D.length≤100)(hXlt:∀x∈X,x<256)(hDlt:∀x∈D,x<256)(hc:cut<65536) :
  Calls prog 6 #[.string (strOf X),.string (strOf D),.int .u16 (cut:Int)] w fun e w'=>e=.returned (.bool true)∧Below w.heap.size w w':=by
 have Haw:=hid (xW w);have hs1:=aA X;have hs2:=aA D;have d1:decide ((200:Int)<(X.length:Int))=false:=decide_eq_false (by omega);have d2:decide ((X.length:Int)<1)=false:=decide_eq_false (by omega);have d3:decide ((100:Int)<(D.length:Int))=false:=decide_eq_false (by omega);have henc:∀W,Calls prog 8 #[.string (strOf X),.string (strOf D),.int .i64 0,.int .i64 3] W fun e w'=>(∃S,Yj D X 0 S∧e=.returned (.tuple #[.string (strOf S),.int .i64 0]))∧Below W.heap.size W w':=fun W=>Od D X 0 3 W (by omega) (by omega) hDlt hXlt (by omega) ⟨by omega,by omega⟩
 have Yp:=hid henc;have Nv:=hid (fun W bs lim (hl:bs.length≤1000) hlt=>Ib D bs lim W hl hlt (by omega) hDlt);have hsub:IntKind.i64.wrap ((X.length:Int)-1)=(X.length:Int)-1:=by rw[IntWalk.i64_in _ (by omega)]
 have hcw:IntKind.i64.wrap (cut:Int)=(cut:Int):=by rw[IntWalk.i64_in _ (by omega)]
 clear henc hXlt hDlt;generalize strOf X=sX at *;generalize strOf D=sD at *;go_enter func6,ntmps6
 go_wp2_with fail
 refine Haw.out.mono ?_;rintro e w1 ⟨rfl,hb1⟩;have Hb1:=hid hb1;clear hb1 Haw;go_wp2_with fail
 refine(Yp.out _).mono ?_;rintro e w2 ⟨⟨S,hf,rfl⟩,hb2⟩;have Hb2:=hid (Hb1.out.trans (hb2.mono Hb1.out.size));clear hb2 Hb1 Yp;have hln:=hf.len;have hps:=hf.pos;have hsS:=aA S;have h1:=fun W=>Nv.out W S ((X.length:Int)-1) (by omega) hf.lt
 rw[hf.few _ (by omega)]at h1;dsimp only at h1;have hj:cut%S.length<S.length:=Nat.mod_lt _ hps;have h2:=fun W=>Nv.out W (S.take (cut%S.length)) (X.length:Int) (by rw[List.length_take];omega) (gM hf.lt _)
 rw[hf.cut _ hj]at h2;dsimp only at h2;have h3:=fun W=>Nv.out W (S++[120]) (X.length:Int) (by rw[List.length_append,List.length_singleton];omega) (jN hf.lt (by decide))
 rw[hf.more 120]at h3;dsimp only at h3;have hto:=fun W=>ql S (cut%S.length) (by omega) W
 have hadd:∀W:World,(Op.stringOp .add (strOf S) (ByteArray.mk #[120])).run prog W=.ok (.string (strOf (S++[120]))) W:=fun W=>Gq S [120] (by rw[List.length_singleton];omega) W
 have amc:(cut:Int).tmod (S.length:Int)=((cut%S.length:Nat):Int):=by
  rw[Int.tmod_eq_emod_of_nonneg (by omega)];exact(Int.natCast_emod cut S.length).symm
 have akS:(cut:Int)%(S.length:Int)=((cut%S.length:Nat):Int):=(Int.natCast_emod cut S.length).symm;have hne:¬(S.length:Int)=0:=by omega
 have H1:=hid h1;have H2:=hid h2;have H3:=hid h3;clear h1 h2 h3 hf hln hj hps Nv;generalize strOf (S++[120])=s3 at *;generalize strOf (S.take (cut%S.length))=s2 at *;generalize cut%S.length=q at *;generalize strOf S=sS at *;generalize S.length=m at *;go_wp2_with fail
 refine(H1.out _).mono ?_;rintro e w3 ⟨rfl,hb3⟩;have Hb3:=hid (Hb2.out.trans (hb3.mono Hb2.out.size));clear hb3 Hb2 H1;go_wp2_with fail
 refine(H2.out _).mono ?_;rintro e w4 ⟨rfl,hb4⟩;have Hb4:=hid (Hb3.out.trans (hb4.mono Hb3.out.size));clear hb4 Hb3 H2;go_wp2_with fail
 refine(H3.out _).mono ?_;rintro e w5 ⟨rfl,hb5⟩;have Hb5:=hid (Hb4.out.trans (hb5.mono Hb4.out.size));clear hb5 Hb4 H3;go_wp2;go_ret;exact⟨rfl,Hb5.out⟩
end Go.Proofs.YtgiicohbigiapaaGreat
