/- Contracts, and what they rest on. Conditions: the theorems' premises. -/
import Derived.Test.YtgiicohbigiapaaGreatRbu
import Derived.Test.YtgiicohbigiapaaGreatRbn
import Derived.Test.YtgiicohbigiapaaGreatRbj
set_option maxHeartbeats 4000000
set_option maxRecDepth 100000
open Go.Lib(hid)
open Go.Proofs.Tryz Go.Proofs.YtgiicohbigiapaaGreat.Bm
namespace Go.Proofs.YtgiicohbigiapaaGreat
open Go.RowKit
def adn(w w':World)(b:Nat)(e:Ending)(o:Option (List Nat)):Prop:=
 ∃x ok st,e=.returned (.tuple #[.string (strOf x),.bool ok])∧(ok=true→CR w' b st)∧w.grownBy w' (some b)∧o=if ok=true∧st=some []then some x else none
theorem aey(D:List Nat)(n:Nat)(bs:List Nat):iq D 2 n bs=match tY bs (n:Int)with
  | none=>none
  | some t=>match qO (bs.drop t.2) (n:Int)with
   | none=>none
   | some q=>if t.2+q.2=bs.length∧(uj D t.1 (q.1.map qP) n).2=0∧(uj D t.1 (q.1.map qP) n).1.length=n then some (uj D t.1 (q.1.map qP) n).1 else none:=by
 unfold iq;rw[if_neg (by decide),if_neg (by decide)];rfl
theorem Uq(l:List Bm.Stp)(h:∀s∈l,s.1≤65538∧s.2.1≤65538∧s.2.2≤65538):ZOk (l.map qP):=fun s hs=>by
 obtain⟨t,ht,rfl⟩:=List.mem_map.1 hs;have:=h t ht;exact⟨⟨by show _≤(t.1:Int);omega,by show(t.1:Int)≤_;omega⟩,⟨by show _≤(t.2.1:Int);omega,by show(t.2.1:Int)≤_;omega⟩,⟨by show _≤(t.2.2:Int);omega,by show(t.2.2:Int)≤_;omega⟩⟩
theorem Om(D L:List Nat)(l:List StZ)(n:Nat):(uj D L l n).2≤5:=by
 unfold uj;split
 ·exact Nat.zero_le _
 ·rcases Ay (a:=D.length) (lim:=n) l 0 L.length with h | h | h
  ·rw[h];exact Nat.zero_le _
  ·rw[h];decide
  ·rw[h];decide
theorem aat(D L:List Nat)(l:List StZ)(n:Nat):(uj D L l n).1.length≤n:=by
 unfold uj;split
 ·next h=>
  have h1:=Jl h;have h2:=mW h1 (show D.length=D.length+0 by omega);have h3:=(vT h1).2;dsimp only;rw[List.length_drop,h2];omega
 ·exact Nat.zero_le _
theorem zZ(b n:Nat)(D bs:List Nat)(w:World)(hl:bs.length≤1000)(hlt:∀x∈bs,x<256)(hD:D.length≤1000)(hDlt:∀x∈D,x<256)(hn:n≤512)(h:CR w b (some bs)) :
  Calls prog 43 #[.pointer (some ⟨b,0,none⟩),.int .i64 (n:Int),.string (strOf D)] w fun e w'=>adn w w' b e (iq D 2 n bs):=by
 have H1:=hid (QX b bs (n:Int) w hl hlt ⟨by omega,by omega⟩ h);have hb2:=aey D n bs;clear h;cases hd:tY bs (n:Int)with
 | none=>
  rw[hd]at H1 hb2;dsimp only at hb2;rw[hb2];clear hb2 hd hl hlt hD hDlt hn;go_enter func43,ntmps43
  go_wp2_with fail
  refine H1.out.mono ?_;rintro e w1 ⟨rfl,hg1⟩;go_wp2;go_ret2;exact⟨[],false,none,rfl,fun h=>(by cases h),hg1,rfl⟩
 | some t=>
  obtain⟨L,j⟩:=t;have hj:=aaI bs n (L,j) hlt hd;have CS:=Po bs n (L,j) hlt hd;dsimp only at hj CS;rw[hd]at H1 hb2;dsimp only at hb2;have hdl:(bs.drop j).length≤1000:=by rw[List.length_drop];omega
  have H2:=hid (fun W hc=>Xk b (bs.drop j) (n:Int) W (by omega) (by omega) (by omega) (bZ hlt j) hc);cases hs:qO (bs.drop j) (n:Int)with
  | none=>
   rw[hs]at H2 hb2;dsimp only at hb2;rw[hb2];clear hb2 hs hd hl hlt hD hDlt hn hj CS hdl;go_enter func43,ntmps43
   go_wp2_with fail
   refine H1.out.mono ?_;rintro e w1 ⟨⟨rfl,hc1⟩,hg1⟩;have H3:=hid (H2.out w1 hc1);have Hg1:=hid hg1;clear hc1 hg1 H1 H2;go_wp2_with fail
   refine H3.out.mono ?_;rintro e w2 ⟨⟨A,c,rfl⟩,hg2⟩;go_wp2;go_ret2;exact⟨[],false,none,rfl,fun h=>(by cases h),aA Hg1.out hg2,rfl⟩
  | some q=>
   obtain⟨l,i⟩:=q;have hi:=ZG (bs.drop j) n (l,i) hs;have hsm:=Uq l (SS (bs.drop j) n (l,i) hs);rw[hs]at H2 hb2;rw[List.length_drop]at hi;dsimp only at hi hb2;have agc:=hid (fun W A c hr=>Wp D L A c (l.map qP) (n:Int) n W (by omega) (by omega) (by rw[List.length_map];omega) ⟨by omega,by omega⟩ (by omega) (by omega) hDlt CS hsm (ZJ hr));have hz5:=Om D L (l.map qP) n;have hzl:=aat D L (l.map qP) n;rw[List.length_map]at agc;generalize uj D L (l.map qP) n=Z at *;obtain⟨X,z⟩:=Z;dsimp only at hb2 agc hz5 hzl;have hsz:=ay X;have gV:Hid (∀W,CR W b (some ((bs.drop j).drop i))→w.grownBy W (some b)→adn w W b (.returned (.tuple #[.string (strOf X),.bool (decide (z=0) && decide (X.length=n))])) (iq D 2 n bs)):=hid (fun W hc hg=>by
    refine⟨X,_,some ((bs.drop j).drop i),rfl,fun _=>hc,hg,?_⟩;rw[hb2,List.drop_drop];by_cases hz:z=0∧X.length=n
    ·by_cases hji:j+i=bs.length
     ·rw[if_pos ⟨hji,hz.1,hz.2⟩,if_pos ⟨by simp[hz.1,hz.2],by rw[List.drop_eq_nil_of_le (by omega)]⟩]
     ·rw[if_neg (fun c=>hji c.1),if_neg (fun c=>hji (by
       have h1:=List.drop_eq_nil_iff.1 (Option.some.inj c.2);omega))]
    ·rw[if_neg (fun c=>hz c.2),if_neg (fun c=>hz (by simpa using c.1))])
   clear hb2 hs hd hl hlt hD hDlt hj CS hdl hi hsm;go_enter func43,ntmps43
   go_wp2_with fail
   refine H1.out.mono ?_;rintro e w1 ⟨⟨rfl,hc1⟩,hg1⟩;have H3:=hid (H2.out w1 hc1);have Hg1:=hid hg1;clear hc1 hg1 H1 H2;go_wp2_with fail
   refine H3.out.mono ?_;rintro e w2 ⟨⟨⟨A,c,rfl,hr⟩,hc2⟩,hg2⟩;have Hr2:=hid (agc.out w2 A c hr);have Hg2:=hid (aA Hg1.out hg2);have Hc2:=hid hc2;clear hr hc2 hg2 Hg1 agc H3;dsimp only;generalize strOf X=sX at *;go_wp2_with fail
   refine Hr2.out.mono ?_;rintro e w3 ⟨rfl,hb3⟩;have hend:=gV.out w3 (Hc2.out.below hb3) (aA Hg2.out (ak hb3 _));clear Hr2 hb3 Hg2 Hc2 gV;by_cases hz:z=0
   ·subst hz;have dn:((X.length:Int) == (n:Int))=decide (X.length=n):=by
     by_cases h:X.length=n
     ·rw[h,decide_eq_true rfl];simp
     ·rw[decide_eq_false h,beq_eq_false_iff_ne];omega
    have dn2:decide ((X.length:Int)=(n:Int))=decide (X.length=n):=decide_eq_decide.2 (by omega);rw[decide_eq_true rfl,Bool.true_and]at hend;go_wp2;go_ret2;exact hend
   ·have dz:((z:Int) == 0)=false:=by rw[beq_eq_false_iff_ne];omega
    have dz2:decide ((z:Int)=0)=false:=decide_eq_false (by omega);rw[decide_eq_false hz,Bool.false_and]at hend;go_wp2;go_ret2;exact hend
theorem acv(n:Nat)(bs:List Nat):(if (gW n (some bs)).2=some []then some (gW n (some bs)).1 else none)=if bs.length=n then some bs else none:=by
 by_cases h:n≤bs.length
 ·rw[wP n bs h];by_cases h2:bs.length=n
  ·rw[if_pos h2,if_pos (by rw[List.drop_eq_nil_of_le (by omega)])];dsimp only;rw[List.take_of_length_le (by omega)]
  ·rw[if_neg h2,if_neg (fun c=>h2 (by have:=List.drop_eq_nil_iff.1 (Option.some.inj c);omega))]
 ·rw[DJ n bs h,if_neg (by simp),if_neg (by omega)]
theorem OM(b ep n s:Nat)(D bs:List Nat)(w:World)(h:CR w b (some bs)) :
  Calls prog 20 #[.pointer (some ⟨b,0,none⟩),.agg #[.int .u64 0,.int .i64 (ep:Int),.int .i64 (n:Int),.int .u64 (s:Int)],.string (strOf D)] w fun e w'=>adn w w' b e (iq D 0 n bs):=by
 have hc0:=h.below ((Below.refl w.heap.size w).alloc (Nat.le_refl _) (.cells #[.int .u64 0,.int .i64 (ep:Int),.int .i64 (n:Int),.int .u64 (s:Int)] 49));have Hg0:=hid (aD (au w (some b)) (.cells #[.int .u64 0,.int .i64 (ep:Int),.int .i64 (n:Int),.int .u64 (s:Int)] 49));have hr:=fZ b (some bs) (n:Int) _ hc0;rw[Int.toNat_natCast]at hr;have he:iq D 0 n bs=if true=true∧(gW n (some bs)).2=some []then some (gW n (some bs)).1 else none:=by
  simp only[true_and];rw[acv n bs];rfl
 have He:=hid he;have Hr:=hid hr;clear h hc0 hr he;generalize gW n (some bs)=R at *;obtain⟨x,st⟩:=R;dsimp only at Hr He;generalize strOf D=sD at *;have HX:=hid (fun e (h:e=Ending.returned (.tuple #[.string (strOf x),.bool true]))=>h);go_enter func20,ntmps20
 go_wp2_with fail
 refine Hr.out.mono ?_;rintro e w1 ⟨rfl,hc1,hg1⟩;go_wp2;go_ret2;exact⟨x,true,st,rfl,fun _=>hc1,aA Hg0.out hg1,by simpa using He.out⟩
theorem OP(b ep n s:Nat)(D bs:List Nat)(w:World)(hl:bs.length≤1000)(hlt:∀x∈bs,x<256)(hD:D.length≤1000)(hDlt:∀x∈D,x<256)(hn:n≤512)(h:CR w b (some bs)) :
  Calls prog 20 #[.pointer (some ⟨b,0,none⟩),.agg #[.int .u64 2,.int .i64 (ep:Int),.int .i64 (n:Int),.int .u64 (s:Int)],.string (strOf D)] w fun e w'=>adn w w' b e (iq D 2 n bs):=by
 have hc0:=h.below ((Below.refl w.heap.size w).alloc (Nat.le_refl _) (.cells #[.int .u64 2,.int .i64 (ep:Int),.int .i64 (n:Int),.int .u64 (s:Int)] 49));have Hg0:=hid (aD (au w (some b)) (.cells #[.int .u64 2,.int .i64 (ep:Int),.int .i64 (n:Int),.int .u64 (s:Int)] 49));have Hr:=hid (zZ b n D bs _ hl hlt hD hDlt hn hc0);clear h hc0 hl hlt hD hDlt hn;generalize strOf D=sD at *;go_enter func20,ntmps20
 go_wp2_with fail
 refine Hr.out.mono ?_;rintro e w1 ⟨x,ok,st,rfl,hc1,hg1,he⟩;go_wp2;go_ret2;exact⟨x,ok,st,rfl,hc1,aA Hg0.out hg1,he⟩
theorem OO(b ep n s:Nat)(D bs:List Nat)(w:World)(hlt:∀x∈bs,x<256)(hn:n≤512)(h:CR w b (some bs)) :
  Calls prog 20 #[.pointer (some ⟨b,0,none⟩),.agg #[.int .u64 1,.int .i64 (ep:Int),.int .i64 (n:Int),.int .u64 (s:Int)],.string (strOf D)] w fun e w'=>adn w w' b e (iq D 1 n bs):=by
 have hc0:=h.below ((Below.refl w.heap.size w).alloc (Nat.le_refl _) (.cells #[.int .u64 1,.int .i64 (ep:Int),.int .i64 (n:Int),.int .u64 (s:Int)] 49));have Hg0:=hid (aD (au w (some b)) (.cells #[.int .u64 1,.int .i64 (ep:Int),.int .i64 (n:Int),.int .u64 (s:Int)] 49));have hrow:Row (w.alloc (.cells #[.int .u64 1,.int .i64 (ep:Int),.int .i64 (n:Int),.int .u64 (s:Int)] 49)) w.heap.size 49 [.int .u64 1,.int .i64 (ep:Int),.int .i64 (n:Int),.int .u64 (s:Int)]:=Row.new w 49 [.int .u64 1,.int .i64 (ep:Int),.int .i64 (n:Int),.int .u64 (s:Int)];have fu:=hid hrow;have Hb:=hid h.lt;have hr:=fun W (hc:CR W b (some bs))=>fZ b (some bs) 1 W hc
 rw[show(1:Int).toNat=1 from rfl]at hr;have hrep:∃R,(∀W,Calls prog 30 #[.string (strOf (gW 1 (some bs)).1),.int .i64 (n:Int)] W fun e w'=>e=.returned (.string (strOf R))∧Below W.heap.size W w') ∧
   iq D 1 n bs=if true=true∧(gW 1 (some bs)).2=some []then some R else none:=by
  cases bs with
  | nil=>exact⟨[],fun W=>xg n W (by omega),rfl⟩
  | cons x u=>
   refine⟨List.replicate n x,fun W=>oU x n W (by omega),?_⟩;cases u with
   | nil=>rfl
   | cons y u=>rfl
 obtain⟨R,hrep,he⟩:=hrep;have Hrep:=hid hrep;have He:=hid he;have Hr:=hid hr;have Hc0:=hid hc0;clear h hc0 hr he hrep hrow hlt hn;generalize gW 1 (some bs)=Q at *;obtain⟨x,st⟩:=Q;dsimp only at Hr He Hrep;generalize strOf D=sD at *;go_enter func20,ntmps20
 go_upto_region 5 with fail
 generalize w.alloc (.cells #[.int .u64 1,.int .i64 (ep:Int),.int .i64 (n:Int),.int .u64 (s:Int)] 49)=wA at *;have uQ:=hid (show wA.cell? ⟨w.heap.size,2,none⟩=some (.int .i64 (n:Int))from fu.out.cell 2);refine wp_region_held_drew (S:=(fun W:World=>W.cell? ⟨w.heap.size,2,none⟩=some (.int .i64 (n:Int)))) (by kernel_rfl) (by exact uQ.out) (fun hHeld=>?_);refine wpAnyH_take (i:=0) (oi:={dst:=some 18,op:=.move (.tmp 0),type:=46,pos:= "block.go:126",after:=#[],guard:=none}) (v:=?_) rfl (by kernel_rfl) (by kernel_rfl) (by kernel_rfl) (fun _ _ _ h=>h) (Or.inl ⟨by rfl,?_⟩) (by assumption) ?_;rotate_left
 ·(intro w hSw;(try dsimp only at hSw);go_simp;(try with_reducible rfl))
 try simp only[Act.put,List.setIfInBounds_toArray,List.set_cons_zero,List.set_cons_succ]
 refine wpAnyH_take (i:=2) (oi:={dst:=some 20,op:=.fieldAddr 49 (.tmp 4) 2,type:=0,pos:= "block.go:126",after:=#[],guard:=none}) (v:=?_) rfl (by kernel_rfl) (by kernel_rfl) (by kernel_rfl) (fun _ _ _ h=>h) (Or.inl ⟨by rfl,?_⟩) (by assumption) ?_;rotate_left
 ·(intro w hSw;(try dsimp only at hSw);go_simp;(try with_reducible rfl))
 try simp only[Act.put,List.setIfInBounds_toArray,List.set_cons_zero,List.set_cons_succ]
 refine wpAnyH_take (i:=3) (oi:={dst:=some 21,op:=.load 3 (.tmp 20),type:=3,pos:= "block.go:126",after:=#[{on:=2,ground:=.data}],guard:=none}) (v:=?_) rfl (by kernel_rfl) (by kernel_rfl) (by kernel_rfl) (fun _ _ _ h=>h) (Or.inl ⟨by rfl,?_⟩) (by assumption) ?_;rotate_left
 ·(intro w hSw;(try dsimp only at hSw);go_simp;(try with_reducible rfl))
 try simp only[Act.put,List.setIfInBounds_toArray,List.set_cons_zero,List.set_cons_succ]
 refine wpAnyH_ready (rs:=[1]) (by kernel_rfl) (by simp) ?_;refine AllReadyH.cons (o:={dst:=some 19,op:=.call {callee:=.value (.func 42),args:=#[.tmp 18,.const (.int .i64 1)],argTypes:=#[46,3]},type:=9,pos:= "block.go:126",after:=#[{on:=0,ground:=.data}],guard:=none}) rfl (fun K hK=>?_) AllReadyH.nil;go_simp
 (go_at_call 42;refine(Hr.out _ Hc0.out.drew).mono ?_;rintro e w1 ⟨rfl,hc1,hg1⟩;have HG:=hid (aA (bA Hg0.out) hg1);have HC:=hid hc1;have HK:=hid (show w1.cell? ⟨w.heap.size,2,none⟩=some (.int .i64 (n:Int))from(fu.out.keep (w':=w1) (hg1.block w.heap.size fu.out.lt (by have:=Hb.out;simp;omega))).cell 2);clear hc1 hg1)
 go_simp;refine hK.out _ _ (by exact HK.out) (fun hHeld=>?_);clear hK K
 try simp only[Act.put,List.setIfInBounds_toArray,List.set_cons_zero,List.set_cons_succ]
 refine wpAnyH_ready (rs:=[4]) (by kernel_rfl) (by simp) ?_;refine AllReadyH.cons (o:={dst:=some 22,op:=.call {callee:=.value (.func 30),args:=#[.tmp 19,.tmp 21],argTypes:=#[9,3]},type:=9,pos:= "block.go:126",after:=#[{on:=1,ground:=.data},{on:=3,ground:=.data},{on:=1,ground:=.chain}],guard:=none}) rfl (fun K hK=>?_) AllReadyH.nil;go_simp
 (go_at_call 30;refine(Hrep.out _).mono ?_;rintro e w2 ⟨rfl,hb2⟩;have HZ:=hid (aA HG.out (ak hb2 (some b)));have HD:=hid (HC.out.below hb2);have HK2:=hid ((hb2.cell (p:=⟨w.heap.size,2,none⟩) (World.block_lt_of_cell? _ _ HK.out)).trans HK.out);clear hb2)
 go_simp;refine hK.out _ _ (by exact HK2.out) (fun hHeld=>?_);clear hK K
 try simp only[Act.put,List.setIfInBounds_toArray,List.set_cons_zero,List.set_cons_succ]
 refine wpAnyH_take (i:=5) (oi:={dst:=some 6,op:=.assign (.tmp 22),type:=9,pos:= "block.go:126",after:=#[{on:=4,ground:=.data},{on:=4,ground:=.chain},{on:=0,ground:=.phase},{on:=1,ground:=.phase},{on:=2,ground:=.phase},{on:=3,ground:=.phase},{on:=4,ground:=.phase}],guard:=none}) (v:=?_) rfl (by kernel_rfl) (by kernel_rfl) (by kernel_rfl) (fun _ _ _ h=>h) (Or.inl ⟨by rfl,?_⟩) (by assumption) ?_;rotate_left
 ·(intro w hSw;(try dsimp only at hSw);go_simp;(try with_reducible rfl))
 try simp only[Act.put,List.setIfInBounds_toArray,List.set_cons_zero,List.set_cons_succ]
 refine wpAnyH_take (i:=6) (oi:={dst:=some 7,op:=.assign (.const (.bool true)),type:=4,pos:= "block.go:126",after:=#[{on:=5,ground:=.chain},{on:=0,ground:=.phase},{on:=1,ground:=.phase},{on:=2,ground:=.phase},{on:=3,ground:=.phase},{on:=4,ground:=.phase},{on:=5,ground:=.phase}],guard:=none}) (v:=?_) rfl (by kernel_rfl) (by kernel_rfl) (by kernel_rfl) (fun _ _ _ h=>h) (Or.inl ⟨by rfl,?_⟩) (by assumption) ?_;rotate_left
 ·(intro w hSw;(try dsimp only at hSw);go_simp;(try with_reducible rfl))
 try simp only[Act.put,List.setIfInBounds_toArray,List.set_cons_zero,List.set_cons_succ]
 refine wpAnyH_done (by kernel_rfl) ?_ _;go_wp2;go_ret2;exact⟨R,true,st,rfl,fun _=>HD.out,HZ.out,by simpa using He.out⟩
theorem EI(b k ep n s:Nat)(D bs:List Nat)(w:World)(hk:k<3)(hl:bs.length≤1000)(hlt:∀x∈bs,x<256)(hD:D.length≤1000)(hDlt:∀x∈D,x<256)(hn:n≤512)(h:CR w b (some bs)) :
  Calls prog 20 #[.pointer (some ⟨b,0,none⟩),.agg #[.int .u64 (k:Int),.int .i64 (ep:Int),.int .i64 (n:Int),.int .u64 (s:Int)],.string (strOf D)] w fun e w'=>adn w w' b e (iq D k n bs):=by
 rcases(by omega:k=0∨k=1∨k=2)with rfl | rfl | rfl
 ·exact OM b ep n s D bs w h
 ·exact OO b ep n s D bs w hlt hn h
 ·exact OP b ep n s D bs w hl hlt hD hDlt hn h
theorem OJ{D bs X:List Nat}{k n:Nat}(hD:∀x∈D,x<256)(hbs:∀x∈bs,x<256)(h:iq D k n bs=some X):∀x∈X,x<256:=by
 unfold iq at h;split at h
 ·split at h
  ·injection h with h;subst h;exact hbs
  ·cases h
 ·split at h
  ·split at h
   ·next h1=>
    injection h with h
    subst h;intro x hx;rw[(List.mem_replicate.1 hx).2,List.getElem?_eq_getElem (by omega)];exact hbs _ (List.getElem_mem _)
   ·cases h
  ·split at h
   ·cases h
   ·next t ht=>
    split at h
    ·cases h
    ·next q _=>
     split at h
     ·next hc=>
      injection h with h
      rw[←h];unfold uj;split
      ·exact bZ (Bt _ _ _ hD (Po bs n t hbs ht)) _
      ·intro x hx;cases hx
     ·cases h
theorem Ve(D bs:List Nat)(lim:Int)(w:World)(hl:bs.length≤1000)(hlt:∀x∈bs,x<256)(hD:D.length≤1000)(hDlt:∀x∈D,x<256) :
  Calls prog 9 #[.string (strOf bs),.string (strOf D),.int .i64 lim] w fun e w'=>e=.returned (.tuple #[.string (strOf (oD D bs lim).1),.int .i64 ((oD D bs lim).2:Int)])∧Below w.heap.size w w':=by
 have Hn:=hid (Ag bs w);have Hh:=hid (fun W hc=>oC w.heap.size bs W (by omega) hlt hc);have agb:=hid (fun W k ep n s at_ (hk:k<3) (hn:n≤512) hc=>EI w.heap.size k ep n s D (bs.drop at_) W hk (by rw[List.length_drop];omega) (bZ hlt at_) hD hDlt hn hc);have YO:=hid (fun k n at_ X (h:iq D k n (bs.drop at_)=some X)=>OJ hDlt (bZ hlt at_) h);obtain⟨V,hV⟩:∃V,V=oD D bs lim:=⟨_,rfl⟩;rw[←hV];have hhd:∀h,gy bs=some h→h.1<3:=fun h he=>by
  unfold gy at he;split at he
  ·cases he
  ·split at he
   ·cases he
   ·next k r hk=>
    cases ht:uh r with
    | none=>rw[ht]at he;cases he
    | some t=>rw[ht]at he;injection he with he;rw[←he];dsimp only;omega
 unfold oD at hV;clear hl hlt hD hDlt;generalize strOf bs=sB at *;generalize strOf D=sD at *;go_enter func9,ntmps9
 go_wp2_with fail
 refine Hn.out.mono ?_;rintro e w1 ⟨rfl,hc1,hb1⟩;have Hb1:=hid hb1;have Hh1:=hid (Hh.out w1 hc1);clear hc1 hb1 Hn Hh;go_wp2_with fail
 refine Hh1.out.mono ?_;rintro e w2 ⟨hp,hg2⟩;have Hsz:=hid Hb1.out.size;have Hb2:=hid (Hb1.out.trans (below_grown hg2 (Nat.le_refl _) Hb1.out.size));have Hw1:=hid hg2.size;clear hg2 Hb1 Hh1;cases hd:gy bs with
 | none=>
  rw[hd]at hp hV;obtain rfl:e=.returned (.tuple #[.agg #[.int .u64 0,.int .i64 0,.int .i64 0,.int .u64 0],.int .i64 3]):=hp;subst hV;clear hd hhd agb YO;have HbZ:=hid (fun u=>Hb2.out.alloc Hb2.out.size u);clear Hb2;go_wp2;go_ret2;exact⟨rfl,HbZ.out _⟩
 | some h=>
  obtain⟨k,ep,n,s,at_⟩:=h;have hk:=hhd _ hd;rw[hd]at hp hV;obtain⟨rfl,hc2⟩:e=.returned (.tuple #[.agg #[.int .u64 (k:Int),.int .i64 (ep:Int),.int .i64 (n:Int),.int .u64 (s:Int)],.int .i64 0])∧CR w2 w.heap.size (some (bs.drop at_)):=hp;dsimp only at hV hk;have hrow:Row (w2.alloc (.cells #[.int .u64 (k:Int),.int .i64 (ep:Int),.int .i64 (n:Int),.int .u64 (s:Int)] 49)) w2.heap.size 49 [.int .u64 (k:Int),.int .i64 (ep:Int),.int .i64 (n:Int),.int .u64 (s:Int)]:=Row.new w2 49 [.int .u64 (k:Int),.int .i64 (ep:Int),.int .i64 (n:Int),.int .u64 (s:Int)];have fu:=hid hrow;have HbA:=hid (Hb2.out.alloc Hb2.out.size (.cells #[.int .u64 (k:Int),.int .i64 (ep:Int),.int .i64 (n:Int),.int .u64 (s:Int)] 49));have HcA:=hid (hc2.below ((Below.refl w2.heap.size w2).alloc (Nat.le_refl _) (.cells #[.int .u64 (k:Int),.int .i64 (ep:Int),.int .i64 (n:Int),.int .u64 (s:Int)] 49)));have aga:=hid (hc2.lt);clear hd hhd hc2 Hb2 hrow;by_cases hbig:lim<(n:Int)∨512<n
  ·rw[if_pos hbig]at hV;subst hV;have d1:decide (min lim 512<(n:Int))=true:=decide_eq_true (by omega);clear agb YO hbig;go_wp2;go_ret2;exact⟨rfl,HbA.out⟩
  ·rw[if_neg hbig]at hV;have d1:decide (min lim 512<(n:Int))=false:=decide_eq_false (by omega);have Hr:=hid (agb.out _ k ep n s at_ hk (by omega) HcA.out);have uQ:=hid (fu.out.cell 3);have Hx:=hid (fun X h=>YO.out k n at_ X h);have Hxl:=hid (fun X (h:iq D k n (bs.drop at_)=some X)=>Nat.le_trans (Nat.le_of_eq (Oz h)) (by omega:n≤512));clear agb YO;have c0:=fu.out.cell 0;have c1:=fu.out.cell 1;have c2:=fu.out.cell 2;have c3:=fu.out.cell 3;simp only[List.getElem?_cons_zero,List.getElem?_cons_succ]at c0 c1 c2 c3;go_wp2_with fail
   clear c0 c1 c2 c3;generalize w2.alloc (.cells #[.int .u64 (k:Int),.int .i64 (ep:Int),.int .i64 (n:Int),.int .u64 (s:Int)] 49)=wA at *;refine Hr.out.mono ?_;rintro e w3 ⟨x,ok,st,rfl,hc3,hg3,he⟩;have hrow3:=fu.out.keep (hg3.block w2.heap.size fu.out.lt (by have:=aga.out;simp;omega));have BO:=hid (show w3.cell? ⟨w2.heap.size,3,none⟩=some (.int .u64 (s:Int))from hrow3.cell 3);have Hb3:=hid (HbA.out.trans (below_grown hg3 (Nat.le_refl _) HbA.out.size));clear hrow3 hg3 HbA fu HcA uQ Hr;cases ok with
   | false=>
    rw[he]at hV;simp only[Bool.false_eq_true,false_and,if_false]at hV;subst hV;clear he hc3 Hx Hxl BO;go_wp2;go_ret2;exact⟨rfl,Hb3.out⟩
   | true=>
    have Hd:=hid (Si w.heap.size st w3 (hc3 rfl));by_cases hst:st=some []
    ·rw[decide_eq_true hst]at Hd;rw[if_pos ⟨rfl,hst⟩]at he;rw[he]at hV;dsimp only at hV;have hx:=Hx.out x he;have hxl:=Hxl.out x he;have adi:=hid (fun W=>Tf x W (by omega) hx);clear he hc3 Hx Hxl hst hx hxl;go_wp2_with fail
     refine Hd.out.mono ?_;rintro e w4 ⟨rfl,rfl⟩;clear Hd;go_upto_region 10 with fail
     refine wp_region_held_drew (S:=(fun W:World=>W.cell? ⟨w2.heap.size,3,none⟩=some (.int .u64 (s:Int)))) (by kernel_rfl) (by exact BO.out) (fun hHeld=>?_);refine wpAnyH_take (i:=0) (oi:={dst:=some 42,op:=.move (.tmp 11),type:=9,pos:= "block.go:70",after:=#[],guard:=none}) (v:=?_) rfl (by kernel_rfl) (by kernel_rfl) (by kernel_rfl) (fun _ _ _ h=>h) (Or.inl ⟨by rfl,?_⟩) (by assumption) ?_;rotate_left
     ·(intro w hSw;(try dsimp only at hSw);go_simp;(try with_reducible rfl))
     try simp only[Act.put,List.setIfInBounds_toArray,List.set_cons_zero,List.set_cons_succ]
     refine wpAnyH_take (i:=2) (oi:={dst:=some 44,op:=.fieldAddr 49 (.tmp 9) 3,type:=0,pos:= "block.go:70",after:=#[],guard:=none}) (v:=?_) rfl (by kernel_rfl) (by kernel_rfl) (by kernel_rfl) (fun _ _ _ h=>h) (Or.inl ⟨by rfl,?_⟩) (by assumption) ?_;rotate_left
     ·(intro w hSw;(try dsimp only at hSw);go_simp;(try with_reducible rfl))
     try simp only[Act.put,List.setIfInBounds_toArray,List.set_cons_zero,List.set_cons_succ]
     refine wpAnyH_take (i:=3) (oi:={dst:=some 45,op:=.load 31 (.tmp 44),type:=31,pos:= "block.go:70",after:=#[{on:=2,ground:=.data}],guard:=none}) (v:=?_) rfl (by kernel_rfl) (by kernel_rfl) (by kernel_rfl) (fun _ _ _ h=>h) (Or.inl ⟨by rfl,?_⟩) (by assumption) ?_;rotate_left
     ·(intro w hSw;(try dsimp only at hSw);go_simp;(try with_reducible rfl))
     try simp only[Act.put,List.setIfInBounds_toArray,List.set_cons_zero,List.set_cons_succ]
     refine wpAnyH_ready (rs:=[1]) (by kernel_rfl) (by simp) ?_;refine AllReadyH.cons (o:={dst:=some 43,op:=.call {callee:=.value (.func 22),args:=#[.tmp 42],argTypes:=#[9]},type:=31,pos:= "block.go:70",after:=#[{on:=0,ground:=.data}],guard:=none}) rfl (fun K hK=>?_) AllReadyH.nil;go_simp
     (go_at_call 22;refine(adi.out _).mono ?_;rintro e w5 ⟨rfl,hb5⟩;have HZ:=hid (Hb3.out.drew.trans (hb5.mono Hb3.out.drew.size));have HK:=hid ((hb5.cell (p:=⟨w2.heap.size,3,none⟩) (World.block_lt_of_cell? _ _ BO.out)).trans BO.out);clear hb5)
     go_simp;refine hK.out _ _ (by exact HK.out) (fun hHeld=>?_);clear hK K
     try simp only[Act.put,List.setIfInBounds_toArray,List.set_cons_zero,List.set_cons_succ]
     refine wpAnyH_take (i:=4) (oi:={dst:=some 46,op:=.binOp .neq 31 (.tmp 43) (.tmp 45) 31,type:=4,pos:= "block.go:70",after:=#[{on:=1,ground:=.data},{on:=3,ground:=.data}],guard:=none}) (v:=?_) rfl (by kernel_rfl) (by kernel_rfl) (by kernel_rfl) (fun _ _ _ h=>h) (Or.inl ⟨by rfl,?_⟩) (by assumption) ?_;rotate_left
     ·(intro w hSw;(try dsimp only at hSw);go_simp;(try with_reducible rfl))
     try simp only[Act.put,List.setIfInBounds_toArray,List.set_cons_zero,List.set_cons_succ]
     refine wpAnyH_done (by kernel_rfl) ?_ _;by_cases hsum:Bm.sumOf x=s
     ·rw[if_pos hsum]at hV;subst hV;rw[hsum];clear adi hsum;go_wp2;go_ret2;exact⟨rfl,HZ.out⟩
     ·rw[if_neg hsum]at hV;subst hV;have dz:((Bm.sumOf x:Int) == (s:Int))=false:=by rw[beq_eq_false_iff_ne];omega
      clear adi;generalize Bm.sumOf x=y at *;go_wp2;go_ret2;exact⟨rfl,HZ.out⟩
    ·rw[decide_eq_false hst]at Hd;rw[if_neg (fun c=>hst c.2)]at he;rw[he]at hV;subst hV;clear he hc3 Hx Hxl hst BO;go_wp2_with fail
     refine Hd.out.mono ?_;rintro e w4 ⟨rfl,rfl⟩;clear Hd;go_wp2;go_ret2;exact⟨rfl,Hb3.out⟩
end Go.Proofs.YtgiicohbigiapaaGreat
