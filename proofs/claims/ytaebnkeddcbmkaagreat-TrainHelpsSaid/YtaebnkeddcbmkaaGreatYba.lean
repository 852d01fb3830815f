/- Contracts, and what they rest on. Conditions: the theorems' premises. -/
import Derived.Test.YtaebnkeddcbmkaaGreatYaz
import Derived.Test.YtaebnkeddcbmkaaGreatYas
import Derived.Test.YtaebnkeddcbmkaaGreatYav
set_option maxHeartbeats 4000000
set_option maxRecDepth 100000
open Go.Lib(hid)
open Go.Proofs.Tryz Go.Proofs.YtaebnkeddcbmkaaGreat.Bm
namespace Go.Proofs.YtaebnkeddcbmkaaGreat
open Go.RowKit
def ahc(w w':World)(b:Nat)(e:Ending)(o:Option (List Nat)):Prop:=
 ∃x ok st,e=.returned (.tuple #[.string (strOf x),.bool ok])/\(ok=true->CR w' b st)/\w.grownBy w' (some b)/\o=if ok=true/\st=some []then some x else none
theorem ais(D:List Nat)(n:Nat)(bs:List Nat):iC D 2 n bs=match vk bs (n:Int)with
  | none=>none
  | some t=>match su (bs.drop t.2) (n:Int)with
   | none=>none
   | some q=>if t.2+q.2=bs.length/\(vC D t.1 (q.1.map sw) n).2=0/\(vC D t.1 (q.1.map sw) n).1.length=n then some (vC D t.1 (q.1.map sw) n).1 else none:=by
 unfold iC;rw[if_neg (by decide),if_neg (by decide)];rfl
theorem XG(l:List Bm.Stp)(h:∀s∈l,s.1<=65538/\s.2.1<=65538/\s.2.2<=65538):ZOk (l.map sw):=fun s hs=>by
 obtain⟨t,ht,rfl⟩:=List.mem_map.1 hs;have:=h t ht;exact⟨⟨by show _<=(t.1:Int);omega,by show(t.1:Int)<=_;omega⟩,⟨by show _<=(t.2.1:Int);omega,by show(t.2.1:Int)<=_;omega⟩,⟨by show _<=(t.2.2:Int);omega,by show(t.2.2:Int)<=_;omega⟩⟩
theorem Ru(D L:List Nat)(l:List StZ)(n:Nat):(vC D L l n).2<=5:=by
 unfold vC;split
 ·exact Nat.zero_le _
 ·rcases Ce (a:=D.length) (lim:=n) l 0 L.length with h | h | h
  ·rw[h];exact Nat.zero_le _
  ·rw[h];decide
  ·rw[h];decide
theorem aed(D L:List Nat)(l:List StZ)(n:Nat):(vC D L l n).1.length<=n:=by
 unfold vC;split
 ·next h=>
  have h1:=LA h;have h2:=nH h1 (show D.length=D.length+0 by omega);have h3:=(xB h1).2;dsimp only;rw[List.length_drop,h2];omega
 ·exact Nat.zero_le _
theorem Bt(b n:Nat)(D bs:List Nat)(w:World)(hl:bs.length<=1000)(hlt:∀x∈bs,x<256)(hD:D.length<=1000)(hDlt:∀x∈D,x<256)(hn:n<=512)(h:CR w b (some bs)) :
  Calls prog 43 #[.pointer (some ⟨b,0,none⟩),.int .i64 (n:Int),.string (strOf D)] w fun e w'=>ahc w w' b e (iC D 2 n bs):=by
 have H1:=hid (Ux b bs (n:Int) w hl hlt ⟨by omega,by omega⟩ h);have hb2:=ais D n bs;clear h;cases hd:vk bs (n:Int)with
 | none=>
  rw[hd]at H1 hb2;dsimp only at hb2;rw[hb2];clear hb2 hd hl hlt hD hDlt hn;go_enter func43,ntmps43
  go_wp2_with fail
  refine H1.out.mono ?_;rintro e w1 ⟨rfl,hg1⟩;go_wp2;go_ret2;exact⟨[],false,none,rfl,fun h=>(by cases h),hg1,rfl⟩
 | some t=>
  obtain⟨L,j⟩:=t;have hj:=aev bs n (L,j) hlt hd;have Ev:=Sz bs n (L,j) hlt hd;dsimp only at hj Ev;rw[hd]at H1 hb2;dsimp only at hb2;have hdl:(bs.drop j).length<=1000:=by rw[List.length_drop];omega
  have H2:=hid (fun W hc=>aaJ b (bs.drop j) (n:Int) W (by omega) (by omega) (by omega) (dG hlt j) hc);cases hs:su (bs.drop j) (n:Int)with
  | none=>
   rw[hs]at H2 hb2;dsimp only at hb2;rw[hb2];clear hb2 hs hd hl hlt hD hDlt hn hj Ev hdl;go_enter func43,ntmps43
   go_wp2_with fail
   refine H1.out.mono ?_;rintro e w1 ⟨⟨rfl,hc1⟩,hg1⟩;have H3:=hid (H2.out w1 hc1);have Hg1:=hid hg1;clear hc1 hg1 H1 H2;go_wp2_with fail
   refine H3.out.mono ?_;rintro e w2 ⟨⟨A,c,rfl⟩,hg2⟩;go_wp2;go_ret2;exact⟨[],false,none,rfl,fun h=>(by cases h),ay Hg1.out hg2,rfl⟩
  | some q=>
   obtain⟨l,i⟩:=q;have hi:=adr (bs.drop j) n (l,i) hs;have hsm:=XG l (Wn (bs.drop j) n (l,i) hs);rw[hs]at H2 hb2;rw[List.length_drop]at hi;dsimp only at hi hb2;have ake:=hid (fun W A c hr=>ZI D L A c (l.map sw) (n:Int) n W (by omega) (by omega) (by rw[List.length_map];omega) ⟨by omega,by omega⟩ (by omega) (by omega) hDlt Ev hsm (ads hr));have hz5:=Ru D L (l.map sw) n;have hzl:=aed D L (l.map sw) n;rw[List.length_map]at ake;generalize vC D L (l.map sw) n=Z at *;obtain⟨X,z⟩:=Z;dsimp only at hb2 ake hz5 hzl;have hsz:=aA X;have dR:Hid (∀W,CR W b (some ((bs.drop j).drop i))->w.grownBy W (some b)->ahc w W b (.returned (.tuple #[.string (strOf X),.bool (decide (z=0) && decide (X.length=n))])) (iC D 2 n bs)):=hid (fun W hc hg=>by
    refine⟨X,_,some ((bs.drop j).drop i),rfl,fun _=>hc,hg,?_⟩;rw[hb2,List.drop_drop];by_cases hz:z=0/\X.length=n
    ·by_cases hji:j+i=bs.length
     ·rw[if_pos ⟨hji,hz.1,hz.2⟩,if_pos ⟨by simp[hz.1,hz.2],by rw[List.drop_eq_nil_of_le (by omega)]⟩]
     ·rw[if_neg (fun c=>hji c.1),if_neg (fun c=>hji (by
       have h1:=List.drop_eq_nil_iff.1 (Option.some.inj c.2);omega))]
    ·rw[if_neg (fun c=>hz c.2),if_neg (fun c=>hz (by simpa using c.1))])
   clear hb2 hs hd hl hlt hD hDlt hj Ev hdl hi hsm;go_enter func43,ntmps43
   go_wp2_with fail
   refine H1.out.mono ?_;rintro e w1 ⟨⟨rfl,hc1⟩,hg1⟩;have H3:=hid (H2.out w1 hc1);have Hg1:=hid hg1;clear hc1 hg1 H1 H2;go_wp2_with fail
   refine H3.out.mono ?_;rintro e w2 ⟨⟨⟨A,c,rfl,hr⟩,hc2⟩,hg2⟩;have Hr2:=hid (ake.out w2 A c hr);have Hg2:=hid (ay Hg1.out hg2);have Hc2:=hid hc2;clear hr hc2 hg2 Hg1 ake H3;dsimp only;generalize strOf X=sX at *;go_wp2_with fail
   refine Hr2.out.mono ?_;rintro e w3 ⟨rfl,hb3⟩;have hend:=dR.out w3 (Hc2.out.below hb3) (ay Hg2.out (ak hb3 _));clear Hr2 hb3 Hg2 Hc2 dR;by_cases hz:z=0
   ·subst hz;have dn:((X.length:Int) == (n:Int))=decide (X.length=n):=by
     by_cases h:X.length=n
     ·rw[h,decide_eq_true rfl];simp
     ·rw[decide_eq_false h,beq_eq_false_iff_ne];omega
    have dn2:decide ((X.length:Int)=(n:Int))=decide (X.length=n):=decide_eq_decide.2 (by omega);rw[decide_eq_true rfl,Bool.true_and]at hend;go_wp2;go_ret2;exact hend
   ·have dz:((z:Int) == 0)=false:=by rw[beq_eq_false_iff_ne];omega
    have dz2:decide ((z:Int)=0)=false:=decide_eq_false (by omega);rw[decide_eq_false hz,Bool.false_and]at hend;go_wp2;go_ret2;exact hend
theorem agc(n:Nat)(bs:List Nat):(if (gZ n (some bs)).2=some []then some (gZ n (some bs)).1 else none)=if bs.length=n then some bs else none:=by
 by_cases h:n<=bs.length
 ·rw[xW n bs h];by_cases h2:bs.length=n
  ·rw[if_pos h2,if_pos (by rw[List.drop_eq_nil_of_le (by omega)])];dsimp only;rw[List.take_of_length_le (by omega)]
  ·rw[if_neg h2,if_neg (fun c=>h2 (by have:=List.drop_eq_nil_iff.1 (Option.some.inj c);omega))]
 ·rw[Fp n bs h,if_neg (by simp),if_neg (by omega)]
theorem RP(b ep n s:Nat)(D bs:List Nat)(w:World)(h:CR w b (some bs)) :
  Calls prog 18 #[.pointer (some ⟨b,0,none⟩),.agg #[.int .u64 0,.int .i64 (ep:Int),.int .i64 (n:Int),.int .u64 (s:Int)],.string (strOf D)] w fun e w'=>ahc w w' b e (iC D 0 n bs):=by
 have hc0:=h.below ((Below.refl w.heap.size w).alloc (Nat.le_refl _) (.cells #[.int .u64 0,.int .i64 (ep:Int),.int .i64 (n:Int),.int .u64 (s:Int)] 42));have Hg0:=hid (aF (aj w (some b)) (.cells #[.int .u64 0,.int .i64 (ep:Int),.int .i64 (n:Int),.int .u64 (s:Int)] 42));have hr:=gD b (some bs) (n:Int) _ hc0;rw[Int.toNat_natCast]at hr;have he:iC D 0 n bs=if true=true/\(gZ n (some bs)).2=some []then some (gZ n (some bs)).1 else none:=by
  simp only[true_and];rw[agc n bs];rfl
 have He:=hid he;have Hr:=hid hr;clear h hc0 hr he;generalize gZ n (some bs)=R at *;obtain⟨x,st⟩:=R;dsimp only at Hr He;generalize strOf D=sD at *;have HX:=hid (fun e (h:e=Ending.returned (.tuple #[.string (strOf x),.bool true]))=>h);go_enter func18,ntmps18
 go_wp2_with fail
 refine Hr.out.mono ?_;rintro e w1 ⟨rfl,hc1,hg1⟩;go_wp2;go_ret2;exact⟨x,true,st,rfl,fun _=>hc1,ay Hg0.out hg1,by simpa using He.out⟩
theorem RU(b ep n s:Nat)(D bs:List Nat)(w:World)(hl:bs.length<=1000)(hlt:∀x∈bs,x<256)(hD:D.length<=1000)(hDlt:∀x∈D,x<256)(hn:n<=512)(h:CR w b (some bs)) :
  Calls prog 18 #[.pointer (some ⟨b,0,none⟩),.agg #[.int .u64 2,.int .i64 (ep:Int),.int .i64 (n:Int),.int .u64 (s:Int)],.string (strOf D)] w fun e w'=>ahc w w' b e (iC D 2 n bs):=by
 have hc0:=h.below ((Below.refl w.heap.size w).alloc (Nat.le_refl _) (.cells #[.int .u64 2,.int .i64 (ep:Int),.int .i64 (n:Int),.int .u64 (s:Int)] 42));have Hg0:=hid (aF (aj w (some b)) (.cells #[.int .u64 2,.int .i64 (ep:Int),.int .i64 (n:Int),.int .u64 (s:Int)] 42));have Hr:=hid (Bt b n D bs _ hl hlt hD hDlt hn hc0);clear h hc0 hl hlt hD hDlt hn;generalize strOf D=sD at *;go_enter func18,ntmps18
 go_wp2_with fail
 refine Hr.out.mono ?_;rintro e w1 ⟨x,ok,st,rfl,hc1,hg1,he⟩;go_wp2;go_ret2;exact⟨x,ok,st,rfl,hc1,ay Hg0.out hg1,he⟩
theorem RQ(b ep n s:Nat)(D bs:List Nat)(w:World)(hlt:∀x∈bs,x<256)(hn:n<=512)(h:CR w b (some bs)) :
  Calls prog 18 #[.pointer (some ⟨b,0,none⟩),.agg #[.int .u64 1,.int .i64 (ep:Int),.int .i64 (n:Int),.int .u64 (s:Int)],.string (strOf D)] w fun e w'=>ahc w w' b e (iC D 1 n bs):=by
 have hc0:=h.below ((Below.refl w.heap.size w).alloc (Nat.le_refl _) (.cells #[.int .u64 1,.int .i64 (ep:Int),.int .i64 (n:Int),.int .u64 (s:Int)] 42));have Hg0:=hid (aF (aj w (some b)) (.cells #[.int .u64 1,.int .i64 (ep:Int),.int .i64 (n:Int),.int .u64 (s:Int)] 42));have hrow:Row (w.alloc (.cells #[.int .u64 1,.int .i64 (ep:Int),.int .i64 (n:Int),.int .u64 (s:Int)] 42)) w.heap.size 42 [.int .u64 1,.int .i64 (ep:Int),.int .i64 (n:Int),.int .u64 (s:Int)]:=Row.new w 42 [.int .u64 1,.int .i64 (ep:Int),.int .i64 (n:Int),.int .u64 (s:Int)];have gF:=hid hrow;have Hb:=hid h.lt;have hr:=fun W (hc:CR W b (some bs))=>gD b (some bs) 1 W hc
 rw[show(1:Int).toNat=1 from rfl]at hr;have hrep:∃R,(∀W,Calls prog 30 #[.string (strOf (gZ 1 (some bs)).1),.int .i64 (n:Int)] W fun e w'=>e=.returned (.string (strOf R))/\Below W.heap.size W w') /\
   iC D 1 n bs=if true=true/\(gZ 1 (some bs)).2=some []then some R else none:=by
  cases bs with
  | nil=>exact⟨[],fun W=>yt n W (by omega),rfl⟩
  | cons x u=>
   refine⟨List.replicate n x,fun W=>pV x n W (by omega),?_⟩;cases u with
   | nil=>rfl
   | cons y u=>rfl
 obtain⟨R,hrep,he⟩:=hrep;have Hrep:=hid hrep;have He:=hid he;have Hr:=hid hr;have Hc0:=hid hc0;clear h hc0 hr he hrep hrow hlt hn;generalize gZ 1 (some bs)=Q at *;obtain⟨x,st⟩:=Q;dsimp only at Hr He Hrep;generalize strOf D=sD at *;go_enter func18,ntmps18
 go_upto_region 5 with fail
 generalize w.alloc (.cells #[.int .u64 1,.int .i64 (ep:Int),.int .i64 (n:Int),.int .u64 (s:Int)] 42)=wA at *;have vV:=hid (show wA.cell? ⟨w.heap.size,2,none⟩=some (.int .i64 (n:Int))from gF.out.cell 2);refine wp_region_held_drew (S:=(fun W:World=>W.cell? ⟨w.heap.size,2,none⟩=some (.int .i64 (n:Int)))) (by kernel_rfl) (by exact vV.out) (fun hHeld=>?_);refine wpAnyH_take (i:=0) (oi:={dst:=some 18,op:=.move (.tmp 0),type:=39,pos:= "block.go:126",after:=#[],guard:=none}) (v:=?_) rfl (by kernel_rfl) (by kernel_rfl) (by kernel_rfl) (fun _ _ _ h=>h) (Or.inl ⟨by rfl,?_⟩) (by assumption) ?_;rotate_left
 ·(intro w hSw;(try dsimp only at hSw);go_simp;(try with_reducible rfl))
 try simp only[Act.put,List.setIfInBounds_toArray,List.set_cons_zero,List.set_cons_succ]
 refine wpAnyH_take (i:=2) (oi:={dst:=some 20,op:=.fieldAddr 42 (.tmp 4) 2,type:=0,pos:= "block.go:126",after:=#[],guard:=none}) (v:=?_) rfl (by kernel_rfl) (by kernel_rfl) (by kernel_rfl) (fun _ _ _ h=>h) (Or.inl ⟨by rfl,?_⟩) (by assumption) ?_;rotate_left
 ·(intro w hSw;(try dsimp only at hSw);go_simp;(try with_reducible rfl))
 try simp only[Act.put,List.setIfInBounds_toArray,List.set_cons_zero,List.set_cons_succ]
 refine wpAnyH_take (i:=3) (oi:={dst:=some 21,op:=.load 3 (.tmp 20),type:=3,pos:= "block.go:126",after:=#[{on:=2,ground:=.data}],guard:=none}) (v:=?_) rfl (by kernel_rfl) (by kernel_rfl) (by kernel_rfl) (fun _ _ _ h=>h) (Or.inl ⟨by rfl,?_⟩) (by assumption) ?_;rotate_left
 ·(intro w hSw;(try dsimp only at hSw);go_simp;(try with_reducible rfl))
 try simp only[Act.put,List.setIfInBounds_toArray,List.set_cons_zero,List.set_cons_succ]
 refine wpAnyH_ready (rs:=[1]) (by kernel_rfl) (by simp) ?_;refine AllReadyH.cons (o:={dst:=some 19,op:=.call {callee:=.value (.func 42),args:=#[.tmp 18,.const (.int .i64 1)],argTypes:=#[39,3]},type:=9,pos:= "block.go:126",after:=#[{on:=0,ground:=.data}],guard:=none}) rfl (fun K hK=>?_) AllReadyH.nil;go_simp
 (go_at_call 42;refine(Hr.out _ Hc0.out.drew).mono ?_;rintro e w1 ⟨rfl,hc1,hg1⟩;have HG:=hid (ay (bf Hg0.out) hg1);have HC:=hid hc1;have HK:=hid (show w1.cell? ⟨w.heap.size,2,none⟩=some (.int .i64 (n:Int))from(gF.out.keep (w':=w1) (hg1.block w.heap.size gF.out.lt (by have:=Hb.out;simp;omega))).cell 2);clear hc1 hg1)
 go_simp;refine hK.out _ _ (by exact HK.out) (fun hHeld=>?_);clear hK K
 try simp only[Act.put,List.setIfInBounds_toArray,List.set_cons_zero,List.set_cons_succ]
 refine wpAnyH_ready (rs:=[4]) (by kernel_rfl) (by simp) ?_;refine AllReadyH.cons (o:={dst:=some 22,op:=.call {callee:=.value (.func 30),args:=#[.tmp 19,.tmp 21],argTypes:=#[9,3]},type:=9,pos:= "block.go:126",after:=#[{on:=1,ground:=.data},{on:=3,ground:=.data},{on:=1,ground:=.chain}],guard:=none}) rfl (fun K hK=>?_) AllReadyH.nil;go_simp
 (go_at_call 30;refine(Hrep.out _).mono ?_;rintro e w2 ⟨rfl,hb2⟩;have HZ:=hid (ay HG.out (ak hb2 (some b)));have HD:=hid (HC.out.below hb2);have HK2:=hid ((hb2.cell (p:=⟨w.heap.size,2,none⟩) (World.block_lt_of_cell? _ _ HK.out)).trans HK.out);clear hb2)
 go_simp;refine hK.out _ _ (by exact HK2.out) (fun hHeld=>?_);clear hK K
 try simp only[Act.put,List.setIfInBounds_toArray,List.set_cons_zero,List.set_cons_succ]
 refine wpAnyH_take (i:=5) (oi:={dst:=some 6,op:=.assign (.tmp 22),type:=9,pos:= "block.go:126",after:=#[{on:=4,ground:=.data},{on:=4,ground:=.chain},{on:=0,ground:=.phase},{on:=1,ground:=.phase},{on:=2,ground:=.phase},{on:=3,ground:=.phase},{on:=4,ground:=.phase}],guard:=none}) (v:=?_) rfl (by kernel_rfl) (by kernel_rfl) (by kernel_rfl) (fun _ _ _ h=>h) (Or.inl ⟨by rfl,?_⟩) (by assumption) ?_;rotate_left
 ·(intro w hSw;(try dsimp only at hSw);go_simp;(try with_reducible rfl))
 try simp only[Act.put,List.setIfInBounds_toArray,List.set_cons_zero,List.set_cons_succ]
 refine wpAnyH_take (i:=6) (oi:={dst:=some 7,op:=.assign (.const (.bool true)),type:=4,pos:= "block.go:126",after:=#[{on:=5,ground:=.chain},{on:=0,ground:=.phase},{on:=1,ground:=.phase},{on:=2,ground:=.phase},{on:=3,ground:=.phase},{on:=4,ground:=.phase},{on:=5,ground:=.phase}],guard:=none}) (v:=?_) rfl (by kernel_rfl) (by kernel_rfl) (by kernel_rfl) (fun _ _ _ h=>h) (Or.inl ⟨by rfl,?_⟩) (by assumption) ?_;rotate_left
 ·(intro w hSw;(try dsimp only at hSw);go_simp;(try with_reducible rfl))
 try simp only[Act.put,List.setIfInBounds_toArray,List.set_cons_zero,List.set_cons_succ]
 refine wpAnyH_done (by kernel_rfl) ?_ _;go_wp2;go_ret2;exact⟨R,true,st,rfl,fun _=>HD.out,HZ.out,by simpa using He.out⟩
theorem Gx(b k ep n s:Nat)(D bs:List Nat)(w:World)(hk:k<3)(hl:bs.length<=1000)(hlt:∀x∈bs,x<256)(hD:D.length<=1000)(hDlt:∀x∈D,x<256)(hn:n<=512)(h:CR w b (some bs)) :
  Calls prog 18 #[.pointer (some ⟨b,0,none⟩),.agg #[.int .u64 (k:Int),.int .i64 (ep:Int),.int .i64 (n:Int),.int .u64 (s:Int)],.string (strOf D)] w fun e w'=>ahc w w' b e (iC D k n bs):=by
 rcases(by omega:k=0\/k=1\/k=2)with rfl | rfl | rfl
 ·exact RP b ep n s D bs w h
 ·exact RQ b ep n s D bs w hlt hn h
 ·exact RU b ep n s D bs w hl hlt hD hDlt hn h
theorem aej{D bs X:List Nat}{k n:Nat}(hD:∀x∈D,x<256)(hbs:∀x∈bs,x<256)(h:iC D k n bs=some X):∀x∈X,x<256:=by
 unfold iC at h;split at h
 ·split at h
  ·injection h with h;subst h;exact hbs
  ·cases h
 ·split at h
  ·split at h
   ·next h1=>
    injection h with h
    subst h;intro x hx;rw[(List.mem_replicate.1 hx).2,List.getElem?_eq_getElem (by omega)];exact hbs _ (List.getElem_mem _)
   ·cases h
  ·split at h
   ·cases h
   ·next t ht=>
    split at h
    ·cases h
    ·next q _=>
     split at h
     ·next hc=>
      injection h with h
      rw[<-h];unfold vC;split
      ·exact dG (CZ _ _ _ hD (Sz bs n t hbs ht)) _
      ·intro x hx;cases hx
     ·cases h
theorem Yv(D bs:List Nat)(lim:Int)(w:World)(hl:bs.length<=1000)(hlt:∀x∈bs,x<256)(hD:D.length<=1000)(hDlt:∀x∈D,x<256) :
  Calls prog 8 #[.string (strOf bs),.string (strOf D),.int .i64 lim] w fun e w'=>e=.returned (.tuple #[.string (strOf (zk D bs lim).1),.int .i64 ((zk D bs lim).2:Int)])/\Below w.heap.size w w':=by
 have Hn:=hid (YK bs w);have Hh:=hid (fun W hc=>Gw w.heap.size bs W (by omega) hlt hc);have akd:=hid (fun W k ep n s at_ (hk:k<3) (hn:n<=512) hc=>Gx w.heap.size k ep n s D (bs.drop at_) W hk (by rw[List.length_drop];omega) (dG hlt at_) hD hDlt hn hc);have acy:=hid (fun k n at_ X (h:iC D k n (bs.drop at_)=some X)=>aej hDlt (dG hlt at_) h);obtain⟨V,hV⟩:∃V,V=zk D bs lim:=⟨_,rfl⟩;rw[<-hV];have hhd:∀h,pF bs=some h->h.1<3:=fun h he=>by
  unfold pF at he;split at he
  ·cases he
  ·split at he
   ·cases he
   ·next k r hk=>
    cases ht:CY r with
    | none=>rw[ht]at he;cases he
    | some t=>rw[ht]at he;injection he with he;rw[<-he];dsimp only;omega
 unfold zk at hV;clear hl hlt hD hDlt;generalize strOf bs=sB at *;generalize strOf D=sD at *;go_enter func8,ntmps8
 go_wp2_with fail
 refine Hn.out.mono ?_;rintro e w1 ⟨rfl,hc1,hb1⟩;have Hb1:=hid hb1;have Hh1:=hid (Hh.out w1 hc1);clear hc1 hb1 Hn Hh;go_wp2_with fail
 refine Hh1.out.mono ?_;rintro e w2 ⟨hp,hg2⟩;have Hsz:=hid Hb1.out.size;have Hb2:=hid (Hb1.out.trans (below_grown hg2 (Nat.le_refl _) Hb1.out.size));have Hw1:=hid hg2.size;clear hg2 Hb1 Hh1;cases hd:pF bs with
 | none=>
  rw[hd]at hp hV;obtain rfl:e=.returned (.tuple #[.agg #[.int .u64 0,.int .i64 0,.int .i64 0,.int .u64 0],.int .i64 3]):=hp;subst hV;clear hd hhd akd acy;have HbZ:=hid (fun u=>Hb2.out.alloc Hb2.out.size u);clear Hb2;go_wp2;go_ret2;exact⟨rfl,HbZ.out _⟩
 | some h=>
  obtain⟨k,ep,n,s,at_⟩:=h;have hk:=hhd _ hd;rw[hd]at hp hV;obtain⟨rfl,hc2⟩:e=.returned (.tuple #[.agg #[.int .u64 (k:Int),.int .i64 (ep:Int),.int .i64 (n:Int),.int .u64 (s:Int)],.int .i64 0])/\CR w2 w.heap.size (some (bs.drop at_)):=hp;dsimp only at hV hk;have hrow:Row (w2.alloc (.cells #[.int .u64 (k:Int),.int .i64 (ep:Int),.int .i64 (n:Int),.int .u64 (s:Int)] 42)) w2.heap.size 42 [.int .u64 (k:Int),.int .i64 (ep:Int),.int .i64 (n:Int),.int .u64 (s:Int)]:=Row.new w2 42 [.int .u64 (k:Int),.int .i64 (ep:Int),.int .i64 (n:Int),.int .u64 (s:Int)];have gF:=hid hrow;have HbA:=hid (Hb2.out.alloc Hb2.out.size (.cells #[.int .u64 (k:Int),.int .i64 (ep:Int),.int .i64 (n:Int),.int .u64 (s:Int)] 42));have HcA:=hid (hc2.below ((Below.refl w2.heap.size w2).alloc (Nat.le_refl _) (.cells #[.int .u64 (k:Int),.int .i64 (ep:Int),.int .i64 (n:Int),.int .u64 (s:Int)] 42)));have akc:=hid (hc2.lt);clear hd hhd hc2 Hb2 hrow;by_cases hbig:lim<(n:Int)\/512<n
  ·rw[if_pos hbig]at hV;subst hV;have d1:decide (min lim 512<(n:Int))=true:=decide_eq_true (by omega);clear akd acy hbig;go_wp2;go_ret2;exact⟨rfl,HbA.out⟩
  ·rw[if_neg hbig]at hV;have d1:decide (min lim 512<(n:Int))=false:=decide_eq_false (by omega);have Hr:=hid (akd.out _ k ep n s at_ hk (by omega) HcA.out);have vV:=hid (gF.out.cell 3);have Hx:=hid (fun X h=>acy.out k n at_ X h);have Hxl:=hid (fun X (h:iC D k n (bs.drop at_)=some X)=>Nat.le_trans (Nat.le_of_eq (aef h)) (by omega:n<=512));clear akd acy;have c0:=gF.out.cell 0;have c1:=gF.out.cell 1;have c2:=gF.out.cell 2;have c3:=gF.out.cell 3;simp only[List.getElem?_cons_zero,List.getElem?_cons_succ]at c0 c1 c2 c3;go_wp2_with fail
   clear c0 c1 c2 c3;generalize w2.alloc (.cells #[.int .u64 (k:Int),.int .i64 (ep:Int),.int .i64 (n:Int),.int .u64 (s:Int)] 42)=wA at *;refine Hr.out.mono ?_;rintro e w3 ⟨x,ok,st,rfl,hc3,hg3,he⟩;have hrow3:=gF.out.keep (hg3.block w2.heap.size gF.out.lt (by have:=akc.out;simp;omega));have Dt:=hid (show w3.cell? ⟨w2.heap.size,3,none⟩=some (.int .u64 (s:Int))from hrow3.cell 3);have Hb3:=hid (HbA.out.trans (below_grown hg3 (Nat.le_refl _) HbA.out.size));clear hrow3 hg3 HbA gF HcA vV Hr;cases ok with
   | false=>
    rw[he]at hV;simp only[Bool.false_eq_true,false_and,if_false]at hV;subst hV;clear he hc3 Hx Hxl Dt;go_wp2;go_ret2;exact⟨rfl,Hb3.out⟩
   | true=>
    have Hd:=hid (VE w.heap.size st w3 (hc3 rfl));by_cases hst:st=some []
    ·rw[decide_eq_true hst]at Hd;rw[if_pos ⟨rfl,hst⟩]at he;rw[he]at hV;dsimp only at hV;have hx:=Hx.out x he;have hxl:=Hxl.out x he;have agY:=hid (fun W=>Wy x W (by omega) hx);clear he hc3 Hx Hxl hst hx hxl;go_wp2_with fail
     refine Hd.out.mono ?_;rintro e w4 ⟨rfl,rfl⟩;clear Hd;go_upto_region 10 with fail
     refine wp_region_held_drew (S:=(fun W:World=>W.cell? ⟨w2.heap.size,3,none⟩=some (.int .u64 (s:Int)))) (by kernel_rfl) (by exact Dt.out) (fun hHeld=>?_);refine wpAnyH_take (i:=0) (oi:={dst:=some 42,op:=.move (.tmp 11),type:=9,pos:= "block.go:70",after:=#[],guard:=none}) (v:=?_) rfl (by kernel_rfl) (by kernel_rfl) (by kernel_rfl) (fun _ _ _ h=>h) (Or.inl ⟨by rfl,?_⟩) (by assumption) ?_;rotate_left
     ·(intro w hSw;(try dsimp only at hSw);go_simp;(try with_reducible rfl))
     try simp only[Act.put,List.setIfInBounds_toArray,List.set_cons_zero,List.set_cons_succ]
     refine wpAnyH_take (i:=2) (oi:={dst:=some 44,op:=.fieldAddr 42 (.tmp 9) 3,type:=0,pos:= "block.go:70",after:=#[],guard:=none}) (v:=?_) rfl (by kernel_rfl) (by kernel_rfl) (by kernel_rfl) (fun _ _ _ h=>h) (Or.inl ⟨by rfl,?_⟩) (by assumption) ?_;rotate_left
     ·(intro w hSw;(try dsimp only at hSw);go_simp;(try with_reducible rfl))
     try simp only[Act.put,List.setIfInBounds_toArray,List.set_cons_zero,List.set_cons_succ]
     refine wpAnyH_take (i:=3) (oi:={dst:=some 45,op:=.load 36 (.tmp 44),type:=36,pos:= "block.go:70",after:=#[{on:=2,ground:=.data}],guard:=none}) (v:=?_) rfl (by kernel_rfl) (by kernel_rfl) (by kernel_rfl) (fun _ _ _ h=>h) (Or.inl ⟨by rfl,?_⟩) (by assumption) ?_;rotate_left
     ·(intro w hSw;(try dsimp only at hSw);go_simp;(try with_reducible rfl))
     try simp only[Act.put,List.setIfInBounds_toArray,List.set_cons_zero,List.set_cons_succ]
     refine wpAnyH_ready (rs:=[1]) (by kernel_rfl) (by simp) ?_;refine AllReadyH.cons (o:={dst:=some 43,op:=.call {callee:=.value (.func 20),args:=#[.tmp 42],argTypes:=#[9]},type:=36,pos:= "block.go:70",after:=#[{on:=0,ground:=.data}],guard:=none}) rfl (fun K hK=>?_) AllReadyH.nil;go_simp
     (go_at_call 20;refine(agY.out _).mono ?_;rintro e w5 ⟨rfl,hb5⟩;have HZ:=hid (Hb3.out.drew.trans (hb5.mono Hb3.out.drew.size));have HK:=hid ((hb5.cell (p:=⟨w2.heap.size,3,none⟩) (World.block_lt_of_cell? _ _ Dt.out)).trans Dt.out);clear hb5)
     go_simp;refine hK.out _ _ (by exact HK.out) (fun hHeld=>?_);clear hK K
     try simp only[Act.put,List.setIfInBounds_toArray,List.set_cons_zero,List.set_cons_succ]
     refine wpAnyH_take (i:=4) (oi:={dst:=some 46,op:=.binOp .neq 36 (.tmp 43) (.tmp 45) 36,type:=4,pos:= "block.go:70",after:=#[{on:=1,ground:=.data},{on:=3,ground:=.data}],guard:=none}) (v:=?_) rfl (by kernel_rfl) (by kernel_rfl) (by kernel_rfl) (fun _ _ _ h=>h) (Or.inl ⟨by rfl,?_⟩) (by assumption) ?_;rotate_left
     ·(intro w hSw;(try dsimp only at hSw);go_simp;(try with_reducible rfl))
     try simp only[Act.put,List.setIfInBounds_toArray,List.set_cons_zero,List.set_cons_succ]
     refine wpAnyH_done (by kernel_rfl) ?_ _;by_cases hsum:Bm.sumOf x=s
     ·rw[if_pos hsum]at hV;subst hV;rw[hsum];clear agY hsum;go_wp2;go_ret2;exact⟨rfl,HZ.out⟩
     ·rw[if_neg hsum]at hV;subst hV;have dz:((Bm.sumOf x:Int) == (s:Int))=false:=by rw[beq_eq_false_iff_ne];omega
      clear agY;generalize Bm.sumOf x=y at *;go_wp2;go_ret2;exact⟨rfl,HZ.out⟩
    ·rw[decide_eq_false hst]at Hd;rw[if_neg (fun c=>hst c.2)]at he;rw[he]at hV;subst hV;clear he hc3 Hx Hxl hst Dt;go_wp2_with fail
     refine Hd.out.mono ?_;rintro e w4 ⟨rfl,rfl⟩;clear Hd;go_wp2;go_ret2;exact⟨rfl,Hb3.out⟩
namespace Bm
theorem Sy(bs:List Nat)(m n:Int)(hmn:m<=n)(t:List Nat×Nat)(h:vk bs m=some t):vk bs n=some t:=by
 unfold vk at h ⊢;cases bs with
 | nil=>cases h
 | cons k r=>
  dsimp only at h ⊢;split at h
  ·next hc=>rw[if_pos ⟨hc.1,Int.le_trans hc.2.1 hmn,hc.2.2⟩];exact h
  ·cases h
theorem LU(T:List Nat):∀(l:List Stp) (a:Nat),OkS T a l->a+l.length<=T.length
 | [],_,h=>h
 | s :: l,a,h=>by
  have h1:=LU T l _ h.2.2.2.2.2;have h2:=h.1;rw[List.length_cons];omega
theorem agw(l:List Stp):(l.map sw).map adh=l:=by
 rw[List.map_map];have:(adh ∘ sw)=id:=by
  funext s
  obtain⟨a,b,c⟩:=s;simp[adh,sw]
 rw[this,List.map_id]
end Bm
theorem acr{T:List Nat}{a:Nat}{l:List Bm.Stp}(h:OkS T a l)(hT:T.length<=1000000000):ZOk (l.map sw):=fun s hs=>by
 obtain⟨t,ht,rfl⟩:=List.mem_map.1 hs;have:=LW T l a h t ht;exact⟨⟨by show _<=(t.1:Int);omega,by show(t.1:Int)<=_;omega⟩,⟨by show _<=(t.2.1:Int);omega,by show(t.2.1:Int)<=_;omega⟩,⟨by show _<=(t.2.2:Int);omega,by show(t.2.2:Int)<=_;omega⟩⟩
theorem afe(D X E S:List Nat)(l:List Bm.Stp)(hok:OkS (D++X) D.length l)(hE:adZ (oG X 0 l) E)(hS:ain (l.map sw) S)(hlen:(E++S).length<X.length):vT D X 2 (E++S):=by
 have he:=UO (D++X) l D.length hok;have he2:=vJ l D.length 0;rw[Nat.add_zero]at he2;rw[List.length_append]at he;have hll:=lC X l 0 (by omega);have hcount:=LU (D++X) l D.length hok;rw[List.length_append]at hcount;have hr:=hS.read [];rw[List.append_nil,agw,List.length_map]at hr;refine RG D X E S l (oG X 0 l) (Sy E _ _ (by omega) _ hE.2.2.2) (abp S _ _ (by omega) _ hr) ?_ hE.2.1 hS.lt hlen;rw[Rt D X l X.length hok,if_neg (Nat.lt_irrefl _)]
theorem DL(D X:List Nat)(v:Int)(w:World)(hD:D.length<=256)(hX:X.length<=512)(hDlt:∀x∈D,x<256)(hXlt:∀x∈X,x<256)(hv:bO v) :
  Calls prog 15 #[.string (strOf X),.string (strOf D),.int .i64 v] w fun e w'=>(∃T ok,e=.returned (.tuple #[.string (strOf T),.bool ok])/\T.length<=100000/\(∀x∈T,x<256)/\(ok=true->T.length<X.length->vT D X 2 T))/\Below w.heap.size w w':=by
 have Hst:=hid (Vu w D X v (by omega) (by omega) hDlt hXlt hv);rw[show D.length-600=0 by omega,List.drop_zero,List.take_of_length_le (by omega:X.length<=600)]at Hst;have adH:=hid (fun W A c (l:List Bm.Stp) (hl:l.length<=600) (hok:OkS (D++X) D.length l) (hr:Dp W A l)=>aaK A c (l.map sw) W (by rw[List.length_map];omega) (acr hok (by rw[List.length_append];omega)) (ads hr));have dR:Hid (∀l,OkS (D++X) D.length l->yU 0 l<=X.length):=hid (fun l h=>by
  have h1:=UO (D++X) l D.length h;have h2:=vJ l D.length 0;rw[Nat.add_zero]at h2;rw[List.length_append]at h1;omega)
 have ahS:=hid (fun W A c l (hl:l.length<=600) (he:yU 0 l<=X.length) (hr:Dp W A l)=>aaB W X A c l (by omega) (by omega) hXlt he hr);have Hls:=hid (fun W l (he:yU 0 l<=X.length)=>Uy (oG X 0 l) W (by have:=lC X l 0 he;omega) (IQ hXlt l 0));have HX:=hid hX;have acC:=hid (fun l (he:yU 0 l<=X.length)=>lC X l 0 he);clear hD hDlt hXlt hv hX;generalize strOf D=sD at *;generalize strOf X=sX at *;go_enter func15,ntmps15
 go_wp2_with fail
 refine Hst.out.mono ?_;rintro e w1 ⟨A,c,l,rfl,hr1,hl,hok,_,hb1⟩;have Hb1:=hid hb1;have he1:=adH.out w1 A c l hl hok hr1;rw[List.length_map]at he1;have He1:=hid he1;have Hr1:=hid hr1;have Hok:=hid hok;have hen:=dR.out l hok;clear hb1 hr1 hok he1 Hst adH;go_wp2_with fail
 refine He1.out.mono ?_;rintro e w2 ⟨hp,hb2⟩;have Hb2:=hid (Hb1.out.trans (hb2.mono Hb1.out.size));have Hl2:=hid (ahS.out w2 A c l hl hen (Hr1.out.below hb2));have agW:=hid (fun W=>Hls.out W l hen);have hll:=acC.out l hen;have hgen:∃S ok,e=.returned (.tuple #[.string (strOf S),.bool ok])/\S.length<=10000/\(∀x∈S,x<256)/\(ok=true->ain (l.map sw) S):=by
  unfold KA at hp;split at hp
  ·obtain⟨S,hS,rfl⟩:=hp;exact⟨S,true,rfl,hS.len,hS.lt,fun _=>hS⟩
  ·exact⟨[],false,hp,by simp,by simp,fun h=>by cases h⟩
 obtain⟨S,ok,rfl,hSl,ano,hSq⟩:=hgen;have HS:=hid ano;have HSq:=hid hSq;clear hp hb2 He1 Hb1 Hr1 ahS Hls ano hSq;go_wp2_with fail
 refine Hl2.out.mono ?_;rintro e w3 ⟨rfl,hb3⟩;have Hb3:=hid (Hb2.out.trans (hb3.mono Hb2.out.size));clear hb3 Hb2 Hl2;go_wp2_with fail
 refine(agW.out _).mono ?_;rintro e w4 ⟨⟨E,hE,rfl⟩,hb4⟩;have Hb4:=hid (Hb3.out.trans (hb4.mono Hb3.out.size));have hEl:=hE.2.2.1;have hX:=HX.out;have hgl:=eZ (oG X 0 l).length (by omega);have hadd:=fun W=>WG E S (by omega) W
 have iy:Hid ((E++S).length<=100000/\(∀x∈E++S,x<256)/\(ok=true->(E++S).length<X.length->vT D X 2 (E++S))):=hid ⟨by rw[List.length_append];omega,mR hE.2.1 HS.out,fun h h2=>afe D X E S l Hok.out hE (HSq.out h) h2⟩;clear hE hb4 Hb3 agW HS HSq Hok HX hX hEl hgl acC hll hl hen dR;go_wp2;go_ret2;exact⟨⟨E++S,ok,rfl,iy.out⟩,Hb4.out⟩
def alm(D X:List Nat)(ep:Nat)(e:Ending):Prop:=∃k T,vT D X k T/\e=.returned (.tuple #[.string (strOf (hdB k ep X++T)),.int .i64 0])
theorem Yw(D X:List Nat)(ep:Nat)(v:Int)(w:World)(hD:D.length<=256)(hX:X.length<=512)(hDlt:∀x∈D,x<256)(hXlt:∀x∈X,x<256)(hep:ep<=1073741824)(hv:bO v) :
  Calls prog 7 #[.string (strOf X),.string (strOf D),.int .i64 (ep:Int),.int .i64 v] w fun e w'=>alm D X ep e/\Below w.heap.size w w':=by
 have Hal:=hid (DN X w (by omega) hXlt);have Hin:=hid (fun W=>DL D X v W hD hX hDlt hXlt hv);have ahB:=hid (fun W k T (hk:k<256) hT Tf=>Nh k ep X T W hk hep (by omega) hT hXlt Tf);have Hpl:=hid (RF D X hXlt);have hs1:=aA X;have hs2:=aA D;have d1:decide ((512:Int)<(X.length:Int))=false:=decide_eq_false (by omega);have d2:decide ((256:Int)<(D.length:Int))=false:=decide_eq_false (by omega);have d3:decide ((ep:Int)<0)=false:=decide_eq_false (by omega);have d4:decide ((1073741824:Int)<(ep:Int))=false:=decide_eq_false (by omega);have Hxl:=hid hXlt;clear hD hDlt hXlt hv hep;by_cases hal:0<X.length/\X=List.replicate X.length (X[0]?.getD 0)
 ·rw[decide_eq_true hal]at Hal;have hto:∀W:World,(Instr.slice 9 (.string (strOf X)) none (some (.int .i64 1)) none).run prog W=.ok (.string (strOf [X[0]?.getD 0])) W:=fun W=>by
   have h:=uU X 1 (by omega) W;have e1:X.take 1=[X[0]?.getD 0]:=by
    cases X with
    | nil=>simp at hal
    | cons x u=>rfl
   rw[e1]at h;exact h
  have hx256:X[0]?.getD 0<256:=by
   rw[List.getElem?_eq_getElem hal.1];exact Hxl.out _ (List.getElem_mem _)
  have Hq:=hid (RD D X _ hx256 hal.1 hal.2);have ahD:Hid (∀W,Calls prog 14 #[.int .u64 1,.string (strOf X),.int .i64 (ep:Int),.string (strOf [X[0]?.getD 0])] W fun e w'=>e=.returned (.string (strOf (hdB 1 ep X++[X[0]?.getD 0])))/\Below W.heap.size W w'):=
   hid (fun W=>ahB.out W 1 [X[0]?.getD 0] (by decide) (by simp) (fun x hx=>by rw[List.mem_singleton.1 hx];exact hx256))
  clear ahB Hin hal hx256 Hpl Hxl;generalize X[0]?.getD 0=x at *;generalize strOf [x]=s1 at *;generalize strOf D=sD at *;generalize hsX:strOf X=sX at *;clear hsX;go_enter func7,ntmps7
  go_wp2_with fail
  refine Hal.out.mono ?_;rintro e w1 ⟨rfl,hb1⟩;have Hb1:=hid hb1;clear hb1 Hal;go_wp2_with fail
  refine(ahD.out _).mono ?_;rintro e w2 ⟨rfl,hb2⟩;have Hb2:=hid (Hb1.out.trans (hb2.mono Hb1.out.size));clear hb2 Hb1 ahD;go_wp2;go_ret2;exact⟨⟨1,[x],Hq.out,rfl⟩,Hb2.out⟩
 ·rw[decide_eq_false hal]at Hal;have ahC:Hid (∀W,Calls prog 14 #[.int .u64 0,.string (strOf X),.int .i64 (ep:Int),.string (strOf X)] W fun e w'=>e=.returned (.string (strOf (hdB 0 ep X++X)))/\Below W.heap.size W w'):=
   hid (fun W=>ahB.out W 0 X (by decide) (by omega) Hxl.out)
  have ahE:Hid (∀W T,T.length<=100000->(∀x∈T,x<256)->Calls prog 14 #[.int .u64 2,.string (strOf X),.int .i64 (ep:Int),.string (strOf T)] W fun e w'=>e=.returned (.string (strOf (hdB 2 ep X++T)))/\Below W.heap.size W w'):=
   hid (fun W T h1 h2=>ahB.out W 2 T (by decide) (by omega) h2)
  clear ahB hal Hxl;generalize strOf D=sD at *;generalize strOf X=sX at *;go_enter func7,ntmps7
  go_wp2_with fail
  refine Hal.out.mono ?_;rintro e w1 ⟨rfl,hb1⟩;have Hb1:=hid hb1;clear hb1 Hal;go_wp2_with fail
  refine(Hin.out _).mono ?_;rintro e w2 ⟨⟨T,ok,rfl,hT,Tf,hQ⟩,hb2⟩;have Hb2:=hid (Hb1.out.trans (hb2.mono Hb1.out.size));have Hb3:=hid (fun W=>ahE.out W T hT Tf);have HQ:=hid hQ;have hs3:=aA T;clear hb2 Hb1 Hin hQ Tf ahE;by_cases hy:ok=true/\T.length<X.length
  ·obtain⟨rfl,hlt⟩:=hy;have Hq:=hid (HQ.out rfl hlt);have d5:decide ((T.length:Int)<(X.length:Int))=true:=decide_eq_true (by omega);clear HQ;generalize hR:strOf T=sT at *;clear hR;go_wp2_with fail
   refine(Hb3.out _).mono ?_;rintro e w3 ⟨rfl,hb3⟩;have Hb4:=hid (Hb2.out.trans (hb3.mono Hb2.out.size));clear hb3 Hb2 Hb3;go_wp2;go_ret2;exact⟨⟨2,T,Hq.out,rfl⟩,Hb4.out⟩
  ·have d5:(ok && decide ((T.length:Int)<(X.length:Int)))=false:=by
    cases ok with
    | false=>rfl
    | true=>rw[decide_eq_false (fun c=>hy ⟨rfl,by omega⟩)];rfl
   clear HQ hy Hb3;generalize strOf T=sT at *;have Hb5:=hid (fun W=>ahC.out W);clear ahC;cases ok with
   | false=>
    go_wp2_with fail
    refine(Hb5.out _).mono ?_;rintro e w3 ⟨rfl,hb3⟩;have Hb4:=hid (Hb2.out.trans (hb3.mono Hb2.out.size));clear hb3 Hb2 Hb5;go_wp2;go_ret2;exact⟨⟨0,X,Hpl.out,rfl⟩,Hb4.out⟩
   | true=>
    rw[Bool.true_and]at d5;have hn:¬T.length<X.length:=fun c=>by
     have:=of_decide_eq_false d5;omega
    have d6:decide (T.length<X.length)=false:=decide_eq_false hn;go_wp2_with fail
    refine(Hb5.out _).mono ?_;rintro e w3 ⟨rfl,hb3⟩;have Hb4:=hid (Hb2.out.trans (hb3.mono Hb2.out.size));clear hb3 Hb2 Hb5;go_wp2;go_ret2;exact⟨⟨0,X,Hpl.out,rfl⟩,Hb4.out⟩
namespace Bm
structure aht(D X:List Nat)(ep:Nat)(S:List Nat):Prop where
 lt:∀x∈S,x<256
 len:S.length<=X.length+16
 pos:0<S.length
 plain:S.length<=(hdB 0 ep X++X).length
 head:∃k a,0<a/\pF S=some (k,ep,X.length,sumOf X,a)
 yes:∀lim:Int,(X.length:Int)<=lim->zk D S lim=(X,0)
 few:∀lim:Int,lim<(X.length:Int)->zk D S lim=([],5)
 cut:∀j,j<S.length->zk D (S.take j) (X.length:Int)=([],3)
 more:∀x,zk D (S++[x]) (X.length:Int)=([],3)
 other:∀(D':List Nat) (lim:Int) (Y:List Nat),zk D' S lim=(Y,0)->sumOf Y=sumOf X
theorem alH(k ep:Nat)(X:List Nat)(hk:k<256)(hep:ep<=1073741824)(hX:X.length<=512):∀x∈hdB k ep X,x<256:=fun x hx=>by
 unfold hdB at hx;rcases List.mem_cons.1 hx with rfl | hx
 ·exact hk
 ·rcases List.mem_append.1 hx with hx | hx
  ·exact lU ep (by omega) x hx
  ·rcases List.mem_append.1 hx with hx | hx
   ·exact lU X.length (by omega) x hx
   ·exact eH _ _ x hx
theorem alr{D X T:List Nat}{k ep:Nat}(h:vT D X k T)(hep:ep<=1073741824)(hX:X.length<=512):aht D X ep (hdB k ep X++T):=by
 have h1:=alG k ep X hep hX;have h2:=jg k ep X;have h3:=jg 0 ep X;have h4:=h.len;have h5:=h.kind;refine⟨fun x hx=>(List.mem_append.1 hx).elim (alH k ep X (by omega) hep hX x) (h.lt x),?_,?_,?_,⟨k,_,?_,gM k ep X T h.kind hep hX⟩,aei h hep hX,aeh h.kind hep hX,aeg h hep hX,Yy h hep hX,fun D' lim Y=>RN h.kind hep hX lim⟩
 ·rw[List.length_append];omega
 ·rw[List.length_append];omega
 ·rw[List.length_append,List.length_append];omega
 ·omega
end Bm
theorem aiq(D X:List Nat)(ep:Nat)(v:Int)(w:World)(hD:D.length<=256)(hX:X.length<=512)(hDlt:∀x∈D,x<256)(hXlt:∀x∈X,x<256)(hep:ep<=1073741824)(hv:bO v) :
  Calls prog 7 #[.string (strOf X),.string (strOf D),.int .i64 (ep:Int),.int .i64 v] w fun e w'=>(∃S,aht D X ep S/\e=.returned (.tuple #[.string (strOf S),.int .i64 0]))/\Below w.heap.size w w':=by
 refine(Yw D X ep v w hD hX hDlt hXlt hep hv).mono ?_;rintro e w' ⟨⟨k,T,hq,he⟩,hb⟩;exact⟨⟨_,alr hq hep hX,he⟩,hb⟩
theorem aip{D X S:List Nat}{ep:Nat}(hf:aht D X ep S)(D':List Nat)(lim:Int)(w:World)(hX:X.length<=512)(hD':D'.length<=1000)(hDlt:∀x∈D',x<256) :
  Calls prog 8 #[.string (strOf S),.string (strOf D'),.int .i64 lim] w fun e w'=>e=.returned (.tuple #[.string (strOf (zk D' S lim).1),.int .i64 ((zk D' S lim).2:Int)])/\Below w.heap.size w w':=
 Yv D' S lim w (by have:=hf.len;omega) hf.lt hD' hDlt
end Go.Proofs.YtaebnkeddcbmkaaGreat
