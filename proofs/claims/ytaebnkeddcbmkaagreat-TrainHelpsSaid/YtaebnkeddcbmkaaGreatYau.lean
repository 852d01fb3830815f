/- Contracts, and what they rest on. Conditions: the theorems' premises. -/
import Derived.Test.YtaebnkeddcbmkaaGreatYai
import Derived.RangeFuncNested
import Derived.RangeFuncBound
import Derived.Shelf.RegionOpen
import Derived.OwnWalkIn
import Derived.LoopNIn
import Derived.LoopIn
set_option maxHeartbeats 4000000
set_option maxRecDepth 100000
open Go.Lib(hid)
open Go.Proofs.Tryz
namespace Go.Proofs.YtaebnkeddcbmkaaGreat
open Go.RowKit Go.Shelf
attribute [local go_sem] Oper.semAt_some
theorem JE{w:World}{g off:Nat}{xs:List Value}(h:Reads w (some ⟨g,off,none⟩) xs)(hne:xs≠[]):g<w.heap.size:=by
 obtain⟨g',off',e,hc⟩:=h hne;injection e with e
 injection e with e1 e2
 subst e1 e2;have h0:0<xs.length:=List.length_pos_iff.2 hne;have h1:=hc 0 h0;rw[List.getElem?_eq_getElem h0]at h1;rcases Nat.lt_or_ge g w.heap.size with h2 | h2
 ·exact h2
 ·simp[World.cell?,Array.getElem?_eq_none h2]at h1
def oD(n₀ Bs:Nat)(A B:World):Prop:=Below n₀ A B/\B.heap[Bs]?=A.heap[Bs]?
theorem oD.t{n₀ Bs:Nat}{A B C:World}(h:oD n₀ Bs A B)(k:oD n₀ Bs B C):oD n₀ Bs A C:=⟨h.1.trans k.1,k.2.trans h.2⟩
theorem oD.b{n₀ Bs:Nat}{w:World}(hn:n₀<=w.heap.size)(hB:Bs<w.heap.size)(W:World)(l:Nat)(o o':Obj)(hl:w.heap.size<=l)(h:W.heap[l]?=some o)(h1:o.isCells=false)(h2:o.isWalk=false):oD n₀ Bs W (W.putObj l o'):=
 ⟨belowK_b hn W l o o' hl h h1 h2,World.putObj_heap_other (by omega)⟩
abbrev PB:=Nat×Fin 256
def PB.enc(x:PB):Array Value:=#[.int .i64 (x.1:Int),.int .u8 ((x.2:Nat):Int)]
def PB.syms(l:List PB):List Nat:=l.map fun x=>(x.2:Nat)
theorem PB.FU(l:List PB)(x:PB):PB.syms (l++[x])=PB.syms l++[(x.2:Nat)]:=by simp[PB.syms]
theorem PB.lN(l:List PB):(PB.syms l).length=l.length:=by simp[PB.syms]
theorem agf(F:Fence)(n:Nat)(h60:F.fn 206)(hro:F.round=none)(hn:1<=n)(l Bs n₀ g off c:Nat)(bs:List Nat)(hbs:∀x∈bs,x<256)(hl:bs.length<=1000000000)(hg:g<n₀)(J Jx:List PB->World->Prop)
  (hY:∀pre x W,J pre W->pre.length<bs.length->YieldAt F (n-1) prog l (PB.enc x) W fun e W'=>
   (e=.returned (.bool true)/\J (pre++[x]) W'/\oD n₀ Bs W W')\/(e=.returned (.bool false)/\Jx (pre++[x]) W'))
  (W:World) (hBs:W.cell? ⟨Bs,0,none⟩=some (.slice (some ⟨g,off,none⟩) bs.length c)) (hc:∀j (hj:j<bs.length),W.cell? ⟨g,off+j,none⟩=some (.int .u8 (bs[j]:Int))) (h0:J [] W) :
  CallsIn F n prog 206 #[.func (.yield l) #[] #[],.pointer (some ⟨Bs,0,none⟩)] W fun e W'=>(∃v,e=.returned v) /\
   ((∃ys,PB.syms ys=bs.reverse/\J ys W')\/(∃pre,PB.syms pre <+: bs.reverse/\Jx pre W')):=by
 refine callsIn_of_wp func206 rfl h60 ?_ hro;simp only[ntmps206,List.size_toArray,List.length_cons,List.length_nil,Nat.reduceAdd,Nat.reduceSub,Array.replicate_succ,Array.replicate_zero,List.push_toArray,List.append_toArray,List.nil_append,List.cons_append];gi_wp2
 gi_loopw [3] (fun i wr=>∃(k:Nat) (pre:List PB),k<=bs.length/\i=.int .i64 ((bs.length:Int)-1-(k:Int))/\PB.syms pre=bs.reverse.take k/\J pre wr/\oD n₀ Bs W wr)
  (fun i _=>(intOf i+1).toNat)
 case atStart=>exact⟨0,[],by omega,by simp,by simp[PB.syms],h0,Below.refl _ _,rfl⟩
 case round=>
  obtain⟨k,pre,hk,rfl,hp,hJs,hkb⟩:=hrel;have hpl:pre.length=k:=by
   have:=congrArg List.length hp;rw[PB.lN,List.length_take,List.length_reverse]at this;omega
  have hBr:wr.cell? ⟨Bs,0,none⟩=some (.slice (some ⟨g,off,none⟩) bs.length c):=(World.cell?_of_block (a:=⟨Bs,0,none⟩) hkb.2).trans hBs;by_cases hlt:k<bs.length
  ·obtain⟨q,hq⟩:∃q,bs.length=q+k+1:=⟨bs.length-k-1,by omega⟩;have hql:q<bs.length:=by omega
   have hcx:=(hkb.1.cell (p:=⟨g,off+q,none⟩) hg).trans (hc q hql);obtain⟨x,hx⟩:∃x:PB,x=(q,⟨bs[q],hbs _ (List.getElem_mem hql)⟩):=⟨_,rfl⟩;obtain⟨fn,tmps,assign,body,hy,hR⟩:=hY pre x wr hJs (by omega);have hp2:PB.syms (pre++[x])=bs.reverse.take (k+1):=by
    rw[PB.FU,hp,hx,List.take_add_one,List.getElem?_reverse (by omega),show bs.length-1-k=q by omega,List.getElem?_eq_getElem hql];rfl
   rw[hx]at hy;unfold PB.enc at hy;dsimp only at hy;have e1:(bs.length:Int)-1-(k:Int)=(q:Int):=by omega
   have Hp2:=hid hp2;clear hp2 hc hx hp hbs;generalize bs[q]=s at *;rw[e1];have Hkb:=hid hkb;have Hq:=hid hq;clear hkb hq;gi_wp2
   refine hR.mono ?_;rintro e W3 (⟨rfl,hJ3,hk3⟩ | ⟨rfl,hJx3⟩)
   ·gi_wp2
    go_roundw
    case rel=>
     refine⟨k+1,pre++[x],hlt,?_,Hp2.out,hJ3,Hkb.out.t hk3⟩;have hq:=Hq.out;rw[hq];congr 1
     simp;omega
    case measure=>simp[intOf]
   ·gi_wp2
    refine bodyPost_ret (results_none rfl _ _ _) rfl ?_;exact⟨⟨_,rfl⟩,.inr ⟨pre++[x],by rw[Hp2.out];exact List.take_prefix _ _,hJx3⟩⟩
  ·obtain rfl:k=bs.length:=by omega
   have e1:(bs.length:Int)-1-(bs.length:Int)=-1:=by omega
   rw[e1];clear hc hbs;gi_wp2
   go_end0
   exact⟨⟨_,rfl⟩,.inl ⟨pre,by rw[hp,List.take_of_length_le (by simp)],hJs⟩⟩
theorem JH(F:Fence)(n:Nat)(h60:F.fn 206)(hro:F.round=none)(l Bs c:Nat)(A:Option Addr)(J:List PB->World->Prop)(W:World)(hBs:W.cell? ⟨Bs,0,none⟩=some (.slice A 0 c))(h0:J [] W) :
  CallsIn F n prog 206 #[.func (.yield l) #[] #[],.pointer (some ⟨Bs,0,none⟩)] W fun e W'=>(∃v,e=.returned v)/\J [] W':=by
 refine callsIn_of_wp func206 rfl h60 ?_ hro;simp only[ntmps206,List.size_toArray,List.length_cons,List.length_nil,Nat.reduceAdd,Nat.reduceSub,Array.replicate_succ,Array.replicate_zero,List.push_toArray,List.append_toArray,List.nil_append,List.cons_append];gi_wp2
 gi_loopw [3] (fun i wr=>i=.int .i64 (-1)/\J [] wr) (fun _ _=>0)
 case atStart=>exact⟨rfl,h0⟩
 case round=>
  obtain⟨rfl,hJs⟩:=hrel;gi_wp2
  go_end0
  exact⟨⟨_,rfl⟩,hJs⟩
theorem Gv(F:Fence)(n:Nat)(h48:F.fn 194)(hro:F.round=none)(A:Option Addr)(len c:Nat)(w:World) :
  CallsIn F n prog 194 #[.slice A len c] w fun e w'=>e=.returned (.func (.func 206) #[] #[.pointer (some ⟨w.heap.size,0,none⟩)])/\w'=w.alloc (.cells #[.slice A len c] 60):=by
 refine callsIn_of_wp func194 rfl h48 ?_ hro;simp only[ntmps194,List.size_toArray,List.length_cons,List.length_nil,Nat.reduceAdd,Nat.reduceSub,Array.replicate_succ,Array.replicate_zero,List.push_toArray,List.append_toArray,List.nil_append,List.cons_append];gi_wp2
 go_ret;exact⟨rfl,rfl⟩
theorem zi(F:Fence)(n:Nat)(h60:F.fn 206)(hro:F.round=none)(hn:1<=n)(Bs c:Nat)(A:Option Addr)(bs:List Nat)(hbs:∀x∈bs,x<256)(hl:bs.length<=1000000000)(w0 w:World)(hw:Below w0.heap.size w0 w)(hBs:Bs<w.heap.size)
  (hc:w.cell? ⟨Bs,0,none⟩=some (.slice A bs.length c)) (hr:Reads w0 A (u8s bs)) :
  SeqStopsK F n prog 206 #[.pointer (some ⟨Bs,0,none⟩)] PB.enc (oD w0.heap.size Bs) (fun ys=>PB.syms ys=bs.reverse) (fun pre=>PB.syms pre <+: bs.reverse) bs.length w:=fun l J Jx W hW _ _ hY h0=>by
 have hc':=(hW.cell (p:=⟨Bs,0,none⟩) hBs).trans hc;have hwW:Below w0.heap.size w0 W:=hw.trans (hW.mono hw.size);by_cases hne:bs=[]
 ·subst hne;exact(JH F n h60 hro l Bs c A J W hc' h0).mono fun e W' ⟨he,hj⟩=>⟨he,.inl ⟨[],rfl,hj⟩⟩
 ·obtain⟨g,off,rfl,hcs⟩:=gu (aC hr hwW) hne;exact agf F n h60 hro hn l Bs w0.heap.size g off c bs hbs hl (JE hr (by intro e;apply hne;simpa [u8s]using e)) J Jx hY W hc' hcs h0
end Go.Proofs.YtaebnkeddcbmkaaGreat
