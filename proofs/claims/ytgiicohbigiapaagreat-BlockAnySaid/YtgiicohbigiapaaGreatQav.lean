/- Contracts. -/
import Derived.Test.YtgiicohbigiapaaGreatQai
import Derived.RangeFuncNested
import Derived.RangeFuncBound
import Derived.Shelf.RegionOpen
import Derived.OwnWalkIn
import Derived.LoopNIn
import Derived.LoopIn
import Derived.Test.YtgiicohbigiapaaGreatQz1
import Derived.Test.YtgiicohbigiapaaGreatQz0
set_option maxHeartbeats 4000000
set_option maxRecDepth 100000
open Go.Proofs.Tryz Go.Proofs.YtgiicohbigiapaaGreat.ao List Nat Option
namespace Go.Proofs.YtgiicohbigiapaaGreat
open Go.RowKit Go.Shelf
attribute [local go_sem] Oper.semAt_some
theorem apj{w:ai}{g off:Nat}{xs:b3}(h:Reads w (some ⟨g,off,none⟩) xs)(aX:xs≠[]):g<w.heap.size:=by
 obtain⟨fd,off',e,hc⟩:=h aX;injection e with e
 injection e with aF e2
 subst aF e2;have am:0<xs.length:=List.length_pos_iff.2 aX;have h1:=hc 0 am;rw[bH am]at h1;rcases eP g w.heap.size with af | af
 .exact af
 .simp[World.cell?,Array.getElem?_eq_none af]at h1
def oh(n₀ ck:Nat)(A B:ai):Prop:=Below n₀ A B/\B.heap[ck]?=A.heap[ck]?
theorem oh.t{n₀ ck:Nat}{A B C:ai}(h:oh n₀ ck A B)(k:oh n₀ ck B C):oh n₀ ck A C:=⟨h.1.trans k.1,k.2.trans h.2⟩
theorem oh.b{n₀ ck:Nat}{w:ai}(az:n₀<=w.heap.size)(bu:ck<w.heap.size)(W:ai)(l:Nat)(o ET:Obj)(hl:w.heap.size<=l)(h:W.heap[l]?=some o)(h1:o.isCells=false)(af:o.isWalk=false):oh n₀ ck W (W.putObj l ET):=
 ⟨belowK_b az W l o ET hl h h1 af,World.putObj_heap_other (by omega)⟩
abbrev fW:=Nat×Fin 256
def fW.enc(x:fW):Array Value:=#[.int .i64 (x.1:Int),.int .u8 ((x.2:Nat):Int)]
def fW.syms(l:List fW):ae:=l.map λx=>(x.2:Nat)
theorem fW.abB(l:List fW)(x:fW):fW.syms (l++[x])=fW.syms l++[(x.2:Nat)]:=by simp[fW.syms]
theorem fW.I1(l:List fW):(fW.syms l).length=l.length:=by simp[fW.syms]
theorem apu(F:Fence)(n:Nat)(A7:F.fn 228)(mb:F.round=none)(az:1<=n)(l ck n₀ g off c:Nat)(bs:ae)(cr:∀x∈bs,x<256)(hl:bs.length<=1000000000)(aD:g<n₀)(J uZ:List fW->ai->Prop)
  (vw:∀pre x W,J pre W->pre.length<bs.length->YieldAt F (n-1) prog l (fW.enc x) W λe bc=>
   (e=.returned (.bool true)/\J (pre++[x]) bc/\oh n₀ ck W bc)\/(e=.returned (.bool false)/\uZ (pre++[x]) bc))
  (W:ai) (su:W.cell? ⟨ck,0,none⟩=some (.slice (some ⟨g,off,none⟩) bs.length c)) (hc:∀j (ar:j<bs.length),W.cell? ⟨g,off+j,none⟩=some (.int .u8 (bs[j]:Int))) (am:J [] W) :
  CallsIn F n prog 228 #[.func (.yield l) #[] #[],.pointer (some ⟨ck,0,none⟩)] W λe bc=>(∃v,e=.returned v) /\
   ((∃ys,fW.syms ys=bs.reverse/\J ys bc)\/(∃pre,fW.syms pre <+: bs.reverse/\uZ pre bc)):=by
 refine callsIn_of_wp func228 rfl A7 ?_ mb;simp only[ntmps228,List.size_toArray,b1,length_nil,reduceAdd,reduceSub,Array.replicate_succ,Array.replicate_zero,push_toArray,append_toArray,nil_append,cons_append];gi_wp2
 gi_loopw [3] (λi wr=>∃(k:Nat) (pre:List fW),k<=bs.length/\i=.int .i64 ((bs.length:Int)-1-k)/\fW.syms pre=bs.reverse.take k/\J pre wr/\oh n₀ ck W wr)
  (λi _=>(intOf i+1).toNat)
 case atStart=>exact⟨0,[],by omega,by simp,by simp[fW.syms],am,Below.refl _ _,rfl⟩
 case round=>
  obtain⟨k,pre,hk,rfl,aw,yV,pJ⟩:=hrel;have cm:pre.length=k:=by
   have:=congrArg List.length aw;rw[fW.I1,cq,length_reverse]at this;omega
  have auF:wr.cell? ⟨ck,0,none⟩=some (.slice (some ⟨g,off,none⟩) bs.length c):=(World.cell?_of_block (a:=⟨ck,0,none⟩) pJ.2).trans su;by_cases av:k<bs.length
  .obtain⟨q,hq⟩:∃q,bs.length=q+k+1:=⟨bs.length-k-1,by omega⟩;have hX:q<bs.length:=by omega
   have avo:=(pJ.1.cell (p:=⟨g,off+q,none⟩) aD).trans (hc q hX);obtain⟨x,ah⟩:∃x:fW,x=(q,⟨bs[q],cr _ (b7 hX)⟩):=⟨_,rfl⟩;obtain⟨fn,tmps,assign,body,hy,cS⟩:=vw pre x wr yV (by omega);have kC:fW.syms (pre++[x])=bs.reverse.take (k+1):=by
    rw[fW.abB,aw,ah,take_add_one,getElem?_reverse (by omega),show bs.length-1-k=q by omega,bH hX];rfl
   rw[ah]at hy;unfold fW.enc at hy;dsimp only at hy;have aF:(bs.length:Int)-1-k=q:=by omega
   have nH:=I kC;clear kC hc ah aw cr;generalize bs[q]=s at *;rw[aF];have adl:=I pJ;have iR:=I hq;clear pJ hq;gi_wp2
   refine cS.mono ?_;rintro e lE (⟨rfl,DG,kB⟩ | ⟨rfl,hJx3⟩)
   .gi_wp2
    go_roundw
    case rel=>
     refine⟨k+1,pre++[x],av,?_,nH,DG,adl.out.t kB⟩;have hq:=iR.out;rw[hq];congr 1
     simp;omega
    case measure=>simp[intOf]
   .gi_wp2
    refine bodyPost_ret (results_none rfl _ _ _) rfl ?_;exact⟨⟨_,rfl⟩,.inr ⟨pre++[x],by rw[nH.out];exact take_prefix _ _,hJx3⟩⟩
  .obtain rfl:k=bs.length:=by omega
   have aF:(bs.length:Int)-1-(bs.length:Int)=-1:=by omega
   rw[aF];clear hc cr;gi_wp2
   go_end0
   exact⟨⟨_,rfl⟩,.inl ⟨pre,by rw[aw,take_of_length_le (by simp)],yV⟩⟩
theorem apv(F:Fence)(n:Nat)(A7:F.fn 228)(mb:F.round=none)(l ck c:Nat)(A:a7)(J:List fW->ai->Prop)(W:ai)(su:W.cell? ⟨ck,0,none⟩=some (.slice A 0 c))(am:J [] W) :
  CallsIn F n prog 228 #[.func (.yield l) #[] #[],.pointer (some ⟨ck,0,none⟩)] W λe bc=>(∃v,e=.returned v)/\J [] bc:=by
 refine callsIn_of_wp func228 rfl A7 ?_ mb;simp only[ntmps228,List.size_toArray,b1,length_nil,reduceAdd,reduceSub,Array.replicate_succ,Array.replicate_zero,push_toArray,append_toArray,nil_append,cons_append];gi_wp2
 gi_loopw [3] (λi wr=>i=.int .i64 (-1)/\J [] wr) (λ_ _=>0)
 case atStart=>exact⟨rfl,am⟩
 case round=>
  obtain⟨rfl,yV⟩:=hrel;gi_wp2
  go_end0
  exact⟨⟨_,rfl⟩,yV⟩
theorem aeU(F:Fence)(n:Nat)(aia:F.fn 214)(mb:F.round=none)(A:a7)(len c:Nat)(w:ai) :
  CallsIn F n prog 214 #[.slice A len c] w λe w'=>e=.returned (.func (.func 228) #[] #[.pointer (some ⟨w.heap.size,0,none⟩)])/\w'=w.alloc (.cells #[.slice A len c] 87):=by
 refine callsIn_of_wp func214 rfl aia ?_ mb;simp only[ntmps214,List.size_toArray,b1,length_nil,reduceAdd,reduceSub,Array.replicate_succ,Array.replicate_zero,push_toArray,append_toArray,nil_append,cons_append];gi_wp2
 go_ret;exact⟨rfl,rfl⟩
theorem aeV(F:Fence)(n:Nat)(A7:F.fn 228)(mb:F.round=none)(az:1<=n)(ck c:Nat)(A:a7)(bs:ae)(cr:∀x∈bs,x<256)(hl:bs.length<=1000000000)(w0 w:ai)(hw:Below w0.heap.size w0 w)(su:ck<w.heap.size)
  (hc:w.cell? ⟨ck,0,none⟩=some (.slice A bs.length c)) (aj:Reads w0 A (aN bs)) :
  SeqStopsK F n prog 228 #[.pointer (some ⟨ck,0,none⟩)] fW.enc (oh w0.heap.size ck) (λys=>fW.syms ys=bs.reverse) (λpre=>fW.syms pre <+: bs.reverse) bs.length w:=λl J uZ W bg _ _ vw am=>by
 have re:=(bg.cell (p:=⟨ck,0,none⟩) su).trans hc;have HT:Below w0.heap.size w0 W:=hw.trans (bg.mono hw.size);by_cases aX:bs=[]
 .subst aX;exact(apv F n A7 mb l ck c A J W re am).mono λe bc ⟨he,ar⟩=>⟨he,.inl ⟨[],rfl,ar⟩⟩
 .obtain⟨g,off,rfl,hcs⟩:=nA (c9 aj HT) aX;exact apu F n A7 mb az l ck w0.heap.size g off c bs cr hl (apj aj (by intro e;apply aX;simpa [aN]using e)) J uZ vw W re hcs am
end Go.Proofs.YtgiicohbigiapaaGreat
