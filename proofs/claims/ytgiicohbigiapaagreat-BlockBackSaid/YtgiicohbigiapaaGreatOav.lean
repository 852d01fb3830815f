/- Contracts. -/
import Derived.Test.YtgiicohbigiapaaGreatOai
import Derived.RangeFuncNested
import Derived.RangeFuncBound
import Derived.Shelf.RegionOpen
import Derived.OwnWalkIn
import Derived.LoopNIn
import Derived.LoopIn
import Derived.Test.YtgiicohbigiapaaGreatOz1
import Derived.Test.YtgiicohbigiapaaGreatOz0
set_option maxHeartbeats 4000000
set_option maxRecDepth 100000
open Go.Proofs.Tryz Go.Proofs.YtgiicohbigiapaaGreat.am List Nat Option
namespace Go.Proofs.YtgiicohbigiapaaGreat
open Go.RowKit Go.Shelf
attribute [local go_sem] Oper.semAt_some
theorem apG{w:ah}{g off:Nat}{xs:b1}(h:Reads w (some ⟨g,off,none⟩) xs)(aZ:xs≠[]):g<w.heap.size:=by
 obtain⟨eT,off',e,hc⟩:=h aZ;injection e with e
 injection e with aG e2
 subst aG e2;have ao:0<xs.length:=List.length_pos_iff.2 aZ;have h1:=hc 0 ao;rw[bI ao]at h1;rcases eF g w.heap.size with af|af
 .exact af
 .simp[World.cell?,Array.getElem?_eq_none af]at h1
def nR(n₀ cm:Nat)(A B:ah):Prop:=Below n₀ A B/\B.heap[cm]?=A.heap[cm]?
theorem nR.t{n₀ cm:Nat}{A B C:ah}(h:nR n₀ cm A B)(k:nR n₀ cm B C):nR n₀ cm A C:=⟨h.1.trans k.1,k.2.trans h.2⟩
theorem nR.b{n₀ cm:Nat}{w:ah}(aA:n₀<=w.heap.size)(bx:cm<w.heap.size)(W:ah)(l:Nat)(o D1:Obj)(hl:w.heap.size<=l)(h:W.heap[l]?=some o)(h1:o.isCells=false)(af:o.isWalk=false):nR n₀ cm W (W.putObj l D1):=
 ⟨belowK_b aA W l o D1 hl h h1 af,World.putObj_heap_other (by omega)⟩
abbrev fT:=Nat×Fin 256
def fT.enc(x:fT):Array Value:=#[.int .i64 (x.1:Int),.int .u8 ((x.2:Nat):Int)]
def fT.syms(l:List fT):ae:=l.map λx=>(x.2:Nat)
theorem fT.ZH(l:List fT)(x:fT):fT.syms (l++[x])=fT.syms l++[(x.2:Nat)]:=by simp[fT.syms]
theorem fT.HN(l:List fT):(fT.syms l).length=l.length:=by simp[fT.syms]
theorem apQ(F:Fence)(n:Nat)(Ac:F.fn 228)(lV:F.round=none)(aA:1<=n)(l cm n₀ g off c:Nat)(bs:ae)(cs:∀x∈bs,x<256)(hl:bs.length<=1000000000)(aF:g<n₀)(J um:List fT->ah->Prop)
  (uN:∀pre x W,J pre W->pre.length<bs.length->YieldAt F (n-1) prog l (fT.enc x) W λe bb=>
   (e=.returned (.bool true)/\J (pre++[x]) bb/\nR n₀ cm W bb)\/(e=.returned (.bool false)/\um (pre++[x]) bb))
  (W:ah)(rT:W.cell? ⟨cm,0,none⟩=some (.slice (some ⟨g,off,none⟩) bs.length c))(hc:∀j (ar:j<bs.length),W.cell? ⟨g,off+j,none⟩=some (.int .u8 (bs[j]:Int)))(ao:J [] W) :
  CallsIn F n prog 228 #[.func (.yield l) #[] #[],.pointer (some ⟨cm,0,none⟩)] W λe bb=>(∃v,e=.returned v) /\
   ((∃ys,fT.syms ys=bs.reverse/\J ys bb)\/(∃pre,fT.syms pre <+: bs.reverse/\um pre bb)):=by
 refine callsIn_of_wp func228 rfl Ac ?_ lV;simp only[ntmps228,List.size_toArray,bY,length_nil,reduceAdd,reduceSub,Array.replicate_succ,Array.replicate_zero,push_toArray,append_toArray,nil_append,cons_append];gi_wp2
 gi_loopw [3] (λi wr=>∃(k:Nat) (pre:List fT),k<=bs.length/\i=.int .i64 ((bs.length:Int)-1-k)/\fT.syms pre=bs.reverse.take k/\J pre wr/\nR n₀ cm W wr)
  (λi _=>(intOf i+1).toNat)
 case atStart=>exact⟨0,[],by omega,by simp,by simp[fT.syms],ao,Below.refl _ _,rfl⟩
 case round=>
  obtain⟨k,pre,hk,rfl,ax,x1,pu⟩:=hrel;have cn:pre.length=k:=by
   have:=congrArg List.length ax;rw[fT.HN,cr,length_reverse]at this;omega
  have au2:wr.cell? ⟨cm,0,none⟩=some (.slice (some ⟨g,off,none⟩) bs.length c):=(World.cell?_of_block (a:=⟨cm,0,none⟩) pu.2).trans rT;by_cases au:k<bs.length
  .obtain⟨q,hq⟩:∃q,bs.length=q+k+1:=⟨bs.length-k-1,by omega⟩;have hL:q<bs.length:=by omega
   have avK:=(pu.1.cell (p:=⟨g,off+q,none⟩) aF).trans (hc q hL);obtain⟨x,ai⟩:∃x:fT,x=(q,⟨bs[q],cs _ (b8 hL)⟩):=⟨_,rfl⟩;obtain⟨fn,tmps,assign,body,hy,cK⟩:=uN pre x wr x1 (by omega);have kr:fT.syms (pre++[x])=bs.reverse.take (k+1):=by
    rw[fT.ZH,ax,ai,take_add_one,getElem?_reverse (by omega),show bs.length-1-k=q by omega,bI hL];rfl
   rw[ai]at hy;unfold fT.enc at hy;dsimp only at hy;have aG:(bs.length:Int)-1-k=q:=by omega
   have nf:=I kr;clear kr hc ai ax cs;generalize bs[q]=s at *;rw[aG];have acI:=I pu;have jt:=I hq;clear pu hq;gi_wp2
   refine cK.mono ?_;rintro e lj (⟨rfl,CP,kq⟩|⟨rfl,hJx3⟩)
   .gi_wp2
    go_roundw
    case rel=>
     refine⟨k+1,pre++[x],au,?_,nf,CP,acI.out.t kq⟩;have hq:=jt.out;rw[hq];congr 1
     simp;omega
    case measure=>simp[intOf]
   .gi_wp2
    refine bodyPost_ret (results_none rfl _ _ _) rfl ?_;exact⟨⟨_,rfl⟩,.inr ⟨pre++[x],by rw[nf.out];exact take_prefix _ _,hJx3⟩⟩
  .obtain rfl:k=bs.length:=by omega
   have aG:(bs.length:Int)-1-(bs.length:Int)=-1:=by omega
   rw[aG];clear hc cs;gi_wp2
   go_end0
   exact⟨⟨_,rfl⟩,.inl ⟨pre,by rw[ax,take_of_length_le (by simp)],x1⟩⟩
theorem apR(F:Fence)(n:Nat)(Ac:F.fn 228)(lV:F.round=none)(l cm c:Nat)(A:a7)(J:List fT->ah->Prop)(W:ah)(rT:W.cell? ⟨cm,0,none⟩=some (.slice A 0 c))(ao:J [] W) :
  CallsIn F n prog 228 #[.func (.yield l) #[] #[],.pointer (some ⟨cm,0,none⟩)] W λe bb=>(∃v,e=.returned v)/\J [] bb:=by
 refine callsIn_of_wp func228 rfl Ac ?_ lV;simp only[ntmps228,List.size_toArray,bY,length_nil,reduceAdd,reduceSub,Array.replicate_succ,Array.replicate_zero,push_toArray,append_toArray,nil_append,cons_append];gi_wp2
 gi_loopw [3] (λi wr=>i=.int .i64 (-1)/\J [] wr) (λ_ _=>0)
 case atStart=>exact⟨rfl,ao⟩
 case round=>
  obtain⟨rfl,x1⟩:=hrel;gi_wp2
  go_end0
  exact⟨⟨_,rfl⟩,x1⟩
theorem ae7(F:Fence)(n:Nat)(aiv:F.fn 214)(lV:F.round=none)(A:a7)(len c:Nat)(w:ah) :
  CallsIn F n prog 214 #[.slice A len c] w λe w'=>e=.returned (.func (.func 228) #[] #[.pointer (some ⟨w.heap.size,0,none⟩)])/\w'=w.alloc (.cells #[.slice A len c] 87):=by
 refine callsIn_of_wp func214 rfl aiv ?_ lV;simp only[ntmps214,List.size_toArray,bY,length_nil,reduceAdd,reduceSub,Array.replicate_succ,Array.replicate_zero,push_toArray,append_toArray,nil_append,cons_append];gi_wp2
 go_ret;exact⟨rfl,rfl⟩
theorem ae8(F:Fence)(n:Nat)(Ac:F.fn 228)(lV:F.round=none)(aA:1<=n)(cm c:Nat)(A:a7)(bs:ae)(cs:∀x∈bs,x<256)(hl:bs.length<=1000000000)(w0 w:ah)(hw:av w0 w)(rT:cm<w.heap.size)
  (hc:w.cell? ⟨cm,0,none⟩=some (.slice A bs.length c))(aj:Reads w0 A (aO bs)) :
  SeqStopsK F n prog 228 #[.pointer (some ⟨cm,0,none⟩)] fT.enc (nR w0.heap.size cm) (λys=>fT.syms ys=bs.reverse) (λpre=>fT.syms pre <+: bs.reverse) bs.length w:=λl J um W bk _ _ uN ao=>by
 have qL:=(bk.cell (p:=⟨cm,0,none⟩) rT).trans hc;have GK:av w0 W:=hw.trans (bk.mono hw.size);by_cases aZ:bs=[]
 .subst aZ;exact(apR F n Ac lV l cm c A J W qL ao).mono λe bb ⟨he,ar⟩=>⟨he,.inl ⟨[],rfl,ar⟩⟩
 .obtain⟨g,off,rfl,hcs⟩:=m9 (c7 aj GK) aZ;exact apQ F n Ac lV aA l cm w0.heap.size g off c bs cs hl (apG aj (by intro e;apply aZ;simpa [aO]using e)) J um uN W qL hcs ao
end Go.Proofs.YtgiicohbigiapaaGreat
