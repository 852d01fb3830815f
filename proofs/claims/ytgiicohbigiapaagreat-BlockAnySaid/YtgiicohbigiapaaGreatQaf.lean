/- Contracts. -/
import Derived.Test.YtgiicohbigiapaaGreatQae
import Derived.Laws.CopyOwn
import Derived.Deep.AppendSrc
import Derived.Lib.BufferWrite
import Derived.Test.YtgiicohbigiapaaGreatQz1
import Derived.Test.YtgiicohbigiapaaGreatQz0
set_option maxHeartbeats 4000000
set_option maxRecDepth 100000
open Go.Proofs.Tryz Go.Proofs.YtgiicohbigiapaaGreat.ao List Nat Option
namespace Go.Proofs.YtgiicohbigiapaaGreat
open Go.RowKit
theorem PO{P:Program}{ops:Array Oper}{o:Oper}{a:Act}{w:ai}{K:Act->ai->Prop}{Q:Exit->Act->ai->Prop}{E:Prop}(D0:o.guard=none)(d s:Operand)(GY rE:TypeId)
  (b8:o.op=.call {callee:=.builtin .copy,args:=#[d,s],argTypes:=#[GY,rE]}) (elem:TypeId) (hu:P.underlying GY=some (.slice elem)) (bI:(P.info? elem).map (·.size)=some 1)
  (G3 PI:a7) (dLen dCap sLen sCap:Nat) (aG:a.eval d=.slice G3 dLen dCap) (ap:a.eval s=.slice PI sLen sCap)
  (g off:Nat) (fg:b3) (t:TypeId) (aD:Row w g t fg) (ag:b3) (az:ag.length=Nat.min sLen dLen)
  (hpos:0<ag.length->G3=some ⟨g,off,none⟩/\∃ad,PI=some ad/\∀j v,ag[j]?=some v->w.cell? (ad.add j)=some v)
  (hfit:off+ag.length<=fg.length) (h1:∀v∈ag,v.oneCell'=true)
  (h:∀w',Hid (Row w' g t (splice fg off ag))->Hid (w.grownBy w' (some g))->K (a.put o.dst (goInt ag.length)) w') :
  if Region.wanted o (yielded ops a.tmps)=true then Oper.wp P o a w K Q else E:=by
 have hw:Region.wanted o (yielded ops a.tmps)=true:=by simp[Region.wanted,D0]
 rw[aA hw];by_cases am:ag.length=0
 .obtain rfl:ag=[]:=lq am;have hrun:=run_copy_none (P:=P) w GY rE o.type elem G3 PI dLen dCap sLen sCap hu bI (by simpa using az.symm);unfold Oper.wp;simp[execOp,b8,resolve,invoke,builtin,aG,ap,hrun,Result.andThen];exact h w (I (show Row _ _ _ _ by simpa [splice]using aD)) (I (dl w _))
 .obtain⟨rfl,ad,rfl,hsrc⟩:=hpos (by omega);have hrun:=run_copy_row (P:=P) w GY rE o.type elem g off dLen dCap ad sLen sCap fg.toArray t ag hu bI aD az hsrc (by simpa using hfit) h1;unfold Oper.wp;simp[execOp,b8,resolve,invoke,builtin,aG,ap,hrun,Result.andThen];refine h _ (I (show _=_ by simpa [splice]using setRow_heap w g _ _ t _ aD)) (I ⟨rfl,rfl,rfl,by simp[World.setRow],λk hk aX=>setRow_other w g k _ (λe=>aX (by rw[e]))⟩)
theorem YE:aei:=by
 intro w;go_enter func96,ntmps96
 go_wp2;exact bodyPost_ret (by simp[results,results96,go_sem]) rfl ⟨rfl,((dQ.alloc bh _))⟩
def s3(a b c x:Int):Int:=if a=x then 0 else if b=x then 1 else if c=x then 2 else -1
theorem alr(bD:Nat)(t:TypeId)(a b c x:Int)(w:ai)(hrow:Row w bD t [.int .i64 a,.int .i64 b,.int .i64 c]) :
  Calls prog 159 #[.slice (some ⟨bD,0,none⟩) 3 3,.int .i64 x] w λe w'=>e=.returned (.int .i64 (s3 a b c x))/\w=w':=by
 obtain⟨c0,c1,c2⟩:=dE hrow;obtain⟨r,aj⟩:∃r,r=s3 a b c x:=⟨_,rfl⟩;have bS:=aj;rw[<-aj];unfold s3 at bS;clear aj hrow;go_enter func159,ntmps159
 go_wp2;refine wp_loop_rounds 4 ?_;by_cases aS:a=x
 .rw[aA aS]at bS;have AY:(x == a)=true:=by simp[aS]
  subst bS;rw[rounds_succ];go_wp2;go_ret;exact⟨rfl,rfl⟩
 .have AY:(x == a)=false:=by simp;exact λh=>aS h.symm
  rw[ay aS]at bS;rw[rounds_succ];go_wp2;by_cases ak:b=x
  .rw[aA ak]at bS;have GZ:(x == b)=true:=by simp[ak]
   subst bS;rw[rounds_succ];go_wp2;go_ret;exact⟨rfl,rfl⟩
  .have GZ:(x == b)=false:=by simp;exact λh=>ak h.symm
   rw[ay ak]at bS;rw[rounds_succ];go_wp2;by_cases hc:c=x
   .rw[aA hc]at bS;have G0:(x == c)=true:=by simp[hc]
    subst bS;rw[rounds_succ];go_wp2;go_ret;exact⟨rfl,rfl⟩
   .have G0:(x == c)=false:=by simp;exact λh=>hc h.symm
    rw[ay hc]at bS;subst bS;rw[rounds_succ];go_wp2;rw[rounds_succ];go_wp2;go_ret;exact⟨rfl,rfl⟩
def AO(a b c x:Int)(k:Nat):Int×Int×Int:=if k=0 then(x,b,c)else if k=1 then(x,a,c)else(x,a,b)
theorem alh(a b c x:Int)(w:ai):Calls prog 160 #[.agg #[.int .i64 a,.int .i64 b,.int .i64 c],.int .i64 x,.int .i64 2] w λe w'=>e=.returned (.agg #[.int .i64 x,.int .i64 a,.int .i64 b])/\Below w.heap.size w w':=by
 obtain⟨bD,dg⟩:∃bD,bD=w.heap.size:=⟨_,rfl⟩;obtain⟨bP,aH⟩:∃bP,bP=w.heap.size+1:=⟨_,rfl⟩;have dW:=I dg;have aK:=I aH;clear dg aH;go_enter func160,ntmps160
 go_wp2;rw[<-aK.out,<-dW.out];have hr:Row ((w.alloc (.cells #[.int .i64 a,.int .i64 b,.int .i64 c] 154)).alloc (.cells #[.int .i64 0,.int .i64 0,.int .i64 0] 154)) bD 154 [.int .i64 a,.int .i64 b,.int .i64 c]:=by rw[dW.out];exact(Row.new w _ _).alloc _
 have fT:Row ((w.alloc (.cells #[.int .i64 a,.int .i64 b,.int .i64 c] 154)).alloc (.cells #[.int .i64 0,.int .i64 0,.int .i64 0] 154)) bP 154 [.int .i64 0,.int .i64 0,.int .i64 0]:=by
  have h:=Row.new (w.alloc (.cells #[.int .i64 a,.int .i64 b,.int .i64 c] 154)) 154 [.int .i64 0,.int .i64 0,.int .i64 0];rw[aK.out];simpa using h
 have hbel:=((Below.refl w.heap.size w).alloc bh (.cells #[.int .i64 a,.int .i64 b,.int .i64 c] 154)).alloc (by simp) (.cells #[.int .i64 0,.int .i64 0,.int .i64 0] 154);have l0:=I hr;have jJ:=I fT;have gE:=I hbel;have jY:=I (show bD≠bP by rw[dW.out,aK.out];omega);obtain⟨c0,c1,c2⟩:=dE hr;have ya:=I c0;have Aa:=I c1;have Cg:=I c2;clear hr fT hbel c0 c1 c2;have e3:IntKind.i64.wrap 3=3:=IntWalk.i64_in _ (by omega);generalize (w.alloc (.cells #[.int .i64 a,.int .i64 b,.int .i64 c] 154)).alloc (.cells #[.int .i64 0,.int .i64 0,.int .i64 0] 154)=dv at *;go_region_law (refine PO rfl (.tmp 9) (.tmp 11) 112 112 rfl 3 underlying112 (by kernel_rfl) (some ⟨bD,1,none⟩) (some ⟨bD,0,none⟩) 2 2 2 3 rfl rfl bD 1 [.int .i64 a,.int .i64 b,.int .i64 c] 154 l0.out [.int .i64 a,.int .i64 b] rfl (λ_=>⟨rfl,_,rfl,λj v ar=>(by match j,ar with | 0,ar=>exact ar▸ya.out | 1,ar=>exact ar▸Aa.out)⟩) (by simp) (by intro v aE;simp only[mem_cons,not_mem_nil,or_false]at aE;rcases aE with rfl | rfl<;>rfl) ?_;intro bA cA a8)
 have sS:Row bA bD 154 [.int .i64 a,.int .i64 a,.int .i64 b]:=cA.out;have mc:Row bA bP 154 [.int .i64 0,.int .i64 0,.int .i64 0]:=jJ.out.keep (a8.out.block bP jJ.out.lt (λe=>jY.out (by injection e with e;exact e.symm)));have Cn:=I (show Below w.heap.size w bA from gE.out.drew.grown a8.out gE.out.size (λk e=>by injection e with e;rw[<-e,dW.out];exact Nat.le_refl _));obtain⟨c0,c1,c2⟩:=dE sS;obtain⟨c3,c4,c5⟩:=dE mc;have f0:=sS.free 0;have f3:=mc.free 0;have f4:=mc.free 1;have f5:=mc.free 2;have aX:=jY.out;have hne':bP≠bD:=λe=>aX e.symm
 have b5:=I (show w.heap.size<=bD/\w.heap.size<=bP by rw[dW.out,aK.out];omega);have cd:Row (bA.setCell ⟨bD,0,none⟩ (.int .i64 x)) bP 154 [.int .i64 0,.int .i64 0,.int .i64 0]:=mc.cG hne' _;have s0:=(cd.bm 0 (.int .i64 x)).cell 0;have s1:=((cd.bm 0 (.int .i64 x)).bm 1 (.int .i64 a)).cell 1;have s2:=(((cd.bm 0 (.int .i64 x)).bm 1 (.int .i64 a)).bm 2 (.int .i64 b)).cell 2;simp only[set_cons_zero,set_cons_succ,dR,dU]at s0 s1 s2;have eg:=I s0;have c6:=I s1;have fX:=I s2;clear cd s0 s1 s2;clear sS mc cA a8 e3 dW aK l0 jJ gE ya Aa Cg;clear jY;go_wp2;have s0:=eg.out;have s1:=c6.out;have s2:=fX.out;exact bodyPost_ret (by simp[results,results160,go_sem,s0,s1,s2]) rfl ⟨rfl,(((Cn.out.setCell b5.out.1 _).setCell b5.out.2 _).setCell b5.out.2 _).setCell b5.out.2 _⟩
theorem alg(a b c x:Int)(w:ai):Calls prog 160 #[.agg #[.int .i64 a,.int .i64 b,.int .i64 c],.int .i64 x,.int .i64 1] w λe w'=>e=.returned (.agg #[.int .i64 x,.int .i64 a,.int .i64 c])/\Below w.heap.size w w':=by
 obtain⟨bD,dg⟩:∃bD,bD=w.heap.size:=⟨_,rfl⟩;obtain⟨bP,aH⟩:∃bP,bP=w.heap.size+1:=⟨_,rfl⟩;have dW:=I dg;have aK:=I aH;clear dg aH;go_enter func160,ntmps160
 go_wp2;rw[<-aK.out,<-dW.out];have hr:Row ((w.alloc (.cells #[.int .i64 a,.int .i64 b,.int .i64 c] 154)).alloc (.cells #[.int .i64 0,.int .i64 0,.int .i64 0] 154)) bD 154 [.int .i64 a,.int .i64 b,.int .i64 c]:=by rw[dW.out];exact(Row.new w _ _).alloc _
 have fT:Row ((w.alloc (.cells #[.int .i64 a,.int .i64 b,.int .i64 c] 154)).alloc (.cells #[.int .i64 0,.int .i64 0,.int .i64 0] 154)) bP 154 [.int .i64 0,.int .i64 0,.int .i64 0]:=by
  have h:=Row.new (w.alloc (.cells #[.int .i64 a,.int .i64 b,.int .i64 c] 154)) 154 [.int .i64 0,.int .i64 0,.int .i64 0];rw[aK.out];simpa using h
 have hbel:=((Below.refl w.heap.size w).alloc bh (.cells #[.int .i64 a,.int .i64 b,.int .i64 c] 154)).alloc (by simp) (.cells #[.int .i64 0,.int .i64 0,.int .i64 0] 154);have l0:=I hr;have jJ:=I fT;have gE:=I hbel;have jY:=I (show bD≠bP by rw[dW.out,aK.out];omega);obtain⟨c0,c1,c2⟩:=dE hr;have ya:=I c0;have Aa:=I c1;have Cg:=I c2;clear hr fT hbel c0 c1 c2;have e3:IntKind.i64.wrap 2=2:=IntWalk.i64_in _ (by omega);generalize (w.alloc (.cells #[.int .i64 a,.int .i64 b,.int .i64 c] 154)).alloc (.cells #[.int .i64 0,.int .i64 0,.int .i64 0] 154)=dv at *;go_region_law (refine PO rfl (.tmp 9) (.tmp 11) 112 112 rfl 3 underlying112 (by kernel_rfl) (some ⟨bD,1,none⟩) (some ⟨bD,0,none⟩) 1 2 1 3 rfl rfl bD 1 [.int .i64 a,.int .i64 b,.int .i64 c] 154 l0.out [.int .i64 a] rfl (λ_=>⟨rfl,_,rfl,λj v ar=>(by match j,ar with | 0,ar=>exact ar▸ya.out)⟩) (by simp) (by intro v aE;simp only[mem_cons,not_mem_nil,or_false]at aE;subst aE;rfl) ?_;intro bA cA a8)
 have sS:Row bA bD 154 [.int .i64 a,.int .i64 a,.int .i64 c]:=cA.out;have mc:Row bA bP 154 [.int .i64 0,.int .i64 0,.int .i64 0]:=jJ.out.keep (a8.out.block bP jJ.out.lt (λe=>jY.out (by injection e with e;exact e.symm)));have Cn:=I (show Below w.heap.size w bA from gE.out.drew.grown a8.out gE.out.size (λk e=>by injection e with e;rw[<-e,dW.out];exact Nat.le_refl _));obtain⟨c0,c1,c2⟩:=dE sS;obtain⟨c3,c4,c5⟩:=dE mc;have f0:=sS.free 0;have f3:=mc.free 0;have f4:=mc.free 1;have f5:=mc.free 2;have aX:=jY.out;have hne':bP≠bD:=λe=>aX e.symm
 have b5:=I (show w.heap.size<=bD/\w.heap.size<=bP by rw[dW.out,aK.out];omega);have cd:Row (bA.setCell ⟨bD,0,none⟩ (.int .i64 x)) bP 154 [.int .i64 0,.int .i64 0,.int .i64 0]:=mc.cG hne' _;have s0:=(cd.bm 0 (.int .i64 x)).cell 0;have s1:=((cd.bm 0 (.int .i64 x)).bm 1 (.int .i64 a)).cell 1;have s2:=(((cd.bm 0 (.int .i64 x)).bm 1 (.int .i64 a)).bm 2 (.int .i64 c)).cell 2;simp only[set_cons_zero,set_cons_succ,dR,dU]at s0 s1 s2;have eg:=I s0;have c6:=I s1;have fX:=I s2;clear cd s0 s1 s2;clear sS mc cA a8 e3 dW aK l0 jJ gE ya Aa Cg;clear jY;go_wp2;have s0:=eg.out;have s1:=c6.out;have s2:=fX.out;exact bodyPost_ret (by simp[results,results160,go_sem,s0,s1,s2]) rfl ⟨rfl,(((Cn.out.setCell b5.out.1 _).setCell b5.out.2 _).setCell b5.out.2 _).setCell b5.out.2 _⟩
theorem ali(a b c x:Int)(w:ai):Calls prog 160 #[.agg #[.int .i64 a,.int .i64 b,.int .i64 c],.int .i64 x,.int .i64 0] w λe w'=>e=.returned (.agg #[.int .i64 x,.int .i64 b,.int .i64 c])/\Below w.heap.size w w':=by
 obtain⟨bD,dg⟩:∃bD,bD=w.heap.size:=⟨_,rfl⟩;obtain⟨bP,aH⟩:∃bP,bP=w.heap.size+1:=⟨_,rfl⟩;have dW:=I dg;have aK:=I aH;clear dg aH;go_enter func160,ntmps160
 go_wp2;rw[<-aK.out,<-dW.out];have hr:Row ((w.alloc (.cells #[.int .i64 a,.int .i64 b,.int .i64 c] 154)).alloc (.cells #[.int .i64 0,.int .i64 0,.int .i64 0] 154)) bD 154 [.int .i64 a,.int .i64 b,.int .i64 c]:=by rw[dW.out];exact(Row.new w _ _).alloc _
 have fT:Row ((w.alloc (.cells #[.int .i64 a,.int .i64 b,.int .i64 c] 154)).alloc (.cells #[.int .i64 0,.int .i64 0,.int .i64 0] 154)) bP 154 [.int .i64 0,.int .i64 0,.int .i64 0]:=by
  have h:=Row.new (w.alloc (.cells #[.int .i64 a,.int .i64 b,.int .i64 c] 154)) 154 [.int .i64 0,.int .i64 0,.int .i64 0];rw[aK.out];simpa using h
 have hbel:=((Below.refl w.heap.size w).alloc bh (.cells #[.int .i64 a,.int .i64 b,.int .i64 c] 154)).alloc (by simp) (.cells #[.int .i64 0,.int .i64 0,.int .i64 0] 154);have l0:=I hr;have jJ:=I fT;have gE:=I hbel;have jY:=I (show bD≠bP by rw[dW.out,aK.out];omega);obtain⟨c0,c1,c2⟩:=dE hr;have ya:=I c0;have Aa:=I c1;have Cg:=I c2;clear hr fT hbel c0 c1 c2;have e3:IntKind.i64.wrap 1=1:=IntWalk.i64_in _ (by omega);generalize (w.alloc (.cells #[.int .i64 a,.int .i64 b,.int .i64 c] 154)).alloc (.cells #[.int .i64 0,.int .i64 0,.int .i64 0] 154)=dv at *;go_region_law (refine PO rfl (.tmp 9) (.tmp 11) 112 112 rfl 3 underlying112 (by kernel_rfl) (some ⟨bD,1,none⟩) (some ⟨bD,0,none⟩) 0 2 0 3 rfl rfl bD 1 [.int .i64 a,.int .i64 b,.int .i64 c] 154 l0.out [] rfl (λh=>absurd h (by simp)) (by simp) (by intro v aE;cases aE) ?_;intro bA cA a8)
 have sS:Row bA bD 154 [.int .i64 a,.int .i64 b,.int .i64 c]:=cA.out;have mc:Row bA bP 154 [.int .i64 0,.int .i64 0,.int .i64 0]:=jJ.out.keep (a8.out.block bP jJ.out.lt (λe=>jY.out (by injection e with e;exact e.symm)));have Cn:=I (show Below w.heap.size w bA from gE.out.drew.grown a8.out gE.out.size (λk e=>by injection e with e;rw[<-e,dW.out];exact Nat.le_refl _));obtain⟨c0,c1,c2⟩:=dE sS;obtain⟨c3,c4,c5⟩:=dE mc;have f0:=sS.free 0;have f3:=mc.free 0;have f4:=mc.free 1;have f5:=mc.free 2;have aX:=jY.out;have hne':bP≠bD:=λe=>aX e.symm
 have b5:=I (show w.heap.size<=bD/\w.heap.size<=bP by rw[dW.out,aK.out];omega);have cd:Row (bA.setCell ⟨bD,0,none⟩ (.int .i64 x)) bP 154 [.int .i64 0,.int .i64 0,.int .i64 0]:=mc.cG hne' _;have s0:=(cd.bm 0 (.int .i64 x)).cell 0;have s1:=((cd.bm 0 (.int .i64 x)).bm 1 (.int .i64 b)).cell 1;have s2:=(((cd.bm 0 (.int .i64 x)).bm 1 (.int .i64 b)).bm 2 (.int .i64 c)).cell 2;simp only[set_cons_zero,set_cons_succ,dR,dU]at s0 s1 s2;have eg:=I s0;have c6:=I s1;have fX:=I s2;clear cd s0 s1 s2;clear sS mc cA a8 e3 dW aK l0 jJ gE ya Aa Cg;clear jY;go_wp2;have s0:=eg.out;have s1:=c6.out;have s2:=fX.out;exact bodyPost_ret (by simp[results,results160,go_sem,s0,s1,s2]) rfl ⟨rfl,(((Cn.out.setCell b5.out.1 _).setCell b5.out.2 _).setCell b5.out.2 _).setCell b5.out.2 _⟩
theorem alf(a b c x:Int)(k:Nat)(hk:k<=2)(w:ai):Calls prog 160 #[.agg #[.int .i64 a,.int .i64 b,.int .i64 c],.int .i64 x,.int .i64 k] w λe w'=>e=.returned (.agg #[.int .i64 (AO a b c x k).1,.int .i64 (AO a b c x k).2.1,.int .i64 (AO a b c x k).2.2])/\Below w.heap.size w w':=by
 match k,hk with
 | 0,_=>exact ali a b c x w
 | 1,_=>exact alg a b c x w
 | 2,_=>exact alh a b c x w
theorem am0(a b c x:Int)(h1:1<=x)(af:x<=65533):ht a b c x=(if s3 a b c x<0 then x+2 else s3 a b c x)/\0<=ht a b c x/\(s3 a b c x=-1\/∃k:Nat,s3 a b c x=(k:Int)/\k<=2)/\hx a b c x=AO a b c x (if s3 a b c x<0 then 2 else(s3 a b c x).toNat):=by
 unfold ht s3 hx AO;rw[ay (by omega)];by_cases aS:a=x
 .simp[aS];exact⟨0,rfl,by omega⟩
 .by_cases ak:b=x
  .simp[aS,ak];exact⟨1,rfl,by omega⟩
  .by_cases hc:c=x
   .simp[aS,ak,hc];exact⟨2,rfl,by omega⟩
   .simp[aS,ak,hc];omega
theorem als(w:ai)(a b c x:Int)(h:x<1\/65533<x):Calls prog 129 #[.agg #[.int .i64 a,.int .i64 b,.int .i64 c],.int .i64 x] w λe w'=>e=.returned (.tuple #[.int .i64 0,.agg #[.int .i64 a,.int .i64 b,.int .i64 c],.bool false])/\Below w.heap.size w w':=by
 obtain⟨bD,dg⟩:∃bD,bD=w.heap.size:=⟨_,rfl⟩;obtain⟨bP,aH⟩:∃bP,bP=w.heap.size+1:=⟨_,rfl⟩;have hcase:decide (x<1)=true\/(decide (x<1)=false/\decide (65533<x)=true):=by
  by_cases am:x<1
  .exact .inl (bG am)
  .exact .inr ⟨bF am,bG (by omega)⟩
 have dW:=I dg;have aK:=I aH;clear dg aH h;rcases hcase with d0 | ⟨d0,d1⟩
 all_goals
  go_enter func129,ntmps129
  go_wp2;rw[<-aK.out,<-dW.out];have hr:Row ((w.alloc (.cells #[.int .i64 a,.int .i64 b,.int .i64 c] 154)).alloc (.cells #[.int .i64 0,.int .i64 0,.int .i64 0] 154)) bD 154 [.int .i64 a,.int .i64 b,.int .i64 c]:=by rw[dW.out];exact(Row.new w _ _).alloc _
  have fT:Row ((w.alloc (.cells #[.int .i64 a,.int .i64 b,.int .i64 c] 154)).alloc (.cells #[.int .i64 0,.int .i64 0,.int .i64 0] 154)) bP 154 [.int .i64 0,.int .i64 0,.int .i64 0]:=by
   have h:=Row.new (w.alloc (.cells #[.int .i64 a,.int .i64 b,.int .i64 c] 154)) 154 [.int .i64 0,.int .i64 0,.int .i64 0];rw[aK.out];simpa using h
  have hbel:=((Below.refl w.heap.size w).alloc bh (.cells #[.int .i64 a,.int .i64 b,.int .i64 c] 154)).alloc (by simp) (.cells #[.int .i64 0,.int .i64 0,.int .i64 0] 154);have gE:=I hbel;generalize (w.alloc (.cells #[.int .i64 a,.int .i64 b,.int .i64 c] 154)).alloc (.cells #[.int .i64 0,.int .i64 0,.int .i64 0] 154)=dv at *;have aX:bD≠bP:=by rw[dW.out,aK.out];omega
  have hne':bP≠bD:=λe=>aX e.symm
  obtain⟨c0,c1,c2⟩:=dE hr;obtain⟨c3,c4,c5⟩:=dE fT;have f3:=fT.free 0;have f4:=fT.free 1;have f5:=fT.free 2;have s0:=(fT.bm 0 (.int .i64 a)).cell 0;have s1:=((fT.bm 0 (.int .i64 a)).bm 1 (.int .i64 b)).cell 1;have s2:=(((fT.bm 0 (.int .i64 a)).bm 1 (.int .i64 b)).bm 2 (.int .i64 c)).cell 2;simp only[set_cons_zero,set_cons_succ,dR,dU]at s0 s1 s2;have eg:=I s0;have c6:=I s1;have fX:=I s2;have b5:=I (show w.heap.size<=bP by rw[aK.out];omega);clear hr fT hbel s0 s1 s2 dW aK d0
  try clear d1
  go_region
  go_wp2;have s0:=eg.out;have s1:=c6.out;have s2:=fX.out;refine bodyPost_ret (by simp[results,results129,go_sem,s0,s1,s2]) rfl ⟨rfl,?_⟩;exact(((gE.out.setCell b5.out _).setCell b5.out _).setCell b5.out _).drew
theorem YF(w:ai)(a b c x r n K:Int)(k:Nat)(p q y:Int)(h1:1<=x)(af:x<=65533)(aj:s3 a b c x=r)(hk:k<=2)(hq:AO a b c x k=(p,q,y))(hK:(k:Int)=K)(hcase:(r=-1/\n=x+2/\K=2)\/(r=K/\n=K)):Calls prog 129 #[.agg #[.int .i64 a,.int .i64 b,.int .i64 c],.int .i64 x] w λe w'=>e=.returned (.tuple #[.int .i64 n,.agg #[.int .i64 p,.int .i64 q,.int .i64 y],.bool true])/\Below w.heap.size w w':=by
 obtain⟨bD,dg⟩:∃bD,bD=w.heap.size:=⟨_,rfl⟩;obtain⟨bP,aH⟩:∃bP,bP=w.heap.size+1:=⟨_,rfl⟩;have ob:=I (λW=>alf a b c x k hk W);rw[hq,hK]at ob;have auN:0<=K:=by omega
 have Jz:=I (λW (h:Row W bD 154 [.int .i64 a,.int .i64 b,.int .i64 c])=>alr bD 154 a b c x W h);rw[aj]at Jz;have d0:decide (x<1)=false:=aT;have d1:decide (65533<x)=false:=aT;have dW:=I dg;have aK:=I aH;clear dg aH aj hq hK;rcases hcase with⟨rfl,rfl,rfl⟩ | ⟨rfl,rfl⟩
 all_goals
  go_enter func129,ntmps129
  go_wp2_with fail
  rw[<-aK.out,<-dW.out];have hr:Row ((w.alloc (.cells #[.int .i64 a,.int .i64 b,.int .i64 c] 154)).alloc (.cells #[.int .i64 0,.int .i64 0,.int .i64 0] 154)) bD 154 [.int .i64 a,.int .i64 b,.int .i64 c]:=by rw[dW.out];exact(Row.new w _ _).alloc _
  have fT:Row ((w.alloc (.cells #[.int .i64 a,.int .i64 b,.int .i64 c] 154)).alloc (.cells #[.int .i64 0,.int .i64 0,.int .i64 0] 154)) bP 154 [.int .i64 0,.int .i64 0,.int .i64 0]:=by
   have h:=Row.new (w.alloc (.cells #[.int .i64 a,.int .i64 b,.int .i64 c] 154)) 154 [.int .i64 0,.int .i64 0,.int .i64 0];rw[aK.out];simpa using h
  have hbel:=((Below.refl w.heap.size w).alloc bh (.cells #[.int .i64 a,.int .i64 b,.int .i64 c] 154)).alloc (by simp) (.cells #[.int .i64 0,.int .i64 0,.int .i64 0] 154);have gE:=I hbel;generalize (w.alloc (.cells #[.int .i64 a,.int .i64 b,.int .i64 c] 154)).alloc (.cells #[.int .i64 0,.int .i64 0,.int .i64 0] 154)=dv at *;refine(Jz.out dv hr).mono ?_;rintro e w' ⟨rfl,rfl⟩;obtain⟨c0,c1,c2⟩:=dE hr;have jJ:=I fT;have b5:=I (show w.heap.size<=bP by rw[aK.out];omega);clear hr fT hbel dW aK Jz d0 d1;go_wp2_with fail
  refine(ob.out dv).mono ?_;rintro e aB ⟨rfl,aI⟩;have hrow2:=jJ.out.below aI;have rU:=b9 gE aI;clear aI jJ gE c0 c1 c2 ob;obtain⟨c3,c4,c5⟩:=dE hrow2;have f3:=hrow2.free 0;have f4:=hrow2.free 1;have f5:=hrow2.free 2;have s0:=(hrow2.bm 0 (.int .i64 p)).cell 0;have s1:=((hrow2.bm 0 (.int .i64 p)).bm 1 (.int .i64 q)).cell 1;have s2:=(((hrow2.bm 0 (.int .i64 p)).bm 1 (.int .i64 q)).bm 2 (.int .i64 y)).cell 2;simp only[set_cons_zero,set_cons_succ,dR,dU]at s0 s1 s2;have eg:=I s0;have c6:=I s1;have fX:=I s2;clear hrow2 s0 s1 s2;go_wp2;have s0:=eg.out;have s1:=c6.out;have s2:=fX.out;refine bodyPost_ret (by simp[results,results129,go_sem,s0,s1,s2]) rfl ⟨rfl,?_⟩;exact((rU.out.setCell b5.out _).setCell b5.out _).setCell b5.out _
theorem Oa:aej:=by
 intro w a b c x aS ak hc ah;by_cases h:x<1\/65533<x
 .have az:ht a b c x=-1:=by unfold ht;rw[aA h]
  refine(als w a b c x h).mono λe w' ⟨he,hw⟩=>⟨λam=>?_,λ_=>he,hw⟩
  omega
 .obtain⟨aF,e2,e3,e4⟩:=am0 a b c x (by omega) (by omega);obtain⟨p,aw⟩:∃p,p=hx a b c x:=⟨_,rfl⟩;have key:Calls prog 129 #[.agg #[.int .i64 a,.int .i64 b,.int .i64 c],.int .i64 x] w λe w'=>e=.returned (.tuple #[.int .i64 (ht a b c x),.agg #[.int .i64 p.1,.int .i64 p.2.1,.int .i64 p.2.2],.bool true])/\Below w.heap.size w w':=by
   rw[<-aw]at e4;rcases e3 with e3 | ⟨k,e3,hk⟩
   .rw[e3,aA (by omega)]at aF e4;exact YF w a b c x (-1) _ 2 2 p.1 p.2.1 p.2.2 (by omega) (by omega) e3 (by omega) e4.symm rfl (.inl ⟨rfl,aF,rfl⟩)
   .rw[e3,ay (by omega)]at aF e4;rw[cY]at e4;exact YF w a b c x k _ k k p.1 p.2.1 p.2.2 (by omega) (by omega) e3 hk e4.symm rfl (.inr ⟨rfl,aF⟩)
  rw[<-aw];exact key.mono λe w' ⟨he,hw⟩=>⟨λ_=>he,λam=>by omega,hw⟩
theorem alv(w:ai)(a b c n:Int)(h:n<0):Calls prog 187 #[.agg #[.int .i64 a,.int .i64 b,.int .i64 c],.int .i64 n] w λe w'=>e=.returned (.tuple #[.int .i64 0,.agg #[.int .i64 a,.int .i64 b,.int .i64 c],.bool false])/\Below w.heap.size w w':=by
 obtain⟨bD,dg⟩:∃bD,bD=w.heap.size:=⟨_,rfl⟩;obtain⟨bP,aH⟩:∃bP,bP=w.heap.size+1:=⟨_,rfl⟩;have d0:decide (n<0)=true:=bG h;have dW:=I dg;have aK:=I aH;clear dg aH h;go_enter func187,ntmps187
 go_wp2;rw[<-aK.out,<-dW.out];have hr:Row ((w.alloc (.cells #[.int .i64 a,.int .i64 b,.int .i64 c] 154)).alloc (.cells #[.int .i64 0,.int .i64 0,.int .i64 0] 154)) bD 154 [.int .i64 a,.int .i64 b,.int .i64 c]:=by rw[dW.out];exact(Row.new w _ _).alloc _
 have fT:Row ((w.alloc (.cells #[.int .i64 a,.int .i64 b,.int .i64 c] 154)).alloc (.cells #[.int .i64 0,.int .i64 0,.int .i64 0] 154)) bP 154 [.int .i64 0,.int .i64 0,.int .i64 0]:=by
  have h:=Row.new (w.alloc (.cells #[.int .i64 a,.int .i64 b,.int .i64 c] 154)) 154 [.int .i64 0,.int .i64 0,.int .i64 0];rw[aK.out];simpa using h
 have hbel:=((Below.refl w.heap.size w).alloc bh (.cells #[.int .i64 a,.int .i64 b,.int .i64 c] 154)).alloc (by simp) (.cells #[.int .i64 0,.int .i64 0,.int .i64 0] 154);have gE:=I hbel;generalize (w.alloc (.cells #[.int .i64 a,.int .i64 b,.int .i64 c] 154)).alloc (.cells #[.int .i64 0,.int .i64 0,.int .i64 0] 154)=dv at *;have aX:bD≠bP:=by rw[dW.out,aK.out];omega
 have hne':bP≠bD:=λe=>aX e.symm
 obtain⟨c0,c1,c2⟩:=dE hr;obtain⟨c3,c4,c5⟩:=dE fT;have f3:=fT.free 0;have f4:=fT.free 1;have f5:=fT.free 2;have s0:=(fT.bm 0 (.int .i64 a)).cell 0;have s1:=((fT.bm 0 (.int .i64 a)).bm 1 (.int .i64 b)).cell 1;have s2:=(((fT.bm 0 (.int .i64 a)).bm 1 (.int .i64 b)).bm 2 (.int .i64 c)).cell 2;simp only[set_cons_zero,set_cons_succ,dR,dU]at s0 s1 s2;have eg:=I s0;have c6:=I s1;have fX:=I s2;have b5:=I (show w.heap.size<=bP by rw[aK.out];omega);clear hr fT hbel s0 s1 s2 dW aK d0;go_region
 go_wp2;have s0:=eg.out;have s1:=c6.out;have s2:=fX.out;refine bodyPost_ret (by simp[results,results187,go_sem,s0,s1,s2]) rfl ⟨rfl,?_⟩;exact(((gE.out.setCell b5.out _).setCell b5.out _).setCell b5.out _).drew
theorem Il(a b c n:Int)(h:0<=n):(n=0/\kl a b c n=a)\/(n=1/\kl a b c n=b)\/(n=2/\kl a b c n=c)\/(2<n/\kl a b c n=n-2):=by
 unfold kl;by_cases aq:2<n
 .rw[aA aq];exact .inr (.inr (.inr ⟨aq,rfl⟩))
 .rw[ay aq];have:n=0\/n=1\/n=2:=by omega
  rcases this with rfl | rfl | rfl
  .exact .inl ⟨rfl,by simp⟩
  .exact .inr (.inl ⟨rfl,by simp⟩)
  .exact .inr (.inr (.inl ⟨rfl,by simp⟩))
theorem alx(w:ai)(a b c n x:Int)(m p q y:Int)(hm:m=n)(az:0<=n)(lk:n<=9223372036854775807)(ah:kl a b c n=x)
  (g6:∀W,Calls prog 129 #[.agg #[.int .i64 a,.int .i64 b,.int .i64 c],.int .i64 x] W λe w'=>e=.returned (.tuple #[.int .i64 m,.agg #[.int .i64 p,.int .i64 q,.int .i64 y],.bool true])/\Below W.heap.size W w') :
  Calls prog 187 #[.agg #[.int .i64 a,.int .i64 b,.int .i64 c],.int .i64 n] w λe w'=>e=.returned (.tuple #[.int .i64 x,.agg #[.int .i64 p,.int .i64 q,.int .i64 y],.bool true])/\Below w.heap.size w w':=by
 obtain⟨bD,dg⟩:∃bD,bD=w.heap.size:=⟨_,rfl⟩;obtain⟨bP,aH⟩:∃bP,bP=w.heap.size+1:=⟨_,rfl⟩;have dW:=I dg;have aK:=I aH;have cV:=I g6;have Jp:=I (show(m != n)=false by simp[hm]);clear hm;have sO:=Il a b c n az;rw[ah]at sO;clear dg aH g6 ah;rcases sO with⟨rfl,ah⟩ | ⟨rfl,ah⟩ | ⟨rfl,ah⟩ | ⟨af,ah⟩
 all_goals
  replace ah:=ah.symm
  subst ah
 case' inr.inr.inr=>
  have d0:decide (n<0)=false:=aT;have d3:decide (n<3)=false:=aT
 all_goals
  go_enter func187,ntmps187
  go_wp2_with fail
  rw[<-aK.out,<-dW.out];have hr:Row ((w.alloc (.cells #[.int .i64 a,.int .i64 b,.int .i64 c] 154)).alloc (.cells #[.int .i64 0,.int .i64 0,.int .i64 0] 154)) bD 154 [.int .i64 a,.int .i64 b,.int .i64 c]:=by rw[dW.out];exact(Row.new w _ _).alloc _
  have fT:Row ((w.alloc (.cells #[.int .i64 a,.int .i64 b,.int .i64 c] 154)).alloc (.cells #[.int .i64 0,.int .i64 0,.int .i64 0] 154)) bP 154 [.int .i64 0,.int .i64 0,.int .i64 0]:=by
   have h:=Row.new (w.alloc (.cells #[.int .i64 a,.int .i64 b,.int .i64 c] 154)) 154 [.int .i64 0,.int .i64 0,.int .i64 0];rw[aK.out];simpa using h
  have hbel:=((Below.refl w.heap.size w).alloc bh (.cells #[.int .i64 a,.int .i64 b,.int .i64 c] 154)).alloc (by simp) (.cells #[.int .i64 0,.int .i64 0,.int .i64 0] 154);have gE:=I hbel;generalize (w.alloc (.cells #[.int .i64 a,.int .i64 b,.int .i64 c] 154)).alloc (.cells #[.int .i64 0,.int .i64 0,.int .i64 0] 154)=dv at *;have jY:=I (show bD≠bP by rw[dW.out,aK.out];omega);have b5:=I (show w.heap.size<=bP by rw[aK.out];omega);have l0:=I hr;have jJ:=I fT;obtain⟨c0,c1,c2⟩:=dE hr;clear hr fT hbel dW aK;refine(cV.out dv).mono ?_;rintro e aB ⟨rfl,aI⟩;have xD:=l0.out.below aI;have sQ:=jJ.out.below aI;have p7:=b9 gE aI;clear aI l0 jJ gE c0 c1 c2 cV;obtain⟨bq,aI⟩:∃bq,bq=aB.heap.size:=⟨_,rfl⟩;have aV:=I aI;clear aI;have aF:=Jp.out;go_wp2;rw[<-aV.out];have zw:Row (aB.alloc (.cells #[.int .i64 p,.int .i64 q,.int .i64 y] 154)) bD 154 _:=xD.alloc _;have j7:Row (aB.alloc (.cells #[.int .i64 p,.int .i64 q,.int .i64 y] 154)) bP 154 _:=sQ.alloc _;have Bx:Row (aB.alloc (.cells #[.int .i64 p,.int .i64 q,.int .i64 y] 154)) bq 154 [.int .i64 p,.int .i64 q,.int .i64 y]:=by rw[aV.out];exact Row.new aB _ _
  have Ec:bq≠bP:=λe=>by have:=sQ.lt;rw[aV.out]at e;omega
  have WO:bP≠bq:=λe=>Ec e.symm
  have aX:=jY.out;have hne':bP≠bD:=λe=>aX e.symm
  have Co:=I (p7.out.alloc p7.out.size (.cells #[.int .i64 p,.int .i64 q,.int .i64 y] 154));generalize (aB.alloc (.cells #[.int .i64 p,.int .i64 q,.int .i64 y] 154))=wq at *;obtain⟨c0,c1,c2⟩:=dE Bx;obtain⟨c3,c4,c5⟩:=dE j7;have f3:=j7.free 0;have f4:=j7.free 1;have f5:=j7.free 2;have s0:=(j7.bm 0 (.int .i64 p)).cell 0;have s1:=((j7.bm 0 (.int .i64 p)).bm 1 (.int .i64 q)).cell 1;have s2:=(((j7.bm 0 (.int .i64 p)).bm 1 (.int .i64 q)).bm 2 (.int .i64 y)).cell 2;simp only[set_cons_zero,set_cons_succ,dR,dU]at s0 s1 s2;have eg:=I s0;have c6:=I s1;have fX:=I s2;clear xD sQ zw j7 Bx s0 s1 s2 p7 aV jY;go_region
  go_wp2;have s0:=eg.out;have s1:=c6.out;have s2:=fX.out;refine bodyPost_ret (by simp[results,results187,go_sem,s0,s1,s2]) rfl ⟨rfl,?_⟩;exact(((Co.out.setCell b5.out _).setCell b5.out _).setCell b5.out _).drew
theorem alu(w:ai)(a b c n x:Int)(m p q y:Int)(az:0<=n)(lk:n<=9223372036854775807)(ah:kl a b c n=x)
  (g6:∀W,Calls prog 129 #[.agg #[.int .i64 a,.int .i64 b,.int .i64 c],.int .i64 x] W λe w'=>e=.returned (.tuple #[.int .i64 m,.agg #[.int .i64 p,.int .i64 q,.int .i64 y],.bool false])/\Below W.heap.size W w') :
  Calls prog 187 #[.agg #[.int .i64 a,.int .i64 b,.int .i64 c],.int .i64 n] w λe w'=>e=.returned (.tuple #[.int .i64 0,.agg #[.int .i64 a,.int .i64 b,.int .i64 c],.bool false])/\Below w.heap.size w w':=by
 obtain⟨bD,dg⟩:∃bD,bD=w.heap.size:=⟨_,rfl⟩;obtain⟨bP,aH⟩:∃bP,bP=w.heap.size+1:=⟨_,rfl⟩;have dW:=I dg;have aK:=I aH;have cV:=I g6;have sO:=Il a b c n az;rw[ah]at sO;clear dg aH g6 ah;rcases sO with⟨rfl,ah⟩ | ⟨rfl,ah⟩ | ⟨rfl,ah⟩ | ⟨af,ah⟩
 all_goals
  replace ah:=ah.symm
  subst ah
 case' inr.inr.inr=>
  have d0:decide (n<0)=false:=aT;have d3:decide (n<3)=false:=aT
 all_goals
  go_enter func187,ntmps187
  go_wp2_with fail
  rw[<-aK.out,<-dW.out];have hr:Row ((w.alloc (.cells #[.int .i64 a,.int .i64 b,.int .i64 c] 154)).alloc (.cells #[.int .i64 0,.int .i64 0,.int .i64 0] 154)) bD 154 [.int .i64 a,.int .i64 b,.int .i64 c]:=by rw[dW.out];exact(Row.new w _ _).alloc _
  have fT:Row ((w.alloc (.cells #[.int .i64 a,.int .i64 b,.int .i64 c] 154)).alloc (.cells #[.int .i64 0,.int .i64 0,.int .i64 0] 154)) bP 154 [.int .i64 0,.int .i64 0,.int .i64 0]:=by
   have h:=Row.new (w.alloc (.cells #[.int .i64 a,.int .i64 b,.int .i64 c] 154)) 154 [.int .i64 0,.int .i64 0,.int .i64 0];rw[aK.out];simpa using h
  have hbel:=((Below.refl w.heap.size w).alloc bh (.cells #[.int .i64 a,.int .i64 b,.int .i64 c] 154)).alloc (by simp) (.cells #[.int .i64 0,.int .i64 0,.int .i64 0] 154);have gE:=I hbel;generalize (w.alloc (.cells #[.int .i64 a,.int .i64 b,.int .i64 c] 154)).alloc (.cells #[.int .i64 0,.int .i64 0,.int .i64 0] 154)=dv at *;have jY:=I (show bD≠bP by rw[dW.out,aK.out];omega);have b5:=I (show w.heap.size<=bP by rw[aK.out];omega);have l0:=I hr;have jJ:=I fT;obtain⟨c0,c1,c2⟩:=dE hr;clear hr fT hbel dW aK;refine(cV.out dv).mono ?_;rintro e aB ⟨rfl,aI⟩;have xD:=l0.out.below aI;have sQ:=jJ.out.below aI;have p7:=b9 gE aI;clear aI l0 jJ gE c0 c1 c2 cV;obtain⟨bq,aI⟩:∃bq,bq=aB.heap.size:=⟨_,rfl⟩;have aV:=I aI;clear aI;go_wp2;rw[<-aV.out];have zw:Row (aB.alloc (.cells #[.int .i64 p,.int .i64 q,.int .i64 y] 154)) bD 154 _:=xD.alloc _;have j7:Row (aB.alloc (.cells #[.int .i64 p,.int .i64 q,.int .i64 y] 154)) bP 154 _:=sQ.alloc _;have Bx:Row (aB.alloc (.cells #[.int .i64 p,.int .i64 q,.int .i64 y] 154)) bq 154 [.int .i64 p,.int .i64 q,.int .i64 y]:=by rw[aV.out];exact Row.new aB _ _
  have Ec:bq≠bP:=λe=>by have:=sQ.lt;rw[aV.out]at e;omega
  have WO:bP≠bq:=λe=>Ec e.symm
  have aX:=jY.out;have hne':bP≠bD:=λe=>aX e.symm
  have Co:=I (p7.out.alloc p7.out.size (.cells #[.int .i64 p,.int .i64 q,.int .i64 y] 154));generalize (aB.alloc (.cells #[.int .i64 p,.int .i64 q,.int .i64 y] 154))=wq at *;obtain⟨c0,c1,c2⟩:=dE zw;obtain⟨c3,c4,c5⟩:=dE j7;have f3:=j7.free 0;have f4:=j7.free 1;have f5:=j7.free 2;have s0:=(j7.bm 0 (.int .i64 a)).cell 0;have s1:=((j7.bm 0 (.int .i64 a)).bm 1 (.int .i64 b)).cell 1;have s2:=(((j7.bm 0 (.int .i64 a)).bm 1 (.int .i64 b)).bm 2 (.int .i64 c)).cell 2;simp only[set_cons_zero,set_cons_succ,dR,dU]at s0 s1 s2;have eg:=I s0;have c6:=I s1;have fX:=I s2;clear xD sQ zw j7 Bx s0 s1 s2 p7 aV jY;go_region
  go_wp2;have s0:=eg.out;have s1:=c6.out;have s2:=fX.out;refine bodyPost_ret (by simp[results,results187,go_sem,s0,s1,s2]) rfl ⟨rfl,?_⟩;exact(((Co.out.setCell b5.out _).setCell b5.out _).setCell b5.out _).drew
theorem alw(w:ai)(a b c n x:Int)(m p q y:Int)(hm:m≠n)(az:0<=n)(lk:n<=9223372036854775807)(ah:kl a b c n=x)
  (g6:∀W,Calls prog 129 #[.agg #[.int .i64 a,.int .i64 b,.int .i64 c],.int .i64 x] W λe w'=>e=.returned (.tuple #[.int .i64 m,.agg #[.int .i64 p,.int .i64 q,.int .i64 y],.bool true])/\Below W.heap.size W w') :
  Calls prog 187 #[.agg #[.int .i64 a,.int .i64 b,.int .i64 c],.int .i64 n] w λe w'=>e=.returned (.tuple #[.int .i64 0,.agg #[.int .i64 a,.int .i64 b,.int .i64 c],.bool false])/\Below w.heap.size w w':=by
 obtain⟨bD,dg⟩:∃bD,bD=w.heap.size:=⟨_,rfl⟩;obtain⟨bP,aH⟩:∃bP,bP=w.heap.size+1:=⟨_,rfl⟩;have dW:=I dg;have aK:=I aH;have cV:=I g6;have Jp:=I (show(m != n)=true by simp[hm]);clear hm;have sO:=Il a b c n az;rw[ah]at sO;clear dg aH g6 ah;rcases sO with⟨rfl,ah⟩ | ⟨rfl,ah⟩ | ⟨rfl,ah⟩ | ⟨af,ah⟩
 all_goals
  replace ah:=ah.symm
  subst ah
 case' inr.inr.inr=>
  have d0:decide (n<0)=false:=aT;have d3:decide (n<3)=false:=aT
 all_goals
  go_enter func187,ntmps187
  go_wp2_with fail
  rw[<-aK.out,<-dW.out];have hr:Row ((w.alloc (.cells #[.int .i64 a,.int .i64 b,.int .i64 c] 154)).alloc (.cells #[.int .i64 0,.int .i64 0,.int .i64 0] 154)) bD 154 [.int .i64 a,.int .i64 b,.int .i64 c]:=by rw[dW.out];exact(Row.new w _ _).alloc _
  have fT:Row ((w.alloc (.cells #[.int .i64 a,.int .i64 b,.int .i64 c] 154)).alloc (.cells #[.int .i64 0,.int .i64 0,.int .i64 0] 154)) bP 154 [.int .i64 0,.int .i64 0,.int .i64 0]:=by
   have h:=Row.new (w.alloc (.cells #[.int .i64 a,.int .i64 b,.int .i64 c] 154)) 154 [.int .i64 0,.int .i64 0,.int .i64 0];rw[aK.out];simpa using h
  have hbel:=((Below.refl w.heap.size w).alloc bh (.cells #[.int .i64 a,.int .i64 b,.int .i64 c] 154)).alloc (by simp) (.cells #[.int .i64 0,.int .i64 0,.int .i64 0] 154);have gE:=I hbel;generalize (w.alloc (.cells #[.int .i64 a,.int .i64 b,.int .i64 c] 154)).alloc (.cells #[.int .i64 0,.int .i64 0,.int .i64 0] 154)=dv at *;have jY:=I (show bD≠bP by rw[dW.out,aK.out];omega);have b5:=I (show w.heap.size<=bP by rw[aK.out];omega);have l0:=I hr;have jJ:=I fT;obtain⟨c0,c1,c2⟩:=dE hr;clear hr fT hbel dW aK;refine(cV.out dv).mono ?_;rintro e aB ⟨rfl,aI⟩;have xD:=l0.out.below aI;have sQ:=jJ.out.below aI;have p7:=b9 gE aI;clear aI l0 jJ gE c0 c1 c2 cV;obtain⟨bq,aI⟩:∃bq,bq=aB.heap.size:=⟨_,rfl⟩;have aV:=I aI;clear aI;have aF:=Jp.out;go_wp2;rw[<-aV.out];have zw:Row (aB.alloc (.cells #[.int .i64 p,.int .i64 q,.int .i64 y] 154)) bD 154 _:=xD.alloc _;have j7:Row (aB.alloc (.cells #[.int .i64 p,.int .i64 q,.int .i64 y] 154)) bP 154 _:=sQ.alloc _;have Bx:Row (aB.alloc (.cells #[.int .i64 p,.int .i64 q,.int .i64 y] 154)) bq 154 [.int .i64 p,.int .i64 q,.int .i64 y]:=by rw[aV.out];exact Row.new aB _ _
  have Ec:bq≠bP:=λe=>by have:=sQ.lt;rw[aV.out]at e;omega
  have WO:bP≠bq:=λe=>Ec e.symm
  have aX:=jY.out;have hne':bP≠bD:=λe=>aX e.symm
  have Co:=I (p7.out.alloc p7.out.size (.cells #[.int .i64 p,.int .i64 q,.int .i64 y] 154));generalize (aB.alloc (.cells #[.int .i64 p,.int .i64 q,.int .i64 y] 154))=wq at *;obtain⟨c0,c1,c2⟩:=dE zw;obtain⟨c3,c4,c5⟩:=dE j7;have f3:=j7.free 0;have f4:=j7.free 1;have f5:=j7.free 2;have s0:=(j7.bm 0 (.int .i64 a)).cell 0;have s1:=((j7.bm 0 (.int .i64 a)).bm 1 (.int .i64 b)).cell 1;have s2:=(((j7.bm 0 (.int .i64 a)).bm 1 (.int .i64 b)).bm 2 (.int .i64 c)).cell 2;simp only[set_cons_zero,set_cons_succ,dR,dU]at s0 s1 s2;have eg:=I s0;have c6:=I s1;have fX:=I s2;clear xD sQ zw j7 Bx s0 s1 s2 p7 aV jY;go_region
  go_wp2;have s0:=eg.out;have s1:=c6.out;have s2:=fX.out;refine bodyPost_ret (by simp[results,results187,go_sem,s0,s1,s2]) rfl ⟨rfl,?_⟩;exact(((Co.out.setCell b5.out _).setCell b5.out _).setCell b5.out _).drew
theorem YG:aek:=by
 intro w a b c n aS ak hc az;by_cases am:n<0
 .have e:ka a b c n=none:=by unfold ka;rw[aA (.inl am)]
  refine(alv w a b c n am).mono λe' w' ⟨he,hw⟩=>⟨λx ah=>?_,λ_=>he,hw⟩
  rw[e]at ah;cases ah
 .obtain⟨x,ah⟩:∃x,kl a b c n=x:=⟨_,rfl⟩;have akz:hI x:=by
   rcases Il a b c n (by omega)with⟨_,h⟩ | ⟨_,h⟩ | ⟨_,h⟩ | ⟨af,h⟩<;>rw[<-ah,h]
   .exact aS
   .exact ak
   .exact hc
   .unfold hI at *;omega
  unfold hI at az;have g6:=λW=>Oa W a b c x aS ak hc akz
  have hcs:=Zx a b c x;by_cases eO:0<=ht a b c x
  .have rR:=λW=>(g6 W).mono λe w' h=>And.intro (h.1 eO) h.2.2
   by_cases hm:ht a b c x=n
   .have e:ka a b c n=some x:=by unfold ka;rw[ay (by omega),ah,aA hm]
    refine(alx w a b c n x _ _ _ _ hm (by omega) (by omega) ah rR).mono λe' w' ⟨he,hw⟩=>⟨λz aO=>?_,λaO=>?_,hw⟩
    .rw[e]at aO;injection aO with aO
     rw[<-aO];exact he
    .rw[e]at aO;cases aO
   .have e:ka a b c n=none:=by
     unfold ka;split
     .rfl
     .rw[ah,ay hm]
    refine(alw w a b c n x _ _ _ _ hm (by omega) (by omega) ah rR).mono λe' w' ⟨he,hw⟩=>⟨λz aO=>?_,λ_=>he,hw⟩
    rw[e]at aO;cases aO
  .have rR:=λW=>(g6 W).mono λe w' h=>And.intro (h.2.1 (by omega)) h.2.2
   have e:ka a b c n=none:=by
    unfold ka;split
    .rfl
    .rw[ah,ay (by omega)]
   refine(alu w a b c n x _ _ _ _ (by omega) (by omega) ah rR).mono λe' w' ⟨he,hw⟩=>⟨λz aO=>?_,λ_=>he,hw⟩
   rw[e]at aO;cases aO
section
variable {P:Program} (w:ai)
theorem apZ(base:Nat)(t x ty e:TypeId)(i:TypeInfo)(z:Value)(aC:P.underlying t=some (.slice e))(ah:P.underlying x=some .string)(ax:P.info? e=some i)(aO:i.zero=some z)
  (hsize:i.size=1) (BM:z.cells.size=1) (s:ByteArray) (m:Nat) (hm:s.size=m) (v:Value) (n:Nat) (xs:b3) (hown:w.ownsRow base e 1 v n xs)
  (UQ:n+m<=maxLen) (hbytes:(n+m)*i.bytes<=140737488355328) (hbase:base<=w.heap.size) :
  ∃tm w',(Builtin.append_ #[t,x] ty #[v,.string s]).run P w=.ok tm w'/\w'.ownsRow base e 1 tm (n+m) (xs++byteCells s)/\w.grownBy w' v.ownBlock:=by
 have hsrc:Src P i.size x (.string s) m (byteCells s) w:=by rw[hsize,<-hm];exact Src.ofString w ah s
 have hsrc1:Src P 1 x (.string s) m (byteCells s) w:=by rw[<-hm];exact Src.ofString w ah s
 have hl:(byteCells s).length=m:=by rw[byteCells_length,hm]
 have hsmall:n+m<=9223372036854775807:=by simp only[maxLen]at UQ;omega
 have h63':¬(9223372036854775807<((n:Int)+m)):=by omega
 have hlen:(xs++byteCells s).length=n+m:=by rw[aY,hown.1,hl,Nat.mul_one]
 have grown:∀(old:Nat),old<n+m->∀(row:Option Nat),
   (w.drew.alloc (.cells ((xs++byteCells s).toArray++Builtin.zeroCells z.cells (grownCap w (n+m) old e-(n+m))) e)).ownsRow base e 1
    (.slice (some ⟨w.heap.size,0,none⟩) (n+m) (grownCap w (n+m) old e)) (n+m) (xs++byteCells s) /\
   w.grownBy (w.drew.alloc (.cells ((xs++byteCells s).toArray++Builtin.zeroCells z.cells (grownCap w (n+m) old e-(n+m))) e)) row:=by
  intro old b8 row;have fq:=grownCap_ge w (n+m) old e;have hj:grownCap w (n+m) old e<=maxLen:=grownCap_le_maxLen w (n+m) old e UQ;refine⟨⟨by rw[hlen,Nat.mul_one],.inr ⟨w.heap.size,_,_,rfl,hbase,heap_alloc_new w.drew _,fq,hj,?_,?_⟩⟩,⟨rfl,rfl,rfl,by simp,λ_ hk _=>Go.heap_alloc_old w.drew _ hk⟩⟩
  .simp only[Array.size_append,List.size_toArray,size_zeroCells,BM,hlen];omega
  .simp only[Array.toList_append];rw[Nat.mul_one,<-hlen];exact take_left
 rcases hown.2 with⟨rfl,rfl⟩ | ⟨g,cap,fg,rfl,Bg,aD,qv,hj,hcs,htake⟩
 .have nw:xs=[]:=lq (by simpa using hown.1);subst nw;by_cases ip:m=0
  .subst ip;have hp:byteCells s=[]:=lq hl;rw[hp];refine⟨.slice none 0 0,w,?_,World.ownsRow_nil w base e 1,⟨rfl,rfl,rfl,Nat.le_refl _,λ_ _ _=>rfl⟩⟩;have hle:∀w':ai,(Builtin.lenOf (.string s)).run P w'=.ok 0 w':=hsrc1.len;simp[Builtin.append_,run_underlying aC,run_underlying ah,sizeOf,typeInfo,ax,hle,hsrc.cells]
  .have cP:=grown 0 (by omega) (Value.ownBlock (.slice none 0 0));have hfit:Builtin.nextslicecap (0+m) 0*i.bytes<=281474976710656:=by rw[nextslicecap_zero (by omega)];omega
   refine⟨_,_,run_append_grow_src (P:=P) w t x ty e i z aC ax aO none 0 0 [] (run_firstCells_none w.drew i.size 0 0 0) (.string s) m (byteCells s) hsrc (by omega) (by omega) hfit,cP.1,cP.2⟩
 .by_cases hroom:n+m<=cap
  .have aQ:=run_storeCells_at P g (n*1) e (byteCells s) 0 fg w aD (by simp only[hl,hcs];omega) hsrc1.one;simp only[ga,Nat.mul_one]at aQ;have aj:(Builtin.append_ #[t,x] ty #[.slice (some ⟨g,0,none⟩) n cap,.string s]).run P w=.ok (.slice (some ⟨g,0,none⟩) (n+m) cap) (w.setRow g (fg.toList.take n++byteCells s++fg.toList.drop (n+(byteCells s).length)).toArray):=by
    simp[Builtin.append_,run_underlying aC,run_underlying ah,sizeOf,typeInfo,ax,hsize,hsrc1.len,hroom,hsrc1.cells,Addr.add_lit,aQ]
   refine⟨_,_,aj,⟨by rw[hlen,Nat.mul_one],.inr ⟨g,cap,_,rfl,Bg,setRow_heap w g fg _ e _ aD,hroom,hj,?_,?_⟩⟩,⟨rfl,rfl,rfl,by simp,λk _ hk=>setRow_other w g k _ (λe=>hk (by simp[Value.ownBlock,e]))⟩⟩
   .simp only[List.size_toArray,aY,cq,cC,Array.length_toList];omega
   .rw[Nat.mul_one]at htake;rw[htake,Nat.mul_one,<-hlen];exact take_left
  .have holds:∀j u,xs[j]?=some u->w.cell? ((⟨g,0,none⟩:Addr).add j)=some u:=hown.cells (g:=g) rfl;have cP:=grown cap (by omega) (Value.ownBlock (.slice (some ⟨g,0,none⟩) n cap));have hfit:Builtin.nextslicecap (n+m) cap*i.bytes<=281474976710656:=growslice_fits (bytes:=i.bytes) (need:=n+m) (old:=cap) (by omega) hbytes;have ajm:=run_firstCells_some (P:=P) w.drew i.size n ⟨g,0,none⟩ n cap xs (by rw[hown.1,hsize]) (by simpa using holds);exact⟨_,_,run_append_grow_src (P:=P) w t x ty e i z aC ax aO (some ⟨g,0,none⟩) n cap xs ajm (.string s) m (byteCells s) hsrc (by omega) (by omega) hfit,cP.1,cP.2⟩
end
theorem afS(l:ae)(h:∀x∈l,x<256):byteCells (strOf l)=aN l:=by
 unfold byteCells strOf aN;simp only[List.map_map];apply map_congr_left
 intro x ah;show Value.int .u8 ((UInt8.ofNat x).toNat:Int)=_;rw[UInt8.toNat_ofNat_of_lt' (h x ah)]
theorem abU(l m:ae):aN l++aN m=aN (l++m):=by simp[aN]
theorem Ql{ops:Array Oper}{rest:List Oper}{o:Oper}{a:Act}{w:ai}{Q:Exit->Act->ai->Prop}(D0:o.guard=none)(s x:Operand)
  (b8:o.op=.call {callee:=.builtin .append,args:=#[s,x],argTypes:=#[87,9]}) (base:Nat) (i0:TypeInfo) (ax:prog.info? 5=some i0) (bB:i0.zero=some (.int .u8 0)) (bK:i0.size=1) (bw:i0.bytes=1)
  (v:Value) (n m:Nat) (l S:ae) (cu:S.length=m) (av:∀x∈S,x<256) (ap:a.eval s=v) (ah:a.eval x=.string (strOf S)) (hown:w.ownsRow base 5 1 v n (aN l)) (az:n<=10000000000) (hm:m<=10000000000) (ak:base<=w.heap.size)
  (h:∀tm w',w'.ownsRow base 5 1 tm (n+m) (aN (l++S))->w.grownBy w' v.ownBlock->wpList prog ops Q rest (a.put o.dst tm) w'):wpList prog ops Q (o :: rest) a w:=
 wpList_plain D0 λ_ hK=>by
  obtain⟨tm,w',aj,af,aq⟩:=apZ (P:=prog) w base 87 9 o.type 5 i0 (.int .u8 0) underlying87 underlying9 ax bB bK rfl (strOf S) m (by rw[cZ,cu]) v n (aN l) hown (by unfold maxLen;omega) (by rw[bw];omega) ak;rw[afS S av,abU]at af;unfold Oper.wp execOp;simp only[b8,resolve,invoke,builtin,Sem.run_bind,Sem.run_pure,Result.andThen_ok,map_toArray,map_cons,map_nil,ap,ah,aj];exact hK _ _ (h tm w' af aq)
theorem aq6(m:Nat)(h:m<18446744073709551616):IntKind.u64.wrap ((m:Int)/536870912)=(m:Int)/536870912:=by
 rw[IntKind.wrap_u64];omega
theorem arw(m:Nat)(h:m<18446744073709551616):IntKind.u64.wrap ((m:Int)/4294967296)=(m:Int)/4294967296:=by
 rw[IntKind.wrap_u64];omega
theorem ahU(l:ae)(w:ai)(hl:l.length<=1000000000)(av:∀x∈l,x<256) :
  Calls prog 24 #[.string (strOf l)] w λe w'=>e=.returned (.int .u64 (ao.sumOf l))/\w=w':=by
 have bI:=cZ l;have ic:Hid (∀(i:Nat) (W:ai) (ax:i<l.length),(Instr.index 9 (.string (strOf l)) (.int .i64 i)).run prog W=.ok (.int .u8 ((l[i]:Nat):Int)) W):=I (λi W ax=>pT l i W ax (av _ (b7 ax)));have b5:=I av;have yp:=I (λk=>UC ao.kZ (l.take k) aco);obtain⟨r,aj⟩:∃r,r=ao.sumOf l:=⟨_,rfl⟩;rw[<-aj];have aU:=I aj;clear av aj;generalize strOf l=s at bI ic ⊢;go_enter func24,ntmps24
 go_wp2;go_loop [3,4] (λx i=>∃k:Nat,k<=l.length/\i=.int .i64 k/\x=.int .u64 (kx ao.kZ (l.take k):Int)) (λ_ i=>l.length-(intOf i).toNat)
 case atStart=>exact⟨0,by omega,rfl,rfl⟩
 case round=>
  obtain⟨k,hk,rfl,rfl⟩:=hrel;by_cases bb:k<l.length
  .have ah:=λW=>ic.out k W bb
   have ak:=b5.out l[k] (b7 bb);have hh:=yp.out k;have ap:=(LM ao.kZ l k bb).symm;have bU:=I ap;clear ap;generalize kx ao.kZ (l.take k)=y at hh bU ⊢;generalize l[k]=b at ah ak bU;have e0:=atp y b hh (by omega);have aF:=aa7 y b hh ak;rw[e0]at aF;have e2:=aa8 y b;have e3:=aq6 (s5 y b) (EP y b);have hm:=EP y b;generalize s5 y b=m at aF e2 e3 hm;generalize uw y b=ats at e2 bU;generalize y ^^^ b=x at e0 aF;clear yp ic b5;go_wp2;go_round
   case rel=>exact⟨k+1,by omega,by go_num,by rw[bU.out]⟩
   case measure=>simp[intOf];omega
  .obtain rfl:k=l.length:=by omega
   rw[take_length];have xx:=yp.out l.length;rw[take_length]at xx;have ap:zV (kx ao.kZ l) l.length=r:=by rw[aU.out];rfl
   generalize kx ao.kZ l=y at ap xx ⊢;have aF:=abq y l.length;have e2:=abr y l.length;have e3:=arw (s6 y l.length) (EQ y l.length);rw[ap]at e2;have hm:=EQ y l.length;clear ap;generalize s6 y l.length=m at aF e2 e3 hm;clear yp ic b5 aU;go_wp2;go_ret;exact⟨rfl,rfl⟩
theorem aaY(l:ae)(w:ai)(hl:l.length<=1000000000)(av:∀x∈l,x<256) :
  Calls prog 22 #[.string (strOf l)] w λe w'=>e=.returned (.int .u64 (ao.sumOf l))/\Below w.heap.size w w':=by
 have hadd:=λW=>aqc 7640891576956012808 0 l W (by decide) (by decide) hl av
 have hsum:=λW=>aq0 (kx 7640891576956012808 l) l.length W
 have aj:zV (kx 7640891576956012808 l) l.length=ao.sumOf l:=rfl;rw[show(0+l.length)%18446744073709551616=l.length by omega]at hadd;rw[aj]at hsum;have qP:=I hadd;have r6:=I hsum;clear hadd hsum aj av;generalize ao.sumOf l=r at r6 ⊢;generalize kx 7640891576956012808 l=y at qP r6;generalize l.length=n at qP r6;generalize strOf l=s at qP ⊢;go_enter func22,ntmps22
 go_wp2_with fail
 refine(aqV w).mono ?_;rintro e au ⟨rfl,aH⟩;have aK:=I aH;clear aH;go_wp2_with fail
 refine(qP.out au).mono ?_;rintro e aB ⟨rfl,aI⟩;have aV:=b9 aK aI;clear aI aK;go_wp2_with fail
 refine(r6.out aB).mono ?_;rintro e a1 ⟨rfl,bz⟩;have bE:=b9 aV bz;clear bz aV;go_wp2;go_ret;exact⟨rfl,bE⟩
theorem ani(x:Nat):bits .or .u8 ((x:Int)%256) 128=((x%128+128:Nat):Int):=by
 have e:(x:Int)%256=((x%256:Nat):Int):=by simp
 rw[e,show(128:Int)=((128:Nat):Int)from rfl,u8_or_nat _ _ (by omega) (by omega)];congr 1
 have h:∀y,y<256->y ||| 128=y%128+128:=by decide +kernel
 rw[h _ (by omega)];omega
theorem ZM{w:ai}{base n b:Nat}{u:Value}{l:ae}(h:w.ownsRow base 5 1 u (n+1) (aN l++[.int .u8 b])):w.ownsRow base 5 1 u (n+1) (aN (l++[b])):=by
 have e:aN (l++[b])=aN l++[.int .u8 b]:=by simp[aN]
 rw[e];exact h
theorem as7(Iw:a7)(v:Nat)(R:ai->ai->Prop)(w:ai)(aE:v<2^64)
  (hraw:∀w',Below w.heap.size w w'->Calls prog 33 #[.pointer Iw,.string (strOf (br v))] w' λe pq=>e=.returned (.pointer Iw)/\R w' pq) :
  Calls prog 32 #[.pointer Iw,.int .u64 v] w λe w'=>e=.returned (.pointer Iw)/\∃au,Below w.heap.size w au/\R au w':=by
 obtain⟨i0,ax,bB,bK,bw⟩:=info_parts oG;have ef:=I hraw;have fI:=I aE;clear hraw aE;go_enter func32,ntmps32
 go_wp2_with (at_make;refine wpList_make_own _ rfl _ _ 87 rfl w.heap.size 5 i0 (.int .u8 0) 1 underlying87 ax bB bK .i64 .i64 _ 10 rfl rfl ?c1 ?c2 ?c3 ?c4 ?_)
 case c1=>rfl
 case c2=>rw[bw];omega
 case c3=>unfold maxLen;omega
 case c4=>exact Nat.le_refl _
 intro au hown1 aZ;have aK:=I (k8 aZ);have F3:=I hown1;clear hown1 aZ;go_wp2;go_loopw [1,5] (λx u wr=>∃(y:Nat) (acc:ae),x=.int .u64 y/\Hid (y<2^64)/\Hid (acc++br y=br v)/\Hid (wr.ownsRow w.heap.size 5 1 u acc.length (aN acc))/\Hid (Below w.heap.size w wr)) (λx _ _=>(intOf x).toNat)
 case atStart=>exact⟨v,[],rfl,by have:=fI.out;omega,by simp[Hid],F3.out,aK.out⟩
 case round=>
  obtain⟨y,acc,rfl,hy,hacc,hown,hbel⟩:=hrel;have Ht:acc.length<=10:=by
   have h1:=congrArg List.length hacc.out;rw[aY]at h1;have af:=nS v fI.out;omega
  by_cases av:128<=y
  .go_wp2_with (at_builtin;refine wpList_append_own _ rfl _ _ 87 rfl w.heap.size 5 i0 (.int .u8 0) 1 1 underlying87 ax bB bK bw rfl (by decide) _ _ _ rfl (hown.out.alloc _) ⟨wr.heap.size,0,none⟩ 1 1 [.int .u8 (bits .or .u8 ((y:Int)%256) 128)] rfl rfl ?d1 ?d2 ?d3 ?d4 ?d5 ?_)
   case d1=>
    intro j u ar;match j,ar with
    | 0,ar=>simp at ar;subst ar;simp[Addr.add]
   case d2=>intro u hu;simp at hu;subst hu;rfl
   case d3=>unfold maxLen;omega
   case d4=>omega
   case d5=>have:=hbel.out.size;simp;omega
   intro gZ aB hown' hgrow _;rw[ani]at hown';have h6:Below w.heap.size w aB:=(hbel.out.alloc hbel.out.size _).grown hgrow (by have:=hbel.out.size;simp;omega) (λq hq=>(hown.out.lt q hq).1);have hQ:=I (ZM hown');have bO:=I h6;clear hown' h6 hgrow hown hbel;go_wp2;go_roundw
   case rel=>
    refine⟨y/128,acc++[y%128+128],by go_num,by have:=hy.out;unfold Hid;omega,?_,?_,bO⟩
    .unfold Hid;rw[<-hacc.out,xl y av hy.out,dj];rfl
    .rw[aY];exact hQ
   case measure=>simp[intOf];omega
  .have akH:y<=127:=by omega
   have hfin:acc++[y]=br v:=by rw[<-hacc.out,tQ y (by omega)]
   have ey:=I hfin;clear hfin hacc av;go_wp2_with (at_builtin;refine wpList_append_own _ rfl _ _ 87 rfl w.heap.size 5 i0 (.int .u8 0) 1 1 underlying87 ax bB bK bw rfl (by decide) _ _ _ rfl (hown.out.alloc _) ⟨wr.heap.size,0,none⟩ 1 1 [.int .u8 y] rfl rfl ?d1 ?d2 ?d3 ?d4 ?d5 ?_)
   case d1=>
    intro j u ar;match j,ar with
    | 0,ar=>simp at ar;subst ar;simp[Addr.add]
   case d2=>intro u hu;simp at hu;subst hu;rfl
   case d3=>unfold maxLen;omega
   case d4=>omega
   case d5=>have:=hbel.out.size;simp;omega
   intro gZ aB hown' hgrow _;have h6:Below w.heap.size w aB:=(hbel.out.alloc hbel.out.size _).grown hgrow (by have:=hbel.out.size;simp;omega) (λq hq=>(hown.out.lt q hq).1);have hown2:=ZM hown';rw[ey.out]at hown2;have hlen:acc.length+1=(br v).length:=by rw[<-ey.out];simp
   obtain⟨A,c,rfl,aj,_⟩:=kU hown2;have eD:=o3 aB A c (br v) (qr v fI) aj;rw[hlen];have bO:=I h6;have RM:=I (ef.out aB h6);clear hown' h6 hgrow hown hbel hown2 aj hlen Ht ey ef;generalize strOf (br v)=str at eD RM;generalize (br v).length=len at eD ⊢;go_wp2_with fail
   refine RM.out.mono ?_;rintro e w' ⟨rfl,cS⟩;have dO:=I cS;clear cS;go_wp2;go_ret;exact⟨rfl,aB,bO,dO⟩
theorem Ca(b v:Nat)(bs:ae)(w:ai)(aE:v<2^64)(hl:bs.length<=100000000)(h:fM w b bs) :
  Calls prog 32 #[.pointer (some ⟨b,0,none⟩),.int .u64 v] w λe w'=>e=.returned (.pointer (some ⟨b,0,none⟩))/\fM w' b (bs++br v)/\w.grownBy w' (some b):=by
 have vo:=nS v aE;exact(as7 (some ⟨b,0,none⟩) v (λau w'=>fM w' b (bs++br v)/\au.grownBy w' (some b)) w aE (λw' ak=>uA b bs _ w' (by omega) (h.below ak))).mono
  λe w' ⟨he,au,ak,hc,aD⟩=>⟨he,hc,ei (dr ak _) aD⟩
theorem Jd(b:Nat)(bs s:ae)(w:ai)(hl:bs.length<=10000000)(ap:s.length<=10000000)(h:fM w b bs) :
  Calls prog 63 #[.pointer (some ⟨b,0,none⟩),.string (strOf s)] w λe w'=>e=.returned (.pointer (some ⟨b,0,none⟩))/\fM w' b (bs++(br s.length++s))/\w.grownBy w' (some b):=by
 have vo:=nS s.length (by omega);have kp:=I (Ca b s.length bs w (by omega) (by omega) h);have aU:=I (λau h1=>uA b (bs++br s.length) s au (by rw[aY];omega) h1);have bI:=cZ s;clear h;generalize strOf s=str at bI aU ⊢;go_enter func63,ntmps63
 go_wp2_with fail
 refine kp.out.mono ?_;rintro e au ⟨rfl,hc,aD⟩;have gn:=I (aU.out au hc);have cv:=I aD;clear hc aD;go_wp2_with fail
 refine gn.out.mono ?_;rintro e aB ⟨rfl,hc,aD⟩;rw[dj]at hc;have gp:=I hc;have cN:=I aD;clear hc aD;go_wp2;go_ret;exact⟨rfl,gp,ei cv.out cN⟩
theorem aqQ(g L q:Nat)(W:ai)(h:q<L):(Instr.slice 87 (.slice (some ⟨g,0,none⟩) L L) (some (.int .i64 q)) none none).run prog W=.ok (.slice (some ⟨g,q,none⟩) (L-q) (L-q)) W:=by
 have h1:¬L=q:=by omega
 have af:q<=L:=by omega
 go_simp
theorem agG{w:ai}{g q L:Nat}{ag t:ae}(aj:Row w g 5 (aN ag))(aC:∀x∈t,x<256)(hle:q+t.length<=ag.length)(bR:t.length<=L)(ty:TypeId) :
  ∃w',(Builtin.copy_ #[87,9] ty #[.slice (some ⟨g,q,none⟩) L L,.string (strOf t)]).run prog w=.ok (goInt (t.length:Int)) w'/\Row w' g 5 (aN (ag.take q++t++ag.drop (q+t.length)))/\w.grownBy w' (some g):=by
 have akm:(prog.info? 5).map (·.size)=some 1:=by kernel_rfl
 have h:=Lib.run_copy_row_string (P:=prog) w 87 9 ty 5 g q L L (strOf t) (aN ag).toArray 5 underlying87 akm aj (by rw[cZ];exact bR) (by rw[cZ];simpa [aN]using hle);rw[cZ]at h;have ak:Lib.byteCells (strOf t).data.toList=aN t:=by
  simp only[Lib.byteCells,strOf,aN,List.map_map];apply map_congr_left
  intro x ah;simp[UInt8.toNat_ofNat_of_lt' (aC x ah)]
 rw[ak]at h;refine⟨_,h,?_,?_⟩
 .have e:(aN ag).take q++aN t++(aN ag).drop (q+t.length)=aN (ag.take q++t++ag.drop (q+t.length)):=by simp[aN,map_take,map_drop]
  rw[<-e];exact setRow_heap w g _ _ 5 _ aj
 .exact⟨rfl,rfl,rfl,by simp[World.setRow],λk _ az=>setRow_other w g k _ (λe=>az (by rw[e]))⟩
theorem aps(r L:Nat)(t p2:ae)(aC:t.length=L):(List.replicate (r+L) 0++p2).take r++t++(List.replicate (r+L) 0++p2).drop (r+L)=List.replicate r 0++(t++p2):=by
 rw[take_append_of_le_length (by simp),take_replicate,Nat.min_eq_left (by omega),drop_append,jl,Nat.sub_self,drop_zero,drop_of_length_le (by simp),nil_append,dj]
theorem wv(b:Nat)(bs:ae)(w:ai)(hl:bs.length<=100000000)(cr:∀x∈bs,x<256)(h:fM w b bs) :
  Calls prog 34 #[.pointer (some ⟨b,0,none⟩)] w λe w'=>e=.returned (.string (strOf bs))/\Below w.heap.size w w':=by
 obtain⟨i0,ax,bB,bK,bw⟩:=info_parts oG;obtain⟨p,kH,am,hc,e⟩:=h;have c0:=am.cell 0;have c1:=am.cell 1;have dY:=am.lt;simp only[dR,dU]at c0 c1;have gn:=I hc;have eS:=I e;have px:=I cr;clear am hc e cr;obtain⟨n,az⟩:∃n,n=bs.length:=⟨_,rfl⟩;rw[<-az]at c1 hl;have bX:=I az;obtain⟨all,hall⟩:∃s,s=strOf bs:=⟨_,rfl⟩;rw[<-hall];have od:=I hall;clear az hall;go_enter func34,ntmps34
 go_wp2_with (at_make;refine wpList_make_full _ rfl _ _ 87 rfl w.heap.size 5 i0 (.int .u8 0) 1 underlying87 ax bB bK .i64 .i64 _ _ n rfl rfl ?c1 ?c1 ?c2 ?c3 ?c4 ?_)
 case c1=>rfl
 case c2=>rw[bw];omega
 case c3=>unfold maxLen;omega
 case c4=>exact Nat.le_refl _
 intro au hown1 aZ;have aH:=k8 aZ;have cd:Row au w.heap.size 5 (aN (List.replicate n 0)):=E7 hown1;have d0:au.cell? ⟨b,0,none⟩=some (.pointer p):=(aH.cell (p:=⟨b,0,none⟩) dY).trans c0;have d1:au.cell? ⟨b,1,none⟩=some (.int .i64 n):=(aH.cell (p:=⟨b,1,none⟩) dY).trans c1;have aK:=I aH;have dx:=I cd;clear hown1 aZ aH cd c0 c1;go_wp2;go_loopw [4,5] (λi p' wr=>∃(A:Nat) (v8:a7) (rem:List (ae)) (p2:ae),i=.int .i64 A/\p'=.pointer v8/\Hid (PC w v8 rem)/\Hid (Row wr w.heap.size 5 (aN (List.replicate A 0++p2))) /\
  Hid (Below w.heap.size w wr)/\Hid (A=rem.reverse.flatten.length)/\Hid (bs=rem.reverse.flatten++p2)/\A<=n) (λi _ _=>(intOf i).toNat)
 case atStart=>exact⟨n,p,kH,[],rfl,rfl,gn,by rw[append_nil];exact dx,aK,by unfold Hid;rw[<-eS.out];exact bX,by unfold Hid;rw[<-eS.out,append_nil],Nat.le_refl _⟩
 case round=>
  obtain⟨A,v8,rem,p2,rfl,rfl,sB,hrow,hbel,hA,cr,auC⟩:=hrel;clear aK dx d0 d1 gn eS;rcases rem with _ | ⟨t,rem⟩
  .obtain rfl:v8=none:=sB.out;have XK:bs=p2:=by have:=cr.out;simpa using this
   have yT:A=0:=by have:=hA.out;simpa using this
   subst yT;have hrow2:Row wr w.heap.size 5 (aN bs):=by have:=hrow.out;rw[XK];simpa using this
   have eD:=Li (m:=n) (c:=n) hrow2 (by rw[bX.out];exact Nat.le_refl _) px.out;rw[bX.out,take_length,<-bX.out]at eD;rw[<-od.out]at eD;clear XK hrow hrow2 sB cr hA;go_wp2;go_ret;exact⟨rfl,hbel⟩
  .obtain⟨g1,gy,rfl,HQ,aX,DX⟩:=sB.out;have aZ:=HQ.lt;have bC:=(hbel.out.cell (p:=⟨g1,0,none⟩) aZ).trans (HQ.cell 0);have bf:=(hbel.out.cell (p:=⟨g1,1,none⟩) aZ).trans (HQ.cell 1);simp only[dR,dU]at bC bf;have JU:=I DX;obtain⟨r,aj⟩:∃r,r=rem.reverse.flatten.length:=⟨_,rfl⟩;obtain⟨L,bR⟩:∃L,L=t.length:=⟨_,rfl⟩;have Hi:A=r+L:=by
    have h1:=hA.out;rw[reverse_cons,flatten_append,aY]at h1;simp at h1;simp[aj,bR,h1]
   have auS:0<L:=by rw[bR];exact List.length_pos_iff.2 aX
   have Hy:bs=rem.reverse.flatten++(t++p2):=by
    have h1:=cr.out;rw[h1,reverse_cons,flatten_append];simp
   have ajH:p2.length+A=n:=by
    have h1:=congrArg List.length Hy;rw[bX.out,h1,Hi];simp[aj,bR];omega
   have htlt:∀x∈t,x<256:=λx ah=>px.out x (by rw[Hy];simp[ah])
   have hcopy:∃a1,(∀ty,(Builtin.copy_ #[87,9] ty #[.slice (some ⟨w.heap.size,r,none⟩) (n-r) (n-r),.string (strOf t)]).run prog wr.drew=.ok (goInt (L:Int)) a1)/\Row a1 w.heap.size 5 (aN (List.replicate r 0++(t++p2)))/\Below w.heap.size w a1:=by
    have bp:Row wr.drew w.heap.size 5 (aN (List.replicate (r+L) 0++p2)):=by have:=hrow.out;rw[Hi]at this;exact this
    have li:=λty=>agG (q:=r) (L:=n-r) bp htlt (by simp;omega) (by omega) ty
    obtain⟨a1,h1,af,aq⟩:=li 0;rw[<-bR,aps r L t p2 bR.symm]at af;rw[<-bR]at h1;refine⟨a1,λty=>?_,af,hbel.out.drew.grown aq (by have:=hbel.out.size;simpa using this) (λk e=>by injection e with e;omega)⟩;exact h1
   obtain⟨a1,li,hrow3,Be⟩:=hcopy;have bI:=cZ t;rw[<-bR]at bI;have VK:=li 3;have hsub:(A:Int)-L=r:=by omega
   have e8:r<n:=by omega
   have auT:L<=A:=by omega
   have Er:=λW=>aqQ w.heap.size n r W e8
   have awO:a1.cell? ⟨g1,0,none⟩=some (.pointer gy):=(Be.cell (p:=⟨g1,0,none⟩) aZ).trans ((hbel.out.cell (p:=⟨g1,0,none⟩) aZ).symm.trans bC);have kq:=I hrow3;have JN:=I Be;have aU:=I aj;have acU:=I Hy;have atO:=I Hi;clear DX HQ sB aj Hy cr hA ajH htlt hrow hrow3 Be aX li bR Hi;generalize strOf t=str at bf bI VK;go_wp2;go_still_tail 7,(by kernel_rfl)
   change wpList _ _ _ _ _ wr.drew;clear Er;go_wp2;clear VK;go_roundw
   case rel=>exact⟨r,gy,rem,t++p2,rfl,rfl,JU,kq,JN,aU,acU,by omega⟩
   case measure=>simp[intOf];omega
open Go.Shelf
def xe(a b:Int):Int:=if a<b then -1 else if b<a then 1 else 0
theorem atC(a:Int)(w:ai):Calls prog 135 #[.int .i64 a] w λe w'=>e=.returned (.bool false)/\w=w':=by
 have h:(a != a)=false:=by simp
 go_enter func135,ntmps135
 go_wp2;go_ret;exact⟨rfl,rfl⟩
theorem att(a b:Int)(w:ai):Calls prog 104 #[.int .i64 a,.int .i64 b] w λe w'=>e=.returned (.int .i64 (xe a b))/\w=w':=by
 have bX:=I (λa=>atC a w);unfold xe;by_cases h1:a<b
 .rw[aA h1];have d1:decide (a<b)=true:=bG h1;clear h1;go_enter func104,ntmps104
  go_wp2_with fail
  refine(bX.out _).mono ?_;rintro e w' ⟨rfl,rfl⟩;go_wp2_with fail
  refine(bX.out _).mono ?_;rintro e w' ⟨rfl,rfl⟩;go_wp2;go_ret;exact⟨rfl,rfl⟩
 .rw[ay h1];have d1:decide (a<b)=false:=bF h1;by_cases af:b<a
  .rw[aA af];have d2:decide (b<a)=true:=bG af;clear h1 af;go_enter func104,ntmps104
   go_wp2_with fail
   refine(bX.out _).mono ?_;rintro e w' ⟨rfl,rfl⟩;go_wp2_with fail
   refine(bX.out _).mono ?_;rintro e w' ⟨rfl,rfl⟩;go_wp2;go_ret;exact⟨rfl,rfl⟩
  .rw[ay af];have d2:decide (b<a)=false:=bF af;clear h1 af;go_enter func104,ntmps104
   go_wp2_with fail
   refine(bX.out _).mono ?_;rintro e w' ⟨rfl,rfl⟩;go_wp2_with fail
   refine(bX.out _).mono ?_;rintro e w' ⟨rfl,rfl⟩;go_wp2;go_ret;exact⟨rfl,rfl⟩
theorem atA(s t:ae)(w:ai):Calls prog 103 #[.string (strOf s),.string (strOf t)] w λe w'=>e=.returned (.int .i64 (xe s.length t.length))/\w=w':=by
 have gn:=I (att s.length t.length w);have h1:=cZ s;have af:=cZ t;generalize s.length=m at *;generalize t.length=n at *;generalize strOf s=aw2 at *;generalize strOf t=Fk at *;generalize xe (m:Int) (n:Int)=r at *;go_enter func103,ntmps103
 go_wp2_with fail
 refine gn.out.mono ?_;rintro e w' ⟨rfl,rfl⟩;go_wp2;go_ret;exact⟨rfl,rfl⟩
def mU(ss:List (ae)):b3:=ss.map λs=>.string (strOf s)
theorem Fh(ss:List (ae)):(mU ss).length=ss.length:=by simp[mU]
theorem arl(ss:List (ae))(i:Nat)(h:i<ss.length):(mU ss)[i]?=some (.string (strOf ss[i])):=by simp[mU,h]
theorem aho:∀args w,(callFunc 103 args).run prog w=.ok (.enter 103 args) w:=enters_of func103 (by kernel_rfl) rfl
theorem atB(A:a7)(c:Nat)(ss:List (ae))(w:ai)(am:0<ss.length)(hl:ss.length<=1000000)(aj:Reads w A (mU ss)) :
  Calls prog 101 #[.slice A ss.length c,.func (.func 103) #[] #[]] w λe w'=>(∃m∈ss,(∀s∈ss,m.length<=s.length)/\(∀f,ss[0]?=some f->m.length=f.length->m=f)/\e=.returned (.string (strOf m)))/\w=w':=by
 obtain⟨g,off,rfl,hc⟩:=aj (by intro e;have:=Fh ss;rw[e]at this;simp at this;omega);have db:∀j (h:j<ss.length),w.cell? ⟨g,off+j,none⟩=some (.string (strOf ss[j])):=λj h=>by rw[hc j (by rw[Fh];exact h),arl ss j h]
 have gn:=I db;have c0:=db 0 am;rw[ga]at c0;have Kw:Hid (ss[0]∈ss/\∀s∈ss.take 1,ss[0].length<=s.length):=I ⟨b7 am,λs ap=>by
  have e:ss.take 1=[ss[0]]:=by
   cases ss with
   | nil=>simp at am
   | cons x r=>rfl
  rw[e,mem_singleton]at ap;rw[ap];exact Nat.le_refl _⟩
 have iT:Hid (ss[0]?=some ss[0]):=I (bH am);generalize ss[0]=s0 at *;have e1:=I (λa b=>atA a b w);have mJ:=aho;clear aj hc db;go_enter func101,ntmps101
 go_wp2;go_loopw [5,6] (λm i wr=>wr=w/\∃(k:Nat) (mm:ae),m=.string (strOf mm)/\i=.int .i64 k/\1<=k/\k<=ss.length/\Hid (mm∈ss/\(∀s∈ss.take k,mm.length<=s.length)/\mm.length<=s0.length/\(mm.length=s0.length->mm=s0))) (λ_ i _=>ss.length-(intOf i).toNat)
 case atStart=>exact⟨rfl,1,s0,rfl,rfl,by omega,by omega,I ⟨Kw.out.1,Kw.out.2,Nat.le_refl _,λ_=>rfl⟩⟩
 case round=>
  obtain⟨rfl,k,mm,rfl,rfl,eu,hk,rp⟩:=hrel;clear c0 Kw;by_cases bb:k<ss.length
  .have c1:=gn.out k bb;have ce:=I (e1.out ss[k] mm);have ek:Hid (ss.take (k+1)=ss.take k++[ss[k]]):=I (by rw[take_add_one,bH bb];rfl);have gg:=I (b7 bb);generalize ss[k]=wl at *;by_cases av:wl.length<mm.length
   .have aO:xe (wl.length:Int) (mm.length:Int)=-1:=by unfold xe;rw[aA (by omega)]
    rw[aO]at ce;have bX:Hid (wl∈ss/\(∀s∈ss.take (k+1),wl.length<=s.length)/\wl.length<=s0.length/\(wl.length=s0.length->wl=s0)):=I ⟨gg,λs ap=>by
     rw[ek.out]at ap;rcases List.mem_append.1 ap with ap | ap
     .have:=rp.out.2.1 s ap;omega
     .rw[List.mem_singleton.1 ap];exact Nat.le_refl _,by have:=rp.out.2.2.1;omega,λh=>by have:=rp.out.2.2.1;omega⟩
    clear av aO rp e1;go_wp2_with fail
    refine ce.out.mono ?_;rintro e w' ⟨rfl,rfl⟩;go_wp2;go_roundw
    case rel=>exact⟨trivial,k+1,wl,rfl,by go_num,by omega,by omega,bX⟩
    case measure=>simp[intOf];omega
   .obtain⟨z,aO,bB⟩:∃z,xe (wl.length:Int) (mm.length:Int)=z/\0<=z:=⟨_,rfl,by unfold xe;rw[ay (by omega)];split<;>omega⟩;rw[aO]at ce;have tO:decide (z<0)=false:=aT;have bX:Hid (mm∈ss/\(∀s∈ss.take (k+1),mm.length<=s.length)/\mm.length<=s0.length/\(mm.length=s0.length->mm=s0)):=I ⟨rp.out.1,λs ap=>by
     rw[ek.out]at ap;rcases List.mem_append.1 ap with ap | ap
     .exact rp.out.2.1 s ap
     .rw[List.mem_singleton.1 ap];omega,rp.out.2.2⟩
    clear av aO rp bB e1;go_wp2_with fail
    refine ce.out.mono ?_;rintro e w' ⟨rfl,rfl⟩;go_wp2;go_roundw
    case rel=>exact⟨trivial,k+1,mm,rfl,by go_num,by omega,by omega,bX⟩
    case measure=>simp[intOf];omega
  .obtain rfl:k=ss.length:=by omega
   have dw:Hid (∃m∈ss,(∀s∈ss,m.length<=s.length)/\(∀f,ss[0]?=some f->m.length=f.length->m=f)/\strOf mm=strOf m):=I ⟨mm,rp.out.1,by have:=rp.out.2.1;rwa [take_length]at this,λf aL he=>by rw[iT.out]at aL;injection aL with aL;subst aL;exact rp.out.2.2.2 he,rfl⟩;clear rp e1;generalize strOf mm=axc at *;go_wp2;go_ret;obtain⟨m,h1,af,aq,aJ⟩:=dw.out;exact⟨⟨m,h1,af,aq,congrArg (λx=>Ending.returned (Value.string x)) aJ⟩,rfl⟩
theorem atx(k:Nat)(hk:k<256):([]:ae)++ao.bytesOf k (hi 1)=[k]:=by
 have e:hi 1=1:=rfl;rw[e,nil_append];have h:k%256=k:=mod_eq_of_lt hk;simp[ao.bytesOf,h]
theorem Qo(k:Nat)(w:ai)(hk:k<256):Calls prog 133 #[.int .u64 k] w λe w'=>∃b,e=.returned (.pointer (some ⟨b,0,none⟩))/\fM w' b [k]/\w.heap.size<=b/\Below w.heap.size w w':=by
 have az:=fM.new w;have ak:=(Below.refl w.heap.size w).alloc bh (.cells #[.pointer none,.int .i64 0] 62);have ah:=I9 w.heap.size k 1 [] _ (by omega) (by omega) (by omega) (by simp) az;rw[atx k hk]at ah;have b2:=I ah;have bO:=I ak;clear ah az ak;go_enter func133,ntmps133
 go_wp2_with fail
 refine b2.out.mono ?_;rintro e au ⟨rfl,bL,aZ⟩;have k0:=I bL;have aK:=I (bO.out.trans (below_grown aZ bh bO.out.size));clear bL aZ;go_wp2;go_ret;exact⟨_,rfl,k0,Nat.le_refl _,aK⟩
theorem TL(w:ai)(x:Nat)(h:x<256):(convert 87 9 (.slice (some ⟨w.heap.size,0,none⟩) 1 1)).run prog (w.alloc (.cells #[.int .u8 x] 5))=.ok (.string (strOf [x])) (w.alloc (.cells #[.int .u8 x] 5)):=
 agE _ _ _ h ((Row.new w 5 [.int .u8 x]).cell 0) 1
theorem aoL(X d:Nat)(h:X<2^64):IntKind.u64.wrap ((X:Int)/(d:Int))=((X/d:Nat):Int):=by
 have:=div_le_self X d;rw[show(X:Int)/(d:Int)=((X/d:Nat):Int) by simp,Fs _ (by omega)]
theorem ahA(v:Nat)(w:ai)(aE:v<2^64) :
  Calls prog 27 #[.int .u64 v] w λe w'=>e=.returned (.string (strOf (br v)))/\Below w.heap.size w w':=by
 have fI:=I aE;obtain⟨all,hall⟩:∃s,s=strOf (br v):=⟨_,rfl⟩;rw[<-hall];have od:=I hall;clear aE hall;go_enter func27,ntmps27
 go_wp2;go_loopw [0,3] (λx s wr=>∃(y:Nat) (acc:ae),x=.int .u64 y/\s=.string (strOf acc)/\Hid (y<2^64)/\Hid (acc++br y=br v)/\Hid (Below w.heap.size w wr)) (λx _ _=>(intOf x).toNat)
 case atStart=>exact⟨v,[],rfl,rfl,fI,by simp[Hid],Below.refl _ _⟩
 case round=>
  obtain⟨y,acc,rfl,rfl,hy,hacc,hbel⟩:=hrel;have Ht:acc.length<=10:=by
   have h1:=congrArg List.length hacc.out;rw[aY]at h1;have af:=nS v fI.out;omega
  by_cases av:128<=y
  .have eD:=TL wr (y%128+128) (by omega);have hadd:=λW=>B8 acc [y%128+128] (by simp;omega) W
   rw[show((y%128+128:Nat):Int)=y%128+128 by simp]at eD;have hnext:acc++[y%128+128]++br (y/128)=br v:=by
    rw[<-hacc.out,xl y av hy.out,dj];rfl
   have tC:=I hnext;clear hnext hacc Ht;generalize strOf [y%128+128]=s2 at eD hadd;generalize jB:strOf (acc++[y%128+128])=s1 at hadd;generalize strOf acc=s0 at hadd ⊢;have nI:=I jB;clear jB;go_wp2;have hw:=aoL y 128 hy.out;simp only[Int.cast_ofNat_Int]at hw;rw[hw];go_roundw
   case rel=>exact⟨y/128,acc++[y%128+128],rfl,by rw[nI.out],by have:=hy.out;unfold Hid;omega,tC,hbel.out.alloc hbel.out.size _⟩
   case measure=>simp[intOf];omega
  .have akH:y<=127:=by omega
   have hfin:acc++[y]=br v:=by rw[<-hacc.out,tQ y (by omega)]
   have eD:=TL wr y (by omega);have hadd:=λW=>B8 acc [y] (by simp;omega) W
   rw[hfin,<-od.out]at hadd;clear hfin hacc av Ht;generalize strOf [y]=s2 at eD hadd;generalize strOf acc=s0 at hadd ⊢;go_wp2;go_ret;exact⟨rfl,hbel.out.alloc hbel.out.size _⟩
theorem Qh(l:ae)(k:Nat)(h:k<l.length):bd (l.drop k)=bd (l.drop (k+1))*256+l[k]:=by
 rw[drop_eq_getElem_cons h];simp only[bd];omega
theorem ahP(l:ae)(w:ai)(hl:l.length<=8)(av:∀x∈l,x<256) :
  Calls prog 26 #[.string (strOf l)] w λe w'=>e=.returned (.int .u64 (bd l))/\w=w':=by
 have bI:=cZ l;have hidx:∀(i:Nat) (W:ai) (ax:i<l.length),(Instr.index 9 (.string (strOf l)) (.int .i64 i)).run prog W=.ok (.int .u8 ((l[i]:Nat):Int)) W:=λi W ax=>pT l i W ax (av _ (b7 ax))
 have ak:∀k,bd (l.drop k)<2^64:=λk=>by
  have h1:=po (l.drop k) (jw av k);have af:256^(l.drop k).length<=256^8:=dD (by omega) (by rw[cC];omega);have aq:(256:Nat)^8=2^64:=by decide
  omega
 have ic:=I hidx;have bO:=I ak;have b5:=I av;obtain⟨res,hres⟩:∃r,r=bd l:=⟨_,rfl⟩;rw[<-hres];have bt:=I hres;clear hidx ak av hres;generalize strOf l=s at bI ic ⊢;go_enter func26,ntmps26
 go_wp2;go_loop [3,4] (λv i=>∃k:Nat,k<=l.length/\i=.int .i64 ((k:Int)-1)/\v=.int .u64 (bd (l.drop k):Int)) (λ_ i=>(intOf i+1).toNat)
 case atStart=>exact⟨l.length,Nat.le_refl _,rfl,by simp[bd]⟩
 case round=>
  obtain⟨k,hk,rfl,rfl⟩:=hrel;rcases k with _ | k
  .rw[drop_zero,<-bt.out];go_wp2;go_ret;exact⟨rfl,rfl⟩
  .have ah:=λW=>ic.out k W (by omega)
   have aE:=Qh l k (by omega);have aH:=bO.out k;have zj:=b5.out l[k] (b7 (by omega));rw[aE]at aH;have fI:=I aE;clear aE;rw[show((k+1:Nat):Int)-1=k by omega];generalize l[k]=x at ah aH zj fI;generalize bd (l.drop (k+1))=V at aH fI ⊢;have bY:V<=72057594037927935:=by omega
   go_wp2;go_round
   case rel=>exact⟨k,by omega,by go_num,by rw[fI.out];go_num⟩
   case measure=>simp[intOf]
theorem A3(l:ae)(w:ai)(hl:l.length<=100000000)(av:∀x∈l,x<256) :
  Calls prog 25 #[.string (strOf l)] w λe w'=>e=.returned (.tuple #[.int .u64 ((aW l).1:Int),.int .i64 ((aW l).2:Int)])/\Below w.heap.size w w':=by
 have bI:=cZ l;have hidx:∀(i:Nat) (W:ai) (ax:i<l.length),(Instr.index 9 (.string (strOf l)) (.int .i64 i)).run prog W=.ok (.int .u8 ((l[i]:Nat):Int)) W:=λi W ax=>pT l i W ax (av _ (b7 ax))
 have qy:=ti l;have hle:=Oh l;obtain⟨n,az⟩:∃n,n=l.length:=⟨_,rfl⟩;obtain⟨f1,f2,hF⟩:∃f1 f2,aW l=(f1,f2):=⟨_,_,rfl⟩;rw[hF];rw[<-az]at bI hl;have jo:=I hF;have bX:=I az;have ic:=I hidx;have Gf:=I qy;have b5:=I av;have m7:=I hle;clear az hidx qy av hF hle;generalize strOf l=s at bI ic Gf ⊢;go_enter func25,ntmps25
 go_wp2;go_loop [4] (λi=>∃k:Nat,k<=n/\Hid (k<=ao.lead l)/\i=.int .i64 k) (λi=>n-(intOf i).toNat)
 case atStart=>exact⟨0,by omega,zero_le _,rfl⟩
 case round=>
  obtain⟨k,lj,bb,rfl⟩:=hrel;by_cases av:k<n
  .have eu:k<l.length:=by rw[<-bX.out];exact av
   have ah:=λW=>ic.out k W eu
   have tY:=b5.out l[k] (b7 eu);have rx:=λh=>YT l k bb.out eu h
   have eC:=λh=>YQ l k bb.out eu h
   have pz:=I rx;have pw:=I eC;clear rx eC;generalize l[k]=c at ah tY pz pw;clear eu;by_cases h128:128<=c
   .go_wp2;go_round
    case rel=>exact⟨k+1,by omega,pz.out h128,by go_num⟩
    case measure=>simp[intOf];omega
   .have hlead:ao.lead l=k:=pw.out (by omega);have Kb:=I hlead;clear hlead;have avN:((k:Int) == (n:Int))=false:=by simp;omega
    by_cases dm:9<k
    .have hres:f1=0/\f2=0:=by
      have h1:=jo.out;rw[LI l (.inr (by rw[Kb.out];exact dm))]at h1;injection h1 with h1 af
      exact⟨h1.symm,af.symm⟩
     obtain⟨rfl,rfl⟩:=hres;go_wp2;go_ret2;exact⟨rfl,Below.refl _ _⟩
    .obtain⟨u7,xp⟩:∃V,V=eL (l.take (k+1)):=⟨_,rfl⟩;obtain⟨all,hall⟩:∃L,L=l.take (k+1):=⟨_,rfl⟩;have hlen:all.length=k+1:=by rw[hall,cq,<-bX.out];omega
     have hget:∀j (h:j<all.length) (af:j<l.length),all[j]=l[j]:=λj h af=>by
      have e:(l.take (k+1))[j]'(by rw[<-hall];exact h)=l[j]:=getElem_take;rw[<-e];congr 1
     have qS:=I hget;have od:=I hall;have Hlen:=I hlen;rw[<-hall]at xp;have JH:=I xp;clear xp hall hlen hget pz pw;have zh:(k:Int)<=9:=by omega
     go_wp2;clear ah tY h128;go_loop [5,6] (λv i=>∃j V:Nat,j<=k+1/\i=.int .i64 ((j:Int)-1)/\v=.int .u64 V/\Hid (V=eL (all.drop j))/\Hid (V<2^64)) (λ_ i=>(intOf i+1).toNat)
     case atStart=>exact⟨k+1,0,Nat.le_refl _,by go_num,rfl,by unfold Hid;rw[drop_of_length_le (by rw[Hlen.out];exact Nat.le_refl _)];rfl,by unfold Hid;decide⟩
     case round=>
      obtain⟨j,V,ar,rfl,rfl,bY,nT⟩:=hrel;rcases j with _ | j
      .have Mn:V=eL all:=by have:=bY.out;rwa [drop_zero]at this
       have aD:=λW=>ahA V W nT.out
       have NF:=Gf.out (k+1) (by rw[<-bX.out];omega);rw[<-od.out,show((k+1:Nat):Int)=k+1 by omega]at NF;have xv:=jo.out;unfold aW at xv;rw[Kb.out,<-od.out,<-Mn,ay (by rw[<-bX.out];omega)]at xv;by_cases pH:br V=all
       .rw[aA ⟨nT.out,pH⟩]at xv;obtain⟨rfl,rfl⟩:V=f1/\k+1=f2:=by injection xv with h1 af;exact⟨h1,af⟩
        rw[pH]at aD;have kp:=I aD;clear xv aD Mn pH;generalize strOf all=aaD at NF kp;go_wp2;have lP:IntKind.i64.wrap ((k:Int)+1)=(k:Int)+1:=IntWalk.i64_in _ (by omega);go_cut [48] (λPu eY=>Pu=.bool false/\Below w.heap.size w eY)
        case first=>
         go_region_with (go_at_call 27;refine(kp.out _).mono ?_;rintro e au ⟨rfl,ak⟩;have aK:=I ((Below.refl w.heap.size w).drew.trans ak);clear ak)
         all_goals (go_wp2_with fail;go_meet;exact⟨rfl,aK⟩)
        case rest=>
         obtain⟨rfl,kj⟩:=hcut;go_wp2;go_ret2;exact⟨by first | rfl | go_num,kj⟩
       .rw[ay (λh=>pH h.2)]at xv;obtain⟨rfl,rfl⟩:0=f1/\0=f2:=by injection xv with h1 af;exact⟨h1,af⟩
        have aX:=Fe (br V) all (qr V nT.out) (by rw[od.out];exact p3 b5.out _);rw[bF pH]at aX;have hne2:((strOf (br V)).toList != (strOf all).toList)=true:=by rw[bne,aX];rfl
        have kp:=I aD;clear xv aD Mn pH;generalize strOf all=aaD at NF aX hne2;generalize strOf (br V)=xV at aX hne2 kp;go_wp2;have lP:IntKind.i64.wrap ((k:Int)+1)=(k:Int)+1:=IntWalk.i64_in _ (by omega);go_cut [48] (λPu eY=>Pu=.bool true/\Below w.heap.size w eY)
        case first=>
         go_region_with (go_at_call 27;refine(kp.out _).mono ?_;rintro e au ⟨rfl,ak⟩;have aK:=I ((Below.refl w.heap.size w).drew.trans ak);clear ak)
         all_goals (go_wp2_with fail;go_meet;exact⟨rfl,aK⟩)
        case rest=>
         obtain⟨rfl,kj⟩:=hcut;go_wp2;go_ret2;exact⟨rfl,kj⟩
      .have fr:j<l.length:=by have:=bX.out;omega
       have Wk:j<all.length:=by have:=Hlen.out;omega
       have ah:=λW=>ic.out j W fr
       have tY:=b5.out l[j] (b7 fr);have hstep:=asW all j Wk;rw[qS.out j Wk fr,<-bY.out]at hstep;have kd:=I hstep;clear hstep;rw[show((j+1:Nat):Int)-1=j by omega];generalize l[j]=c at ah tY kd;clear fr;by_cases hbig:144115188075855871<V
       .have hres:f1=0/\f2=0:=by
         have h1:=jo.out;have af:=asV all (j+1) (by omega) (by rw[<-bY.out];exact hbig);unfold aW at h1;rw[Kb.out,<-od.out,ay (by rw[<-bX.out];omega),ay (λh=>af h.1)]at h1;injection h1 with h1 af
         exact⟨h1.symm,af.symm⟩
        obtain⟨rfl,rfl⟩:=hres;go_wp2;go_ret2;exact⟨rfl,Below.refl _ _⟩
       .go_wp2;go_round
        case rel=>exact⟨j,c%128+128*V,by omega,by go_num,by go_num,kd.out.symm,by unfold Hid;omega⟩
        case measure=>simp[intOf]
  .have hres:f1=0/\f2=0:=by
    have h1:=jo.out;have af:=bb.out;have aq:=m7.out;have aJ:=bX.out;rw[LI l (.inl (by omega))]at h1;injection h1 with h1 af
    exact⟨h1.symm,af.symm⟩
   obtain⟨rfl,rfl⟩:=hres;obtain rfl:k=n:=by omega
   go_wp2;go_ret2;exact⟨rfl,Below.refl _ _⟩
end Go.Proofs.YtgiicohbigiapaaGreat
