/- Contracts. -/
import Derived.Test.YtgiicohbigiapaaGreatOae
import Derived.Laws.CopyOwn
import Derived.Deep.AppendSrc
import Derived.Lib.BufferWrite
import Derived.Test.YtgiicohbigiapaaGreatOz1
import Derived.Test.YtgiicohbigiapaaGreatOz0
set_option maxHeartbeats 4000000
set_option maxRecDepth 100000
open Go.Proofs.Tryz Go.Proofs.YtgiicohbigiapaaGreat.am List Nat Option
namespace Go.Proofs.YtgiicohbigiapaaGreat
open Go.RowKit
theorem OO{P:Program}{ops:Array Oper}{o:Oper}{a:Act}{w:ah}{K:Act->ah->Prop}{Q:Exit->Act->ah->Prop}{E:Prop}(C8:o.guard=none)(d s:Operand)(FK q6:TypeId)
  (b9:o.op=.call {callee:=.builtin .copy,args:=#[d,s],argTypes:=#[FK,q6]})(elem:TypeId)(hu:P.underlying FK=some (.slice elem))(bB:(P.info? elem).map (·.size)=some 1)
  (FP OH:a7)(dLen dCap sLen sCap:Nat)(aI:a.eval d=.slice FP dLen dCap)(ap:a.eval s=.slice OH sLen sCap)
  (g off:Nat)(eW:b1)(t:TypeId)(aF:Row w g t eW)(ag:b1)(aA:ag.length=Nat.min sLen dLen)
  (hpos:0<ag.length->FP=some ⟨g,off,none⟩/\∃ad,OH=some ad/\∀j v,ag[j]?=some v->w.cell? (ad.add j)=some v)
  (hfit:off+ag.length<=eW.length)(h1:∀v∈ag,v.oneCell'=true)
  (h:∀w',Hid (Row w' g t (splice eW off ag))->Hid (w.grownBy w' (some g))->K (a.put o.dst (goInt ag.length)) w') :
  if Region.wanted o (yielded ops a.tmps)=true then Oper.wp P o a w K Q else E:=by
 have hw:Region.wanted o (yielded ops a.tmps)=true:=by simp[Region.wanted,C8]
 rw[aB hw];by_cases ao:ag.length=0
 .obtain rfl:ag=[]:=lf ao;have hrun:=run_copy_none (P:=P) w FK q6 o.type elem FP OH dLen dCap sLen sCap hu bB (by simpa using aA.symm);unfold Oper.wp;simp[execOp,b9,resolve,invoke,builtin,aI,ap,hrun,Result.andThen];exact h w (I (show Row _ _ _ _ by simpa [splice]using aF)) (I (dg w _))
 .obtain⟨rfl,ad,rfl,hsrc⟩:=hpos (by omega);have hrun:=run_copy_row (P:=P) w FK q6 o.type elem g off dLen dCap ad sLen sCap eW.toArray t ag hu bB aF aA hsrc (by simpa using hfit) h1;unfold Oper.wp;simp[execOp,b9,resolve,invoke,builtin,aI,ap,hrun,Result.andThen];refine h _ (I (show _=_ by simpa [splice]using setRow_heap w g _ _ t _ aF)) (I ⟨rfl,rfl,rfl,by simp[World.setRow],λk hk aZ=>setRow_other w g k _ (λe=>aZ (by rw[e]))⟩)
theorem WL:aeu:=by
 intro w;go_enter func96,ntmps96
 go_wp2;exact bodyPost_ret (by simp[results,results96,go_sem]) rfl ⟨rfl,((dM.alloc bl _))⟩
def sr(a b c x:Int):Int:=if a=x then 0 else if b=x then 1 else if c=x then 2 else -1
theorem alP(bF:Nat)(t:TypeId)(a b c x:Int)(w:ah)(hrow:Row w bF t [.int .i64 a,.int .i64 b,.int .i64 c]) :
  Calls prog 159 #[.slice (some ⟨bF,0,none⟩) 3 3,.int .i64 x] w λe w'=>e=.returned (.int .i64 (sr a b c x))/\w=w':=by
 obtain⟨c0,c1,c2⟩:=dz hrow;obtain⟨r,aj⟩:∃r,r=sr a b c x:=⟨_,rfl⟩;have bS:=aj;rw[<-aj];unfold sr at bS;clear aj hrow;go_enter func159,ntmps159
 go_wp2;refine wp_loop_rounds 4 ?_;by_cases aV:a=x
 .rw[aB aV]at bS;have Cy:(x==a)=true:=by simp[aV]
  subst bS;rw[rounds_succ];go_wp2;go_ret;exact⟨rfl,rfl⟩
 .have Cy:(x==a)=false:=by simp;exact λh=>aV h.symm
  rw[az aV]at bS;rw[rounds_succ];go_wp2;by_cases ak:b=x
  .rw[aB ak]at bS;have FL:(x==b)=true:=by simp[ak]
   subst bS;rw[rounds_succ];go_wp2;go_ret;exact⟨rfl,rfl⟩
  .have FL:(x==b)=false:=by simp;exact λh=>ak h.symm
   rw[az ak]at bS;rw[rounds_succ];go_wp2;by_cases hc:c=x
   .rw[aB hc]at bS;have FM:(x==c)=true:=by simp[hc]
    subst bS;rw[rounds_succ];go_wp2;go_ret;exact⟨rfl,rfl⟩
   .have FM:(x==c)=false:=by simp;exact λh=>hc h.symm
    rw[az hc]at bS;subst bS;rw[rounds_succ];go_wp2;rw[rounds_succ];go_wp2;go_ret;exact⟨rfl,rfl⟩
def zP(a b c x:Int)(k:Nat):Int×Int×Int:=if k=0 then(x,b,c)else if k=1 then(x,a,c)else(x,a,b)
theorem alG(a b c x:Int)(w:ah):Calls prog 160 #[.agg #[.int .i64 a,.int .i64 b,.int .i64 c],.int .i64 x,.int .i64 2] w λe w'=>e=.returned (.agg #[.int .i64 x,.int .i64 a,.int .i64 b])/\av w w':=by
 obtain⟨bF,dc⟩:∃bF,bF=w.heap.size:=⟨_,rfl⟩;obtain⟨bP,aH⟩:∃bP,bP=w.heap.size+1:=⟨_,rfl⟩;have fd:=I dc;have aN:=I aH;clear dc aH;go_enter func160,ntmps160
 go_wp2;rw[<-aN.out,<-fd.out];have g9:Row ((w.alloc (.cells #[.int .i64 a,.int .i64 b,.int .i64 c] 154)).alloc (.cells #[.int .i64 0,.int .i64 0,.int .i64 0] 154)) bF 154 [.int .i64 a,.int .i64 b,.int .i64 c]:=by rw[fd.out];exact(Row.new w _ _).alloc _
 have fP:Row ((w.alloc (.cells #[.int .i64 a,.int .i64 b,.int .i64 c] 154)).alloc (.cells #[.int .i64 0,.int .i64 0,.int .i64 0] 154)) bP 154 [.int .i64 0,.int .i64 0,.int .i64 0]:=by
  have h:=Row.new (w.alloc (.cells #[.int .i64 a,.int .i64 b,.int .i64 c] 154)) 154 [.int .i64 0,.int .i64 0,.int .i64 0];rw[aN.out];simpa using h
 have hbel:=((Below.refl w.heap.size w).alloc bl (.cells #[.int .i64 a,.int .i64 b,.int .i64 c] 154)).alloc (by simp) (.cells #[.int .i64 0,.int .i64 0,.int .i64 0] 154);have pY:=I g9;have l8:=I fP;have ie:=I hbel;have mI:=I (show bF≠bP by rw[fd.out,aN.out];omega);obtain⟨c0,c1,c2⟩:=dz g9;have xf:=I c0;have zc:=I c1;have Bn:=I c2;clear g9 fP hbel c0 c1 c2;have e3:IntKind.i64.wrap 3=3:=IntWalk.i64_in _ (by omega);generalize (w.alloc (.cells #[.int .i64 a,.int .i64 b,.int .i64 c] 154)).alloc (.cells #[.int .i64 0,.int .i64 0,.int .i64 0] 154)=dK at *;go_region_law (refine OO rfl (.tmp 9) (.tmp 11) 112 112 rfl 3 underlying112 (by kernel_rfl) (some ⟨bF,1,none⟩) (some ⟨bF,0,none⟩) 2 2 2 3 rfl rfl bF 1 [.int .i64 a,.int .i64 b,.int .i64 c] 154 pY.out [.int .i64 a,.int .i64 b] rfl (λ_=>⟨rfl,_,rfl,λj v ar=>(by match j,ar with|0,ar=>exact ar▸xf.out|1,ar=>exact ar▸zc.out)⟩) (by simp) (by intro v aD;simp only[mem_cons,not_mem_nil,or_false]at aD;rcases aD with rfl|rfl<;>rfl) ?_;intro bH cx bc)
 have sh:Row bH bF 154 [.int .i64 a,.int .i64 a,.int .i64 b]:=cx.out;have lW:Row bH bP 154 [.int .i64 0,.int .i64 0,.int .i64 0]:=l8.out.keep (bc.out.block bP l8.out.lt (λe=>mI.out (by injection e with e;exact e.symm)));have Bw:=I (show av w bH from ie.out.drew.grown bc.out ie.out.size (λk e=>by injection e with e;rw[<-e,fd.out];exact Nat.le_refl _));obtain⟨c0,c1,c2⟩:=dz sh;obtain⟨c3,c4,c5⟩:=dz lW;have f0:=sh.free 0;have f3:=lW.free 0;have f4:=lW.free 1;have f5:=lW.free 2;have aZ:=mI.out;have hne':bP≠bF:=λe=>aZ e.symm
 have ce:=I (show w.heap.size<=bF/\w.heap.size<=bP by rw[fd.out,aN.out];omega);have cg:Row (bH.setCell ⟨bF,0,none⟩ (.int .i64 x)) bP 154 [.int .i64 0,.int .i64 0,.int .i64 0]:=lW.cG hne' _;have s0:=(cg.bq 0 (.int .i64 x)).cell 0;have s1:=((cg.bq 0 (.int .i64 x)).bq 1 (.int .i64 a)).cell 1;have s2:=(((cg.bq 0 (.int .i64 x)).bq 1 (.int .i64 a)).bq 2 (.int .i64 b)).cell 2;simp only[set_cons_zero,set_cons_succ,dH,dJ]at s0 s1 s2;have dY:=I s0;have cZ:=I s1;have fU:=I s2;clear cg s0 s1 s2;clear sh lW cx bc e3 xf zc Bn;go_wp2;have s0:=dY.out;have s1:=cZ.out;have s2:=fU.out;exact bodyPost_ret (by simp[results,results160,go_sem,s0,s1,s2]) rfl ⟨rfl,(((Bw.out.setCell ce.out.1 _).setCell ce.out.2 _).setCell ce.out.2 _).setCell ce.out.2 _⟩
theorem alF(a b c x:Int)(w:ah):Calls prog 160 #[.agg #[.int .i64 a,.int .i64 b,.int .i64 c],.int .i64 x,.int .i64 1] w λe w'=>e=.returned (.agg #[.int .i64 x,.int .i64 a,.int .i64 c])/\av w w':=by
 obtain⟨bF,dc⟩:∃bF,bF=w.heap.size:=⟨_,rfl⟩;obtain⟨bP,aH⟩:∃bP,bP=w.heap.size+1:=⟨_,rfl⟩;have fd:=I dc;have aN:=I aH;clear dc aH;go_enter func160,ntmps160
 go_wp2;rw[<-aN.out,<-fd.out];have g9:Row ((w.alloc (.cells #[.int .i64 a,.int .i64 b,.int .i64 c] 154)).alloc (.cells #[.int .i64 0,.int .i64 0,.int .i64 0] 154)) bF 154 [.int .i64 a,.int .i64 b,.int .i64 c]:=by rw[fd.out];exact(Row.new w _ _).alloc _
 have fP:Row ((w.alloc (.cells #[.int .i64 a,.int .i64 b,.int .i64 c] 154)).alloc (.cells #[.int .i64 0,.int .i64 0,.int .i64 0] 154)) bP 154 [.int .i64 0,.int .i64 0,.int .i64 0]:=by
  have h:=Row.new (w.alloc (.cells #[.int .i64 a,.int .i64 b,.int .i64 c] 154)) 154 [.int .i64 0,.int .i64 0,.int .i64 0];rw[aN.out];simpa using h
 have hbel:=((Below.refl w.heap.size w).alloc bl (.cells #[.int .i64 a,.int .i64 b,.int .i64 c] 154)).alloc (by simp) (.cells #[.int .i64 0,.int .i64 0,.int .i64 0] 154);have pY:=I g9;have l8:=I fP;have ie:=I hbel;have mI:=I (show bF≠bP by rw[fd.out,aN.out];omega);obtain⟨c0,c1,c2⟩:=dz g9;have xf:=I c0;have zc:=I c1;have Bn:=I c2;clear g9 fP hbel c0 c1 c2;have e3:IntKind.i64.wrap 2=2:=IntWalk.i64_in _ (by omega);generalize (w.alloc (.cells #[.int .i64 a,.int .i64 b,.int .i64 c] 154)).alloc (.cells #[.int .i64 0,.int .i64 0,.int .i64 0] 154)=dK at *;go_region_law (refine OO rfl (.tmp 9) (.tmp 11) 112 112 rfl 3 underlying112 (by kernel_rfl) (some ⟨bF,1,none⟩) (some ⟨bF,0,none⟩) 1 2 1 3 rfl rfl bF 1 [.int .i64 a,.int .i64 b,.int .i64 c] 154 pY.out [.int .i64 a] rfl (λ_=>⟨rfl,_,rfl,λj v ar=>(by match j,ar with|0,ar=>exact ar▸xf.out)⟩) (by simp) (by intro v aD;simp only[mem_cons,not_mem_nil,or_false]at aD;subst aD;rfl) ?_;intro bH cx bc)
 have sh:Row bH bF 154 [.int .i64 a,.int .i64 a,.int .i64 c]:=cx.out;have lW:Row bH bP 154 [.int .i64 0,.int .i64 0,.int .i64 0]:=l8.out.keep (bc.out.block bP l8.out.lt (λe=>mI.out (by injection e with e;exact e.symm)));have Bw:=I (show av w bH from ie.out.drew.grown bc.out ie.out.size (λk e=>by injection e with e;rw[<-e,fd.out];exact Nat.le_refl _));obtain⟨c0,c1,c2⟩:=dz sh;obtain⟨c3,c4,c5⟩:=dz lW;have f0:=sh.free 0;have f3:=lW.free 0;have f4:=lW.free 1;have f5:=lW.free 2;have aZ:=mI.out;have hne':bP≠bF:=λe=>aZ e.symm
 have ce:=I (show w.heap.size<=bF/\w.heap.size<=bP by rw[fd.out,aN.out];omega);have cg:Row (bH.setCell ⟨bF,0,none⟩ (.int .i64 x)) bP 154 [.int .i64 0,.int .i64 0,.int .i64 0]:=lW.cG hne' _;have s0:=(cg.bq 0 (.int .i64 x)).cell 0;have s1:=((cg.bq 0 (.int .i64 x)).bq 1 (.int .i64 a)).cell 1;have s2:=(((cg.bq 0 (.int .i64 x)).bq 1 (.int .i64 a)).bq 2 (.int .i64 c)).cell 2;simp only[set_cons_zero,set_cons_succ,dH,dJ]at s0 s1 s2;have dY:=I s0;have cZ:=I s1;have fU:=I s2;clear cg s0 s1 s2;clear sh lW cx bc e3 xf zc Bn;go_wp2;have s0:=dY.out;have s1:=cZ.out;have s2:=fU.out;exact bodyPost_ret (by simp[results,results160,go_sem,s0,s1,s2]) rfl ⟨rfl,(((Bw.out.setCell ce.out.1 _).setCell ce.out.2 _).setCell ce.out.2 _).setCell ce.out.2 _⟩
theorem alH(a b c x:Int)(w:ah):Calls prog 160 #[.agg #[.int .i64 a,.int .i64 b,.int .i64 c],.int .i64 x,.int .i64 0] w λe w'=>e=.returned (.agg #[.int .i64 x,.int .i64 b,.int .i64 c])/\av w w':=by
 obtain⟨bF,dc⟩:∃bF,bF=w.heap.size:=⟨_,rfl⟩;obtain⟨bP,aH⟩:∃bP,bP=w.heap.size+1:=⟨_,rfl⟩;have fd:=I dc;have aN:=I aH;clear dc aH;go_enter func160,ntmps160
 go_wp2;rw[<-aN.out,<-fd.out];have g9:Row ((w.alloc (.cells #[.int .i64 a,.int .i64 b,.int .i64 c] 154)).alloc (.cells #[.int .i64 0,.int .i64 0,.int .i64 0] 154)) bF 154 [.int .i64 a,.int .i64 b,.int .i64 c]:=by rw[fd.out];exact(Row.new w _ _).alloc _
 have fP:Row ((w.alloc (.cells #[.int .i64 a,.int .i64 b,.int .i64 c] 154)).alloc (.cells #[.int .i64 0,.int .i64 0,.int .i64 0] 154)) bP 154 [.int .i64 0,.int .i64 0,.int .i64 0]:=by
  have h:=Row.new (w.alloc (.cells #[.int .i64 a,.int .i64 b,.int .i64 c] 154)) 154 [.int .i64 0,.int .i64 0,.int .i64 0];rw[aN.out];simpa using h
 have hbel:=((Below.refl w.heap.size w).alloc bl (.cells #[.int .i64 a,.int .i64 b,.int .i64 c] 154)).alloc (by simp) (.cells #[.int .i64 0,.int .i64 0,.int .i64 0] 154);have pY:=I g9;have l8:=I fP;have ie:=I hbel;have mI:=I (show bF≠bP by rw[fd.out,aN.out];omega);obtain⟨c0,c1,c2⟩:=dz g9;have xf:=I c0;have zc:=I c1;have Bn:=I c2;clear g9 fP hbel c0 c1 c2;have e3:IntKind.i64.wrap 1=1:=IntWalk.i64_in _ (by omega);generalize (w.alloc (.cells #[.int .i64 a,.int .i64 b,.int .i64 c] 154)).alloc (.cells #[.int .i64 0,.int .i64 0,.int .i64 0] 154)=dK at *;go_region_law (refine OO rfl (.tmp 9) (.tmp 11) 112 112 rfl 3 underlying112 (by kernel_rfl) (some ⟨bF,1,none⟩) (some ⟨bF,0,none⟩) 0 2 0 3 rfl rfl bF 1 [.int .i64 a,.int .i64 b,.int .i64 c] 154 pY.out [] rfl (λh=>absurd h (by simp)) (by simp) (by intro v aD;cases aD) ?_;intro bH cx bc)
 have sh:Row bH bF 154 [.int .i64 a,.int .i64 b,.int .i64 c]:=cx.out;have lW:Row bH bP 154 [.int .i64 0,.int .i64 0,.int .i64 0]:=l8.out.keep (bc.out.block bP l8.out.lt (λe=>mI.out (by injection e with e;exact e.symm)));have Bw:=I (show av w bH from ie.out.drew.grown bc.out ie.out.size (λk e=>by injection e with e;rw[<-e,fd.out];exact Nat.le_refl _));obtain⟨c0,c1,c2⟩:=dz sh;obtain⟨c3,c4,c5⟩:=dz lW;have f0:=sh.free 0;have f3:=lW.free 0;have f4:=lW.free 1;have f5:=lW.free 2;have aZ:=mI.out;have hne':bP≠bF:=λe=>aZ e.symm
 have ce:=I (show w.heap.size<=bF/\w.heap.size<=bP by rw[fd.out,aN.out];omega);have cg:Row (bH.setCell ⟨bF,0,none⟩ (.int .i64 x)) bP 154 [.int .i64 0,.int .i64 0,.int .i64 0]:=lW.cG hne' _;have s0:=(cg.bq 0 (.int .i64 x)).cell 0;have s1:=((cg.bq 0 (.int .i64 x)).bq 1 (.int .i64 b)).cell 1;have s2:=(((cg.bq 0 (.int .i64 x)).bq 1 (.int .i64 b)).bq 2 (.int .i64 c)).cell 2;simp only[set_cons_zero,set_cons_succ,dH,dJ]at s0 s1 s2;have dY:=I s0;have cZ:=I s1;have fU:=I s2;clear cg s0 s1 s2;clear sh lW cx bc e3 xf zc Bn;go_wp2;have s0:=dY.out;have s1:=cZ.out;have s2:=fU.out;exact bodyPost_ret (by simp[results,results160,go_sem,s0,s1,s2]) rfl ⟨rfl,(((Bw.out.setCell ce.out.1 _).setCell ce.out.2 _).setCell ce.out.2 _).setCell ce.out.2 _⟩
theorem alE(a b c x:Int)(k:Nat)(hk:k<=2)(w:ah):Calls prog 160 #[.agg #[.int .i64 a,.int .i64 b,.int .i64 c],.int .i64 x,.int .i64 k] w λe w'=>e=.returned (.agg #[.int .i64 (zP a b c x k).1,.int .i64 (zP a b c x k).2.1,.int .i64 (zP a b c x k).2.2])/\av w w':=by
 match k,hk with
|0,_=>exact alH a b c x w
|1,_=>exact alF a b c x w
|2,_=>exact alG a b c x w
theorem ano(a b c x:Int)(h1:1<=x)(af:x<=65533):hb a b c x=(if sr a b c x<0 then x+2 else sr a b c x)/\0<=hb a b c x/\(sr a b c x=-1\/∃k:Nat,sr a b c x=(k:Int)/\k<=2)/\hn a b c x=zP a b c x (if sr a b c x<0 then 2 else(sr a b c x).toNat):=by
 unfold hb sr hn zP;rw[az (by omega)];by_cases aV:a=x
 .simp[aV];exact⟨0,rfl,by omega⟩
 .by_cases ak:b=x
  .simp[aV,ak];exact⟨1,rfl,by omega⟩
  .by_cases hc:c=x
   .simp[aV,ak,hc];exact⟨2,rfl,by omega⟩
   .simp[aV,ak,hc];omega
theorem alQ(w:ah)(a b c x:Int)(h:x<1\/65533<x):Calls prog 129 #[.agg #[.int .i64 a,.int .i64 b,.int .i64 c],.int .i64 x] w λe w'=>e=.returned (.tuple #[.int .i64 0,.agg #[.int .i64 a,.int .i64 b,.int .i64 c],.bool false])/\av w w':=by
 obtain⟨bF,dc⟩:∃bF,bF=w.heap.size:=⟨_,rfl⟩;obtain⟨bP,aH⟩:∃bP,bP=w.heap.size+1:=⟨_,rfl⟩;have hcase:decide (x<1)=true\/(decide (x<1)=false/\decide (65533<x)=true):=by
  by_cases ao:x<1
  .exact .inl (bE ao)
  .exact .inr ⟨bG ao,bE (by omega)⟩
 have fd:=I dc;have aN:=I aH;clear dc aH h;rcases hcase with d0|⟨d0,d1⟩
 all_goals
  go_enter func129,ntmps129
  go_wp2;rw[<-aN.out,<-fd.out];have g9:Row ((w.alloc (.cells #[.int .i64 a,.int .i64 b,.int .i64 c] 154)).alloc (.cells #[.int .i64 0,.int .i64 0,.int .i64 0] 154)) bF 154 [.int .i64 a,.int .i64 b,.int .i64 c]:=by rw[fd.out];exact(Row.new w _ _).alloc _
  have fP:Row ((w.alloc (.cells #[.int .i64 a,.int .i64 b,.int .i64 c] 154)).alloc (.cells #[.int .i64 0,.int .i64 0,.int .i64 0] 154)) bP 154 [.int .i64 0,.int .i64 0,.int .i64 0]:=by
   have h:=Row.new (w.alloc (.cells #[.int .i64 a,.int .i64 b,.int .i64 c] 154)) 154 [.int .i64 0,.int .i64 0,.int .i64 0];rw[aN.out];simpa using h
  have hbel:=((Below.refl w.heap.size w).alloc bl (.cells #[.int .i64 a,.int .i64 b,.int .i64 c] 154)).alloc (by simp) (.cells #[.int .i64 0,.int .i64 0,.int .i64 0] 154);have ie:=I hbel;generalize (w.alloc (.cells #[.int .i64 a,.int .i64 b,.int .i64 c] 154)).alloc (.cells #[.int .i64 0,.int .i64 0,.int .i64 0] 154)=dK at *;have aZ:bF≠bP:=by rw[fd.out,aN.out];omega
  have hne':bP≠bF:=λe=>aZ e.symm
  obtain⟨c0,c1,c2⟩:=dz g9;obtain⟨c3,c4,c5⟩:=dz fP;have f3:=fP.free 0;have f4:=fP.free 1;have f5:=fP.free 2;have s0:=(fP.bq 0 (.int .i64 a)).cell 0;have s1:=((fP.bq 0 (.int .i64 a)).bq 1 (.int .i64 b)).cell 1;have s2:=(((fP.bq 0 (.int .i64 a)).bq 1 (.int .i64 b)).bq 2 (.int .i64 c)).cell 2;simp only[set_cons_zero,set_cons_succ,dH,dJ]at s0 s1 s2;have dY:=I s0;have cZ:=I s1;have fU:=I s2;have ce:=I (show w.heap.size<=bP by rw[aN.out];omega);clear g9 fP hbel s0 s1 s2 d0
  try clear d1
  go_region
  go_wp2;have s0:=dY.out;have s1:=cZ.out;have s2:=fU.out;refine bodyPost_ret (by simp[results,results129,go_sem,s0,s1,s2]) rfl ⟨rfl,?_⟩;exact(((ie.out.setCell ce.out _).setCell ce.out _).setCell ce.out _).drew
theorem WM(w:ah)(a b c x r n K:Int)(k:Nat)(p q y:Int)(h1:1<=x)(af:x<=65533)(aj:sr a b c x=r)(hk:k<=2)(hq:zP a b c x k=(p,q,y))(hK:(k:Int)=K)(hcase:(r=-1/\n=x+2/\K=2)\/(r=K/\n=K)):Calls prog 129 #[.agg #[.int .i64 a,.int .i64 b,.int .i64 c],.int .i64 x] w λe w'=>e=.returned (.tuple #[.int .i64 n,.agg #[.int .i64 p,.int .i64 q,.int .i64 y],.bool true])/\av w w':=by
 obtain⟨bF,dc⟩:∃bF,bF=w.heap.size:=⟨_,rfl⟩;obtain⟨bP,aH⟩:∃bP,bP=w.heap.size+1:=⟨_,rfl⟩;have pQ:=I (λW=>alE a b c x k hk W);rw[hq,hK]at pQ;have ava:0<=K:=by omega
 have PA:=I (λW (h:Row W bF 154 [.int .i64 a,.int .i64 b,.int .i64 c])=>alP bF 154 a b c x W h);rw[aj]at PA;have d0:decide (x<1)=false:=aU;have d1:decide (65533<x)=false:=aU;have fd:=I dc;have aN:=I aH;clear dc aH aj hq hK;rcases hcase with⟨rfl,rfl,rfl⟩|⟨rfl,rfl⟩
 all_goals
  go_enter func129,ntmps129
  go_wp2_with fail
  rw[<-aN.out,<-fd.out];have g9:Row ((w.alloc (.cells #[.int .i64 a,.int .i64 b,.int .i64 c] 154)).alloc (.cells #[.int .i64 0,.int .i64 0,.int .i64 0] 154)) bF 154 [.int .i64 a,.int .i64 b,.int .i64 c]:=by rw[fd.out];exact(Row.new w _ _).alloc _
  have fP:Row ((w.alloc (.cells #[.int .i64 a,.int .i64 b,.int .i64 c] 154)).alloc (.cells #[.int .i64 0,.int .i64 0,.int .i64 0] 154)) bP 154 [.int .i64 0,.int .i64 0,.int .i64 0]:=by
   have h:=Row.new (w.alloc (.cells #[.int .i64 a,.int .i64 b,.int .i64 c] 154)) 154 [.int .i64 0,.int .i64 0,.int .i64 0];rw[aN.out];simpa using h
  have hbel:=((Below.refl w.heap.size w).alloc bl (.cells #[.int .i64 a,.int .i64 b,.int .i64 c] 154)).alloc (by simp) (.cells #[.int .i64 0,.int .i64 0,.int .i64 0] 154);have ie:=I hbel;generalize (w.alloc (.cells #[.int .i64 a,.int .i64 b,.int .i64 c] 154)).alloc (.cells #[.int .i64 0,.int .i64 0,.int .i64 0] 154)=dK at *;refine(PA.out dK g9).mono ?_;rintro e w' ⟨rfl,rfl⟩;obtain⟨c0,c1,c2⟩:=dz g9;have l8:=I fP;have ce:=I (show w.heap.size<=bP by rw[aN.out];omega);clear g9 fP hbel d0 d1;go_wp2_with fail
  refine(pQ.out dK).mono ?_;rintro e aC ⟨rfl,aJ⟩;have hrow2:=l8.out.below aJ;have ru:=b3 ie aJ;clear aJ c0 c1 c2;obtain⟨c3,c4,c5⟩:=dz hrow2;have f3:=hrow2.free 0;have f4:=hrow2.free 1;have f5:=hrow2.free 2;have s0:=(hrow2.bq 0 (.int .i64 p)).cell 0;have s1:=((hrow2.bq 0 (.int .i64 p)).bq 1 (.int .i64 q)).cell 1;have s2:=(((hrow2.bq 0 (.int .i64 p)).bq 1 (.int .i64 q)).bq 2 (.int .i64 y)).cell 2;simp only[set_cons_zero,set_cons_succ,dH,dJ]at s0 s1 s2;have dY:=I s0;have cZ:=I s1;have fU:=I s2;clear hrow2 s0 s1 s2;go_wp2;have s0:=dY.out;have s1:=cZ.out;have s2:=fU.out;refine bodyPost_ret (by simp[results,results129,go_sem,s0,s1,s2]) rfl ⟨rfl,?_⟩;exact((ru.out.setCell ce.out _).setCell ce.out _).setCell ce.out _
theorem Na:aev:=by
 intro w a b c x aV ak hc ai;by_cases h:x<1\/65533<x
 .have aA:hb a b c x=-1:=by unfold hb;rw[aB h]
  refine(alQ w a b c x h).mono λe w' ⟨he,hw⟩=>⟨λao=>?_,λ_=>he,hw⟩
  omega
 .obtain⟨aG,e2,e3,e4⟩:=ano a b c x (by omega) (by omega);obtain⟨p,ax⟩:∃p,p=hn a b c x:=⟨_,rfl⟩;have key:Calls prog 129 #[.agg #[.int .i64 a,.int .i64 b,.int .i64 c],.int .i64 x] w λe w'=>e=.returned (.tuple #[.int .i64 (hb a b c x),.agg #[.int .i64 p.1,.int .i64 p.2.1,.int .i64 p.2.2],.bool true])/\av w w':=by
   rw[<-ax]at e4;rcases e3 with e3|⟨k,e3,hk⟩
   .rw[e3,aB (by omega)]at aG e4;exact WM w a b c x (-1) _ 2 2 p.1 p.2.1 p.2.2 (by omega) (by omega) e3 (by omega) e4.symm rfl (.inl ⟨rfl,aG,rfl⟩)
   .rw[e3,az (by omega)]at aG e4;rw[cX]at e4;exact WM w a b c x k _ k k p.1 p.2.1 p.2.2 (by omega) (by omega) e3 hk e4.symm rfl (.inr ⟨rfl,aG⟩)
  rw[<-ax];exact key.mono λe w' ⟨he,hw⟩=>⟨λ_=>he,λao=>by omega,hw⟩
theorem alS(w:ah)(a b c n:Int)(h:n<0):Calls prog 187 #[.agg #[.int .i64 a,.int .i64 b,.int .i64 c],.int .i64 n] w λe w'=>e=.returned (.tuple #[.int .i64 0,.agg #[.int .i64 a,.int .i64 b,.int .i64 c],.bool false])/\av w w':=by
 obtain⟨bF,dc⟩:∃bF,bF=w.heap.size:=⟨_,rfl⟩;obtain⟨bP,aH⟩:∃bP,bP=w.heap.size+1:=⟨_,rfl⟩;have d0:decide (n<0)=true:=bE h;have fd:=I dc;have aN:=I aH;clear dc aH h;go_enter func187,ntmps187
 go_wp2;rw[<-aN.out,<-fd.out];have g9:Row ((w.alloc (.cells #[.int .i64 a,.int .i64 b,.int .i64 c] 154)).alloc (.cells #[.int .i64 0,.int .i64 0,.int .i64 0] 154)) bF 154 [.int .i64 a,.int .i64 b,.int .i64 c]:=by rw[fd.out];exact(Row.new w _ _).alloc _
 have fP:Row ((w.alloc (.cells #[.int .i64 a,.int .i64 b,.int .i64 c] 154)).alloc (.cells #[.int .i64 0,.int .i64 0,.int .i64 0] 154)) bP 154 [.int .i64 0,.int .i64 0,.int .i64 0]:=by
  have h:=Row.new (w.alloc (.cells #[.int .i64 a,.int .i64 b,.int .i64 c] 154)) 154 [.int .i64 0,.int .i64 0,.int .i64 0];rw[aN.out];simpa using h
 have hbel:=((Below.refl w.heap.size w).alloc bl (.cells #[.int .i64 a,.int .i64 b,.int .i64 c] 154)).alloc (by simp) (.cells #[.int .i64 0,.int .i64 0,.int .i64 0] 154);have ie:=I hbel;generalize (w.alloc (.cells #[.int .i64 a,.int .i64 b,.int .i64 c] 154)).alloc (.cells #[.int .i64 0,.int .i64 0,.int .i64 0] 154)=dK at *;have aZ:bF≠bP:=by rw[fd.out,aN.out];omega
 have hne':bP≠bF:=λe=>aZ e.symm
 obtain⟨c0,c1,c2⟩:=dz g9;obtain⟨c3,c4,c5⟩:=dz fP;have f3:=fP.free 0;have f4:=fP.free 1;have f5:=fP.free 2;have s0:=(fP.bq 0 (.int .i64 a)).cell 0;have s1:=((fP.bq 0 (.int .i64 a)).bq 1 (.int .i64 b)).cell 1;have s2:=(((fP.bq 0 (.int .i64 a)).bq 1 (.int .i64 b)).bq 2 (.int .i64 c)).cell 2;simp only[set_cons_zero,set_cons_succ,dH,dJ]at s0 s1 s2;have dY:=I s0;have cZ:=I s1;have fU:=I s2;have ce:=I (show w.heap.size<=bP by rw[aN.out];omega);clear g9 fP hbel s0 s1 s2 d0;go_region
 go_wp2;have s0:=dY.out;have s1:=cZ.out;have s2:=fU.out;refine bodyPost_ret (by simp[results,results187,go_sem,s0,s1,s2]) rfl ⟨rfl,?_⟩;exact(((ie.out.setCell ce.out _).setCell ce.out _).setCell ce.out _).drew
theorem Hf(a b c n:Int)(h:0<=n):(n=0/\kd a b c n=a)\/(n=1/\kd a b c n=b)\/(n=2/\kd a b c n=c)\/(2<n/\kd a b c n=n-2):=by
 unfold kd;by_cases aq:2<n
 .rw[aB aq];exact .inr (.inr (.inr ⟨aq,rfl⟩))
 .rw[az aq];have:n=0\/n=1\/n=2:=by omega
  rcases this with rfl|rfl|rfl
  .exact .inl ⟨rfl,by simp⟩
  .exact .inr (.inl ⟨rfl,by simp⟩)
  .exact .inr (.inr (.inl ⟨rfl,by simp⟩))
theorem alU(w:ah)(a b c n x:Int)(m p q y:Int)(hm:m=n)(aA:0<=n)(k7:n<=9223372036854775807)(ai:kd a b c n=x)
  (jr:∀W,Calls prog 129 #[.agg #[.int .i64 a,.int .i64 b,.int .i64 c],.int .i64 x] W λe w'=>e=.returned (.tuple #[.int .i64 m,.agg #[.int .i64 p,.int .i64 q,.int .i64 y],.bool true])/\av W w') :
  Calls prog 187 #[.agg #[.int .i64 a,.int .i64 b,.int .i64 c],.int .i64 n] w λe w'=>e=.returned (.tuple #[.int .i64 x,.agg #[.int .i64 p,.int .i64 q,.int .i64 y],.bool true])/\av w w':=by
 obtain⟨bF,dc⟩:∃bF,bF=w.heap.size:=⟨_,rfl⟩;obtain⟨bP,aH⟩:∃bP,bP=w.heap.size+1:=⟨_,rfl⟩;have fd:=I dc;have aN:=I aH;have cU:=I jr;have Ic:=I (show(m != n)=false by simp[hm]);clear hm;have sd:=Hf a b c n aA;rw[ai]at sd;clear dc aH ai;rcases sd with⟨rfl,ai⟩|⟨rfl,ai⟩|⟨rfl,ai⟩|⟨af,ai⟩
 all_goals
  replace ai:=ai.symm
  subst ai
 case' inr.inr.inr=>
  have d0:decide (n<0)=false:=aU;have d3:decide (n<3)=false:=aU
 all_goals
  go_enter func187,ntmps187
  go_wp2_with fail
  rw[<-aN.out,<-fd.out];have g9:Row ((w.alloc (.cells #[.int .i64 a,.int .i64 b,.int .i64 c] 154)).alloc (.cells #[.int .i64 0,.int .i64 0,.int .i64 0] 154)) bF 154 [.int .i64 a,.int .i64 b,.int .i64 c]:=by rw[fd.out];exact(Row.new w _ _).alloc _
  have fP:Row ((w.alloc (.cells #[.int .i64 a,.int .i64 b,.int .i64 c] 154)).alloc (.cells #[.int .i64 0,.int .i64 0,.int .i64 0] 154)) bP 154 [.int .i64 0,.int .i64 0,.int .i64 0]:=by
   have h:=Row.new (w.alloc (.cells #[.int .i64 a,.int .i64 b,.int .i64 c] 154)) 154 [.int .i64 0,.int .i64 0,.int .i64 0];rw[aN.out];simpa using h
  have hbel:=((Below.refl w.heap.size w).alloc bl (.cells #[.int .i64 a,.int .i64 b,.int .i64 c] 154)).alloc (by simp) (.cells #[.int .i64 0,.int .i64 0,.int .i64 0] 154);have ie:=I hbel;generalize (w.alloc (.cells #[.int .i64 a,.int .i64 b,.int .i64 c] 154)).alloc (.cells #[.int .i64 0,.int .i64 0,.int .i64 0] 154)=dK at *;have mI:=I (show bF≠bP by rw[fd.out,aN.out];omega);have ce:=I (show w.heap.size<=bP by rw[aN.out];omega);have pY:=I g9;have l8:=I fP;obtain⟨c0,c1,c2⟩:=dz g9;clear g9 fP hbel;refine(cU.out dK).mono ?_;rintro e aC ⟨rfl,aJ⟩;have wJ:=pY.out.below aJ;have sf:=l8.out.below aJ;have sP:=b3 ie aJ;clear aJ c0 c1 c2 cU;obtain⟨bw,aJ⟩:∃bw,bw=aC.heap.size:=⟨_,rfl⟩;have bm:=I aJ;clear aJ;have aG:=Ic.out;go_wp2;rw[<-bm.out];have yE:Row (aC.alloc (.cells #[.int .i64 p,.int .i64 q,.int .i64 y] 154)) bF 154 _:=wJ.alloc _;have jT:Row (aC.alloc (.cells #[.int .i64 p,.int .i64 q,.int .i64 y] 154)) bP 154 _:=sf.alloc _;have AC:Row (aC.alloc (.cells #[.int .i64 p,.int .i64 q,.int .i64 y] 154)) bw 154 [.int .i64 p,.int .i64 q,.int .i64 y]:=by rw[bm.out];exact Row.new aC _ _
  have Dj:bw≠bP:=λe=>by have:=sf.lt;rw[bm.out]at e;omega
  have UU:bP≠bw:=λe=>Dj e.symm
  have aZ:=mI.out;have hne':bP≠bF:=λe=>aZ e.symm
  have Bx:=I (sP.out.alloc sP.out.size (.cells #[.int .i64 p,.int .i64 q,.int .i64 y] 154));generalize (aC.alloc (.cells #[.int .i64 p,.int .i64 q,.int .i64 y] 154))=vA at *;obtain⟨c0,c1,c2⟩:=dz AC;obtain⟨c3,c4,c5⟩:=dz jT;have f3:=jT.free 0;have f4:=jT.free 1;have f5:=jT.free 2;have s0:=(jT.bq 0 (.int .i64 p)).cell 0;have s1:=((jT.bq 0 (.int .i64 p)).bq 1 (.int .i64 q)).cell 1;have s2:=(((jT.bq 0 (.int .i64 p)).bq 1 (.int .i64 q)).bq 2 (.int .i64 y)).cell 2;simp only[set_cons_zero,set_cons_succ,dH,dJ]at s0 s1 s2;have dY:=I s0;have cZ:=I s1;have fU:=I s2;clear wJ sf yE jT AC s0 s1 s2;go_region
  go_wp2;have s0:=dY.out;have s1:=cZ.out;have s2:=fU.out;refine bodyPost_ret (by simp[results,results187,go_sem,s0,s1,s2]) rfl ⟨rfl,?_⟩;exact(((Bx.out.setCell ce.out _).setCell ce.out _).setCell ce.out _).drew
theorem alR(w:ah)(a b c n x:Int)(m p q y:Int)(aA:0<=n)(k7:n<=9223372036854775807)(ai:kd a b c n=x)
  (jr:∀W,Calls prog 129 #[.agg #[.int .i64 a,.int .i64 b,.int .i64 c],.int .i64 x] W λe w'=>e=.returned (.tuple #[.int .i64 m,.agg #[.int .i64 p,.int .i64 q,.int .i64 y],.bool false])/\av W w') :
  Calls prog 187 #[.agg #[.int .i64 a,.int .i64 b,.int .i64 c],.int .i64 n] w λe w'=>e=.returned (.tuple #[.int .i64 0,.agg #[.int .i64 a,.int .i64 b,.int .i64 c],.bool false])/\av w w':=by
 obtain⟨bF,dc⟩:∃bF,bF=w.heap.size:=⟨_,rfl⟩;obtain⟨bP,aH⟩:∃bP,bP=w.heap.size+1:=⟨_,rfl⟩;have fd:=I dc;have aN:=I aH;have cU:=I jr;have sd:=Hf a b c n aA;rw[ai]at sd;clear dc aH ai;rcases sd with⟨rfl,ai⟩|⟨rfl,ai⟩|⟨rfl,ai⟩|⟨af,ai⟩
 all_goals
  replace ai:=ai.symm
  subst ai
 case' inr.inr.inr=>
  have d0:decide (n<0)=false:=aU;have d3:decide (n<3)=false:=aU
 all_goals
  go_enter func187,ntmps187
  go_wp2_with fail
  rw[<-aN.out,<-fd.out];have g9:Row ((w.alloc (.cells #[.int .i64 a,.int .i64 b,.int .i64 c] 154)).alloc (.cells #[.int .i64 0,.int .i64 0,.int .i64 0] 154)) bF 154 [.int .i64 a,.int .i64 b,.int .i64 c]:=by rw[fd.out];exact(Row.new w _ _).alloc _
  have fP:Row ((w.alloc (.cells #[.int .i64 a,.int .i64 b,.int .i64 c] 154)).alloc (.cells #[.int .i64 0,.int .i64 0,.int .i64 0] 154)) bP 154 [.int .i64 0,.int .i64 0,.int .i64 0]:=by
   have h:=Row.new (w.alloc (.cells #[.int .i64 a,.int .i64 b,.int .i64 c] 154)) 154 [.int .i64 0,.int .i64 0,.int .i64 0];rw[aN.out];simpa using h
  have hbel:=((Below.refl w.heap.size w).alloc bl (.cells #[.int .i64 a,.int .i64 b,.int .i64 c] 154)).alloc (by simp) (.cells #[.int .i64 0,.int .i64 0,.int .i64 0] 154);have ie:=I hbel;generalize (w.alloc (.cells #[.int .i64 a,.int .i64 b,.int .i64 c] 154)).alloc (.cells #[.int .i64 0,.int .i64 0,.int .i64 0] 154)=dK at *;have mI:=I (show bF≠bP by rw[fd.out,aN.out];omega);have ce:=I (show w.heap.size<=bP by rw[aN.out];omega);have pY:=I g9;have l8:=I fP;obtain⟨c0,c1,c2⟩:=dz g9;clear g9 fP hbel;refine(cU.out dK).mono ?_;rintro e aC ⟨rfl,aJ⟩;have wJ:=pY.out.below aJ;have sf:=l8.out.below aJ;have sP:=b3 ie aJ;clear aJ c0 c1 c2 cU;obtain⟨bw,aJ⟩:∃bw,bw=aC.heap.size:=⟨_,rfl⟩;have bm:=I aJ;clear aJ;go_wp2;rw[<-bm.out];have yE:Row (aC.alloc (.cells #[.int .i64 p,.int .i64 q,.int .i64 y] 154)) bF 154 _:=wJ.alloc _;have jT:Row (aC.alloc (.cells #[.int .i64 p,.int .i64 q,.int .i64 y] 154)) bP 154 _:=sf.alloc _;have AC:Row (aC.alloc (.cells #[.int .i64 p,.int .i64 q,.int .i64 y] 154)) bw 154 [.int .i64 p,.int .i64 q,.int .i64 y]:=by rw[bm.out];exact Row.new aC _ _
  have Dj:bw≠bP:=λe=>by have:=sf.lt;rw[bm.out]at e;omega
  have UU:bP≠bw:=λe=>Dj e.symm
  have aZ:=mI.out;have hne':bP≠bF:=λe=>aZ e.symm
  have Bx:=I (sP.out.alloc sP.out.size (.cells #[.int .i64 p,.int .i64 q,.int .i64 y] 154));generalize (aC.alloc (.cells #[.int .i64 p,.int .i64 q,.int .i64 y] 154))=vA at *;obtain⟨c0,c1,c2⟩:=dz yE;obtain⟨c3,c4,c5⟩:=dz jT;have f3:=jT.free 0;have f4:=jT.free 1;have f5:=jT.free 2;have s0:=(jT.bq 0 (.int .i64 a)).cell 0;have s1:=((jT.bq 0 (.int .i64 a)).bq 1 (.int .i64 b)).cell 1;have s2:=(((jT.bq 0 (.int .i64 a)).bq 1 (.int .i64 b)).bq 2 (.int .i64 c)).cell 2;simp only[set_cons_zero,set_cons_succ,dH,dJ]at s0 s1 s2;have dY:=I s0;have cZ:=I s1;have fU:=I s2;clear wJ sf yE jT AC s0 s1 s2;go_region
  go_wp2;have s0:=dY.out;have s1:=cZ.out;have s2:=fU.out;refine bodyPost_ret (by simp[results,results187,go_sem,s0,s1,s2]) rfl ⟨rfl,?_⟩;exact(((Bx.out.setCell ce.out _).setCell ce.out _).setCell ce.out _).drew
theorem alT(w:ah)(a b c n x:Int)(m p q y:Int)(hm:m≠n)(aA:0<=n)(k7:n<=9223372036854775807)(ai:kd a b c n=x)
  (jr:∀W,Calls prog 129 #[.agg #[.int .i64 a,.int .i64 b,.int .i64 c],.int .i64 x] W λe w'=>e=.returned (.tuple #[.int .i64 m,.agg #[.int .i64 p,.int .i64 q,.int .i64 y],.bool true])/\av W w') :
  Calls prog 187 #[.agg #[.int .i64 a,.int .i64 b,.int .i64 c],.int .i64 n] w λe w'=>e=.returned (.tuple #[.int .i64 0,.agg #[.int .i64 a,.int .i64 b,.int .i64 c],.bool false])/\av w w':=by
 obtain⟨bF,dc⟩:∃bF,bF=w.heap.size:=⟨_,rfl⟩;obtain⟨bP,aH⟩:∃bP,bP=w.heap.size+1:=⟨_,rfl⟩;have fd:=I dc;have aN:=I aH;have cU:=I jr;have Ic:=I (show(m != n)=true by simp[hm]);clear hm;have sd:=Hf a b c n aA;rw[ai]at sd;clear dc aH ai;rcases sd with⟨rfl,ai⟩|⟨rfl,ai⟩|⟨rfl,ai⟩|⟨af,ai⟩
 all_goals
  replace ai:=ai.symm
  subst ai
 case' inr.inr.inr=>
  have d0:decide (n<0)=false:=aU;have d3:decide (n<3)=false:=aU
 all_goals
  go_enter func187,ntmps187
  go_wp2_with fail
  rw[<-aN.out,<-fd.out];have g9:Row ((w.alloc (.cells #[.int .i64 a,.int .i64 b,.int .i64 c] 154)).alloc (.cells #[.int .i64 0,.int .i64 0,.int .i64 0] 154)) bF 154 [.int .i64 a,.int .i64 b,.int .i64 c]:=by rw[fd.out];exact(Row.new w _ _).alloc _
  have fP:Row ((w.alloc (.cells #[.int .i64 a,.int .i64 b,.int .i64 c] 154)).alloc (.cells #[.int .i64 0,.int .i64 0,.int .i64 0] 154)) bP 154 [.int .i64 0,.int .i64 0,.int .i64 0]:=by
   have h:=Row.new (w.alloc (.cells #[.int .i64 a,.int .i64 b,.int .i64 c] 154)) 154 [.int .i64 0,.int .i64 0,.int .i64 0];rw[aN.out];simpa using h
  have hbel:=((Below.refl w.heap.size w).alloc bl (.cells #[.int .i64 a,.int .i64 b,.int .i64 c] 154)).alloc (by simp) (.cells #[.int .i64 0,.int .i64 0,.int .i64 0] 154);have ie:=I hbel;generalize (w.alloc (.cells #[.int .i64 a,.int .i64 b,.int .i64 c] 154)).alloc (.cells #[.int .i64 0,.int .i64 0,.int .i64 0] 154)=dK at *;have mI:=I (show bF≠bP by rw[fd.out,aN.out];omega);have ce:=I (show w.heap.size<=bP by rw[aN.out];omega);have pY:=I g9;have l8:=I fP;obtain⟨c0,c1,c2⟩:=dz g9;clear g9 fP hbel;refine(cU.out dK).mono ?_;rintro e aC ⟨rfl,aJ⟩;have wJ:=pY.out.below aJ;have sf:=l8.out.below aJ;have sP:=b3 ie aJ;clear aJ c0 c1 c2 cU;obtain⟨bw,aJ⟩:∃bw,bw=aC.heap.size:=⟨_,rfl⟩;have bm:=I aJ;clear aJ;have aG:=Ic.out;go_wp2;rw[<-bm.out];have yE:Row (aC.alloc (.cells #[.int .i64 p,.int .i64 q,.int .i64 y] 154)) bF 154 _:=wJ.alloc _;have jT:Row (aC.alloc (.cells #[.int .i64 p,.int .i64 q,.int .i64 y] 154)) bP 154 _:=sf.alloc _;have AC:Row (aC.alloc (.cells #[.int .i64 p,.int .i64 q,.int .i64 y] 154)) bw 154 [.int .i64 p,.int .i64 q,.int .i64 y]:=by rw[bm.out];exact Row.new aC _ _
  have Dj:bw≠bP:=λe=>by have:=sf.lt;rw[bm.out]at e;omega
  have UU:bP≠bw:=λe=>Dj e.symm
  have aZ:=mI.out;have hne':bP≠bF:=λe=>aZ e.symm
  have Bx:=I (sP.out.alloc sP.out.size (.cells #[.int .i64 p,.int .i64 q,.int .i64 y] 154));generalize (aC.alloc (.cells #[.int .i64 p,.int .i64 q,.int .i64 y] 154))=vA at *;obtain⟨c0,c1,c2⟩:=dz yE;obtain⟨c3,c4,c5⟩:=dz jT;have f3:=jT.free 0;have f4:=jT.free 1;have f5:=jT.free 2;have s0:=(jT.bq 0 (.int .i64 a)).cell 0;have s1:=((jT.bq 0 (.int .i64 a)).bq 1 (.int .i64 b)).cell 1;have s2:=(((jT.bq 0 (.int .i64 a)).bq 1 (.int .i64 b)).bq 2 (.int .i64 c)).cell 2;simp only[set_cons_zero,set_cons_succ,dH,dJ]at s0 s1 s2;have dY:=I s0;have cZ:=I s1;have fU:=I s2;clear wJ sf yE jT AC s0 s1 s2;go_region
  go_wp2;have s0:=dY.out;have s1:=cZ.out;have s2:=fU.out;refine bodyPost_ret (by simp[results,results187,go_sem,s0,s1,s2]) rfl ⟨rfl,?_⟩;exact(((Bx.out.setCell ce.out _).setCell ce.out _).setCell ce.out _).drew
theorem WN:aew:=by
 intro w a b c n aV ak hc aA;by_cases ao:n<0
 .have e:jW a b c n=none:=by unfold jW;rw[aB (.inl ao)]
  refine(alS w a b c n ao).mono λe' w' ⟨he,hw⟩=>⟨λx ai=>?_,λ_=>he,hw⟩
  rw[e]at ai;cases ai
 .obtain⟨x,ai⟩:∃x,kd a b c n=x:=⟨_,rfl⟩;have akW:hv x:=by
   rcases Hf a b c n (by omega)with⟨_,h⟩|⟨_,h⟩|⟨_,h⟩|⟨af,h⟩<;>rw[<-ai,h]
   .exact aV
   .exact ak
   .exact hc
   .unfold hv at *;omega
  unfold hv at aA;have jr:=λW=>Na W a b c x aV ak hc akW
  have hcs:=XF a b c x;by_cases eZ:0<=hb a b c x
  .have ro:=λW=>(jr W).mono λe w' h=>And.intro (h.1 eZ) h.2.2
   by_cases hm:hb a b c x=n
   .have e:jW a b c n=some x:=by unfold jW;rw[az (by omega),ai,aB hm]
    refine(alU w a b c n x _ _ _ _ hm (by omega) (by omega) ai ro).mono λe' w' ⟨he,hw⟩=>⟨λz aQ=>?_,λaQ=>?_,hw⟩
    .rw[e]at aQ;injection aQ with aQ
     rw[<-aQ];exact he
    .rw[e]at aQ;cases aQ
   .have e:jW a b c n=none:=by
     unfold jW;split
     .rfl
     .rw[ai,az hm]
    refine(alT w a b c n x _ _ _ _ hm (by omega) (by omega) ai ro).mono λe' w' ⟨he,hw⟩=>⟨λz aQ=>?_,λ_=>he,hw⟩
    rw[e]at aQ;cases aQ
  .have ro:=λW=>(jr W).mono λe w' h=>And.intro (h.2.1 (by omega)) h.2.2
   have e:jW a b c n=none:=by
    unfold jW;split
    .rfl
    .rw[ai,az (by omega)]
   refine(alR w a b c n x _ _ _ _ (by omega) (by omega) ai ro).mono λe' w' ⟨he,hw⟩=>⟨λz aQ=>?_,λ_=>he,hw⟩
   rw[e]at aQ;cases aQ
section
variable {P:Program} (w:ah)
theorem aql(base:Nat)(t x ty e:TypeId)(i:TypeInfo)(z:Value)(aE:P.underlying t=some (.slice e))(ai:P.underlying x=some .string)(ay:P.info? e=some i)(aQ:i.zero=some z)
  (hsize:i.size=1)(AS:z.cells.size=1)(s:ByteArray)(m:Nat)(hm:s.size=m)(v:Value)(n:Nat)(xs:b1)(hown:w.ownsRow base e 1 v n xs)
  (SQ:n+m<=maxLen)(hbytes:(n+m)*i.bytes<=140737488355328)(hbase:base<=w.heap.size) :
  ∃sJ w',(Builtin.append_ #[t,x] ty #[v,.string s]).run P w=.ok sJ w'/\w'.ownsRow base e 1 sJ (n+m) (xs++byteCells s)/\w.grownBy w' v.ownBlock:=by
 have hsrc:Src P i.size x (.string s) m (byteCells s) w:=by rw[hsize,<-hm];exact Src.ofString w ai s
 have hsrc1:Src P 1 x (.string s) m (byteCells s) w:=by rw[<-hm];exact Src.ofString w ai s
 have hl:(byteCells s).length=m:=by rw[byteCells_length,hm]
 have hsmall:n+m<=9223372036854775807:=by simp only[maxLen]at SQ;omega
 have h63':¬(9223372036854775807<((n:Int)+m)):=by omega
 have hlen:(xs++byteCells s).length=n+m:=by rw[aY,hown.1,hl,Nat.mul_one]
 have grown:∀(old:Nat),old<n+m->∀(row:Option Nat),
   (w.drew.alloc (.cells ((xs++byteCells s).toArray++Builtin.zeroCells z.cells (grownCap w (n+m) old e-(n+m))) e)).ownsRow base e 1
    (.slice (some ⟨w.heap.size,0,none⟩) (n+m) (grownCap w (n+m) old e)) (n+m) (xs++byteCells s) /\
   w.grownBy (w.drew.alloc (.cells ((xs++byteCells s).toArray++Builtin.zeroCells z.cells (grownCap w (n+m) old e-(n+m))) e)) row:=by
  intro old b9 row;have fj:=grownCap_ge w (n+m) old e;have gX:grownCap w (n+m) old e<=maxLen:=grownCap_le_maxLen w (n+m) old e SQ;refine⟨⟨by rw[hlen,Nat.mul_one],.inr ⟨w.heap.size,_,_,rfl,hbase,heap_alloc_new w.drew _,fj,gX,?_,?_⟩⟩,⟨rfl,rfl,rfl,by simp,λ_ hk _=>Go.heap_alloc_old w.drew _ hk⟩⟩
  .simp only[Array.size_append,List.size_toArray,size_zeroCells,AS,hlen];omega
  .simp only[Array.toList_append];rw[Nat.mul_one,<-hlen];exact take_left
 rcases hown.2 with⟨rfl,rfl⟩|⟨g,cap,eW,rfl,Al,aF,qf,gX,hcs,htake⟩
 .have mY:xs=[]:=lf (by simpa using hown.1);subst mY;by_cases h8:m=0
  .subst h8;have g6:byteCells s=[]:=lf hl;rw[g6];refine⟨.slice none 0 0,w,?_,World.ownsRow_nil w base e 1,⟨rfl,rfl,rfl,Nat.le_refl _,λ_ _ _=>rfl⟩⟩;have hle:∀w':ah,(Builtin.lenOf (.string s)).run P w'=.ok 0 w':=hsrc1.len;simp[Builtin.append_,run_underlying aE,run_underlying ai,sizeOf,typeInfo,ay,hle,hsrc.cells]
  .have cP:=grown 0 (by omega) (Value.ownBlock (.slice none 0 0));have hfit:Builtin.nextslicecap (0+m) 0*i.bytes<=281474976710656:=by rw[nextslicecap_zero (by omega)];omega
   refine⟨_,_,run_append_grow_src (P:=P) w t x ty e i z aE ay aQ none 0 0 [] (run_firstCells_none w.drew i.size 0 0 0) (.string s) m (byteCells s) hsrc (by omega) (by omega) hfit,cP.1,cP.2⟩
 .by_cases hroom:n+m<=cap
  .have aS:=run_storeCells_at P g (n*1) e (byteCells s) 0 eW w aF (by simp only[hl,hcs];omega) hsrc1.one;simp only[fX,Nat.mul_one]at aS;have aj:(Builtin.append_ #[t,x] ty #[.slice (some ⟨g,0,none⟩) n cap,.string s]).run P w=.ok (.slice (some ⟨g,0,none⟩) (n+m) cap) (w.setRow g (eW.toList.take n++byteCells s++eW.toList.drop (n+(byteCells s).length)).toArray):=by
    simp[Builtin.append_,run_underlying aE,run_underlying ai,sizeOf,typeInfo,ay,hsize,hsrc1.len,hroom,hsrc1.cells,Addr.add_lit,aS]
   refine⟨_,_,aj,⟨by rw[hlen,Nat.mul_one],.inr ⟨g,cap,_,rfl,Al,setRow_heap w g eW _ e _ aF,hroom,gX,?_,?_⟩⟩,⟨rfl,rfl,rfl,by simp,λk _ hk=>setRow_other w g k _ (λe=>hk (by simp[Value.ownBlock,e]))⟩⟩
   .simp only[List.size_toArray,aY,cr,cB,Array.length_toList];omega
   .rw[Nat.mul_one]at htake;rw[htake,Nat.mul_one,<-hlen];exact take_left
  .have holds:∀j u,xs[j]?=some u->w.cell? ((⟨g,0,none⟩:Addr).add j)=some u:=hown.cells (g:=g) rfl;have cP:=grown cap (by omega) (Value.ownBlock (.slice (some ⟨g,0,none⟩) n cap));have hfit:Builtin.nextslicecap (n+m) cap*i.bytes<=281474976710656:=growslice_fits (bytes:=i.bytes) (need:=n+m) (old:=cap) (by omega) hbytes;have ajJ:=run_firstCells_some (P:=P) w.drew i.size n ⟨g,0,none⟩ n cap xs (by rw[hown.1,hsize]) (by simpa using holds);exact⟨_,_,run_append_grow_src (P:=P) w t x ty e i z aE ay aQ (some ⟨g,0,none⟩) n cap xs ajJ (.string s) m (byteCells s) hsrc (by omega) (by omega) hfit,cP.1,cP.2⟩
end
theorem aga(l:ae)(h:∀x∈l,x<256):byteCells (strOf l)=aO l:=by
 unfold byteCells strOf aO;simp only[List.map_map];apply map_congr_left
 intro x ai;show Value.int .u8 ((UInt8.ofNat x).toNat:Int)=_;rw[UInt8.toNat_ofNat_of_lt' (h x ai)]
theorem Z0(l m:ae):aO l++aO m=aO (l++m):=by simp[aO]
theorem Po{ops:Array Oper}{rest:List Oper}{o:Oper}{a:Act}{w:ah}{Q:Exit->Act->ah->Prop}(C8:o.guard=none)(s x:Operand)
  (b9:o.op=.call {callee:=.builtin .append,args:=#[s,x],argTypes:=#[87,9]})(base:Nat)(i0:TypeInfo)(ay:prog.info? 5=some i0)(bC:i0.zero=some (.int .u8 0))(bL:i0.size=1)(bz:i0.bytes=1)
  (v:Value)(n m:Nat)(l S:ae)(cD:S.length=m)(au:∀x∈S,x<256)(ap:a.eval s=v)(ai:a.eval x=.string (strOf S))(hown:w.ownsRow base 5 1 v n (aO l))(aA:n<=10000000000)(hm:m<=10000000000)(ak:base<=w.heap.size)
  (h:∀sJ w',w'.ownsRow base 5 1 sJ (n+m) (aO (l++S))->w.grownBy w' v.ownBlock->wpList prog ops Q rest (a.put o.dst sJ) w'):wpList prog ops Q (o::rest) a w:=
 wpList_plain C8 λ_ hK=>by
  obtain⟨sJ,w',aj,af,aq⟩:=aql (P:=prog) w base 87 9 o.type 5 i0 (.int .u8 0) underlying87 underlying9 ay bC bL rfl (strOf S) m (by rw[cy,cD]) v n (aO l) hown (by unfold maxLen;omega) (by rw[bz];omega) ak;rw[aga S au,Z0]at af;unfold Oper.wp execOp;simp only[b9,resolve,invoke,builtin,Sem.run_bind,Sem.run_pure,Result.andThen_ok,map_toArray,map_cons,map_nil,ap,ai,aj];exact hK _ _ (h sJ w' af aq)
theorem art(m:Nat)(h:m<18446744073709551616):IntKind.u64.wrap ((m:Int)/536870912)=(m:Int)/536870912:=by
 rw[IntKind.wrap_u64];omega
theorem arQ(m:Nat)(h:m<18446744073709551616):IntKind.u64.wrap ((m:Int)/4294967296)=(m:Int)/4294967296:=by
 rw[IntKind.wrap_u64];omega
theorem SF(l:ae)(w:ah)(hl:l.length<=1000000000)(au:∀x∈l,x<256) :
  Calls prog 24 #[.string (strOf l)] w λe w'=>e=.returned (.int .u64 (am.sumOf l))/\w=w':=by
 have bB:=cy l;have kC:Hid (∀(i:Nat) (W:ah) (ay:i<l.length),(Instr.index 9 (.string (strOf l)) (.int .i64 i)).run prog W=.ok (.int .u8 ((l[i]:Nat):Int)) W):=I (λi W ay=>pE l i W ay (au _ (b8 ay)));have ce:=I au;have ET:=I (λk=>SC am.lE (l.take k) aav);obtain⟨r,aj⟩:∃r,r=am.sumOf l:=⟨_,rfl⟩;rw[<-aj];have bj:=I aj;clear au aj;generalize strOf l=s at bB kC ⊢;go_enter func24,ntmps24
 go_wp2;go_loop [3,4] (λx i=>∃k:Nat,k<=l.length/\i=.int .i64 k/\x=.int .u64 (km am.lE (l.take k):Int)) (λ_ i=>l.length-(intOf i).toNat)
 case atStart=>exact⟨0,by omega,rfl,rfl⟩
 case round=>
  obtain⟨k,hk,rfl,rfl⟩:=hrel;by_cases a8:k<l.length
  .have ai:=λW=>kC.out k W a8
   have ak:=ce.out l[k] (b8 a8);have hh:=ET.out k;have ap:=(KQ am.lE l k a8).symm;have ca:=I ap;clear ap;generalize km am.lE (l.take k)=y at hh ca ⊢;generalize l[k]=b at ai ak ca;have e0:=atJ y b hh (by omega);have aG:=Zg y b hh ak;rw[e0]at aG;have e2:=Zh y b;have e3:=art (sv y b) (DX y b);have hm:=DX y b;generalize sv y b=m at aG e2 e3 hm;generalize tN y b=atM at e2 ca;generalize y ^^^ b=x at e0 aG;go_wp2;go_round
   case rel=>exact⟨k+1,by omega,by go_num,by rw[ca.out]⟩
   case measure=>simp[intOf];omega
  .obtain rfl:k=l.length:=by omega
   rw[take_length];have wE:=ET.out l.length;rw[take_length]at wE;have ap:y3 (km am.lE l) l.length=r:=by rw[bj.out];rfl
   generalize km am.lE l=y at ap wE ⊢;have aG:=Zw y l.length;have e2:=Zx y l.length;have e3:=arQ (sw y l.length) (DY y l.length);rw[ap]at e2;have hm:=DY y l.length;clear ap;generalize sw y l.length=m at aG e2 e3 hm;go_wp2;go_ret;exact⟨rfl,rfl⟩
theorem Y7(l:ae)(w:ah)(hl:l.length<=1000000000)(au:∀x∈l,x<256) :
  Calls prog 22 #[.string (strOf l)] w λe w'=>e=.returned (.int .u64 (am.sumOf l))/\av w w':=by
 have hadd:=λW=>aqx 7640891576956012808 0 l W (by decide) (by decide) hl au
 have hsum:=λW=>arn (km 7640891576956012808 l) l.length W
 have aj:y3 (km 7640891576956012808 l) l.length=am.sumOf l:=rfl;rw[show(0+l.length)%18446744073709551616=l.length by omega]at hadd;rw[aj]at hsum;have rp:=I hadd;have rB:=I hsum;clear hadd hsum aj au;generalize am.sumOf l=r at rB ⊢;generalize km 7640891576956012808 l=y at rp rB;generalize l.length=n at rp rB;generalize strOf l=s at rp ⊢;go_enter func22,ntmps22
 go_wp2_with fail
 refine(ari w).mono ?_;rintro e aw ⟨rfl,aH⟩;have aN:=I aH;clear aH;go_wp2_with fail
 refine(rp.out aw).mono ?_;rintro e aC ⟨rfl,aJ⟩;have bm:=b3 aN aJ;clear aJ;go_wp2_with fail
 refine(rB.out aC).mono ?_;rintro e a6 ⟨rfl,bA⟩;have b6:=b3 bm bA;clear bA;go_wp2;go_ret;exact⟨rfl,b6⟩
theorem anG(x:Nat):bits .or .u8 ((x:Int)%256) 128=((x%128+128:Nat):Int):=by
 have e:(x:Int)%256=((x%256:Nat):Int):=by simp
 rw[e,show(128:Int)=((128:Nat):Int)from rfl,u8_or_nat _ _ (by omega) (by omega)];congr 1
 have h:∀y,y<256->y ||| 128=y%128+128:=by decide +kernel
 rw[h _ (by omega)];omega
theorem XV{w:ah}{base n b:Nat}{u:Value}{l:ae}(h:w.ownsRow base 5 1 u (n+1) (aO l++[.int .u8 b])):w.ownsRow base 5 1 u (n+1) (aO (l++[b])):=by
 have e:aO (l++[b])=aO l++[.int .u8 b]:=by simp[aO]
 rw[e];exact h
theorem atr(Ho:a7)(v:Nat)(R:ah->ah->Prop)(w:ah)(aD:v<2^64)
  (hraw:∀w',av w w'->Calls prog 33 #[.pointer Ho,.string (strOf (bg v))] w' λe o5=>e=.returned (.pointer Ho)/\R w' o5) :
  Calls prog 32 #[.pointer Ho,.int .u64 v] w λe w'=>e=.returned (.pointer Ho)/\∃aw,av w aw/\R aw w':=by
 obtain⟨i0,ay,bC,bL,bz⟩:=info_parts ob;have fD:=I hraw;have gR:=I aD;clear hraw aD;go_enter func32,ntmps32
 go_wp2_with (at_make;refine wpList_make_own _ rfl _ _ 87 rfl w.heap.size 5 i0 (.int .u8 0) 1 underlying87 ay bC bL .i64 .i64 _ 10 rfl rfl ?c1 ?c2 ?c3 ?c4 ?_)
 case c1=>rfl
 case c2=>rw[bz];omega
 case c3=>unfold maxLen;omega
 case c4=>exact Nat.le_refl _
 intro aw hown1 a1;have aN:=I (kZ a1);have Jk:=I hown1;clear hown1 a1;go_wp2;go_loopw [1,5] (λx u wr=>∃(y:Nat) (acc:ae),x=.int .u64 y/\Hid (y<2^64)/\Hid (acc++bg y=bg v)/\Hid (wr.ownsRow w.heap.size 5 1 u acc.length (aO acc))/\Hid (av w wr)) (λx _ _=>(intOf x).toNat)
 case atStart=>exact⟨v,[],rfl,by have:=gR.out;omega,by simp[Hid],Jk.out,aN.out⟩
 case round=>
  obtain⟨y,acc,rfl,hy,hacc,hown,hbel⟩:=hrel;have Gg:acc.length<=10:=by
   have h1:=congrArg List.length hacc.out;rw[aY]at h1;have af:=lP v gR.out;omega
  by_cases au:128<=y
  .go_wp2_with (at_builtin;refine wpList_append_own _ rfl _ _ 87 rfl w.heap.size 5 i0 (.int .u8 0) 1 1 underlying87 ay bC bL bz rfl (by decide) _ _ _ rfl (hown.out.alloc _) ⟨wr.heap.size,0,none⟩ 1 1 [.int .u8 (bits .or .u8 ((y:Int)%256) 128)] rfl rfl ?d1 ?d2 ?d3 ?d4 ?d5 ?_)
   case d1=>
    intro j u ar;match j,ar with
   |0,ar=>simp at ar;subst ar;simp[Addr.add]
   case d2=>intro u hu;simp at hu;subst hu;rfl
   case d3=>unfold maxLen;omega
   case d4=>omega
   case d5=>have:=hbel.out.size;simp;omega
   intro gN aC hown' hgrow _;rw[anG]at hown';have hV:av w aC:=(hbel.out.alloc hbel.out.size _).grown hgrow (by have:=hbel.out.size;simp;omega) (λq hq=>(hown.out.lt q hq).1);have iR:=I (XV hown');have b5:=I hV;clear hown' hV hgrow hown hbel;go_wp2;go_roundw
   case rel=>
    refine⟨y/128,acc++[y%128+128],by go_num,by have:=hy.out;unfold Hid;omega,?_,?_,b5⟩
    .unfold Hid;rw[<-hacc.out,wq y au hy.out,df];rfl
    .rw[aY];exact iR
   case measure=>simp[intOf];omega
  .have ak4:y<=127:=by omega
   have hfin:acc++[y]=bg v:=by rw[<-hacc.out,tc y (by omega)]
   have fe:=I hfin;clear hfin hacc au;go_wp2_with (at_builtin;refine wpList_append_own _ rfl _ _ 87 rfl w.heap.size 5 i0 (.int .u8 0) 1 1 underlying87 ay bC bL bz rfl (by decide) _ _ _ rfl (hown.out.alloc _) ⟨wr.heap.size,0,none⟩ 1 1 [.int .u8 y] rfl rfl ?d1 ?d2 ?d3 ?d4 ?d5 ?_)
   case d1=>
    intro j u ar;match j,ar with
   |0,ar=>simp at ar;subst ar;simp[Addr.add]
   case d2=>intro u hu;simp at hu;subst hu;rfl
   case d3=>unfold maxLen;omega
   case d4=>omega
   case d5=>have:=hbel.out.size;simp;omega
   intro gN aC hown' hgrow _;have hV:av w aC:=(hbel.out.alloc hbel.out.size _).grown hgrow (by have:=hbel.out.size;simp;omega) (λq hq=>(hown.out.lt q hq).1);have hown2:=XV hown';rw[fe.out]at hown2;have hlen:acc.length+1=(bg v).length:=by rw[<-fe.out];simp
   obtain⟨A,c,rfl,aj,_⟩:=kJ hown2;have dS:=oL aC A c (bg v) (qb v gR) aj;rw[hlen];have b5:=I hV;have Qe:=I (fD.out aC hV);clear hown' hV hgrow hown hbel hown2 aj hlen Gg;generalize strOf (bg v)=str at dS Qe;generalize (bg v).length=len at dS ⊢;go_wp2_with fail
   refine Qe.out.mono ?_;rintro e w' ⟨rfl,cK⟩;have fc:=I cK;clear cK;go_wp2;go_ret;exact⟨rfl,aC,b5,fc⟩
theorem Bh(b v:Nat)(bs:ae)(w:ah)(aD:v<2^64)(hl:bs.length<=100000000)(h:fH w b bs) :
  Calls prog 32 #[.pointer (some ⟨b,0,none⟩),.int .u64 v] w λe w'=>e=.returned (.pointer (some ⟨b,0,none⟩))/\fH w' b (bs++bg v)/\w.grownBy w' (some b):=by
 have td:=lP v aD;exact(atr (some ⟨b,0,none⟩) v (λaw w'=>fH w' b (bs++bg v)/\aw.grownBy w' (some b)) w aD (λw' ak=>tR b bs _ w' (by omega) (h.below ak))).mono
  λe w' ⟨he,aw,ak,hc,aF⟩=>⟨he,hc,ef (dj ak _) aF⟩
theorem HZ(b:Nat)(bs s:ae)(w:ah)(hl:bs.length<=10000000)(ap:s.length<=10000000)(h:fH w b bs) :
  Calls prog 63 #[.pointer (some ⟨b,0,none⟩),.string (strOf s)] w λe w'=>e=.returned (.pointer (some ⟨b,0,none⟩))/\fH w' b (bs++(bg s.length++s))/\w.grownBy w' (some b):=by
 have td:=lP s.length (by omega);have jb:=I (Bh b s.length bs w (by omega) (by omega) h);have bj:=I (λaw h1=>tR b (bs++bg s.length) s aw (by rw[aY];omega) h1);have bB:=cy s;clear h;generalize strOf s=str at bB bj ⊢;go_enter func63,ntmps63
 go_wp2_with fail
 refine jb.out.mono ?_;rintro e aw ⟨rfl,hc,aF⟩;have gO:=I (bj.out aw hc);have dm:=I aF;clear hc aF;go_wp2_with fail
 refine gO.out.mono ?_;rintro e aC ⟨rfl,hc,aF⟩;rw[df]at hc;have ig:=I hc;have du:=I aF;clear hc aF;go_wp2;go_ret;exact⟨rfl,ig,ef dm.out du⟩
theorem arb(g L q:Nat)(W:ah)(h:q<L):(Instr.slice 87 (.slice (some ⟨g,0,none⟩) L L) (some (.int .i64 q)) none none).run prog W=.ok (.slice (some ⟨g,q,none⟩) (L-q) (L-q)) W:=by
 have h1:¬L=q:=by omega
 have af:q<=L:=by omega
 go_simp
theorem agZ{w:ah}{g q L:Nat}{ag t:ae}(aj:Row w g 5 (aO ag))(aE:∀x∈t,x<256)(hle:q+t.length<=ag.length)(bR:t.length<=L)(ty:TypeId) :
  ∃w',(Builtin.copy_ #[87,9] ty #[.slice (some ⟨g,q,none⟩) L L,.string (strOf t)]).run prog w=.ok (goInt (t.length:Int)) w'/\Row w' g 5 (aO (ag.take q++t++ag.drop (q+t.length)))/\w.grownBy w' (some g):=by
 have akJ:(prog.info? 5).map (·.size)=some 1:=by kernel_rfl
 have h:=Lib.run_copy_row_string (P:=prog) w 87 9 ty 5 g q L L (strOf t) (aO ag).toArray 5 underlying87 akJ aj (by rw[cy];exact bR) (by rw[cy];simpa [aO]using hle);rw[cy]at h;have ak:Lib.byteCells (strOf t).data.toList=aO t:=by
  simp only[Lib.byteCells,strOf,aO,List.map_map];apply map_congr_left
  intro x ai;simp[UInt8.toNat_ofNat_of_lt' (aE x ai)]
 rw[ak]at h;refine⟨_,h,?_,?_⟩
 .have e:(aO ag).take q++aO t++(aO ag).drop (q+t.length)=aO (ag.take q++t++ag.drop (q+t.length)):=by simp[aO,map_take,map_drop]
  rw[<-e];exact setRow_heap w g _ _ 5 _ aj
 .exact⟨rfl,rfl,rfl,by simp[World.setRow],λk _ aA=>setRow_other w g k _ (λe=>aA (by rw[e]))⟩
theorem apO(r L:Nat)(t pM:ae)(aE:t.length=L):(List.replicate (r+L) 0++pM).take r++t++(List.replicate (r+L) 0++pM).drop (r+L)=List.replicate r 0++(t++pM):=by
 rw[take_append_of_le_length (by simp),take_replicate,Nat.min_eq_left (by omega),drop_append,iZ,Nat.sub_self,drop_zero,drop_of_length_le (by simp),nil_append,df]
theorem vC(b:Nat)(bs:ae)(w:ah)(hl:bs.length<=100000000)(cs:∀x∈bs,x<256)(h:fH w b bs) :
  Calls prog 34 #[.pointer (some ⟨b,0,none⟩)] w λe w'=>e=.returned (.string (strOf bs))/\av w w':=by
 obtain⟨i0,ay,bC,bL,bz⟩:=info_parts ob;obtain⟨p,ky,ao,hc,e⟩:=h;have c0:=ao.cell 0;have c1:=ao.cell 1;have eu:=ao.lt;simp only[dH,dJ]at c0 c1;have gO:=I hc;have e7:=I e;have qy:=I cs;clear ao hc e cs;obtain⟨n,aA⟩:∃n,n=bs.length:=⟨_,rfl⟩;rw[<-aA]at c1 hl;have b0:=I aA;obtain⟨all,hall⟩:∃s,s=strOf bs:=⟨_,rfl⟩;rw[<-hall];have mH:=I hall;clear aA hall;go_enter func34,ntmps34
 go_wp2_with (at_make;refine wpList_make_full _ rfl _ _ 87 rfl w.heap.size 5 i0 (.int .u8 0) 1 underlying87 ay bC bL .i64 .i64 _ _ n rfl rfl ?c1 ?c1 ?c2 ?c3 ?c4 ?_)
 case c1=>rfl
 case c2=>rw[bz];omega
 case c3=>unfold maxLen;omega
 case c4=>exact Nat.le_refl _
 intro aw hown1 a1;have aH:=kZ a1;have cg:Row aw w.heap.size 5 (aO (List.replicate n 0)):=Ef hown1;have d0:aw.cell? ⟨b,0,none⟩=some (.pointer p):=(aH.cell (p:=⟨b,0,none⟩) eu).trans c0;have d1:aw.cell? ⟨b,1,none⟩=some (.int .i64 n):=(aH.cell (p:=⟨b,1,none⟩) eu).trans c1;have aN:=I aH;have fw:=I cg;clear hown1 a1 aH cg c0 c1;go_wp2;go_loopw [4,5] (λi p' wr=>∃(A:Nat) (vo:a7) (rem:List (ae)) (pM:ae),i=.int .i64 A/\p'=.pointer vo/\Hid (PC w vo rem)/\Hid (Row wr w.heap.size 5 (aO (List.replicate A 0++pM))) /\
  Hid (av w wr)/\Hid (A=rem.reverse.flatten.length)/\Hid (bs=rem.reverse.flatten++pM)/\A<=n) (λi _ _=>(intOf i).toNat)
 case atStart=>exact⟨n,p,ky,[],rfl,rfl,gO,by rw[append_nil];exact fw,aN,by unfold Hid;rw[<-e7.out];exact b0,by unfold Hid;rw[<-e7.out,append_nil],Nat.le_refl _⟩
 case round=>
  obtain⟨A,vo,rem,pM,rfl,rfl,r0,hrow,hbel,hA,cs,auZ⟩:=hrel;clear d0 d1;rcases rem with _|⟨t,rem⟩
  .obtain rfl:vo=none:=r0.out;have VQ:bs=pM:=by have:=cs.out;simpa using this
   have xY:A=0:=by have:=hA.out;simpa using this
   subst xY;have hrow2:Row wr w.heap.size 5 (aO bs):=by have:=hrow.out;rw[VQ];simpa using this
   have dS:=Kn (m:=n) (c:=n) hrow2 (by rw[b0.out];exact Nat.le_refl _) qy.out;rw[b0.out,take_length,<-b0.out]at dS;rw[<-mH.out]at dS;clear VQ hrow hrow2 r0 cs hA;go_wp2;go_ret;exact⟨rfl,hbel⟩
  .obtain⟨g1,gp,rfl,GH,aZ,C5⟩:=r0.out;have a1:=GH.lt;have bD:=(hbel.out.cell (p:=⟨g1,0,none⟩) a1).trans (GH.cell 0);have bh:=(hbel.out.cell (p:=⟨g1,1,none⟩) a1).trans (GH.cell 1);simp only[dH,dJ]at bD bh;have IH:=I C5;obtain⟨r,aj⟩:∃r,r=rem.reverse.flatten.length:=⟨_,rfl⟩;obtain⟨L,bR⟩:∃L,L=t.length:=⟨_,rfl⟩;have F4:A=r+L:=by
    have h1:=hA.out;rw[reverse_cons,flatten_append,aY]at h1;simp at h1;simp[aj,bR,h1]
   have avf:0<L:=by rw[bR];exact List.length_pos_iff.2 aZ
   have Gl:bs=rem.reverse.flatten++(t++pM):=by
    have h1:=cs.out;rw[h1,reverse_cons,flatten_append];simp
   have aj4:pM.length+A=n:=by
    have h1:=congrArg List.length Gl;rw[b0.out,h1,F4];simp[aj,bR];omega
   have htlt:∀x∈t,x<256:=λx ai=>qy.out x (by rw[Gl];simp[ai])
   have hcopy:∃a6,(∀ty,(Builtin.copy_ #[87,9] ty #[.slice (some ⟨w.heap.size,r,none⟩) (n-r) (n-r),.string (strOf t)]).run prog wr.drew=.ok (goInt (L:Int)) a6)/\Row a6 w.heap.size 5 (aO (List.replicate r 0++(t++pM)))/\av w a6:=by
    have bt:Row wr.drew w.heap.size 5 (aO (List.replicate (r+L) 0++pM)):=by have:=hrow.out;rw[F4]at this;exact this
    have k6:=λty=>agZ (q:=r) (L:=n-r) bt htlt (by simp;omega) (by omega) ty
    obtain⟨a6,h1,af,aq⟩:=k6 0;rw[<-bR,apO r L t pM bR.symm]at af;rw[<-bR]at h1;refine⟨a6,λty=>?_,af,hbel.out.drew.grown aq (by have:=hbel.out.size;simpa using this) (λk e=>by injection e with e;omega)⟩;exact h1
   obtain⟨a6,k6,hrow3,Aj⟩:=hcopy;have bB:=cy t;rw[<-bR]at bB;have TQ:=k6 3;have hsub:(A:Int)-L=r:=by omega
   have eO:r<n:=by omega
   have avg:L<=A:=by omega
   have Dx:=λW=>arb w.heap.size n r W eO
   have axb:a6.cell? ⟨g1,0,none⟩=some (.pointer gp):=(Aj.cell (p:=⟨g1,0,none⟩) a1).trans ((hbel.out.cell (p:=⟨g1,0,none⟩) a1).symm.trans bD);have kU:=I hrow3;have IB:=I Aj;have bj:=I aj;have abE:=I Gl;have at8:=I F4;clear C5 GH r0 aj Gl cs hA aj4 htlt hrow hrow3 Aj aZ k6 bR F4;generalize strOf t=str at bh bB TQ;go_wp2;go_still_tail 7,(by kernel_rfl)
   change wpList _ _ _ _ _ wr.drew;clear Dx;go_wp2;clear TQ;go_roundw
   case rel=>exact⟨r,gp,rem,t++pM,rfl,rfl,IH,kU,IB,bj,abE,by omega⟩
   case measure=>simp[intOf];omega
open Go.Shelf
def wj(a b:Int):Int:=if a<b then -1 else if b<a then 1 else 0
theorem atW(a:Int)(w:ah):Calls prog 135 #[.int .i64 a] w λe w'=>e=.returned (.bool false)/\w=w':=by
 have h:(a != a)=false:=by simp
 go_enter func135,ntmps135
 go_wp2;go_ret;exact⟨rfl,rfl⟩
theorem atN(a b:Int)(w:ah):Calls prog 104 #[.int .i64 a,.int .i64 b] w λe w'=>e=.returned (.int .i64 (wj a b))/\w=w':=by
 have b0:=I (λa=>atW a w);unfold wj;by_cases h1:a<b
 .rw[aB h1];have d1:decide (a<b)=true:=bE h1;clear h1;go_enter func104,ntmps104
  go_wp2_with fail
  refine(b0.out _).mono ?_;rintro e w' ⟨rfl,rfl⟩;go_wp2_with fail
  refine(b0.out _).mono ?_;rintro e w' ⟨rfl,rfl⟩;go_wp2;go_ret;exact⟨rfl,rfl⟩
 .rw[az h1];have d1:decide (a<b)=false:=bG h1;by_cases af:b<a
  .rw[aB af];have d2:decide (b<a)=true:=bE af;clear h1 af;go_enter func104,ntmps104
   go_wp2_with fail
   refine(b0.out _).mono ?_;rintro e w' ⟨rfl,rfl⟩;go_wp2_with fail
   refine(b0.out _).mono ?_;rintro e w' ⟨rfl,rfl⟩;go_wp2;go_ret;exact⟨rfl,rfl⟩
  .rw[az af];have d2:decide (b<a)=false:=bG af;clear h1 af;go_enter func104,ntmps104
   go_wp2_with fail
   refine(b0.out _).mono ?_;rintro e w' ⟨rfl,rfl⟩;go_wp2_with fail
   refine(b0.out _).mono ?_;rintro e w' ⟨rfl,rfl⟩;go_wp2;go_ret;exact⟨rfl,rfl⟩
theorem atU(s t:ae)(w:ah):Calls prog 103 #[.string (strOf s),.string (strOf t)] w λe w'=>e=.returned (.int .i64 (wj s.length t.length))/\w=w':=by
 have gO:=I (atN s.length t.length w);have h1:=cy s;have af:=cy t;generalize s.length=m at *;generalize t.length=n at *;generalize strOf s=axq at *;generalize strOf t=Es at *;generalize wj (m:Int) (n:Int)=r at *;go_enter func103,ntmps103
 go_wp2_with fail
 refine gO.out.mono ?_;rintro e w' ⟨rfl,rfl⟩;go_wp2;go_ret;exact⟨rfl,rfl⟩
def mC(ss:List (ae)):b1:=ss.map λs=>.string (strOf s)
theorem Eo(ss:List (ae)):(mC ss).length=ss.length:=by simp[mC]
theorem arG(ss:List (ae))(i:Nat)(h:i<ss.length):(mC ss)[i]?=some (.string (strOf ss[i])):=by simp[mC,h]
theorem ahH:∀args w,(callFunc 103 args).run prog w=.ok (.enter 103 args) w:=enters_of func103 (by kernel_rfl) rfl
theorem atV(A:a7)(c:Nat)(ss:List (ae))(w:ah)(ao:0<ss.length)(hl:ss.length<=1000000)(aj:Reads w A (mC ss)) :
  Calls prog 101 #[.slice A ss.length c,.func (.func 103) #[] #[]] w λe w'=>(∃m∈ss,(∀s∈ss,m.length<=s.length)/\(∀f,ss[0]?=some f->m.length=f.length->m=f)/\e=.returned (.string (strOf m)))/\w=w':=by
 obtain⟨g,off,rfl,hc⟩:=aj (by intro e;have:=Eo ss;rw[e]at this;simp at this;omega);have c8:∀j (h:j<ss.length),w.cell? ⟨g,off+j,none⟩=some (.string (strOf ss[j])):=λj h=>by rw[hc j (by rw[Eo];exact h),arG ss j h]
 have gO:=I c8;have c0:=c8 0 ao;rw[fX]at c0;have QC:Hid (ss[0]∈ss/\∀s∈ss.take 1,ss[0].length<=s.length):=I ⟨b8 ao,λs ap=>by
  have e:ss.take 1=[ss[0]]:=by
   cases ss with
  |nil=>simp at ao
  |cons x r=>rfl
  rw[e,mem_singleton]at ap;rw[ap];exact Nat.le_refl _⟩
 have jM:Hid (ss[0]?=some ss[0]):=I (bI ao);generalize ss[0]=s0 at *;have gj:=I (λa b=>atU a b w);have mj:=ahH;clear aj hc c8;go_enter func101,ntmps101
 go_wp2;go_loopw [5,6] (λm i wr=>wr=w/\∃(k:Nat) (mm:ae),m=.string (strOf mm)/\i=.int .i64 k/\1<=k/\k<=ss.length/\Hid (mm∈ss/\(∀s∈ss.take k,mm.length<=s.length)/\mm.length<=s0.length/\(mm.length=s0.length->mm=s0))) (λ_ i _=>ss.length-(intOf i).toNat)
 case atStart=>exact⟨rfl,1,s0,rfl,rfl,by omega,by omega,I ⟨QC.out.1,QC.out.2,Nat.le_refl _,λ_=>rfl⟩⟩
 case round=>
  obtain⟨rfl,k,mm,rfl,rfl,ek,hk,qU⟩:=hrel;clear c0;by_cases a8:k<ss.length
  .have c1:=gO.out k a8;have cY:=I (gj.out ss[k] mm);have hE:Hid (ss.take (k+1)=ss.take k++[ss[k]]):=I (by rw[take_add_one,bI a8];rfl);have j2:=I (b8 a8);generalize ss[k]=vw at *;by_cases au:vw.length<mm.length
   .have aQ:wj (vw.length:Int) (mm.length:Int)=-1:=by unfold wj;rw[aB (by omega)]
    rw[aQ]at cY;have b0:Hid (vw∈ss/\(∀s∈ss.take (k+1),vw.length<=s.length)/\vw.length<=s0.length/\(vw.length=s0.length->vw=s0)):=I ⟨j2,λs ap=>by
     rw[hE.out]at ap;rcases List.mem_append.1 ap with ap|ap
     .have:=qU.out.2.1 s ap;omega
     .rw[List.mem_singleton.1 ap];exact Nat.le_refl _,by have:=qU.out.2.2.1;omega,λh=>by have:=qU.out.2.2.1;omega⟩
    clear au aQ qU;go_wp2_with fail
    refine cY.out.mono ?_;rintro e w' ⟨rfl,rfl⟩;go_wp2;go_roundw
    case rel=>exact⟨trivial,k+1,vw,rfl,by go_num,by omega,by omega,b0⟩
    case measure=>simp[intOf];omega
   .obtain⟨z,aQ,bC⟩:∃z,wj (vw.length:Int) (mm.length:Int)=z/\0<=z:=⟨_,rfl,by unfold wj;rw[az (by omega)];split<;>omega⟩;rw[aQ]at cY;have ta:decide (z<0)=false:=aU;have b0:Hid (mm∈ss/\(∀s∈ss.take (k+1),mm.length<=s.length)/\mm.length<=s0.length/\(mm.length=s0.length->mm=s0)):=I ⟨qU.out.1,λs ap=>by
     rw[hE.out]at ap;rcases List.mem_append.1 ap with ap|ap
     .exact qU.out.2.1 s ap
     .rw[List.mem_singleton.1 ap];omega,qU.out.2.2⟩
    clear au aQ qU bC;go_wp2_with fail
    refine cY.out.mono ?_;rintro e w' ⟨rfl,rfl⟩;go_wp2;go_roundw
    case rel=>exact⟨trivial,k+1,mm,rfl,by go_num,by omega,by omega,b0⟩
    case measure=>simp[intOf];omega
  .obtain rfl:k=ss.length:=by omega
   have dO:Hid (∃m∈ss,(∀s∈ss,m.length<=s.length)/\(∀f,ss[0]?=some f->m.length=f.length->m=f)/\strOf mm=strOf m):=I ⟨mm,qU.out.1,by have:=qU.out.2.1;rwa [take_length]at this,λf aL he=>by rw[jM.out]at aL;injection aL with aL;subst aL;exact qU.out.2.2.2 he,rfl⟩;clear qU;generalize strOf mm=axE at *;go_wp2;go_ret;obtain⟨m,h1,af,aq,aK⟩:=dO.out;exact⟨⟨m,h1,af,aq,congrArg (λx=>Ending.returned (Value.string x)) aK⟩,rfl⟩
theorem atR(k:Nat)(hk:k<256):([]:ae)++am.bytesOf k (fO 1)=[k]:=by
 have e:fO 1=1:=rfl;rw[e,nil_append];have h:k%256=k:=mod_eq_of_lt hk;simp[am.bytesOf,h]
theorem Pr(k:Nat)(w:ah)(hk:k<256):Calls prog 133 #[.int .u64 k] w λe w'=>∃b,e=.returned (.pointer (some ⟨b,0,none⟩))/\fH w' b [k]/\w.heap.size<=b/\av w w':=by
 have aA:=fH.new w;have ak:=(Below.refl w.heap.size w).alloc bl (.cells #[.pointer none,.int .i64 0] 62);have ai:=HV w.heap.size k 1 [] _ (by omega) (by omega) (by omega) (by simp) aA;rw[atR k hk]at ai;have cc:=I ai;have b5:=I ak;clear ai aA ak;go_enter func133,ntmps133
 go_wp2_with fail
 refine cc.out.mono ?_;rintro e aw ⟨rfl,bM,a1⟩;have kQ:=I bM;have aN:=I (b5.out.trans (below_grown a1 bl b5.out.size));clear bM a1;go_wp2;go_ret;exact⟨_,rfl,kQ,Nat.le_refl _,aN⟩
theorem aib{n:Int}{k:Nat}(h:k<fO n):(k:Int)<n/\k<8:=by unfold fO at h;omega
theorem aia{n:Int}{k:Nat}(h:k=fO n):n<=(k:Int)\/k=8:=by unfold fO at h;omega
theorem Km(w:ah)(x:Nat)(h:x<256):(convert 87 9 (.slice (some ⟨w.heap.size,0,none⟩) 1 1)).run prog (w.alloc (.cells #[.int .u8 x] 5))=.ok (.string (strOf [x])) (w.alloc (.cells #[.int .u8 x] 5)):=
 agX _ _ _ h ((Row.new w 5 [.int .u8 x]).cell 0) 1
theorem Yk(X d:Nat)(h:X<2^64):IntKind.u64.wrap ((X:Int)/(d:Int))=((X/d:Nat):Int):=by
 have:=div_le_self X d;rw[show(X:Int)/(d:Int)=((X/d:Nat):Int) by simp,Bf _ (by omega)]
theorem ahT(v:Nat)(n:Int)(w:ah)(aD:v<2^64) :
  Calls prog 29 #[.int .u64 v,.int .i64 n] w λe w'=>e=.returned (.string (strOf (am.bytesOf v (fO n))))/\av w w':=by
 obtain⟨m,hm⟩:∃m,m=fO n:=⟨_,rfl⟩;have UK:=KS n;rw[<-hm]at UK ⊢;have cj:=I hm;have gR:=I aD;obtain⟨all,hall⟩:∃s,s=strOf (am.bytesOf v m):=⟨_,rfl⟩;rw[<-hall];have mH:=I hall;clear hm aD hall;go_enter func29,ntmps29
 go_wp2;go_loopw [0,5,6] (λx s i wr=>∃k:Nat,k<=m/\x=.int .u64 ((v/256^k:Nat):Int)/\s=.string (strOf (am.bytesOf v k))/\i=.int .i64 k/\Hid (av w wr)) (λ_ _ i _=>m-(intOf i).toNat)
 case atStart=>exact⟨0,by omega,by simp,rfl,rfl,Below.refl _ _⟩
 case round=>
  obtain⟨k,hk,rfl,rfl,rfl,hbel⟩:=hrel;have hadd:=λb W=>ra (am.bytesOf v k) [b] (by rw[am.bytesOf_length];simp;omega) W
  have hstep:=Cs v k;have ck:v/256^k/256=v/256^(k+1):=by rw[jX,ea]
  have ib:=I ck;have kD:=I hstep;clear ck hstep;by_cases au:k<m
  .have af:=aib (n:=n) (k:=k) (by rw[<-cj.out];exact au);obtain⟨kG,Gv⟩:=af;have dS:=Km wr (v/256^k%256) (by omega);have CY:=hadd (v/256^k%256);rw[<-kD.out]at CY;clear hadd;have Ts:v/256^k<2^64:=Nat.lt_of_le_of_lt (div_le_self _ _) gR.out;have fm:=I (Yk (v/256^k) 256 Ts);clear Ts;generalize v/256^k=X at dS CY ib fm ⊢;rw[show((X%256:Nat):Int)=X%256 by simp]at dS;generalize strOf (am.bytesOf v k)=s0 at CY ⊢;generalize hM:strOf (am.bytesOf v (k+1))=s1 at CY;generalize strOf [X%256]=s2 at dS CY;have nQ:=I hM;clear hM;go_wp2;have hw:=fm.out;simp only[Int.cast_ofNat_Int]at hw;rw[hw];go_roundw
   case rel=>exact⟨k+1,by omega,by rw[<-ib.out],by rw[nQ.out],by go_num,hbel.out.alloc hbel.out.size _⟩
   case measure=>simp[intOf];omega
  .obtain rfl:k=m:=by omega
   clear hadd;generalize v/256^k=X;rw[<-mH.out];rcases aia cj.out with h|rfl
   .go_wp2;go_ret;exact⟨rfl,hbel⟩
   .by_cases awq:(8:Int)<n
    .go_wp2;go_ret;exact⟨rfl,hbel⟩
    .go_wp2;go_ret;exact⟨rfl,hbel⟩
theorem KL(v:Nat)(w:ah)(aD:v<2^64) :
  Calls prog 27 #[.int .u64 v] w λe w'=>e=.returned (.string (strOf (bg v)))/\av w w':=by
 have gR:=I aD;obtain⟨all,hall⟩:∃s,s=strOf (bg v):=⟨_,rfl⟩;rw[<-hall];have mH:=I hall;clear aD hall;go_enter func27,ntmps27
 go_wp2;go_loopw [0,3] (λx s wr=>∃(y:Nat) (acc:ae),x=.int .u64 y/\s=.string (strOf acc)/\Hid (y<2^64)/\Hid (acc++bg y=bg v)/\Hid (av w wr)) (λx _ _=>(intOf x).toNat)
 case atStart=>exact⟨v,[],rfl,rfl,gR,by simp[Hid],Below.refl _ _⟩
 case round=>
  obtain⟨y,acc,rfl,rfl,hy,hacc,hbel⟩:=hrel;have Gg:acc.length<=10:=by
   have h1:=congrArg List.length hacc.out;rw[aY]at h1;have af:=lP v gR.out;omega
  by_cases au:128<=y
  .have dS:=Km wr (y%128+128) (by omega);have hadd:=λW=>ra acc [y%128+128] (by simp;omega) W
   rw[show((y%128+128:Nat):Int)=y%128+128 by simp]at dS;have hnext:acc++[y%128+128]++bg (y/128)=bg v:=by
    rw[<-hacc.out,wq y au hy.out,df];rfl
   have vO:=I hnext;clear hnext hacc Gg;generalize strOf [y%128+128]=s2 at dS hadd;generalize hM:strOf (acc++[y%128+128])=s1 at hadd;generalize strOf acc=s0 at hadd ⊢;have nQ:=I hM;clear hM;go_wp2;have hw:=Yk y 128 hy.out;simp only[Int.cast_ofNat_Int]at hw;rw[hw];go_roundw
   case rel=>exact⟨y/128,acc++[y%128+128],rfl,by rw[nQ.out],by have:=hy.out;unfold Hid;omega,vO,hbel.out.alloc hbel.out.size _⟩
   case measure=>simp[intOf];omega
  .have ak4:y<=127:=by omega
   have hfin:acc++[y]=bg v:=by rw[<-hacc.out,tc y (by omega)]
   have dS:=Km wr y (by omega);have hadd:=λW=>ra acc [y] (by simp;omega) W
   rw[hfin,<-mH.out]at hadd;clear hfin hacc au Gg;generalize strOf [y]=s2 at dS hadd;generalize strOf acc=s0 at hadd ⊢;go_wp2;go_ret;exact⟨rfl,hbel.out.alloc hbel.out.size _⟩
theorem ah8(s:ae)(w:ah)(ap:s.length<=10000000) :
  Calls prog 28 #[.string (strOf s)] w λe w'=>e=.returned (.string (strOf (bg s.length++s)))/\av w w':=by
 have td:=lP s.length (by omega);have jb:=I (KL s.length w (by omega));have hadd:=λW=>ra (bg s.length) s (by omega) W
 have bB:=cy s;generalize strOf (bg s.length++s)=s1 at hadd ⊢;generalize strOf s=str at bB hadd ⊢;generalize strOf (bg s.length)=s2 at hadd jb;go_enter func28,ntmps28
 go_wp2_with fail
 refine jb.out.mono ?_;rintro e aw ⟨rfl,ak⟩;go_wp2;go_ret;exact⟨rfl,ak⟩
theorem Pk(l:ae)(k:Nat)(h:k<l.length):bd (l.drop k)=bd (l.drop (k+1))*256+l[k]:=by
 rw[drop_eq_getElem_cons h];simp only[bd];omega
theorem ah9(l:ae)(w:ah)(hl:l.length<=8)(au:∀x∈l,x<256) :
  Calls prog 26 #[.string (strOf l)] w λe w'=>e=.returned (.int .u64 (bd l))/\w=w':=by
 have bB:=cy l;have hidx:∀(i:Nat) (W:ah) (ay:i<l.length),(Instr.index 9 (.string (strOf l)) (.int .i64 i)).run prog W=.ok (.int .u8 ((l[i]:Nat):Int)) W:=λi W ay=>pE l i W ay (au _ (b8 ay))
 have ak:∀k,bd (l.drop k)<2^64:=λk=>by
  have h1:=o4 (l.drop k) (jh au k);have af:256^(l.drop k).length<=256^8:=dy (by omega) (by rw[cB];omega);have aq:(256:Nat)^8=2^64:=by decide
  omega
 have kC:=I hidx;have b5:=I ak;have ce:=I au;obtain⟨res,hres⟩:∃r,r=bd l:=⟨_,rfl⟩;rw[<-hres];have b4:=I hres;clear hidx ak au hres;generalize strOf l=s at bB kC ⊢;go_enter func26,ntmps26
 go_wp2;go_loop [3,4] (λv i=>∃k:Nat,k<=l.length/\i=.int .i64 ((k:Int)-1)/\v=.int .u64 (bd (l.drop k):Int)) (λ_ i=>(intOf i+1).toNat)
 case atStart=>exact⟨l.length,Nat.le_refl _,rfl,by simp[bd]⟩
 case round=>
  obtain⟨k,hk,rfl,rfl⟩:=hrel;rcases k with _|k
  .rw[drop_zero,<-b4.out];go_wp2;go_ret;exact⟨rfl,rfl⟩
  .have ai:=λW=>kC.out k W (by omega)
   have aD:=Pk l k (by omega);have aH:=b5.out k;have yp:=ce.out l[k] (b8 (by omega));rw[aD]at aH;have gR:=I aD;clear aD;rw[show((k+1:Nat):Int)-1=k by omega];generalize l[k]=x at ai aH yp gR;generalize bd (l.drop (k+1))=V at aH gR ⊢;have bW:V<=72057594037927935:=by omega
   go_wp2;go_round
   case rel=>exact⟨k,by omega,by go_num,by rw[gR.out];go_num⟩
   case measure=>simp[intOf]
theorem z7(l:ae)(w:ah)(hl:l.length<=100000000)(au:∀x∈l,x<256) :
  Calls prog 25 #[.string (strOf l)] w λe w'=>e=.returned (.tuple #[.int .u64 ((aX l).1:Int),.int .i64 ((aX l).2:Int)])/\av w w':=by
 have bB:=cy l;have hidx:∀(i:Nat) (W:ah) (ay:i<l.length),(Instr.index 9 (.string (strOf l)) (.int .i64 i)).run prog W=.ok (.int .u8 ((l[i]:Nat):Int)) W:=λi W ay=>pE l i W ay (au _ (b8 ay))
 have qi:=rb l;have hle:=Nh l;obtain⟨n,aA⟩:∃n,n=l.length:=⟨_,rfl⟩;obtain⟨f1,f2,hF⟩:∃f1 f2,aX l=(f1,f2):=⟨_,_,rfl⟩;rw[hF];rw[<-aA]at bB hl;have lF:=I hF;have b0:=I aA;have kC:=I hidx;have E9:=I qi;have ce:=I au;have pe:=I hle;clear aA hidx qi au hF hle;generalize strOf l=s at bB kC E9 ⊢;go_enter func25,ntmps25
 go_wp2;go_loop [4] (λi=>∃k:Nat,k<=n/\Hid (k<=am.lead l)/\i=.int .i64 k) (λi=>n-(intOf i).toNat)
 case atStart=>exact⟨0,by omega,zero_le _,rfl⟩
 case round=>
  obtain⟨k,kG,a8,rfl⟩:=hrel;by_cases au:k<n
  .have ek:k<l.length:=by rw[<-b0.out];exact au
   have ai:=λW=>kC.out k W ek
   have tm:=ce.out l[k] (b8 ek);have qZ:=λh=>W1 l k a8.out ek h
   have et:=λh=>WY l k a8.out ek h
   have s4:=I qZ;have rr:=I et;clear qZ et;generalize l[k]=c at ai tm s4 rr;clear ek;by_cases h128:128<=c
   .go_wp2;go_round
    case rel=>exact⟨k+1,by omega,s4.out h128,by go_num⟩
    case measure=>simp[intOf];omega
   .have hlead:am.lead l=k:=rr.out (by omega);have I4:=I hlead;clear hlead;have av9:((k:Int)==(n:Int))=false:=by simp;omega
    by_cases dh:9<k
    .have hres:f1=0/\f2=0:=by
      have h1:=lF.out;rw[KM l (.inr (by rw[I4.out];exact dh))]at h1;injection h1 with h1 af
      exact⟨h1.symm,af.symm⟩
     obtain⟨rfl,rfl⟩:=hres;go_wp2;go_ret2;exact⟨rfl,Below.refl _ _⟩
    .obtain⟨ur,wx⟩:∃V,V=eD (l.take (k+1)):=⟨_,rfl⟩;obtain⟨all,hall⟩:∃L,L=l.take (k+1):=⟨_,rfl⟩;have hlen:all.length=k+1:=by rw[hall,cr,<-b0.out];omega
     have hget:∀j (h:j<all.length) (af:j<l.length),all[j]=l[j]:=λj h af=>by
      have e:(l.take (k+1))[j]'(by rw[<-hall];exact h)=l[j]:=getElem_take;rw[<-e];congr 1
     have tZ:=I hget;have mH:=I hall;have Hlen:=I hlen;rw[<-hall]at wx;have PJ:=I wx;clear wx hall hlen hget;have yn:(k:Int)<=9:=by omega
     go_wp2;clear ai tm h128;go_loop [5,6] (λv i=>∃j V:Nat,j<=k+1/\i=.int .i64 ((j:Int)-1)/\v=.int .u64 V/\Hid (V=eD (all.drop j))/\Hid (V<2^64)) (λ_ i=>(intOf i+1).toNat)
     case atStart=>exact⟨k+1,0,Nat.le_refl _,by go_num,rfl,by unfold Hid;rw[drop_of_length_le (by rw[Hlen.out];exact Nat.le_refl _)];rfl,by unfold Hid;decide⟩
     case round=>
      obtain⟨j,V,ar,rfl,rfl,bW,nt⟩:=hrel;rcases j with _|j
      .have Ls:V=eD all:=by have:=bW.out;rwa [drop_zero]at this
       have aF:=λW=>KL V W nt.out
       have MG:=E9.out (k+1) (by rw[<-b0.out];omega);rw[<-mH.out,show((k+1:Nat):Int)=k+1 by omega]at MG;have wC:=lF.out;unfold aX at wC;rw[I4.out,<-mH.out,<-Ls,az (by rw[<-b0.out];omega)]at wC;by_cases pq:bg V=all
       .rw[aB ⟨nt.out,pq⟩]at wC;obtain⟨rfl,rfl⟩:V=f1/\k+1=f2:=by injection wC with h1 af;exact⟨h1,af⟩
        rw[pq]at aF;have jb:=I aF;clear wC aF Ls pq;generalize strOf all=YM at MG jb;go_wp2;have lw:IntKind.i64.wrap ((k:Int)+1)=(k:Int)+1:=IntWalk.i64_in _ (by omega);go_cut [48] (λOu eQ=>Ou=.bool false/\av w eQ)
        case first=>
         go_region_with (go_at_call 27;refine(jb.out _).mono ?_;rintro e aw ⟨rfl,ak⟩;have aN:=I ((Below.refl w.heap.size w).drew.trans ak);clear ak)
         all_goals (go_wp2_with fail;go_meet;exact⟨rfl,aN⟩)
        case rest=>
         obtain⟨rfl,ka⟩:=hcut;go_wp2;go_ret2;exact⟨by first|rfl|go_num,ka⟩
       .rw[az (λh=>pq h.2)]at wC;obtain⟨rfl,rfl⟩:0=f1/\0=f2:=by injection wC with h1 af;exact⟨h1,af⟩
        have aZ:=El (bg V) all (qb V nt.out) (by rw[mH.out];exact pN ce.out _);rw[bG pq]at aZ;have hne2:((strOf (bg V)).toList != (strOf all).toList)=true:=by rw[bne,aZ];rfl
        have jb:=I aF;clear wC aF Ls pq;generalize strOf all=YM at MG aZ hne2;generalize strOf (bg V)=w2 at aZ hne2 jb;go_wp2;have lw:IntKind.i64.wrap ((k:Int)+1)=(k:Int)+1:=IntWalk.i64_in _ (by omega);go_cut [48] (λOu eQ=>Ou=.bool true/\av w eQ)
        case first=>
         go_region_with (go_at_call 27;refine(jb.out _).mono ?_;rintro e aw ⟨rfl,ak⟩;have aN:=I ((Below.refl w.heap.size w).drew.trans ak);clear ak)
         all_goals (go_wp2_with fail;go_meet;exact⟨rfl,aN⟩)
        case rest=>
         obtain⟨rfl,ka⟩:=hcut;go_wp2;go_ret2;exact⟨rfl,ka⟩
      .have fk:j<l.length:=by have:=b0.out;omega
       have Uo:j<all.length:=by have:=Hlen.out;omega
       have ai:=λW=>kC.out j W fk
       have tm:=ce.out l[j] (b8 fk);have hstep:=atg all j Uo;rw[tZ.out j Uo fk,<-bW.out]at hstep;have kD:=I hstep;clear hstep;rw[show((j+1:Nat):Int)-1=j by omega];generalize l[j]=c at ai tm kD;clear fk;by_cases hbig:144115188075855871<V
       .have hres:f1=0/\f2=0:=by
         have h1:=lF.out;have af:=atf all (j+1) (by omega) (by rw[<-bW.out];exact hbig);unfold aX at h1;rw[I4.out,<-mH.out,az (by rw[<-b0.out];omega),az (λh=>af h.1)]at h1;injection h1 with h1 af
         exact⟨h1.symm,af.symm⟩
        obtain⟨rfl,rfl⟩:=hres;go_wp2;go_ret2;exact⟨rfl,Below.refl _ _⟩
       .go_wp2;go_round
        case rel=>exact⟨j,c%128+128*V,by omega,by go_num,by go_num,kD.out.symm,by unfold Hid;omega⟩
        case measure=>simp[intOf]
  .have hres:f1=0/\f2=0:=by
    have h1:=lF.out;have af:=a8.out;have aq:=pe.out;have aK:=b0.out;rw[KM l (.inl (by omega))]at h1;injection h1 with h1 af
    exact⟨h1.symm,af.symm⟩
   obtain⟨rfl,rfl⟩:=hres;obtain rfl:k=n:=by omega
   go_wp2;go_ret2;exact⟨rfl,Below.refl _ _⟩
end Go.Proofs.YtgiicohbigiapaaGreat
