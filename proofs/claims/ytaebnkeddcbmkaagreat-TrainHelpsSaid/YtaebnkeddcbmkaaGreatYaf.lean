/- Contracts, and what they rest on. Conditions: the theorems' premises. -/
import Derived.Test.YtaebnkeddcbmkaaGreatYad
import Derived.Test.YtaebnkeddcbmkaaGreatYac
import Derived.Laws.CopyOwn
import Derived.Deep.AppendSrc
import Derived.Lib.BufferWrite
set_option maxHeartbeats 4000000
set_option maxRecDepth 100000
open Go.Lib(hid)
open Go.Proofs.Tryz Go.Proofs.YtaebnkeddcbmkaaGreat.Bm
namespace Go.Proofs.YtaebnkeddcbmkaaGreat
open Go.RowKit
theorem lJ{P:Program}{ops:Array Oper}{o:Oper}{a:Act}{w:World}{K:Act->World->Prop}{Q:Exit->Act->World->Prop}{E:Prop}(hgd:o.guard=none)(d s:Operand)(dT sT:TypeId)
  (ho:o.op=.call {callee:=.builtin .copy,args:=#[d,s],argTypes:=#[dT,sT]}) (elem:TypeId) (hu:P.underlying dT=some (.slice elem)) (hsz:(P.info? elem).map (·.size)=some 1)
  (dp sp:Option Addr) (dLen dCap sLen sCap:Nat) (hd:a.eval d=.slice dp dLen dCap) (hs:a.eval s=.slice sp sLen sCap)
  (g off:Nat) (cur:List Value) (t:TypeId) (hg:Row w g t cur) (cs:List Value) (hn:cs.length=Nat.min sLen dLen)
  (hpos:0<cs.length->dp=some ⟨g,off,none⟩/\∃ad,sp=some ad/\∀j v,cs[j]?=some v->w.cell? (ad.add j)=some v)
  (hfit:off+cs.length<=cur.length) (h1:∀v∈cs,v.oneCell'=true)
  (h:∀w',Hid (Row w' g t (splice cur off cs))->Hid (w.grownBy w' (some g))->K (a.put o.dst (goInt cs.length)) w') :
  if Region.wanted o (yielded ops a.tmps)=true then Oper.wp P o a w K Q else E:=by
 have hw:Region.wanted o (yielded ops a.tmps)=true:=by simp[Region.wanted,hgd]
 rw[if_pos hw];by_cases h0:cs.length=0
 ·obtain rfl:cs=[]:=List.eq_nil_of_length_eq_zero h0;have hrun:=run_copy_none (P:=P) w dT sT o.type elem dp sp dLen dCap sLen sCap hu hsz (by simpa using hn.symm);unfold Oper.wp;simp[execOp,ho,resolve,invoke,builtin,hd,hs,hrun,Result.andThen];exact h w (hid (show Row _ _ _ _ by simpa [splice]using hg)) (hid (aj w _))
 ·obtain⟨rfl,ad,rfl,hsrc⟩:=hpos (by omega);have hrun:=run_copy_row (P:=P) w dT sT o.type elem g off dLen dCap ad sLen sCap cur.toArray t cs hu hsz hg hn hsrc (by simpa using hfit) h1;unfold Oper.wp;simp[execOp,ho,resolve,invoke,builtin,hd,hs,hrun,Result.andThen];refine h _ (hid (show _=_ by simpa [splice]using setRow_heap w g _ _ t _ hg)) (hid ⟨rfl,rfl,rfl,by simp[World.setRow],fun k hk hne=>setRow_other w g k _ (fun e=>hne (by rw[e]))⟩)
theorem EI:aii:=by
 intro w;go_enter func90,ntmps90
 go_wp2;exact bodyPost_ret (by simp[results,results90,go_sem]) rfl ⟨rfl,(((Below.refl _ _).alloc (Nat.le_refl _) _))⟩
def TR(a b c x:Int):Int:=if a=x then 0 else if b=x then 1 else if c=x then 2 else -1
theorem Oz(b0:Nat)(t:TypeId)(a b c x:Int)(w:World)(hrow:Row w b0 t [.int .i64 a,.int .i64 b,.int .i64 c]) :
  Calls prog 141 #[.slice (some ⟨b0,0,none⟩) 3 3,.int .i64 x] w fun e w'=>e=.returned (.int .i64 (TR a b c x))/\w=w':=by
 obtain⟨c0,c1,c2⟩:=gB hrow;obtain⟨r,hr⟩:∃r,r=TR a b c x:=⟨_,rfl⟩;have hr2:=hr;rw[<-hr];unfold TR at hr2;clear hr hrow;go_enter func141,ntmps141
 go_wp2;refine wp_loop_rounds 4 ?_;by_cases ha:a=x
 ·rw[if_pos ha]at hr2;have da:(x == a)=true:=by simp[ha]
  subst hr2;rw[rounds_succ];go_wp2;go_ret;exact⟨rfl,rfl⟩
 ·have da:(x == a)=false:=by simp;exact fun h=>ha h.symm
  rw[if_neg ha]at hr2;rw[rounds_succ];go_wp2;by_cases hb:b=x
  ·rw[if_pos hb]at hr2;have db:(x == b)=true:=by simp[hb]
   subst hr2;rw[rounds_succ];go_wp2;go_ret;exact⟨rfl,rfl⟩
  ·have db:(x == b)=false:=by simp;exact fun h=>hb h.symm
   rw[if_neg hb]at hr2;rw[rounds_succ];go_wp2;by_cases hc:c=x
   ·rw[if_pos hc]at hr2;have dc:(x == c)=true:=by simp[hc]
    subst hr2;rw[rounds_succ];go_wp2;go_ret;exact⟨rfl,rfl⟩
   ·have dc:(x == c)=false:=by simp;exact fun h=>hc h.symm
    rw[if_neg hc]at hr2;subst hr2;rw[rounds_succ];go_wp2;rw[rounds_succ];go_wp2;go_ret;exact⟨rfl,rfl⟩
def zA(a b c x:Int)(k:Nat):Int×Int×Int:=if k=0 then(x,b,c)else if k=1 then(x,a,c)else(x,a,b)
theorem Oy(a b c x:Int)(w:World):Calls prog 142 #[.agg #[.int .i64 a,.int .i64 b,.int .i64 c],.int .i64 x,.int .i64 2] w fun e w'=>e=.returned (.agg #[.int .i64 x,.int .i64 a,.int .i64 b])/\Below w.heap.size w w':=by
 obtain⟨b0,hb0⟩:∃b0,b0=w.heap.size:=⟨_,rfl⟩;obtain⟨b1,hb1⟩:∃b1,b1=w.heap.size+1:=⟨_,rfl⟩;have Hb0:=hid hb0;have Hb1:=hid hb1;clear hb0 hb1;go_enter func142,ntmps142
 go_wp2;rw[<-Hb1.out,<-Hb0.out];have dS:Row ((w.alloc (.cells #[.int .i64 a,.int .i64 b,.int .i64 c] 157)).alloc (.cells #[.int .i64 0,.int .i64 0,.int .i64 0] 157)) b0 157 [.int .i64 a,.int .i64 b,.int .i64 c]:=by rw[Hb0.out];exact(Row.new w _ _).alloc _
 have bW:Row ((w.alloc (.cells #[.int .i64 a,.int .i64 b,.int .i64 c] 157)).alloc (.cells #[.int .i64 0,.int .i64 0,.int .i64 0] 157)) b1 157 [.int .i64 0,.int .i64 0,.int .i64 0]:=by
  have h:=Row.new (w.alloc (.cells #[.int .i64 a,.int .i64 b,.int .i64 c] 157)) 157 [.int .i64 0,.int .i64 0,.int .i64 0];rw[Hb1.out];simpa using h
 have hbel:=((Below.refl w.heap.size w).alloc (Nat.le_refl _) (.cells #[.int .i64 a,.int .i64 b,.int .i64 c] 157)).alloc (by simp) (.cells #[.int .i64 0,.int .i64 0,.int .i64 0] 157);have jZ:=hid dS;have gJ:=hid bW;have jB:=hid hbel;have Hne:=hid (show b0≠b1 by rw[Hb0.out,Hb1.out];omega);obtain⟨c0,c1,c2⟩:=gB dS;have C0:=hid c0;have C1:=hid c1;have C2:=hid c2;clear dS bW hbel c0 c1 c2;have e3:IntKind.i64.wrap 3=3:=IntWalk.i64_in _ (by omega);generalize (w.alloc (.cells #[.int .i64 a,.int .i64 b,.int .i64 c] 157)).alloc (.cells #[.int .i64 0,.int .i64 0,.int .i64 0] 157)=wA at *;go_region_law (refine lJ rfl (.tmp 9) (.tmp 11) 115 115 rfl 3 underlying115 (by kernel_rfl) (some ⟨b0,1,none⟩) (some ⟨b0,0,none⟩) 2 2 2 3 rfl rfl b0 1 [.int .i64 a,.int .i64 b,.int .i64 c] 157 jZ.out [.int .i64 a,.int .i64 b] rfl (fun _=>⟨rfl,_,rfl,fun j v hj=>(by match j,hj with | 0,hj=>exact hj▸C0.out | 1,hj=>exact hj▸C1.out)⟩) (by simp) (by intro v hv;simp only[List.mem_cons,List.not_mem_nil,or_false]at hv;rcases hv with rfl | rfl<;>rfl) ?_;intro w4 hg4 hb4)
 have xk:Row w4 b0 157 [.int .i64 a,.int .i64 a,.int .i64 b]:=hg4.out;have kF:Row w4 b1 157 [.int .i64 0,.int .i64 0,.int .i64 0]:=gJ.out.keep (hb4.out.block b1 gJ.out.lt (fun e=>Hne.out (by injection e with e;exact e.symm)));have HbD:=hid (show Below w.heap.size w w4 from jB.out.drew.grown hb4.out jB.out.size (fun k e=>by injection e with e;rw[<-e,Hb0.out];exact Nat.le_refl _));obtain⟨c0,c1,c2⟩:=gB xk;obtain⟨c3,c4,c5⟩:=gB kF;have f0:=xk.free 0;have f3:=kF.free 0;have f4:=kF.free 1;have f5:=kF.free 2;have hne:=Hne.out;have hne':b1≠b0:=fun e=>hne e.symm
 have Hlt:=hid (show w.heap.size<=b0/\w.heap.size<=b1 by rw[Hb0.out,Hb1.out];omega);have hr1:Row (w4.setCell ⟨b0,0,none⟩ (.int .i64 x)) b1 157 [.int .i64 0,.int .i64 0,.int .i64 0]:=kF.far hne' _;have s0:=(hr1.aT 0 (.int .i64 x)).cell 0;have s1:=((hr1.aT 0 (.int .i64 x)).aT 1 (.int .i64 a)).cell 1;have s2:=(((hr1.aT 0 (.int .i64 x)).aT 1 (.int .i64 a)).aT 2 (.int .i64 b)).cell 2;simp only[List.set_cons_zero,List.set_cons_succ,List.getElem?_cons_zero,List.getElem?_cons_succ]at s0 s1 s2;have S0:=hid s0;have S1:=hid s1;have S2:=hid s2;clear hr1 s0 s1 s2;clear xk kF hg4 hb4 e3 Hb0 Hb1 jZ gJ jB C0 C1 C2;clear Hne;go_wp2;have s0:=S0.out;have s1:=S1.out;have s2:=S2.out;exact bodyPost_ret (by simp[results,results142,go_sem,s0,s1,s2]) rfl ⟨rfl,(((HbD.out.setCell Hlt.out.1 _).setCell Hlt.out.2 _).setCell Hlt.out.2 _).setCell Hlt.out.2 _⟩
theorem Ox(a b c x:Int)(w:World):Calls prog 142 #[.agg #[.int .i64 a,.int .i64 b,.int .i64 c],.int .i64 x,.int .i64 1] w fun e w'=>e=.returned (.agg #[.int .i64 x,.int .i64 a,.int .i64 c])/\Below w.heap.size w w':=by
 obtain⟨b0,hb0⟩:∃b0,b0=w.heap.size:=⟨_,rfl⟩;obtain⟨b1,hb1⟩:∃b1,b1=w.heap.size+1:=⟨_,rfl⟩;have Hb0:=hid hb0;have Hb1:=hid hb1;clear hb0 hb1;go_enter func142,ntmps142
 go_wp2;rw[<-Hb1.out,<-Hb0.out];have dS:Row ((w.alloc (.cells #[.int .i64 a,.int .i64 b,.int .i64 c] 157)).alloc (.cells #[.int .i64 0,.int .i64 0,.int .i64 0] 157)) b0 157 [.int .i64 a,.int .i64 b,.int .i64 c]:=by rw[Hb0.out];exact(Row.new w _ _).alloc _
 have bW:Row ((w.alloc (.cells #[.int .i64 a,.int .i64 b,.int .i64 c] 157)).alloc (.cells #[.int .i64 0,.int .i64 0,.int .i64 0] 157)) b1 157 [.int .i64 0,.int .i64 0,.int .i64 0]:=by
  have h:=Row.new (w.alloc (.cells #[.int .i64 a,.int .i64 b,.int .i64 c] 157)) 157 [.int .i64 0,.int .i64 0,.int .i64 0];rw[Hb1.out];simpa using h
 have hbel:=((Below.refl w.heap.size w).alloc (Nat.le_refl _) (.cells #[.int .i64 a,.int .i64 b,.int .i64 c] 157)).alloc (by simp) (.cells #[.int .i64 0,.int .i64 0,.int .i64 0] 157);have jZ:=hid dS;have gJ:=hid bW;have jB:=hid hbel;have Hne:=hid (show b0≠b1 by rw[Hb0.out,Hb1.out];omega);obtain⟨c0,c1,c2⟩:=gB dS;have C0:=hid c0;have C1:=hid c1;have C2:=hid c2;clear dS bW hbel c0 c1 c2;have e3:IntKind.i64.wrap 2=2:=IntWalk.i64_in _ (by omega);generalize (w.alloc (.cells #[.int .i64 a,.int .i64 b,.int .i64 c] 157)).alloc (.cells #[.int .i64 0,.int .i64 0,.int .i64 0] 157)=wA at *;go_region_law (refine lJ rfl (.tmp 9) (.tmp 11) 115 115 rfl 3 underlying115 (by kernel_rfl) (some ⟨b0,1,none⟩) (some ⟨b0,0,none⟩) 1 2 1 3 rfl rfl b0 1 [.int .i64 a,.int .i64 b,.int .i64 c] 157 jZ.out [.int .i64 a] rfl (fun _=>⟨rfl,_,rfl,fun j v hj=>(by match j,hj with | 0,hj=>exact hj▸C0.out)⟩) (by simp) (by intro v hv;simp only[List.mem_cons,List.not_mem_nil,or_false]at hv;subst hv;rfl) ?_;intro w4 hg4 hb4)
 have xk:Row w4 b0 157 [.int .i64 a,.int .i64 a,.int .i64 c]:=hg4.out;have kF:Row w4 b1 157 [.int .i64 0,.int .i64 0,.int .i64 0]:=gJ.out.keep (hb4.out.block b1 gJ.out.lt (fun e=>Hne.out (by injection e with e;exact e.symm)));have HbD:=hid (show Below w.heap.size w w4 from jB.out.drew.grown hb4.out jB.out.size (fun k e=>by injection e with e;rw[<-e,Hb0.out];exact Nat.le_refl _));obtain⟨c0,c1,c2⟩:=gB xk;obtain⟨c3,c4,c5⟩:=gB kF;have f0:=xk.free 0;have f3:=kF.free 0;have f4:=kF.free 1;have f5:=kF.free 2;have hne:=Hne.out;have hne':b1≠b0:=fun e=>hne e.symm
 have Hlt:=hid (show w.heap.size<=b0/\w.heap.size<=b1 by rw[Hb0.out,Hb1.out];omega);have hr1:Row (w4.setCell ⟨b0,0,none⟩ (.int .i64 x)) b1 157 [.int .i64 0,.int .i64 0,.int .i64 0]:=kF.far hne' _;have s0:=(hr1.aT 0 (.int .i64 x)).cell 0;have s1:=((hr1.aT 0 (.int .i64 x)).aT 1 (.int .i64 a)).cell 1;have s2:=(((hr1.aT 0 (.int .i64 x)).aT 1 (.int .i64 a)).aT 2 (.int .i64 c)).cell 2;simp only[List.set_cons_zero,List.set_cons_succ,List.getElem?_cons_zero,List.getElem?_cons_succ]at s0 s1 s2;have S0:=hid s0;have S1:=hid s1;have S2:=hid s2;clear hr1 s0 s1 s2;clear xk kF hg4 hb4 e3 Hb0 Hb1 jZ gJ jB C0 C1 C2;clear Hne;go_wp2;have s0:=S0.out;have s1:=S1.out;have s2:=S2.out;exact bodyPost_ret (by simp[results,results142,go_sem,s0,s1,s2]) rfl ⟨rfl,(((HbD.out.setCell Hlt.out.1 _).setCell Hlt.out.2 _).setCell Hlt.out.2 _).setCell Hlt.out.2 _⟩
theorem IB(a b c x:Int)(w:World):Calls prog 142 #[.agg #[.int .i64 a,.int .i64 b,.int .i64 c],.int .i64 x,.int .i64 0] w fun e w'=>e=.returned (.agg #[.int .i64 x,.int .i64 b,.int .i64 c])/\Below w.heap.size w w':=by
 obtain⟨b0,hb0⟩:∃b0,b0=w.heap.size:=⟨_,rfl⟩;obtain⟨b1,hb1⟩:∃b1,b1=w.heap.size+1:=⟨_,rfl⟩;have Hb0:=hid hb0;have Hb1:=hid hb1;clear hb0 hb1;go_enter func142,ntmps142
 go_wp2;rw[<-Hb1.out,<-Hb0.out];have dS:Row ((w.alloc (.cells #[.int .i64 a,.int .i64 b,.int .i64 c] 157)).alloc (.cells #[.int .i64 0,.int .i64 0,.int .i64 0] 157)) b0 157 [.int .i64 a,.int .i64 b,.int .i64 c]:=by rw[Hb0.out];exact(Row.new w _ _).alloc _
 have bW:Row ((w.alloc (.cells #[.int .i64 a,.int .i64 b,.int .i64 c] 157)).alloc (.cells #[.int .i64 0,.int .i64 0,.int .i64 0] 157)) b1 157 [.int .i64 0,.int .i64 0,.int .i64 0]:=by
  have h:=Row.new (w.alloc (.cells #[.int .i64 a,.int .i64 b,.int .i64 c] 157)) 157 [.int .i64 0,.int .i64 0,.int .i64 0];rw[Hb1.out];simpa using h
 have hbel:=((Below.refl w.heap.size w).alloc (Nat.le_refl _) (.cells #[.int .i64 a,.int .i64 b,.int .i64 c] 157)).alloc (by simp) (.cells #[.int .i64 0,.int .i64 0,.int .i64 0] 157);have jZ:=hid dS;have gJ:=hid bW;have jB:=hid hbel;have Hne:=hid (show b0≠b1 by rw[Hb0.out,Hb1.out];omega);obtain⟨c0,c1,c2⟩:=gB dS;have C0:=hid c0;have C1:=hid c1;have C2:=hid c2;clear dS bW hbel c0 c1 c2;have e3:IntKind.i64.wrap 1=1:=IntWalk.i64_in _ (by omega);generalize (w.alloc (.cells #[.int .i64 a,.int .i64 b,.int .i64 c] 157)).alloc (.cells #[.int .i64 0,.int .i64 0,.int .i64 0] 157)=wA at *;go_region_law (refine lJ rfl (.tmp 9) (.tmp 11) 115 115 rfl 3 underlying115 (by kernel_rfl) (some ⟨b0,1,none⟩) (some ⟨b0,0,none⟩) 0 2 0 3 rfl rfl b0 1 [.int .i64 a,.int .i64 b,.int .i64 c] 157 jZ.out [] rfl (fun h=>absurd h (by simp)) (by simp) (by intro v hv;cases hv) ?_;intro w4 hg4 hb4)
 have xk:Row w4 b0 157 [.int .i64 a,.int .i64 b,.int .i64 c]:=hg4.out;have kF:Row w4 b1 157 [.int .i64 0,.int .i64 0,.int .i64 0]:=gJ.out.keep (hb4.out.block b1 gJ.out.lt (fun e=>Hne.out (by injection e with e;exact e.symm)));have HbD:=hid (show Below w.heap.size w w4 from jB.out.drew.grown hb4.out jB.out.size (fun k e=>by injection e with e;rw[<-e,Hb0.out];exact Nat.le_refl _));obtain⟨c0,c1,c2⟩:=gB xk;obtain⟨c3,c4,c5⟩:=gB kF;have f0:=xk.free 0;have f3:=kF.free 0;have f4:=kF.free 1;have f5:=kF.free 2;have hne:=Hne.out;have hne':b1≠b0:=fun e=>hne e.symm
 have Hlt:=hid (show w.heap.size<=b0/\w.heap.size<=b1 by rw[Hb0.out,Hb1.out];omega);have hr1:Row (w4.setCell ⟨b0,0,none⟩ (.int .i64 x)) b1 157 [.int .i64 0,.int .i64 0,.int .i64 0]:=kF.far hne' _;have s0:=(hr1.aT 0 (.int .i64 x)).cell 0;have s1:=((hr1.aT 0 (.int .i64 x)).aT 1 (.int .i64 b)).cell 1;have s2:=(((hr1.aT 0 (.int .i64 x)).aT 1 (.int .i64 b)).aT 2 (.int .i64 c)).cell 2;simp only[List.set_cons_zero,List.set_cons_succ,List.getElem?_cons_zero,List.getElem?_cons_succ]at s0 s1 s2;have S0:=hid s0;have S1:=hid s1;have S2:=hid s2;clear hr1 s0 s1 s2;clear xk kF hg4 hb4 e3 Hb0 Hb1 jZ gJ jB C0 C1 C2;clear Hne;go_wp2;have s0:=S0.out;have s1:=S1.out;have s2:=S2.out;exact bodyPost_ret (by simp[results,results142,go_sem,s0,s1,s2]) rfl ⟨rfl,(((HbD.out.setCell Hlt.out.1 _).setCell Hlt.out.2 _).setCell Hlt.out.2 _).setCell Hlt.out.2 _⟩
theorem Ow(a b c x:Int)(k:Nat)(hk:k<=2)(w:World):Calls prog 142 #[.agg #[.int .i64 a,.int .i64 b,.int .i64 c],.int .i64 x,.int .i64 (k:Int)] w fun e w'=>e=.returned (.agg #[.int .i64 (zA a b c x k).1,.int .i64 (zA a b c x k).2.1,.int .i64 (zA a b c x k).2.2])/\Below w.heap.size w w':=by
 match k,hk with
 | 0,_=>exact IB a b c x w
 | 1,_=>exact Ox a b c x w
 | 2,_=>exact Oy a b c x w
theorem afF(a b c x:Int)(h1:1<=x)(h2:x<=65533):oH a b c x=(if TR a b c x<0 then x+2 else TR a b c x)/\0<=oH a b c x/\(TR a b c x=-1\/∃k:Nat,TR a b c x=(k:Int)/\k<=2)/\oV a b c x=zA a b c x (if TR a b c x<0 then 2 else(TR a b c x).toNat):=by
 unfold oH TR oV zA;rw[if_neg (by omega)];by_cases ha:a=x
 ·simp[ha];exact⟨0,rfl,by omega⟩
 ·by_cases hb:b=x
  ·simp[ha,hb];exact⟨1,rfl,by omega⟩
  ·by_cases hc:c=x
   ·simp[ha,hb,hc];exact⟨2,rfl,by omega⟩
   ·simp[ha,hb,hc];omega
theorem afi(w:World)(a b c x:Int)(h:x<1\/65533<x):Calls prog 114 #[.agg #[.int .i64 a,.int .i64 b,.int .i64 c],.int .i64 x] w fun e w'=>e=.returned (.tuple #[.int .i64 0,.agg #[.int .i64 a,.int .i64 b,.int .i64 c],.bool false])/\Below w.heap.size w w':=by
 obtain⟨b0,hb0⟩:∃b0,b0=w.heap.size:=⟨_,rfl⟩;obtain⟨b1,hb1⟩:∃b1,b1=w.heap.size+1:=⟨_,rfl⟩;have hcase:decide (x<1)=true\/(decide (x<1)=false/\decide (65533<x)=true):=by
  by_cases h0:x<1
  ·exact .inl (decide_eq_true h0)
  ·exact .inr ⟨decide_eq_false h0,decide_eq_true (by omega)⟩
 have Hb0:=hid hb0;have Hb1:=hid hb1;clear hb0 hb1 h;rcases hcase with d0 | ⟨d0,d1⟩
 all_goals
  go_enter func114,ntmps114
  go_wp2;rw[<-Hb1.out,<-Hb0.out];have dS:Row ((w.alloc (.cells #[.int .i64 a,.int .i64 b,.int .i64 c] 157)).alloc (.cells #[.int .i64 0,.int .i64 0,.int .i64 0] 157)) b0 157 [.int .i64 a,.int .i64 b,.int .i64 c]:=by rw[Hb0.out];exact(Row.new w _ _).alloc _
  have bW:Row ((w.alloc (.cells #[.int .i64 a,.int .i64 b,.int .i64 c] 157)).alloc (.cells #[.int .i64 0,.int .i64 0,.int .i64 0] 157)) b1 157 [.int .i64 0,.int .i64 0,.int .i64 0]:=by
   have h:=Row.new (w.alloc (.cells #[.int .i64 a,.int .i64 b,.int .i64 c] 157)) 157 [.int .i64 0,.int .i64 0,.int .i64 0];rw[Hb1.out];simpa using h
  have hbel:=((Below.refl w.heap.size w).alloc (Nat.le_refl _) (.cells #[.int .i64 a,.int .i64 b,.int .i64 c] 157)).alloc (by simp) (.cells #[.int .i64 0,.int .i64 0,.int .i64 0] 157);have jB:=hid hbel;generalize (w.alloc (.cells #[.int .i64 a,.int .i64 b,.int .i64 c] 157)).alloc (.cells #[.int .i64 0,.int .i64 0,.int .i64 0] 157)=wA at *;have hne:b0≠b1:=by rw[Hb0.out,Hb1.out];omega
  have hne':b1≠b0:=fun e=>hne e.symm
  obtain⟨c0,c1,c2⟩:=gB dS;obtain⟨c3,c4,c5⟩:=gB bW;have f3:=bW.free 0;have f4:=bW.free 1;have f5:=bW.free 2;have s0:=(bW.aT 0 (.int .i64 a)).cell 0;have s1:=((bW.aT 0 (.int .i64 a)).aT 1 (.int .i64 b)).cell 1;have s2:=(((bW.aT 0 (.int .i64 a)).aT 1 (.int .i64 b)).aT 2 (.int .i64 c)).cell 2;simp only[List.set_cons_zero,List.set_cons_succ,List.getElem?_cons_zero,List.getElem?_cons_succ]at s0 s1 s2;have S0:=hid s0;have S1:=hid s1;have S2:=hid s2;have Hlt:=hid (show w.heap.size<=b1 by rw[Hb1.out];omega);clear dS bW hbel s0 s1 s2 Hb0 Hb1 d0
  try clear d1
  go_region
  go_wp2;have s0:=S0.out;have s1:=S1.out;have s2:=S2.out;refine bodyPost_ret (by simp[results,results114,go_sem,s0,s1,s2]) rfl ⟨rfl,?_⟩;exact(((jB.out.setCell Hlt.out _).setCell Hlt.out _).setCell Hlt.out _).drew
theorem Ud(w:World)(a b c x r n K:Int)(k:Nat)(p q y:Int)(h1:1<=x)(h2:x<=65533)(hr:TR a b c x=r)(hk:k<=2)(hq:zA a b c x k=(p,q,y))(hK:(k:Int)=K)(hcase:(r=-1/\n=x+2/\K=2)\/(r=K/\n=K)):Calls prog 114 #[.agg #[.int .i64 a,.int .i64 b,.int .i64 c],.int .i64 x] w fun e w'=>e=.returned (.tuple #[.int .i64 n,.agg #[.int .i64 p,.int .i64 q,.int .i64 y],.bool true])/\Below w.heap.size w w':=by
 obtain⟨b0,hb0⟩:∃b0,b0=w.heap.size:=⟨_,rfl⟩;obtain⟨b1,hb1⟩:∃b1,b1=w.heap.size+1:=⟨_,rfl⟩;have HA:=hid (fun W=>Ow a b c x k hk W);rw[hq,hK]at HA;have hK0:0<=K:=by omega
 have HI:=hid (fun W (h:Row W b0 157 [.int .i64 a,.int .i64 b,.int .i64 c])=>Oz b0 157 a b c x W h);rw[hr]at HI;have d0:decide (x<1)=false:=decide_eq_false (by omega);have d1:decide (65533<x)=false:=decide_eq_false (by omega);have Hb0:=hid hb0;have Hb1:=hid hb1;clear hb0 hb1 hr hq hK;rcases hcase with⟨rfl,rfl,rfl⟩ | ⟨rfl,rfl⟩
 all_goals
  go_enter func114,ntmps114
  go_wp2_with fail
  rw[<-Hb1.out,<-Hb0.out];have dS:Row ((w.alloc (.cells #[.int .i64 a,.int .i64 b,.int .i64 c] 157)).alloc (.cells #[.int .i64 0,.int .i64 0,.int .i64 0] 157)) b0 157 [.int .i64 a,.int .i64 b,.int .i64 c]:=by rw[Hb0.out];exact(Row.new w _ _).alloc _
  have bW:Row ((w.alloc (.cells #[.int .i64 a,.int .i64 b,.int .i64 c] 157)).alloc (.cells #[.int .i64 0,.int .i64 0,.int .i64 0] 157)) b1 157 [.int .i64 0,.int .i64 0,.int .i64 0]:=by
   have h:=Row.new (w.alloc (.cells #[.int .i64 a,.int .i64 b,.int .i64 c] 157)) 157 [.int .i64 0,.int .i64 0,.int .i64 0];rw[Hb1.out];simpa using h
  have hbel:=((Below.refl w.heap.size w).alloc (Nat.le_refl _) (.cells #[.int .i64 a,.int .i64 b,.int .i64 c] 157)).alloc (by simp) (.cells #[.int .i64 0,.int .i64 0,.int .i64 0] 157);have jB:=hid hbel;generalize (w.alloc (.cells #[.int .i64 a,.int .i64 b,.int .i64 c] 157)).alloc (.cells #[.int .i64 0,.int .i64 0,.int .i64 0] 157)=wA at *;refine(HI.out wA dS).mono ?_;rintro e w' ⟨rfl,rfl⟩;obtain⟨c0,c1,c2⟩:=gB dS;have gJ:=hid bW;have Hlt:=hid (show w.heap.size<=b1 by rw[Hb1.out];omega);clear dS bW hbel Hb0 Hb1 HI d0 d1;go_wp2_with fail
  refine(HA.out wA).mono ?_;rintro e w2 ⟨rfl,hb2⟩;have hrow2:=gJ.out.below hb2;have QT:=hid (jB.out.trans (hb2.mono jB.out.size));clear hb2 gJ jB c0 c1 c2 HA;obtain⟨c3,c4,c5⟩:=gB hrow2;have f3:=hrow2.free 0;have f4:=hrow2.free 1;have f5:=hrow2.free 2;have s0:=(hrow2.aT 0 (.int .i64 p)).cell 0;have s1:=((hrow2.aT 0 (.int .i64 p)).aT 1 (.int .i64 q)).cell 1;have s2:=(((hrow2.aT 0 (.int .i64 p)).aT 1 (.int .i64 q)).aT 2 (.int .i64 y)).cell 2;simp only[List.set_cons_zero,List.set_cons_succ,List.getElem?_cons_zero,List.getElem?_cons_succ]at s0 s1 s2;have S0:=hid s0;have S1:=hid s1;have S2:=hid s2;clear hrow2 s0 s1 s2;go_wp2;have s0:=S0.out;have s1:=S1.out;have s2:=S2.out;refine bodyPost_ret (by simp[results,results114,go_sem,s0,s1,s2]) rfl ⟨rfl,?_⟩;exact((QT.out.setCell Hlt.out _).setCell Hlt.out _).setCell Hlt.out _
theorem II:apF:=by
 intro w a b c x ha hb hc hx;by_cases h:x<1\/65533<x
 ·have hn:oH a b c x=-1:=by unfold oH;rw[if_pos h]
  refine(afi w a b c x h).mono fun e w' ⟨he,hw⟩=>⟨fun h0=>?_,fun _=>he,hw⟩
  omega
 ·obtain⟨e1,e2,e3,e4⟩:=afF a b c x (by omega) (by omega);obtain⟨p,hp⟩:∃p,p=oV a b c x:=⟨_,rfl⟩;have key:Calls prog 114 #[.agg #[.int .i64 a,.int .i64 b,.int .i64 c],.int .i64 x] w fun e w'=>e=.returned (.tuple #[.int .i64 (oH a b c x),.agg #[.int .i64 p.1,.int .i64 p.2.1,.int .i64 p.2.2],.bool true])/\Below w.heap.size w w':=by
   rw[<-hp]at e4;rcases e3 with e3 | ⟨k,e3,hk⟩
   ·rw[e3,if_pos (by omega)]at e1 e4;exact Ud w a b c x (-1) _ 2 2 p.1 p.2.1 p.2.2 (by omega) (by omega) e3 (by omega) e4.symm rfl (.inl ⟨rfl,e1,rfl⟩)
   ·rw[e3,if_neg (by omega)]at e1 e4;rw[Int.toNat_natCast]at e4;exact Ud w a b c x k _ k k p.1 p.2.1 p.2.2 (by omega) (by omega) e3 hk e4.symm rfl (.inr ⟨rfl,e1⟩)
  rw[<-hp];exact key.mono fun e w' ⟨he,hw⟩=>⟨fun _=>he,fun h0=>by omega,hw⟩
theorem ZM(w:World)(a b c n:Int)(h:n<0):Calls prog 169 #[.agg #[.int .i64 a,.int .i64 b,.int .i64 c],.int .i64 n] w fun e w'=>e=.returned (.tuple #[.int .i64 0,.agg #[.int .i64 a,.int .i64 b,.int .i64 c],.bool false])/\Below w.heap.size w w':=by
 obtain⟨b0,hb0⟩:∃b0,b0=w.heap.size:=⟨_,rfl⟩;obtain⟨b1,hb1⟩:∃b1,b1=w.heap.size+1:=⟨_,rfl⟩;have d0:decide (n<0)=true:=decide_eq_true h;have Hb0:=hid hb0;have Hb1:=hid hb1;clear hb0 hb1 h;go_enter func169,ntmps169
 go_wp2;rw[<-Hb1.out,<-Hb0.out];have dS:Row ((w.alloc (.cells #[.int .i64 a,.int .i64 b,.int .i64 c] 157)).alloc (.cells #[.int .i64 0,.int .i64 0,.int .i64 0] 157)) b0 157 [.int .i64 a,.int .i64 b,.int .i64 c]:=by rw[Hb0.out];exact(Row.new w _ _).alloc _
 have bW:Row ((w.alloc (.cells #[.int .i64 a,.int .i64 b,.int .i64 c] 157)).alloc (.cells #[.int .i64 0,.int .i64 0,.int .i64 0] 157)) b1 157 [.int .i64 0,.int .i64 0,.int .i64 0]:=by
  have h:=Row.new (w.alloc (.cells #[.int .i64 a,.int .i64 b,.int .i64 c] 157)) 157 [.int .i64 0,.int .i64 0,.int .i64 0];rw[Hb1.out];simpa using h
 have hbel:=((Below.refl w.heap.size w).alloc (Nat.le_refl _) (.cells #[.int .i64 a,.int .i64 b,.int .i64 c] 157)).alloc (by simp) (.cells #[.int .i64 0,.int .i64 0,.int .i64 0] 157);have jB:=hid hbel;generalize (w.alloc (.cells #[.int .i64 a,.int .i64 b,.int .i64 c] 157)).alloc (.cells #[.int .i64 0,.int .i64 0,.int .i64 0] 157)=wA at *;have hne:b0≠b1:=by rw[Hb0.out,Hb1.out];omega
 have hne':b1≠b0:=fun e=>hne e.symm
 obtain⟨c0,c1,c2⟩:=gB dS;obtain⟨c3,c4,c5⟩:=gB bW;have f3:=bW.free 0;have f4:=bW.free 1;have f5:=bW.free 2;have s0:=(bW.aT 0 (.int .i64 a)).cell 0;have s1:=((bW.aT 0 (.int .i64 a)).aT 1 (.int .i64 b)).cell 1;have s2:=(((bW.aT 0 (.int .i64 a)).aT 1 (.int .i64 b)).aT 2 (.int .i64 c)).cell 2;simp only[List.set_cons_zero,List.set_cons_succ,List.getElem?_cons_zero,List.getElem?_cons_succ]at s0 s1 s2;have S0:=hid s0;have S1:=hid s1;have S2:=hid s2;have Hlt:=hid (show w.heap.size<=b1 by rw[Hb1.out];omega);clear dS bW hbel s0 s1 s2 Hb0 Hb1 d0;go_region
 go_wp2;have s0:=S0.out;have s1:=S1.out;have s2:=S2.out;refine bodyPost_ret (by simp[results,results169,go_sem,s0,s1,s2]) rfl ⟨rfl,?_⟩;exact(((jB.out.setCell Hlt.out _).setCell Hlt.out _).setCell Hlt.out _).drew
theorem Cu(a b c n:Int)(h:0<=n):(n=0/\yZ a b c n=a)\/(n=1/\yZ a b c n=b)\/(n=2/\yZ a b c n=c)\/(2<n/\yZ a b c n=n-2):=by
 unfold yZ;by_cases h3:2<n
 ·rw[if_pos h3];exact .inr (.inr (.inr ⟨h3,rfl⟩))
 ·rw[if_neg h3];have:n=0\/n=1\/n=2:=by omega
  rcases this with rfl | rfl | rfl
  ·exact .inl ⟨rfl,by simp⟩
  ·exact .inr (.inl ⟨rfl,by simp⟩)
  ·exact .inr (.inr (.inl ⟨rfl,by simp⟩))
theorem ZN(w:World)(a b c n x:Int)(m p q y:Int)(hm:m=n)(hn:0<=n)(hn2:n<=9223372036854775807)(hx:yZ a b c n=x)
  (HN:∀W,Calls prog 114 #[.agg #[.int .i64 a,.int .i64 b,.int .i64 c],.int .i64 x] W fun e w'=>e=.returned (.tuple #[.int .i64 m,.agg #[.int .i64 p,.int .i64 q,.int .i64 y],.bool true])/\Below W.heap.size W w') :
  Calls prog 169 #[.agg #[.int .i64 a,.int .i64 b,.int .i64 c],.int .i64 n] w fun e w'=>e=.returned (.tuple #[.int .i64 x,.agg #[.int .i64 p,.int .i64 q,.int .i64 y],.bool true])/\Below w.heap.size w w':=by
 obtain⟨b0,hb0⟩:∃b0,b0=w.heap.size:=⟨_,rfl⟩;obtain⟨b1,hb1⟩:∃b1,b1=w.heap.size+1:=⟨_,rfl⟩;have Hb0:=hid hb0;have Hb1:=hid hb1;have hN:=hid HN;have Em:=hid (show(m != n)=false by simp[hm]);clear hm;have uN:=Cu a b c n hn;rw[hx]at uN;clear hb0 hb1 HN hx;rcases uN with⟨rfl,hx⟩ | ⟨rfl,hx⟩ | ⟨rfl,hx⟩ | ⟨h2,hx⟩
 all_goals
  replace hx:=hx.symm
  subst hx
 case' inr.inr.inr=>
  have d0:decide (n<0)=false:=decide_eq_false (by omega);have d3:decide (n<3)=false:=decide_eq_false (by omega)
 all_goals
  go_enter func169,ntmps169
  go_wp2_with fail
  rw[<-Hb1.out,<-Hb0.out];have dS:Row ((w.alloc (.cells #[.int .i64 a,.int .i64 b,.int .i64 c] 157)).alloc (.cells #[.int .i64 0,.int .i64 0,.int .i64 0] 157)) b0 157 [.int .i64 a,.int .i64 b,.int .i64 c]:=by rw[Hb0.out];exact(Row.new w _ _).alloc _
  have bW:Row ((w.alloc (.cells #[.int .i64 a,.int .i64 b,.int .i64 c] 157)).alloc (.cells #[.int .i64 0,.int .i64 0,.int .i64 0] 157)) b1 157 [.int .i64 0,.int .i64 0,.int .i64 0]:=by
   have h:=Row.new (w.alloc (.cells #[.int .i64 a,.int .i64 b,.int .i64 c] 157)) 157 [.int .i64 0,.int .i64 0,.int .i64 0];rw[Hb1.out];simpa using h
  have hbel:=((Below.refl w.heap.size w).alloc (Nat.le_refl _) (.cells #[.int .i64 a,.int .i64 b,.int .i64 c] 157)).alloc (by simp) (.cells #[.int .i64 0,.int .i64 0,.int .i64 0] 157);have jB:=hid hbel;generalize (w.alloc (.cells #[.int .i64 a,.int .i64 b,.int .i64 c] 157)).alloc (.cells #[.int .i64 0,.int .i64 0,.int .i64 0] 157)=wA at *;have Hne:=hid (show b0≠b1 by rw[Hb0.out,Hb1.out];omega);have Hlt:=hid (show w.heap.size<=b1 by rw[Hb1.out];omega);have jZ:=hid dS;have gJ:=hid bW;obtain⟨c0,c1,c2⟩:=gB dS;clear dS bW hbel Hb0 Hb1;refine(hN.out wA).mono ?_;rintro e w2 ⟨rfl,hb2⟩;have hrA:=jZ.out.below hb2;have hrB:=gJ.out.below hb2;have HbE:=hid (jB.out.trans (hb2.mono jB.out.size));clear hb2 jZ gJ jB c0 c1 c2 hN;obtain⟨b2,hb2⟩:∃b2,b2=w2.heap.size:=⟨_,rfl⟩;have Hb2:=hid hb2;clear hb2;have e1:=Em.out;go_wp2;rw[<-Hb2.out];have aeY:Row (w2.alloc (.cells #[.int .i64 p,.int .i64 q,.int .i64 y] 157)) b0 157 _:=hrA.alloc _;have uO:Row (w2.alloc (.cells #[.int .i64 p,.int .i64 q,.int .i64 y] 157)) b1 157 _:=hrB.alloc _;have ahl:Row (w2.alloc (.cells #[.int .i64 p,.int .i64 q,.int .i64 y] 157)) b2 157 [.int .i64 p,.int .i64 q,.int .i64 y]:=by rw[Hb2.out];exact Row.new w2 _ _
  have ajf:b2≠b1:=fun e=>by have:=hrB.lt;rw[Hb2.out]at e;omega
  have aoa:b1≠b2:=fun e=>ajf e.symm
  have hne:=Hne.out;have hne':b1≠b0:=fun e=>hne e.symm
  have HbF:=hid (HbE.out.alloc HbE.out.size (.cells #[.int .i64 p,.int .i64 q,.int .i64 y] 157));generalize (w2.alloc (.cells #[.int .i64 p,.int .i64 q,.int .i64 y] 157))=wB at *;obtain⟨c0,c1,c2⟩:=gB ahl;obtain⟨c3,c4,c5⟩:=gB uO;have f3:=uO.free 0;have f4:=uO.free 1;have f5:=uO.free 2;have s0:=(uO.aT 0 (.int .i64 p)).cell 0;have s1:=((uO.aT 0 (.int .i64 p)).aT 1 (.int .i64 q)).cell 1;have s2:=(((uO.aT 0 (.int .i64 p)).aT 1 (.int .i64 q)).aT 2 (.int .i64 y)).cell 2;simp only[List.set_cons_zero,List.set_cons_succ,List.getElem?_cons_zero,List.getElem?_cons_succ]at s0 s1 s2;have S0:=hid s0;have S1:=hid s1;have S2:=hid s2;clear hrA hrB aeY uO ahl s0 s1 s2 HbE Hb2 Hne;go_region
  go_wp2;have s0:=S0.out;have s1:=S1.out;have s2:=S2.out;refine bodyPost_ret (by simp[results,results169,go_sem,s0,s1,s2]) rfl ⟨rfl,?_⟩;exact(((HbF.out.setCell Hlt.out _).setCell Hlt.out _).setCell Hlt.out _).drew
theorem ZL(w:World)(a b c n x:Int)(m p q y:Int)(hn:0<=n)(hn2:n<=9223372036854775807)(hx:yZ a b c n=x)
  (HN:∀W,Calls prog 114 #[.agg #[.int .i64 a,.int .i64 b,.int .i64 c],.int .i64 x] W fun e w'=>e=.returned (.tuple #[.int .i64 m,.agg #[.int .i64 p,.int .i64 q,.int .i64 y],.bool false])/\Below W.heap.size W w') :
  Calls prog 169 #[.agg #[.int .i64 a,.int .i64 b,.int .i64 c],.int .i64 n] w fun e w'=>e=.returned (.tuple #[.int .i64 0,.agg #[.int .i64 a,.int .i64 b,.int .i64 c],.bool false])/\Below w.heap.size w w':=by
 obtain⟨b0,hb0⟩:∃b0,b0=w.heap.size:=⟨_,rfl⟩;obtain⟨b1,hb1⟩:∃b1,b1=w.heap.size+1:=⟨_,rfl⟩;have Hb0:=hid hb0;have Hb1:=hid hb1;have hN:=hid HN;have uN:=Cu a b c n hn;rw[hx]at uN;clear hb0 hb1 HN hx;rcases uN with⟨rfl,hx⟩ | ⟨rfl,hx⟩ | ⟨rfl,hx⟩ | ⟨h2,hx⟩
 all_goals
  replace hx:=hx.symm
  subst hx
 case' inr.inr.inr=>
  have d0:decide (n<0)=false:=decide_eq_false (by omega);have d3:decide (n<3)=false:=decide_eq_false (by omega)
 all_goals
  go_enter func169,ntmps169
  go_wp2_with fail
  rw[<-Hb1.out,<-Hb0.out];have dS:Row ((w.alloc (.cells #[.int .i64 a,.int .i64 b,.int .i64 c] 157)).alloc (.cells #[.int .i64 0,.int .i64 0,.int .i64 0] 157)) b0 157 [.int .i64 a,.int .i64 b,.int .i64 c]:=by rw[Hb0.out];exact(Row.new w _ _).alloc _
  have bW:Row ((w.alloc (.cells #[.int .i64 a,.int .i64 b,.int .i64 c] 157)).alloc (.cells #[.int .i64 0,.int .i64 0,.int .i64 0] 157)) b1 157 [.int .i64 0,.int .i64 0,.int .i64 0]:=by
   have h:=Row.new (w.alloc (.cells #[.int .i64 a,.int .i64 b,.int .i64 c] 157)) 157 [.int .i64 0,.int .i64 0,.int .i64 0];rw[Hb1.out];simpa using h
  have hbel:=((Below.refl w.heap.size w).alloc (Nat.le_refl _) (.cells #[.int .i64 a,.int .i64 b,.int .i64 c] 157)).alloc (by simp) (.cells #[.int .i64 0,.int .i64 0,.int .i64 0] 157);have jB:=hid hbel;generalize (w.alloc (.cells #[.int .i64 a,.int .i64 b,.int .i64 c] 157)).alloc (.cells #[.int .i64 0,.int .i64 0,.int .i64 0] 157)=wA at *;have Hne:=hid (show b0≠b1 by rw[Hb0.out,Hb1.out];omega);have Hlt:=hid (show w.heap.size<=b1 by rw[Hb1.out];omega);have jZ:=hid dS;have gJ:=hid bW;obtain⟨c0,c1,c2⟩:=gB dS;clear dS bW hbel Hb0 Hb1;refine(hN.out wA).mono ?_;rintro e w2 ⟨rfl,hb2⟩;have hrA:=jZ.out.below hb2;have hrB:=gJ.out.below hb2;have HbE:=hid (jB.out.trans (hb2.mono jB.out.size));clear hb2 jZ gJ jB c0 c1 c2 hN;obtain⟨b2,hb2⟩:∃b2,b2=w2.heap.size:=⟨_,rfl⟩;have Hb2:=hid hb2;clear hb2;go_wp2;rw[<-Hb2.out];have aeY:Row (w2.alloc (.cells #[.int .i64 p,.int .i64 q,.int .i64 y] 157)) b0 157 _:=hrA.alloc _;have uO:Row (w2.alloc (.cells #[.int .i64 p,.int .i64 q,.int .i64 y] 157)) b1 157 _:=hrB.alloc _;have ahl:Row (w2.alloc (.cells #[.int .i64 p,.int .i64 q,.int .i64 y] 157)) b2 157 [.int .i64 p,.int .i64 q,.int .i64 y]:=by rw[Hb2.out];exact Row.new w2 _ _
  have ajf:b2≠b1:=fun e=>by have:=hrB.lt;rw[Hb2.out]at e;omega
  have aoa:b1≠b2:=fun e=>ajf e.symm
  have hne:=Hne.out;have hne':b1≠b0:=fun e=>hne e.symm
  have HbF:=hid (HbE.out.alloc HbE.out.size (.cells #[.int .i64 p,.int .i64 q,.int .i64 y] 157));generalize (w2.alloc (.cells #[.int .i64 p,.int .i64 q,.int .i64 y] 157))=wB at *;obtain⟨c0,c1,c2⟩:=gB aeY;obtain⟨c3,c4,c5⟩:=gB uO;have f3:=uO.free 0;have f4:=uO.free 1;have f5:=uO.free 2;have s0:=(uO.aT 0 (.int .i64 a)).cell 0;have s1:=((uO.aT 0 (.int .i64 a)).aT 1 (.int .i64 b)).cell 1;have s2:=(((uO.aT 0 (.int .i64 a)).aT 1 (.int .i64 b)).aT 2 (.int .i64 c)).cell 2;simp only[List.set_cons_zero,List.set_cons_succ,List.getElem?_cons_zero,List.getElem?_cons_succ]at s0 s1 s2;have S0:=hid s0;have S1:=hid s1;have S2:=hid s2;clear hrA hrB aeY uO ahl s0 s1 s2 HbE Hb2 Hne;go_region
  go_wp2;have s0:=S0.out;have s1:=S1.out;have s2:=S2.out;refine bodyPost_ret (by simp[results,results169,go_sem,s0,s1,s2]) rfl ⟨rfl,?_⟩;exact(((HbF.out.setCell Hlt.out _).setCell Hlt.out _).setCell Hlt.out _).drew
theorem OA(w:World)(a b c n x:Int)(m p q y:Int)(hm:m≠n)(hn:0<=n)(hn2:n<=9223372036854775807)(hx:yZ a b c n=x)
  (HN:∀W,Calls prog 114 #[.agg #[.int .i64 a,.int .i64 b,.int .i64 c],.int .i64 x] W fun e w'=>e=.returned (.tuple #[.int .i64 m,.agg #[.int .i64 p,.int .i64 q,.int .i64 y],.bool true])/\Below W.heap.size W w') :
  Calls prog 169 #[.agg #[.int .i64 a,.int .i64 b,.int .i64 c],.int .i64 n] w fun e w'=>e=.returned (.tuple #[.int .i64 0,.agg #[.int .i64 a,.int .i64 b,.int .i64 c],.bool false])/\Below w.heap.size w w':=by
 obtain⟨b0,hb0⟩:∃b0,b0=w.heap.size:=⟨_,rfl⟩;obtain⟨b1,hb1⟩:∃b1,b1=w.heap.size+1:=⟨_,rfl⟩;have Hb0:=hid hb0;have Hb1:=hid hb1;have hN:=hid HN;have Em:=hid (show(m != n)=true by simp[hm]);clear hm;have uN:=Cu a b c n hn;rw[hx]at uN;clear hb0 hb1 HN hx;rcases uN with⟨rfl,hx⟩ | ⟨rfl,hx⟩ | ⟨rfl,hx⟩ | ⟨h2,hx⟩
 all_goals
  replace hx:=hx.symm
  subst hx
 case' inr.inr.inr=>
  have d0:decide (n<0)=false:=decide_eq_false (by omega);have d3:decide (n<3)=false:=decide_eq_false (by omega)
 all_goals
  go_enter func169,ntmps169
  go_wp2_with fail
  rw[<-Hb1.out,<-Hb0.out];have dS:Row ((w.alloc (.cells #[.int .i64 a,.int .i64 b,.int .i64 c] 157)).alloc (.cells #[.int .i64 0,.int .i64 0,.int .i64 0] 157)) b0 157 [.int .i64 a,.int .i64 b,.int .i64 c]:=by rw[Hb0.out];exact(Row.new w _ _).alloc _
  have bW:Row ((w.alloc (.cells #[.int .i64 a,.int .i64 b,.int .i64 c] 157)).alloc (.cells #[.int .i64 0,.int .i64 0,.int .i64 0] 157)) b1 157 [.int .i64 0,.int .i64 0,.int .i64 0]:=by
   have h:=Row.new (w.alloc (.cells #[.int .i64 a,.int .i64 b,.int .i64 c] 157)) 157 [.int .i64 0,.int .i64 0,.int .i64 0];rw[Hb1.out];simpa using h
  have hbel:=((Below.refl w.heap.size w).alloc (Nat.le_refl _) (.cells #[.int .i64 a,.int .i64 b,.int .i64 c] 157)).alloc (by simp) (.cells #[.int .i64 0,.int .i64 0,.int .i64 0] 157);have jB:=hid hbel;generalize (w.alloc (.cells #[.int .i64 a,.int .i64 b,.int .i64 c] 157)).alloc (.cells #[.int .i64 0,.int .i64 0,.int .i64 0] 157)=wA at *;have Hne:=hid (show b0≠b1 by rw[Hb0.out,Hb1.out];omega);have Hlt:=hid (show w.heap.size<=b1 by rw[Hb1.out];omega);have jZ:=hid dS;have gJ:=hid bW;obtain⟨c0,c1,c2⟩:=gB dS;clear dS bW hbel Hb0 Hb1;refine(hN.out wA).mono ?_;rintro e w2 ⟨rfl,hb2⟩;have hrA:=jZ.out.below hb2;have hrB:=gJ.out.below hb2;have HbE:=hid (jB.out.trans (hb2.mono jB.out.size));clear hb2 jZ gJ jB c0 c1 c2 hN;obtain⟨b2,hb2⟩:∃b2,b2=w2.heap.size:=⟨_,rfl⟩;have Hb2:=hid hb2;clear hb2;have e1:=Em.out;go_wp2;rw[<-Hb2.out];have aeY:Row (w2.alloc (.cells #[.int .i64 p,.int .i64 q,.int .i64 y] 157)) b0 157 _:=hrA.alloc _;have uO:Row (w2.alloc (.cells #[.int .i64 p,.int .i64 q,.int .i64 y] 157)) b1 157 _:=hrB.alloc _;have ahl:Row (w2.alloc (.cells #[.int .i64 p,.int .i64 q,.int .i64 y] 157)) b2 157 [.int .i64 p,.int .i64 q,.int .i64 y]:=by rw[Hb2.out];exact Row.new w2 _ _
  have ajf:b2≠b1:=fun e=>by have:=hrB.lt;rw[Hb2.out]at e;omega
  have aoa:b1≠b2:=fun e=>ajf e.symm
  have hne:=Hne.out;have hne':b1≠b0:=fun e=>hne e.symm
  have HbF:=hid (HbE.out.alloc HbE.out.size (.cells #[.int .i64 p,.int .i64 q,.int .i64 y] 157));generalize (w2.alloc (.cells #[.int .i64 p,.int .i64 q,.int .i64 y] 157))=wB at *;obtain⟨c0,c1,c2⟩:=gB aeY;obtain⟨c3,c4,c5⟩:=gB uO;have f3:=uO.free 0;have f4:=uO.free 1;have f5:=uO.free 2;have s0:=(uO.aT 0 (.int .i64 a)).cell 0;have s1:=((uO.aT 0 (.int .i64 a)).aT 1 (.int .i64 b)).cell 1;have s2:=(((uO.aT 0 (.int .i64 a)).aT 1 (.int .i64 b)).aT 2 (.int .i64 c)).cell 2;simp only[List.set_cons_zero,List.set_cons_succ,List.getElem?_cons_zero,List.getElem?_cons_succ]at s0 s1 s2;have S0:=hid s0;have S1:=hid s1;have S2:=hid s2;clear hrA hrB aeY uO ahl s0 s1 s2 HbE Hb2 Hne;go_region
  go_wp2;have s0:=S0.out;have s1:=S1.out;have s2:=S2.out;refine bodyPost_ret (by simp[results,results169,go_sem,s0,s1,s2]) rfl ⟨rfl,?_⟩;exact(((HbF.out.setCell Hlt.out _).setCell Hlt.out _).setCell Hlt.out _).drew
theorem Ue:apG:=by
 intro w a b c n ha hb hc hn;by_cases h0:n<0
 ·have e:yY a b c n=none:=by unfold yY;rw[if_pos (.inl h0)]
  refine(ZM w a b c n h0).mono fun e' w' ⟨he,hw⟩=>⟨fun x hx=>?_,fun _=>he,hw⟩
  rw[e]at hx;cases hx
 ·obtain⟨x,hx⟩:∃x,yZ a b c n=x:=⟨_,rfl⟩;have aqu:mO x:=by
   rcases Cu a b c n (by omega)with⟨_,h⟩ | ⟨_,h⟩ | ⟨_,h⟩ | ⟨h2,h⟩<;>rw[<-hx,h]
   ·exact ha
   ·exact hb
   ·exact hc
   ·unfold mO at *;omega
  unfold mO at hn;have HN:=fun W=>II W a b c x ha hb hc aqu
  have hcs:=Ai a b c x;by_cases hin:0<=oH a b c x
  ·have HY:=fun W=>(HN W).mono fun e w' h=>And.intro (h.1 hin) h.2.2
   by_cases hm:oH a b c x=n
   ·have e:yY a b c n=some x:=by unfold yY;rw[if_neg (by omega),hx,if_pos hm]
    refine(ZN w a b c n x _ _ _ _ hm (by omega) (by omega) hx HY).mono fun e' w' ⟨he,hw⟩=>⟨fun z hz=>?_,fun hz=>?_,hw⟩
    ·rw[e]at hz;injection hz with hz
     rw[<-hz];exact he
    ·rw[e]at hz;cases hz
   ·have e:yY a b c n=none:=by
     unfold yY;split
     ·rfl
     ·rw[hx,if_neg hm]
    refine(OA w a b c n x _ _ _ _ hm (by omega) (by omega) hx HY).mono fun e' w' ⟨he,hw⟩=>⟨fun z hz=>?_,fun _=>he,hw⟩
    rw[e]at hz;cases hz
  ·have HY:=fun W=>(HN W).mono fun e w' h=>And.intro (h.2.1 (by omega)) h.2.2
   have e:yY a b c n=none:=by
    unfold yY;split
    ·rfl
    ·rw[hx,if_neg (by omega)]
   refine(ZL w a b c n x _ _ _ _ (by omega) (by omega) hx HY).mono fun e' w' ⟨he,hw⟩=>⟨fun z hz=>?_,fun _=>he,hw⟩
   rw[e]at hz;cases hz
section
variable {P:Program} (w:World)
theorem tV(base:Nat)(t x ty e:TypeId)(i:TypeInfo)(z:Value)(ht:P.underlying t=some (.slice e))(hx:P.underlying x=some .string)(hi:P.info? e=some i)(hz:i.zero=some z)
  (hsize:i.size=1) (hzs:z.cells.size=1) (s:ByteArray) (m:Nat) (hm:s.size=m) (v:Value) (n:Nat) (xs:List Value) (hown:w.ownsRow base e 1 v n xs)
  (h63:n+m<=maxLen) (hbytes:(n+m)*i.bytes<=140737488355328) (hbase:base<=w.heap.size) :
  ∃v' w',(Builtin.append_ #[t,x] ty #[v,.string s]).run P w=.ok v' w'/\w'.ownsRow base e 1 v' (n+m) (xs++byteCells s)/\w.grownBy w' v.ownBlock:=by
 have hsrc:Src P i.size x (.string s) m (byteCells s) w:=by rw[hsize,<-hm];exact Src.ofString w hx s
 have hsrc1:Src P 1 x (.string s) m (byteCells s) w:=by rw[<-hm];exact Src.ofString w hx s
 have hl:(byteCells s).length=m:=by rw[byteCells_length,hm]
 have hsmall:n+m<=9223372036854775807:=by simp only[maxLen]at h63;omega
 have h63':¬(9223372036854775807<((n:Int)+(m:Int))):=by omega
 have hlen:(xs++byteCells s).length=n+m:=by rw[List.length_append,hown.1,hl,Nat.mul_one]
 have grown:∀(old:Nat),old<n+m->∀(row:Option Nat),
   (w.drew.alloc (.cells ((xs++byteCells s).toArray++Builtin.zeroCells z.cells (grownCap w (n+m) old e-(n+m))) e)).ownsRow base e 1
    (.slice (some ⟨w.heap.size,0,none⟩) (n+m) (grownCap w (n+m) old e)) (n+m) (xs++byteCells s) /\
   w.grownBy (w.drew.alloc (.cells ((xs++byteCells s).toArray++Builtin.zeroCells z.cells (grownCap w (n+m) old e-(n+m))) e)) row:=by
  intro old ho row;have hge:=grownCap_ge w (n+m) old e;have hcm:grownCap w (n+m) old e<=maxLen:=grownCap_le_maxLen w (n+m) old e h63;refine⟨⟨by rw[hlen,Nat.mul_one],.inr ⟨w.heap.size,_,_,rfl,hbase,heap_alloc_new w.drew _,hge,hcm,?_,?_⟩⟩,⟨rfl,rfl,rfl,by simp,fun _ hk _=>Go.heap_alloc_old w.drew _ hk⟩⟩
  ·simp only[Array.size_append,List.size_toArray,size_zeroCells,hzs,hlen];omega
  ·simp only[Array.toList_append];rw[Nat.mul_one,<-hlen];exact List.take_left
 rcases hown.2 with⟨rfl,rfl⟩ | ⟨g,cap,cur,rfl,hbg,hg,hnc,hcm,hcs,htake⟩
 ·have hx0:xs=[]:=List.eq_nil_of_length_eq_zero (by simpa using hown.1);subst hx0;by_cases hm0:m=0
  ·subst hm0;have hn0:byteCells s=[]:=List.eq_nil_of_length_eq_zero hl;rw[hn0];refine⟨.slice none 0 0,w,?_,World.ownsRow_nil w base e 1,⟨rfl,rfl,rfl,Nat.le_refl _,fun _ _ _=>rfl⟩⟩;have hle:∀w':World,(Builtin.lenOf (.string s)).run P w'=.ok 0 w':=hsrc1.len;simp[Builtin.append_,run_underlying ht,run_underlying hx,sizeOf,typeInfo,hi,hle,hsrc.cells]
  ·have hgr:=grown 0 (by omega) (Value.ownBlock (.slice none 0 0));have hfit:Builtin.nextslicecap (0+m) 0*i.bytes<=281474976710656:=by rw[nextslicecap_zero (by omega)];omega
   refine⟨_,_,run_append_grow_src (P:=P) w t x ty e i z ht hi hz none 0 0 [] (run_firstCells_none w.drew i.size 0 0 0) (.string s) m (byteCells s) hsrc (by omega) (by omega) hfit,hgr.1,hgr.2⟩
 ·by_cases hroom:n+m<=cap
  ·have hst:=run_storeCells_at P g (n*1) e (byteCells s) 0 cur w hg (by simp only[hl,hcs];omega) hsrc1.one;simp only[Nat.add_zero,Nat.mul_one]at hst;have hr:(Builtin.append_ #[t,x] ty #[.slice (some ⟨g,0,none⟩) n cap,.string s]).run P w=.ok (.slice (some ⟨g,0,none⟩) (n+m) cap) (w.setRow g (cur.toList.take n++byteCells s++cur.toList.drop (n+(byteCells s).length)).toArray):=by
    simp[Builtin.append_,run_underlying ht,run_underlying hx,sizeOf,typeInfo,hi,hsize,hsrc1.len,hroom,hsrc1.cells,Addr.add_lit,hst]
   refine⟨_,_,hr,⟨by rw[hlen,Nat.mul_one],.inr ⟨g,cap,_,rfl,hbg,setRow_heap w g cur _ e _ hg,hroom,hcm,?_,?_⟩⟩,⟨rfl,rfl,rfl,by simp,fun k _ hk=>setRow_other w g k _ (fun e=>hk (by simp[Value.ownBlock,e]))⟩⟩
   ·simp only[List.size_toArray,List.length_append,List.length_take,List.length_drop,Array.length_toList];omega
   ·rw[Nat.mul_one]at htake;rw[htake,Nat.mul_one,<-hlen];exact List.take_left
  ·have holds:∀j u,xs[j]?=some u->w.cell? ((⟨g,0,none⟩:Addr).add j)=some u:=hown.cells (g:=g) rfl;have hgr:=grown cap (by omega) (Value.ownBlock (.slice (some ⟨g,0,none⟩) n cap));have hfit:Builtin.nextslicecap (n+m) cap*i.bytes<=281474976710656:=growslice_fits (bytes:=i.bytes) (need:=n+m) (old:=cap) (by omega) hbytes;have hfo:=run_firstCells_some (P:=P) w.drew i.size n ⟨g,0,none⟩ n cap xs (by rw[hown.1,hsize]) (by simpa using holds);exact⟨_,_,run_append_grow_src (P:=P) w t x ty e i z ht hi hz (some ⟨g,0,none⟩) n cap xs hfo (.string s) m (byteCells s) hsrc (by omega) (by omega) hfit,hgr.1,hgr.2⟩
end
theorem wI(l:List Nat)(h:∀x∈l,x<256):byteCells (strOf l)=u8s l:=by
 unfold byteCells strOf u8s;simp only[List.map_map];apply List.map_congr_left
 intro x hx;show Value.int .u8 ((UInt8.ofNat x).toNat:Int)=_;rw[UInt8.toNat_ofNat_of_lt' (h x hx)]
theorem Xj(l m:List Nat):u8s l++u8s m=u8s (l++m):=by simp[u8s]
theorem gY{ops:Array Oper}{rest:List Oper}{o:Oper}{a:Act}{w:World}{Q:Exit->Act->World->Prop}(hgd:o.guard=none)(s x:Operand)
  (ho:o.op=.call {callee:=.builtin .append,args:=#[s,x],argTypes:=#[60,9]}) (base:Nat) (i0:TypeInfo) (hi:prog.info? 5=some i0) (hz0:i0.zero=some (.int .u8 0)) (hz1:i0.size=1) (hz2:i0.bytes=1)
  (v:Value) (n m:Nat) (l S:List Nat) (hS:S.length=m) (hlt:∀x∈S,x<256) (hs:a.eval s=v) (hx:a.eval x=.string (strOf S)) (hown:w.ownsRow base 5 1 v n (u8s l)) (hn:n<=10000000000) (hm:m<=10000000000) (hb:base<=w.heap.size)
  (h:∀v' w',w'.ownsRow base 5 1 v' (n+m) (u8s (l++S))->w.grownBy w' v.ownBlock->wpList prog ops Q rest (a.put o.dst v') w'):wpList prog ops Q (o :: rest) a w:=
 wpList_plain hgd fun _ hK=>by
  obtain⟨v',w',hr,h2,h3⟩:=tV (P:=prog) w base 60 9 o.type 5 i0 (.int .u8 0) underlying60 underlying9 hi hz0 hz1 rfl (strOf S) m (by rw[aA,hS]) v n (u8s l) hown (by unfold maxLen;omega) (by rw[hz2];omega) hb;rw[wI S hlt,Xj]at h2;unfold Oper.wp execOp;simp only[ho,resolve,invoke,builtin,Sem.run_bind,Sem.run_pure,Result.andThen_ok,List.map_toArray,List.map_cons,List.map_nil,hs,hx,hr];exact hK _ _ (h v' w' h2 h3)
theorem afK(x:Nat):bits .or .u8 ((x:Int)%256) 128=((x%128+128:Nat):Int):=by
 have e:(x:Int)%256=((x%256:Nat):Int):=by simp
 rw[e,show(128:Int)=((128:Nat):Int)from rfl,u8_or_nat _ _ (by omega) (by omega)];congr 1
 have h:∀y,y<256->y ||| 128=y%128+128:=by decide +kernel
 rw[h _ (by omega)];omega
theorem LY{w:World}{base n b:Nat}{u:Value}{l:List Nat}(h:w.ownsRow base 5 1 u (n+1) (u8s l++[.int .u8 (b:Int)])):w.ownsRow base 5 1 u (n+1) (u8s (l++[b])):=by
 have e:u8s (l++[b])=u8s l++[.int .u8 (b:Int)]:=by simp[u8s]
 rw[e];exact h
theorem Qq(po:Option Addr)(v:Nat)(R:World->World->Prop)(w:World)(hv:v<2^64)
  (hraw:∀w',Below w.heap.size w w'->Calls prog 33 #[.pointer po,.string (strOf (grp v))] w' fun e w''=>e=.returned (.pointer po)/\R w' w'') :
  Calls prog 32 #[.pointer po,.int .u64 (v:Int)] w fun e w'=>e=.returned (.pointer po)/\∃w1,Below w.heap.size w w1/\R w1 w':=by
 obtain⟨i0,hi,hz0,hz1,hz2⟩:=info_parts jh;have fT:=hid hraw;have Hv:=hid hv;clear hraw hv;go_enter func32,ntmps32
 go_wp2_with (at_make;refine wpList_make_own _ rfl _ _ 60 rfl w.heap.size 5 i0 (.int .u8 0) 1 underlying60 hi hz0 hz1 .i64 .i64 _ 10 rfl rfl ?c1 ?c2 ?c3 ?c4 ?_)
 case c1=>rfl
 case c2=>rw[hz2];omega
 case c3=>unfold maxLen;omega
 case c4=>exact Nat.le_refl _
 intro w1 hown1 hg1;have Hb1:=hid (aJ hg1);have Yd:=hid hown1;clear hown1 hg1;go_wp2;go_loopw [1,5] (fun x u wr=>∃(y:Nat) (acc:List Nat),x=.int .u64 (y:Int)/\Hid (y<2^64)/\Hid (acc++grp y=grp v)/\Hid (wr.ownsRow w.heap.size 5 1 u acc.length (u8s acc))/\Hid (Below w.heap.size w wr)) (fun x _ _=>(intOf x).toNat)
 case atStart=>exact⟨v,[],rfl,by have:=Hv.out;omega,by simp[Hid],Yd.out,Hb1.out⟩
 case round=>
  obtain⟨y,acc,rfl,hy,hacc,hown,hbel⟩:=hrel;have aiH:acc.length<=10:=by
   have h1:=congrArg List.length hacc.out;rw[List.length_append]at h1;have h2:=eZ v Hv.out;omega
  by_cases hlt:128<=y
  ·go_wp2_with (at_builtin;refine wpList_append_own _ rfl _ _ 60 rfl w.heap.size 5 i0 (.int .u8 0) 1 1 underlying60 hi hz0 hz1 hz2 rfl (by decide) _ _ _ rfl (hown.out.alloc _) ⟨wr.heap.size,0,none⟩ 1 1 [.int .u8 (bits .or .u8 ((y:Int)%256) 128)] rfl rfl ?d1 ?d2 ?d3 ?d4 ?d5 ?_)
   case d1=>
    intro j u hj;match j,hj with
    | 0,hj=>simp at hj;subst hj;simp[Addr.add]
   case d2=>intro u hu;simp at hu;subst hu;rfl
   case d3=>unfold maxLen;omega
   case d4=>omega
   case d5=>have:=hbel.out.size;simp;omega
   intro u' w2 hown' hgrow _;rw[afK]at hown';have hb':Below w.heap.size w w2:=(hbel.out.alloc hbel.out.size _).grown hgrow (by have:=hbel.out.size;simp;omega) (fun q hq=>(hown.out.lt q hq).1);have qg:=hid (LY hown');have Hb:=hid hb';clear hown' hb' hgrow hown hbel;go_wp2;go_roundw
   case rel=>
    refine⟨y/128,acc++[y%128+128],by go_num,by have:=hy.out;unfold Hid;omega,?_,?_,Hb⟩
    ·unfold Hid;rw[<-hacc.out,pz y hlt hy.out,List.append_assoc];rfl
    ·rw[List.length_append];exact qg
   case measure=>simp[intOf];omega
  ·have hyB:y<=127:=by omega
   have hfin:acc++[y]=grp v:=by rw[<-hacc.out,fU y (by omega)]
   have iy:=hid hfin;clear hfin hacc hlt;go_wp2_with (at_builtin;refine wpList_append_own _ rfl _ _ 60 rfl w.heap.size 5 i0 (.int .u8 0) 1 1 underlying60 hi hz0 hz1 hz2 rfl (by decide) _ _ _ rfl (hown.out.alloc _) ⟨wr.heap.size,0,none⟩ 1 1 [.int .u8 (y:Int)] rfl rfl ?d1 ?d2 ?d3 ?d4 ?d5 ?_)
   case d1=>
    intro j u hj;match j,hj with
    | 0,hj=>simp at hj;subst hj;simp[Addr.add]
   case d2=>intro u hu;simp at hu;subst hu;rfl
   case d3=>unfold maxLen;omega
   case d4=>omega
   case d5=>have:=hbel.out.size;simp;omega
   intro u' w2 hown' hgrow _;have hb':Below w.heap.size w w2:=(hbel.out.alloc hbel.out.size _).grown hgrow (by have:=hbel.out.size;simp;omega) (fun q hq=>(hown.out.lt q hq).1);have hown2:=LY hown';rw[iy.out]at hown2;have hlen:acc.length+1=(grp v).length:=by rw[<-iy.out];simp
   obtain⟨A,c,rfl,hr,_⟩:=dP hown2;have dB:=bS w2 A c (grp v) (lU v Hv.out) hr;rw[hlen];have Hb:=hid hb';have ahQ:=hid (fT.out w2 hb');clear hown' hb' hgrow hown hbel hown2 hr hlen aiH iy fT;generalize strOf (grp v)=str at dB ahQ;generalize (grp v).length=len at dB ⊢;go_wp2_with fail
   refine ahQ.out.mono ?_;rintro e w' ⟨rfl,hR⟩;have HR:=hid hR;clear hR;go_wp2;go_ret;exact⟨rfl,w2,Hb.out,HR.out⟩
theorem iX(b v:Nat)(bs:List Nat)(w:World)(hv:v<2^64)(hl:bs.length<=100000000)(h:CW w b bs) :
  Calls prog 32 #[.pointer (some ⟨b,0,none⟩),.int .u64 (v:Int)] w fun e w'=>e=.returned (.pointer (some ⟨b,0,none⟩))/\CW w' b (bs++grp v)/\w.grownBy w' (some b):=by
 have h10:=eZ v hv;exact(Qq (some ⟨b,0,none⟩) v (fun w1 w'=>CW w' b (bs++grp v)/\w1.grownBy w' (some b)) w hv (fun w' hb=>iq b bs _ w' (by omega) (h.below hb))).mono
  fun e w' ⟨he,w1,hb,hc,hg⟩=>⟨he,hc,ay (ak hb _) hg⟩
theorem rY(b:Nat)(bs s:List Nat)(w:World)(hl:bs.length<=10000000)(hs:s.length<=10000000)(h:CW w b bs) :
  Calls prog 66 #[.pointer (some ⟨b,0,none⟩),.string (strOf s)] w fun e w'=>e=.returned (.pointer (some ⟨b,0,none⟩))/\CW w' b (bs++(grp s.length++s))/\w.grownBy w' (some b):=by
 have h10:=eZ s.length (by omega);have Hg:=hid (iX b s.length bs w (by omega) (by omega) h);have Hr:=hid (fun w1 h1=>iq b (bs++grp s.length) s w1 (by rw[List.length_append];omega) h1);have hsz:=aA s;clear h;generalize strOf s=str at hsz Hr ⊢;go_enter func66,ntmps66
 go_wp2_with fail
 refine Hg.out.mono ?_;rintro e w1 ⟨rfl,hc,hg⟩;have Hc:=hid (Hr.out w1 hc);have Hg1:=hid hg;clear hc hg;go_wp2_with fail
 refine Hc.out.mono ?_;rintro e w2 ⟨rfl,hc,hg⟩;rw[List.append_assoc]at hc;have Hc2:=hid hc;have Hg2:=hid hg;clear hc hg;go_wp2;go_ret;exact⟨rfl,Hc2.out,ay Hg1.out Hg2.out⟩
theorem Wu(g L q:Nat)(W:World)(h:q<L):(Instr.slice 60 (.slice (some ⟨g,0,none⟩) L L) (some (.int .i64 (q:Int))) none none).run prog W=.ok (.slice (some ⟨g,q,none⟩) (L-q) (L-q)) W:=by
 have h1:¬L=q:=by omega
 have h2:q<=L:=by omega
 go_simp
theorem YL{w:World}{g q L:Nat}{cs t:List Nat}(hr:Row w g 5 (u8s cs))(ht:∀x∈t,x<256)(hle:q+t.length<=cs.length)(hL:t.length<=L)(ty:TypeId) :
  ∃w',(Builtin.copy_ #[60,9] ty #[.slice (some ⟨g,q,none⟩) L L,.string (strOf t)]).run prog w=.ok (goInt (t.length:Int)) w'/\Row w' g 5 (u8s (cs.take q++t++cs.drop (q+t.length)))/\w.grownBy w' (some g):=by
 have hu8:(prog.info? 5).map (·.size)=some 1:=by kernel_rfl
 have h:=Lib.run_copy_row_string (P:=prog) w 60 9 ty 5 g q L L (strOf t) (u8s cs).toArray 5 underlying60 hu8 hr (by rw[aA];exact hL) (by rw[aA];simpa [u8s]using hle);rw[aA]at h;have hb:Lib.byteCells (strOf t).data.toList=u8s t:=by
  simp only[Lib.byteCells,strOf,u8s,List.map_map];apply List.map_congr_left
  intro x hx;simp[UInt8.toNat_ofNat_of_lt' (ht x hx)]
 rw[hb]at h;refine⟨_,h,?_,?_⟩
 ·have e:(u8s cs).take q++u8s t++(u8s cs).drop (q+t.length)=u8s (cs.take q++t++cs.drop (q+t.length)):=by simp[u8s,List.map_take,List.map_drop]
  rw[<-e];exact setRow_heap w g _ _ 5 _ hr
 ·exact⟨rfl,rfl,rfl,by simp[World.setRow],fun k _ hn=>setRow_other w g k _ (fun e=>hn (by rw[e]))⟩
theorem aaZ(r L:Nat)(t suf:List Nat)(ht:t.length=L):(List.replicate (r+L) 0++suf).take r++t++(List.replicate (r+L) 0++suf).drop (r+L)=List.replicate r 0++(t++suf):=by
 rw[List.take_append_of_le_length (by simp),List.take_replicate,Nat.min_eq_left (by omega),List.drop_append,List.length_replicate,Nat.sub_self,List.drop_zero,List.drop_of_length_le (by simp),List.nil_append,List.append_assoc]
theorem iU(b:Nat)(bs:List Nat)(w:World)(hl:bs.length<=100000000)(hbs:∀x∈bs,x<256)(h:CW w b bs) :
  Calls prog 34 #[.pointer (some ⟨b,0,none⟩)] w fun e w'=>e=.returned (.string (strOf bs))/\Below w.heap.size w w':=by
 obtain⟨i0,hi,hz0,hz1,hz2⟩:=info_parts jh;obtain⟨p,ts,h0,hc,e⟩:=h;have c0:=h0.cell 0;have c1:=h0.cell 1;have hbl:=h0.lt;simp only[List.getElem?_cons_zero,List.getElem?_cons_succ]at c0 c1;have Hc:=hid hc;have He:=hid e;have Hbs:=hid hbs;clear h0 hc e hbs;obtain⟨n,hn⟩:∃n,n=bs.length:=⟨_,rfl⟩;rw[<-hn]at c1 hl;have Hn:=hid hn;obtain⟨all,hall⟩:∃s,s=strOf bs:=⟨_,rfl⟩;rw[<-hall];have XY:=hid hall;clear hn hall;go_enter func34,ntmps34
 go_wp2_with (at_make;refine wpList_make_full _ rfl _ _ 60 rfl w.heap.size 5 i0 (.int .u8 0) 1 underlying60 hi hz0 hz1 .i64 .i64 _ _ n rfl rfl ?c1 ?c1 ?c2 ?c3 ?c4 ?_)
 case c1=>rfl
 case c2=>rw[hz2];omega
 case c3=>unfold maxLen;omega
 case c4=>exact Nat.le_refl _
 intro w1 hown1 hg1;have hb1:=aJ hg1;have hr1:Row w1 w.heap.size 5 (u8s (List.replicate n 0)):=nX hown1;have d0:w1.cell? ⟨b,0,none⟩=some (.pointer p):=(hb1.cell (p:=⟨b,0,none⟩) hbl).trans c0;have d1:w1.cell? ⟨b,1,none⟩=some (.int .i64 (n:Int)):=(hb1.cell (p:=⟨b,1,none⟩) hbl).trans c1;have Hb1:=hid hb1;have Hr1:=hid hr1;clear hown1 hg1 hb1 hr1 c0 c1;go_wp2;go_loopw [4,5] (fun i p' wr=>∃(A:Nat) (q':Option Addr) (rem:List (List Nat)) (suf:List Nat),i=.int .i64 (A:Int)/\p'=.pointer q'/\Hid (PC w q' rem)/\Hid (Row wr w.heap.size 5 (u8s (List.replicate A 0++suf))) /\
  Hid (Below w.heap.size w wr)/\Hid (A=rem.reverse.flatten.length)/\Hid (bs=rem.reverse.flatten++suf)/\A<=n) (fun i _ _=>(intOf i).toNat)
 case atStart=>exact⟨n,p,ts,[],rfl,rfl,Hc,by rw[List.append_nil];exact Hr1,Hb1,by unfold Hid;rw[<-He.out];exact Hn.out,by unfold Hid;rw[<-He.out,List.append_nil],Nat.le_refl _⟩
 case round=>
  obtain⟨A,q',rem,suf,rfl,rfl,hch,hrow,hbel,hA,hbs,hAn⟩:=hrel;clear Hb1 Hr1 d0 d1 Hc He;rcases rem with _ | ⟨t,rem⟩
  ·obtain rfl:q'=none:=hch.out;have aox:bs=suf:=by have:=hbs.out;simpa using this
   have hA0:A=0:=by have:=hA.out;simpa using this
   subst hA0;have hrow2:Row wr w.heap.size 5 (u8s bs):=by have:=hrow.out;rw[aox];simpa using this
   have dB:=KN (m:=n) (c:=n) hrow2 (by rw[Hn.out];exact Nat.le_refl _) Hbs.out;rw[Hn.out,List.take_length,<-Hn.out]at dB;rw[<-XY.out]at dB;clear aox hrow hrow2 hch hbs hA;go_wp2;go_ret;exact⟨rfl,hbel.out⟩
  ·obtain⟨g1,q1,rfl,hrp,hne,aiL⟩:=hch.out;have hg1:=hrp.lt;have k0:=(hbel.out.cell (p:=⟨g1,0,none⟩) hg1).trans (hrp.cell 0);have k1:=(hbel.out.cell (p:=⟨g1,1,none⟩) hg1).trans (hrp.cell 1);simp only[List.getElem?_cons_zero,List.getElem?_cons_succ]at k0 k1;have akG:=hid aiL;obtain⟨r,hr⟩:∃r,r=rem.reverse.flatten.length:=⟨_,rfl⟩;obtain⟨L,hL⟩:∃L,L=t.length:=⟨_,rfl⟩;have hAr:A=r+L:=by
    have h1:=hA.out;rw[List.reverse_cons,List.flatten_append,List.length_append]at h1;simp at h1;simp[hr,hL,h1]
   have hL0:0<L:=by rw[hL];exact List.length_pos_iff.2 hne
   have ako:bs=rem.reverse.flatten++(t++suf):=by
    have h1:=hbs.out;rw[h1,List.reverse_cons,List.flatten_append];simp
   have aeQ:suf.length+A=n:=by
    have h1:=congrArg List.length ako;rw[Hn.out,h1,hAr];simp[hr,hL];omega
   have htlt:∀x∈t,x<256:=fun x hx=>Hbs.out x (by rw[ako];simp[hx])
   have hcopy:∃w3,(∀ty,(Builtin.copy_ #[60,9] ty #[.slice (some ⟨w.heap.size,r,none⟩) (n-r) (n-r),.string (strOf t)]).run prog wr.drew=.ok (goInt (L:Int)) w3)/\Row w3 w.heap.size 5 (u8s (List.replicate r 0++(t++suf)))/\Below w.heap.size w w3:=by
    have hrd:Row wr.drew w.heap.size 5 (u8s (List.replicate (r+L) 0++suf)):=by have:=hrow.out;rw[hAr]at this;exact this
    have hcp:=fun ty=>YL (q:=r) (L:=n-r) hrd htlt (by simp;omega) (by omega) ty
    obtain⟨w3,h1,h2,h3⟩:=hcp 0;rw[<-hL,aaZ r L t suf hL.symm]at h2;rw[<-hL]at h1;refine⟨w3,fun ty=>?_,h2,hbel.out.drew.grown h3 (by have:=hbel.out.size;simpa using this) (fun k e=>by injection e with e;omega)⟩;exact h1
   obtain⟨w3,hcp,hrow3,NS⟩:=hcopy;have hsz:=aA t;rw[<-hL]at hsz;have anE:=hcp 3;have hsub:(A:Int)-(L:Int)=(r:Int):=by omega
   have hrn:r<n:=by omega
   have hLA:L<=A:=by omega
   have hsa:=fun W=>Wu w.heap.size n r W hrn
   have k0':w3.cell? ⟨g1,0,none⟩=some (.pointer q1):=(NS.cell (p:=⟨g1,0,none⟩) hg1).trans ((hbel.out.cell (p:=⟨g1,0,none⟩) hg1).symm.trans k0);have kg:=hid hrow3;have adD:=hid NS;have Hr:=hid hr;have aoY:=hid ako;have HAr:=hid hAr;clear aiL hrp hch hr ako hbs hA aeQ htlt hrow hrow3 NS hne hcp hL hAr;generalize strOf t=str at k1 hsz anE;go_wp2;go_still_tail 7,(by kernel_rfl)
   change wpList _ _ _ _ _ wr.drew;clear hsa;go_wp2;clear anE;go_roundw
   case rel=>exact⟨r,q1,rem,t++suf,rfl,rfl,akG,kg,adD,Hr,aoY,by omega⟩
   case measure=>simp[intOf];omega
open Go.Shelf
def acM(a b:Int):Int:=if a<b then -1 else if b<a then 1 else 0
theorem aco(a:Int)(w:World):Calls prog 120 #[.int .i64 a] w fun e w'=>e=.returned (.bool false)/\w=w':=by
 have h:(a != a)=false:=by simp
 go_enter func120,ntmps120
 go_wp2;go_ret;exact⟨rfl,rfl⟩
theorem aci(a b:Int)(w:World):Calls prog 98 #[.int .i64 a,.int .i64 b] w fun e w'=>e=.returned (.int .i64 (acM a b))/\w=w':=by
 have Hn:=hid (fun a=>aco a w);unfold acM;by_cases h1:a<b
 ·rw[if_pos h1];have d1:decide (a<b)=true:=decide_eq_true h1;clear h1;go_enter func98,ntmps98
  go_wp2_with fail
  refine(Hn.out _).mono ?_;rintro e w' ⟨rfl,rfl⟩;go_wp2_with fail
  refine(Hn.out _).mono ?_;rintro e w' ⟨rfl,rfl⟩;go_wp2;go_ret;exact⟨rfl,rfl⟩
 ·rw[if_neg h1];have d1:decide (a<b)=false:=decide_eq_false h1;by_cases h2:b<a
  ·rw[if_pos h2];have d2:decide (b<a)=true:=decide_eq_true h2;clear h1 h2;go_enter func98,ntmps98
   go_wp2_with fail
   refine(Hn.out _).mono ?_;rintro e w' ⟨rfl,rfl⟩;go_wp2_with fail
   refine(Hn.out _).mono ?_;rintro e w' ⟨rfl,rfl⟩;go_wp2;go_ret;exact⟨rfl,rfl⟩
  ·rw[if_neg h2];have d2:decide (b<a)=false:=decide_eq_false h2;clear h1 h2;go_enter func98,ntmps98
   go_wp2_with fail
   refine(Hn.out _).mono ?_;rintro e w' ⟨rfl,rfl⟩;go_wp2_with fail
   refine(Hn.out _).mono ?_;rintro e w' ⟨rfl,rfl⟩;go_wp2;go_ret;exact⟨rfl,rfl⟩
theorem XF(s t:List Nat)(w:World):Calls prog 97 #[.string (strOf s),.string (strOf t)] w fun e w'=>e=.returned (.int .i64 (acM s.length t.length))/\w=w':=by
 have Hc:=hid (aci s.length t.length w);have h1:=aA s;have h2:=aA t;generalize s.length=m at *;generalize t.length=n at *;generalize strOf s=s' at *;generalize strOf t=t' at *;generalize acM (m:Int) (n:Int)=r at *;go_enter func97,ntmps97
 go_wp2_with fail
 refine Hc.out.mono ?_;rintro e w' ⟨rfl,rfl⟩;go_wp2;go_ret;exact⟨rfl,rfl⟩
def lM(ss:List (List Nat)):List Value:=ss.map fun s=>.string (strOf s)
theorem iG(ss:List (List Nat)):(lM ss).length=ss.length:=by simp[lM]
theorem PX(ss:List (List Nat))(i:Nat)(h:i<ss.length):(lM ss)[i]?=some (.string (strOf ss[i])):=by simp[lM,h]
theorem YZ:∀args w,(callFunc 97 args).run prog w=.ok (.enter 97 args) w:=enters_of func97 (by kernel_rfl) rfl
theorem acn(A:Option Addr)(c:Nat)(ss:List (List Nat))(w:World)(h0:0<ss.length)(hl:ss.length<=1000000)(hr:Reads w A (lM ss)) :
  Calls prog 95 #[.slice A ss.length c,.func (.func 97) #[] #[]] w fun e w'=>(∃m∈ss,(∀s∈ss,m.length<=s.length)/\(∀f,ss[0]?=some f->m.length=f.length->m=f)/\e=.returned (.string (strOf m)))/\w=w':=by
 obtain⟨g,off,rfl,hc⟩:=hr (by intro e;have:=iG ss;rw[e]at this;simp at this;omega);have hc2:∀j (h:j<ss.length),w.cell? ⟨g,off+j,none⟩=some (.string (strOf ss[j])):=fun j h=>by rw[hc j (by rw[iG];exact h),PX ss j h]
 have Hc:=hid hc2;have c0:=hc2 0 h0;rw[Nat.add_zero]at c0;have Hs0:Hid (ss[0]∈ss/\∀s∈ss.take 1,ss[0].length<=s.length):=hid ⟨List.getElem_mem h0,fun s hs=>by
  have e:ss.take 1=[ss[0]]:=by
   cases ss with
   | nil=>simp at h0
   | cons x r=>rfl
  rw[e,List.mem_singleton]at hs;rw[hs];exact Nat.le_refl _⟩
 have Hz:Hid (ss[0]?=some ss[0]):=hid (List.getElem?_eq_getElem h0);generalize ss[0]=s0 at *;have Hl:=hid (fun a b=>XF a b w);have ec:=YZ;clear hr hc hc2;go_enter func95,ntmps95
 go_wp2;go_loopw [5,6] (fun m i wr=>wr=w/\∃(k:Nat) (mm:List Nat),m=.string (strOf mm)/\i=.int .i64 (k:Int)/\1<=k/\k<=ss.length/\Hid (mm∈ss/\(∀s∈ss.take k,mm.length<=s.length)/\mm.length<=s0.length/\(mm.length=s0.length->mm=s0))) (fun _ i _=>ss.length-(intOf i).toNat)
 case atStart=>exact⟨rfl,1,s0,rfl,rfl,by omega,by omega,hid ⟨Hs0.out.1,Hs0.out.2,Nat.le_refl _,fun _=>rfl⟩⟩
 case round=>
  obtain⟨rfl,k,mm,rfl,rfl,hk1,hk,hmm⟩:=hrel;clear c0 Hs0;by_cases hkl:k<ss.length
  ·have c1:=Hc.out k hkl;have bA:=hid (Hl.out ss[k] mm);have Htk:Hid (ss.take (k+1)=ss.take k++[ss[k]]):=hid (by rw[List.take_add_one,List.getElem?_eq_getElem hkl];rfl);have Hin:=hid (List.getElem_mem hkl);generalize ss[k]=sk at *;by_cases hlt:sk.length<mm.length
   ·have hz:acM (sk.length:Int) (mm.length:Int)=-1:=by unfold acM;rw[if_pos (by omega)]
    rw[hz]at bA;have Hn:Hid (sk∈ss/\(∀s∈ss.take (k+1),sk.length<=s.length)/\sk.length<=s0.length/\(sk.length=s0.length->sk=s0)):=hid ⟨Hin.out,fun s hs=>by
     rw[Htk.out]at hs;rcases List.mem_append.1 hs with hs | hs
     ·have:=hmm.out.2.1 s hs;omega
     ·rw[List.mem_singleton.1 hs];exact Nat.le_refl _,by have:=hmm.out.2.2.1;omega,fun h=>by have:=hmm.out.2.2.1;omega⟩
    clear hlt hz hmm Hl;go_wp2_with fail
    refine bA.out.mono ?_;rintro e w' ⟨rfl,rfl⟩;go_wp2;go_roundw
    case rel=>exact⟨trivial,k+1,sk,rfl,by go_num,by omega,by omega,Hn⟩
    case measure=>simp[intOf];omega
   ·obtain⟨z,hz,hz0⟩:∃z,acM (sk.length:Int) (mm.length:Int)=z/\0<=z:=⟨_,rfl,by unfold acM;rw[if_neg (by omega)];split<;>omega⟩;rw[hz]at bA;have dz:decide (z<0)=false:=decide_eq_false (by omega);have Hn:Hid (mm∈ss/\(∀s∈ss.take (k+1),mm.length<=s.length)/\mm.length<=s0.length/\(mm.length=s0.length->mm=s0)):=hid ⟨hmm.out.1,fun s hs=>by
     rw[Htk.out]at hs;rcases List.mem_append.1 hs with hs | hs
     ·exact hmm.out.2.1 s hs
     ·rw[List.mem_singleton.1 hs];omega,hmm.out.2.2⟩
    clear hlt hz hmm hz0 Hl;go_wp2_with fail
    refine bA.out.mono ?_;rintro e w' ⟨rfl,rfl⟩;go_wp2;go_roundw
    case rel=>exact⟨trivial,k+1,mm,rfl,by go_num,by omega,by omega,Hn⟩
    case measure=>simp[intOf];omega
  ·obtain rfl:k=ss.length:=by omega
   have dR:Hid (∃m∈ss,(∀s∈ss,m.length<=s.length)/\(∀f,ss[0]?=some f->m.length=f.length->m=f)/\strOf mm=strOf m):=hid ⟨mm,hmm.out.1,by have:=hmm.out.2.1;rwa [List.take_length]at this,fun f hf he=>by rw[Hz.out]at hf;injection hf with hf;subst hf;exact hmm.out.2.2.2 he,rfl⟩;clear hmm Hl;generalize strOf mm=sm at *;go_wp2;go_ret;obtain⟨m,h1,h2,h3,h4⟩:=dR.out;exact⟨⟨m,h1,h2,h3,congrArg (fun x=>Ending.returned (Value.string x)) h4⟩,rfl⟩
theorem acj(k:Nat)(hk:k<256):([]:List Nat)++Bm.bytesOf k (fx 1)=[k]:=by
 have e:fx 1=1:=rfl;rw[e,List.nil_append];have h:k%256=k:=Nat.mod_eq_of_lt hk;simp[Bm.bytesOf,h]
theorem uz(k:Nat)(w:World)(hk:k<256):Calls prog 118 #[.int .u64 (k:Int)] w fun e w'=>∃b,e=.returned (.pointer (some ⟨b,0,none⟩))/\CW w' b [k]/\w.heap.size<=b/\Below w.heap.size w w':=by
 have hn:=CW.new w;have hb:=(Below.refl w.heap.size w).alloc (Nat.le_refl _) (.cells #[.pointer none,.int .i64 0] 72);have hx:=oz w.heap.size k 1 [] _ (by omega) (by omega) (by omega) (by simp) hn;rw[acj k hk]at hx;have Hx:=hid hx;have Hb:=hid hb;clear hx hn hb;go_enter func118,ntmps118
 go_wp2_with fail
 refine Hx.out.mono ?_;rintro e w1 ⟨rfl,hc1,hg1⟩;have Hc1:=hid hc1;have Hb1:=hid (Hb.out.trans (below_grown hg1 (Nat.le_refl _) Hb.out.size));clear hc1 hg1;go_wp2;go_ret;exact⟨_,rfl,Hc1.out,Nat.le_refl _,Hb1.out⟩
end Go.Proofs.YtaebnkeddcbmkaaGreat
