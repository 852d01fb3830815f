/- Contracts, and what they rest on. Conditions: the theorems' premises. -/
import Derived.Test.YtgiicohbigiapaaGreatYad
import Derived.Test.YtgiicohbigiapaaGreatYac
import Derived.Laws.CopyOwn
set_option maxHeartbeats 4000000
set_option maxRecDepth 100000
open Go.Lib(hid)
open Go.Proofs.Tryz Go.Proofs.YtgiicohbigiapaaGreat.Bm
namespace Go.Proofs.YtgiicohbigiapaaGreat
open Go.RowKit
theorem kP{P:Program}{ops:Array Oper}{o:Oper}{a:Act}{w:World}{K:Act→World→Prop}{Q:Exit→Act→World→Prop}{E:Prop}(hgd:o.guard=none)(d s:Operand)(dT sT:TypeId)
  (ho:o.op=.call {callee:=.builtin .copy,args:=#[d,s],argTypes:=#[dT,sT]}) (elem:TypeId) (hu:P.underlying dT=some (.slice elem)) (hsz:(P.info? elem).map (·.size)=some 1)
  (dp sp:Option Addr) (dLen dCap sLen sCap:Nat) (hd:a.eval d=.slice dp dLen dCap) (hs:a.eval s=.slice sp sLen sCap)
  (g off:Nat) (cur:List Value) (t:TypeId) (hg:Row w g t cur) (cs:List Value) (hn:cs.length=Nat.min sLen dLen)
  (hpos:0<cs.length→dp=some ⟨g,off,none⟩∧∃ad,sp=some ad∧∀j v,cs[j]?=some v→w.cell? (ad.add j)=some v)
  (hfit:off+cs.length≤cur.length) (h1:∀v∈cs,v.oneCell'=true)
  (h:∀w',Hid (Row w' g t (splice cur off cs))→Hid (w.grownBy w' (some g))→K (a.put o.dst (goInt cs.length)) w') :
  if Region.wanted o (yielded ops a.tmps)=true then Oper.wp P o a w K Q else E:=by
 have hw:Region.wanted o (yielded ops a.tmps)=true:=by simp[Region.wanted,hgd]
 rw[if_pos hw];by_cases h0:cs.length=0
 ·obtain rfl:cs=[]:=List.eq_nil_of_length_eq_zero h0;have hrun:=run_copy_none (P:=P) w dT sT o.type elem dp sp dLen dCap sLen sCap hu hsz (by simpa using hn.symm);unfold Oper.wp;simp[execOp,ho,resolve,invoke,builtin,hd,hs,hrun,Result.andThen];exact h w (hid (show Row _ _ _ _ by simpa [splice]using hg)) (hid (ak w _))
 ·obtain⟨rfl,ad,rfl,hsrc⟩:=hpos (by omega);have hrun:=run_copy_row (P:=P) w dT sT o.type elem g off dLen dCap ad sLen sCap cur.toArray t cs hu hsz hg hn hsrc (by simpa using hfit) h1;unfold Oper.wp;simp[execOp,ho,resolve,invoke,builtin,hd,hs,hrun,Result.andThen];refine h _ (hid (show _=_ by simpa [splice]using setRow_heap w g _ _ t _ hg)) (hid ⟨rfl,rfl,rfl,by simp[World.setRow],fun k hk hne=>setRow_other w g k _ (fun e=>hne (by rw[e]))⟩)
theorem CK:adJ:=by
 intro w;go_enter func96,ntmps96
 go_wp2;exact bodyPost_ret (by simp[results,results96,go_sem]) rfl ⟨rfl,(((Below.refl _ _).alloc (Nat.le_refl _) _))⟩
def PW(a b c x:Int):Int:=if a=x then 0 else if b=x then 1 else if c=x then 2 else -1
theorem Lf(b0:Nat)(t:TypeId)(a b c x:Int)(w:World)(hrow:Row w b0 t [.int .i64 a,.int .i64 b,.int .i64 c]) :
  Calls prog 159 #[.slice (some ⟨b0,0,none⟩) 3 3,.int .i64 x] w fun e w'=>e=.returned (.int .i64 (PW a b c x))∧w=w':=by
 obtain⟨c0,c1,c2⟩:=fQ hrow;obtain⟨r,hr⟩:∃r,r=PW a b c x:=⟨_,rfl⟩;have hr2:=hr;rw[←hr];unfold PW at hr2;clear hr hrow;go_enter func159,ntmps159
 go_wp2;refine wp_loop_rounds 4 ?_;by_cases ha:a=x
 ·rw[if_pos ha]at hr2;have da:(x == a)=true:=by simp[ha]
  subst hr2;rw[rounds_succ];go_wp2;go_ret;exact⟨rfl,rfl⟩
 ·have da:(x == a)=false:=by simp;exact fun h=>ha h.symm
  rw[if_neg ha]at hr2;rw[rounds_succ];go_wp2;by_cases hb:b=x
  ·rw[if_pos hb]at hr2;have db:(x == b)=true:=by simp[hb]
   subst hr2;rw[rounds_succ];go_wp2;go_ret;exact⟨rfl,rfl⟩
  ·have db:(x == b)=false:=by simp;exact fun h=>hb h.symm
   rw[if_neg hb]at hr2;rw[rounds_succ];go_wp2;by_cases hc:c=x
   ·rw[if_pos hc]at hr2;have dc:(x == c)=true:=by simp[hc]
    subst hr2;rw[rounds_succ];go_wp2;go_ret;exact⟨rfl,rfl⟩
   ·have dc:(x == c)=false:=by simp;exact fun h=>hc h.symm
    rw[if_neg hc]at hr2;subst hr2;rw[rounds_succ];go_wp2;rw[rounds_succ];go_wp2;go_ret;exact⟨rfl,rfl⟩
def xV(a b c x:Int)(k:Nat):Int×Int×Int:=if k=0 then(x,b,c)else if k=1 then(x,a,c)else(x,a,b)
theorem Le(a b c x:Int)(w:World):Calls prog 160 #[.agg #[.int .i64 a,.int .i64 b,.int .i64 c],.int .i64 x,.int .i64 2] w fun e w'=>e=.returned (.agg #[.int .i64 x,.int .i64 a,.int .i64 b])∧Below w.heap.size w w':=by
 obtain⟨b0,hb0⟩:∃b0,b0=w.heap.size:=⟨_,rfl⟩;obtain⟨b1,hb1⟩:∃b1,b1=w.heap.size+1:=⟨_,rfl⟩;have Hb0:=hid hb0;have Hb1:=hid hb1;clear hb0 hb1;go_enter func160,ntmps160
 go_wp2;rw[←Hb1.out,←Hb0.out];have dM:Row ((w.alloc (.cells #[.int .i64 a,.int .i64 b,.int .i64 c] 154)).alloc (.cells #[.int .i64 0,.int .i64 0,.int .i64 0] 154)) b0 154 [.int .i64 a,.int .i64 b,.int .i64 c]:=by rw[Hb0.out];exact(Row.new w _ _).alloc _
 have bV:Row ((w.alloc (.cells #[.int .i64 a,.int .i64 b,.int .i64 c] 154)).alloc (.cells #[.int .i64 0,.int .i64 0,.int .i64 0] 154)) b1 154 [.int .i64 0,.int .i64 0,.int .i64 0]:=by
  have h:=Row.new (w.alloc (.cells #[.int .i64 a,.int .i64 b,.int .i64 c] 154)) 154 [.int .i64 0,.int .i64 0,.int .i64 0];rw[Hb1.out];simpa using h
 have hbel:=((Below.refl w.heap.size w).alloc (Nat.le_refl _) (.cells #[.int .i64 a,.int .i64 b,.int .i64 c] 154)).alloc (by simp) (.cells #[.int .i64 0,.int .i64 0,.int .i64 0] 154);have jK:=hid dM;have gy:=hid bV;have jg:=hid hbel;have Hne:=hid (show b0≠b1 by rw[Hb0.out,Hb1.out];omega);obtain⟨c0,c1,c2⟩:=fQ dM;have C0:=hid c0;have C1:=hid c1;have C2:=hid c2;clear dM bV hbel c0 c1 c2;have e3:IntKind.i64.wrap 3=3:=IntWalk.i64_in _ (by omega);generalize (w.alloc (.cells #[.int .i64 a,.int .i64 b,.int .i64 c] 154)).alloc (.cells #[.int .i64 0,.int .i64 0,.int .i64 0] 154)=wA at *;go_region_law (refine kP rfl (.tmp 9) (.tmp 11) 112 112 rfl 3 underlying112 (by kernel_rfl) (some ⟨b0,1,none⟩) (some ⟨b0,0,none⟩) 2 2 2 3 rfl rfl b0 1 [.int .i64 a,.int .i64 b,.int .i64 c] 154 jK.out [.int .i64 a,.int .i64 b] rfl (fun _=>⟨rfl,_,rfl,fun j v hj=>(by match j,hj with | 0,hj=>exact hj▸C0.out | 1,hj=>exact hj▸C1.out)⟩) (by simp) (by intro v hv;simp only[List.mem_cons,List.not_mem_nil,or_false]at hv;rcases hv with rfl | rfl<;>rfl) ?_;intro w4 hg4 hb4)
 have vw:Row w4 b0 154 [.int .i64 a,.int .i64 a,.int .i64 b]:=hg4.out;have jS:Row w4 b1 154 [.int .i64 0,.int .i64 0,.int .i64 0]:=gy.out.keep (hb4.out.block b1 gy.out.lt (fun e=>Hne.out (by injection e with e;exact e.symm)));have HbD:=hid (show Below w.heap.size w w4 from jg.out.drew.grown hb4.out jg.out.size (fun k e=>by injection e with e;rw[←e,Hb0.out];exact Nat.le_refl _));obtain⟨c0,c1,c2⟩:=fQ vw;obtain⟨c3,c4,c5⟩:=fQ jS;have f0:=vw.free 0;have f3:=jS.free 0;have f4:=jS.free 1;have f5:=jS.free 2;have hne:=Hne.out;have hne':b1≠b0:=fun e=>hne e.symm
 have Hlt:=hid (show w.heap.size≤b0∧w.heap.size≤b1 by rw[Hb0.out,Hb1.out];omega);have hr1:Row (w4.setCell ⟨b0,0,none⟩ (.int .i64 x)) b1 154 [.int .i64 0,.int .i64 0,.int .i64 0]:=jS.far hne' _;have s0:=(hr1.aY 0 (.int .i64 x)).cell 0;have s1:=((hr1.aY 0 (.int .i64 x)).aY 1 (.int .i64 a)).cell 1;have s2:=(((hr1.aY 0 (.int .i64 x)).aY 1 (.int .i64 a)).aY 2 (.int .i64 b)).cell 2;simp only[List.set_cons_zero,List.set_cons_succ,List.getElem?_cons_zero,List.getElem?_cons_succ]at s0 s1 s2;have S0:=hid s0;have S1:=hid s1;have S2:=hid s2;clear hr1 s0 s1 s2;clear vw jS hg4 hb4 e3 Hb0 Hb1 jK gy jg C0 C1 C2;clear Hne;go_wp2;have s0:=S0.out;have s1:=S1.out;have s2:=S2.out;exact bodyPost_ret (by simp[results,results160,go_sem,s0,s1,s2]) rfl ⟨rfl,(((HbD.out.setCell Hlt.out.1 _).setCell Hlt.out.2 _).setCell Hlt.out.2 _).setCell Hlt.out.2 _⟩
theorem Ld(a b c x:Int)(w:World):Calls prog 160 #[.agg #[.int .i64 a,.int .i64 b,.int .i64 c],.int .i64 x,.int .i64 1] w fun e w'=>e=.returned (.agg #[.int .i64 x,.int .i64 a,.int .i64 c])∧Below w.heap.size w w':=by
 obtain⟨b0,hb0⟩:∃b0,b0=w.heap.size:=⟨_,rfl⟩;obtain⟨b1,hb1⟩:∃b1,b1=w.heap.size+1:=⟨_,rfl⟩;have Hb0:=hid hb0;have Hb1:=hid hb1;clear hb0 hb1;go_enter func160,ntmps160
 go_wp2;rw[←Hb1.out,←Hb0.out];have dM:Row ((w.alloc (.cells #[.int .i64 a,.int .i64 b,.int .i64 c] 154)).alloc (.cells #[.int .i64 0,.int .i64 0,.int .i64 0] 154)) b0 154 [.int .i64 a,.int .i64 b,.int .i64 c]:=by rw[Hb0.out];exact(Row.new w _ _).alloc _
 have bV:Row ((w.alloc (.cells #[.int .i64 a,.int .i64 b,.int .i64 c] 154)).alloc (.cells #[.int .i64 0,.int .i64 0,.int .i64 0] 154)) b1 154 [.int .i64 0,.int .i64 0,.int .i64 0]:=by
  have h:=Row.new (w.alloc (.cells #[.int .i64 a,.int .i64 b,.int .i64 c] 154)) 154 [.int .i64 0,.int .i64 0,.int .i64 0];rw[Hb1.out];simpa using h
 have hbel:=((Below.refl w.heap.size w).alloc (Nat.le_refl _) (.cells #[.int .i64 a,.int .i64 b,.int .i64 c] 154)).alloc (by simp) (.cells #[.int .i64 0,.int .i64 0,.int .i64 0] 154);have jK:=hid dM;have gy:=hid bV;have jg:=hid hbel;have Hne:=hid (show b0≠b1 by rw[Hb0.out,Hb1.out];omega);obtain⟨c0,c1,c2⟩:=fQ dM;have C0:=hid c0;have C1:=hid c1;have C2:=hid c2;clear dM bV hbel c0 c1 c2;have e3:IntKind.i64.wrap 2=2:=IntWalk.i64_in _ (by omega);generalize (w.alloc (.cells #[.int .i64 a,.int .i64 b,.int .i64 c] 154)).alloc (.cells #[.int .i64 0,.int .i64 0,.int .i64 0] 154)=wA at *;go_region_law (refine kP rfl (.tmp 9) (.tmp 11) 112 112 rfl 3 underlying112 (by kernel_rfl) (some ⟨b0,1,none⟩) (some ⟨b0,0,none⟩) 1 2 1 3 rfl rfl b0 1 [.int .i64 a,.int .i64 b,.int .i64 c] 154 jK.out [.int .i64 a] rfl (fun _=>⟨rfl,_,rfl,fun j v hj=>(by match j,hj with | 0,hj=>exact hj▸C0.out)⟩) (by simp) (by intro v hv;simp only[List.mem_cons,List.not_mem_nil,or_false]at hv;subst hv;rfl) ?_;intro w4 hg4 hb4)
 have vw:Row w4 b0 154 [.int .i64 a,.int .i64 a,.int .i64 c]:=hg4.out;have jS:Row w4 b1 154 [.int .i64 0,.int .i64 0,.int .i64 0]:=gy.out.keep (hb4.out.block b1 gy.out.lt (fun e=>Hne.out (by injection e with e;exact e.symm)));have HbD:=hid (show Below w.heap.size w w4 from jg.out.drew.grown hb4.out jg.out.size (fun k e=>by injection e with e;rw[←e,Hb0.out];exact Nat.le_refl _));obtain⟨c0,c1,c2⟩:=fQ vw;obtain⟨c3,c4,c5⟩:=fQ jS;have f0:=vw.free 0;have f3:=jS.free 0;have f4:=jS.free 1;have f5:=jS.free 2;have hne:=Hne.out;have hne':b1≠b0:=fun e=>hne e.symm
 have Hlt:=hid (show w.heap.size≤b0∧w.heap.size≤b1 by rw[Hb0.out,Hb1.out];omega);have hr1:Row (w4.setCell ⟨b0,0,none⟩ (.int .i64 x)) b1 154 [.int .i64 0,.int .i64 0,.int .i64 0]:=jS.far hne' _;have s0:=(hr1.aY 0 (.int .i64 x)).cell 0;have s1:=((hr1.aY 0 (.int .i64 x)).aY 1 (.int .i64 a)).cell 1;have s2:=(((hr1.aY 0 (.int .i64 x)).aY 1 (.int .i64 a)).aY 2 (.int .i64 c)).cell 2;simp only[List.set_cons_zero,List.set_cons_succ,List.getElem?_cons_zero,List.getElem?_cons_succ]at s0 s1 s2;have S0:=hid s0;have S1:=hid s1;have S2:=hid s2;clear hr1 s0 s1 s2;clear vw jS hg4 hb4 e3 Hb0 Hb1 jK gy jg C0 C1 C2;clear Hne;go_wp2;have s0:=S0.out;have s1:=S1.out;have s2:=S2.out;exact bodyPost_ret (by simp[results,results160,go_sem,s0,s1,s2]) rfl ⟨rfl,(((HbD.out.setCell Hlt.out.1 _).setCell Hlt.out.2 _).setCell Hlt.out.2 _).setCell Hlt.out.2 _⟩
theorem EY(a b c x:Int)(w:World):Calls prog 160 #[.agg #[.int .i64 a,.int .i64 b,.int .i64 c],.int .i64 x,.int .i64 0] w fun e w'=>e=.returned (.agg #[.int .i64 x,.int .i64 b,.int .i64 c])∧Below w.heap.size w w':=by
 obtain⟨b0,hb0⟩:∃b0,b0=w.heap.size:=⟨_,rfl⟩;obtain⟨b1,hb1⟩:∃b1,b1=w.heap.size+1:=⟨_,rfl⟩;have Hb0:=hid hb0;have Hb1:=hid hb1;clear hb0 hb1;go_enter func160,ntmps160
 go_wp2;rw[←Hb1.out,←Hb0.out];have dM:Row ((w.alloc (.cells #[.int .i64 a,.int .i64 b,.int .i64 c] 154)).alloc (.cells #[.int .i64 0,.int .i64 0,.int .i64 0] 154)) b0 154 [.int .i64 a,.int .i64 b,.int .i64 c]:=by rw[Hb0.out];exact(Row.new w _ _).alloc _
 have bV:Row ((w.alloc (.cells #[.int .i64 a,.int .i64 b,.int .i64 c] 154)).alloc (.cells #[.int .i64 0,.int .i64 0,.int .i64 0] 154)) b1 154 [.int .i64 0,.int .i64 0,.int .i64 0]:=by
  have h:=Row.new (w.alloc (.cells #[.int .i64 a,.int .i64 b,.int .i64 c] 154)) 154 [.int .i64 0,.int .i64 0,.int .i64 0];rw[Hb1.out];simpa using h
 have hbel:=((Below.refl w.heap.size w).alloc (Nat.le_refl _) (.cells #[.int .i64 a,.int .i64 b,.int .i64 c] 154)).alloc (by simp) (.cells #[.int .i64 0,.int .i64 0,.int .i64 0] 154);have jK:=hid dM;have gy:=hid bV;have jg:=hid hbel;have Hne:=hid (show b0≠b1 by rw[Hb0.out,Hb1.out];omega);obtain⟨c0,c1,c2⟩:=fQ dM;have C0:=hid c0;have C1:=hid c1;have C2:=hid c2;clear dM bV hbel c0 c1 c2;have e3:IntKind.i64.wrap 1=1:=IntWalk.i64_in _ (by omega);generalize (w.alloc (.cells #[.int .i64 a,.int .i64 b,.int .i64 c] 154)).alloc (.cells #[.int .i64 0,.int .i64 0,.int .i64 0] 154)=wA at *;go_region_law (refine kP rfl (.tmp 9) (.tmp 11) 112 112 rfl 3 underlying112 (by kernel_rfl) (some ⟨b0,1,none⟩) (some ⟨b0,0,none⟩) 0 2 0 3 rfl rfl b0 1 [.int .i64 a,.int .i64 b,.int .i64 c] 154 jK.out [] rfl (fun h=>absurd h (by simp)) (by simp) (by intro v hv;cases hv) ?_;intro w4 hg4 hb4)
 have vw:Row w4 b0 154 [.int .i64 a,.int .i64 b,.int .i64 c]:=hg4.out;have jS:Row w4 b1 154 [.int .i64 0,.int .i64 0,.int .i64 0]:=gy.out.keep (hb4.out.block b1 gy.out.lt (fun e=>Hne.out (by injection e with e;exact e.symm)));have HbD:=hid (show Below w.heap.size w w4 from jg.out.drew.grown hb4.out jg.out.size (fun k e=>by injection e with e;rw[←e,Hb0.out];exact Nat.le_refl _));obtain⟨c0,c1,c2⟩:=fQ vw;obtain⟨c3,c4,c5⟩:=fQ jS;have f0:=vw.free 0;have f3:=jS.free 0;have f4:=jS.free 1;have f5:=jS.free 2;have hne:=Hne.out;have hne':b1≠b0:=fun e=>hne e.symm
 have Hlt:=hid (show w.heap.size≤b0∧w.heap.size≤b1 by rw[Hb0.out,Hb1.out];omega);have hr1:Row (w4.setCell ⟨b0,0,none⟩ (.int .i64 x)) b1 154 [.int .i64 0,.int .i64 0,.int .i64 0]:=jS.far hne' _;have s0:=(hr1.aY 0 (.int .i64 x)).cell 0;have s1:=((hr1.aY 0 (.int .i64 x)).aY 1 (.int .i64 b)).cell 1;have s2:=(((hr1.aY 0 (.int .i64 x)).aY 1 (.int .i64 b)).aY 2 (.int .i64 c)).cell 2;simp only[List.set_cons_zero,List.set_cons_succ,List.getElem?_cons_zero,List.getElem?_cons_succ]at s0 s1 s2;have S0:=hid s0;have S1:=hid s1;have S2:=hid s2;clear hr1 s0 s1 s2;clear vw jS hg4 hb4 e3 Hb0 Hb1 jK gy jg C0 C1 C2;clear Hne;go_wp2;have s0:=S0.out;have s1:=S1.out;have s2:=S2.out;exact bodyPost_ret (by simp[results,results160,go_sem,s0,s1,s2]) rfl ⟨rfl,(((HbD.out.setCell Hlt.out.1 _).setCell Hlt.out.2 _).setCell Hlt.out.2 _).setCell Hlt.out.2 _⟩
theorem Lc(a b c x:Int)(k:Nat)(hk:k≤2)(w:World):Calls prog 160 #[.agg #[.int .i64 a,.int .i64 b,.int .i64 c],.int .i64 x,.int .i64 (k:Int)] w fun e w'=>e=.returned (.agg #[.int .i64 (xV a b c x k).1,.int .i64 (xV a b c x k).2.1,.int .i64 (xV a b c x k).2.2])∧Below w.heap.size w w':=by
 match k,hk with
 | 0,_=>exact EY a b c x w
 | 1,_=>exact Ld a b c x w
 | 2,_=>exact Le a b c x w
theorem abo(a b c x:Int)(h1:1≤x)(h2:x≤65533):nM a b c x=(if PW a b c x<0 then x+2 else PW a b c x)∧0≤nM a b c x∧(PW a b c x=-1∨∃k:Nat,PW a b c x=(k:Int)∧k≤2)∧nV a b c x=xV a b c x (if PW a b c x<0 then 2 else(PW a b c x).toNat):=by
 unfold nM PW nV xV;rw[if_neg (by omega)];by_cases ha:a=x
 ·simp[ha];exact⟨0,rfl,by omega⟩
 ·by_cases hb:b=x
  ·simp[ha,hb];exact⟨1,rfl,by omega⟩
  ·by_cases hc:c=x
   ·simp[ha,hb,hc];exact⟨2,rfl,by omega⟩
   ·simp[ha,hb,hc];omega
theorem aaO(w:World)(a b c x:Int)(h:x<1∨65533<x):Calls prog 129 #[.agg #[.int .i64 a,.int .i64 b,.int .i64 c],.int .i64 x] w fun e w'=>e=.returned (.tuple #[.int .i64 0,.agg #[.int .i64 a,.int .i64 b,.int .i64 c],.bool false])∧Below w.heap.size w w':=by
 obtain⟨b0,hb0⟩:∃b0,b0=w.heap.size:=⟨_,rfl⟩;obtain⟨b1,hb1⟩:∃b1,b1=w.heap.size+1:=⟨_,rfl⟩;have hcase:decide (x<1)=true∨(decide (x<1)=false∧decide (65533<x)=true):=by
  by_cases h0:x<1
  ·exact .inl (decide_eq_true h0)
  ·exact .inr ⟨decide_eq_false h0,decide_eq_true (by omega)⟩
 have Hb0:=hid hb0;have Hb1:=hid hb1;clear hb0 hb1 h;rcases hcase with d0 | ⟨d0,d1⟩
 all_goals
  go_enter func129,ntmps129
  go_wp2;rw[←Hb1.out,←Hb0.out];have dM:Row ((w.alloc (.cells #[.int .i64 a,.int .i64 b,.int .i64 c] 154)).alloc (.cells #[.int .i64 0,.int .i64 0,.int .i64 0] 154)) b0 154 [.int .i64 a,.int .i64 b,.int .i64 c]:=by rw[Hb0.out];exact(Row.new w _ _).alloc _
  have bV:Row ((w.alloc (.cells #[.int .i64 a,.int .i64 b,.int .i64 c] 154)).alloc (.cells #[.int .i64 0,.int .i64 0,.int .i64 0] 154)) b1 154 [.int .i64 0,.int .i64 0,.int .i64 0]:=by
   have h:=Row.new (w.alloc (.cells #[.int .i64 a,.int .i64 b,.int .i64 c] 154)) 154 [.int .i64 0,.int .i64 0,.int .i64 0];rw[Hb1.out];simpa using h
  have hbel:=((Below.refl w.heap.size w).alloc (Nat.le_refl _) (.cells #[.int .i64 a,.int .i64 b,.int .i64 c] 154)).alloc (by simp) (.cells #[.int .i64 0,.int .i64 0,.int .i64 0] 154);have jg:=hid hbel;generalize (w.alloc (.cells #[.int .i64 a,.int .i64 b,.int .i64 c] 154)).alloc (.cells #[.int .i64 0,.int .i64 0,.int .i64 0] 154)=wA at *;have hne:b0≠b1:=by rw[Hb0.out,Hb1.out];omega
  have hne':b1≠b0:=fun e=>hne e.symm
  obtain⟨c0,c1,c2⟩:=fQ dM;obtain⟨c3,c4,c5⟩:=fQ bV;have f3:=bV.free 0;have f4:=bV.free 1;have f5:=bV.free 2;have s0:=(bV.aY 0 (.int .i64 a)).cell 0;have s1:=((bV.aY 0 (.int .i64 a)).aY 1 (.int .i64 b)).cell 1;have s2:=(((bV.aY 0 (.int .i64 a)).aY 1 (.int .i64 b)).aY 2 (.int .i64 c)).cell 2;simp only[List.set_cons_zero,List.set_cons_succ,List.getElem?_cons_zero,List.getElem?_cons_succ]at s0 s1 s2;have S0:=hid s0;have S1:=hid s1;have S2:=hid s2;have Hlt:=hid (show w.heap.size≤b1 by rw[Hb1.out];omega);clear dM bV hbel s0 s1 s2 Hb0 Hb1 d0
  try clear d1
  go_region
  go_wp2;have s0:=S0.out;have s1:=S1.out;have s2:=S2.out;refine bodyPost_ret (by simp[results,results129,go_sem,s0,s1,s2]) rfl ⟨rfl,?_⟩;exact(((jg.out.setCell Hlt.out _).setCell Hlt.out _).setCell Hlt.out _).drew
theorem Qe(w:World)(a b c x r n K:Int)(k:Nat)(p q y:Int)(h1:1≤x)(h2:x≤65533)(hr:PW a b c x=r)(hk:k≤2)(hq:xV a b c x k=(p,q,y))(hK:(k:Int)=K)(hcase:(r=-1∧n=x+2∧K=2)∨(r=K∧n=K)):Calls prog 129 #[.agg #[.int .i64 a,.int .i64 b,.int .i64 c],.int .i64 x] w fun e w'=>e=.returned (.tuple #[.int .i64 n,.agg #[.int .i64 p,.int .i64 q,.int .i64 y],.bool true])∧Below w.heap.size w w':=by
 obtain⟨b0,hb0⟩:∃b0,b0=w.heap.size:=⟨_,rfl⟩;obtain⟨b1,hb1⟩:∃b1,b1=w.heap.size+1:=⟨_,rfl⟩;have HA:=hid (fun W=>Lc a b c x k hk W);rw[hq,hK]at HA;have hK0:0≤K:=by omega
 have HI:=hid (fun W (h:Row W b0 154 [.int .i64 a,.int .i64 b,.int .i64 c])=>Lf b0 154 a b c x W h);rw[hr]at HI;have d0:decide (x<1)=false:=decide_eq_false (by omega);have d1:decide (65533<x)=false:=decide_eq_false (by omega);have Hb0:=hid hb0;have Hb1:=hid hb1;clear hb0 hb1 hr hq hK;rcases hcase with⟨rfl,rfl,rfl⟩ | ⟨rfl,rfl⟩
 all_goals
  go_enter func129,ntmps129
  go_wp2_with fail
  rw[←Hb1.out,←Hb0.out];have dM:Row ((w.alloc (.cells #[.int .i64 a,.int .i64 b,.int .i64 c] 154)).alloc (.cells #[.int .i64 0,.int .i64 0,.int .i64 0] 154)) b0 154 [.int .i64 a,.int .i64 b,.int .i64 c]:=by rw[Hb0.out];exact(Row.new w _ _).alloc _
  have bV:Row ((w.alloc (.cells #[.int .i64 a,.int .i64 b,.int .i64 c] 154)).alloc (.cells #[.int .i64 0,.int .i64 0,.int .i64 0] 154)) b1 154 [.int .i64 0,.int .i64 0,.int .i64 0]:=by
   have h:=Row.new (w.alloc (.cells #[.int .i64 a,.int .i64 b,.int .i64 c] 154)) 154 [.int .i64 0,.int .i64 0,.int .i64 0];rw[Hb1.out];simpa using h
  have hbel:=((Below.refl w.heap.size w).alloc (Nat.le_refl _) (.cells #[.int .i64 a,.int .i64 b,.int .i64 c] 154)).alloc (by simp) (.cells #[.int .i64 0,.int .i64 0,.int .i64 0] 154);have jg:=hid hbel;generalize (w.alloc (.cells #[.int .i64 a,.int .i64 b,.int .i64 c] 154)).alloc (.cells #[.int .i64 0,.int .i64 0,.int .i64 0] 154)=wA at *;refine(HI.out wA dM).mono ?_;rintro e w' ⟨rfl,rfl⟩;obtain⟨c0,c1,c2⟩:=fQ dM;have gy:=hid bV;have Hlt:=hid (show w.heap.size≤b1 by rw[Hb1.out];omega);clear dM bV hbel Hb0 Hb1 HI d0 d1;go_wp2_with fail
  refine(HA.out wA).mono ?_;rintro e w2 ⟨rfl,hb2⟩;have hrow2:=gy.out.below hb2;have Nt:=hid (jg.out.trans (hb2.mono jg.out.size));clear hb2 gy jg c0 c1 c2 HA;obtain⟨c3,c4,c5⟩:=fQ hrow2;have f3:=hrow2.free 0;have f4:=hrow2.free 1;have f5:=hrow2.free 2;have s0:=(hrow2.aY 0 (.int .i64 p)).cell 0;have s1:=((hrow2.aY 0 (.int .i64 p)).aY 1 (.int .i64 q)).cell 1;have s2:=(((hrow2.aY 0 (.int .i64 p)).aY 1 (.int .i64 q)).aY 2 (.int .i64 y)).cell 2;simp only[List.set_cons_zero,List.set_cons_succ,List.getElem?_cons_zero,List.getElem?_cons_succ]at s0 s1 s2;have S0:=hid s0;have S1:=hid s1;have S2:=hid s2;clear hrow2 s0 s1 s2;go_wp2;have s0:=S0.out;have s1:=S1.out;have s2:=S2.out;refine bodyPost_ret (by simp[results,results129,go_sem,s0,s1,s2]) rfl ⟨rfl,?_⟩;exact((Nt.out.setCell Hlt.out _).setCell Hlt.out _).setCell Hlt.out _
theorem Fe:akz:=by
 intro w a b c x ha hb hc hx;by_cases h:x<1∨65533<x
 ·have hn:nM a b c x=-1:=by unfold nM;rw[if_pos h]
  refine(aaO w a b c x h).mono fun e w' ⟨he,hw⟩=>⟨fun h0=>?_,fun _=>he,hw⟩
  omega
 ·obtain⟨e1,e2,e3,e4⟩:=abo a b c x (by omega) (by omega);obtain⟨p,hp⟩:∃p,p=nV a b c x:=⟨_,rfl⟩;have key:Calls prog 129 #[.agg #[.int .i64 a,.int .i64 b,.int .i64 c],.int .i64 x] w fun e w'=>e=.returned (.tuple #[.int .i64 (nM a b c x),.agg #[.int .i64 p.1,.int .i64 p.2.1,.int .i64 p.2.2],.bool true])∧Below w.heap.size w w':=by
   rw[←hp]at e4;rcases e3 with e3 | ⟨k,e3,hk⟩
   ·rw[e3,if_pos (by omega)]at e1 e4;exact Qe w a b c x (-1) _ 2 2 p.1 p.2.1 p.2.2 (by omega) (by omega) e3 (by omega) e4.symm rfl (.inl ⟨rfl,e1,rfl⟩)
   ·rw[e3,if_neg (by omega)]at e1 e4;rw[Int.toNat_natCast]at e4;exact Qe w a b c x k _ k k p.1 p.2.1 p.2.2 (by omega) (by omega) e3 hk e4.symm rfl (.inr ⟨rfl,e1⟩)
  rw[←hp];exact key.mono fun e w' ⟨he,hw⟩=>⟨fun _=>he,fun h0=>by omega,hw⟩
theorem VF(w:World)(a b c n:Int)(h:n<0):Calls prog 187 #[.agg #[.int .i64 a,.int .i64 b,.int .i64 c],.int .i64 n] w fun e w'=>e=.returned (.tuple #[.int .i64 0,.agg #[.int .i64 a,.int .i64 b,.int .i64 c],.bool false])∧Below w.heap.size w w':=by
 obtain⟨b0,hb0⟩:∃b0,b0=w.heap.size:=⟨_,rfl⟩;obtain⟨b1,hb1⟩:∃b1,b1=w.heap.size+1:=⟨_,rfl⟩;have d0:decide (n<0)=true:=decide_eq_true h;have Hb0:=hid hb0;have Hb1:=hid hb1;clear hb0 hb1 h;go_enter func187,ntmps187
 go_wp2;rw[←Hb1.out,←Hb0.out];have dM:Row ((w.alloc (.cells #[.int .i64 a,.int .i64 b,.int .i64 c] 154)).alloc (.cells #[.int .i64 0,.int .i64 0,.int .i64 0] 154)) b0 154 [.int .i64 a,.int .i64 b,.int .i64 c]:=by rw[Hb0.out];exact(Row.new w _ _).alloc _
 have bV:Row ((w.alloc (.cells #[.int .i64 a,.int .i64 b,.int .i64 c] 154)).alloc (.cells #[.int .i64 0,.int .i64 0,.int .i64 0] 154)) b1 154 [.int .i64 0,.int .i64 0,.int .i64 0]:=by
  have h:=Row.new (w.alloc (.cells #[.int .i64 a,.int .i64 b,.int .i64 c] 154)) 154 [.int .i64 0,.int .i64 0,.int .i64 0];rw[Hb1.out];simpa using h
 have hbel:=((Below.refl w.heap.size w).alloc (Nat.le_refl _) (.cells #[.int .i64 a,.int .i64 b,.int .i64 c] 154)).alloc (by simp) (.cells #[.int .i64 0,.int .i64 0,.int .i64 0] 154);have jg:=hid hbel;generalize (w.alloc (.cells #[.int .i64 a,.int .i64 b,.int .i64 c] 154)).alloc (.cells #[.int .i64 0,.int .i64 0,.int .i64 0] 154)=wA at *;have hne:b0≠b1:=by rw[Hb0.out,Hb1.out];omega
 have hne':b1≠b0:=fun e=>hne e.symm
 obtain⟨c0,c1,c2⟩:=fQ dM;obtain⟨c3,c4,c5⟩:=fQ bV;have f3:=bV.free 0;have f4:=bV.free 1;have f5:=bV.free 2;have s0:=(bV.aY 0 (.int .i64 a)).cell 0;have s1:=((bV.aY 0 (.int .i64 a)).aY 1 (.int .i64 b)).cell 1;have s2:=(((bV.aY 0 (.int .i64 a)).aY 1 (.int .i64 b)).aY 2 (.int .i64 c)).cell 2;simp only[List.set_cons_zero,List.set_cons_succ,List.getElem?_cons_zero,List.getElem?_cons_succ]at s0 s1 s2;have S0:=hid s0;have S1:=hid s1;have S2:=hid s2;have Hlt:=hid (show w.heap.size≤b1 by rw[Hb1.out];omega);clear dM bV hbel s0 s1 s2 Hb0 Hb1 d0;go_region
 go_wp2;have s0:=S0.out;have s1:=S1.out;have s2:=S2.out;refine bodyPost_ret (by simp[results,results187,go_sem,s0,s1,s2]) rfl ⟨rfl,?_⟩;exact(((jg.out.setCell Hlt.out _).setCell Hlt.out _).setCell Hlt.out _).drew
theorem Ar(a b c n:Int)(h:0≤n):(n=0∧xC a b c n=a)∨(n=1∧xC a b c n=b)∨(n=2∧xC a b c n=c)∨(2<n∧xC a b c n=n-2):=by
 unfold xC;by_cases h3:2<n
 ·rw[if_pos h3];exact .inr (.inr (.inr ⟨h3,rfl⟩))
 ·rw[if_neg h3];have:n=0∨n=1∨n=2:=by omega
  rcases this with rfl | rfl | rfl
  ·exact .inl ⟨rfl,by simp⟩
  ·exact .inr (.inl ⟨rfl,by simp⟩)
  ·exact .inr (.inr (.inl ⟨rfl,by simp⟩))
theorem VG(w:World)(a b c n x:Int)(m p q y:Int)(hm:m=n)(hn:0≤n)(hn2:n≤9223372036854775807)(hx:xC a b c n=x)
  (HN:∀W,Calls prog 129 #[.agg #[.int .i64 a,.int .i64 b,.int .i64 c],.int .i64 x] W fun e w'=>e=.returned (.tuple #[.int .i64 m,.agg #[.int .i64 p,.int .i64 q,.int .i64 y],.bool true])∧Below W.heap.size W w') :
  Calls prog 187 #[.agg #[.int .i64 a,.int .i64 b,.int .i64 c],.int .i64 n] w fun e w'=>e=.returned (.tuple #[.int .i64 x,.agg #[.int .i64 p,.int .i64 q,.int .i64 y],.bool true])∧Below w.heap.size w w':=by
 obtain⟨b0,hb0⟩:∃b0,b0=w.heap.size:=⟨_,rfl⟩;obtain⟨b1,hb1⟩:∃b1,b1=w.heap.size+1:=⟨_,rfl⟩;have Hb0:=hid hb0;have Hb1:=hid hb1;have hN:=hid HN;have Em:=hid (show(m != n)=false by simp[hm]);clear hm;have sJ:=Ar a b c n hn;rw[hx]at sJ;clear hb0 hb1 HN hx;rcases sJ with⟨rfl,hx⟩ | ⟨rfl,hx⟩ | ⟨rfl,hx⟩ | ⟨h2,hx⟩
 all_goals
  replace hx:=hx.symm
  subst hx
 case' inr.inr.inr=>
  have d0:decide (n<0)=false:=decide_eq_false (by omega);have d3:decide (n<3)=false:=decide_eq_false (by omega)
 all_goals
  go_enter func187,ntmps187
  go_wp2_with fail
  rw[←Hb1.out,←Hb0.out];have dM:Row ((w.alloc (.cells #[.int .i64 a,.int .i64 b,.int .i64 c] 154)).alloc (.cells #[.int .i64 0,.int .i64 0,.int .i64 0] 154)) b0 154 [.int .i64 a,.int .i64 b,.int .i64 c]:=by rw[Hb0.out];exact(Row.new w _ _).alloc _
  have bV:Row ((w.alloc (.cells #[.int .i64 a,.int .i64 b,.int .i64 c] 154)).alloc (.cells #[.int .i64 0,.int .i64 0,.int .i64 0] 154)) b1 154 [.int .i64 0,.int .i64 0,.int .i64 0]:=by
   have h:=Row.new (w.alloc (.cells #[.int .i64 a,.int .i64 b,.int .i64 c] 154)) 154 [.int .i64 0,.int .i64 0,.int .i64 0];rw[Hb1.out];simpa using h
  have hbel:=((Below.refl w.heap.size w).alloc (Nat.le_refl _) (.cells #[.int .i64 a,.int .i64 b,.int .i64 c] 154)).alloc (by simp) (.cells #[.int .i64 0,.int .i64 0,.int .i64 0] 154);have jg:=hid hbel;generalize (w.alloc (.cells #[.int .i64 a,.int .i64 b,.int .i64 c] 154)).alloc (.cells #[.int .i64 0,.int .i64 0,.int .i64 0] 154)=wA at *;have Hne:=hid (show b0≠b1 by rw[Hb0.out,Hb1.out];omega);have Hlt:=hid (show w.heap.size≤b1 by rw[Hb1.out];omega);have jK:=hid dM;have gy:=hid bV;obtain⟨c0,c1,c2⟩:=fQ dM;clear dM bV hbel Hb0 Hb1;refine(hN.out wA).mono ?_;rintro e w2 ⟨rfl,hb2⟩;have hrA:=jK.out.below hb2;have hrB:=gy.out.below hb2;have HbE:=hid (jg.out.trans (hb2.mono jg.out.size));clear hb2 jK gy jg c0 c1 c2 hN;obtain⟨b2,hb2⟩:∃b2,b2=w2.heap.size:=⟨_,rfl⟩;have Hb2:=hid hb2;clear hb2;have e1:=Em.out;go_wp2;rw[←Hb2.out];have aaE:Row (w2.alloc (.cells #[.int .i64 p,.int .i64 q,.int .i64 y] 154)) b0 154 _:=hrA.alloc _;have sK:Row (w2.alloc (.cells #[.int .i64 p,.int .i64 q,.int .i64 y] 154)) b1 154 _:=hrB.alloc _;have acK:Row (w2.alloc (.cells #[.int .i64 p,.int .i64 q,.int .i64 y] 154)) b2 154 [.int .i64 p,.int .i64 q,.int .i64 y]:=by rw[Hb2.out];exact Row.new w2 _ _
  have aeC:b2≠b1:=fun e=>by have:=hrB.lt;rw[Hb2.out]at e;omega
  have aiY:b1≠b2:=fun e=>aeC e.symm
  have hne:=Hne.out;have hne':b1≠b0:=fun e=>hne e.symm
  have HbF:=hid (HbE.out.alloc HbE.out.size (.cells #[.int .i64 p,.int .i64 q,.int .i64 y] 154));generalize (w2.alloc (.cells #[.int .i64 p,.int .i64 q,.int .i64 y] 154))=wB at *;obtain⟨c0,c1,c2⟩:=fQ acK;obtain⟨c3,c4,c5⟩:=fQ sK;have f3:=sK.free 0;have f4:=sK.free 1;have f5:=sK.free 2;have s0:=(sK.aY 0 (.int .i64 p)).cell 0;have s1:=((sK.aY 0 (.int .i64 p)).aY 1 (.int .i64 q)).cell 1;have s2:=(((sK.aY 0 (.int .i64 p)).aY 1 (.int .i64 q)).aY 2 (.int .i64 y)).cell 2;simp only[List.set_cons_zero,List.set_cons_succ,List.getElem?_cons_zero,List.getElem?_cons_succ]at s0 s1 s2;have S0:=hid s0;have S1:=hid s1;have S2:=hid s2;clear hrA hrB aaE sK acK s0 s1 s2 HbE Hb2 Hne;go_region
  go_wp2;have s0:=S0.out;have s1:=S1.out;have s2:=S2.out;refine bodyPost_ret (by simp[results,results187,go_sem,s0,s1,s2]) rfl ⟨rfl,?_⟩;exact(((HbF.out.setCell Hlt.out _).setCell Hlt.out _).setCell Hlt.out _).drew
theorem VE(w:World)(a b c n x:Int)(m p q y:Int)(hn:0≤n)(hn2:n≤9223372036854775807)(hx:xC a b c n=x)
  (HN:∀W,Calls prog 129 #[.agg #[.int .i64 a,.int .i64 b,.int .i64 c],.int .i64 x] W fun e w'=>e=.returned (.tuple #[.int .i64 m,.agg #[.int .i64 p,.int .i64 q,.int .i64 y],.bool false])∧Below W.heap.size W w') :
  Calls prog 187 #[.agg #[.int .i64 a,.int .i64 b,.int .i64 c],.int .i64 n] w fun e w'=>e=.returned (.tuple #[.int .i64 0,.agg #[.int .i64 a,.int .i64 b,.int .i64 c],.bool false])∧Below w.heap.size w w':=by
 obtain⟨b0,hb0⟩:∃b0,b0=w.heap.size:=⟨_,rfl⟩;obtain⟨b1,hb1⟩:∃b1,b1=w.heap.size+1:=⟨_,rfl⟩;have Hb0:=hid hb0;have Hb1:=hid hb1;have hN:=hid HN;have sJ:=Ar a b c n hn;rw[hx]at sJ;clear hb0 hb1 HN hx;rcases sJ with⟨rfl,hx⟩ | ⟨rfl,hx⟩ | ⟨rfl,hx⟩ | ⟨h2,hx⟩
 all_goals
  replace hx:=hx.symm
  subst hx
 case' inr.inr.inr=>
  have d0:decide (n<0)=false:=decide_eq_false (by omega);have d3:decide (n<3)=false:=decide_eq_false (by omega)
 all_goals
  go_enter func187,ntmps187
  go_wp2_with fail
  rw[←Hb1.out,←Hb0.out];have dM:Row ((w.alloc (.cells #[.int .i64 a,.int .i64 b,.int .i64 c] 154)).alloc (.cells #[.int .i64 0,.int .i64 0,.int .i64 0] 154)) b0 154 [.int .i64 a,.int .i64 b,.int .i64 c]:=by rw[Hb0.out];exact(Row.new w _ _).alloc _
  have bV:Row ((w.alloc (.cells #[.int .i64 a,.int .i64 b,.int .i64 c] 154)).alloc (.cells #[.int .i64 0,.int .i64 0,.int .i64 0] 154)) b1 154 [.int .i64 0,.int .i64 0,.int .i64 0]:=by
   have h:=Row.new (w.alloc (.cells #[.int .i64 a,.int .i64 b,.int .i64 c] 154)) 154 [.int .i64 0,.int .i64 0,.int .i64 0];rw[Hb1.out];simpa using h
  have hbel:=((Below.refl w.heap.size w).alloc (Nat.le_refl _) (.cells #[.int .i64 a,.int .i64 b,.int .i64 c] 154)).alloc (by simp) (.cells #[.int .i64 0,.int .i64 0,.int .i64 0] 154);have jg:=hid hbel;generalize (w.alloc (.cells #[.int .i64 a,.int .i64 b,.int .i64 c] 154)).alloc (.cells #[.int .i64 0,.int .i64 0,.int .i64 0] 154)=wA at *;have Hne:=hid (show b0≠b1 by rw[Hb0.out,Hb1.out];omega);have Hlt:=hid (show w.heap.size≤b1 by rw[Hb1.out];omega);have jK:=hid dM;have gy:=hid bV;obtain⟨c0,c1,c2⟩:=fQ dM;clear dM bV hbel Hb0 Hb1;refine(hN.out wA).mono ?_;rintro e w2 ⟨rfl,hb2⟩;have hrA:=jK.out.below hb2;have hrB:=gy.out.below hb2;have HbE:=hid (jg.out.trans (hb2.mono jg.out.size));clear hb2 jK gy jg c0 c1 c2 hN;obtain⟨b2,hb2⟩:∃b2,b2=w2.heap.size:=⟨_,rfl⟩;have Hb2:=hid hb2;clear hb2;go_wp2;rw[←Hb2.out];have aaE:Row (w2.alloc (.cells #[.int .i64 p,.int .i64 q,.int .i64 y] 154)) b0 154 _:=hrA.alloc _;have sK:Row (w2.alloc (.cells #[.int .i64 p,.int .i64 q,.int .i64 y] 154)) b1 154 _:=hrB.alloc _;have acK:Row (w2.alloc (.cells #[.int .i64 p,.int .i64 q,.int .i64 y] 154)) b2 154 [.int .i64 p,.int .i64 q,.int .i64 y]:=by rw[Hb2.out];exact Row.new w2 _ _
  have aeC:b2≠b1:=fun e=>by have:=hrB.lt;rw[Hb2.out]at e;omega
  have aiY:b1≠b2:=fun e=>aeC e.symm
  have hne:=Hne.out;have hne':b1≠b0:=fun e=>hne e.symm
  have HbF:=hid (HbE.out.alloc HbE.out.size (.cells #[.int .i64 p,.int .i64 q,.int .i64 y] 154));generalize (w2.alloc (.cells #[.int .i64 p,.int .i64 q,.int .i64 y] 154))=wB at *;obtain⟨c0,c1,c2⟩:=fQ aaE;obtain⟨c3,c4,c5⟩:=fQ sK;have f3:=sK.free 0;have f4:=sK.free 1;have f5:=sK.free 2;have s0:=(sK.aY 0 (.int .i64 a)).cell 0;have s1:=((sK.aY 0 (.int .i64 a)).aY 1 (.int .i64 b)).cell 1;have s2:=(((sK.aY 0 (.int .i64 a)).aY 1 (.int .i64 b)).aY 2 (.int .i64 c)).cell 2;simp only[List.set_cons_zero,List.set_cons_succ,List.getElem?_cons_zero,List.getElem?_cons_succ]at s0 s1 s2;have S0:=hid s0;have S1:=hid s1;have S2:=hid s2;clear hrA hrB aaE sK acK s0 s1 s2 HbE Hb2 Hne;go_region
  go_wp2;have s0:=S0.out;have s1:=S1.out;have s2:=S2.out;refine bodyPost_ret (by simp[results,results187,go_sem,s0,s1,s2]) rfl ⟨rfl,?_⟩;exact(((HbF.out.setCell Hlt.out _).setCell Hlt.out _).setCell Hlt.out _).drew
theorem Lg(w:World)(a b c n x:Int)(m p q y:Int)(hm:m≠n)(hn:0≤n)(hn2:n≤9223372036854775807)(hx:xC a b c n=x)
  (HN:∀W,Calls prog 129 #[.agg #[.int .i64 a,.int .i64 b,.int .i64 c],.int .i64 x] W fun e w'=>e=.returned (.tuple #[.int .i64 m,.agg #[.int .i64 p,.int .i64 q,.int .i64 y],.bool true])∧Below W.heap.size W w') :
  Calls prog 187 #[.agg #[.int .i64 a,.int .i64 b,.int .i64 c],.int .i64 n] w fun e w'=>e=.returned (.tuple #[.int .i64 0,.agg #[.int .i64 a,.int .i64 b,.int .i64 c],.bool false])∧Below w.heap.size w w':=by
 obtain⟨b0,hb0⟩:∃b0,b0=w.heap.size:=⟨_,rfl⟩;obtain⟨b1,hb1⟩:∃b1,b1=w.heap.size+1:=⟨_,rfl⟩;have Hb0:=hid hb0;have Hb1:=hid hb1;have hN:=hid HN;have Em:=hid (show(m != n)=true by simp[hm]);clear hm;have sJ:=Ar a b c n hn;rw[hx]at sJ;clear hb0 hb1 HN hx;rcases sJ with⟨rfl,hx⟩ | ⟨rfl,hx⟩ | ⟨rfl,hx⟩ | ⟨h2,hx⟩
 all_goals
  replace hx:=hx.symm
  subst hx
 case' inr.inr.inr=>
  have d0:decide (n<0)=false:=decide_eq_false (by omega);have d3:decide (n<3)=false:=decide_eq_false (by omega)
 all_goals
  go_enter func187,ntmps187
  go_wp2_with fail
  rw[←Hb1.out,←Hb0.out];have dM:Row ((w.alloc (.cells #[.int .i64 a,.int .i64 b,.int .i64 c] 154)).alloc (.cells #[.int .i64 0,.int .i64 0,.int .i64 0] 154)) b0 154 [.int .i64 a,.int .i64 b,.int .i64 c]:=by rw[Hb0.out];exact(Row.new w _ _).alloc _
  have bV:Row ((w.alloc (.cells #[.int .i64 a,.int .i64 b,.int .i64 c] 154)).alloc (.cells #[.int .i64 0,.int .i64 0,.int .i64 0] 154)) b1 154 [.int .i64 0,.int .i64 0,.int .i64 0]:=by
   have h:=Row.new (w.alloc (.cells #[.int .i64 a,.int .i64 b,.int .i64 c] 154)) 154 [.int .i64 0,.int .i64 0,.int .i64 0];rw[Hb1.out];simpa using h
  have hbel:=((Below.refl w.heap.size w).alloc (Nat.le_refl _) (.cells #[.int .i64 a,.int .i64 b,.int .i64 c] 154)).alloc (by simp) (.cells #[.int .i64 0,.int .i64 0,.int .i64 0] 154);have jg:=hid hbel;generalize (w.alloc (.cells #[.int .i64 a,.int .i64 b,.int .i64 c] 154)).alloc (.cells #[.int .i64 0,.int .i64 0,.int .i64 0] 154)=wA at *;have Hne:=hid (show b0≠b1 by rw[Hb0.out,Hb1.out];omega);have Hlt:=hid (show w.heap.size≤b1 by rw[Hb1.out];omega);have jK:=hid dM;have gy:=hid bV;obtain⟨c0,c1,c2⟩:=fQ dM;clear dM bV hbel Hb0 Hb1;refine(hN.out wA).mono ?_;rintro e w2 ⟨rfl,hb2⟩;have hrA:=jK.out.below hb2;have hrB:=gy.out.below hb2;have HbE:=hid (jg.out.trans (hb2.mono jg.out.size));clear hb2 jK gy jg c0 c1 c2 hN;obtain⟨b2,hb2⟩:∃b2,b2=w2.heap.size:=⟨_,rfl⟩;have Hb2:=hid hb2;clear hb2;have e1:=Em.out;go_wp2;rw[←Hb2.out];have aaE:Row (w2.alloc (.cells #[.int .i64 p,.int .i64 q,.int .i64 y] 154)) b0 154 _:=hrA.alloc _;have sK:Row (w2.alloc (.cells #[.int .i64 p,.int .i64 q,.int .i64 y] 154)) b1 154 _:=hrB.alloc _;have acK:Row (w2.alloc (.cells #[.int .i64 p,.int .i64 q,.int .i64 y] 154)) b2 154 [.int .i64 p,.int .i64 q,.int .i64 y]:=by rw[Hb2.out];exact Row.new w2 _ _
  have aeC:b2≠b1:=fun e=>by have:=hrB.lt;rw[Hb2.out]at e;omega
  have aiY:b1≠b2:=fun e=>aeC e.symm
  have hne:=Hne.out;have hne':b1≠b0:=fun e=>hne e.symm
  have HbF:=hid (HbE.out.alloc HbE.out.size (.cells #[.int .i64 p,.int .i64 q,.int .i64 y] 154));generalize (w2.alloc (.cells #[.int .i64 p,.int .i64 q,.int .i64 y] 154))=wB at *;obtain⟨c0,c1,c2⟩:=fQ aaE;obtain⟨c3,c4,c5⟩:=fQ sK;have f3:=sK.free 0;have f4:=sK.free 1;have f5:=sK.free 2;have s0:=(sK.aY 0 (.int .i64 a)).cell 0;have s1:=((sK.aY 0 (.int .i64 a)).aY 1 (.int .i64 b)).cell 1;have s2:=(((sK.aY 0 (.int .i64 a)).aY 1 (.int .i64 b)).aY 2 (.int .i64 c)).cell 2;simp only[List.set_cons_zero,List.set_cons_succ,List.getElem?_cons_zero,List.getElem?_cons_succ]at s0 s1 s2;have S0:=hid s0;have S1:=hid s1;have S2:=hid s2;clear hrA hrB aaE sK acK s0 s1 s2 HbE Hb2 Hne;go_region
  go_wp2;have s0:=S0.out;have s1:=S1.out;have s2:=S2.out;refine bodyPost_ret (by simp[results,results187,go_sem,s0,s1,s2]) rfl ⟨rfl,?_⟩;exact(((HbF.out.setCell Hlt.out _).setCell Hlt.out _).setCell Hlt.out _).drew
theorem Qf:akA:=by
 intro w a b c n ha hb hc hn;by_cases h0:n<0
 ·have e:xB a b c n=none:=by unfold xB;rw[if_pos (.inl h0)]
  refine(VF w a b c n h0).mono fun e' w' ⟨he,hw⟩=>⟨fun x hx=>?_,fun _=>he,hw⟩
  rw[e]at hx;cases hx
 ·obtain⟨x,hx⟩:∃x,xC a b c n=x:=⟨_,rfl⟩;have alk:lQ x:=by
   rcases Ar a b c n (by omega)with⟨_,h⟩ | ⟨_,h⟩ | ⟨_,h⟩ | ⟨h2,h⟩<;>rw[←hx,h]
   ·exact ha
   ·exact hb
   ·exact hc
   ·unfold lQ at *;omega
  unfold lQ at hn;have HN:=fun W=>Fe W a b c x ha hb hc alk
  have hcs:=yR a b c x;by_cases hin:0≤nM a b c x
  ·have HY:=fun W=>(HN W).mono fun e w' h=>And.intro (h.1 hin) h.2.2
   by_cases hm:nM a b c x=n
   ·have e:xB a b c n=some x:=by unfold xB;rw[if_neg (by omega),hx,if_pos hm]
    refine(VG w a b c n x _ _ _ _ hm (by omega) (by omega) hx HY).mono fun e' w' ⟨he,hw⟩=>⟨fun z hz=>?_,fun hz=>?_,hw⟩
    ·rw[e]at hz;injection hz with hz
     rw[←hz];exact he
    ·rw[e]at hz;cases hz
   ·have e:xB a b c n=none:=by
     unfold xB;split
     ·rfl
     ·rw[hx,if_neg hm]
    refine(Lg w a b c n x _ _ _ _ hm (by omega) (by omega) hx HY).mono fun e' w' ⟨he,hw⟩=>⟨fun z hz=>?_,fun _=>he,hw⟩
    rw[e]at hz;cases hz
  ·have HY:=fun W=>(HN W).mono fun e w' h=>And.intro (h.2.1 (by omega)) h.2.2
   have e:xB a b c n=none:=by
    unfold xB;split
    ·rfl
    ·rw[hx,if_neg (by omega)]
   refine(VE w a b c n x _ _ _ _ (by omega) (by omega) hx HY).mono fun e' w' ⟨he,hw⟩=>⟨fun z hz=>?_,fun _=>he,hw⟩
   rw[e]at hz;cases hz
end Go.Proofs.YtgiicohbigiapaaGreat
