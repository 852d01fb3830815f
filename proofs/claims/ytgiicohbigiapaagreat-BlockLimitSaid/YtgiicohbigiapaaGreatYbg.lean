/- Contracts, and what they rest on. Conditions: the theorems' premises. -/
import Derived.Test.YtgiicohbigiapaaGreatYaf
import Derived.Test.YtgiicohbigiapaaGreatYar
set_option maxHeartbeats 4000000
set_option maxRecDepth 100000
open Go.Lib(hid)
open Go.Proofs.Tryz Go.Proofs.YtgiicohbigiapaaGreat.Bm
namespace Go.Proofs.YtgiicohbigiapaaGreat
open Go.RowKit
theorem four(w:World)(t0 t1 t2 t3:TypeId)(l0 l1 l2 l3:List Value):∃W b0 b1 b2 b3,(((w.alloc (.cells l0.toArray t0)).alloc (.cells l1.toArray t1)).alloc (.cells l2.toArray t2)).alloc (.cells l3.toArray t3)=W ∧
  w.heap.size=b0∧w.heap.size+1=b1∧w.heap.size+1+1=b2∧w.heap.size+1+1+1=b3∧Row W b0 t0 l0∧Row W b1 t1 l1∧Row W b2 t2 l2∧Row W b3 t3 l3∧Below w.heap.size w W:=by
 have h0:=Row.new w t0 l0;have h1:=Row.new (w.alloc (.cells l0.toArray t0)) t1 l1;have h2:=Row.new ((w.alloc (.cells l0.toArray t0)).alloc (.cells l1.toArray t1)) t2 l2;have h3:=Row.new (((w.alloc (.cells l0.toArray t0)).alloc (.cells l1.toArray t1)).alloc (.cells l2.toArray t2)) t3 l3;have k1:(w.alloc (.cells l0.toArray t0)).heap.size=w.heap.size+1:=by simp
 have k2:((w.alloc (.cells l0.toArray t0)).alloc (.cells l1.toArray t1)).heap.size=w.heap.size+1+1:=by simp
 have k3:(((w.alloc (.cells l0.toArray t0)).alloc (.cells l1.toArray t1)).alloc (.cells l2.toArray t2)).heap.size=w.heap.size+1+1+1:=by simp
 rw[k1]at h1;rw[k2]at h2;rw[k3]at h3;exact⟨_,_,_,_,_,rfl,rfl,rfl,rfl,rfl,((h0.alloc _).alloc _).alloc _,(h1.alloc _).alloc _,h2.alloc _,h3,
  ((((Below.refl w.heap.size w).alloc (Nat.le_refl _) _).alloc (by simp) _).alloc (by simp;omega) _).alloc (by simp;omega) _⟩
theorem Js(w:World)(l m o a b c n p q y m':Int)(ok:Bool)(hm:IntKind.i64.wrap (m-3)=m')
  (HN:∀W,Calls prog 129 #[.agg #[.int .i64 a,.int .i64 b,.int .i64 c],.int .i64 o] W fun e w'=>e=.returned (.tuple #[.int .i64 n,.agg #[.int .i64 p,.int .i64 q,.int .i64 y],.bool ok])∧Below W.heap.size W w') :
  Calls prog 97 #[.agg #[.int .i64 l,.int .i64 m,.int .i64 o],.agg #[.int .i64 a,.int .i64 b,.int .i64 c]] w fun e w'=>e=.returned (.tuple #[.agg #[.int .i64 l,.int .i64 m',.int .i64 n],.agg #[.int .i64 p,.int .i64 q,.int .i64 y],.bool ok])∧Below w.heap.size w w':=by
 have hN:=hid HN;obtain⟨W,b0,b1,b2,b3,hW,e0,e1,e2,e3,r0,r1,r2,r3,hbel⟩:=four w 118 154 30 154 [.int .i64 l,.int .i64 m,.int .i64 o] [.int .i64 a,.int .i64 b,.int .i64 c] [.int .i64 0,.int .i64 0,.int .i64 0] [.int .i64 0,.int .i64 0,.int .i64 0];have Hm:=hid hm;have HW:=hid hW;have He:=hid (⟨e0,e1,e2,e3⟩:_∧_∧_∧_);have Hr:=hid (⟨r0,r2,r3,hbel⟩:_∧_∧_∧_);clear HN hW e0 e1 e2 e3 r0 r1 r2 r3 hbel hm;go_enter func97,ntmps97
 go_wp2_with fail
 rw[HW.out,He.out.2.2.2,He.out.2.2.1,He.out.2.1,He.out.1];have aaz:b0<b2∧b2<b3∧w.heap.size≤b2:=by have:=He.out;omega
 clear HW He;refine(hN.out W).mono ?_;rintro e w2 ⟨rfl,hb2⟩;obtain⟨r0,r2,r3,hbel⟩:=Hr.out;have r0:=(r0.below hb2).alloc (.cells #[.int .i64 p,.int .i64 q,.int .i64 y] 154);have r2:=(r2.below hb2).alloc (.cells #[.int .i64 p,.int .i64 q,.int .i64 y] 154);have agT:=(r3.below hb2).lt;have r3:=(r3.below hb2).alloc (.cells #[.int .i64 p,.int .i64 q,.int .i64 y] 154);have hbel:=hbel.trans (hb2.mono hbel.size);have r4:=Row.new w2 154 [.int .i64 p,.int .i64 q,.int .i64 y];obtain⟨b4,hb4⟩:∃b4,w2.heap.size=b4:=⟨_,rfl⟩;have hbel:=hbel.alloc hbel.size (.cells #[.int .i64 p,.int .i64 q,.int .i64 y] 154);have Hb4:=hid hb4;rw[hb4]at r4 agT;have HB:=hid hbel;have H0:=hid r0;have H2:=hid r2;have H3:=hid r3;have H4:=hid r4;clear Hr hN hb2 hbel r0 r2 r3 r4 hb4;have em:=Hm.out;go_wp2_with fail
 rw[Hb4.out];obtain⟨c0,c1,c2⟩:=fQ H0.out;obtain⟨c3,c4,c5⟩:=fQ H4.out;have f0:=H2.out.free 0;have f1:=H2.out.free 1;have f2:=H2.out.free 2;have f3:=H3.out.free 0;have f4:=H3.out.free 1;have f5:=H3.out.free 2;obtain⟨d0,d1,d2⟩:=fQ H2.out;obtain⟨d3,d4,d5⟩:=fQ H3.out;have n1:b2≠b3:=by omega
 have n2:b3≠b2:=by omega
 have n3:b0≠b2:=by omega
 have n4:b0≠b3:=by omega
 have n5:b4≠b2:=by omega
 have n6:b4≠b3:=by omega
 generalize (w2.alloc (.cells #[.int .i64 p,.int .i64 q,.int .i64 y] 154))=wB at *;clear Hb4;go_region
 have z2:=(((((H2.out.aY 0 (.int .i64 l)).aY 1 (.int .i64 m')).aY 2 (.int .i64 n)).far (p:=⟨b3,0,none⟩) n1 (.int .i64 p)).far (p:=⟨b3,1,none⟩) n1 (.int .i64 q)).far (p:=⟨b3,2,none⟩) n1 (.int .i64 y);have z3:=(((((H3.out.far (p:=⟨b2,0,none⟩) n2 (.int .i64 l)).far (p:=⟨b2,1,none⟩) n2 (.int .i64 m')).far (p:=⟨b2,2,none⟩) n2 (.int .i64 n)).aY 0 (.int .i64 p)).aY 1 (.int .i64 q)).aY 2 (.int .i64 y);have HF:=hid ((((((HB.out.setCell (p:=⟨b2,0,none⟩) aaz.2.2 (.int .i64 l)).setCell (p:=⟨b2,1,none⟩) aaz.2.2 (.int .i64 m')).setCell (p:=⟨b2,2,none⟩) aaz.2.2 (.int .i64 n)).setCell (p:=⟨b3,0,none⟩) (by show w.heap.size≤b3;omega) (.int .i64 p)).setCell (p:=⟨b3,1,none⟩) (by show w.heap.size≤b3;omega) (.int .i64 q)).setCell (p:=⟨b3,2,none⟩) (by show w.heap.size≤b3;omega) (.int .i64 y)).drew;simp only[List.set_cons_zero,List.set_cons_succ]at z2 z3;obtain⟨x0,x1,x2⟩:=fQ z2;obtain⟨y0,y1,y2⟩:=fQ z3;have hX:=hid (⟨x0,x1,x2,y0,y1,y2⟩:_∧_∧_∧_∧_∧_);clear c0 c1 c2 c3 c4 c5 f0 f1 f2 f3 f4 f5 d0 d1 d2 d3 d4 d5 x0 x1 x2 y0 y1 y2 z2 z3 n1 n2 n3 n4 n5 n6;generalize ((((((wB.setCell ⟨b2,0,none⟩ (.int .i64 l)).setCell ⟨b2,1,none⟩ (.int .i64 m')).setCell ⟨b2,2,none⟩ (.int .i64 n)).setCell ⟨b3,0,none⟩ (.int .i64 p)).setCell ⟨b3,1,none⟩ (.int .i64 q)).setCell ⟨b3,2,none⟩ (.int .i64 y))=wC at *;go_wp2;obtain⟨x0,x1,x2,y0,y1,y2⟩:=hX.out;exact bodyPost_ret (by simp[results,results97,go_sem,x0,x1,x2,y0,y1,y2]) rfl ⟨rfl,HF.out⟩
theorem Ju(w:World)(l m o a b c n p q y m':Int)(ok:Bool)(hm:IntKind.i64.wrap (m+3)=m')
  (HN:∀W,Calls prog 187 #[.agg #[.int .i64 a,.int .i64 b,.int .i64 c],.int .i64 o] W fun e w'=>e=.returned (.tuple #[.int .i64 n,.agg #[.int .i64 p,.int .i64 q,.int .i64 y],.bool ok])∧Below W.heap.size W w') :
  Calls prog 150 #[.agg #[.int .i64 l,.int .i64 m,.int .i64 o],.agg #[.int .i64 a,.int .i64 b,.int .i64 c]] w fun e w'=>e=.returned (.tuple #[.agg #[.int .i64 l,.int .i64 m',.int .i64 n],.agg #[.int .i64 p,.int .i64 q,.int .i64 y],.bool ok])∧Below w.heap.size w w':=by
 have hN:=hid HN;obtain⟨W,b0,b1,b2,b3,hW,e0,e1,e2,e3,r0,r1,r2,r3,hbel⟩:=four w 30 154 118 154 [.int .i64 l,.int .i64 m,.int .i64 o] [.int .i64 a,.int .i64 b,.int .i64 c] [.int .i64 0,.int .i64 0,.int .i64 0] [.int .i64 0,.int .i64 0,.int .i64 0];have Hm:=hid hm;have HW:=hid hW;have He:=hid (⟨e0,e1,e2,e3⟩:_∧_∧_∧_);have Hr:=hid (⟨r0,r2,r3,hbel⟩:_∧_∧_∧_);clear HN hW e0 e1 e2 e3 r0 r1 r2 r3 hbel hm;go_enter func150,ntmps150
 go_wp2_with fail
 rw[HW.out,He.out.2.2.2,He.out.2.2.1,He.out.2.1,He.out.1];have aaz:b0<b2∧b2<b3∧w.heap.size≤b2:=by have:=He.out;omega
 clear HW He;refine(hN.out W).mono ?_;rintro e w2 ⟨rfl,hb2⟩;obtain⟨r0,r2,r3,hbel⟩:=Hr.out;have r0:=(r0.below hb2).alloc (.cells #[.int .i64 p,.int .i64 q,.int .i64 y] 154);have r2:=(r2.below hb2).alloc (.cells #[.int .i64 p,.int .i64 q,.int .i64 y] 154);have agT:=(r3.below hb2).lt;have r3:=(r3.below hb2).alloc (.cells #[.int .i64 p,.int .i64 q,.int .i64 y] 154);have hbel:=hbel.trans (hb2.mono hbel.size);have r4:=Row.new w2 154 [.int .i64 p,.int .i64 q,.int .i64 y];obtain⟨b4,hb4⟩:∃b4,w2.heap.size=b4:=⟨_,rfl⟩;have hbel:=hbel.alloc hbel.size (.cells #[.int .i64 p,.int .i64 q,.int .i64 y] 154);have Hb4:=hid hb4;rw[hb4]at r4 agT;have HB:=hid hbel;have H0:=hid r0;have H2:=hid r2;have H3:=hid r3;have H4:=hid r4;clear Hr hN hb2 hbel r0 r2 r3 r4 hb4;have em:=Hm.out;go_wp2_with fail
 rw[Hb4.out];obtain⟨c0,c1,c2⟩:=fQ H0.out;obtain⟨c3,c4,c5⟩:=fQ H4.out;have f0:=H2.out.free 0;have f1:=H2.out.free 1;have f2:=H2.out.free 2;have f3:=H3.out.free 0;have f4:=H3.out.free 1;have f5:=H3.out.free 2;obtain⟨d0,d1,d2⟩:=fQ H2.out;obtain⟨d3,d4,d5⟩:=fQ H3.out;have n1:b2≠b3:=by omega
 have n2:b3≠b2:=by omega
 have n3:b0≠b2:=by omega
 have n4:b0≠b3:=by omega
 have n5:b4≠b2:=by omega
 have n6:b4≠b3:=by omega
 generalize (w2.alloc (.cells #[.int .i64 p,.int .i64 q,.int .i64 y] 154))=wB at *;clear Hb4;go_region
 have z2:=(((((H2.out.aY 0 (.int .i64 l)).aY 1 (.int .i64 m')).aY 2 (.int .i64 n)).far (p:=⟨b3,0,none⟩) n1 (.int .i64 p)).far (p:=⟨b3,1,none⟩) n1 (.int .i64 q)).far (p:=⟨b3,2,none⟩) n1 (.int .i64 y);have z3:=(((((H3.out.far (p:=⟨b2,0,none⟩) n2 (.int .i64 l)).far (p:=⟨b2,1,none⟩) n2 (.int .i64 m')).far (p:=⟨b2,2,none⟩) n2 (.int .i64 n)).aY 0 (.int .i64 p)).aY 1 (.int .i64 q)).aY 2 (.int .i64 y);have HF:=hid ((((((HB.out.setCell (p:=⟨b2,0,none⟩) aaz.2.2 (.int .i64 l)).setCell (p:=⟨b2,1,none⟩) aaz.2.2 (.int .i64 m')).setCell (p:=⟨b2,2,none⟩) aaz.2.2 (.int .i64 n)).setCell (p:=⟨b3,0,none⟩) (by show w.heap.size≤b3;omega) (.int .i64 p)).setCell (p:=⟨b3,1,none⟩) (by show w.heap.size≤b3;omega) (.int .i64 q)).setCell (p:=⟨b3,2,none⟩) (by show w.heap.size≤b3;omega) (.int .i64 y)).drew;simp only[List.set_cons_zero,List.set_cons_succ]at z2 z3;obtain⟨x0,x1,x2⟩:=fQ z2;obtain⟨y0,y1,y2⟩:=fQ z3;have hX:=hid (⟨x0,x1,x2,y0,y1,y2⟩:_∧_∧_∧_∧_∧_);clear c0 c1 c2 c3 c4 c5 f0 f1 f2 f3 f4 f5 d0 d1 d2 d3 d4 d5 x0 x1 x2 y0 y1 y2 z2 z3 n1 n2 n3 n4 n5 n6;generalize ((((((wB.setCell ⟨b2,0,none⟩ (.int .i64 l)).setCell ⟨b2,1,none⟩ (.int .i64 m')).setCell ⟨b2,2,none⟩ (.int .i64 n)).setCell ⟨b3,0,none⟩ (.int .i64 p)).setCell ⟨b3,1,none⟩ (.int .i64 q)).setCell ⟨b3,2,none⟩ (.int .i64 y))=wC at *;go_wp2;obtain⟨x0,x1,x2,y0,y1,y2⟩:=hX.out;exact bodyPost_ret (by simp[results,results150,go_sem,x0,x1,x2,y0,y1,y2]) rfl ⟨rfl,HF.out⟩
theorem Ru(w:World)(a b c:Int)(s:StZ)(ha:lQ a)(hb:lQ b)(hc:lQ c)(hs:1≤s.2.2∧s.2.2≤65533) :
  Calls prog 97 #[.agg #[.int .i64 s.1,.int .i64 s.2.1,.int .i64 s.2.2],.agg #[.int .i64 a,.int .i64 b,.int .i64 c]] w fun e w'=>
   e=.returned (.tuple #[.agg #[.int .i64 s.1,.int .i64 (IntKind.i64.wrap (s.2.1-3)),.int .i64 (nM a b c s.2.2)],.agg #[.int .i64 (nV a b c s.2.2).1,.int .i64 (nV a b c s.2.2).2.1,.int .i64 (nV a b c s.2.2).2.2],.bool true])∧Below w.heap.size w w':=
 Js w s.1 s.2.1 s.2.2 a b c _ _ _ _ _ true rfl fun W=>(Fe W a b c s.2.2 ha hb hc (by unfold lQ;omega)).mono fun e w' ⟨h1,_,h3⟩=>⟨h1 (Aq a b c s.2.2 hs.1 hs.2).1,h3⟩
theorem WK(w:World)(a b c:Int)(s:StZ)(ha:lQ a)(hb:lQ b)(hc:lQ c)(ho:lQ s.2.2)(hs:¬(1≤s.2.2∧s.2.2≤65533)) :
  Calls prog 97 #[.agg #[.int .i64 s.1,.int .i64 s.2.1,.int .i64 s.2.2],.agg #[.int .i64 a,.int .i64 b,.int .i64 c]] w fun e w'=>
   e=.returned (.tuple #[.agg #[.int .i64 s.1,.int .i64 (IntKind.i64.wrap (s.2.1-3)),.int .i64 0],.agg #[.int .i64 a,.int .i64 b,.int .i64 c],.bool false])∧Below w.heap.size w w':=
 Js w s.1 s.2.1 s.2.2 a b c _ _ _ _ _ false rfl fun W=>(Fe W a b c s.2.2 ha hb hc ho).mono fun e w' ⟨_,h2,h3⟩=>⟨h2 (by unfold nM;rw[if_pos (by omega)];omega),h3⟩
theorem Rw(w:World)(a b c x:Int)(l m o:Nat)(ha:lQ a)(hb:lQ b)(hc:lQ c)(hm:m≤65535)(ho:o≤65535)(hx:xB a b c (o:Int)=some x) :
  Calls prog 150 #[.agg #[.int .i64 (l:Int),.int .i64 (m:Int),.int .i64 (o:Int)],.agg #[.int .i64 a,.int .i64 b,.int .i64 c]] w fun e w'=>
   e=.returned (.tuple #[.agg #[.int .i64 (l:Int),.int .i64 ((m+3:Nat):Int),.int .i64 x],.agg #[.int .i64 (nV a b c x).1,.int .i64 (nV a b c x).2.1,.int .i64 (nV a b c x).2.2],.bool true])∧Below w.heap.size w w':=
 Ju w l m o a b c _ _ _ _ _ true (by rw[IntWalk.i64_in _ (by omega)];omega) fun W=>(Qf W a b c o ha hb hc (by unfold lQ;omega)).mono fun e w' ⟨h1,_,h3⟩=>⟨h1 x hx,h3⟩
theorem WQ(w:World)(a b c:Int)(l m o:Nat)(ha:lQ a)(hb:lQ b)(hc:lQ c)(hm:m≤65535)(ho:o≤65535)(hx:xB a b c (o:Int)=none) :
  Calls prog 150 #[.agg #[.int .i64 (l:Int),.int .i64 (m:Int),.int .i64 (o:Int)],.agg #[.int .i64 a,.int .i64 b,.int .i64 c]] w fun e w'=>
   e=.returned (.tuple #[.agg #[.int .i64 (l:Int),.int .i64 ((m+3:Nat):Int),.int .i64 0],.agg #[.int .i64 a,.int .i64 b,.int .i64 c],.bool false])∧Below w.heap.size w w':=
 Ju w l m o a b c _ _ _ _ _ false (by rw[IntWalk.i64_in _ (by omega)];omega) fun W=>(Qf W a b c o ha hb hc (by unfold lQ;omega)).mono fun e w' ⟨_,h2,h3⟩=>⟨h2 hx,h3⟩
end Go.Proofs.YtgiicohbigiapaaGreat
