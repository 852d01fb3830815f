/- Contracts, and what they rest on. Conditions: the theorems' premises. -/
import Derived.Test.YtgiicohbigiapaaGreatRbf
import Derived.Test.YtgiicohbigiapaaGreatRax
import Derived.Test.YtgiicohbigiapaaGreatRav
set_option maxHeartbeats 4000000
set_option maxRecDepth 100000
open Go.Lib(hid)
open Go.Proofs.Tryz Go.Proofs.YtgiicohbigiapaaGreat.Bm
namespace Go.Proofs.YtgiicohbigiapaaGreat
open Go.RowKit Go.Shelf
attribute [local go_sem] Oper.semAt_some
def Aside(W:World)(b r:Nat):Prop:=r≠b∧∀cs,¬Row W r 192 cs
theorem sM{W:World}{b r:Nat}{t:TypeId}{v:Value}(h:Boxed W r t v)(ht:t≠192)(hr:r≠b):Aside W b r:=⟨hr,fun cs hc=>by
 unfold Row at hc;unfold Boxed at h;rw[h]at hc;simp only[Option.some.injEq,Obj.cells.injEq]at hc;exact ht hc.2.1⟩
theorem sO{W:World}{b r:Nat}{o:Obj}(h:W.heap[r]?=some o)(ho:o.isCells=false)(hr:r≠b):Aside W b r:=⟨hr,fun cs hc=>by
 unfold Row at hc;rw[hc]at h;injection h with h
 subst h;cases ho⟩
def ZN(PI:Nat→Nat→World→Prop)(log:Nat)(w':World)(e:Ending):Option (Nat×Nat×Nat)→Prop
 | none=>e=.returned (.bool false)
 | some (N,n,st)=>e=.returned (.bool true)∧PI (N+st*2^n) (n+log) w'
def ZO(PI:Nat→Nat→World→Prop)(pf:Nat)(cap:Value)(p:Addr)(ls:List Nat)(log:Nat)(w0:World)(B0:Nat)(pre:List PB)(W:World):Prop:=
 ((Boxed W B0 216 (.pointer (some p))∧Boxed W (B0+1) 255 (.func (.func pf) #[] #[cap])∧Boxed W (B0+2) 4 (.bool false)) ∧
  ∃N n st,Bm.encR ls log (PB.syms pre).reverse=some (N,n,st)∧Boxed W (B0+3) 3 (.int .i64 (st:Int))∧PI N n W)∧Below w0.heap.size w0 W∧B0+5≤W.heap.size
def ZQ(ls:List Nat)(log:Nat)(w0:World)(B0:Nat)(c:Code)(pre:List PB)(W:World):Prop:=
 (c=.ret∧Bm.encR ls log (PB.syms pre).reverse=none∧Boxed W (B0+2) 4 (.bool false))∧Below w0.heap.size w0 W
theorem aV{W W':World}{B:Nat}{t:TypeId}{v:Value}{row:Option Nat}(h:Boxed W B t v)(hg:W.grownBy W' row)(hr:∀r,row=some r→B≠r):Boxed W' B t v:=
 h.kept hg (fun e=>hr B e.symm rfl)
theorem Pk{PI:Nat→Nat→World→Prop}{pf:Nat}{cap:Value}{p:Addr}{ls:List Nat}{log:Nat}{w0:World}{B0 b:Nat}(hB:w0.heap.size≤B0)(hb:b<B0)
  (hkeep:∀N n W W' row,PI N n W→W.grownBy W' row→(∀r,row=some r→Aside W b r)→PI N n W'):OwnFrom (B0+5) (ZO PI pf cap p ls log w0 B0):=by
 rintro pre W W' row ⟨⟨⟨h1,h2,h3⟩,N,n,st,h4,h5,h6⟩,h7,h8⟩ hg hr;have hlt:∀r,row=some r→B0+5≤r:=fun r e=>(hr r e).1
 refine⟨⟨⟨aV h1 hg fun r e=>by have:=hlt r e;omega,aV h2 hg fun r e=>by have:=hlt r e;omega,aV h3 hg fun r e=>by have:=hlt r e;omega⟩,N,n,st,h4,aV h5 hg fun r e=>by have:=hlt r e;omega,hkeep _ _ _ _ _ h6 hg fun r e=>?_⟩,h7.grown hg h7.size fun r e=>by have:=hlt r e;omega,Nat.le_trans h8 hg.size⟩;obtain⟨hr1,o,ho,hc⟩:=hr r e;exact sO ho hc (by omega)
theorem Pm{ls:List Nat}{log:Nat}{w0:World}{B0:Nat}(hB:w0.heap.size≤B0)(c:Code):OwnFrom (B0+5) (ZQ ls log w0 B0 c):=by
 rintro pre W W' row ⟨⟨h1,h2,h3⟩,h7⟩ hg hr;have hlt:∀r,row=some r→B0+5≤r:=fun r e=>(hr r e).1
 exact⟨⟨h1,h2,aV h3 hg fun r e=>by have:=hlt r e;omega⟩,h7.grown hg h7.size fun r e=>by have:=hlt r e;omega⟩
theorem Oo(ls:List Nat)(log st s:Nat)(h:st<2^log):Cb ls log (st:Int) s=(jJ ls log st s).map fun p=>(p,st-aT ls log p,aB ls log p):=by
 unfold Cb;rw[if_pos ⟨by omega,by omega⟩,Int.toNat_natCast]
theorem FC{n₀ Bs:Nat}{A B:World}(h:Below A.heap.size A B)(hn:n₀≤A.heap.size)(hb:Bs<A.heap.size):nR n₀ Bs A B:=⟨h.mono hn,h.block Bs hb⟩
theorem vQ{n₀ Bs b:Nat}{A B:World}(h:A.grownBy B (some b))(hn:n₀≤A.heap.size)(hnb:n₀≤b)(hb:Bs<A.heap.size)(hne:Bs≠b):nR n₀ Bs A B:=
 ⟨below_grown h hnb hn,h.block Bs hb (fun e=>by injection e with e;exact hne e)⟩
theorem Yg(pre:List PB)(x:PB):(PB.syms (pre++[x])).reverse=(x.2:Nat) :: (PB.syms pre).reverse:=by rw[PB.Ej,List.reverse_append];rfl
theorem Vw(pf:Nat)(cap:Value)(PI:Nat→Nat→World→Prop)(b:Nat)(p:Addr)(ls:List Nat)(log:Nat)(A:Option Addr)(c:Nat)(syms:List Nat)(w0 w:World)
  (hent:∀args w,(callFunc pf args).run prog w=.ok (.enter pf args) w)
  (hkeep:∀N n W W' row,PI N n W→W.grownBy W' row→(∀r,row=some r→Aside W b r)→PI N n W')
  (hput:∀(W:World) (N n v k:Nat),v<2^k→k≤9→n≤100000→PI N n W→Calls prog pf #[.int .i64 (v:Int),.int .i64 (k:Int),cap] W fun e w'=>(∃v,e=.returned v)∧PI (N+v*2^n) (n+k) w'∧W.grownBy w' (some b))
  (hf:bL ls log) (ht:qM w0 p ls log) (hs:syms.length≤10000) (hlt:∀x∈syms,x<256) (hr:Reads w0 A (u8s syms)) (hw:Below w0.heap.size w0 w) (hb:w0.heap.size≤b) (hb2:b<w.heap.size) (h0:PI 0 0 w) :
  Calls prog 199 #[.pointer (some p),.slice A syms.length c,.func (.func pf) #[] #[cap]] w fun e w'=>ZN PI log w' e (Bm.encR ls log syms)∧Below w0.heap.size w0 w':=by
 have hsz:=fun W (hW:Below w0.heap.size w0 W)=>eu W p ls log (bY _ _ _ _ _ ht hW)
 have hbk:=fun W (hW:Below w0.heap.size w0 W) st s hs=>En W p ls log st s hf (bY _ _ _ _ _ ht hW) hs
 have hlg:=fun W (hW:Below w0.heap.size w0 W)=>qG W p ls log (bY _ _ _ _ _ ht hW)
 have Hsz:=hid hsz;have Hbk:=hid hbk;have Hlg:=hid hlg;have hP:=fP log hf.low hf.high;have Hf:=hid hf;have zU:=hid hput;have Hlt:=hid hlt;have Hr:=hid hr;clear hsz hbk hlg hput hf hlt hr ht;have hB0:=hw.size;obtain⟨W1,hW1⟩:∃W1,W1=((w.alloc (.cells #[.pointer (some p)] 216)).alloc (.cells #[.func (.func pf) #[] #[cap]] 255)).alloc (.cells #[.bool false] 4):=⟨_,rfl⟩;have HW1:=hid hW1;have hs1:W1.heap.size=w.heap.size+3:=by rw[hW1];simp
 have b1:Boxed W1 w.heap.size 216 (.pointer (some p)):=by rw[hW1];exact((Boxed.new w _ _).alloc _).alloc _
 have b2:Boxed W1 (w.heap.size+1) 255 (.func (.func pf) #[] #[cap]):=by
  rw[hW1];have h:=Boxed.new (w.alloc (.cells #[.pointer (some p)] 216)) 255 (.func (.func pf) #[] #[cap]);rw[World.size_alloc]at h;exact h.alloc _
 have b3:Boxed W1 (w.heap.size+2) 4 (.bool false):=by
  rw[hW1];have h:=Boxed.new ((w.alloc (.cells #[.pointer (some p)] 216)).alloc (.cells #[.func (.func pf) #[] #[cap]] 255)) 4 (.bool false);rw[World.size_alloc,World.size_alloc]at h;exact h
 have hg1:w.grownBy W1 none:=by rw[hW1];exact aD (aD (aD (au _ _) _) _) _
 have hw1:Below w0.heap.size w0 W1:=hw.grown hg1 hw.size (by simp);have p1:PI 0 0 W1:=hkeep _ _ _ _ _ h0 hg1 (by simp);have c1:=b1.cell;have c2:=b2.cell;have c3:=b3.cell;have f3:=b3.frozen;have z1:=hid (Hsz.out W1 hw1);have Hdz:Hid ((((2^log:Nat):Int) == 0)=false):=hid (by rw[beq_eq_false_iff_ne];omega);clear hW1;refine(callsIn_wide (n:=4)).1 ?_;refine callsIn_of_wp_marks func199 rfl trivial ?_ rfl;simp only[ntmps199,List.size_toArray,List.length_cons,List.length_nil,Nat.reduceAdd,Nat.reduceSub,Array.replicate_succ,Array.replicate_zero,List.push_toArray,List.append_toArray,List.nil_append,List.cons_append];gi_wp2_with fail
 rw[←HW1.out];refine⟨trivial,(callsIn_wide.2 z1.out).mono ?_⟩;rintro e w' ⟨rfl,rfl⟩;have dz:=Hdz.out;generalize 2^log=S at *;gi_wp2_with fail
 refine⟨trivial,(EG Fence.wide 3 trivial rfl A syms.length c _).mono ?_⟩;rintro e w' ⟨rfl,hW3⟩;obtain⟨W3,alz⟩:∃W3,W3=w':=⟨_,rfl⟩;have hs2:(W1.alloc (.cells #[.int .i64 0] 3)).heap.size=w.heap.size+4:=by rw[World.size_alloc,hs1]
 have hs3:w'.heap.size=w.heap.size+5:=by rw[hW3,World.size_alloc,hs2]
 have hg3:W1.grownBy w' none:=by rw[hW3];exact aD (aD (au _ _) _) _
 have d1:=aV b1 hg3 (by simp);have d2:=aV b2 hg3 (by simp);have d3:=aV b3 hg3 (by simp);have d4:Boxed w' (w.heap.size+3) 3 (.int .i64 0):=by
  have h:=Boxed.new W1 3 (.int .i64 0);rw[hs1]at h;rw[hW3];exact h.alloc _
 have d5:Boxed w' (w.heap.size+4) 87 (.slice A syms.length c):=by
  have h:=Boxed.new (W1.alloc (.cells #[.int .i64 0] 3)) 87 (.slice A syms.length c);rw[hs2]at h;rw[hW3];exact h
 have hw3:Below w0.heap.size w0 w':=hw1.grown hg3 hw1.size (by simp);have p3:PI 0 0 w':=hkeep _ _ _ _ _ p1 hg3 (by simp);rw[hs2];clear alz hW3 hg3 c1 c2 c3 f3 b1 b2 b3 p1 z1 hg1 HW1;gi_wp2_with fail
 refine wpIn_rangeFunc_ownG (N:=syms.length) (w0:=w') rfl (by omega) (gf:=228) (lb:=#[.pointer (some ⟨w.heap.size+4,0,none⟩)]) rfl trivial (enters_of func228 (by kernel_rfl) rfl)
  (yc Fence.wide 3 trivial rfl (by omega) (w.heap.size+4) c A syms Hlt.out (by omega) w0 w' hw3 (by omega) d5.cell Hr.out) (fun h k=>nR.t h k) (nR.b (by omega) (by omega)) (Below.refl _ _) (fun _=>rfl)
  (ZO PI pf cap p ls log w0 w.heap.size) (ZQ ls log w0 w.heap.size)
  (by rw[hs3];exact Pk hB0 hb2 hkeep) (fun c=>by rw[hs3];exact Pm hB0 c)
  ⟨⟨⟨d1,d2,d3⟩,0,0,0,rfl,d4,p3⟩,hw3,by omega⟩
  (fun x=>{tmps:=#[.pointer (some p),.slice A syms.length c,.func (.func pf) #[] #[cap],.pointer (some ⟨w.heap.size,0,none⟩),undef,.pointer (some ⟨w.heap.size+1,0,none⟩),.pointer (some ⟨w.heap.size+1+1,0,none⟩),.pointer (some ⟨w.heap.size+3,0,none⟩),undef,.int .u8 ((x.2:Nat):Int),undef,undef,undef,undef,.pointer (some p),.int .i64 (S:Int),.bool false,.slice A syms.length c,.func (.func 228) #[] #[.pointer (some ⟨w.heap.size+4,0,none⟩)],.int .i64 (x.1:Int),.int .u8 ((x.2:Nat):Int),undef,undef,undef,undef,undef,undef,undef,undef,undef,undef,undef,undef,undef,undef,undef,undef,undef,undef,undef,undef,undef],defers:=[]}) ?assign ?body ?done ?stop
 case assign=>
  intro l x W K hK;unfold PB.enc;gi_wp2
  exact hK
 case body=>
  rintro l pre x W ⟨⟨⟨h1,h2,h3⟩,N,n,st,h4,h5,h6⟩,h7,h8⟩ hlen;rw[hs3];obtain⟨hN,hst,hnl,_⟩:=yO ls log Hf.out _ N n st h4;rw[List.length_reverse,PB.kZ]at hnl;have h9:=Hf.out.high;have hn9:n≤90000:=by
   have h1:log*pre.length≤9*10000:=Nat.mul_le_mul h9 (by omega);omega
  have hrev:=Yg pre x;have hBk:=Hbk.out W h7 (st:Int) (x.2:Nat) x.2.isLt;rw[Oo ls log st _ hst]at hBk;have c1:=h1.cell;have c4:=h5.cell;cases hbp:jJ ls log st (x.2:Nat)with
  | none=>
   have henc:Bm.encR ls log (PB.syms (pre++[x])).reverse=none:=by
    rw[hrev];simp only[Bm.encR];rw[h4,Option.bind_some];dsimp only;rw[hbp];rfl
   rw[hbp,Option.map_none]at hBk;unfold Vb at hBk;dsimp only at hBk;have HB:=hid hBk;clear hBk;gi_wp2_with fail
   refine⟨trivial,(CallsIn.inRound l (callsIn_wide.2 HB.out)).mono ?_⟩;rintro e W4 ⟨rfl,hb4⟩;have hg4:=ak hb4 none;have b3:=aV h3 hg4 (by simp);have c3:=b3.cell;have f3:=b3.frozen;have hs4:=hb4.size;have hg5:=grownBy_setCell' W4 (w.heap.size+2) (.bool false);have EA:Hid (KeepsFrom (w.heap.size+5) W (W4.setCell ⟨w.heap.size+2,0,none⟩ (.bool false))∧ZQ ls log w0 w.heap.size .ret (pre++[x]) (W4.setCell ⟨w.heap.size+2,0,none⟩ (.bool false))):=hid
    ⟨(KeepsFrom.of_grownBy hg4 (by simp)).trans (KeepsFrom.of_grownBy hg5 (fun j e=>by injection e with e;omega)),
     ⟨rfl,henc,b3.set _⟩,(h7.grown hg4 h7.size (by simp)).grown hg5 (by omega) (fun k e=>by injection e with e;omega)⟩
   clear hb4 hg4 b3 hg5 henc;gi_wp2
   exact EA.out
  | some q=>
   have henc:Bm.encR ls log (PB.syms (pre++[x])).reverse=some (N+(st-aT ls log q)*2^n,n+aB ls log q,q):=by
    rw[hrev];simp only[Bm.encR];rw[h4,Option.bind_some];dsimp only;rw[hbp];rfl
   obtain⟨hq,hl1,hl2,hl3⟩:=Ky ls log st _ q hbp;have aeP:=vg ls log q Hf.out hq;have hv:st-aT ls log q<2^aB ls log q:=by
    generalize 2^aB ls log q=P at hl3 ⊢;omega
   rw[hbp,Option.map_some]at hBk;unfold Vb at hBk;dsimp only at hBk;have HB:=hid hBk;clear hBk hl1 hl2 hl3;generalize st-aT ls log q=v at *;generalize aB ls log q=k at *;gi_wp2_with fail
   refine⟨trivial,(CallsIn.inRound l (callsIn_wide.2 HB.out)).mono ?_⟩;rintro e W4 ⟨rfl,hb4⟩;have hg4:=ak hb4 none;have hs4:=hb4.size;have b1:=aV h1 hg4 (by simp);have b2:=aV h2 hg4 (by simp);have b3:=aV h3 hg4 (by simp);have b4:=aV h5 hg4 (by simp);have c2:=b2.cell;have p4:=hkeep _ _ _ _ _ h6 hg4 (by simp);have HP:=hid (zU.out W4 N n v k hv (by omega) (by omega) p4);clear c1 c4;gi_wp2_with fail
   refine⟨trivial,(CallsIn.inRound l (callsIn_wide.2 HP.out)).mono ?_⟩;rintro e W5 ⟨⟨r5,rfl⟩,p5,hg5⟩;have hs5:=hg5.size;have e1:=aV b1 hg5 (fun r e=>by injection e with e;omega);have e2:=aV b2 hg5 (fun r e=>by injection e with e;omega);have e3:=aV b3 hg5 (fun r e=>by injection e with e;omega);have e4:=aV b4 hg5 (fun r e=>by injection e with e;omega);have c4:=e4.cell;have f4:=e4.frozen;have hg6:=grownBy_setCell' W5 (w.heap.size+3) (.int .i64 (q:Int));have hs6:=hg6.size;have EA:Hid (KeepsFrom (w.heap.size+5) W (W5.setCell ⟨w.heap.size+3,0,none⟩ (.int .i64 (q:Int)))∧nR w0.heap.size (w.heap.size+4) W (W5.setCell ⟨w.heap.size+3,0,none⟩ (.int .i64 (q:Int))) ∧
     ZO PI pf cap p ls log w0 w.heap.size (pre++[x]) (W5.setCell ⟨w.heap.size+3,0,none⟩ (.int .i64 (q:Int)))):=hid (by
    refine⟨((KeepsFrom.of_grownBy hg4 (by simp)).trans (KeepsFrom.of_grownBy hg5 (fun j e=>by injection e with e;omega))).trans (KeepsFrom.of_grownBy hg6 (fun j e=>by injection e with e;omega)),
     ((FC hb4 (by omega) (by omega)).t (vQ hg5 (by omega) hb (by omega) (by omega))).t (vQ hg6 (by omega) (by omega) (by omega) (by omega)),⟨⟨?_,?_,?_⟩,_,_,q,henc,e4.set _,?_⟩,?_,by omega⟩
    ·exact aV e1 hg6 (fun r e=>by injection e with e;omega)
    ·exact aV e2 hg6 (fun r e=>by injection e with e;omega)
    ·exact aV e3 hg6 (fun r e=>by injection e with e;omega)
    ·exact hkeep _ _ _ _ _ p5 hg6 (fun r e=>by injection e with e;subst e;exact sM e4 (by decide) (by omega))
    ·exact((h7.grown hg4 h7.size (by simp)).grown hg5 (by omega) (fun k e=>by injection e with e;omega)).grown hg6 (by omega) (fun k e=>by injection e with e;omega))
   clear hb4 hg4 hg5 hg6 henc b1 b2 b3 b4 e1 e2 e3 e4 c2;gi_wp2
   exact EA.out
 case done=>
  rintro D ys W hD hys ⟨⟨⟨h1,h2,h3⟩,N,n,st,h4,h5,h6⟩,h7,h8⟩ hK;rw[hys,List.reverse_reverse]at h4;obtain⟨hN,hst,hnl,_⟩:=yO ls log Hf.out _ N n st h4;have h9:=Hf.out.high;have hn9:n≤90000:=by
   have h1:log*syms.length≤9*10000:=Nat.mul_le_mul h9 (by omega);omega
  have c1:=h1.cell;have c2:=h2.cell;have c4:=h5.cell;have hL:=hid (Hlg.out W h7);have HP:=hid (zU.out W N n st log hst h9 (by omega) h6);gi_wp2
  refine wpIn_wide.2 ?_;have p6:PI N n W.drew:=hkeep _ _ _ _ _ h6 (bA (au _ none)) (by simp);have HL:=hid (Hlg.out W.drew h7.drew);have HP:=hid (zU.out W.drew N n st log hst h9 (by omega) p6);go_region_held3 (fun W'=>W'.cell? ⟨w.heap.size,0,none⟩=some (.pointer (some p))∧W'.cell? ⟨w.heap.size+1,0,none⟩=some (.func (.func pf) #[] #[cap])∧W'.cell? ⟨w.heap.size+3,0,none⟩=some (.int .i64 (st:Int))) (first | exact⟨c1,c2,c4⟩ | exact⟨d1,d2,d4⟩) (first
   | (go_at_call 216;(with_reducible refine HL.out.mono ?_);rintro e w' ⟨rfl,rfl⟩)
   | ((with_reducible refine HP.out.mono ?_);rintro e W9 ⟨⟨r9,rfl⟩,p9,hg9⟩;have e1:=hid (aV h1 (W:=W.drew) hg9 (fun r e=>by injection e with e;omega));have e2:=hid (aV h2 (W:=W.drew) hg9 (fun r e=>by injection e with e;omega));have e3:=hid (aV h3 (W:=W.drew) hg9 (fun r e=>by injection e with e;omega));have e4:=hid (aV h5 (W:=W.drew) hg9 (fun r e=>by injection e with e;omega));have d1:=e1.out.cell;have d2:=e2.out.cell;have d4:=e4.out.cell))
  have hd9:W9.heap.size≥W.heap.size:=hg9.size;have hK9:W9.heap[D]?=some (.deferred (some [])):=(hg9.block D (Array.getElem?_eq_some_iff.1 hK).1 (fun e=>by injection e with e;omega)).trans hK;have abd:=grownBy_setCell' W9 (w.heap.size+2) (.bool true);have ahs:(W9.setCell ⟨w.heap.size+2,0,none⟩ (.bool true)).heap[D]?=some (.deferred (some [])):=(abd.block D (Array.getElem?_eq_some_iff.1 hK9).1 (fun e=>by injection e with e;omega)).trans hK9;have p10:=hkeep _ _ _ _ _ p9 abd (fun r e=>by injection e with e;subst e;exact sM e3.out (by decide) (by omega));have ajg:Below w0.heap.size w0 (W9.setCell ⟨w.heap.size+2,0,none⟩ (.bool true)):=((h7.drew.grown hg9 h7.size (fun k e=>by injection e with e;omega)).grown abd (Nat.le_trans h7.size hd9) (fun k e=>by injection e with e;omega));have c3:=e3.out.cell;have f3:=e3.out.frozen;have hc5:=cell_kept (e3.out.set (.bool true)).cell (grownBy_putObj' _ D (.deferred none)) (fun r e=>by cases e;exact⟨_,ahs,rfl⟩);have agz:=hid ahs;have Hc5:=hid hc5;have akC:=hid ajg;have P10:=hid p10;clear hK9 ahs hc5 abd hg9 p10 p9 ajg d1 d2 d4 c1 c2 c4;gi_wp2
  refine⟨by simp,.inl ⟨_,_,rfl,run_takeDeferred agz.out,?_⟩⟩;have hc5:=Hc5.out;refine⟨.bool true,?_,?_,akC.out.trans (belowK_b (w:=w) (by omega) _ D _ _ (by omega) agz.out rfl rfl)⟩
  ·simp[results,Tryz.f199,go_sem,hc5]
  ·rw[h4];exact⟨rfl,hkeep _ _ _ _ _ P10.out (grownBy_putObj' _ D (.deferred none)) (fun r e=>by cases e;exact sO agz.out rfl (by omega))⟩
 case stop=>
  rintro D c pre W hD hpre ⟨⟨rfl,h2,h3⟩,h7⟩ hK;have henc:Bm.encR ls log syms=none:=by
   obtain⟨t,ht⟩:=hpre;have h:=congrArg List.reverse ht;rw[List.reverse_append,List.reverse_reverse]at h;rw[←h];exact mE ls log _ h2 _
  gi_wp2
  refine⟨by simp,.inl ⟨_,_,rfl,run_takeDeferred hK,?_⟩⟩;have hc5:=cell_kept h3.cell (grownBy_putObj' _ D (.deferred none)) (fun r e=>by cases e;exact⟨_,hK,rfl⟩);refine⟨.bool false,?_,by rw[henc];rfl,h7.trans (belowK_b (w:=w) (by omega) _ D _ _ (by omega) hK rfl rfl)⟩;simp[results,Tryz.f199,go_sem,hc5]
theorem WS.aside{w w':World}{b N n:Nat}{row:Option Nat}(h:WS w b 0 N n)(hg:w.grownBy w' row)(hr:∀r,row=some r→Aside w b r):WS w' b 0 N n:=by
 obtain⟨p,rest,us,h0,h1,h2,f0,f1,f2,hn,hc,hw⟩:=h;have hl:=hg.block b hn.lt (fun e=>(hr b e.symm).1 rfl);exact⟨p,rest,us,(World.cell?_of_block hl).trans h0,(World.cell?_of_block hl).trans h1,(World.cell?_of_block hl).trans h2,(World.frozen?_of_block hl).trans f0,(World.frozen?_of_block hl).trans f1,
  (World.frozen?_of_block hl).trans f2,hn.keep hl,hc.keep (fun g cs hrow=>hrow.keep (hg.block g hrow.lt (fun e=>(hr g e.symm).2 cs hrow))),hw⟩
theorem VF(b:Nat)(W:World)(N n v k:Nat)(hv:v<2^k)(hk:k≤9)(hn:n≤100000)(h:WS W b 0 N n) :
  Calls prog 200 #[.int .i64 (v:Int),.int .i64 (k:Int),.pointer (some ⟨b,0,none⟩)] W fun e w'=>(∃v,e=.returned v)∧WS w' b 0 (N+v*2^n) (n+k)∧W.grownBy w' (some b):=by
 have hv2:v≤512:=by
  have h1:2^k≤2^9:=Nat.pow_le_pow_right (by omega) hk;have h2:(2:Nat)^9=512:=by decide
  omega
 have hp:=qm b 0 N n v k W (by omega) (by omega) (by omega) h;rw[Nat.mod_eq_of_lt hv]at hp;have Hp:=hid hp;clear hp h hv;go_enter func200,ntmps200
 go_wp2_with fail
 refine Hp.out.mono ?_;rintro e w' ⟨rfl,h1,h2⟩;have H1:=hid h1;have H2:=hid h2;clear h1 h2;go_wp2;go_end0
 exact⟨⟨_,rfl⟩,H1.out,H2.out⟩
def BI(b:Nat)(_ n:Nat)(W:World):Prop:=Boxed W b 3 (.int .i64 (n:Int))
theorem BI.keep{b:Nat}(N n:Nat)(W W':World)(row:Option Nat)(h:BI b N n W)(hg:W.grownBy W' row)(hr:∀r,row=some r→Aside W b r):BI b N n W':=
 Boxed.kept h hg (fun e=>(hr b e.symm).1 rfl)
theorem VA(w:World)(p:Addr)(ls:List Nat)(log:Nat)(A:Option Addr)(c:Nat)(syms:List Nat)(hf:bL ls log)(ht:qM w p ls log)(hs:syms.length≤10000)(hlt:∀x∈syms,x<256)(hr:Reads w A (u8s syms)) :
  Calls prog 166 #[.pointer (some p),.slice A syms.length c] w fun e w'=>uP w' e (VB ls log syms)∧Below w.heap.size w w':=by
 have hal:=(Below.refl w.heap.size w).alloc (Nat.le_refl _) (.cells #[.pointer none,.int .u64 0,.int .i64 0] 153);have hc:=Vw 200 (.pointer (some ⟨w.heap.size,0,none⟩)) (fun N n W=>WS W w.heap.size 0 N n) w.heap.size p ls log A c syms w (w.alloc (.cells #[.pointer none,.int .u64 0,.int .i64 0] 153))
  (enters_of func200 (by kernel_rfl) rfl) (fun N n W W' row h hg hr=>h.aside hg hr) (fun W N n v k h1 h2 h3 h4=>VF w.heap.size W N n v k h1 h2 h3 h4) hf ht hs hlt hr hal (Nat.le_refl _) (by simp) (WS.new w 153 (by decide))
 have Hc:=hid hc;have hl9:=hf.high;have hcl:=ET ls log hf syms;clear hc ht hlt hr;unfold VB;cases henc:Bm.encR ls log syms with
 | none=>
  have hcn:tX ls log syms=none:=by unfold tX;rw[henc];rfl
  rw[hcn];rw[henc]at Hc;unfold ZN at Hc;dsimp only at Hc;clear hcl hcn henc hal hf;go_enter func166,ntmps166
  go_wp2_with fail
  refine Hc.out.mono ?_;rintro e w' ⟨rfl,hb⟩;have Hb:=hid hb;clear hb;go_wp2;go_ret2;exact⟨⟨_,_,rfl⟩,Hb.out⟩
 | some t=>
  obtain⟨N,n,st⟩:=t;have hcn:tX ls log syms=some (N+st*2^n,n+log):=by unfold tX;rw[henc];rfl
  obtain⟨k1,k2,k3⟩:=hcl _ _ hcn;have hn9:n+log≤100000:=by
   have h1:log*(syms.length+1)≤9*10001:=Nat.mul_le_mul hl9 (by omega);omega
  rw[hcn];rw[henc]at Hc;unfold ZN at Hc;dsimp only at Hc;rw[Option.map_some];dsimp only;clear hcl hcn henc hal hf k2 k3;generalize N+st*2^n=M at *;generalize n+log=m at *;go_enter func166,ntmps166
  go_wp2_with fail
  refine Hc.out.mono ?_;rintro e w' ⟨⟨rfl,hws⟩,hb⟩;have Hs:=hid (XK w.heap.size 0 M m w' (by omega) k1 hws);have Hb:=hid hb;clear hb hws;go_wp2_with fail
  refine Hs.out.mono ?_;rintro e w2 ⟨g,cap,rfl,hown,hb2⟩;obtain⟨A',c',e',hrd,_⟩:=dM hown;injection e' with e1 e2 e3
  have Hb2:=hid (Hb.out.trans (hb2.mono Hb.out.size));have Hrd:=hid hrd;rw[←e1]at Hrd;clear hown hb2 hrd e1 e3 e2;go_wp2;go_ret2;exact⟨⟨some ⟨g,0,none⟩,cap,by rw[tN];rfl,Hrd.out⟩,Hb2.out⟩
end Go.Proofs.YtgiicohbigiapaaGreat
