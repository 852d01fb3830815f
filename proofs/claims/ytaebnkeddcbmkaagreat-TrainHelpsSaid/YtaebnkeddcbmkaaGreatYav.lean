/- Contracts, and what they rest on. Conditions: the theorems' premises. -/
import Derived.Test.YtaebnkeddcbmkaaGreatYau
import Derived.Test.YtaebnkeddcbmkaaGreatYat
set_option maxHeartbeats 4000000
set_option maxRecDepth 100000
open Go.Lib(hid)
open Go.Proofs.Tryz Go.Proofs.YtaebnkeddcbmkaaGreat.Bm
namespace Go.Proofs.YtaebnkeddcbmkaaGreat
open Go.RowKit Go.Shelf
attribute [local go_sem] Oper.semAt_some
def Aside(W:World)(b r:Nat):Prop:=r≠b/\∀cs,¬Row W r 188 cs
theorem uE{W:World}{b r:Nat}{t:TypeId}{v:Value}(h:Boxed W r t v)(ht:t≠188)(hr:r≠b):Aside W b r:=⟨hr,fun cs hc=>by
 unfold Row at hc;unfold Boxed at h;rw[h]at hc;simp only[Option.some.injEq,Obj.cells.injEq]at hc;exact ht hc.2.1⟩
theorem uF{W:World}{b r:Nat}{o:Obj}(h:W.heap[r]?=some o)(ho:o.isCells=false)(hr:r≠b):Aside W b r:=⟨hr,fun cs hc=>by
 unfold Row at hc;rw[hc]at h;injection h with h
 subst h;cases ho⟩
def ady(PI:Nat->Nat->World->Prop)(log:Nat)(w':World)(e:Ending):Option (Nat×Nat×Nat)->Prop
 | none=>e=.returned (.bool false)
 | some (N,n,st)=>e=.returned (.bool true)/\PI (N+st*2^n) (n+log) w'
def adz(PI:Nat->Nat->World->Prop)(pf:Nat)(cap:Value)(p:Addr)(ls:List Nat)(log:Nat)(w0:World)(B0:Nat)(pre:List PB)(W:World):Prop:=
 ((Boxed W B0 208 (.pointer (some p))/\Boxed W (B0+1) 132 (.func (.func pf) #[] #[cap])/\Boxed W (B0+2) 4 (.bool false)) /\
  ∃N n st,Bm.encR ls log (PB.syms pre).reverse=some (N,n,st)/\Boxed W (B0+3) 3 (.int .i64 (st:Int))/\PI N n W)/\Below w0.heap.size w0 W/\B0+5<=W.heap.size
def adB(ls:List Nat)(log:Nat)(w0:World)(B0:Nat)(c:Code)(pre:List PB)(W:World):Prop:=
 (c=.ret/\Bm.encR ls log (PB.syms pre).reverse=none/\Boxed W (B0+2) 4 (.bool false))/\Below w0.heap.size w0 W
theorem aV{W W':World}{B:Nat}{t:TypeId}{v:Value}{row:Option Nat}(h:Boxed W B t v)(hg:W.grownBy W' row)(hr:∀r,row=some r->B≠r):Boxed W' B t v:=
 h.kept hg (fun e=>hr B e.symm rfl)
theorem Sr{PI:Nat->Nat->World->Prop}{pf:Nat}{cap:Value}{p:Addr}{ls:List Nat}{log:Nat}{w0:World}{B0 b:Nat}(hB:w0.heap.size<=B0)(hb:b<B0)
  (hkeep:∀N n W W' row,PI N n W->W.grownBy W' row->(∀r,row=some r->Aside W b r)->PI N n W'):OwnFrom (B0+5) (adz PI pf cap p ls log w0 B0):=by
 rintro pre W W' row ⟨⟨⟨h1,h2,h3⟩,N,n,st,h4,h5,h6⟩,h7,h8⟩ hg hr;have hlt:∀r,row=some r->B0+5<=r:=fun r e=>(hr r e).1
 refine⟨⟨⟨aV h1 hg fun r e=>by have:=hlt r e;omega,aV h2 hg fun r e=>by have:=hlt r e;omega,aV h3 hg fun r e=>by have:=hlt r e;omega⟩,N,n,st,h4,aV h5 hg fun r e=>by have:=hlt r e;omega,hkeep _ _ _ _ _ h6 hg fun r e=>?_⟩,h7.grown hg h7.size fun r e=>by have:=hlt r e;omega,Nat.le_trans h8 hg.size⟩;obtain⟨hr1,o,ho,hc⟩:=hr r e;exact uF ho hc (by omega)
theorem Sv{ls:List Nat}{log:Nat}{w0:World}{B0:Nat}(hB:w0.heap.size<=B0)(c:Code):OwnFrom (B0+5) (adB ls log w0 B0 c):=by
 rintro pre W W' row ⟨⟨h1,h2,h3⟩,h7⟩ hg hr;have hlt:∀r,row=some r->B0+5<=r:=fun r e=>(hr r e).1
 exact⟨⟨h1,h2,aV h3 hg fun r e=>by have:=hlt r e;omega⟩,h7.grown hg h7.size fun r e=>by have:=hlt r e;omega⟩
theorem Rv(ls:List Nat)(log st s:Nat)(h:st<2^log):DI ls log (st:Int) s=(jS ls log st s).map fun p=>(p,st-aS ls log p,aD ls log p):=by
 unfold DI;rw[if_pos ⟨by omega,by omega⟩,Int.toNat_natCast]
theorem IG{n₀ Bs:Nat}{A B:World}(h:Below A.heap.size A B)(hn:n₀<=A.heap.size)(hb:Bs<A.heap.size):oD n₀ Bs A B:=⟨h.mono hn,h.block Bs hb⟩
theorem xw{n₀ Bs b:Nat}{A B:World}(h:A.grownBy B (some b))(hn:n₀<=A.heap.size)(hnb:n₀<=b)(hb:Bs<A.heap.size)(hne:Bs≠b):oD n₀ Bs A B:=
 ⟨below_grown h hnb hn,h.block Bs hb (fun e=>by injection e with e;exact hne e)⟩
theorem abG(pre:List PB)(x:PB):(PB.syms (pre++[x])).reverse=(x.2:Nat) :: (PB.syms pre).reverse:=by rw[PB.FU,List.reverse_append];rfl
theorem YR(pf:Nat)(cap:Value)(PI:Nat->Nat->World->Prop)(b:Nat)(p:Addr)(ls:List Nat)(log:Nat)(A:Option Addr)(c:Nat)(syms:List Nat)(w0 w:World)
  (hent:∀args w,(callFunc pf args).run prog w=.ok (.enter pf args) w)
  (hkeep:∀N n W W' row,PI N n W->W.grownBy W' row->(∀r,row=some r->Aside W b r)->PI N n W')
  (hput:∀(W:World) (N n v k:Nat),v<2^k->k<=9->n<=100000->PI N n W->Calls prog pf #[.int .i64 (v:Int),.int .i64 (k:Int),cap] W fun e w'=>(∃v,e=.returned v)/\PI (N+v*2^n) (n+k) w'/\W.grownBy w' (some b))
  (hf:bN ls log) (ht:rZ w0 p ls log) (hs:syms.length<=10000) (hlt:∀x∈syms,x<256) (hr:Reads w0 A (u8s syms)) (hw:Below w0.heap.size w0 w) (hb:w0.heap.size<=b) (hb2:b<w.heap.size) (h0:PI 0 0 w) :
  Calls prog 181 #[.pointer (some p),.slice A syms.length c,.func (.func pf) #[] #[cap]] w fun e w'=>ady PI log w' e (Bm.encR ls log syms)/\Below w0.heap.size w0 w':=by
 have hsz:=fun W (hW:Below w0.heap.size w0 W)=>eD W p ls log (bY _ _ _ _ _ ht hW)
 have hbk:=fun W (hW:Below w0.heap.size w0 W) st s hs=>FW W p ls log st s hf (bY _ _ _ _ _ ht hW) hs
 have hlg:=fun W (hW:Below w0.heap.size w0 W)=>rP W p ls log (bY _ _ _ _ _ ht hW)
 have Hsz:=hid hsz;have Hbk:=hid hbk;have Hlg:=hid hlg;have hP:=fV log hf.low hf.high;have Hf:=hid hf;have Bl:=hid hput;have Hlt:=hid hlt;have Hr:=hid hr;clear hsz hbk hlg hput hf hlt hr ht;have hB0:=hw.size;obtain⟨W1,hW1⟩:∃W1,W1=((w.alloc (.cells #[.pointer (some p)] 208)).alloc (.cells #[.func (.func pf) #[] #[cap]] 132)).alloc (.cells #[.bool false] 4):=⟨_,rfl⟩;have HW1:=hid hW1;have hs1:W1.heap.size=w.heap.size+3:=by rw[hW1];simp
 have b1:Boxed W1 w.heap.size 208 (.pointer (some p)):=by rw[hW1];exact((Boxed.new w _ _).alloc _).alloc _
 have b2:Boxed W1 (w.heap.size+1) 132 (.func (.func pf) #[] #[cap]):=by
  rw[hW1];have h:=Boxed.new (w.alloc (.cells #[.pointer (some p)] 208)) 132 (.func (.func pf) #[] #[cap]);rw[World.size_alloc]at h;exact h.alloc _
 have b3:Boxed W1 (w.heap.size+2) 4 (.bool false):=by
  rw[hW1];have h:=Boxed.new ((w.alloc (.cells #[.pointer (some p)] 208)).alloc (.cells #[.func (.func pf) #[] #[cap]] 132)) 4 (.bool false);rw[World.size_alloc,World.size_alloc]at h;exact h
 have hg1:w.grownBy W1 none:=by rw[hW1];exact aF (aF (aF (aj _ _) _) _) _
 have hw1:Below w0.heap.size w0 W1:=hw.grown hg1 hw.size (by simp);have p1:PI 0 0 W1:=hkeep _ _ _ _ _ h0 hg1 (by simp);have c1:=b1.cell;have c2:=b2.cell;have c3:=b3.cell;have f3:=b3.frozen;have z1:=hid (Hsz.out W1 hw1);have Hdz:Hid ((((2^log:Nat):Int) == 0)=false):=hid (by rw[beq_eq_false_iff_ne];omega);clear hW1;refine(callsIn_wide (n:=4)).1 ?_;refine callsIn_of_wp_marks func181 rfl trivial ?_ rfl;simp only[ntmps181,List.size_toArray,List.length_cons,List.length_nil,Nat.reduceAdd,Nat.reduceSub,Array.replicate_succ,Array.replicate_zero,List.push_toArray,List.append_toArray,List.nil_append,List.cons_append];gi_wp2_with fail
 rw[<-HW1.out];refine⟨trivial,(callsIn_wide.2 z1.out).mono ?_⟩;rintro e w' ⟨rfl,rfl⟩;have dz:=Hdz.out;generalize 2^log=S at *;gi_wp2_with fail
 refine⟨trivial,(Gv Fence.wide 3 trivial rfl A syms.length c _).mono ?_⟩;rintro e w' ⟨rfl,hW3⟩;obtain⟨W3,apR⟩:∃W3,W3=w':=⟨_,rfl⟩;have hs2:(W1.alloc (.cells #[.int .i64 0] 3)).heap.size=w.heap.size+4:=by rw[World.size_alloc,hs1]
 have hs3:w'.heap.size=w.heap.size+5:=by rw[hW3,World.size_alloc,hs2]
 have hg3:W1.grownBy w' none:=by rw[hW3];exact aF (aF (aj _ _) _) _
 have d1:=aV b1 hg3 (by simp);have d2:=aV b2 hg3 (by simp);have d3:=aV b3 hg3 (by simp);have d4:Boxed w' (w.heap.size+3) 3 (.int .i64 0):=by
  have h:=Boxed.new W1 3 (.int .i64 0);rw[hs1]at h;rw[hW3];exact h.alloc _
 have d5:Boxed w' (w.heap.size+4) 60 (.slice A syms.length c):=by
  have h:=Boxed.new (W1.alloc (.cells #[.int .i64 0] 3)) 60 (.slice A syms.length c);rw[hs2]at h;rw[hW3];exact h
 have hw3:Below w0.heap.size w0 w':=hw1.grown hg3 hw1.size (by simp);have p3:PI 0 0 w':=hkeep _ _ _ _ _ p1 hg3 (by simp);rw[hs2];clear apR hW3 hg3 c1 c2 c3 f3 b1 b2 b3 p1 z1 hg1 HW1;gi_wp2_with fail
 refine wpIn_rangeFunc_ownG (N:=syms.length) (w0:=w') rfl (by omega) (gf:=206) (lb:=#[.pointer (some ⟨w.heap.size+4,0,none⟩)]) rfl trivial (enters_of func206 (by kernel_rfl) rfl)
  (zi Fence.wide 3 trivial rfl (by omega) (w.heap.size+4) c A syms Hlt.out (by omega) w0 w' hw3 (by omega) d5.cell Hr.out) (fun h k=>oD.t h k) (oD.b (by omega) (by omega)) (Below.refl _ _) (fun _=>rfl)
  (adz PI pf cap p ls log w0 w.heap.size) (adB ls log w0 w.heap.size)
  (by rw[hs3];exact Sr hB0 hb2 hkeep) (fun c=>by rw[hs3];exact Sv hB0 c)
  ⟨⟨⟨d1,d2,d3⟩,0,0,0,rfl,d4,p3⟩,hw3,by omega⟩
  (fun x=>{tmps:=#[.pointer (some p),.slice A syms.length c,.func (.func pf) #[] #[cap],.pointer (some ⟨w.heap.size,0,none⟩),undef,.pointer (some ⟨w.heap.size+1,0,none⟩),.pointer (some ⟨w.heap.size+1+1,0,none⟩),.pointer (some ⟨w.heap.size+3,0,none⟩),undef,.int .u8 ((x.2:Nat):Int),undef,undef,undef,undef,.pointer (some p),.int .i64 (S:Int),.bool false,.slice A syms.length c,.func (.func 206) #[] #[.pointer (some ⟨w.heap.size+4,0,none⟩)],.int .i64 (x.1:Int),.int .u8 ((x.2:Nat):Int),undef,undef,undef,undef,undef,undef,undef,undef,undef,undef,undef,undef,undef,undef,undef,undef,undef,undef,undef,undef,undef],defers:=[]}) ?assign ?body ?done ?stop
 case assign=>
  intro l x W K hK;unfold PB.enc;gi_wp2
  exact hK
 case body=>
  rintro l pre x W ⟨⟨⟨h1,h2,h3⟩,N,n,st,h4,h5,h6⟩,h7,h8⟩ hlen;rw[hs3];obtain⟨hN,hst,hnl,_⟩:=zO ls log Hf.out _ N n st h4;rw[List.length_reverse,PB.lN]at hnl;have h9:=Hf.out.high;have hn9:n<=90000:=by
   have h1:log*pre.length<=9*10000:=Nat.mul_le_mul h9 (by omega);omega
  have hrev:=abG pre x;have hBk:=Hbk.out W h7 (st:Int) (x.2:Nat) x.2.isLt;rw[Rv ls log st _ hst]at hBk;have c1:=h1.cell;have c4:=h5.cell;cases hbp:jS ls log st (x.2:Nat)with
  | none=>
   have henc:Bm.encR ls log (PB.syms (pre++[x])).reverse=none:=by
    rw[hrev];simp only[Bm.encR];rw[h4,Option.bind_some];dsimp only;rw[hbp];rfl
   rw[hbp,Option.map_none]at hBk;unfold Yt at hBk;dsimp only at hBk;have HB:=hid hBk;clear hBk;gi_wp2_with fail
   refine⟨trivial,(CallsIn.inRound l (callsIn_wide.2 HB.out)).mono ?_⟩;rintro e W4 ⟨rfl,hb4⟩;have hg4:=ak hb4 none;have b3:=aV h3 hg4 (by simp);have c3:=b3.cell;have f3:=b3.frozen;have hs4:=hb4.size;have hg5:=grownBy_setCell' W4 (w.heap.size+2) (.bool false);have Gq:Hid (KeepsFrom (w.heap.size+5) W (W4.setCell ⟨w.heap.size+2,0,none⟩ (.bool false))/\adB ls log w0 w.heap.size .ret (pre++[x]) (W4.setCell ⟨w.heap.size+2,0,none⟩ (.bool false))):=hid
    ⟨(KeepsFrom.of_grownBy hg4 (by simp)).trans (KeepsFrom.of_grownBy hg5 (fun j e=>by injection e with e;omega)),
     ⟨rfl,henc,b3.set _⟩,(h7.grown hg4 h7.size (by simp)).grown hg5 (by omega) (fun k e=>by injection e with e;omega)⟩
   clear hb4 hg4 b3 hg5 henc;gi_wp2
   exact Gq.out
  | some q=>
   have henc:Bm.encR ls log (PB.syms (pre++[x])).reverse=some (N+(st-aS ls log q)*2^n,n+aD ls log q,q):=by
    rw[hrev];simp only[Bm.encR];rw[h4,Option.bind_some];dsimp only;rw[hbp];rfl
   obtain⟨hq,hl1,hl2,hl3⟩:=Nf ls log st _ q hbp;have aiK:=wH ls log q Hf.out hq;have hv:st-aS ls log q<2^aD ls log q:=by
    generalize 2^aD ls log q=P at hl3 ⊢;omega
   rw[hbp,Option.map_some]at hBk;unfold Yt at hBk;dsimp only at hBk;have HB:=hid hBk;clear hBk hl1 hl2 hl3;generalize st-aS ls log q=v at *;generalize aD ls log q=k at *;gi_wp2_with fail
   refine⟨trivial,(CallsIn.inRound l (callsIn_wide.2 HB.out)).mono ?_⟩;rintro e W4 ⟨rfl,hb4⟩;have hg4:=ak hb4 none;have hs4:=hb4.size;have b1:=aV h1 hg4 (by simp);have b2:=aV h2 hg4 (by simp);have b3:=aV h3 hg4 (by simp);have b4:=aV h5 hg4 (by simp);have c2:=b2.cell;have p4:=hkeep _ _ _ _ _ h6 hg4 (by simp);have HP:=hid (Bl.out W4 N n v k hv (by omega) (by omega) p4);clear c1 c4;gi_wp2_with fail
   refine⟨trivial,(CallsIn.inRound l (callsIn_wide.2 HP.out)).mono ?_⟩;rintro e W5 ⟨⟨r5,rfl⟩,p5,hg5⟩;have hs5:=hg5.size;have e1:=aV b1 hg5 (fun r e=>by injection e with e;omega);have e2:=aV b2 hg5 (fun r e=>by injection e with e;omega);have e3:=aV b3 hg5 (fun r e=>by injection e with e;omega);have e4:=aV b4 hg5 (fun r e=>by injection e with e;omega);have c4:=e4.cell;have f4:=e4.frozen;have hg6:=grownBy_setCell' W5 (w.heap.size+3) (.int .i64 (q:Int));have hs6:=hg6.size;have Gq:Hid (KeepsFrom (w.heap.size+5) W (W5.setCell ⟨w.heap.size+3,0,none⟩ (.int .i64 (q:Int)))/\oD w0.heap.size (w.heap.size+4) W (W5.setCell ⟨w.heap.size+3,0,none⟩ (.int .i64 (q:Int))) /\
     adz PI pf cap p ls log w0 w.heap.size (pre++[x]) (W5.setCell ⟨w.heap.size+3,0,none⟩ (.int .i64 (q:Int)))):=hid (by
    refine⟨((KeepsFrom.of_grownBy hg4 (by simp)).trans (KeepsFrom.of_grownBy hg5 (fun j e=>by injection e with e;omega))).trans (KeepsFrom.of_grownBy hg6 (fun j e=>by injection e with e;omega)),
     ((IG hb4 (by omega) (by omega)).t (xw hg5 (by omega) hb (by omega) (by omega))).t (xw hg6 (by omega) (by omega) (by omega) (by omega)),⟨⟨?_,?_,?_⟩,_,_,q,henc,e4.set _,?_⟩,?_,by omega⟩
    ·exact aV e1 hg6 (fun r e=>by injection e with e;omega)
    ·exact aV e2 hg6 (fun r e=>by injection e with e;omega)
    ·exact aV e3 hg6 (fun r e=>by injection e with e;omega)
    ·exact hkeep _ _ _ _ _ p5 hg6 (fun r e=>by injection e with e;subst e;exact uE e4 (by decide) (by omega))
    ·exact((h7.grown hg4 h7.size (by simp)).grown hg5 (by omega) (fun k e=>by injection e with e;omega)).grown hg6 (by omega) (fun k e=>by injection e with e;omega))
   clear hb4 hg4 hg5 hg6 henc b1 b2 b3 b4 e1 e2 e3 e4 c2;gi_wp2
   exact Gq.out
 case done=>
  rintro D ys W hD hys ⟨⟨⟨h1,h2,h3⟩,N,n,st,h4,h5,h6⟩,h7,h8⟩ hK;rw[hys,List.reverse_reverse]at h4;obtain⟨hN,hst,hnl,_⟩:=zO ls log Hf.out _ N n st h4;have h9:=Hf.out.high;have hn9:n<=90000:=by
   have h1:log*syms.length<=9*10000:=Nat.mul_le_mul h9 (by omega);omega
  have c1:=h1.cell;have c2:=h2.cell;have c4:=h5.cell;have hL:=hid (Hlg.out W h7);have HP:=hid (Bl.out W N n st log hst h9 (by omega) h6);gi_wp2
  refine wpIn_wide.2 ?_;have p6:PI N n W.drew:=hkeep _ _ _ _ _ h6 (bf (aj _ none)) (by simp);have HL:=hid (Hlg.out W.drew h7.drew);have HP:=hid (Bl.out W.drew N n st log hst h9 (by omega) p6);go_region_held3 (fun W'=>W'.cell? ⟨w.heap.size,0,none⟩=some (.pointer (some p))/\W'.cell? ⟨w.heap.size+1,0,none⟩=some (.func (.func pf) #[] #[cap])/\W'.cell? ⟨w.heap.size+3,0,none⟩=some (.int .i64 (st:Int))) (first | exact⟨c1,c2,c4⟩ | exact⟨d1,d2,d4⟩) (first
   | (go_at_call 196;(with_reducible refine HL.out.mono ?_);rintro e w' ⟨rfl,rfl⟩)
   | ((with_reducible refine HP.out.mono ?_);rintro e W9 ⟨⟨r9,rfl⟩,p9,hg9⟩;have e1:=hid (aV h1 (W:=W.drew) hg9 (fun r e=>by injection e with e;omega));have e2:=hid (aV h2 (W:=W.drew) hg9 (fun r e=>by injection e with e;omega));have e3:=hid (aV h3 (W:=W.drew) hg9 (fun r e=>by injection e with e;omega));have e4:=hid (aV h5 (W:=W.drew) hg9 (fun r e=>by injection e with e;omega));have d1:=e1.out.cell;have d2:=e2.out.cell;have d4:=e4.out.cell))
  have hd9:W9.heap.size≥W.heap.size:=hg9.size;have hK9:W9.heap[D]?=some (.deferred (some [])):=(hg9.block D (Array.getElem?_eq_some_iff.1 hK).1 (fun e=>by injection e with e;omega)).trans hK;have aeN:=grownBy_setCell' W9 (w.heap.size+2) (.bool true);have alz:(W9.setCell ⟨w.heap.size+2,0,none⟩ (.bool true)).heap[D]?=some (.deferred (some [])):=(aeN.block D (Array.getElem?_eq_some_iff.1 hK9).1 (fun e=>by injection e with e;omega)).trans hK9;have p10:=hkeep _ _ _ _ _ p9 aeN (fun r e=>by injection e with e;subst e;exact uE e3.out (by decide) (by omega));have ant:Below w0.heap.size w0 (W9.setCell ⟨w.heap.size+2,0,none⟩ (.bool true)):=((h7.drew.grown hg9 h7.size (fun k e=>by injection e with e;omega)).grown aeN (Nat.le_trans h7.size hd9) (fun k e=>by injection e with e;omega));have c3:=e3.out.cell;have f3:=e3.out.frozen;have hc5:=cell_kept (e3.out.set (.bool true)).cell (grownBy_putObj' _ D (.deferred none)) (fun r e=>by cases e;exact⟨_,alz,rfl⟩);have akz:=hid alz;have Hc5:=hid hc5;have aoV:=hid ant;have P10:=hid p10;clear hK9 alz hc5 aeN hg9 p10 p9 ant d1 d2 d4 c1 c2 c4;gi_wp2
  refine⟨by simp,.inl ⟨_,_,rfl,run_takeDeferred akz.out,?_⟩⟩;have hc5:=Hc5.out;refine⟨.bool true,?_,?_,aoV.out.trans (belowK_b (w:=w) (by omega) _ D _ _ (by omega) akz.out rfl rfl)⟩
  ·simp[results,Tryz.f181,go_sem,hc5]
  ·rw[h4];exact⟨rfl,hkeep _ _ _ _ _ P10.out (grownBy_putObj' _ D (.deferred none)) (fun r e=>by cases e;exact uF akz.out rfl (by omega))⟩
 case stop=>
  rintro D c pre W hD hpre ⟨⟨rfl,h2,h3⟩,h7⟩ hK;have henc:Bm.encR ls log syms=none:=by
   obtain⟨t,ht⟩:=hpre;have h:=congrArg List.reverse ht;rw[List.reverse_append,List.reverse_reverse]at h;rw[<-h];exact mY ls log _ h2 _
  gi_wp2
  refine⟨by simp,.inl ⟨_,_,rfl,run_takeDeferred hK,?_⟩⟩;have hc5:=cell_kept h3.cell (grownBy_putObj' _ D (.deferred none)) (fun r e=>by cases e;exact⟨_,hK,rfl⟩);refine⟨.bool false,?_,by rw[henc];rfl,h7.trans (belowK_b (w:=w) (by omega) _ D _ _ (by omega) hK rfl rfl)⟩;simp[results,Tryz.f181,go_sem,hc5]
theorem WS.aside{w w':World}{b N n:Nat}{row:Option Nat}(h:WS w b 0 N n)(hg:w.grownBy w' row)(hr:∀r,row=some r->Aside w b r):WS w' b 0 N n:=by
 obtain⟨p,rest,us,h0,h1,h2,f0,f1,f2,hn,hc,hw⟩:=h;have hl:=hg.block b hn.lt (fun e=>(hr b e.symm).1 rfl);exact⟨p,rest,us,(World.cell?_of_block hl).trans h0,(World.cell?_of_block hl).trans h1,(World.cell?_of_block hl).trans h2,(World.frozen?_of_block hl).trans f0,(World.frozen?_of_block hl).trans f1,
  (World.frozen?_of_block hl).trans f2,hn.keep hl,hc.keep (fun g cs hrow=>hrow.keep (hg.block g hrow.lt (fun e=>(hr g e.symm).2 cs hrow))),hw⟩
theorem Zb(b:Nat)(W:World)(N n v k:Nat)(hv:v<2^k)(hk:k<=9)(hn:n<=100000)(h:WS W b 0 N n) :
  Calls prog 182 #[.int .i64 (v:Int),.int .i64 (k:Int),.pointer (some ⟨b,0,none⟩)] W fun e w'=>(∃v,e=.returned v)/\WS w' b 0 (N+v*2^n) (n+k)/\W.grownBy w' (some b):=by
 have hv2:v<=512:=by
  have h1:2^k<=2^9:=Nat.pow_le_pow_right (by omega) hk;have h2:(2:Nat)^9=512:=by decide
  omega
 have hp:=qY b 0 N n v k W (by omega) (by omega) (by omega) h;rw[Nat.mod_eq_of_lt hv]at hp;have Hp:=hid hp;clear hp h hv;go_enter func182,ntmps182
 go_wp2_with fail
 refine Hp.out.mono ?_;rintro e w' ⟨rfl,h1,h2⟩;have H1:=hid h1;have H2:=hid h2;clear h1 h2;go_wp2;go_end0
 exact⟨⟨_,rfl⟩,H1.out,H2.out⟩
theorem YV(w:World)(p:Addr)(ls:List Nat)(log:Nat)(A:Option Addr)(c:Nat)(syms:List Nat)(hf:bN ls log)(ht:rZ w p ls log)(hs:syms.length<=10000)(hlt:∀x∈syms,x<256)(hr:Reads w A (u8s syms)) :
  Calls prog 148 #[.pointer (some p),.slice A syms.length c] w fun e w'=>vU w' e (YW ls log syms)/\Below w.heap.size w w':=by
 have hal:=(Below.refl w.heap.size w).alloc (Nat.le_refl _) (.cells #[.pointer none,.int .u64 0,.int .i64 0] 155);have hc:=YR 182 (.pointer (some ⟨w.heap.size,0,none⟩)) (fun N n W=>WS W w.heap.size 0 N n) w.heap.size p ls log A c syms w (w.alloc (.cells #[.pointer none,.int .u64 0,.int .i64 0] 155))
  (enters_of func182 (by kernel_rfl) rfl) (fun N n W W' row h hg hr=>h.aside hg hr) (fun W N n v k h1 h2 h3 h4=>Zb w.heap.size W N n v k h1 h2 h3 h4) hf ht hs hlt hr hal (Nat.le_refl _) (by simp) (WS.new w 155 (by decide))
 have Hc:=hid hc;have hl9:=hf.high;have hcl:=GQ ls log hf syms;clear hc ht hlt hr;unfold YW;cases henc:Bm.encR ls log syms with
 | none=>
  have hcn:vg ls log syms=none:=by unfold vg;rw[henc];rfl
  rw[hcn];rw[henc]at Hc;unfold ady at Hc;dsimp only at Hc;clear hcl hcn henc hal hf;go_enter func148,ntmps148
  go_wp2_with fail
  refine Hc.out.mono ?_;rintro e w' ⟨rfl,hb⟩;have Hb:=hid hb;clear hb;go_wp2;go_ret2;exact⟨⟨_,_,rfl⟩,Hb.out⟩
 | some t=>
  obtain⟨N,n,st⟩:=t;have hcn:vg ls log syms=some (N+st*2^n,n+log):=by unfold vg;rw[henc];rfl
  obtain⟨k1,k2,k3⟩:=hcl _ _ hcn;have hn9:n+log<=100000:=by
   have h1:log*(syms.length+1)<=9*10001:=Nat.mul_le_mul hl9 (by omega);omega
  rw[hcn];rw[henc]at Hc;unfold ady at Hc;dsimp only at Hc;rw[Option.map_some];dsimp only;clear hcl hcn henc hal hf k2 k3;generalize N+st*2^n=M at *;generalize n+log=m at *;go_enter func148,ntmps148
  go_wp2_with fail
  refine Hc.out.mono ?_;rintro e w' ⟨⟨rfl,hws⟩,hb⟩;have Hs:=hid (abm w.heap.size 0 M m w' (by omega) k1 hws);have Hb:=hid hb;clear hb hws;go_wp2_with fail
  refine Hs.out.mono ?_;rintro e w2 ⟨g,cap,rfl,hown,hb2⟩;obtain⟨A',c',e',hrd,_⟩:=dP hown;injection e' with e1 e2 e3
  have Hb2:=hid (Hb.out.trans (hb2.mono Hb.out.size));have Hrd:=hid hrd;rw[<-e1]at Hrd;clear hown hb2 hrd e1 e3 e2;go_wp2;go_ret2;exact⟨⟨some ⟨g,0,none⟩,cap,by rw[uT];rfl,Hrd.out⟩,Hb2.out⟩
namespace Bm
theorem Wp(bs:List Nat)(hlt:∀x∈bs,x<256)(hl:bs.length<=1048576)(h0:0<bs.length):(jo (aG bs) (iQ (aG bs):Int)).length=iH bs:=by
 obtain⟨hr,h5,h9,hs⟩:=(kZ bs hlt hl).2 h0;have hp:=tT (aG bs) hr;obtain⟨cs,e1,e2,e3,_,_,e6,e7⟩:=hp;unfold jo;rw[if_pos ⟨hr,h5,h9,hs⟩,Int.toNat_natCast,List.length_map,e2];rw[Int.toNat_natCast]at hs;rw[(tY cs (2^iQ (aG bs)) e7 (by rw[e6];exact hs)).2.1,e3,bI]
theorem JM(bs ls:List Nat)(hlt:∀x∈bs,x<256)(hl:bs.length<=1048576)(h0:0<bs.length)(hls:jo (aG bs) (iQ (aG bs):Int)=ls.map (fun n:Nat=>(n:Int)))(hpos:∀b∈bs,0<ls[b]?.getD 0):aI ls=ls:=by
 have hlen:=Wp bs hlt hl h0;rw[hls,List.length_map]at hlen;obtain⟨b,hb,e⟩:=Xh bs (vR bs (by intro e;rw[e]at h0;simp at h0));have hp:=hpos b hb;refine yg ls (fun hne=>?_);rw[List.getLast_eq_getElem];have hi:ls.length-1=b:=by omega
 have hbl:b<ls.length:=by omega
 rw[List.getElem?_eq_getElem hbl,Option.getD_some]at hp;simp only[hi];exact hp
end Bm
theorem Jo{w:World}{base g:Nat}{ss:List (List Nat)}(h:Row w g 9 (lM ss))(hb:base<=g)(hm:ss.length<=1000000000):w.ownsRow base 9 1 (.slice (some ⟨g,0,none⟩) ss.length ss.length) ss.length (lM ss):=
 ⟨by rw[iG,Nat.mul_one],.inr ⟨g,ss.length,(lM ss).toArray,rfl,hb,h,Nat.le_refl _,by unfold maxLen;omega,by simp[iG],by rw[List.take_of_length_le (by simp[iG])]⟩⟩
theorem afZ(A B:Option Addr)(c d:Nat)(cs:List Nat)(w:World)(h0:0<cs.length)(hl:cs.length<=700)(h28:∀x∈cs,x<28)(hr:Reads w A (u8s cs))(hrc:Reads w B (mH (aG cs))) :
  Calls prog 119 #[.slice A cs.length c,.slice B (iH cs) d] w fun e w'=>(∃S,Yn cs S/\e=.returned (.tuple #[.string (strOf S),.bool true]))/\Below w.heap.size w w':=by
 have hlt:∀x∈cs,x<256:=fun x hx=>by have:=h28 x hx;omega
 obtain⟨l,hll⟩:∃l,l=aG cs:=⟨_,rfl⟩;have hlen:l.length=iH cs:=by rw[hll];exact bI cs
 have hT1:=jW cs hlt;have hok:∀x∈l,bO x:=fun x hx=>by
  rw[hll]at hx;have:=kY cs x hx;unfold bO;omega
 have hiff:=kZ cs hlt (by omega);obtain⟨ls,hls,hfair,hpos,ajb⟩:=JL cs hlt (by omega) h0;have hshort:=JM cs ls hlt (by omega) h0 hls hpos;rw[<-hll]at hiff hls hfair hrc;have anY:5<=iQ l/\iQ l<=9:=by have:=hfair.1;have:=hfair.2.1;omega
 have BZ:bO (iQ l:Int):=by unfold bO;omega
 have H2:=hid (afB B d l w (by omega) hok hrc);have hsl:(jo l (iQ l:Int)).length=ls.length:=by rw[hls,List.length_map]
 have hsi:mH (jo l (iQ l:Int))=aM ls:=by rw[hls,bJ]
 have H3:Hid (∀W,Reads W B (mH l)->Calls prog 145 #[.slice B l.length d,.int .i64 (iQ l:Int)] W fun e w'=>∃A' c',e=.returned (.tuple #[.slice A' ls.length c',.bool true])/\Reads w' A' (aM ls)/\Below W.heap.size W w'):=hid (fun W h1=>by
  have h2:=UH B d l _ W (by omega) hok BZ h1;rw[decide_eq_true (hiff.2 h0),hsl,hsi]at h2;exact h2)
 rw[hls]at hfair;have hfn:=SS _ _ hfair;have ahj:(ls.map (fun n:Nat=>(n:Int))).map Int.toNat=ls:=by
  rw[List.map_map];conv=>rhs;rw[<-List.map_id ls]
  apply List.map_congr_left
  intro x _;rfl
 rw[ahj,Int.toNat_natCast]at hfn;have alK:0<ls.length:=by
  cases ls with
  | nil=>
   have h:=hfn.sum;have h2:=Nat.two_pow_pos (iQ l);rw[List.sum_nil]at h;omega
  | cons _ _=>simp
 have H4:Hid (∀A c W,Reads W A (aM ls)->Calls prog 147 #[.slice A ls.length c,.int .i64 (iQ l:Int)] W fun e w'=>∃p,e=.returned (.tuple #[.pointer (some p),.bool true])/\rZ w' p ls (iQ l)/\Below W.heap.size W w'):=hid (fun A c W h1=>by
  have h2:=adt.build A c (ls.map (fun n:Nat=>(n:Int))) (iQ l:Int) W (by rw[List.length_map];omega) (fun x hx=>by
   have:=hfair.2.2.2.1 x hx;unfold bO;omega) BZ (by rw[bJ];exact h1) hfair
  rw[List.length_map,ahj,Int.toNat_natCast]at h2;exact h2)
 have Bl:Hid (∀W b A c,WS W b 0 0 0->Reads W A (aM ls)->(∀a,A=some a->a.block≠b)->Calls prog 146 #[.pointer (some ⟨b,0,none⟩),.slice A ls.length c,.int .i64 (iQ l:Int)] W fun e w'=>e=.returned (.bool true)/\WS w' b 0 (jA ls (iQ l)).1 (jA ls (iQ l)).2/\W.grownBy w' (some b)):=hid (fun W b A c hws h1 hA=>by
  have h2:=Tk W b 0 0 0 A c (ls.map (fun n:Nat=>(n:Int))) (iQ l:Int) (by omega) hws (by rw[List.length_map];omega) (fun x hx=>by
   have:=hfair.2.2.2.1 x hx;unfold bO;omega) BZ (by rw[bJ];exact h1) (fun a e _=>hA a e) hfair
  rw[List.length_map,ahj,Int.toNat_natCast,Nat.pow_zero,Nat.mul_one,Nat.zero_add,Nat.zero_add]at h2;exact h2)
 obtain⟨t,ht⟩:=KT ls (iQ l) hfn cs hpos;obtain⟨N,k,hc⟩:∃N k,vg ls (iQ l) cs=some (N,k):=⟨_,_,by unfold vg;rw[ht];rfl⟩;obtain⟨hN,hk,_⟩:=GQ ls (iQ l) hfn cs N k hc;have he:YW ls (iQ l) cs=some (jm N k):=by unfold YW;rw[hc];rfl
 have hsl2:=uT N k;have Ot:=abl N k;have hk9:k<=9*701:=Nat.le_trans hk (Nat.mul_le_mul anY.2 (by omega));have H6:Hid (∀W p,rZ W p ls (iQ l)->Reads W A (u8s cs)->Calls prog 148 #[.pointer (some p),.slice A cs.length c] W fun e w'=>(∃A c,e=.returned (.tuple #[.slice A (jm N k).length c,.bool true])/\Reads w' A (u8s (jm N k)))/\Below W.heap.size W w'):=hid (fun W p ht hr=>by
  have h1:=YV W p ls (iQ l) A c cs hfn ht (by omega) hlt hr;rw[he]at h1;exact h1)
 have hQ:=WJ cs ls (jm N k) (iQ l) h28 hfn hshort he (by omega) Ot (by omega);have hb3:=Ez ls (iQ l) hfn;obtain⟨hd,hhd⟩:∃hd,hd=Bm.bytesOf (jA ls (iQ l)).1 (((jA ls (iQ l)).2+7)/8):=⟨_,rfl⟩;have hhl:hd.length=((jA ls (iQ l)).2+7)/8:=by rw[hhd,Bm.bytesOf_length]
 have anS:∀x∈hd,x<256:=by rw[hhd];exact eH _ _
 rw[<-hhd]at hQ;have Hby:Hid (∀W b,WS W b 0 (jA ls (iQ l)).1 (jA ls (iQ l)).2->Calls prog 94 #[.pointer (some ⟨b,0,none⟩)] W fun e w'=>∃g,e=.returned (.slice (some ⟨g,0,none⟩) hd.length hd.length)/\Reads w' (some ⟨g,0,none⟩) (u8s hd)/\Below W.heap.size W w'):=hid (fun W b h=>by
  have h1:=kr b 0 (jA ls (iQ l)).1 (jA ls (iQ l)).2 W (by omega) h;rw[hhl,hhd];exact h1.mono fun e w' ⟨g,he,_,hrow,hb⟩=>⟨g,he,bP hrow,hb⟩)
 have HQ:=hid hQ;have aoX:=hid (fun W=>uz 2 W (by omega));have ahH:=hid (fun W A c (h:Reads W A (u8s hd))=>bS W A c hd anS h);have amD:=hid (fun W A c (h:Reads W A (u8s (jm N k)))=>bS W A c (jm N k) Ot h);have hg1:=eZ hd.length (by omega);have hg2:=eZ (jm N k).length (by omega);have XL:=hid (fun W b (h:CW W b [2])=>rY b [2] hd W (by simp) (by omega) h);have ane:=hid (fun W b (h:CW W b ([2]++(grp hd.length++hd)))=>rY b ([2]++(grp hd.length++hd)) (jm N k) W (by simp;omega) (by omega) h);have e0:([2]++(grp hd.length++hd))++(grp (jm N k).length++jm N k)=qp hd (jm N k):=by
  unfold qp;simp
 rw[e0]at ane;have qj:=hid (fun W b (h:CW W b (qp hd (jm N k)))=>iU b (qp hd (jm N k)) W (by simp[qp];omega) hQ.lt h);have Hr:=hid hr;have Hrc:=hid hrc;have apj:=hid (fun W W' p h hb=>bY W W' p ls (iQ l) h hb);rw[<-hlen];clear hll hT1 hok hiff hls hfair hpos ajb hshort BZ hsl hsi hfn ahj ht hc hN hk he hsl2 Ot hQ hb3 hhd hhl anS hg1 hg2 e0 hr hrc hlt h28 hlen hk9 anY;generalize jm N k=sl at *;generalize qp hd sl=E at *;generalize jA ls (iQ l)=hda at *;generalize iQ l=lg at *;generalize l.length=ln at *;have Hls:Hid (aM ls≠[]):=hid (fun e=>by rw[<-List.length_eq_zero_iff,aN]at e;omega);clear alK;generalize ls.length=lsn at *;generalize hcl:cs.length=m at *;clear hcl;go_enter func119,ntmps119
 go_wp2_with fail
 refine H2.out.mono ?_;rintro e w1 ⟨rfl,hb1⟩;have Hb1:=hid hb1;have H3':=hid (H3.out w1 (aC Hrc.out hb1));clear hb1 H2 H3 Hrc;go_wp2_with fail
 refine H3'.out.mono ?_;rintro e w2 ⟨A2,c2,rfl,hr2,hb2⟩;have Hb2:=hid (Hb1.out.trans (hb2.mono Hb1.out.size));obtain⟨bw,hbw⟩:∃bw,w2.heap.size=bw:=⟨_,rfl⟩;have hal:=(Below.refl w2.heap.size w2).alloc (Nat.le_refl _) (.cells #[.pointer none,.int .u64 0,.int .i64 0] 155);have hws:=WS.new w2 155 (by decide);have hA2:∀a,A2=some a->a.block≠bw:=fun a e=>by
  obtain⟨g,off,e2,hcell⟩:=hr2 Hls.out;rw[e2]at e;injection e with e
  subst e;have h1:0<(aM ls).length:=List.length_pos_iff.2 Hls.out;have h2:=hcell 0 h1;rw[List.getElem?_eq_getElem h1]at h2;have h3:=World.block_lt_of_cell? w2 _ h2;dsimp only at h3 ⊢;omega
 have hr3:=aC hr2 hal;have Hr3:=hid hr3;have Hp:=hid (Bl.out _ _ A2 c2 hws hr3 (by rw[hbw];exact hA2));have QS:=hid (Hb2.out.trans (hal.mono Hb2.out.size));have Hbw:=hid hbw;have HA2:=hid hA2;have hle:w.heap.size<=bw:=by rw[<-hbw];exact Hb2.out.size
 clear hr2 hb2 Hb1 H3' hal hws hA2 hr3 hbw Bl Hls;go_wp2_with fail
 rw[Hbw.out]at Hp;rw[Hbw.out];refine Hp.out.mono ?_;rintro e w4 ⟨rfl,aoK,hg4⟩;have Hb4:=hid (QS.out.grown hg4 QS.out.size (fun x e=>by injection e with e;omega));have hr4:=kL Hr3.out HA2.out hg4;have amv:=hid (H4.out A2 c2 w4 hr4);have ang:=hid aoK;clear aoK hg4 Hp QS hr4 Hr3 HA2 H4 Hbw Hb2;go_wp2_with fail
 refine amv.out.mono ?_;rintro e w5 ⟨p,rfl,TN,hb5⟩;have Hb5:=hid (Hb4.out.trans (hb5.mono Hb4.out.size));have anh:=hid (ang.out.below hb5);have He5:=hid (H6.out w5 p TN (aC Hr.out Hb5.out));clear TN hb5 Hb4 ang amv H6 Hr;go_wp2_with fail
 refine He5.out.mono ?_;rintro e w6 ⟨⟨A6,c6,rfl,hr6⟩,hb6⟩;have Hb6:=hid (Hb5.out.trans (hb6.mono Hb5.out.size));have apE:=hid (anh.out.below hb6);have Hr6:=hid hr6;clear hr6 hb6 Hb5 anh He5;have ahI:Hid (∀W,Below w6.heap.size w6 W->(convert 60 9 (.slice A6 sl.length c6)).run prog W=.ok (.string (strOf sl)) W):=hid (fun W hb=>amD.out W A6 c6 (aC Hr6.out hb));have aqW:=ahI.out;clear amD Hr6 ahI;generalize strOf sl=sls at *;generalize strOf hd=shd at *;have dR:Hid (∃S,Yn cs S/\strOf E=strOf S):=hid ⟨E,HQ.out,rfl⟩;clear HQ;generalize strOf E=sE at *;go_upto_region 9 with fail
 refine wp_region_held_drew (S:=(fun W:World=>Below w6.heap.size w6 W)) (by kernel_rfl) (by exact(Below.refl _ _).drew) (fun hHeld=>?_);refine wpAnyH_take (i:=4) (oi:={dst:=some 43,op:=.move (.tmp 12),type:=60,pos:= "stream.go:81",after:=#[],guard:=none}) (v:=?_) rfl (by kernel_rfl) (by kernel_rfl) (by kernel_rfl) (fun _ _ _ h=>h) (Or.inl ⟨by rfl,?_⟩) (by assumption) ?_;rotate_left
 ·(intro w hSw;(try dsimp only at hSw);go_simp;(try with_reducible rfl))
 try simp only[Act.put,List.setIfInBounds_toArray,List.set_cons_zero,List.set_cons_succ]
 refine wpAnyH_take (i:=5) (oi:={dst:=some 44,op:=.convert 60 9 (.tmp 43),type:=9,pos:= "stream.go:81",after:=#[{on:=4,ground:=.data}],guard:=none}) (v:=?_) rfl (by kernel_rfl) (by kernel_rfl) (by kernel_rfl) (fun _ _ _ h=>h) (Or.inl ⟨by rfl,?_⟩) (by assumption) ?_;rotate_left
 ·(intro w hSw;(try dsimp only at hSw);go_simp;(try with_reducible rfl))
 try simp only[Act.put,List.setIfInBounds_toArray,List.set_cons_zero,List.set_cons_succ]
 refine wpAnyH_ready (rs:=[0]) (by kernel_rfl) (by simp) ?_;refine AllReadyH.cons (o:={dst:=some 39,op:=.call {callee:=.value (.func 118),args:=#[.const (.int .u64 2)],argTypes:=#[36]},type:=73,pos:= "stream.go:81",after:=#[],guard:=none}) rfl (fun K hK=>?_) AllReadyH.nil;go_simp
 (go_at_call 118;refine(aoX.out _).mono ?_;rintro e w7 ⟨b,rfl,hc7,hbb,hb7⟩;have HX:=hid (hHeld.trans (hb7.mono hHeld.size));have HB:=hid (Nat.le_trans hHeld.size hbb);have HC:=hid hc7;clear hc7 hb7 hbb)
 go_simp;refine hK.out _ _ (by exact HX.out) (fun hHeld=>?_);clear hK K
 try simp only[Act.put,List.setIfInBounds_toArray,List.set_cons_zero,List.set_cons_succ]
 refine wpAnyH_ready (rs:=[1]) (by kernel_rfl) (by simp) ?_;refine AllReadyH.cons (o:={dst:=some 40,op:=.call {callee:=.value (.func 94),args:=#[.tmp 9],argTypes:=#[155]},type:=60,pos:= "stream.go:81",after:=#[{on:=0,ground:=.chain}],guard:=none}) rfl (fun K hK=>?_) AllReadyH.nil;go_simp
 (go_at_call 94;refine(Hby.out _ _ (apE.out.below HX.out)).mono ?_;rintro e w8 ⟨g,rfl,hr8,hb8⟩;have HY:=hid (HX.out.trans (hb8.mono HX.out.size));have HD:=hid (HC.out.below hb8);have HR:=hid hr8;clear hr8 hb8 HX HC)
 go_simp;refine hK.out _ _ (by exact HY.out) (fun hHeld=>?_);clear hK K
 try simp only[Act.put,List.setIfInBounds_toArray,List.set_cons_zero,List.set_cons_succ]
 have anH:=ahH.out w8 _ hd.length HR.out;refine wpAnyH_ready (rs:=[2]) (by kernel_rfl) (by simp) ?_;refine AllReadyH.cons (o:={dst:=some 41,op:=.convert 60 9 (.tmp 40),type:=9,pos:= "stream.go:81",after:=#[{on:=1,ground:=.data}],guard:=none}) rfl (fun K hK=>?_) AllReadyH.nil;go_simp;refine hK.out _ _ (by exact HY.out) (fun hHeld=>?_);clear hK K
 try simp only[Act.put,List.setIfInBounds_toArray,List.set_cons_zero,List.set_cons_succ]
 refine wpAnyH_ready (rs:=[3]) (by kernel_rfl) (by simp) ?_;refine AllReadyH.cons (o:={dst:=some 42,op:=.call {callee:=.value (.func 66),args:=#[.tmp 39,.tmp 41],argTypes:=#[73,9]},type:=73,pos:= "stream.go:81",after:=#[{on:=0,ground:=.data},{on:=2,ground:=.data},{on:=1,ground:=.chain}],guard:=none}) rfl (fun K hK=>?_) AllReadyH.nil;go_simp
 (go_at_call 66;refine(XL.out _ _ HD.out).mono ?_;rintro e w9 ⟨rfl,hc9,hg9⟩;have HZ:=hid (HY.out.trans (below_grown hg9 HB.out HY.out.size));have HE:=hid hc9;clear hc9 hg9)
 go_simp;refine hK.out _ _ (by exact HZ.out) (fun hHeld=>?_);clear hK K
 try simp only[Act.put,List.setIfInBounds_toArray,List.set_cons_zero,List.set_cons_succ]
 refine wpAnyH_ready (rs:=[6]) (by kernel_rfl) (by simp) ?_;refine AllReadyH.cons (o:={dst:=some 45,op:=.call {callee:=.value (.func 66),args:=#[.tmp 42,.tmp 44],argTypes:=#[73,9]},type:=73,pos:= "stream.go:81",after:=#[{on:=3,ground:=.data},{on:=5,ground:=.data},{on:=3,ground:=.chain}],guard:=none}) rfl (fun K hK=>?_) AllReadyH.nil;go_simp
 (go_at_call 66;refine(ane.out _ _ HE.out).mono ?_;rintro e w10 ⟨rfl,anC,aeN⟩;have HU:=hid (HZ.out.trans (below_grown aeN HB.out HZ.out.size));have HF:=hid anC;clear anC aeN)
 go_simp;refine hK.out _ _ (by exact HU.out) (fun hHeld=>?_);clear hK K
 try simp only[Act.put,List.setIfInBounds_toArray,List.set_cons_zero,List.set_cons_succ]
 refine wpAnyH_ready (rs:=[7]) (by kernel_rfl) (by simp) ?_;refine AllReadyH.cons (o:={dst:=some 46,op:=.call {callee:=.value (.func 34),args:=#[.tmp 45],argTypes:=#[73]},type:=9,pos:= "stream.go:81",after:=#[{on:=6,ground:=.data},{on:=6,ground:=.chain}],guard:=none}) rfl (fun K hK=>?_) AllReadyH.nil;go_simp
 (go_at_call 34;refine(qj.out _ _ HF.out).mono ?_;rintro e w11 ⟨rfl,acR⟩;have HV:=hid (HU.out.trans (acR.mono HU.out.size));clear acR)
 go_simp;refine hK.out _ _ (by exact HV.out) (fun hHeld=>?_);clear hK K
 try simp only[Act.put,List.setIfInBounds_toArray,List.set_cons_zero,List.set_cons_succ]
 refine wpAnyH_take (i:=8) (oi:={dst:=some 4,op:=.assign (.tmp 46),type:=9,pos:= "stream.go:81",after:=#[{on:=7,ground:=.data},{on:=7,ground:=.chain},{on:=0,ground:=.phase},{on:=1,ground:=.phase},{on:=2,ground:=.phase},{on:=3,ground:=.phase},{on:=4,ground:=.phase},{on:=5,ground:=.phase},{on:=6,ground:=.phase},{on:=7,ground:=.phase}],guard:=none}) (v:=?_) rfl (by kernel_rfl) (by kernel_rfl) (by kernel_rfl) (fun _ _ _ h=>h) (Or.inl ⟨by rfl,?_⟩) (by assumption) ?_;rotate_left
 ·(intro w hSw;(try dsimp only at hSw);go_simp;(try with_reducible rfl))
 try simp only[Act.put,List.setIfInBounds_toArray,List.set_cons_zero,List.set_cons_succ]
 refine wpAnyH_take (i:=9) (oi:={dst:=some 5,op:=.assign (.const (.bool true)),type:=4,pos:= "stream.go:81",after:=#[{on:=8,ground:=.chain},{on:=0,ground:=.phase},{on:=1,ground:=.phase},{on:=2,ground:=.phase},{on:=3,ground:=.phase},{on:=4,ground:=.phase},{on:=5,ground:=.phase},{on:=6,ground:=.phase},{on:=7,ground:=.phase},{on:=8,ground:=.phase}],guard:=none}) (v:=?_) rfl (by kernel_rfl) (by kernel_rfl) (by kernel_rfl) (fun _ _ _ h=>h) (Or.inl ⟨by rfl,?_⟩) (by assumption) ?_;rotate_left
 ·(intro w hSw;(try dsimp only at hSw);go_simp;(try with_reducible rfl))
 try simp only[Act.put,List.setIfInBounds_toArray,List.set_cons_zero,List.set_cons_succ]
 refine wpAnyH_done (by kernel_rfl) ?_ _;go_wp2;go_ret2;obtain⟨S,hS1,hS2⟩:=dR.out;exact⟨⟨S,hS1,by rw[<-hS2];rfl⟩,Hb6.out.trans (HV.out.mono Hb6.out.size)⟩
theorem apL(A:Option Addr)(L c q:Nat)(W:World)(h:q<=L)(hc:L<=c):(Instr.slice 60 (.slice A L c) none (some (.int .i64 (q:Int))) none).run prog W=.ok (.slice A q c) W:=by
 have h1:q<=c:=by omega
 go_simp
theorem JG{w:World}{A:Option Addr}{l:List Nat}(k:Nat)(h:Reads w A (u8s l)):Reads w A (u8s (l.take k)):=fun hne=>by
 have h0:l.take k≠[]:=by intro e;rw[e]at hne;exact hne rfl
 obtain⟨g,off,e,hc⟩:=h (by
   intro e;have:l=[]:=by simpa [u8s]using e
   rw[this]at h0;simp at h0)
 refine⟨g,off,e,fun j hj=>?_⟩;rw[aO,List.length_take]at hj;rw[hc j (by rw[aO];omega),bD l j (by omega),bD (l.take k) j (by rw[List.length_take];omega),List.getElem_take]
theorem JF{w w':World}{A:Option Addr}{xs:List Value}{row:Option Nat}(h:Reads w A xs)(hA:∀a,A=some a->row≠some a.block)(hg:w.grownBy w' row):Reads w' A xs:=fun hne=>by
 obtain⟨g,off,rfl,hc⟩:=h hne;have hgb:=hA _ rfl;refine⟨g,off,rfl,fun j hj=>?_⟩;have h1:=hc j hj;have hlt:j<xs.length:=hj;rw[List.getElem?_eq_getElem hlt]at h1 ⊢;have h2:=World.block_lt_of_cell? w _ h1;exact(World.cell?_of_block (a:=⟨g,off+j,none⟩) (hg.block g h2 (fun e=>hgb e.symm))).trans h1
theorem Fj(A:Option Addr)(c:Nat)(cs:List Nat)(w:World)(h0:0<cs.length)(hl:cs.length<=700)(hc:cs.length<=c)(h28:∀x∈cs,x<28)(hr:Reads w A (u8s cs)) :
  Calls prog 96 #[.slice A cs.length c] w fun e w'=>(∃A' c' ss,e=.returned (.slice A' ss.length c')/\Reads w' A' (lM ss)/\(∀s∈ss,Yn cs s)/\ss[0]?=some (eu cs)/\ss.length<=3)/\Below w.heap.size w w':=by
 obtain⟨i0,hi,hz0,hz1,hz2⟩:=info_parts Li;have hlt:∀x∈cs,x<256:=fun x hx=>by have:=h28 x hx;omega
 have hT1:=jW cs hlt;have Hcv:Hid (∀W,Below w.heap.size w W->(convert 60 9 (.slice A cs.length c)).run prog W=.ok (.string (strOf cs)) W):=hid (fun W hb=>bS W A c cs hlt (aC hr hb));have ht1:(cs.take 1).length=1:=by rw[List.length_take];omega
 have ahH:Hid (∀W,Below w.heap.size w W->(convert 60 9 (.slice A 1 c)).run prog W=.ok (.string (strOf (cs.take 1))) W):=hid (fun W hb=>by
  have h:=bS W A c (cs.take 1) (iN hlt 1) (JG 1 (aC hr hb));rw[ht1]at h;exact h)
 have Hsl:Hid (∀W,(Instr.slice 60 (.slice A cs.length c) none (some (.int .i64 1)) none).run prog W=.ok (.slice A 1 c) W):=hid (fun W=>apL A cs.length c 1 W (by omega) hc);have ahz:=hid (fun W=>uz 0 W (by omega));have adC:=hid (fun W=>uz 1 W (by omega));have adP:=hid (fun W b (h:CW W b [0])=>iq b [0] cs W (by simp;omega) h);have Yf:=hid (fun W b (h:CW W b [1])=>iq b [1] (cs.take 1) W (by simp;omega) h);have e0:[0]++cs=eu cs:=rfl;have e1:[1]++cs.take 1=jH cs:=rfl;have Hq0:=hid (WK cs h28);have aji:∀x∈eu cs,x<256:=Hq0.out.lt;have aiF:∀x∈jH cs,x<256:=fun x hx=>by
  rcases List.mem_cons.1 hx with rfl | hx
  ·omega
  ·exact iN hlt 1 x hx
 rw[e0]at adP;rw[e1]at Yf;have aib:=hid (fun W b (h:CW W b (eu cs))=>iU b (eu cs) W (by simp[eu];omega) aji h);have adU:=hid (fun W b (h:CW W b (jH cs))=>iU b (jH cs) W (by simp[jH];omega) aiF h);have Hq1:=hid (fun h=>WH cs h28 h);have Hof:=hid (fun W (hb:Below w.heap.size w W)=>afD A c cs W (by omega) hlt (aC hr hb));have Hsy:=hid (fun A c W h=>xE A c cs W hlt h);have Hin:=hid (fun B d W (hb:Below w.heap.size w W) (h:Reads W B (aM (aR cs)))=>afZ A B c d cs W h0 hl h28 (aC hr hb) (by unfold aG;rw[bJ];exact h));have hcv:=Hcv.out;clear h28 hr hlt hT1 e0 e1 aji aiF ht1 Hcv;go_enter func96,ntmps96
 go_upto_region 1 with fail
 refine wp_region_held_drew (S:=(fun W:World=>Below w.heap.size w W)) (by kernel_rfl) (by exact(Below.refl _ _).drew) (fun hHeld=>?_);refine wpAnyH_take (i:=1) (oi:={dst:=some 8,op:=.move (.tmp 0),type:=60,pos:= "stream.go:52",after:=#[],guard:=none}) (v:=?_) rfl (by kernel_rfl) (by kernel_rfl) (by kernel_rfl) (fun _ _ _ h=>h) (Or.inl ⟨by rfl,?_⟩) (by assumption) ?_;rotate_left
 ·(intro w hSw;(try dsimp only at hSw);go_simp;(try with_reducible rfl))
 try simp only[Act.put,List.setIfInBounds_toArray,List.set_cons_zero,List.set_cons_succ]
 refine wpAnyH_take (i:=2) (oi:={dst:=some 9,op:=.convert 60 9 (.tmp 8),type:=9,pos:= "stream.go:52",after:=#[{on:=1,ground:=.data}],guard:=none}) (v:=?_) rfl (by kernel_rfl) (by kernel_rfl) (by kernel_rfl) (fun _ _ _ h=>h) (Or.inl ⟨by rfl,?_⟩) (by assumption) ?_;rotate_left
 ·(intro w hSw;(try dsimp only at hSw);go_simp;(try with_reducible rfl))
 try simp only[Act.put,List.setIfInBounds_toArray,List.set_cons_zero,List.set_cons_succ]
 refine wpAnyH_ready (rs:=[0]) (by kernel_rfl) (by simp) ?_;refine AllReadyH.cons (o:={dst:=some 7,op:=.call {callee:=.value (.func 118),args:=#[.const (.int .u64 0)],argTypes:=#[36]},type:=73,pos:= "stream.go:52",after:=#[],guard:=none}) rfl (fun K hK=>?_) AllReadyH.nil;go_simp
 (go_at_call 118;refine(ahz.out _).mono ?_;rintro e w7 ⟨b,rfl,hc7,hbb,hb7⟩;have HX:=hid (hHeld.trans (hb7.mono hHeld.size));have HB:=hid (Nat.le_trans hHeld.size hbb);have HC:=hid hc7;clear hc7 hb7 hbb)
 go_simp;refine hK.out _ _ (by exact HX.out) (fun hHeld=>?_);clear hK K
 try simp only[Act.put,List.setIfInBounds_toArray,List.set_cons_zero,List.set_cons_succ]
 refine wpAnyH_ready (rs:=[3]) (by kernel_rfl) (by simp) ?_;refine AllReadyH.cons (o:={dst:=some 10,op:=.call {callee:=.value (.func 33),args:=#[.tmp 7,.tmp 9],argTypes:=#[73,9]},type:=73,pos:= "stream.go:52",after:=#[{on:=0,ground:=.data},{on:=2,ground:=.data},{on:=0,ground:=.chain}],guard:=none}) rfl (fun K hK=>?_) AllReadyH.nil;go_simp
 (go_at_call 33;refine(adP.out _ _ HC.out).mono ?_;rintro e w9 ⟨rfl,hc9,hg9⟩;have HZ:=hid (HX.out.trans (below_grown hg9 HB.out HX.out.size));have HE:=hid hc9;clear hc9 hg9)
 go_simp;refine hK.out _ _ (by exact HZ.out) (fun hHeld=>?_);clear hK K
 try simp only[Act.put,List.setIfInBounds_toArray,List.set_cons_zero,List.set_cons_succ]
 refine wpAnyH_ready (rs:=[4]) (by kernel_rfl) (by simp) ?_;refine AllReadyH.cons (o:={dst:=some 11,op:=.call {callee:=.value (.func 34),args:=#[.tmp 10],argTypes:=#[73]},type:=9,pos:= "stream.go:52",after:=#[{on:=3,ground:=.data},{on:=3,ground:=.chain}],guard:=none}) rfl (fun K hK=>?_) AllReadyH.nil;go_simp
 (go_at_call 34;refine(aib.out _ _ HE.out).mono ?_;rintro e w11 ⟨rfl,acR⟩;have HV:=hid (HZ.out.trans (acR.mono HZ.out.size));clear acR)
 go_simp;refine hK.out _ _ (by exact HV.out) (fun hHeld=>?_);clear hK K
 try simp only[Act.put,List.setIfInBounds_toArray,List.set_cons_zero,List.set_cons_succ]
 refine wpAnyH_ready (rs:=[5]) (by kernel_rfl) (by simp) ?_;refine AllReadyH.cons (o:={dst:=some 12,op:=.buildSlice 22 1 #[(0,.tmp 11)],type:=22,pos:= "stream.go:52",after:=#[{on:=4,ground:=.data}],guard:=none}) rfl (fun K hK=>?_) AllReadyH.nil;go_simp;refine hK.out _ _ (by exact HV.out.alloc HV.out.size _) (fun hHeld=>?_);clear hK K
 try simp only[Act.put,List.setIfInBounds_toArray,List.set_cons_zero,List.set_cons_succ]
 refine wpAnyH_take (i:=6) (oi:={dst:=some 3,op:=.assign (.tmp 12),type:=22,pos:= "stream.go:52",after:=#[{on:=5,ground:=.data},{on:=4,ground:=.chain},{on:=0,ground:=.phase},{on:=1,ground:=.phase},{on:=2,ground:=.phase},{on:=3,ground:=.phase},{on:=4,ground:=.phase},{on:=5,ground:=.phase}],guard:=none}) (v:=?_) rfl (by kernel_rfl) (by kernel_rfl) (by kernel_rfl) (fun _ _ _ h=>h) (Or.inl ⟨by rfl,?_⟩) (by assumption) ?_;rotate_left
 ·(intro w hSw;(try dsimp only at hSw);go_simp;(try with_reducible rfl))
 try simp only[Act.put,List.setIfInBounds_toArray,List.set_cons_zero,List.set_cons_succ]
 refine wpAnyH_done (by kernel_rfl) ?_ _;have hrow:=Row.new w11 9 (lM [eu cs]);have hown:=Jo hrow HV.out.size (by simp);have anu:=HV.out.alloc HV.out.size (.cells #[.string (strOf (eu cs))] 9);have e9:w11.alloc (.cells (lM [eu cs]).toArray 9)=w11.alloc (.cells #[.string (strOf (eu cs))] 9):=rfl;rw[e9]at hown;obtain⟨u,hu⟩:∃u,u=Value.slice (some ⟨w11.heap.size,0,none⟩) 1 1:=⟨_,rfl⟩;have hown2:(w11.alloc (.cells #[.string (strOf (eu cs))] 9)).ownsRow w.heap.size 9 1 u 1 (lM [eu cs]):=by rw[hu];exact hown
 have qg:=hid hown2;have ajX:=hid anu;rw[<-hu];clear hrow hown anu e9 hu hown2 HX HB HC HZ HE HV ahz adP aib hHeld;generalize w11.alloc (.cells #[.string (strOf (eu cs))] 9)=wA at *;clear hcv;go_wp2_with fail
 refine(Hof.out wA ajX.out).mono ?_;rintro e w2 ⟨B,d,rfl,⟨hr2,hB⟩,hb2⟩;have HU:Hid (∀a q,B=some a->u.ownBlock=some q->q≠a.block):=hid (fun a q e1 e2 e3=>by
  have h1:=hB a e1;have h2:=(qg.out.lt q e2).2;omega)
 clear hB;have Hb2:=hid (ajX.out.trans (hb2.mono ajX.out.size));have sF:=hid (own_below qg.out hb2);have Hs2:=hid (Hsy.out B d w2 hr2);have Hr2:=hid hr2;clear hr2 hb2 ajX qg Hof Hsy;go_wp2_with fail
 refine Hs2.out.mono ?_;rintro e w3 ⟨rfl,hb3⟩;have Hb3:=hid (Hb2.out.trans (hb3.mono Hb2.out.size));have Hr3:=hid (aC Hr2.out hb3);have kV:=hid (own_below sF.out hb3);clear hb3 Hb2 Hs2 Hr2 sF;have amJ:=Hin;clear Hin;by_cases h1:kR (aG cs)=1
 case' pos=>
  have hQ1:=Hq1.out h1;rw[h1];have HQ1:=hid hQ1;clear h1 hQ1 Hq1;have anH:=ahH.out;have hsl:=Hsl.out;clear ahH Hsl;go_upto_region 4 with fail
  refine wp_region_held_drew (S:=(fun W:World=>Below w.heap.size w W)) (by kernel_rfl) (by exact Hb3.out.drew) (fun hHeld=>?_);refine wpAnyH_take (i:=0) (oi:={dst:=some 18,op:=.move (.tmp 3),type:=22,pos:= "stream.go:55",after:=#[],guard:=none}) (v:=?_) rfl (by kernel_rfl) (by kernel_rfl) (by kernel_rfl) (fun _ _ _ h=>h) (Or.inl ⟨by rfl,?_⟩) (by assumption) ?_;rotate_left
  ·(intro w hSw;(try dsimp only at hSw);go_simp;(try with_reducible rfl))
  try simp only[Act.put,List.setIfInBounds_toArray,List.set_cons_zero,List.set_cons_succ]
  refine wpAnyH_take (i:=2) (oi:={dst:=some 20,op:=.move (.tmp 0),type:=60,pos:= "stream.go:55",after:=#[],guard:=none}) (v:=?_) rfl (by kernel_rfl) (by kernel_rfl) (by kernel_rfl) (fun _ _ _ h=>h) (Or.inl ⟨by rfl,?_⟩) (by assumption) ?_;rotate_left
  ·(intro w hSw;(try dsimp only at hSw);go_simp;(try with_reducible rfl))
  try simp only[Act.put,List.setIfInBounds_toArray,List.set_cons_zero,List.set_cons_succ]
  refine wpAnyH_take (i:=3) (oi:={dst:=some 21,op:=.slice 60 (.tmp 20) none (some (.const (.int .i64 1))) none,type:=60,pos:= "stream.go:55",after:=#[{on:=2,ground:=.data}],guard:=none}) (v:=?_) rfl (by kernel_rfl) (by kernel_rfl) (by kernel_rfl) (fun _ _ _ h=>h) (Or.inl ⟨by rfl,?_⟩) (by assumption) ?_;rotate_left
  ·(intro w hSw;(try dsimp only at hSw);go_simp;(try with_reducible rfl))
  try simp only[Act.put,List.setIfInBounds_toArray,List.set_cons_zero,List.set_cons_succ]
  refine wpAnyH_take (i:=4) (oi:={dst:=some 22,op:=.convert 60 9 (.tmp 21),type:=9,pos:= "stream.go:55",after:=#[{on:=3,ground:=.data}],guard:=none}) (v:=?_) rfl (by kernel_rfl) (by kernel_rfl) (by kernel_rfl) (fun _ _ _ h=>h) (Or.inl ⟨by rfl,?_⟩) (by assumption) ?_;rotate_left
  ·(intro w hSw;(try dsimp only at hSw);go_simp;(try with_reducible rfl))
  try simp only[Act.put,List.setIfInBounds_toArray,List.set_cons_zero,List.set_cons_succ]
  refine wpAnyH_ready (rs:=[1]) (by kernel_rfl) (by simp) ?_;refine AllReadyH.cons (o:={dst:=some 19,op:=.call {callee:=.value (.func 118),args:=#[.const (.int .u64 1)],argTypes:=#[36]},type:=73,pos:= "stream.go:55",after:=#[],guard:=none}) rfl (fun K hK=>?_) AllReadyH.nil;go_simp
  (go_at_call 118;refine(adC.out _).mono ?_;rintro e w7 ⟨b,rfl,hc7,hbb,hb7⟩;have HX:=hid ((Below.refl w3.heap.size w3).drew.trans (hb7.mono (Nat.le_refl _)));have HB:=hid hbb;have HC:=hid hc7;clear hc7 hb7 hbb)
  go_simp;refine hK.out _ _ (by exact Hb3.out.trans (HX.out.mono Hb3.out.size)) (fun hHeld=>?_);clear hK K
  try simp only[Act.put,List.setIfInBounds_toArray,List.set_cons_zero,List.set_cons_succ]
  refine wpAnyH_ready (rs:=[5]) (by kernel_rfl) (by simp) ?_;refine AllReadyH.cons (o:={dst:=some 23,op:=.call {callee:=.value (.func 33),args:=#[.tmp 19,.tmp 22],argTypes:=#[73,9]},type:=73,pos:= "stream.go:55",after:=#[{on:=1,ground:=.data},{on:=4,ground:=.data},{on:=1,ground:=.chain}],guard:=none}) rfl (fun K hK=>?_) AllReadyH.nil;go_simp
  (go_at_call 33;refine(Yf.out _ _ HC.out).mono ?_;rintro e w9 ⟨rfl,hc9,hg9⟩;have HZ:=hid (HX.out.trans (below_grown hg9 HB.out HX.out.size));have HE:=hid hc9;clear hc9 hg9)
  go_simp;refine hK.out _ _ (by exact Hb3.out.trans (HZ.out.mono Hb3.out.size)) (fun hHeld=>?_);clear hK K
  try simp only[Act.put,List.setIfInBounds_toArray,List.set_cons_zero,List.set_cons_succ]
  refine wpAnyH_ready (rs:=[6]) (by kernel_rfl) (by simp) ?_;refine AllReadyH.cons (o:={dst:=some 24,op:=.call {callee:=.value (.func 34),args:=#[.tmp 23],argTypes:=#[73]},type:=9,pos:= "stream.go:55",after:=#[{on:=5,ground:=.data},{on:=5,ground:=.chain}],guard:=none}) rfl (fun K hK=>?_) AllReadyH.nil;go_simp
  (go_at_call 34;refine(adU.out _ _ HE.out).mono ?_;rintro e w11 ⟨rfl,acR⟩;have HV:=hid (HZ.out.trans (acR.mono HZ.out.size));clear acR)
  go_simp;refine hK.out _ _ (by exact Hb3.out.trans (HV.out.mono Hb3.out.size)) (fun hHeld=>?_);clear hK K
  try simp only[Act.put,List.setIfInBounds_toArray,List.set_cons_zero,List.set_cons_succ]
  refine wpAnyH_ready (rs:=[7]) (by kernel_rfl) (by simp) ?_;refine AllReadyH.cons (o:={dst:=some 25,op:=.buildSlice 22 1 #[(0,.tmp 24)],type:=22,pos:= "stream.go:55",after:=#[{on:=6,ground:=.data}],guard:=none}) rfl (fun K hK=>?_) AllReadyH.nil;go_simp;refine hK.out _ _ (by exact Hb3.out.trans ((HV.out.alloc HV.out.size _).mono Hb3.out.size)) (fun hHeld=>?_);clear hK K
  try simp only[Act.put,List.setIfInBounds_toArray,List.set_cons_zero,List.set_cons_succ]
  have Hbb:=hid (HV.out.alloc HV.out.size (.cells #[.string (strOf (jH cs))] 9));have adO:=hid (own_below kV.out Hbb.out);have dx:=hid (World.news_of_block (heap_alloc_new w11 (.cells #[.string (strOf (jH cs))] 9)));refine wpAnyH_ready (rs:=[8]) (by kernel_rfl) (by simp) ?_;refine AllReadyH.cons (o:={dst:=some 26,op:=.call {callee:=.builtin .append,args:=#[.tmp 18,.tmp 25],argTypes:=#[22,22]},type:=22,pos:= "stream.go:55",after:=#[{on:=0,ground:=.data},{on:=7,ground:=.data},{on:=6,ground:=.chain}],guard:=none}) rfl (fun K hK=>?_) AllReadyH.nil
  (refine step_append_lies _ (by rfl) _ _ _ (by rfl) w.heap.size 9 i0 (.string ⟨#[]⟩) 1 16 underlying22 hi hz0 hz1 hz2 rfl (by omega) u 1 (lM [eu cs]) (by rfl) adO.out ⟨w11.heap.size,0,none⟩ 1 1 [.string (strOf (jH cs))] (by rfl) (by rfl) dx.out (by intro u hu;simp at hu;subst hu;rfl) (by omega) (by unfold maxLen;omega) (by omega) (by have:=Hbb.out.size;have:=Hb3.out.size;omega) _ rfl ?_;intro gN jJ wN hoN hgN _ _;have HoN:=hid hoN;have HbN:=hid ((Hb3.out.trans (Hbb.out.mono Hb3.out.size)).grown hgN (by have:=Hbb.out.size;have:=Hb3.out.size;omega) (fun q e=>(adO.out.lt q e).1));have HRb:=hid (JF (aC Hr3.out Hbb.out) (fun a e e2=>HU.out a _ e e2 rfl) hgN);clear hoN hgN)
  refine hK.out _ _ (by exact HbN.out) (fun hHeld=>?_);clear hK K
  try simp only[Act.put,List.setIfInBounds_toArray,List.set_cons_zero,List.set_cons_succ]
  refine wpAnyH_take (i:=9) (oi:={dst:=some 3,op:=.assign (.tmp 26),type:=22,pos:= "stream.go:55",after:=#[{on:=8,ground:=.data},{on:=8,ground:=.chain},{on:=0,ground:=.phase},{on:=1,ground:=.phase},{on:=2,ground:=.phase},{on:=3,ground:=.phase},{on:=4,ground:=.phase},{on:=5,ground:=.phase},{on:=6,ground:=.phase},{on:=7,ground:=.phase},{on:=8,ground:=.phase}],guard:=none}) (v:=?_) rfl (by kernel_rfl) (by kernel_rfl) (by kernel_rfl) (fun _ _ _ h=>h) (Or.inl ⟨by rfl,?_⟩) (by assumption) ?_;rotate_left
  ·(intro w hSw;(try dsimp only at hSw);go_simp;(try with_reducible rfl))
  try simp only[Act.put,List.setIfInBounds_toArray,List.set_cons_zero,List.set_cons_succ]
  refine wpAnyH_done (by kernel_rfl) ?_ _;have hE:lM [eu cs]++[Value.string (strOf (jH cs))]=lM [eu cs,jH cs]:=rfl;have hown:=HoN.out;rw[hE]at hown;obtain⟨u2,hu2⟩:∃u2,u2=Value.slice (some ⟨gN,0,none⟩) 2 jJ:=⟨_,rfl⟩;rw[show(1+1:Nat)=2 from rfl,<-hu2]at hown;rw[<-hu2];obtain⟨ss,hss⟩:∃ss,ss=[eu cs,jH cs]:=⟨_,rfl⟩;rw[<-hss]at hown;have Ra:=hid hown;have akg:Hid ((∀s∈ss,Yn cs s)/\ss[0]?=some (eu cs)):=hid (by
   rw[hss];refine⟨fun s hs=>?_,by simp⟩;simp at hs;rcases hs with rfl | rfl
   ·exact Hq0.out
   ·exact HQ1.out)
  obtain⟨k,hk⟩:∃k,k=2:=⟨_,rfl⟩;rw[<-hk]at Ra;have HkT:Hid (ss.length=k/\k<=2):=hid (by rw[hss,hk];exact⟨rfl,Nat.le_refl _⟩);have HrT:=HRb;have HbT:=HbN;have hk2:k<=2:=by omega
  clear hE hown hu2 hss hk HRb HbN HoN Hbb adO dx HX HB HC HZ HE HV hHeld anH hsl HQ1 Hq0 Yf adU adC Hr3 Hb3 kV HU;rename World=>wT
 case' neg=>
  have hsy:(((kR (aG cs):Nat):Int) == 1)=false:=by rw[beq_eq_false_iff_ne];omega
  generalize kR (aG cs)=sy at *;obtain⟨ss,hss⟩:∃ss,ss=[eu cs]:=⟨_,rfl⟩;have akg:Hid ((∀s∈ss,Yn cs s)/\ss[0]?=some (eu cs)):=hid (by
   rw[hss];refine⟨fun s hs=>?_,by simp⟩;simp at hs;rw[hs];exact Hq0.out)
  obtain⟨k,hk⟩:∃k,k=1:=⟨_,rfl⟩;have Ra:Hid (w3.ownsRow w.heap.size 9 1 u k (lM ss)):=hid (by rw[hk,hss];exact kV.out);have HkT:Hid (ss.length=k/\k<=2):=hid (by rw[hss,hk];exact⟨rfl,by omega⟩);have HrT:=Hr3;have HbT:=Hb3;have hk2:k<=2:=by omega
  obtain⟨u2,hu2⟩:∃u2,u2=u:=⟨_,rfl⟩;rw[<-hu2]at Ra ⊢;clear hss hk hu2 Hq0 Hq1 Yf adU adC Hr3 Hb3 kV HU h1 Hsl ahH;rename World=>wT
 all_goals
  have Hi4:=hid (amJ.out B d wT HbT.out HrT.out);clear amJ HrT;go_wp2_with fail
  refine Hi4.out.mono ?_;rintro e w5 ⟨⟨S,hS,rfl⟩,hb5⟩;have Hb5:=hid (HbT.out.trans (hb5.mono HbT.out.size));have QZ:=hid (own_below Ra.out hb5);have HS:=hid hS;have hs5:=Hb5.out.size;clear hS hb5 HbT Ra Hi4;go_wp2_with (at_builtin;refine wpList_append_own _ rfl _ _ 22 rfl w.heap.size 9 i0 (.string ⟨#[]⟩) 1 16 underlying22 hi hz0 hz1 hz2 rfl (by decide) _ _ _ rfl (QZ.out.alloc _) ⟨w5.heap.size,0,none⟩ 1 1 [.string (strOf S)] rfl rfl ?d1 ?d2 ?d3 ?d4 ?d5 ?_)
  case d1=>
   intro j u hj;match j,hj with
   | 0,hj=>simp at hj;subst hj;simp[Addr.add]
  case d2=>intro u hu;simp at hu;subst hu;rfl
  case d3=>unfold maxLen;omega
  case d4=>omega
  case d5=>simp;omega
  intro u' w7 bM fO _;have Ey:Below w.heap.size w w7:=(Hb5.out.alloc Hb5.out.size _).grown fO (by simp;omega) (fun x e=>(QZ.out.lt x e).1);have e:lM ss++[Value.string (strOf S)]=lM (ss++[S]):=by simp[lM]
  rw[e]at bM;obtain⟨A',c',rfl,hrd,_⟩:=dP bM;have Hrd:=hid hrd;have Hb7:=hid Ey;clear bM fO Ey e hrd QZ;go_wp2;go_ret;refine⟨⟨A',c',ss++[S],by rw[List.length_append,HkT.out.1];rfl,Hrd.out,fun s hs=>?_,(List.getElem?_append_left (List.getElem?_eq_some_iff.1 akg.out.2).1).trans akg.out.2,by rw[List.length_append,HkT.out.1];simp;omega⟩,Hb7.out⟩;rcases List.mem_append.1 hs with hs | hs
  ·exact akg.out.1 s hs
  ·rw[List.mem_singleton.1 hs];exact HS.out
theorem aaS(A:Option Addr)(c:Nat)(cs:List Nat)(w:World)(h0:0<cs.length)(hl:cs.length<=700)(hc:cs.length<=c)(h28:∀x∈cs,x<28)(hr:Reads w A (u8s cs)) :
  Calls prog 65 #[.slice A cs.length c] w fun e w'=>(∃S,Ym cs S/\e=.returned (.string (strOf S)))/\Below w.heap.size w w':=by
 have Hs:=hid (Fj A c cs w h0 hl hc h28 hr);have amM:=hid (fun A c ss W h0 hl hr=>acn A c ss W h0 hl hr);clear hr h28;generalize hm:cs.length=m at *;have Hm:=hid hm;clear hm;go_enter func65,ntmps65
 go_wp2_with fail
 refine Hs.out.mono ?_;rintro e w2 ⟨⟨A',c',ss,rfl,hrd,hq,hp,hl3⟩,hb2⟩;have Hb2:=hid hb2;have Hq:=hid (⟨hq,hp⟩:_/\_);have Hm2:=hid (amM.out A' c' ss w2 (List.getElem?_eq_some_iff.1 hp).1 (by omega) hrd);clear hrd hq hp hl3 hb2 Hs amM;go_wp2_with fail
 refine Hm2.out.mono ?_;rintro e w3 ⟨⟨S,hS,hmin,anL,rfl⟩,rfl⟩;have HS:Hid (Ym cs S):=hid ⟨Hq.out.1 S hS,by
  have:=hmin _ (List.mem_of_getElem? Hq.out.2);simpa [eu]using this,fun h=>anL _ Hq.out.2 (by rw[h];rfl)⟩
 clear hS hmin anL Hm2 Hq;have dR:Hid (∃S',Ym cs S'/\strOf S=strOf S'):=hid ⟨S,HS.out,rfl⟩;generalize strOf S=sS at *;go_wp2;go_ret;obtain⟨S',h1,h2⟩:=dR.out;exact⟨⟨S',h1,congrArg (fun x=>Ending.returned (Value.string x)) h2⟩,Hb2.out⟩
namespace Bm
theorem afQ(l:List StZ)(r:Int×Int×Int)(h:∀s∈l,Gj s)(j:Nat):∀x∈cZ j (aP r l),x<28:=by
 have hle:=tC l r h;intro x hx;unfold cZ at hx;obtain⟨vs,hvs,rfl⟩:=List.mem_map.1 hx;refine(Ig _ ?_).2;rcases Nat.lt_or_ge j vs.length with h1 | h1
 ·rw[List.getElem?_eq_getElem h1,Option.getD_some];exact hle _ (List.mem_flatten.2 ⟨vs,hvs,List.getElem_mem h1⟩)
 ·rw[List.getElem?_eq_none h1,Option.getD_none];omega
end Bm
theorem BK{w w':World}{A:Option Addr}{l:List Nat}{b:Nat}{bs:List Nat}(h:CW w b bs)(hr:Reads w A (u8s l))(hg:w.grownBy w' (some b)):Reads w' A (u8s l):=by
 obtain⟨p,ts,hrow,_,_⟩:=h;refine tQ hrow (fun m z hx=>?_) hr hg;match m,hx with
 | 0,hx=>simp at hx
 | 1,hx=>simp at hx
 | m+2,hx=>simp at hx
def KA(e:Ending)(l:List StZ):Prop:=
 if ∀s∈l,Gj s then ∃S,ain l S/\e=.returned (.tuple #[.string (strOf S),.bool true])else e=.returned (.tuple #[.string (strOf []),.bool false])
theorem aaL(A:Option Addr)(c:Nat)(w:World):Calls prog 36 #[.slice A 0 c] w fun e w'=>KA e []/\Below w.heap.size w w':=by
 have hq:=abo [] rfl;have hpost:∀e,e=.returned (.tuple #[.string (strOf [0]),.bool true])->KA e []:=fun e he=>by
  unfold KA;rw[if_pos (by simp)];exact⟨[0],hq,he⟩
 have Dx:=hid hpost;obtain⟨Pst,Td⟩:∃Pst:Ending->Prop,Pst=fun e=>KA e []:=⟨_,rfl⟩
 have acv:=hid Td;have hgoal:(fun(e:Ending) (w':World)=>KA e []/\Below w.heap.size w w')=fun e w'=>Pst e/\Below w.heap.size w w':=by rw[Td]
 rw[hgoal];have e0:([]:List Nat)++grp 0=[0]:=by rw[fU 0 (by omega)];rfl
 have hgr:=iX w.heap.size 0 [] _ (by omega) (by simp) (CW.new w);rw[e0]at hgr;have Hgr:=hid hgr;have QS:=hid ((Below.refl w.heap.size w).alloc (Nat.le_refl _) (.cells #[.pointer none,.int .i64 0] 72));have qj:=hid (fun W (h:CW W w.heap.size [0])=>iU w.heap.size [0] W (by simp) (by simp) h);clear hq hpost hgoal Td e0 hgr;go_enter func36,ntmps36
 go_wp2_with fail
 refine Hgr.out.mono ?_;rintro e w1 ⟨rfl,hc1,hg1⟩;have Hs1:=hid (qj.out w1 hc1);have Hb1:=hid (QS.out.trans (below_grown hg1 (Nat.le_refl _) QS.out.size));clear hc1 hg1 Hgr QS qj;go_wp2_with fail
 refine Hs1.out.mono ?_;rintro e w2 ⟨rfl,hb2⟩;have Hb2:=hid (Hb1.out.trans (hb2.mono Hb1.out.size));clear hb2 Hb1 Hs1;generalize hsx:strOf [0]=sx at *;have Hsx:=hid hsx;clear hsx;go_wp2;go_ret2;refine⟨?_,Hb2.out⟩;rw[acv.out];exact Dx.out _ rfl
theorem Vy(A:Option Addr)(c:Nat)(l:List StZ)(w:World)(h0:0<l.length)(hl:l.length<=700)(hok:ZOk l)(hr:XO w A l) :
  Calls prog 36 #[.slice A l.length c] w fun e w'=>KA e l/\Below w.heap.size w w':=by
 obtain⟨Pst,Td⟩:∃Pst:Ending->Prop,Pst=fun e=>KA e l:=⟨_,rfl⟩
 have acv:=hid Td;have hgoal:(fun(e:Ending) (w':World)=>KA e l/\Below w.heap.size w w')=fun e w'=>Pst e/\Below w.heap.size w w':=by rw[Td]
 rw[hgoal];clear hgoal Td;obtain⟨bw,hbw⟩:∃bw,w.heap.size=bw:=⟨_,rfl⟩;have hcw:=CW.new w;rw[hbw]at hcw;have hgr:=iX bw l.length [] _ (by omega) (by simp) hcw;rw[List.nil_append]at hgr;have Hgr:=hid hgr;have QS:=hid ((Below.refl w.heap.size w).alloc (Nat.le_refl _) (.cells #[.pointer none,.int .i64 0] 72));have Hco:=hid (fun W (hb:Below w.heap.size w W)=>Pb A c l W hl hok (hr.below hb));have Hbw:=hid hbw;have hwrap:IntKind.u64.wrap (l.length:Int)=(l.length:Int):=by rw[IntKind.wrap_u64];omega
 have dn:((l.length:Int) == 0)=false:=by rw[beq_eq_false_iff_ne];omega
 have dn2:decide ((1000:Int)<(l.length:Int))=false:=decide_eq_false (by omega);clear hcw hgr hbw hok hr;go_enter func36,ntmps36
 go_wp2_with fail
 rw[Hbw.out];refine Hgr.out.mono ?_;rintro e w1 ⟨rfl,hc1,hg1⟩;have hb1:=QS.out.trans (below_grown hg1 (Nat.le_of_eq Hbw.out) QS.out.size);have Hb1:=hid hb1;have Hc1:=hid hc1;have acA:=hid (Hco.out w1 hb1);clear hc1 hg1 hb1 Hgr QS Hco;by_cases hall:∀s∈l,Gj s
 ·unfold mJ at acA;simp only[if_pos hall]at acA;have XY:=hid hall;clear hall;go_wp2_with fail
  refine acA.out.mono ?_;rintro e w2 ⟨⟨A0,k0,A1,k1,A2,k2,B,kb,rfl,hk0,hk1,hk2,hr0,hr1,hr2,hrb⟩,hb2⟩;have hb2':=Hb1.out.trans (hb2.mono Hb1.out.size);have hc2:=Hc1.out.below hb2;obtain⟨ba,hba⟩:∃ba,w2.heap.size=ba:=⟨_,rfl⟩;have hal:=(Below.refl w2.heap.size w2).alloc (Nat.le_refl _) (.cells #[.slice A0 l.length k0,.slice A1 l.length k1,.slice A2 l.length k2] 111);have hra:=Row.new w2 111 [.slice A0 l.length k0,.slice A1 l.length k1,.slice A2 l.length k2];obtain⟨a0,a1,a2⟩:=gB hra;have Hb3:=hid (hb2'.trans (hal.mono hb2'.size));have Hc3:=hid (hc2.below hal);have HR3:=hid (⟨aC hr0 hal,aC hr1 hal,aC hr2 hal,aC hrb hal⟩:_/\_/\_/\_);have hpl:∀j,(cZ j (aP (1,2,4) l)).length=l.length:=fun j=>by rw[cZ,List.length_map,fP]
  have Hst:Hid (∀j A k W,l.length<=k->Reads W A (u8s (cZ j (aP (1,2,4) l)))->Calls prog 65 #[.slice A l.length k] W fun e w'=>(∃S,Ym (cZ j (aP (1,2,4) l)) S/\e=.returned (.string (strOf S)))/\Below W.heap.size W w'):=hid (fun j A k W hk hr=>by
   have h1:=aaS A k (cZ j (aP (1,2,4) l)) W (by rw[hpl];exact h0) (by rw[hpl];exact hl) (by rw[hpl];exact hk) (afQ l _ XY.out j) hr;rw[hpl]at h1;exact h1)
  have ahp:=eZ l.length (by omega);have hbE:(dM (aP (1,2,4) l)).length<=5000:=by
   have h1:=vE _ (tC l (1,2,4) XY.out);rw[jf]at h1;rw[dM,Bm.bytesOf_length];omega
  have fT:=hid (fun W (X S:List Nat) (hX:X.length+S.length<=100000) (h:CW W bw X)=>iq bw X S W (by omega) h);have hb256:∀x∈dM (aP (1,2,4) l),x<256:=eH _ _;have Hcv:=hid (fun W A c (h:Reads W A (u8s (dM (aP (1,2,4) l))))=>bS W A c _ hb256 h);have Htx:=hid (fun W (X:List Nat) (hX:X.length<=100000) (h:CW W bw X)=>rY bw X (dM (aP (1,2,4) l)) W (by omega) (by omega) h);have qj:=hid (fun W (X:List Nat) (hX:X.length<=100000) (hx:∀x∈X,x<256) (h:CW W bw X)=>iU bw X W (by omega) hx h);have iy:=hid (fun S0 S1 S2 h1 h2 h3=>agn l h0 hl XY.out S0 S1 S2 h1 h2 h3);have HK:=hid (⟨hk0,hk1,hk2⟩:_/\_/\_);have anB:w.heap.size<=bw:=Nat.le_of_eq Hbw.out;have Hlen:=hid hpl;clear hb2 hb2' hc2 hr0 hr1 hr2 hrb hk0 hk1 hk2 hal hra hpl hb256 acA Hb1 Hc1 Hbw;generalize hbx:dM (aP (1,2,4) l)=bE at *;have Hbx:=hid hbx;clear hbx;generalize hnl:l.length=n at *;have Hnl:=hid hnl;clear hnl;go_wp2;rw[hba]at *;generalize w2.alloc (.cells #[.slice A0 n k0,.slice A1 n k1,.slice A2 n k2] 111)=wA at *;clear a0 a1 a2;go_loopw [9,30] (fun _ i wr=>∃(j:Nat) (Ss:List (List Nat)),i=.int .i64 (j:Int)/\j<=3/\Hid (Ss.length=j)/\Hid (∀q S,Ss[q]?=some S->Ym (cZ q (aP (1,2,4) l)) S)/\Hid (CW wr bw (grp n++Ss.flatten))/\Hid (Ss.flatten.length<=j*701) /\
   Hid (Below w.heap.size w wr)/\Hid (Reads wr A0 (u8s (cZ 0 (aP (1,2,4) l)))/\Reads wr A1 (u8s (cZ 1 (aP (1,2,4) l)))/\Reads wr A2 (u8s (cZ 2 (aP (1,2,4) l)))/\Reads wr B (u8s bE))) (fun _ i _=>3-(intOf i).toNat)
  case atStart=>exact⟨0,[],rfl,by omega,hid rfl,hid (fun q S h=>by simp at h),by rw[List.flatten_nil,List.append_nil];exact Hc3,hid (by simp),Hb3,HR3⟩
  case round=>
   obtain⟨j,Ss,rfl,hj,hSl,hSp,hcw,hfl,hbel,hrr⟩:=hrel;clear Hc3 Hb3 HR3;by_cases hj3:j<3
   ·have dj:(j:Int)<3:=by omega
    have key:∃(A:Option Addr) (kk:Nat),Hid ([Value.slice A0 n k0,.slice A1 n k1,.slice A2 n k2][j]?=some (.slice A n kk))/\n<=kk/\Hid (Reads wr A (u8s (cZ j (aP (1,2,4) l)))):=by
     obtain⟨r0,r1,r2,_⟩:=hrr.out;obtain⟨q0,q1,q2⟩:=HK.out;rcases(by omega:j=0\/j=1\/j=2)with rfl | rfl | rfl
     ·exact⟨A0,k0,rfl,q0,r0⟩
     ·exact⟨A1,k1,rfl,q1,r1⟩
     ·exact⟨A2,k2,rfl,q2,r2⟩
    obtain⟨A,kk,hidx,hkk,hrj⟩:=key;have hidx2:∀W,(Instr.index 111 (.agg #[.slice A0 n k0,.slice A1 n k1,.slice A2 n k2]) (.int .i64 (j:Int))).run prog W=.ok (.slice A n kk) W:=fun W=>by
     have h:=hidx.out;rcases(by omega:j=0\/j=1\/j=2)with rfl | rfl | rfl
     all_goals
      simp only[List.getElem?_cons_zero,List.getElem?_cons_succ,Option.some.injEq]at h;rw[h];simp[Instr.index,run_underlying underlying111,asIntOf,go_sem]
    have bA:=hid (Hst.out j A kk wr hkk hrj.out);clear hidx hrj;go_wp2_with fail
    refine bA.out.mono ?_;rintro e w4 ⟨⟨S,hS,rfl⟩,hb4⟩;have anm:=hS.len;have hln:=Hlen.out j;rw[hln]at anm;have Hs:=hid hS;have alF:=hcw.out.below hb4;have aiJ:=hbel.out.trans (hb4.mono hbel.out.size);have alI:=hfl.out;have Hr4:=hid (fT.out w4 (grp n++Ss.flatten) S (by rw[List.length_append];omega) alF);have HR4:=hid (⟨aC hrr.out.1 hb4,aC hrr.out.2.1 hb4,aC hrr.out.2.2.1 hb4,aC hrr.out.2.2.2 hb4⟩:_/\_/\_/\_);have ahJ:=hid alF;have Hb4:=hid aiJ;have ape:Hid ((Ss++[S]).flatten.length<=(j+1)*701):=hid (by rw[List.flatten_append,List.length_append,List.flatten_singleton];omega);clear hb4 hS hln alF aiJ alI bA hbel hrr hcw hfl anm;go_wp2_with fail
    refine Hr4.out.mono ?_;rintro e w5 ⟨rfl,hc5,hg5⟩;have Hc5:Hid (CW w5 bw (grp n++(Ss++[S]).flatten)):=hid (by rw[List.flatten_append,List.flatten_singleton,<-List.append_assoc];exact hc5);have HR5:=hid (⟨BK ahJ.out HR4.out.1 hg5,BK ahJ.out HR4.out.2.1 hg5,BK ahJ.out HR4.out.2.2.1 hg5,BK ahJ.out HR4.out.2.2.2 hg5⟩:_/\_/\_/\_);have Hb5:=hid (Hb4.out.trans (below_grown hg5 anB Hb4.out.size));clear hc5 hg5 Hr4 HR4 ahJ Hb4;go_wp2;go_roundw
    case rel=>
     refine⟨j+1,Ss++[S],by go_num,by omega,hid (by rw[List.length_append,hSl.out];rfl),hid (fun q S' h=>?_),Hc5,ape,Hb5,HR5⟩;rcases Nat.lt_or_ge q Ss.length with hq | hq
     ·rw[List.getElem?_append_left hq]at h;exact hSp.out q S' h
     ·rw[List.getElem?_append_right hq,List.getElem?_singleton]at h;split at h
      ·next h0=>
       injection h with h
       have:q=j:=by rw[<-hSl.out];omega
       rw[this,<-h];exact Hs.out
      ·cases h
    case measure=>simp[intOf];omega
   ·have aeO:j=3:=by omega
    subst aeO;obtain⟨S0,S1,S2,hS3⟩:∃S0 S1 S2,Ss=[S0,S1,S2]:=by
     match Ss,hSl.out with
     | [x,y,z],_=>exact⟨x,y,z,rfl⟩
    subst hS3;have hQ:=iy.out S0 S1 S2 (hSp.out 0 S0 rfl) (hSp.out 1 S1 rfl) (hSp.out 2 S2 rfl);have e0:(grp n++[S0,S1,S2].flatten)++(grp bE.length++bE)=Mw n S0 S1 S2 bE:=by
     simp[Mw]
    have hcv:=Hcv.out wr B kb hrr.out.2.2.2;have alI:=hfl.out;have ht1:=Htx.out wr _ (by rw[List.length_append];omega) hcw.out;rw[e0]at ht1;have Ht1:=hid ht1;have Hs1:=hid (fun W (h:CW W bw (Mw n S0 S1 S2 bE))=>qj.out W _ (by have:=hQ.len;omega) hQ.lt h);have Dx:Hid (∀e,e=.returned (.tuple #[.string (strOf (Mw n S0 S1 S2 bE)),.bool true])->KA e l):=hid (fun e he=>by
     unfold KA;rw[if_pos XY.out];exact⟨_,hQ,he⟩)
    have jB:=hid hbel.out;clear hQ e0 alI ht1 hbel hrr hcw hfl hSp hSl Htx qj fT Hst iy Hcv HK Hlen;generalize Mw n S0 S1 S2 bE=E at *;go_wp2_with fail
    refine Ht1.out.mono ?_;rintro e w5 ⟨rfl,hc5,hg5⟩;have Hb5:=hid (jB.out.trans (below_grown hg5 anB jB.out.size));have Hs5:=hid (Hs1.out w5 hc5);clear hc5 hg5 jB Ht1 Hs1 hcv;go_wp2_with fail
    refine Hs5.out.mono ?_;rintro e w6 ⟨rfl,hb6⟩;have Hb6:=hid (Hb5.out.trans (hb6.mono Hb5.out.size));clear hb6 Hb5 Hs5;generalize strOf E=sE at *;go_wp2;go_ret2;refine⟨?_,Hb6.out⟩;rw[acv.out];exact Dx.out _ rfl
 ·unfold mJ at acA;simp only[if_neg hall]at acA;have Dx:Hid (∀e,e=.returned (.tuple #[.string (strOf []),.bool false])->KA e l):=hid (fun e he=>by
   unfold KA;rw[if_neg hall];exact he)
  clear hall;go_wp2_with fail
  refine acA.out.mono ?_;rintro e w2 ⟨rfl,hb2⟩;have Hb2:=hid ((Hb1.out.trans (hb2.mono Hb1.out.size)).alloc (Hb1.out.trans (hb2.mono Hb1.out.size)).size (.cells #[.slice none 0 0,.slice none 0 0,.slice none 0 0] 111));clear hb2 Hb1 acA Hc1;go_wp2;go_ret2;refine⟨?_,Hb2.out⟩;rw[acv.out];exact Dx.out _ rfl
theorem aaK(A:Option Addr)(c:Nat)(l:List StZ)(w:World)(hl:l.length<=700)(hok:ZOk l)(hr:XO w A l) :
  Calls prog 36 #[.slice A l.length c] w fun e w'=>KA e l/\Below w.heap.size w w':=by
 cases l with
 | nil=>exact aaL A c w
 | cons s l=>exact Vy A c (s :: l) w (by simp) hl hok hr
end Go.Proofs.YtaebnkeddcbmkaaGreat
