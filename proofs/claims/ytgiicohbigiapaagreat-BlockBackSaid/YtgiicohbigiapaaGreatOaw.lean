/- Contracts. -/
import Derived.Test.YtgiicohbigiapaaGreatOav
import Derived.Test.YtgiicohbigiapaaGreatOas
import Derived.Test.YtgiicohbigiapaaGreatOz2
import Derived.Test.YtgiicohbigiapaaGreatOz1
import Derived.Test.YtgiicohbigiapaaGreatOz0
set_option maxHeartbeats 4000000
set_option maxRecDepth 100000
open Go.Proofs.Tryz Go.Proofs.YtgiicohbigiapaaGreat.am List Nat Option
namespace Go.Proofs.YtgiicohbigiapaaGreat
open Go.RowKit Go.Shelf
attribute [local go_sem] Oper.semAt_some
def Aside(W:ah)(b r:Nat):Prop:=r≠b/\∀ag,¬Row W r 192 ag
theorem QZ{W:ah}{b r:Nat}{t:TypeId}{v:Value}(h:Boxed W r t v)(aE:t≠192)(aj:r≠b):Aside W b r:=⟨aj,λag hc=>by
 unfold Row at hc;unfold Boxed at h;rw[h]at hc;simp only[Option.some.injEq,Obj.cells.injEq]at hc;exact aE hc.2.1⟩
theorem Q0{W:ah}{b r:Nat}{o:Obj}(h:W.heap[r]?=some o)(b9:o.isCells=false)(aj:r≠b):Aside W b r:=⟨aj,λag hc=>by
 unfold Row at hc;rw[hc]at h;injection h with h
 subst h;cases b9⟩
def H3(ma:Nat->Nat->ah->Prop)(log:Nat)(w':ah)(e:Ending):Option (Nat×Nat×Nat)->Prop
|none=>e=.returned (.bool false)
|some (N,n,st)=>e=.returned (.bool true)/\ma (N+st*2^n) (n+log) w'
def H4(ma:Nat->Nat->ah->Prop)(oe:Nat)(cap:Value)(p:Addr)(U:ae)(log:Nat)(w0:ah)(li:Nat)(pre:List fT)(W:ah):Prop:=
 ((Boxed W li 216 (.pointer (some p))/\Boxed W (li+1) 255 (.func (.func oe) #[] #[cap])/\Boxed W (li+2) 4 (.bool false)) /\
  ∃N n st,am.encR U log (fT.syms pre).reverse=some (N,n,st)/\Boxed W (li+3) 3 (.int .i64 st)/\ma N n W)/\av w0 W/\li+5<=W.heap.size
def H6(U:ae)(log:Nat)(w0:ah)(li:Nat)(c:Code)(pre:List fT)(W:ah):Prop:=
 (c=.ret/\am.encR U log (fT.syms pre).reverse=none/\Boxed W (li+2) 4 (.bool false))/\av w0 W
theorem kl{W bb:ah}{B:Nat}{t:TypeId}{v:Value}{row:Option Nat}(h:Boxed W B t v)(aF:W.grownBy bb row)(aj:∀r,row=some r->B≠r):Boxed bb B t v:=
 h.kept aF (λe=>aj B e.symm rfl)
theorem agG{ma:Nat->Nat->ah->Prop}{oe:Nat}{cap:Value}{p:Addr}{U:ae}{log:Nat}{w0:ah}{li b:Nat}(bx:w0.heap.size<=li)(ak:b<li)
  (hkeep:∀N n W bb row,ma N n W->W.grownBy bb row->(∀r,row=some r->Aside W b r)->ma N n bb):OwnFrom (li+5) (H4 ma oe cap p U log w0 li):=by
 rintro pre W bb row ⟨⟨⟨h1,af,aq⟩,N,n,st,aK,aT,ci⟩,c6,e8⟩ aF aj;have au:∀r,row=some r->li+5<=r:=λr e=>(aj r e).1
 refine⟨⟨⟨kl h1 aF λr e=>by have:=au r e;omega,kl af aF λr e=>by have:=au r e;omega,kl aq aF λr e=>by have:=au r e;omega⟩,N,n,st,aK,kl aT aF λr e=>by have:=au r e;omega,hkeep _ _ _ _ _ ci aF λr e=>?_⟩,c6.grown aF c6.size λr e=>by have:=au r e;omega,dl e8 aF.size⟩;obtain⟨cg,o,b9,hc⟩:=aj r e;exact Q0 b9 hc (by omega)
theorem agI{U:ae}{log:Nat}{w0:ah}{li:Nat}(bx:w0.heap.size<=li)(c:Code):OwnFrom (li+5) (H6 U log w0 li c):=by
 rintro pre W bb row ⟨⟨h1,af,aq⟩,c6⟩ aF aj;have au:∀r,row=some r->li+5<=r:=λr e=>(aj r e).1
 exact⟨⟨h1,af,kl aq aF λr e=>by have:=au r e;omega⟩,c6.grown aF c6.size λr e=>by have:=au r e;omega⟩
theorem ae3(U:ae)(log st s:Nat)(h:st<2^log):wb U log (st:Int) s=(lk U log st s).map λp=>(p,st-eh U log p,cd U log p):=by
 unfold wb;rw[aB ⟨by omega,by omega⟩,cX]
theorem alN{n₀ cm:Nat}{A B:ah}(h:av A B)(aA:n₀<=A.heap.size)(ak:cm<A.heap.size):nR n₀ cm A B:=⟨h.mono aA,h.block cm ak⟩
theorem WJ{n₀ cm b:Nat}{A B:ah}(h:A.grownBy B (some b))(aA:n₀<=A.heap.size)(lT:n₀<=b)(ak:cm<A.heap.size)(aZ:cm≠b):nR n₀ cm A B:=
 ⟨below_grown h lT aA,h.block cm ak (λe=>by injection e with e;exact aZ e)⟩
theorem arZ(pre:List fT)(x:fT):(fT.syms (pre++[x])).reverse=(x.2:Nat)::(fT.syms pre).reverse:=by rw[fT.ZH,reverse_append];rfl
theorem aht(oe:Nat)(cap:Value)(ma:Nat->Nat->ah->Prop)(b:Nat)(p:Addr)(U:ae)(log:Nat)(A:a7)(c:Nat)(syms:ae)(w0 w:ah)
  (hent:∀args w,(callFunc oe args).run prog w=.ok (.enter oe args) w)
  (hkeep:∀N n W bb row,ma N n W->W.grownBy bb row->(∀r,row=some r->Aside W b r)->ma N n bb)
  (hput:∀(W:ah)(N n v k:Nat),v<2^k->k<=9->n<=100000->ma N n W->Calls prog oe #[.int .i64 v,.int .i64 k,cap] W λe w'=>(∃v,e=.returned v)/\ma (N+v*2^n) (n+k) w'/\W.grownBy w' (some b))
  (aL:dW U log)(aE:jc w0 p U log)(ap:syms.length<=10000)(au:∀x∈syms,x<256)(aj:Reads w0 A (aO syms))(hw:av w0 w)(ak:w0.heap.size<=b)(aJ:b<w.heap.size)(ao:ma 0 0 w) :
  Calls prog 199 #[.pointer (some p),.slice A syms.length c,.func (.func oe) #[] #[cap]] w λe w'=>H3 ma log w' e (am.encR U log syms)/\av w0 w':=by
 have bB:=λW (bk:av w0 W)=>sH W p U log (pL _ _ _ _ _ aE bk)
 have C4:=λW (bk:av w0 W) st s ap=>ZR W p U log st s aL (pL _ _ _ _ _ aE bk) ap
 have u9:=λW (bk:av w0 W)=>Ex W p U log (pL _ _ _ _ _ aE bk)
 have fS:=I bB;have aby:=I C4;have Qg:=I u9;have cJ:=sA log aL.low aL.high;have br:=I aL;have oB:=I hput;have ce:=I au;have bj:=I aj;clear bB C4 u9 hput aL au aj aE;have SV:=hw.size;obtain⟨gw,x4⟩:∃gw,gw=((w.alloc (.cells #[.pointer (some p)] 216)).alloc (.cells #[.func (.func oe) #[] #[cap]] 255)).alloc (.cells #[.bool false] 4):=⟨_,rfl⟩;have PL:=I x4;have hM:gw.heap.size=w.heap.size+3:=by rw[x4];simp
 have bP:Boxed gw w.heap.size 216 (.pointer (some p)):=by rw[x4];exact((Boxed.new w _ _).alloc _).alloc _
 have bw:Boxed gw (w.heap.size+1) 255 (.func (.func oe) #[] #[cap]):=by
  rw[x4];have h:=Boxed.new (w.alloc (.cells #[.pointer (some p)] 216)) 255 (.func (.func oe) #[] #[cap]);rw[World.size_alloc]at h;exact h.alloc _
 have eg:Boxed gw (w.heap.size+2) 4 (.bool false):=by
  rw[x4];have h:=Boxed.new ((w.alloc (.cells #[.pointer (some p)] 216)).alloc (.cells #[.func (.func oe) #[] #[cap]] 255)) 4 (.bool false);rw[World.size_alloc,World.size_alloc]at h;exact h
 have a1:w.grownBy gw none:=by rw[x4];exact im (im (im (dg _ _) _) _) _
 have gU:av w0 gw:=hw.grown a1 hw.size (by simp);have cl:ma 0 0 gw:=hkeep _ _ _ _ _ ao a1 (by simp);have c1:=bP.cell;have c2:=bw.cell;have c3:=eg.cell;have f3:=eg.frozen;have gh:=I (fS.out gw gU);have sU:Hid ((((2^log:Nat):Int)==0)=false):=I (by rw[beq_eq_false_iff_ne];omega);clear x4;refine(callsIn_wide (n:=4)).1 ?_;refine callsIn_of_wp_marks func199 rfl trivial ?_ rfl;simp only[ntmps199,List.size_toArray,bY,length_nil,reduceAdd,reduceSub,Array.replicate_succ,Array.replicate_zero,push_toArray,append_toArray,nil_append,cons_append];gi_wp2_with fail
 rw[<-PL.out];refine⟨trivial,(callsIn_wide.2 gh).mono ?_⟩;rintro e w' ⟨rfl,rfl⟩;have ta:=sU.out;generalize 2^log=S at *;gi_wp2_with fail
 refine⟨trivial,(ae7 Fence.wide 3 trivial rfl A syms.length c _).mono ?_⟩;rintro e w' ⟨rfl,n0⟩;obtain⟨lj,aiW⟩:∃lj,lj=w':=⟨_,rfl⟩;have gd:(gw.alloc (.cells #[.int .i64 0] 3)).heap.size=w.heap.size+4:=by rw[World.size_alloc,hM]
 have si:w'.heap.size=w.heap.size+5:=by rw[n0,World.size_alloc,gd]
 have ct:gw.grownBy w' none:=by rw[n0];exact im (im (dg _ _) _) _
 have d1:=kl bP ct (by simp);have d2:=kl bw ct (by simp);have d3:=kl eg ct (by simp);have d4:Boxed w' (w.heap.size+3) 3 (.int .i64 0):=by
  have h:=Boxed.new gw 3 (.int .i64 0);rw[hM]at h;rw[n0];exact h.alloc _
 have d5:Boxed w' (w.heap.size+4) 87 (.slice A syms.length c):=by
  have h:=Boxed.new (gw.alloc (.cells #[.int .i64 0] 3)) 87 (.slice A syms.length c);rw[gd]at h;rw[n0];exact h
 have kI:av w0 w':=gU.grown ct gU.size (by simp);have nF:ma 0 0 w':=hkeep _ _ _ _ _ cl ct (by simp);rw[gd];clear aiW n0 ct c1 c2 c3 f3 bP bw eg cl gh a1;gi_wp2_with fail
 refine wpIn_rangeFunc_ownG (N:=syms.length) (w0:=w') rfl (by omega) (gf:=228) (lb:=#[.pointer (some ⟨w.heap.size+4,0,none⟩)]) rfl trivial (enters_of func228 (by kernel_rfl) rfl)
  (ae8 Fence.wide 3 trivial rfl (by omega) (w.heap.size+4) c A syms ce.out (by omega) w0 w' kI (by omega) d5.cell bj.out) (λh k=>nR.t h k) (nR.b (by omega) (by omega)) dM (λ_=>rfl)
  (H4 ma oe cap p U log w0 w.heap.size) (H6 U log w0 w.heap.size)
  (by rw[si];exact agG SV aJ hkeep) (λc=>by rw[si];exact agI SV c)
  ⟨⟨⟨d1,d2,d3⟩,0,0,0,rfl,d4,nF⟩,kI,by omega⟩
  (λx=>{tmps:=#[.pointer (some p),.slice A syms.length c,.func (.func oe) #[] #[cap],.pointer (some ⟨w.heap.size,0,none⟩),undef,.pointer (some ⟨w.heap.size+1,0,none⟩),.pointer (some ⟨w.heap.size+1+1,0,none⟩),.pointer (some ⟨w.heap.size+3,0,none⟩),undef,.int .u8 ((x.2:Nat):Int),undef,undef,undef,undef,.pointer (some p),.int .i64 S,.bool false,.slice A syms.length c,.func (.func 228) #[] #[.pointer (some ⟨w.heap.size+4,0,none⟩)],.int .i64 (x.1:Int),.int .u8 ((x.2:Nat):Int),undef,undef,undef,undef,undef,undef,undef,undef,undef,undef,undef,undef,undef,undef,undef,undef,undef,undef,undef,undef,undef],defers:=[]}) ?assign ?body ?done ?stop
 case assign=>
  intro l x W K hK;unfold fT.enc;gi_wp2
  exact hK
 case body=>
  rintro l pre x W ⟨⟨⟨h1,af,aq⟩,N,n,st,aK,aT,ci⟩,c6,e8⟩ hlen;rw[si];obtain⟨cU,aS,pz,_⟩:=z1 U log br.out _ N n st aK;rw[length_reverse,fT.HN]at pz;have dh:=br.out.high;have L9:n<=90000:=by
   have h1:log*pre.length<=9*10000:=Nat.mul_le_mul dh (by omega);omega
  have hrev:=arZ pre x;have rS:=aby.out W c6 (st:Int) (x.2:Nat) x.2.isLt;rw[ae3 U log st _ aS]at rS;have c1:=h1.cell;have c4:=aT.cell;cases tl:lk U log st (x.2:Nat)with
 |none=>
   have henc:am.encR U log (fT.syms (pre++[x])).reverse=none:=by
    rw[hrev];simp only[am.encR];rw[aK,Option.bind_some];dsimp only;rw[tl];rfl
   rw[tl,map_none]at rS;unfold Fj at rS;dsimp only at rS;have eb:=I rS;clear rS;gi_wp2_with fail
   refine⟨trivial,(CallsIn.inRound l (callsIn_wide.2 eb)).mono ?_⟩;rintro e fp ⟨rfl,bc⟩;have cx:=dj bc none;have eg:=kl aq cx (by simp);have c3:=eg.cell;have f3:=eg.frozen;have yK:=bc.size;have fi:=grownBy_setCell' fp (w.heap.size+2) (.bool false);have oy:Hid (KeepsFrom (w.heap.size+5) W (fp.setCell ⟨w.heap.size+2,0,none⟩ (.bool false))/\H6 U log w0 w.heap.size .ret (pre++[x]) (fp.setCell ⟨w.heap.size+2,0,none⟩ (.bool false))):=I
    ⟨(KeepsFrom.of_grownBy cx (by simp)).trans (KeepsFrom.of_grownBy fi (λj e=>by injection e with e;omega)),
     ⟨rfl,henc,eg.set _⟩,(c6.grown cx c6.size (by simp)).grown fi (by omega) (λk e=>by injection e with e;omega)⟩
   clear bc cx eg fi henc;gi_wp2
   exact oy.out
 |some q=>
   have henc:am.encR U log (fT.syms (pre++[x])).reverse=some (N+(st-eh U log q)*2^n,n+cd U log q,q):=by
    rw[hrev];simp only[am.encR];rw[aK,Option.bind_some];dsimp only;rw[tl];rfl
   obtain⟨hq,pv,ew,wF⟩:=ae4 U log st _ q tl;have TK:=zS U log q br.out hq;have aD:st-eh U log q<2^cd U log q:=by
    generalize 2^cd U log q=P at wF ⊢;omega
   rw[tl,map_some]at rS;unfold Fj at rS;dsimp only at rS;have eb:=I rS;clear rS pv ew wF;generalize st-eh U log q=v at *;generalize cd U log q=k at *;gi_wp2_with fail
   refine⟨trivial,(CallsIn.inRound l (callsIn_wide.2 eb)).mono ?_⟩;rintro e fp ⟨rfl,bc⟩;have cx:=dj bc none;have yK:=bc.size;have bP:=kl h1 cx (by simp);have bw:=kl af cx (by simp);have eg:=kl aq cx (by simp);have pm:=kl aT cx (by simp);have c2:=bw.cell;have pH:=hkeep _ _ _ _ _ ci cx (by simp);have sO:=I (oB.out fp N n v k aD (by omega) (by omega) pH);clear c1 c4;gi_wp2_with fail
   refine⟨trivial,(CallsIn.inRound l (callsIn_wide.2 sO)).mono ?_⟩;rintro e Fi ⟨⟨A9,rfl⟩,anN,fi⟩;have VA:=fi.size;have aG:=kl bP fi (λr e=>by injection e with e;omega);have e2:=kl bw fi (λr e=>by injection e with e;omega);have e3:=kl eg fi (λr e=>by injection e with e;omega);have e4:=kl pm fi (λr e=>by injection e with e;omega);have c4:=e4.cell;have f4:=e4.frozen;have gk:=grownBy_setCell' Fi (w.heap.size+3) (.int .i64 q);have VB:=gk.size;have oy:Hid (KeepsFrom (w.heap.size+5) W (Fi.setCell ⟨w.heap.size+3,0,none⟩ (.int .i64 q))/\nR w0.heap.size (w.heap.size+4) W (Fi.setCell ⟨w.heap.size+3,0,none⟩ (.int .i64 q)) /\
     H4 ma oe cap p U log w0 w.heap.size (pre++[x]) (Fi.setCell ⟨w.heap.size+3,0,none⟩ (.int .i64 q))):=I (by
    refine⟨((KeepsFrom.of_grownBy cx (by simp)).trans (KeepsFrom.of_grownBy fi (λj e=>by injection e with e;omega))).trans (KeepsFrom.of_grownBy gk (λj e=>by injection e with e;omega)),
     ((alN bc (by omega) (by omega)).t (WJ fi (by omega) ak (by omega) (by omega))).t (WJ gk (by omega) (by omega) (by omega) (by omega)),⟨⟨?_,?_,?_⟩,_,_,q,henc,e4.set _,?_⟩,?_,by omega⟩
    .exact kl aG gk (λr e=>by injection e with e;omega)
    .exact kl e2 gk (λr e=>by injection e with e;omega)
    .exact kl e3 gk (λr e=>by injection e with e;omega)
    .exact hkeep _ _ _ _ _ anN gk (λr e=>by injection e with e;subst e;exact QZ e4 (by decide) (by omega))
    .exact((c6.grown cx c6.size (by simp)).grown fi (by omega) (λk e=>by injection e with e;omega)).grown gk (by omega) (λk e=>by injection e with e;omega))
   clear bc cx fi gk henc bP bw eg pm aG e2 e3 e4 c2;gi_wp2
   exact oy.out
 case done=>
  rintro D ys W cH MU ⟨⟨⟨h1,af,aq⟩,N,n,st,aK,aT,ci⟩,c6,e8⟩ hK;rw[MU,reverse_reverse]at aK;obtain⟨cU,aS,pz,_⟩:=z1 U log br.out _ N n st aK;have dh:=br.out.high;have L9:n<=90000:=by
   have h1:log*syms.length<=9*10000:=Nat.mul_le_mul dh (by omega);omega
  have c1:=h1.cell;have c2:=af.cell;have c4:=aT.cell;have bR:=I (Qg.out W c6);have sO:=I (oB.out W N n st log aS dh (by omega) ci);gi_wp2
  refine wpIn_wide.2 ?_;have anO:ma N n W.drew:=hkeep _ _ _ _ _ ci (ns (dg _ none)) (by simp);have o9:=I (Qg.out W.drew c6.drew);have sO:=I (oB.out W.drew N n st log aS dh (by omega) anO);go_region_held3 (λbb=>bb.cell? ⟨w.heap.size,0,none⟩=some (.pointer (some p))/\bb.cell? ⟨w.heap.size+1,0,none⟩=some (.func (.func oe) #[] #[cap])/\bb.cell? ⟨w.heap.size+3,0,none⟩=some (.int .i64 st)) (first|exact⟨c1,c2,c4⟩|exact⟨d1,d2,d4⟩) (first
  |(go_at_call 216;(with_reducible refine o9.out.mono ?_);rintro e w' ⟨rfl,rfl⟩)
  |((with_reducible refine sO.out.mono ?_);rintro e Cn ⟨⟨axp,rfl⟩,XY,nx⟩;have aG:=I (kl h1 (W:=W.drew) nx (λr e=>by injection e with e;omega));have e2:=I (kl af (W:=W.drew) nx (λr e=>by injection e with e;omega));have e3:=I (kl aq (W:=W.drew) nx (λr e=>by injection e with e;omega));have e4:=I (kl aT (W:=W.drew) nx (λr e=>by injection e with e;omega));have d1:=aG.out.cell;have d2:=e2.out.cell;have d4:=e4.out.cell))
  have ajj:Cn.heap.size≥W.heap.size:=nx.size;have K9:Cn.heap[D]?=some (.deferred (some [])):=(nx.block D (Array.getElem?_eq_some_iff.1 hK).1 (λe=>by injection e with e;omega)).trans hK;have ye:=grownBy_setCell' Cn (w.heap.size+2) (.bool true);have K8:(Cn.setCell ⟨w.heap.size+2,0,none⟩ (.bool true)).heap[D]?=some (.deferred (some [])):=(ye.block D (Array.getElem?_eq_some_iff.1 K9).1 (λe=>by injection e with e;omega)).trans K9;have XW:=hkeep _ _ _ _ _ XY ye (λr e=>by injection e with e;subst e;exact QZ e3.out (by decide) (by omega));have TA:Below w0.heap.size w0 (Cn.setCell ⟨w.heap.size+2,0,none⟩ (.bool true)):=((c6.drew.grown nx c6.size (λk e=>by injection e with e;omega)).grown ye (dl c6.size ajj) (λk e=>by injection e with e;omega));have c3:=e3.out.cell;have f3:=e3.out.frozen;have jm:=cell_kept (e3.out.set (.bool true)).cell (grownBy_putObj' _ D (.deferred none)) (λr e=>by cases e;exact⟨_,K8,rfl⟩);have Im:=I K8;have nc:=I jm;have abn:=I TA;have aeD:=I XW;clear K9 K8 jm ye nx XW XY TA d1 d2 d4 c1 c2 c4;gi_wp2
  refine⟨by simp,.inl ⟨_,_,rfl,run_takeDeferred Im.out,?_⟩⟩;have jm:=nc.out;refine⟨.bool true,?_,?_,abn.out.trans (belowK_b (w:=w) (by omega) _ D _ _ (by omega) Im.out rfl rfl)⟩
  .simp[results,Tryz.f199,go_sem,jm]
  .rw[aK];exact⟨rfl,hkeep _ _ _ _ _ aeD.out (grownBy_putObj' _ D (.deferred none)) (λr e=>by cases e;exact Q0 Im.out rfl (by omega))⟩
 case stop=>
  rintro D c pre W cH hpre ⟨⟨rfl,af,aq⟩,c6⟩ hK;have henc:am.encR U log syms=none:=by
   obtain⟨t,aE⟩:=hpre;have h:=congrArg List.reverse aE;rw[reverse_append,reverse_reverse]at h;rw[<-h];exact Sh U log _ af _
  gi_wp2
  refine⟨by simp,.inl ⟨_,_,rfl,run_takeDeferred hK,?_⟩⟩;have jm:=cell_kept aq.cell (grownBy_putObj' _ D (.deferred none)) (λr e=>by cases e;exact⟨_,hK,rfl⟩);refine⟨.bool false,?_,by rw[henc];rfl,c6.trans (belowK_b (w:=w) (by omega) _ D _ _ (by omega) hK rfl rfl)⟩;simp[results,Tryz.f199,go_sem,jm]
theorem dL.aside{w w':ah}{b N n:Nat}{row:Option Nat}(h:dL w b 0 N n)(aF:w.grownBy w' row)(aj:∀r,row=some r->Aside w b r):dL w' b 0 N n:=by
 obtain⟨p,rest,us,ao,h1,af,f0,f1,f2,aA,hc,hw⟩:=h;have hl:=aF.block b aA.lt (λe=>(aj b e.symm).1 rfl);exact⟨p,rest,us,(World.cell?_of_block hl).trans ao,(World.cell?_of_block hl).trans h1,(World.cell?_of_block hl).trans af,(World.frozen?_of_block hl).trans f0,(World.frozen?_of_block hl).trans f1,
  (World.frozen?_of_block hl).trans f2,aA.keep hl,hc.keep (λg ag hrow=>hrow.keep (aF.block g hrow.lt (λe=>(aj g e.symm).2 ag hrow))),hw⟩
theorem ahL(b:Nat)(W:ah)(N n v k:Nat)(aD:v<2^k)(hk:k<=9)(aA:n<=100000)(h:dL W b 0 N n) :
  Calls prog 200 #[.int .i64 v,.int .i64 k,.pointer (some ⟨b,0,none⟩)] W λe w'=>(∃v,e=.returned v)/\dL w' b 0 (N+v*2^n) (n+k)/\W.grownBy w' (some b):=by
 have n6:v<=512:=by
  have h1:2^k<=2^9:=dy (by omega) hk;have af:(2:Nat)^9=512:=by decide
  omega
 have ax:=D8 b 0 N n v k W (by omega) (by omega) (by omega) h;rw[mod_eq_of_lt aD]at ax;have jK:=I ax;clear ax h aD;go_enter func200,ntmps200
 go_wp2_with fail
 refine jK.out.mono ?_;rintro e w' ⟨rfl,h1,af⟩;have H1:=I h1;have dN:=I af;clear h1 af;go_wp2;go_end0
 exact⟨⟨_,rfl⟩,H1,dN⟩
theorem ahz(w:ah)(p:Addr)(U:ae)(log:Nat)(A:a7)(c:Nat)(syms:ae)(aL:dW U log)(aE:jc w p U log)(ap:syms.length<=10000)(au:∀x∈syms,x<256)(aj:Reads w A (aO syms)) :
  Calls prog 166 #[.pointer (some p),.slice A syms.length c] w λe w'=>xe w' e (uF U log syms)/\av w w':=by
 have dw:=(Below.refl w.heap.size w).alloc bl (.cells #[.pointer none,.int .u64 0,.int .i64 0] 153);have hc:=aht 200 (.pointer (some ⟨w.heap.size,0,none⟩)) (λN n W=>dL W w.heap.size 0 N n) w.heap.size p U log A c syms w (w.alloc (.cells #[.pointer none,.int .u64 0,.int .i64 0] 153))
  (enters_of func200 (by kernel_rfl) rfl) (λN n W bb row h aF aj=>h.aside aF aj) (λW N n v k h1 af aq aK=>ahL w.heap.size W N n v k h1 af aq aK) aL aE ap au aj dw bl (by simp) (dL.new w 153 (by decide))
 have gO:=I hc;have r7:=aL.high;have hz:=Kk U log aL syms;clear hc aE au aj;unfold uF;cases henc:am.encR U log syms with
|none=>
  have lR:qF U log syms=none:=by unfold qF;rw[henc];rfl
  rw[lR];rw[henc]at gO;unfold H3 at gO;dsimp only at gO;clear hz lR henc dw aL;go_enter func166,ntmps166
  go_wp2_with fail
  refine gO.out.mono ?_;rintro e w' ⟨rfl,ak⟩;have b5:=I ak;clear ak;go_wp2;go_ret2;exact⟨⟨_,_,rfl⟩,b5⟩
|some t=>
  obtain⟨N,n,st⟩:=t;have lR:qF U log syms=some (N+st*2^n,n+log):=by unfold qF;rw[henc];rfl
  obtain⟨bh,bN,en⟩:=hz _ _ lR;have L9:n+log<=100000:=by
   have h1:log*(syms.length+1)<=9*10001:=Nat.mul_le_mul r7 (by omega);omega
  rw[lR];rw[henc]at gO;unfold H3 at gO;dsimp only at gO;rw[map_some];dsimp only;clear hz lR henc dw aL bN en;generalize N+st*2^n=M at *;generalize n+log=m at *;go_enter func166,ntmps166
  go_wp2_with fail
  refine gO.out.mono ?_;rintro e w' ⟨⟨rfl,dT⟩,ak⟩;have ca:=I (aqD w.heap.size 0 M m w' (by omega) bh dT);have b5:=I ak;clear ak dT;go_wp2_with fail
  refine ca.out.mono ?_;rintro e aC ⟨g,cap,rfl,hown,aJ⟩;obtain⟨da,db,e',bt,_⟩:=kJ hown;injection e' with aG e2 e3
  have bm:=b3 b5 aJ;have ep:=I bt;rw[<-aG]at ep;clear hown aJ bt aG e3 e2;go_wp2;go_ret2;exact⟨⟨some ⟨g,0,none⟩,cap,by rw[YR];rfl,ep⟩,bm⟩
namespace am
theorem aqV(bs:ae)(au:∀x∈bs,x<256)(hl:bs.length<=1048576)(ao:0<bs.length):(o1 (ei bs) (e9 (ei bs):Int)).length=eL bs:=by
 obtain⟨aj,aT,dh,ap⟩:=(Kq bs au hl).2 ao;have ax:=Oo (ei bs) aj;obtain⟨ag,aG,e2,e3,_,_,gG,nY⟩:=ax;unfold o1;rw[aB ⟨aj,aT,dh,ap⟩,cX,cQ,e2];rw[cX]at ap;rw[(OB ag (2^e9 (ei bs)) nY (by rw[gG];exact ap)).2.1,e3,s8]
theorem aqW(bs U:ae)(au:∀x∈bs,x<256)(hl:bs.length<=1048576)(ao:0<bs.length)(hX:o1 (ei bs) (e9 (ei bs):Int)=U.map (λn:Nat=>(n:Int)))(hpos:∀b∈bs,0<U[b]?.getD 0):cA U=U:=by
 have hlen:=aqV bs au hl ao;rw[hX,cQ]at hlen;obtain⟨b,ak,e⟩:=O5 bs (HR bs (by intro e;rw[e]at ao;simp at ao));have ax:=hpos b ak;refine Y2 U (λaZ=>?_);rw[getLast_eq_getElem];have ay:U.length-1=b:=by omega
 have eu:b<U.length:=by omega
 rw[bI eu,b7]at ax;simp only[ay];exact ax
end am
theorem anL{w:ah}{base g:Nat}{ss:List (ae)}(h:Row w g 9 (mC ss))(ak:base<=g)(hm:ss.length<=1000000000):w.ownsRow base 9 1 (.slice (some ⟨g,0,none⟩) ss.length ss.length) ss.length (mC ss):=
 ⟨by rw[Eo,Nat.mul_one],.inr ⟨g,ss.length,(mC ss).toArray,rfl,ak,h,Nat.le_refl _,by unfold maxLen;omega,by simp[Eo],by rw[take_of_length_le (by simp[Eo])]⟩⟩
theorem alj:(prog.info? 9).map (λi=>(i.zero,i.size,i.bytes))=some (some (.string ⟨#[]⟩),1,16):=by kernel_rfl
theorem aoI(A B:a7)(c d:Nat)(ag:ae)(w:ah)(ao:0<ag.length)(hl:ag.length<=700)(ej:∀x∈ag,x<28)(aj:Reads w A (aO ag))(iu:Reads w B (gB (ei ag))) :
  Calls prog 134 #[.slice A ag.length c,.slice B (eL ag) d] w λe w'=>(∃S,uq ag S/\e=.returned (.tuple #[.string (strOf S),.bool true]))/\av w w':=by
 have au:∀x∈ag,x<256:=λx ai=>by have:=ej x ai;omega
 obtain⟨l,iq⟩:∃l,l=ei ag:=⟨_,rfl⟩;have hlen:l.length=eL ag:=by rw[iq];exact s8 ag
 have CS:=tP ag au;have cV:∀x∈l,ec x:=λx ai=>by
  rw[iq]at ai;have:=FF ag x ai;unfold ec;omega
 have hiff:=Kq ag au (by omega);obtain⟨U,hX,hfair,hpos,aj8⟩:=aqU ag au (by omega) ao;have hshort:=aqW ag U au (by omega) ao hX hpos;rw[<-iq]at hiff hX hfair iu;have UF:5<=e9 l/\e9 l<=9:=by have:=hfair.1;have:=hfair.2.1;omega
 have mw:ec (e9 l:Int):=by unfold ec;omega
 have dN:=I (anf B d l w (by omega) cV iu);have fQ:(o1 l (e9 l:Int)).length=U.length:=by rw[hX,cQ]
 have sj:gB (o1 l (e9 l:Int))=aM U:=by rw[hX,jF]
 have hD:Hid (∀W,Reads W B (gB l)->Calls prog 163 #[.slice B l.length d,.int .i64 (e9 l)] W λe w'=>∃da db,e=.returned (.tuple #[.slice da U.length db,.bool true])/\Reads w' da (aM U)/\av W w'):=I (λW h1=>by
  have af:=ank B d l _ W (by omega) cV mw h1;rw[bE (hiff.2 ao),fQ,sj]at af;exact af)
 rw[hX]at hfair;have kp:=KK _ _ hfair;have Ax:(U.map (λn:Nat=>(n:Int))).map Int.toNat=U:=by
  rw[List.map_map];conv=>rhs;rw[<-List.map_id U]
  apply map_congr_left
  intro x _;rfl
 rw[Ax,cX]at kp;have aj9:0<U.length:=by
  cases U with
 |nil=>
   have h:=kp.sum;have af:=eK (e9 l);rw[sum_nil]at h;omega
 |cons _ _=>simp
 have ot:Hid (∀A c W,Reads W A (aM U)->Calls prog 165 #[.slice A U.length c,.int .i64 (e9 l)] W λe w'=>∃p,e=.returned (.tuple #[.pointer (some p),.bool true])/\jc w' p U (e9 l)/\av W w'):=I (λA c W h1=>by
  have af:=ZK.build A c (U.map (λn:Nat=>(n:Int))) (e9 l:Int) W (by rw[cQ];omega) (λx ai=>by
   have:=hfair.2.2.2.1 x ai;unfold ec;omega) mw (by rw[jF];exact h1) hfair
  rw[cQ,Ax,cX]at af;exact af)
 have oB:Hid (∀W b A c,dL W b 0 0 0->Reads W A (aM U)->(∀a,A=some a->a.block≠b)->Calls prog 164 #[.pointer (some ⟨b,0,none⟩),.slice A U.length c,.int .i64 (e9 l)] W λe w'=>e=.returned (.bool true)/\dL w' b 0 (fy U (e9 l)).1 (fy U (e9 l)).2/\W.grownBy w' (some b)):=I (λW b A c dT h1 hA=>by
  have af:=ajp W b 0 0 0 A c (U.map (λn:Nat=>(n:Int))) (e9 l:Int) (by omega) dT (by rw[cQ];omega) (λx ai=>by
   have:=hfair.2.2.2.1 x ai;unfold ec;omega) mw (by rw[jF];exact h1) (λa e _=>hA a e) hfair
  rw[cQ,Ax,cX,Nat.pow_zero,Nat.mul_one,ez,ez]at af;exact af)
 obtain⟨t,aE⟩:=Sk U (e9 l) kp ag hpos;obtain⟨N,k,hc⟩:∃N k,qF U (e9 l) ag=some (N,k):=⟨_,_,by unfold qF;rw[aE];rfl⟩;obtain⟨cU,hk,_⟩:=Kk U (e9 l) kp ag N k hc;have he:uF U (e9 l) ag=some (kN N k):=by unfold uF;rw[hc];rfl
 have hsl2:=YR N k;have AG:=aqC N k;have yn:k<=9*701:=dl hk (Nat.mul_le_mul UF.2 (by omega));have zf:Hid (∀W p,jc W p U (e9 l)->Reads W A (aO ag)->Calls prog 166 #[.pointer (some p),.slice A ag.length c] W λe w'=>(∃A c,e=.returned (.tuple #[.slice A (kN N k).length c,.bool true])/\Reads w' A (aO (kN N k)))/\av W w'):=I (λW p aE aj=>by
  have h1:=ahz W p U (e9 l) A c ag kp aE (by omega) au aj;rw[he]at h1;exact h1)
 have jO:=arI ag U (kN N k) (e9 l) ej kp hshort he (by omega) AG (by omega);have bA:=T1 U (e9 l) kp;obtain⟨aI,oT⟩:∃aI,aI=am.bytesOf (fy U (e9 l)).1 (((fy U (e9 l)).2+7)/8):=⟨_,rfl⟩;have wE:aI.length=((fy U (e9 l)).2+7)/8:=by rw[oT,am.bytesOf_length]
 have yg:∀x∈aI,x<256:=by rw[oT];exact ut _ _
 rw[<-oT]at jO;have lH:Hid (∀W b,dL W b 0 (fy U (e9 l)).1 (fy U (e9 l)).2->Calls prog 100 #[.pointer (some ⟨b,0,none⟩)] W λe w'=>∃g,e=.returned (.slice (some ⟨g,0,none⟩) aI.length aI.length)/\Reads w' (some ⟨g,0,none⟩) (aO aI)/\av W w'):=I (λW b h=>by
  have h1:=zT b 0 (fy U (e9 l)).1 (fy U (e9 l)).2 W (by omega) h;rw[wE,oT];exact h1.mono λe w' ⟨g,he,_,hrow,ak⟩=>⟨g,he,og hrow,ak⟩)
 have Bs:=I jO;have abt:=I (λW=>Pr 2 W (by omega));have IK:=I (λW A c (h:Reads W A (aO aI))=>oL W A c aI yg h);have abZ:=I (λW A c (h:Reads W A (aO (kN N k)))=>oL W A c (kN N k) AG h);have a1:=lP aI.length (by omega);have bp:=lP (kN N k).length (by omega);have xJ:=I (λW b (h:fH W b [2])=>HZ b [2] aI W (by simp) (by omega) h);have QJ:=I (λW b (h:fH W b ([2]++(bg aI.length++aI)))=>HZ b ([2]++(bg aI.length++aI)) (kN N k) W (by simp;omega) (by omega) h);have e0:([2]++(bg aI.length++aI))++(bg (kN N k).length++kN N k)=uz aI (kN N k):=by
  unfold uz;simp
 rw[e0]at QJ;have hj:=I (λW b (h:fH W b (uz aI (kN N k)))=>vC b (uz aI (kN N k)) W (by simp[uz];omega) jO.lt h);have bj:=I aj;have B4:=I iu;have aud:=I (λW bb p h ak=>pL W bb p U (e9 l) h ak);rw[<-hlen];clear iq CS cV hiff hX hfair hpos aj8 hshort mw fQ sj kp Ax aE hc cU hk he hsl2 AG jO bA oT wE yg a1 bp e0 aj iu au ej hlen yn UF;generalize kN N k=vx at *;generalize uz aI vx=E at *;generalize fy U (e9 l)=avN at *;generalize e9 l=bT at *;generalize l.length=G1 at *;have qz:Hid (aM U≠[]):=I (λe=>by rw[<-length_eq_zero_iff,gm]at e;omega);clear aj9;generalize U.length=axf at *;generalize hz:ag.length=m at *;clear hz;go_enter func134,ntmps134
 go_wp2_with fail
 refine dN.out.mono ?_;rintro e aw ⟨rfl,aH⟩;have aN:=I aH;have aaw:=I (hD.out aw (c7 B4.out aH));clear aH;go_wp2_with fail
 refine aaw.out.mono ?_;rintro e aC ⟨eR,c2,rfl,bS,aJ⟩;have bm:=b3 aN aJ;obtain⟨mf,mq⟩:∃mf,aC.heap.size=mf:=⟨_,rfl⟩;have dw:=(Below.refl aC.heap.size aC).alloc bl (.cells #[.pointer none,.int .u64 0,.int .i64 0] 153);have dT:=dL.new aC 153 (by decide);have uI:∀a,eR=some a->a.block≠mf:=λa e=>by
  obtain⟨g,off,e2,hcell⟩:=bS qz.out;rw[e2]at e;injection e with e
  subst e;have h1:0<(aM U).length:=List.length_pos_iff.2 qz.out;have af:=hcell 0 h1;rw[bI h1]at af;have aq:=World.block_lt_of_cell? aC _ af;dsimp only at aq ⊢;omega
 have va:=c7 bS dw;have sZ:=I va;have jK:=I (oB.out _ _ eR c2 dT va (by rw[mq];exact uI));have vG:=b3 bm dw;have rv:=I mq;have Ii:=I uI;have hle:w.heap.size<=mf:=by rw[<-mq];exact bm.out.size
 clear bS aJ dw dT uI va mq;go_wp2_with fail
 rw[rv.out]at jK;rw[rv.out];refine jK.out.mono ?_;rintro e bH ⟨rfl,Wh,cx⟩;have dt:=I (vG.out.grown cx vG.out.size (λx e=>by injection e with e;omega));have jS:=Ed sZ.out Ii.out cx;have abr:=I (ot.out eR c2 bH jS);have aej:=I Wh;clear Wh cx jS;go_wp2_with fail
 refine abr.out.mono ?_;rintro e dp ⟨p,rfl,sm,cL⟩;have dX:=b3 dt cL;have aek:=I (aej.out.below cL);have acb:=I (zf.out dp p sm (c7 bj.out dX));clear sm cL;go_wp2_with fail
 refine acb.out.mono ?_;rintro e dB ⟨⟨rj,uv,rfl,n4⟩,gA⟩;have kf:=b3 dX gA;have ael:=I (aek.out.below gA);have uf:=I n4;clear n4 gA;have ab0:Hid (∀W,av dB W->(convert 87 9 (.slice rj vx.length uv)).run prog W=.ok (.string (strOf vx)) W):=I (λW ak=>abZ.out W rj uv (c7 uf.out ak));have avJ:=ab0.out;generalize strOf vx=axD at *;generalize strOf aI=axB at *;have dO:Hid (∃S,uq ag S/\strOf E=strOf S):=I ⟨E,Bs,rfl⟩;generalize strOf E=Ov at *;go_upto_region 9 with fail
 refine wp_region_held_drew (S:=(λW:ah=>av dB W)) (by kernel_rfl) (by exact dM.drew) (λhHeld=>?_);refine bJ 4 {dst:=some 43,op:=.move (.tmp 12),type:=87,pos:= "stream.go:81",after:=#[],guard:=none} ?_ rfl (Or.inl ⟨by rfl,?_⟩) ?_;rotate_left
 ·(intro w hSw;(try dsimp only at hSw);go_simp;(try with_reducible rfl))
 try simp only[bf]
 refine bJ 5 {dst:=some 44,op:=.convert 87 9 (.tmp 43),type:=9,pos:= "stream.go:81",after:=#[{on:=4,ground:=.data}],guard:=none} ?_ rfl (Or.inl ⟨by rfl,?_⟩) ?_;rotate_left
 ·(intro w hSw;(try dsimp only at hSw);go_simp;(try with_reducible rfl))
 try simp only[bf]
 refine hd 0 {dst:=some 39,op:=.call {callee:=.value (.func 133),args:=#[.const (.int .u64 2)],argTypes:=#[31]},type:=63,pos:= "stream.go:81",after:=#[],guard:=none} rfl (λK hK=>?_);go_simp
 (go_at_call 133;refine(abt.out _).mono ?_;rintro e dk ⟨b,rfl,rY,kn,fW⟩;have ib:=I (hHeld.trans (fW.mono hHeld.size));have eb:=I (dl hHeld.size kn);have mG:=I rY;clear rY fW kn)
 go_simp;refine hK.out _ _ (by exact ib) (λhHeld=>?_);clear hK K
 try simp only[bf]
 refine hd 1 {dst:=some 40,op:=.call {callee:=.value (.func 100),args:=#[.tmp 9],argTypes:=#[153]},type:=87,pos:= "stream.go:81",after:=#[{on:=0,ground:=.chain}],guard:=none} rfl (λK hK=>?_);go_simp
 (go_at_call 100;refine(lH.out _ _ (ael.out.below ib)).mono ?_;rintro e oo ⟨g,rfl,vb,k3⟩;have ro:=b3 ib k3;have xj:=I (mG.out.below k3);have fc:=I vb;clear vb k3 ib mG)
 go_simp;refine hK.out _ _ (by exact ro) (λhHeld=>?_);clear hK K
 try simp only[bf]
 have TT:=IK.out oo _ aI.length fc.out;refine hd 2 {dst:=some 41,op:=.convert 87 9 (.tmp 40),type:=9,pos:= "stream.go:81",after:=#[{on:=1,ground:=.data}],guard:=none} rfl (λK hK=>?_);go_simp;refine hK.out _ _ (by exact ro) (λhHeld=>?_);clear hK K
 try simp only[bf]
 refine hd 3 {dst:=some 42,op:=.call {callee:=.value (.func 63),args:=#[.tmp 39,.tmp 41],argTypes:=#[63,9]},type:=63,pos:= "stream.go:81",after:=#[{on:=0,ground:=.data},{on:=2,ground:=.data},{on:=1,ground:=.chain}],guard:=none} rfl (λK hK=>?_);go_simp
 (go_at_call 63;refine(xJ.out _ _ xj).mono ?_;rintro e xa ⟨rfl,rZ,nx⟩;have nN:=I (ro.out.trans (below_grown nx eb.out ro.out.size));have l4:=I rZ;clear rZ nx)
 go_simp;refine hK.out _ _ (by exact nN) (λhHeld=>?_);clear hK K
 try simp only[bf]
 refine hd 6 {dst:=some 45,op:=.call {callee:=.value (.func 63),args:=#[.tmp 42,.tmp 44],argTypes:=#[63,9]},type:=63,pos:= "stream.go:81",after:=#[{on:=3,ground:=.data},{on:=5,ground:=.data},{on:=3,ground:=.chain}],guard:=none} rfl (λK hK=>?_);go_simp
 (go_at_call 63;refine(QJ.out _ _ l4).mono ?_;rintro e axM ⟨rfl,TN,ye⟩;have nM:=I (nN.out.trans (below_grown ye eb.out nN.out.size));have lF:=I TN;clear TN ye)
 go_simp;refine hK.out _ _ (by exact nM) (λhHeld=>?_);clear hK K
 try simp only[bf]
 refine hd 7 {dst:=some 46,op:=.call {callee:=.value (.func 34),args:=#[.tmp 45],argTypes:=#[63]},type:=9,pos:= "stream.go:81",after:=#[{on:=6,ground:=.data},{on:=6,ground:=.chain}],guard:=none} rfl (λK hK=>?_);go_simp
 (go_at_call 34;refine(hj.out _ _ lF).mono ?_;rintro e tQ ⟨rfl,wy⟩;have ja:=b3 nM wy;clear wy)
 go_simp;refine hK.out _ _ (by exact ja) (λhHeld=>?_);clear hK K
 try simp only[bf]
 refine bJ 8 {dst:=some 4,op:=.assign (.tmp 46),type:=9,pos:= "stream.go:81",after:=#[{on:=7,ground:=.data},{on:=7,ground:=.chain},{on:=0,ground:=.phase},{on:=1,ground:=.phase},{on:=2,ground:=.phase},{on:=3,ground:=.phase},{on:=4,ground:=.phase},{on:=5,ground:=.phase},{on:=6,ground:=.phase},{on:=7,ground:=.phase}],guard:=none} ?_ rfl (Or.inl ⟨by rfl,?_⟩) ?_;rotate_left
 ·(intro w hSw;(try dsimp only at hSw);go_simp;(try with_reducible rfl))
 try simp only[bf]
 refine bJ 9 {dst:=some 5,op:=.assign (.const (.bool true)),type:=4,pos:= "stream.go:81",after:=#[{on:=8,ground:=.chain},{on:=0,ground:=.phase},{on:=1,ground:=.phase},{on:=2,ground:=.phase},{on:=3,ground:=.phase},{on:=4,ground:=.phase},{on:=5,ground:=.phase},{on:=6,ground:=.phase},{on:=7,ground:=.phase},{on:=8,ground:=.phase}],guard:=none} ?_ rfl (Or.inl ⟨by rfl,?_⟩) ?_;rotate_left
 ·(intro w hSw;(try dsimp only at hSw);go_simp;(try with_reducible rfl))
 try simp only[bf]
 refine wpAnyH_done (by kernel_rfl) ?_ _;go_wp2;go_ret2;obtain⟨S,aiR,Ll⟩:=dO.out;exact⟨⟨S,aiR,by rw[<-Ll];rfl⟩,kf.out.trans (ja.out.mono kf.out.size)⟩
theorem ag3(A:a7)(L c q:Nat)(W:ah)(h:q<=L)(hc:L<=c):(Instr.slice 87 (.slice A L c) none (some (.int .i64 q)) none).run prog W=.ok (.slice A q c) W:=by
 have h1:q<=c:=by omega
 go_simp
theorem apM{w:ah}{A:a7}{l:ae}(k:Nat)(h:Reads w A (aO l)):Reads w A (aO (l.take k)):=λaZ=>by
 have ao:l.take k≠[]:=by intro e;rw[e]at aZ;exact aZ rfl
 obtain⟨g,off,e,hc⟩:=h (by
   intro e;have:l=[]:=by simpa [aO]using e
   rw[this]at ao;simp at ao)
 refine⟨g,off,e,λj ar=>?_⟩;rw[i7,cr]at ar;rw[hc j (by rw[i7];omega),jq l j (by omega),jq (l.take k) j (by rw[cr];omega),getElem_take]
theorem apI{w w':ah}{A:a7}{xs:b1}{row:Option Nat}(h:Reads w A xs)(hA:∀a,A=some a->row≠some a.block)(aF:w.grownBy w' row):Reads w' A xs:=λaZ=>by
 obtain⟨g,off,rfl,hc⟩:=h aZ;have ls:=hA _ rfl;refine⟨g,off,rfl,λj ar=>?_⟩;have h1:=hc j ar;have au:j<xs.length:=ar;rw[bI au]at h1 ⊢;have af:=World.block_lt_of_cell? w _ h1;exact(World.cell?_of_block (a:=⟨g,off+j,none⟩) (aF.block g af (λe=>ls e.symm))).trans h1
theorem ao3(A:a7)(c:Nat)(ag:ae)(w:ah)(ao:0<ag.length)(hl:ag.length<=700)(hc:ag.length<=c)(ej:∀x∈ag,x<28)(aj:Reads w A (aO ag)) :
  Calls prog 102 #[.slice A ag.length c] w λe w'=>(∃da db ss,e=.returned (.slice da ss.length db)/\Reads w' da (mC ss)/\(∀s∈ss,uq ag s)/\ss[0]?=some (kK ag)/\ss.length<=3)/\av w w':=by
 obtain⟨i0,ay,bC,bL,bz⟩:=info_parts alj;have au:∀x∈ag,x<256:=λx ai=>by have:=ej x ai;omega
 have CS:=tP ag au;have nP:Hid (∀W,av w W->(convert 87 9 (.slice A ag.length c)).run prog W=.ok (.string (strOf ag)) W):=I (λW ak=>oL W A c ag au (c7 aj ak));have wN:(ag.take 1).length=1:=by rw[cr];omega
 have IK:Hid (∀W,av w W->(convert 87 9 (.slice A 1 c)).run prog W=.ok (.string (strOf (ag.take 1))) W):=I (λW ak=>by
  have h:=oL W A c (ag.take 1) (pN au 1) (apM 1 (c7 aj ak));rw[wN]at h;exact h)
 have E5:Hid (∀W,(Instr.slice 87 (.slice A ag.length c) none (some (.int .i64 1)) none).run prog W=.ok (.slice A 1 c) W):=I (λW=>ag3 A ag.length c 1 W (by omega) hc);have abu:=I (λW=>Pr 0 W (by omega));have abv:=I (λW=>Pr 1 W (by omega));have Qx:=I (λW b (h:fH W b [0])=>tR b [0] ag W (by simp;omega) h);have Qy:=I (λW b (h:fH W b [1])=>tR b [1] (ag.take 1) W (by simp;omega) h);have e0:[0]++ag=kK ag:=rfl;have aG:[1]++ag.take 1=pk ag:=rfl;have B2:=I (arM ag ej);have U1:∀x∈kK ag,x<256:=B2.out.lt;have Tx:∀x∈pk ag,x<256:=λx ai=>by
  rcases List.mem_cons.1 ai with rfl|ai
  .omega
  .exact pN au 1 x ai
 rw[e0]at Qx;rw[aG]at Qy;have ad0:=I (λW b (h:fH W b (kK ag))=>vC b (kK ag) W (by simp[kK];omega) U1 h);have ad1:=I (λW b (h:fH W b (pk ag))=>vC b (pk ag) W (by simp[pk];omega) Tx h);have xC:=I (λh=>arH ag ej h);have xw:=I (λW (ak:av w W)=>anh A c ag W (by omega) au (c7 aj ak));have ju:=I (λA c W h=>NJ A c ag W au h);have j2:=I (λB d W (ak:av w W) (h:Reads W B (aM (il ag)))=>aoI A B c d ag W ao hl ej (c7 aj ak) (by unfold ei;rw[jF];exact h));have hcv:=nP.out;clear ej aj au CS e0 aG U1 Tx wN;go_enter func102,ntmps102
 go_upto_region 1 with fail
 refine wp_region_held_drew (S:=(λW:ah=>av w W)) (by kernel_rfl) (by exact dM.drew) (λhHeld=>?_);refine bJ 1 {dst:=some 8,op:=.move (.tmp 0),type:=87,pos:= "stream.go:52",after:=#[],guard:=none} ?_ rfl (Or.inl ⟨by rfl,?_⟩) ?_;rotate_left
 ·(intro w hSw;(try dsimp only at hSw);go_simp;(try with_reducible rfl))
 try simp only[bf]
 refine bJ 2 {dst:=some 9,op:=.convert 87 9 (.tmp 8),type:=9,pos:= "stream.go:52",after:=#[{on:=1,ground:=.data}],guard:=none} ?_ rfl (Or.inl ⟨by rfl,?_⟩) ?_;rotate_left
 ·(intro w hSw;(try dsimp only at hSw);go_simp;(try with_reducible rfl))
 try simp only[bf]
 refine hd 0 {dst:=some 7,op:=.call {callee:=.value (.func 133),args:=#[.const (.int .u64 0)],argTypes:=#[31]},type:=63,pos:= "stream.go:52",after:=#[],guard:=none} rfl (λK hK=>?_);go_simp
 (go_at_call 133;refine(abu.out _).mono ?_;rintro e dk ⟨b,rfl,rY,kn,fW⟩;have ib:=I (hHeld.trans (fW.mono hHeld.size));have eb:=I (dl hHeld.size kn);have mG:=I rY;clear rY fW kn)
 go_simp;refine hK.out _ _ (by exact ib) (λhHeld=>?_);clear hK K
 try simp only[bf]
 refine hd 3 {dst:=some 10,op:=.call {callee:=.value (.func 33),args:=#[.tmp 7,.tmp 9],argTypes:=#[63,9]},type:=63,pos:= "stream.go:52",after:=#[{on:=0,ground:=.data},{on:=2,ground:=.data},{on:=0,ground:=.chain}],guard:=none} rfl (λK hK=>?_);go_simp
 (go_at_call 33;refine(Qx.out _ _ mG).mono ?_;rintro e xa ⟨rfl,rZ,nx⟩;have nN:=I (ib.out.trans (below_grown nx eb.out ib.out.size));have l4:=I rZ;clear rZ nx)
 go_simp;refine hK.out _ _ (by exact nN) (λhHeld=>?_);clear hK K
 try simp only[bf]
 refine hd 4 {dst:=some 11,op:=.call {callee:=.value (.func 34),args:=#[.tmp 10],argTypes:=#[63]},type:=9,pos:= "stream.go:52",after:=#[{on:=3,ground:=.data},{on:=3,ground:=.chain}],guard:=none} rfl (λK hK=>?_);go_simp
 (go_at_call 34;refine(ad0.out _ _ l4).mono ?_;rintro e tQ ⟨rfl,wy⟩;have ja:=b3 nN wy;clear wy)
 go_simp;refine hK.out _ _ (by exact ja) (λhHeld=>?_);clear hK K
 try simp only[bf]
 refine hd 5 {dst:=some 12,op:=.buildSlice 163 1 #[(0,.tmp 11)],type:=163,pos:= "stream.go:52",after:=#[{on:=4,ground:=.data}],guard:=none} rfl (λK hK=>?_);go_simp;refine hK.out _ _ (by exact ja.out.alloc ja.out.size _) (λhHeld=>?_);clear hK K
 try simp only[bf]
 refine bJ 6 {dst:=some 3,op:=.assign (.tmp 12),type:=163,pos:= "stream.go:52",after:=#[{on:=5,ground:=.data},{on:=4,ground:=.chain},{on:=0,ground:=.phase},{on:=1,ground:=.phase},{on:=2,ground:=.phase},{on:=3,ground:=.phase},{on:=4,ground:=.phase},{on:=5,ground:=.phase}],guard:=none} ?_ rfl (Or.inl ⟨by rfl,?_⟩) ?_;rotate_left
 ·(intro w hSw;(try dsimp only at hSw);go_simp;(try with_reducible rfl))
 try simp only[bf]
 refine wpAnyH_done (by kernel_rfl) ?_ _;have hrow:=Row.new tQ 9 (mC [kK ag]);have hown:=anL hrow ja.out.size (by simp);have TB:=ja.out.alloc ja.out.size (.cells #[.string (strOf (kK ag))] 9);have KA:tQ.alloc (.cells (mC [kK ag]).toArray 9)=tQ.alloc (.cells #[.string (strOf (kK ag))] 9):=rfl;rw[KA]at hown;obtain⟨u,hu⟩:∃u,u=Value.slice (some ⟨tQ.heap.size,0,none⟩) 1 1:=⟨_,rfl⟩;have hown2:(tQ.alloc (.cells #[.string (strOf (kK ag))] 9)).ownsRow w.heap.size 9 1 u 1 (mC [kK ag]):=by rw[hu];exact hown
 have iR:=I hown2;have PS:=I TB;rw[<-hu];clear hrow hown TB KA hu hown2 hHeld;generalize tQ.alloc (.cells #[.string (strOf (kK ag))] 9)=dK at *;clear hcv;go_wp2_with fail
 refine(xw.out dK PS).mono ?_;rintro e aC ⟨B,d,rfl,⟨bS,bx⟩,aJ⟩;have nM:Hid (∀a q,B=some a->u.ownBlock=some q->q≠a.block):=I (λa q aG e2 e3=>by
  have h1:=bx a aG;have af:=(iR.out.lt q e2).2;omega)
 clear bx;have bm:=b3 PS aJ;have oz:=I (own_below iR.out aJ);have iT:=I (ju.out B d aC bS);have fg:=I bS;clear bS aJ;go_wp2_with fail
 refine iT.out.mono ?_;rintro e a6 ⟨rfl,bA⟩;have b6:=b3 bm bA;have sZ:=I (c7 fg.out bA);have pg:=I (own_below oz.out bA);clear bA;have acC:=j2;by_cases h1:gv (ei ag)=1
 case' pos=>
  have S3:=xC.out h1;rw[h1];have aaS:=I S3;clear h1 S3;have TT:=IK.out;have fQ:=E5.out;go_upto_region 4 with fail
  refine wp_region_held_drew (S:=(λW:ah=>av w W)) (by kernel_rfl) (by exact b6.out.drew) (λhHeld=>?_);refine bJ 0 {dst:=some 18,op:=.move (.tmp 3),type:=163,pos:= "stream.go:55",after:=#[],guard:=none} ?_ rfl (Or.inl ⟨by rfl,?_⟩) ?_;rotate_left
  ·(intro w hSw;(try dsimp only at hSw);go_simp;(try with_reducible rfl))
  try simp only[bf]
  refine bJ 2 {dst:=some 20,op:=.move (.tmp 0),type:=87,pos:= "stream.go:55",after:=#[],guard:=none} ?_ rfl (Or.inl ⟨by rfl,?_⟩) ?_;rotate_left
  ·(intro w hSw;(try dsimp only at hSw);go_simp;(try with_reducible rfl))
  try simp only[bf]
  refine bJ 3 {dst:=some 21,op:=.slice 87 (.tmp 20) none (some (.const (.int .i64 1))) none,type:=87,pos:= "stream.go:55",after:=#[{on:=2,ground:=.data}],guard:=none} ?_ rfl (Or.inl ⟨by rfl,?_⟩) ?_;rotate_left
  ·(intro w hSw;(try dsimp only at hSw);go_simp;(try with_reducible rfl))
  try simp only[bf]
  refine bJ 4 {dst:=some 22,op:=.convert 87 9 (.tmp 21),type:=9,pos:= "stream.go:55",after:=#[{on:=3,ground:=.data}],guard:=none} ?_ rfl (Or.inl ⟨by rfl,?_⟩) ?_;rotate_left
  ·(intro w hSw;(try dsimp only at hSw);go_simp;(try with_reducible rfl))
  try simp only[bf]
  refine hd 1 {dst:=some 19,op:=.call {callee:=.value (.func 133),args:=#[.const (.int .u64 1)],argTypes:=#[31]},type:=63,pos:= "stream.go:55",after:=#[],guard:=none} rfl (λK hK=>?_);go_simp
  (go_at_call 133;refine(abv.out _).mono ?_;rintro e dk ⟨b,rfl,rY,kn,fW⟩;have ib:=I ((Below.refl a6.heap.size a6).drew.trans (fW.mono bl));have eb:=I kn;have mG:=I rY;clear rY fW kn)
  go_simp;refine hK.out _ _ (by exact b6.out.trans (ib.out.mono b6.out.size)) (λhHeld=>?_);clear hK K
  try simp only[bf]
  refine hd 5 {dst:=some 23,op:=.call {callee:=.value (.func 33),args:=#[.tmp 19,.tmp 22],argTypes:=#[63,9]},type:=63,pos:= "stream.go:55",after:=#[{on:=1,ground:=.data},{on:=4,ground:=.data},{on:=1,ground:=.chain}],guard:=none} rfl (λK hK=>?_);go_simp
  (go_at_call 33;refine(Qy.out _ _ mG).mono ?_;rintro e xa ⟨rfl,rZ,nx⟩;have nN:=I (ib.out.trans (below_grown nx eb.out ib.out.size));have l4:=I rZ;clear rZ nx)
  go_simp;refine hK.out _ _ (by exact b6.out.trans (nN.out.mono b6.out.size)) (λhHeld=>?_);clear hK K
  try simp only[bf]
  refine hd 6 {dst:=some 24,op:=.call {callee:=.value (.func 34),args:=#[.tmp 23],argTypes:=#[63]},type:=9,pos:= "stream.go:55",after:=#[{on:=5,ground:=.data},{on:=5,ground:=.chain}],guard:=none} rfl (λK hK=>?_);go_simp
  (go_at_call 34;refine(ad1.out _ _ l4).mono ?_;rintro e tQ ⟨rfl,wy⟩;have ja:=b3 nN wy;clear wy)
  go_simp;refine hK.out _ _ (by exact b6.out.trans (ja.out.mono b6.out.size)) (λhHeld=>?_);clear hK K
  try simp only[bf]
  refine hd 7 {dst:=some 25,op:=.buildSlice 163 1 #[(0,.tmp 24)],type:=163,pos:= "stream.go:55",after:=#[{on:=6,ground:=.data}],guard:=none} rfl (λK hK=>?_);go_simp;refine hK.out _ _ (by exact b6.out.trans ((ja.out.alloc ja.out.size _).mono b6.out.size)) (λhHeld=>?_);clear hK K
  try simp only[bf]
  have tW:=I (ja.out.alloc ja.out.size (.cells #[.string (strOf (pk ag))] 9));have Qn:=I (own_below pg.out tW);have j3:=I (World.news_of_block (heap_alloc_new tQ (.cells #[.string (strOf (pk ag))] 9)));refine hd 8 {dst:=some 26,op:=.call {callee:=.builtin .append,args:=#[.tmp 18,.tmp 25],argTypes:=#[163,163]},type:=163,pos:= "stream.go:55",after:=#[{on:=0,ground:=.data},{on:=7,ground:=.data},{on:=6,ground:=.chain}],guard:=none} rfl (λK hK=>?_)
  (refine step_append_lies _ (by rfl) _ _ _ (by rfl) w.heap.size 9 i0 (.string ⟨#[]⟩) 1 16 underlying163 ay bC bL bz rfl (by omega) u 1 (mC [kK ag]) (by rfl) Qn.out ⟨tQ.heap.size,0,none⟩ 1 1 [.string (strOf (pk ag))] (by rfl) (by rfl) j3.out (by intro u hu;simp at hu;subst hu;rfl) (by omega) (by unfold maxLen;omega) (by omega) (by have:=tW.out.size;have:=b6.out.size;omega) _ rfl ?_;intro gy ik fb lU jQ _ _;have BX:=I lU;have PT:=I ((b6.out.trans (tW.out.mono b6.out.size)).grown jQ (by have:=tW.out.size;have:=b6.out.size;omega) (λq e=>(Qn.out.lt q e).1));have aaX:=I (apI (c7 sZ.out tW) (λa e e2=>nM.out a _ e e2 rfl) jQ);clear lU jQ)
  refine hK.out _ _ (by exact PT) (λhHeld=>?_);clear hK K
  try simp only[bf]
  refine bJ 9 {dst:=some 3,op:=.assign (.tmp 26),type:=163,pos:= "stream.go:55",after:=#[{on:=8,ground:=.data},{on:=8,ground:=.chain},{on:=0,ground:=.phase},{on:=1,ground:=.phase},{on:=2,ground:=.phase},{on:=3,ground:=.phase},{on:=4,ground:=.phase},{on:=5,ground:=.phase},{on:=6,ground:=.phase},{on:=7,ground:=.phase},{on:=8,ground:=.phase}],guard:=none} ?_ rfl (Or.inl ⟨by rfl,?_⟩) ?_;rotate_left
  ·(intro w hSw;(try dsimp only at hSw);go_simp;(try with_reducible rfl))
  try simp only[bf]
  refine wpAnyH_done (by kernel_rfl) ?_ _;have fx:mC [kK ag]++[Value.string (strOf (pk ag))]=mC [kK ag,pk ag]:=rfl;have hown:=BX.out;rw[fx]at hown;obtain⟨u2,sp⟩:∃u2,u2=Value.slice (some ⟨gy,0,none⟩) 2 ik:=⟨_,rfl⟩;rw[show(1+1:Nat)=2 from rfl,<-sp]at hown;rw[<-sp];obtain⟨ss,sk⟩:∃ss,ss=[kK ag,pk ag]:=⟨_,rfl⟩;rw[<-sk]at hown;have EY:=I hown;have E6:Hid ((∀s∈ss,uq ag s)/\ss[0]?=some (kK ag)):=I (by
   rw[sk];refine⟨λs ap=>?_,by simp⟩;simp at ap;rcases ap with rfl|rfl
   .exact B2.out
   .exact aaS)
  obtain⟨k,hk⟩:∃k,k=2:=⟨_,rfl⟩;rw[<-hk]at EY;have I3:Hid (ss.length=k/\k<=2):=I (by rw[sk,hk];exact⟨rfl,Nat.le_refl _⟩);have Qw:=aaX;have Iz:=PT;have ft:k<=2:=by omega
  clear fx hown sp sk hk hHeld TT fQ;rename ah=>Z9
 case' neg=>
  have iv:(((gv (ei ag):Nat):Int)==1)=false:=cz
  generalize gv (ei ag)=cM at *;obtain⟨ss,sk⟩:∃ss,ss=[kK ag]:=⟨_,rfl⟩;have E6:Hid ((∀s∈ss,uq ag s)/\ss[0]?=some (kK ag)):=I (by
   rw[sk];refine⟨λs ap=>?_,by simp⟩;simp at ap;rw[ap];exact B2)
  obtain⟨k,hk⟩:∃k,k=1:=⟨_,rfl⟩;have EY:Hid (a6.ownsRow w.heap.size 9 1 u k (mC ss)):=I (by rw[hk,sk];exact pg);have I3:Hid (ss.length=k/\k<=2):=I (by rw[sk,hk];exact⟨rfl,by omega⟩);have Qw:=sZ;have Iz:=b6;have ft:k<=2:=by omega
  obtain⟨u2,sp⟩:∃u2,u2=u:=⟨_,rfl⟩;rw[<-sp]at EY ⊢;clear sk hk sp h1;rename ah=>Z9
 all_goals
  have I2:=I (acC.out B d Z9 Iz.out Qw);go_wp2_with fail
  refine I2.out.mono ?_;rintro e dp ⟨⟨S,cD,rfl⟩,cL⟩;have dX:=b3 Iz cL;have EX:=I (own_below EY.out cL);have cS:=I cD;have VA:=dX.out.size;clear cD cL;go_wp2_with (at_builtin;refine wpList_append_own _ rfl _ _ 163 rfl w.heap.size 9 i0 (.string ⟨#[]⟩) 1 16 underlying163 ay bC bL bz rfl (by decide) _ _ _ rfl (EX.out.alloc _) ⟨dp.heap.size,0,none⟩ 1 1 [.string (strOf S)] rfl rfl ?d1 ?d2 ?d3 ?d4 ?d5 ?_)
  case d1=>
   intro j u ar;match j,ar with
  |0,ar=>simp at ar;subst ar;simp[Addr.add]
  case d2=>intro u hu;simp at hu;subst hu;rfl
  case d3=>unfold maxLen;omega
  case d4=>omega
  case d5=>simp;omega
  intro gN dk de di _;have jz:av w dk:=(dX.out.alloc dX.out.size _).grown di (by simp;omega) (λx e=>(EX.out.lt x e).1);have e:mC ss++[Value.string (strOf S)]=mC (ss++[S]):=by simp[mC]
  rw[e]at de;obtain⟨da,db,rfl,bt,_⟩:=kJ de;have ep:=I bt;have ic:=I jz;clear de di jz e bt;go_wp2;go_ret;refine⟨⟨da,db,ss++[S],by rw[aY,I3.out.1];rfl,ep.out,λs ap=>?_,(hO (List.getElem?_eq_some_iff.1 E6.out.2).1).trans E6.out.2,by rw[aY,I3.out.1];simp;omega⟩,ic.out⟩;rcases List.mem_append.1 ap with ap|ap
  .exact E6.out.1 s ap
  .rw[List.mem_singleton.1 ap];exact cS.out
theorem ao2(A:a7)(c:Nat)(ag:ae)(w:ah)(ao:0<ag.length)(hl:ag.length<=700)(hc:ag.length<=c)(ej:∀x∈ag,x<28)(aj:Reads w A (aO ag)) :
  Calls prog 62 #[.slice A ag.length c] w λe w'=>(∃S,uo ag S/\e=.returned (.string (strOf S)))/\av w w':=by
 have ca:=I (ao3 A c ag w ao hl hc ej aj);have acX:=I (λA c ss W ao hl aj=>atV A c ss W ao hl aj);clear aj ej;generalize hm:ag.length=m at *;have cj:=I hm;clear hm;go_enter func62,ntmps62
 go_wp2_with fail
 refine ca.out.mono ?_;rintro e aC ⟨⟨da,db,ss,rfl,bt,hq,ax,wF⟩,aJ⟩;have bm:=I aJ;have jt:=I (⟨hq,ax⟩:_/\_);have I8:=I (acX.out da db ss aC (List.getElem?_eq_some_iff.1 ax).1 (by omega) bt);clear bt hq ax wF aJ;go_wp2_with fail
 refine I8.out.mono ?_;rintro e a6 ⟨⟨S,cD,hmin,T9,rfl⟩,rfl⟩;have cS:Hid (uo ag S):=I ⟨jt.out.1 S cD,by
  have:=hmin _ (mem_of_getElem? jt.out.2);simpa [kK]using this,λh=>T9 _ jt.out.2 (by rw[h];rfl)⟩
 clear cD hmin T9;have dO:Hid (∃zL,uo ag zL/\strOf S=strOf zL):=I ⟨S,cS,rfl⟩;generalize strOf S=YL at *;go_wp2;go_ret;obtain⟨zL,h1,af⟩:=dO.out;exact⟨⟨zL,h1,congrArg (λx=>Ending.returned (Value.string x)) af⟩,bm⟩
namespace am
theorem anZ(l:List eS)(r:Int×Int×Int)(h:∀s∈l,nS s)(j:Nat):∀x∈gg j (cE r l),x<28:=by
 have hle:=A3 l r h;intro x ai;unfold gg at ai;obtain⟨vs,tA,rfl⟩:=List.mem_map.1 ai;refine(KH _ ?_).2;rcases eF j vs.length with h1|h1
 .rw[bI h1,b7];exact hle _ (List.mem_flatten.2 ⟨vs,tA,b8 h1⟩)
 .rw[getElem?_eq_none h1,getD_none];omega
end am
theorem FJ{w w':ah}{A:a7}{l:ae}{b:Nat}{bs:ae}(h:fH w b bs)(aj:Reads w A (aO l))(aF:w.grownBy w' (some b)):Reads w' A (aO l):=by
 obtain⟨p,ky,hrow,_,_⟩:=h;refine Hw hrow (λm z ai=>?_) aj aF;match m,ai with
|0,ai=>simp at ai
|1,ai=>simp at ai
|m+2,ai=>simp at ai
def o8(e:Ending)(l:List eS):Prop:=
 if ∀s∈l,nS s then ∃S,Cl l S/\e=.returned (.tuple #[.string (strOf S),.bool true])else e=.returned (.tuple #[.string (strOf []),.bool false])
theorem aoG(A:a7)(c:Nat)(w:ah):Calls prog 36 #[.slice A 0 c] w λe w'=>o8 e []/\av w w':=by
 have hq:=aqN [] rfl;have hpost:∀e,e=.returned (.tuple #[.string (strOf [0]),.bool true])->o8 e []:=λe he=>by
  unfold o8;rw[aB (by simp)];exact⟨[0],hq,he⟩
 have xA:=I hpost;obtain⟨rH,rU⟩:∃rH:Ending->Prop,rH=λe=>o8 e []:=⟨_,rfl⟩
 have vF:=I rU;have hgoal:(λ(e:Ending) (w':ah)=>o8 e []/\av w w')=λe w'=>rH e/\av w w':=by rw[rU]
 rw[hgoal];have e0:([]:ae)++bg 0=[0]:=by rw[tc 0 (by omega)];rfl
 have cP:=Bh w.heap.size 0 [] _ (by omega) (by simp) (fH.new w);rw[e0]at cP;have kS:=I cP;have vG:=I ((Below.refl w.heap.size w).alloc bl (.cells #[.pointer none,.int .i64 0] 62));have hj:=I (λW (h:fH W w.heap.size [0])=>vC w.heap.size [0] W (by simp) (by simp) h);clear hq hpost hgoal rU e0 cP;go_enter func36,ntmps36
 go_wp2_with fail
 refine kS.out.mono ?_;rintro e aw ⟨rfl,bM,a1⟩;have nQ:=I (hj.out aw bM);have aN:=I (vG.out.trans (below_grown a1 bl vG.out.size));clear bM a1;go_wp2_with fail
 refine nQ.out.mono ?_;rintro e aC ⟨rfl,aJ⟩;have bm:=b3 aN aJ;clear aJ;generalize VR:strOf [0]=axG at *;have aug:=I VR;clear VR;go_wp2;go_ret2;refine⟨?_,bm⟩;rw[vF.out];exact xA.out _ rfl
theorem aoH(A:a7)(c:Nat)(l:List eS)(w:ah)(ao:0<l.length)(hl:l.length<=700)(cV:wa l)(aj:rL w A l) :
  Calls prog 36 #[.slice A l.length c] w λe w'=>o8 e l/\av w w':=by
 obtain⟨rH,rU⟩:∃rH:Ending->Prop,rH=λe=>o8 e l:=⟨_,rfl⟩
 have vF:=I rU;have hgoal:(λ(e:Ending) (w':ah)=>o8 e l/\av w w')=λe w'=>rH e/\av w w':=by rw[rU]
 rw[hgoal];clear hgoal rU;obtain⟨mf,mq⟩:∃mf,w.heap.size=mf:=⟨_,rfl⟩;have qP:=fH.new w;rw[mq]at qP;have cP:=Bh mf l.length [] _ (by omega) (by simp) qP;rw[nil_append]at cP;have kS:=I cP;have vG:=I ((Below.refl w.heap.size w).alloc bl (.cells #[.pointer none,.int .i64 0] 62));have abM:=I (λW (ak:av w W)=>aoA A c l W hl cV (aj.below ak));have rv:=I mq;have hwrap:IntKind.u64.wrap (l.length:Int)=(l.length:Int):=by rw[IntKind.wrap_u64];omega
 have xW:((l.length:Int)==0)=false:=cz
 have Kx:decide ((1000:Int)<(l.length:Int))=false:=aU;clear qP cP mq cV aj;go_enter func36,ntmps36
 go_wp2_with fail
 rw[rv.out];refine kS.out.mono ?_;rintro e aw ⟨rfl,bM,a1⟩;have aH:=vG.out.trans (below_grown a1 (Nat.le_of_eq rv) vG.out.size);have aN:=I aH;have kQ:=I bM;have zm:=I (abM.out aw aH);clear bM a1 aH;by_cases hall:∀s∈l,nS s
 .unfold rm at zm;simp only[aB hall]at zm;have mH:=I hall;clear hall;go_wp2_with fail
  refine zm.out.mono ?_;rintro e aC ⟨⟨fZ,bD,eA,bh,eR,bN,B,DN,rfl,gl,ek,ft,kH,cg,bS,cW⟩,aJ⟩;have hb2':=aN.out.trans (aJ.mono aN.out.size);have c8:=kQ.out.below aJ;obtain⟨ba,jj⟩:∃ba,aC.heap.size=ba:=⟨_,rfl⟩;have dw:=(Below.refl aC.heap.size aC).alloc bl (.cells #[.slice fZ l.length bD,.slice eA l.length bh,.slice eR l.length bN] 108);have eN:=Row.new aC 108 [.slice fZ l.length bD,.slice eA l.length bh,.slice eR l.length bN];obtain⟨a0,fL,a2⟩:=dz eN;have b6:=I (hb2'.trans (dw.mono hb2'.size));have BB:=I (c8.below dw);have aaU:=I (⟨c7 kH dw,c7 cg dw,c7 bS dw,c7 cW dw⟩:_/\_/\_/\_);have cn:∀j,(gg j (cE (1,2,4) l)).length=l.length:=λj=>by rw[gg,cQ,A2]
  have cN:Hid (∀j A k W,l.length<=k->Reads W A (aO (gg j (cE (1,2,4) l)))->Calls prog 62 #[.slice A l.length k] W λe w'=>(∃S,uo (gg j (cE (1,2,4) l)) S/\e=.returned (.string (strOf S)))/\av W w'):=I (λj A k W hk aj=>by
   have h1:=ao2 A k (gg j (cE (1,2,4) l)) W (by rw[cn];exact ao) (by rw[cn];exact hl) (by rw[cn];exact hk) (anZ l _ mH.out j) aj;rw[cn]at h1;exact h1)
  have AN:=lP l.length (by omega);have Ly:(j6 (cE (1,2,4) l)).length<=5000:=by
   have h1:=Fl _ (A3 l (1,2,4) mH);rw[CI]at h1;rw[j6,am.bytesOf_length];omega
  have fD:=I (λW (X S:ae) (ck:X.length+S.length<=100000) (h:fH W mf X)=>tR mf X S W (by omega) h);have hb256:∀x∈j6 (cE (1,2,4) l),x<256:=ut _ _;have nP:=I (λW A c (h:Reads W A (aO (j6 (cE (1,2,4) l))))=>oL W A c _ hb256 h);have lK:=I (λW (X:ae) (ck:X.length<=100000) (h:fH W mf X)=>HZ mf X (j6 (cE (1,2,4) l)) W (by omega) (by omega) h);have hj:=I (λW (X:ae) (ck:X.length<=100000) (ai:∀x∈X,x<256) (h:fH W mf X)=>vC mf X W (by omega) ai h);have fe:=I (λdY cZ fU h1 af aq=>aqQ l ao hl mH.out dY cZ fU h1 af aq);have pR:=I (⟨gl,ek,ft⟩:_/\_/\_);have TM:w.heap.size<=mf:=Nat.le_of_eq rv.out;have Hlen:=I cn;clear aJ hb2' c8 kH cg bS cW gl ek ft dw eN cn hb256;generalize k4:j6 (cE (1,2,4) l)=qC at *;have zk:=I k4;clear k4;generalize pz:l.length=n at *;have Qk:=I pz;clear pz;go_wp2;rw[jj]at *;generalize aC.alloc (.cells #[.slice fZ n bD,.slice eA n bh,.slice eR n bN] 108)=dK at *;clear a0 fL a2;go_loopw [9,30] (λ_ i wr=>∃(j:Nat) (eM:List (ae)),i=.int .i64 j/\j<=3/\Hid (eM.length=j)/\Hid (∀q S,eM[q]?=some S->uo (gg q (cE (1,2,4) l)) S)/\Hid (fH wr mf (bg n++eM.flatten))/\Hid (eM.flatten.length<=j*701) /\
   Hid (av w wr)/\Hid (Reads wr fZ (aO (gg 0 (cE (1,2,4) l)))/\Reads wr eA (aO (gg 1 (cE (1,2,4) l)))/\Reads wr eR (aO (gg 2 (cE (1,2,4) l)))/\Reads wr B (aO qC))) (λ_ i _=>3-(intOf i).toNat)
  case atStart=>exact⟨0,[],rfl,by omega,I rfl,I (λq S h=>by simp at h),by rw[flatten_nil,append_nil];exact BB,I (by simp),b6,aaU⟩
  case round=>
   obtain⟨j,eM,rfl,ar,k2,CR,qP,lr,hbel,eV⟩:=hrel;by_cases yl:j<3
   .have oM:(j:Int)<3:=by omega
    have key:∃(A:a7) (dD:Nat),Hid ([Value.slice fZ n bD,.slice eA n bh,.slice eR n bN][j]?=some (.slice A n dD))/\n<=dD/\Hid (Reads wr A (aO (gg j (cE (1,2,4) l)))):=by
     obtain⟨gK,gE,c9,_⟩:=eV.out;obtain⟨tJ,gp,fl⟩:=pR.out;rcases(by omega:j=0\/j=1\/j=2)with rfl|rfl|rfl
     .exact⟨fZ,bD,rfl,tJ,gK⟩
     .exact⟨eA,bh,rfl,gp,gE⟩
     .exact⟨eR,bN,rfl,fl,c9⟩
    obtain⟨A,dD,hidx,qS,Vn⟩:=key;have hidx2:∀W,(Instr.index 108 (.agg #[.slice fZ n bD,.slice eA n bh,.slice eR n bN]) (.int .i64 j)).run prog W=.ok (.slice A n dD) W:=λW=>by
     have h:=hidx.out;rcases(by omega:j=0\/j=1\/j=2)with rfl|rfl|rfl
     all_goals
      simp only[dH,dJ,Option.some.injEq]at h;rw[h];simp[Instr.index,run_underlying underlying108,asIntOf,go_sem]
    have cY:=I (cN.out j A dD wr qS Vn);clear hidx Vn;go_wp2_with fail
    refine cY.out.mono ?_;rintro e bH ⟨⟨S,cD,rfl⟩,bc⟩;have S8:=cD.len;have kb:=Hlen.out j;rw[kb]at S8;have ca:=I cD;have LH:=qP.out.below bc;have TH:=hbel.out.trans (bc.mono hbel.out.size);have LQ:=lr.out;have vS:=I (fD.out bH (bg n++eM.flatten) S (by rw[aY];omega) LH);have EF:=I (⟨c7 eV.out.1 bc,c7 eV.out.2.1 bc,c7 eV.out.2.2.1 bc,c7 eV.out.2.2.2 bc⟩:_/\_/\_/\_);have EO:=I LH;have dt:=I TH;have acm:Hid ((eM++[S]).flatten.length<=(j+1)*701):=I (by rw[flatten_append,aY,flatten_singleton];omega);clear bc cD kb LH TH LQ hbel eV qP lr S8;go_wp2_with fail
    refine vS.out.mono ?_;rintro e dp ⟨rfl,jm,fi⟩;have nc:Hid (fH dp mf (bg n++(eM++[S]).flatten)):=I (by rw[flatten_append,flatten_singleton,<-df];exact jm);have aaV:=I (⟨FJ EO.out EF.out.1 fi,FJ EO.out EF.out.2.1 fi,FJ EO.out EF.out.2.2.1 fi,FJ EO.out EF.out.2.2.2 fi⟩:_/\_/\_/\_);have dX:=I (dt.out.trans (below_grown fi TM dt.out.size));clear jm fi;go_wp2;go_roundw
    case rel=>
     refine⟨j+1,eM++[S],by go_num,by omega,I (by rw[aY,k2.out];rfl),I (λq zL h=>?_),nc,acm,dX,aaV⟩;rcases eF q eM.length with hq|hq
     .rw[hO hq]at h;exact CR.out q zL h
     .rw[iY hq,getElem?_singleton]at h;split at h
      .next ao=>
       injection h with h
       have:q=j:=by rw[<-k2.out];omega
       rw[this,<-h];exact ca.out
      .cases h
    case measure=>simp[intOf];omega
   .have uY:j=3:=by omega
    subst uY;obtain⟨dY,cZ,fU,rV⟩:∃dY cZ fU,eM=[dY,cZ,fU]:=by
     match eM,k2.out with
    |[x,y,z],_=>exact⟨x,y,z,rfl⟩
    subst rV;have jO:=fe.out dY cZ fU (CR.out 0 dY rfl) (CR.out 1 cZ rfl) (CR.out 2 fU rfl);have e0:(bg n++[dY,cZ,fU].flatten)++(bg qC.length++qC)=pJ n dY cZ fU qC:=by
     simp[pJ]
    have hcv:=nP.out wr B DN eV.out.2.2.2;have LQ:=lr.out;have wN:=lK.out wr _ (by rw[aY];omega) qP.out;rw[e0]at wN;have JC:=I wN;have nQ:=I (λW (h:fH W mf (pJ n dY cZ fU qC))=>hj.out W _ (by have:=jO.len;omega) jO.lt h);have xA:Hid (∀e,e=.returned (.tuple #[.string (strOf (pJ n dY cZ fU qC)),.bool true])->o8 e l):=I (λe he=>by
     unfold o8;rw[aB mH.out];exact⟨_,jO,he⟩)
    have ie:=I hbel.out;clear jO e0 LQ wN hbel eV qP lr CR k2;generalize pJ n dY cZ fU qC=E at *;go_wp2_with fail
    refine JC.out.mono ?_;rintro e dp ⟨rfl,jm,fi⟩;have dX:=I (ie.out.trans (below_grown fi TM ie.out.size));have zA:=I (nQ.out dp jm);clear jm fi hcv;go_wp2_with fail
    refine zA.out.mono ?_;rintro e dB ⟨rfl,gA⟩;have kf:=b3 dX gA;clear gA;generalize strOf E=Ov at *;go_wp2;go_ret2;refine⟨?_,kf⟩;rw[vF.out];exact xA.out _ rfl
 .unfold rm at zm;simp only[az hall]at zm;have xA:Hid (∀e,e=.returned (.tuple #[.string (strOf []),.bool false])->o8 e l):=I (λe he=>by
   unfold o8;rw[az hall];exact he)
  clear hall;go_wp2_with fail
  refine zm.out.mono ?_;rintro e aC ⟨rfl,aJ⟩;have bm:=I ((aN.out.trans (aJ.mono aN.out.size)).alloc (aN.out.trans (aJ.mono aN.out.size)).size (.cells #[.slice none 0 0,.slice none 0 0,.slice none 0 0] 108));clear aJ;go_wp2;go_ret2;refine⟨?_,bm⟩;rw[vF.out];exact xA.out _ rfl
theorem aoF(A:a7)(c:Nat)(l:List eS)(w:ah)(hl:l.length<=700)(cV:wa l)(aj:rL w A l) :
  Calls prog 36 #[.slice A l.length c] w λe w'=>o8 e l/\av w w':=by
 cases l with
|nil=>exact aoG A c w
|cons s l=>exact aoH A c (s::l) w (by simp) hl cV aj
end Go.Proofs.YtgiicohbigiapaaGreat
