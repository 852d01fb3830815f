/- Contracts. -/
import Derived.Test.YtgiicohbigiapaaGreatQav
import Derived.Test.YtgiicohbigiapaaGreatQas
import Derived.Test.YtgiicohbigiapaaGreatQz2
import Derived.Test.YtgiicohbigiapaaGreatQz1
import Derived.Test.YtgiicohbigiapaaGreatQz0
set_option maxHeartbeats 4000000
set_option maxRecDepth 100000
open Go.Proofs.Tryz Go.Proofs.YtgiicohbigiapaaGreat.ao List Nat Option
namespace Go.Proofs.YtgiicohbigiapaaGreat
open Go.RowKit Go.Shelf
attribute [local go_sem] Oper.semAt_some
def Aside(W:ai)(b r:Nat):Prop:=r≠b/\∀ag,¬Row W r 192 ag
theorem SX{W:ai}{b r:Nat}{t:TypeId}{v:Value}(h:Boxed W r t v)(aC:t≠192)(aj:r≠b):Aside W b r:=⟨aj,λag hc=>by
 unfold Row at hc;unfold Boxed at h;rw[h]at hc;simp only[Option.some.injEq,Obj.cells.injEq]at hc;exact aC hc.2.1⟩
theorem SY{W:ai}{b r:Nat}{o:Obj}(h:W.heap[r]?=some o)(b8:o.isCells=false)(aj:r≠b):Aside W b r:=⟨aj,λag hc=>by
 unfold Row at hc;rw[hc]at h;injection h with h
 subst h;cases b8⟩
def Jg(mC:Nat->Nat->ai->Prop)(log:Nat)(w':ai)(e:Ending):Option (Nat×Nat×Nat)->Prop
 | none=>e=.returned (.bool false)
 | some (N,n,st)=>e=.returned (.bool true)/\mC (N+st*2^n) (n+log) w'
def Jh(mC:Nat->Nat->ai->Prop)(oJ:Nat)(cap:Value)(p:Addr)(U:ae)(log:Nat)(w0:ai)(lv:Nat)(pre:List fW)(W:ai):Prop:=
 ((Boxed W lv 216 (.pointer (some p))/\Boxed W (lv+1) 255 (.func (.func oJ) #[] #[cap])/\Boxed W (lv+2) 4 (.bool false)) /\
  ∃N n st,ao.encR U log (fW.syms pre).reverse=some (N,n,st)/\Boxed W (lv+3) 3 (.int .i64 st)/\mC N n W)/\Below w0.heap.size w0 W/\lv+5<=W.heap.size
def Jj(U:ae)(log:Nat)(w0:ai)(lv:Nat)(c:Code)(pre:List fW)(W:ai):Prop:=
 (c=.ret/\ao.encR U log (fW.syms pre).reverse=none/\Boxed W (lv+2) 4 (.bool false))/\Below w0.heap.size w0 W
theorem kv{W bc:ai}{B:Nat}{t:TypeId}{v:Value}{row:Option Nat}(h:Boxed W B t v)(aD:W.grownBy bc row)(aj:∀r,row=some r->B≠r):Boxed bc B t v:=
 h.kept aD (λe=>aj B e.symm rfl)
theorem agn{mC:Nat->Nat->ai->Prop}{oJ:Nat}{cap:Value}{p:Addr}{U:ae}{log:Nat}{w0:ai}{lv b:Nat}(bu:w0.heap.size<=lv)(ak:b<lv)
  (hkeep:∀N n W bc row,mC N n W->W.grownBy bc row->(∀r,row=some r->Aside W b r)->mC N n bc):OwnFrom (lv+5) (Jh mC oJ cap p U log w0 lv):=by
 rintro pre W bc row ⟨⟨⟨h1,af,aq⟩,N,n,st,aJ,aR,cg⟩,c7,fK⟩ aD aj;have av:∀r,row=some r->lv+5<=r:=λr e=>(aj r e).1
 refine⟨⟨⟨kv h1 aD λr e=>by have:=av r e;omega,kv af aD λr e=>by have:=av r e;omega,kv aq aD λr e=>by have:=av r e;omega⟩,N,n,st,aJ,kv aR aD λr e=>by have:=av r e;omega,hkeep _ _ _ _ _ cg aD λr e=>?_⟩,c7.grown aD c7.size λr e=>by have:=av r e;omega,du fK aD.size⟩;obtain⟨cd,o,b8,hc⟩:=aj r e;exact SY b8 hc (by omega)
theorem agp{U:ae}{log:Nat}{w0:ai}{lv:Nat}(bu:w0.heap.size<=lv)(c:Code):OwnFrom (lv+5) (Jj U log w0 lv c):=by
 rintro pre W bc row ⟨⟨h1,af,aq⟩,c7⟩ aD aj;have av:∀r,row=some r->lv+5<=r:=λr e=>(aj r e).1
 exact⟨⟨h1,af,kv aq aD λr e=>by have:=av r e;omega⟩,c7.grown aD c7.size λr e=>by have:=av r e;omega⟩
theorem aeQ(U:ae)(log st s:Nat)(h:st<2^log):xb U log (st:Int) s=(lF U log st s).map λp=>(p,st-ep U log p,cc U log p):=by
 unfold xb;rw[aA ⟨by omega,by omega⟩,cY]
theorem alp{n₀ ck:Nat}{A B:ai}(h:Below A.heap.size A B)(az:n₀<=A.heap.size)(ak:ck<A.heap.size):oh n₀ ck A B:=⟨h.mono az,h.block ck ak⟩
theorem YC{n₀ ck b:Nat}{A B:ai}(h:A.grownBy B (some b))(az:n₀<=A.heap.size)(l9:n₀<=b)(ak:ck<A.heap.size)(aX:ck≠b):oh n₀ ck A B:=
 ⟨below_grown h l9 az,h.block ck ak (λe=>by injection e with e;exact aX e)⟩
theorem arF(pre:List fW)(x:fW):(fW.syms (pre++[x])).reverse=(x.2:Nat) :: (fW.syms pre).reverse:=by rw[fW.abB,reverse_append];rfl
theorem aha(oJ:Nat)(cap:Value)(mC:Nat->Nat->ai->Prop)(b:Nat)(p:Addr)(U:ae)(log:Nat)(A:a7)(c:Nat)(syms:ae)(w0 w:ai)
  (hent:∀args w,(callFunc oJ args).run prog w=.ok (.enter oJ args) w)
  (hkeep:∀N n W bc row,mC N n W->W.grownBy bc row->(∀r,row=some r->Aside W b r)->mC N n bc)
  (hput:∀(W:ai) (N n v k:Nat),v<2^k->k<=9->n<=100000->mC N n W->Calls prog oJ #[.int .i64 v,.int .i64 k,cap] W λe w'=>(∃v,e=.returned v)/\mC (N+v*2^n) (n+k) w'/\W.grownBy w' (some b))
  (aL:ec U log) (aC:jr w0 p U log) (ap:syms.length<=10000) (av:∀x∈syms,x<256) (aj:Reads w0 A (aN syms)) (hw:Below w0.heap.size w0 w) (ak:w0.heap.size<=b) (aI:b<w.heap.size) (am:mC 0 0 w) :
  Calls prog 199 #[.pointer (some p),.slice A syms.length c,.func (.func oJ) #[] #[cap]] w λe w'=>Jg mC log w' e (ao.encR U log syms)/\Below w0.heap.size w0 w':=by
 have bI:=λW (bg:Below w0.heap.size w0 W)=>tk W p U log (p1 _ _ _ _ _ aC bg)
 have DW:=λW (bg:Below w0.heap.size w0 W) st s ap=>abL W p U log st s aL (p1 _ _ _ _ _ aC bg) ap
 have vN:=λW (bg:Below w0.heap.size w0 W)=>Fq W p U log (p1 _ _ _ _ _ aC bg)
 have eT:=I bI;have acT:=I DW;have RP:=I vN;have cJ:=ta log aL.low aL.high;have bk:=I aL;have mA:=I hput;have b5:=I av;have aU:=I aj;clear bI DW vN hput aL av aj aC;have UU:=hw.size;obtain⟨gI,yY⟩:∃gI,gI=((w.alloc (.cells #[.pointer (some p)] 216)).alloc (.cells #[.func (.func oJ) #[] #[cap]] 255)).alloc (.cells #[.bool false] 4):=⟨_,rfl⟩;have FF:=I yY;have jB:gI.heap.size=w.heap.size+3:=by rw[yY];simp
 have bP:Boxed gI w.heap.size 216 (.pointer (some p)):=by rw[yY];exact((Boxed.new w _ _).alloc _).alloc _
 have bq:Boxed gI (w.heap.size+1) 255 (.func (.func oJ) #[] #[cap]):=by
  rw[yY];have h:=Boxed.new (w.alloc (.cells #[.pointer (some p)] 216)) 255 (.func (.func oJ) #[] #[cap]);rw[World.size_alloc]at h;exact h.alloc _
 have eo:Boxed gI (w.heap.size+2) 4 (.bool false):=by
  rw[yY];have h:=Boxed.new ((w.alloc (.cells #[.pointer (some p)] 216)).alloc (.cells #[.func (.func oJ) #[] #[cap]] 255)) 4 (.bool false);rw[World.size_alloc,World.size_alloc]at h;exact h
 have aZ:w.grownBy gI none:=by rw[yY];exact iD (iD (iD (dl _ _) _) _) _
 have hd:Below w0.heap.size w0 gI:=hw.grown aZ hw.size (by simp);have cj:mC 0 0 gI:=hkeep _ _ _ _ _ am aZ (by simp);have c1:=bP.cell;have c2:=bq.cell;have c3:=eo.cell;have f3:=eo.frozen;have gl:=I (eT.out gI hd);have rV:Hid ((((2^log:Nat):Int) == 0)=false):=I (by rw[beq_eq_false_iff_ne];omega);clear yY;refine(callsIn_wide (n:=4)).1 ?_;refine callsIn_of_wp_marks func199 rfl trivial ?_ rfl;simp only[ntmps199,List.size_toArray,b1,length_nil,reduceAdd,reduceSub,Array.replicate_succ,Array.replicate_zero,push_toArray,append_toArray,nil_append,cons_append];gi_wp2_with fail
 rw[<-FF.out];refine⟨trivial,(callsIn_wide.2 gl).mono ?_⟩;rintro e w' ⟨rfl,rfl⟩;have tO:=rV.out;generalize 2^log=S at *;gi_wp2_with fail
 refine⟨trivial,(aeU Fence.wide 3 trivial rfl A syms.length c _).mono ?_⟩;rintro e w' ⟨rfl,ov⟩;obtain⟨lE,aiB⟩:∃lE,lE=w':=⟨_,rfl⟩;have gT:(gI.alloc (.cells #[.int .i64 0] 3)).heap.size=w.heap.size+4:=by rw[World.size_alloc,jB]
 have sT:w'.heap.size=w.heap.size+5:=by rw[ov,World.size_alloc,gT]
 have cs:gI.grownBy w' none:=by rw[ov];exact iD (iD (dl _ _) _) _
 have d1:=kv bP cs (by simp);have d2:=kv bq cs (by simp);have d3:=kv eo cs (by simp);have d4:Boxed w' (w.heap.size+3) 3 (.int .i64 0):=by
  have h:=Boxed.new gI 3 (.int .i64 0);rw[jB]at h;rw[ov];exact h.alloc _
 have d5:Boxed w' (w.heap.size+4) 87 (.slice A syms.length c):=by
  have h:=Boxed.new (gI.alloc (.cells #[.int .i64 0] 3)) 87 (.slice A syms.length c);rw[gT]at h;rw[ov];exact h
 have kT:Below w0.heap.size w0 w':=hd.grown cs hd.size (by simp);have n5:mC 0 0 w':=hkeep _ _ _ _ _ cj cs (by simp);rw[gT];clear aiB ov cs c1 c2 c3 f3 bP bq eo cj gl aZ FF;gi_wp2_with fail
 refine wpIn_rangeFunc_ownG (N:=syms.length) (w0:=w') rfl (by omega) (gf:=228) (lb:=#[.pointer (some ⟨w.heap.size+4,0,none⟩)]) rfl trivial (enters_of func228 (by kernel_rfl) rfl)
  (aeV Fence.wide 3 trivial rfl (by omega) (w.heap.size+4) c A syms b5.out (by omega) w0 w' kT (by omega) d5.cell aU.out) (λh k=>oh.t h k) (oh.b (by omega) (by omega)) dQ (λ_=>rfl)
  (Jh mC oJ cap p U log w0 w.heap.size) (Jj U log w0 w.heap.size)
  (by rw[sT];exact agn UU aI hkeep) (λc=>by rw[sT];exact agp UU c)
  ⟨⟨⟨d1,d2,d3⟩,0,0,0,rfl,d4,n5⟩,kT,by omega⟩
  (λx=>{tmps:=#[.pointer (some p),.slice A syms.length c,.func (.func oJ) #[] #[cap],.pointer (some ⟨w.heap.size,0,none⟩),undef,.pointer (some ⟨w.heap.size+1,0,none⟩),.pointer (some ⟨w.heap.size+1+1,0,none⟩),.pointer (some ⟨w.heap.size+3,0,none⟩),undef,.int .u8 ((x.2:Nat):Int),undef,undef,undef,undef,.pointer (some p),.int .i64 S,.bool false,.slice A syms.length c,.func (.func 228) #[] #[.pointer (some ⟨w.heap.size+4,0,none⟩)],.int .i64 (x.1:Int),.int .u8 ((x.2:Nat):Int),undef,undef,undef,undef,undef,undef,undef,undef,undef,undef,undef,undef,undef,undef,undef,undef,undef,undef,undef,undef,undef],defers:=[]}) ?assign ?body ?done ?stop
 case assign=>
  intro l x W K hK;unfold fW.enc;gi_wp2
  exact hK
 case body=>
  rintro l pre x W ⟨⟨⟨h1,af,aq⟩,N,n,st,aJ,aR,cg⟩,c7,fK⟩ hlen;rw[sT];obtain⟨cV,aQ,pO,_⟩:=A1 U log bk.out _ N n st aJ;rw[length_reverse,fW.I1]at pO;have dm:=bk.out.high;have M6:n<=90000:=by
   have h1:log*pre.length<=9*10000:=Nat.mul_le_mul dm (by omega);omega
  have hrev:=arF pre x;have sr:=acT.out W c7 (st:Int) (x.2:Nat) x.2.isLt;rw[aeQ U log st _ aQ]at sr;have c1:=h1.cell;have c4:=aR.cell;cases tX:lF U log st (x.2:Nat)with
  | none=>
   have henc:ao.encR U log (fW.syms (pre++[x])).reverse=none:=by
    rw[hrev];simp only[ao.encR];rw[aJ,Option.bind_some];dsimp only;rw[tX];rfl
   rw[tX,map_none]at sr;unfold Gr at sr;dsimp only at sr;have dN:=I sr;clear sr;gi_wp2_with fail
   refine⟨trivial,(CallsIn.inRound l (callsIn_wide.2 dN)).mono ?_⟩;rintro e fv ⟨rfl,a8⟩;have cA:=dr a8 none;have eo:=kv aq cA (by simp);have c3:=eo.cell;have f3:=eo.frozen;have zC:=a8.size;have fp:=grownBy_setCell' fv (w.heap.size+2) (.bool false);have m8:Hid (KeepsFrom (w.heap.size+5) W (fv.setCell ⟨w.heap.size+2,0,none⟩ (.bool false))/\Jj U log w0 w.heap.size .ret (pre++[x]) (fv.setCell ⟨w.heap.size+2,0,none⟩ (.bool false))):=I
    ⟨(KeepsFrom.of_grownBy cA (by simp)).trans (KeepsFrom.of_grownBy fp (λj e=>by injection e with e;omega)),
     ⟨rfl,henc,eo.set _⟩,(c7.grown cA c7.size (by simp)).grown fp (by omega) (λk e=>by injection e with e;omega)⟩
   clear a8 cA eo fp henc;gi_wp2
   exact m8.out
  | some q=>
   have henc:ao.encR U log (fW.syms (pre++[x])).reverse=some (N+(st-ep U log q)*2^n,n+cc U log q,q):=by
    rw[hrev];simp only[ao.encR];rw[aJ,Option.bind_some];dsimp only;rw[tX];rfl
   obtain⟨hq,pK,eF,xy⟩:=aeR U log st _ q tX;have VF:=AR U log q bk.out hq;have aE:st-ep U log q<2^cc U log q:=by
    generalize 2^cc U log q=P at xy ⊢;omega
   rw[tX,map_some]at sr;unfold Gr at sr;dsimp only at sr;have dN:=I sr;clear sr pK eF xy;generalize st-ep U log q=v at *;generalize cc U log q=k at *;gi_wp2_with fail
   refine⟨trivial,(CallsIn.inRound l (callsIn_wide.2 dN)).mono ?_⟩;rintro e fv ⟨rfl,a8⟩;have cA:=dr a8 none;have zC:=a8.size;have bP:=kv h1 cA (by simp);have bq:=kv af cA (by simp);have eo:=kv aq cA (by simp);have pE:=kv aR cA (by simp);have c2:=bq.cell;have pW:=hkeep _ _ _ _ _ cg cA (by simp);have qO:=I (mA.out fv N n v k aE (by omega) (by omega) pW);clear c1 c4;gi_wp2_with fail
   refine⟨trivial,(CallsIn.inRound l (callsIn_wide.2 qO)).mono ?_⟩;rintro e Gq ⟨⟨B2,rfl⟩,anp,fp⟩;have Xu:=fp.size;have aF:=kv bP fp (λr e=>by injection e with e;omega);have e2:=kv bq fp (λr e=>by injection e with e;omega);have e3:=kv eo fp (λr e=>by injection e with e;omega);have e4:=kv pE fp (λr e=>by injection e with e;omega);have c4:=e4.cell;have f4:=e4.frozen;have gu:=grownBy_setCell' Gq (w.heap.size+3) (.int .i64 q);have Xv:=gu.size;have m8:Hid (KeepsFrom (w.heap.size+5) W (Gq.setCell ⟨w.heap.size+3,0,none⟩ (.int .i64 q))/\oh w0.heap.size (w.heap.size+4) W (Gq.setCell ⟨w.heap.size+3,0,none⟩ (.int .i64 q)) /\
     Jh mC oJ cap p U log w0 w.heap.size (pre++[x]) (Gq.setCell ⟨w.heap.size+3,0,none⟩ (.int .i64 q))):=I (by
    refine⟨((KeepsFrom.of_grownBy cA (by simp)).trans (KeepsFrom.of_grownBy fp (λj e=>by injection e with e;omega))).trans (KeepsFrom.of_grownBy gu (λj e=>by injection e with e;omega)),
     ((alp a8 (by omega) (by omega)).t (YC fp (by omega) ak (by omega) (by omega))).t (YC gu (by omega) (by omega) (by omega) (by omega)),⟨⟨?_,?_,?_⟩,_,_,q,henc,e4.set _,?_⟩,?_,by omega⟩
    .exact kv aF gu (λr e=>by injection e with e;omega)
    .exact kv e2 gu (λr e=>by injection e with e;omega)
    .exact kv e3 gu (λr e=>by injection e with e;omega)
    .exact hkeep _ _ _ _ _ anp gu (λr e=>by injection e with e;subst e;exact SX e4 (by decide) (by omega))
    .exact((c7.grown cA c7.size (by simp)).grown fp (by omega) (λk e=>by injection e with e;omega)).grown gu (by omega) (λk e=>by injection e with e;omega))
   clear a8 cA fp gu henc bP bq eo pE aF e2 e3 e4 c2;gi_wp2
   exact m8.out
 case done=>
  rintro D ys W cR NT ⟨⟨⟨h1,af,aq⟩,N,n,st,aJ,aR,cg⟩,c7,fK⟩ hK;rw[NT,reverse_reverse]at aJ;obtain⟨cV,aQ,pO,_⟩:=A1 U log bk.out _ N n st aJ;have dm:=bk.out.high;have M6:n<=90000:=by
   have h1:log*syms.length<=9*10000:=Nat.mul_le_mul dm (by omega);omega
  have c1:=h1.cell;have c2:=af.cell;have c4:=aR.cell;have bR:=I (RP.out W c7);have qO:=I (mA.out W N n st log aQ dm (by omega) cg);gi_wp2
  refine wpIn_wide.2 ?_;have anq:mC N n W.drew:=hkeep _ _ _ _ _ cg (nR (dl _ none)) (by simp);have oS:=I (RP.out W.drew c7.drew);have qO:=I (mA.out W.drew N n st log aQ dm (by omega) anq);go_region_held3 (λbc=>bc.cell? ⟨w.heap.size,0,none⟩=some (.pointer (some p))/\bc.cell? ⟨w.heap.size+1,0,none⟩=some (.func (.func oJ) #[] #[cap])/\bc.cell? ⟨w.heap.size+3,0,none⟩=some (.int .i64 st)) (first | exact⟨c1,c2,c4⟩ | exact⟨d1,d2,d4⟩) (first
   | (go_at_call 216;(with_reducible refine oS.out.mono ?_);rintro e w' ⟨rfl,rfl⟩)
   | ((with_reducible refine qO.out.mono ?_);rintro e Dg ⟨⟨aw1,rfl⟩,ZP,nX⟩;have aF:=I (kv h1 (W:=W.drew) nX (λr e=>by injection e with e;omega));have e2:=I (kv af (W:=W.drew) nX (λr e=>by injection e with e;omega));have e3:=I (kv aq (W:=W.drew) nX (λr e=>by injection e with e;omega));have e4:=I (kv aR (W:=W.drew) nX (λr e=>by injection e with e;omega));have d1:=aF.out.cell;have d2:=e2.out.cell;have d4:=e4.out.cell))
  have aiX:Dg.heap.size≥W.heap.size:=nX.size;have L5:Dg.heap[D]?=some (.deferred (some [])):=(nX.block D (Array.getElem?_eq_some_iff.1 hK).1 (λe=>by injection e with e;omega)).trans hK;have y8:=grownBy_setCell' Dg (w.heap.size+2) (.bool true);have L4:(Dg.setCell ⟨w.heap.size+2,0,none⟩ (.bool true)).heap[D]?=some (.deferred (some [])):=(y8.block D (Array.getElem?_eq_some_iff.1 L5).1 (λe=>by injection e with e;omega)).trans L5;have ZN:=hkeep _ _ _ _ _ ZP y8 (λr e=>by injection e with e;subst e;exact SX e3.out (by decide) (by omega));have Vv:Below w0.heap.size w0 (Dg.setCell ⟨w.heap.size+2,0,none⟩ (.bool true)):=((c7.drew.grown nX c7.size (λk e=>by injection e with e;omega)).grown y8 (du c7.size aiX) (λk e=>by injection e with e;omega));have c3:=e3.out.cell;have f3:=e3.out.frozen;have jA:=cell_kept (e3.out.set (.bool true)).cell (grownBy_putObj' _ D (.deferred none)) (λr e=>by cases e;exact⟨_,L4,rfl⟩);have JA:=I L4;have k1:=I jA;have acO:=I Vv;have aer:=I ZN;clear L5 L4 jA y8 nX ZN ZP Vv d1 d2 d4 c1 c2 c4;gi_wp2
  refine⟨by simp,.inl ⟨_,_,rfl,run_takeDeferred JA.out,?_⟩⟩;have jA:=k1.out;refine⟨.bool true,?_,?_,acO.out.trans (belowK_b (w:=w) (by omega) _ D _ _ (by omega) JA.out rfl rfl)⟩
  .simp[results,Tryz.f199,go_sem,jA]
  .rw[aJ];exact⟨rfl,hkeep _ _ _ _ _ aer.out (grownBy_putObj' _ D (.deferred none)) (λr e=>by cases e;exact SY JA.out rfl (by omega))⟩
 case stop=>
  rintro D c pre W cR hpre ⟨⟨rfl,af,aq⟩,c7⟩ hK;have henc:ao.encR U log syms=none:=by
   obtain⟨t,aC⟩:=hpre;have h:=congrArg List.reverse aC;rw[reverse_append,reverse_reverse]at h;rw[<-h];exact Ui U log _ af _
  gi_wp2
  refine⟨by simp,.inl ⟨_,_,rfl,run_takeDeferred hK,?_⟩⟩;have jA:=cell_kept aq.cell (grownBy_putObj' _ D (.deferred none)) (λr e=>by cases e;exact⟨_,hK,rfl⟩);refine⟨.bool false,?_,by rw[henc];rfl,c7.trans (belowK_b (w:=w) (by omega) _ D _ _ (by omega) hK rfl rfl)⟩;simp[results,Tryz.f199,go_sem,jA]
theorem dP.aside{w w':ai}{b N n:Nat}{row:Option Nat}(h:dP w b 0 N n)(aD:w.grownBy w' row)(aj:∀r,row=some r->Aside w b r):dP w' b 0 N n:=by
 obtain⟨p,rest,us,am,h1,af,f0,f1,f2,az,hc,hw⟩:=h;have hl:=aD.block b az.lt (λe=>(aj b e.symm).1 rfl);exact⟨p,rest,us,(World.cell?_of_block hl).trans am,(World.cell?_of_block hl).trans h1,(World.cell?_of_block hl).trans af,(World.frozen?_of_block hl).trans f0,(World.frozen?_of_block hl).trans f1,
  (World.frozen?_of_block hl).trans f2,az.keep hl,hc.keep (λg ag hrow=>hrow.keep (aD.block g hrow.lt (λe=>(aj g e.symm).2 ag hrow))),hw⟩
theorem ahs(b:Nat)(W:ai)(N n v k:Nat)(aE:v<2^k)(hk:k<=9)(az:n<=100000)(h:dP W b 0 N n) :
  Calls prog 200 #[.int .i64 v,.int .i64 k,.pointer (some ⟨b,0,none⟩)] W λe w'=>(∃v,e=.returned v)/\dP w' b 0 (N+v*2^n) (n+k)/\W.grownBy w' (some b):=by
 have oB:v<=512:=by
  have h1:2^k<=2^9:=dD (by omega) hk;have af:(2:Nat)^9=512:=by decide
  omega
 have aw:=E0 b 0 N n v k W (by omega) (by omega) (by omega) h;rw[mod_eq_of_lt aE]at aw;have gF:=I aw;clear aw h aE;go_enter func200,ntmps200
 go_wp2_with fail
 refine gF.out.mono ?_;rintro e w' ⟨rfl,h1,af⟩;have H1:=I h1;have dk:=I af;clear h1 af;go_wp2;go_end0
 exact⟨⟨_,rfl⟩,H1,dk⟩
theorem ahg(w:ai)(p:Addr)(U:ae)(log:Nat)(A:a7)(c:Nat)(syms:ae)(aL:ec U log)(aC:jr w p U log)(ap:syms.length<=10000)(av:∀x∈syms,x<256)(aj:Reads w A (aN syms)) :
  Calls prog 166 #[.pointer (some p),.slice A syms.length c] w λe w'=>x9 w' e (vm U log syms)/\Below w.heap.size w w':=by
 have dA:=(Below.refl w.heap.size w).alloc bh (.cells #[.pointer none,.int .u64 0,.int .i64 0] 153);have hc:=aha 200 (.pointer (some ⟨w.heap.size,0,none⟩)) (λN n W=>dP W w.heap.size 0 N n) w.heap.size p U log A c syms w (w.alloc (.cells #[.pointer none,.int .u64 0,.int .i64 0] 153))
  (enters_of func200 (by kernel_rfl) rfl) (λN n W bc row h aD aj=>h.aside aD aj) (λW N n v k h1 af aq aJ=>ahs w.heap.size W N n v k h1 af aq aJ) aL aC ap av aj dA bh (by simp) (dP.new w 153 (by decide))
 have gn:=I hc;have sI:=aL.high;have hL:=Lg U log aL syms;clear hc aC av aj;unfold vm;cases henc:ao.encR U log syms with
 | none=>
  have l7:q6 U log syms=none:=by unfold q6;rw[henc];rfl
  rw[l7];rw[henc]at gn;unfold Jg at gn;dsimp only at gn;clear hL l7 henc dA aL;go_enter func166,ntmps166
  go_wp2_with fail
  refine gn.out.mono ?_;rintro e w' ⟨rfl,ak⟩;have bO:=I ak;clear ak;go_wp2;go_ret2;exact⟨⟨_,_,rfl⟩,bO⟩
 | some t=>
  obtain⟨N,n,st⟩:=t;have l7:q6 U log syms=some (N+st*2^n,n+log):=by unfold q6;rw[henc];rfl
  obtain⟨bf,bM,ev⟩:=hL _ _ l7;have M6:n+log<=100000:=by
   have h1:log*(syms.length+1)<=9*10001:=Nat.mul_le_mul sI (by omega);omega
  rw[l7];rw[henc]at gn;unfold Jg at gn;dsimp only at gn;rw[map_some];dsimp only;clear hL l7 henc dA aL bM ev;generalize N+st*2^n=M at *;generalize n+log=m at *;go_enter func166,ntmps166
  go_wp2_with fail
  refine gn.out.mono ?_;rintro e w' ⟨⟨rfl,dZ⟩,ak⟩;have bU:=I (aqi w.heap.size 0 M m w' (by omega) bf dZ);have bO:=I ak;clear ak dZ;go_wp2_with fail
  refine bU.out.mono ?_;rintro e aB ⟨g,cap,rfl,hown,aI⟩;obtain⟨de,df,e',bp,_⟩:=kU hown;injection e' with aF e2 e3
  have aV:=b9 bO aI;have dB:=I bp;rw[<-aF]at dB;clear hown aI bp aF e3 e2;go_wp2;go_ret2;exact⟨⟨some ⟨g,0,none⟩,cap,by rw[aaI];rfl,dB⟩,aV⟩
namespace ao
theorem aqA(bs:ae)(av:∀x∈bs,x<256)(hl:bs.length<=1048576)(am:0<bs.length):(pk (er bs) (fk (er bs):Int)).length=eX bs:=by
 obtain⟨aj,aR,dm,ap⟩:=(Ll bs av hl).2 am;have aw:=Pr (er bs) aj;obtain⟨ag,aF,e2,e3,_,_,gR,ot⟩:=aw;unfold pk;rw[aA ⟨aj,aR,dm,ap⟩,cY,cQ,e2];rw[cY]at ap;rw[(PD ag (2^fk (er bs)) ot (by rw[gR];exact ap)).2.1,e3,tM]
theorem aqB(bs U:ae)(av:∀x∈bs,x<256)(hl:bs.length<=1048576)(am:0<bs.length)(h8:pk (er bs) (fk (er bs):Int)=U.map (λn:Nat=>(n:Int)))(hpos:∀b∈bs,0<U[b]?.getD 0):cB U=U:=by
 have hlen:=aqA bs av hl am;rw[h8,cQ]at hlen;obtain⟨b,ak,e⟩:=P3 bs (I5 bs (by intro e;rw[e]at am;simp at am));have aw:=hpos b ak;refine aaT U (λaX=>?_);rw[getLast_eq_getElem];have ax:U.length-1=b:=by omega
 have dY:b<U.length:=by omega
 rw[bH dY,b6]at aw;simp only[ax];exact aw
end ao
theorem ann{w:ai}{base g:Nat}{ss:List (ae)}(h:Row w g 9 (mU ss))(ak:base<=g)(hm:ss.length<=1000000000):w.ownsRow base 9 1 (.slice (some ⟨g,0,none⟩) ss.length ss.length) ss.length (mU ss):=
 ⟨by rw[Fh,Nat.mul_one],.inr ⟨g,ss.length,(mU ss).toArray,rfl,ak,h,Nat.le_refl _,by unfold maxLen;omega,by simp[Fh],by rw[take_of_length_le (by simp[Fh])]⟩⟩
theorem akW:(prog.info? 9).map (λi=>(i.zero,i.size,i.bytes))=some (some (.string ⟨#[]⟩),1,16):=by kernel_rfl
theorem aol(A B:a7)(c d:Nat)(ag:ae)(w:ai)(am:0<ag.length)(hl:ag.length<=700)(et:∀x∈ag,x<28)(aj:Reads w A (aN ag))(iF:Reads w B (gL (er ag))) :
  Calls prog 134 #[.slice A ag.length c,.slice B (eX ag) d] w λe w'=>(∃S,u6 ag S/\e=.returned (.tuple #[.string (strOf S),.bool true]))/\Below w.heap.size w w':=by
 have av:∀x∈ag,x<256:=λx ah=>by have:=et x ah;omega
 obtain⟨l,iE⟩:∃l,l=er ag:=⟨_,rfl⟩;have hlen:l.length=eX ag:=by rw[iE];exact tM ag
 have DJ:=uy ag av;have cW:∀x∈l,en x:=λx ah=>by
  rw[iE]at ah;have:=GQ ag x ah;unfold en;omega
 have hiff:=Ll ag av (by omega);obtain⟨U,h8,hfair,hpos,ajL⟩:=aqz ag av (by omega) am;have hshort:=aqB ag U av (by omega) am h8 hpos;rw[<-iE]at hiff h8 hfair iF;have WB:5<=fk l/\fk l<=9:=by have:=hfair.1;have:=hfair.2.1;omega
 have mQ:en (fk l:Int):=by unfold en;omega
 have dk:=I (amR B d l w (by omega) cW iF);have fU:(pk l (fk l:Int)).length=U.length:=by rw[h8,cQ]
 have me:gL (pk l (fk l:Int))=aM U:=by rw[h8,jT]
 have gD:Hid (∀W,Reads W B (gL l)->Calls prog 163 #[.slice B l.length d,.int .i64 (fk l)] W λe w'=>∃de df,e=.returned (.tuple #[.slice de U.length df,.bool true])/\Reads w' de (aM U)/\Below W.heap.size W w'):=I (λW h1=>by
  have af:=amW B d l _ W (by omega) cW mQ h1;rw[bG (hiff.2 am),fU,me]at af;exact af)
 rw[h8]at hfair;have kA:=LH _ _ hfair;have Bs:(U.map (λn:Nat=>(n:Int))).map Int.toNat=U:=by
  rw[List.map_map];conv=>rhs;rw[<-List.map_id U]
  apply map_congr_left
  intro x _;rfl
 rw[Bs,cY]at kA;have ajM:0<U.length:=by
  cases U with
  | nil=>
   have h:=kA.sum;have af:=eW (fk l);rw[sum_nil]at h;omega
  | cons _ _=>simp
 have nD:Hid (∀A c W,Reads W A (aM U)->Calls prog 165 #[.slice A U.length c,.int .i64 (fk l)] W λe w'=>∃p,e=.returned (.tuple #[.pointer (some p),.bool true])/\jr w' p U (fk l)/\Below W.heap.size W w'):=I (λA c W h1=>by
  have af:=abE.build A c (U.map (λn:Nat=>(n:Int))) (fk l:Int) W (by rw[cQ];omega) (λx ah=>by
   have:=hfair.2.2.2.1 x ah;unfold en;omega) mQ (by rw[jT];exact h1) hfair
  rw[cQ,Bs,cY]at af;exact af)
 have mA:Hid (∀W b A c,dP W b 0 0 0->Reads W A (aM U)->(∀a,A=some a->a.block≠b)->Calls prog 164 #[.pointer (some ⟨b,0,none⟩),.slice A U.length c,.int .i64 (fk l)] W λe w'=>e=.returned (.bool true)/\dP w' b 0 (fE U (fk l)).1 (fE U (fk l)).2/\W.grownBy w' (some b)):=I (λW b A c dZ h1 hA=>by
  have af:=ai3 W b 0 0 0 A c (U.map (λn:Nat=>(n:Int))) (fk l:Int) (by omega) dZ (by rw[cQ];omega) (λx ah=>by
   have:=hfair.2.2.2.1 x ah;unfold en;omega) mQ (by rw[jT];exact h1) (λa e _=>hA a e) hfair
  rw[cQ,Bs,cY,Nat.pow_zero,Nat.mul_one,eH,eH]at af;exact af)
 obtain⟨t,aC⟩:=Ul U (fk l) kA ag hpos;obtain⟨N,k,hc⟩:∃N k,q6 U (fk l) ag=some (N,k):=⟨_,_,by unfold q6;rw[aC];rfl⟩;obtain⟨cV,hk,_⟩:=Lg U (fk l) kA ag N k hc;have he:vm U (fk l) ag=some (kX N k):=by unfold vm;rw[hc];rfl
 have hsl2:=aaI N k;have BA:=aqh N k;have zh:k<=9*701:=du hk (Nat.mul_le_mul WB.2 (by omega));have ye:Hid (∀W p,jr W p U (fk l)->Reads W A (aN ag)->Calls prog 166 #[.pointer (some p),.slice A ag.length c] W λe w'=>(∃A c,e=.returned (.tuple #[.slice A (kX N k).length c,.bool true])/\Reads w' A (aN (kX N k)))/\Below W.heap.size W w'):=I (λW p aC aj=>by
  have h1:=ahg W p U (fk l) A c ag kA aC (by omega) av aj;rw[he]at h1;exact h1)
 have j2:=arn ag U (kX N k) (fk l) et kA hshort he (by omega) BA (by omega);have bz:=VU U (fk l) kA;obtain⟨aG,pd⟩:∃aG,aG=ao.bytesOf (fE U (fk l)).1 (((fE U (fk l)).2+7)/8):=⟨_,rfl⟩;have xx:aG.length=((fE U (fk l)).2+7)/8:=by rw[pd,ao.bytesOf_length]
 have za:∀x∈aG,x<256:=by rw[pd];exact u9 _ _
 rw[<-pd]at j2;have jX:Hid (∀W b,dP W b 0 (fE U (fk l)).1 (fE U (fk l)).2->Calls prog 100 #[.pointer (some ⟨b,0,none⟩)] W λe w'=>∃g,e=.returned (.slice (some ⟨g,0,none⟩) aG.length aG.length)/\Reads w' (some ⟨g,0,none⟩) (aN aG)/\Below W.heap.size W w'):=I (λW b h=>by
  have h1:=AS b 0 (fE U (fk l)).1 (fE U (fk l)).2 W (by omega) h;rw[xx,pd];exact h1.mono λe w' ⟨g,he,_,hrow,ak⟩=>⟨g,he,oK hrow,ak⟩)
 have wy:=I j2;have acR:=I (λW=>Qo 2 W (by omega));have Cv:=I (λW A c (h:Reads W A (aN aG))=>o3 W A c aG za h);have Rn:=I (λW A c (h:Reads W A (aN (kX N k)))=>o3 W A c (kX N k) BA h);have aZ:=nS aG.length (by omega);have bl:=nS (kX N k).length (by omega);have tI:=I (λW b (h:fM W b [2])=>Jd b [2] aG W (by simp) (by omega) h);have SD:=I (λW b (h:fM W b ([2]++(br aG.length++aG)))=>Jd b ([2]++(br aG.length++aG)) (kX N k) W (by simp;omega) (by omega) h);have e0:([2]++(br aG.length++aG))++(br (kX N k).length++kX N k)=vg aG (kX N k):=by
  unfold vg;simp
 rw[e0]at SD;have fO:=I (λW b (h:fM W b (vg aG (kX N k)))=>wv b (vg aG (kX N k)) W (by simp[vg];omega) j2.lt h);have aU:=I aj;have yx:=I iF;have atT:=I (λW bc p h ak=>p1 W bc p U (fk l) h ak);rw[<-hlen];clear iE DJ cW hiff h8 hfair hpos ajL hshort mQ fU me kA Bs aC hc cV hk he hsl2 BA j2 bz pd xx za aZ bl e0 aj iF av et hlen zh WB;generalize kX N k=wm at *;generalize vg aG wm=E at *;generalize fE U (fk l)=avr at *;generalize fk l=bW at *;generalize l.length=H6 at *;have oe:Hid (aM U≠[]):=I (λe=>by rw[<-length_eq_zero_iff,gw]at e;omega);clear ajM;generalize U.length=awR at *;generalize hL:ag.length=m at *;clear hL;go_enter func134,ntmps134
 go_wp2_with fail
 refine dk.out.mono ?_;rintro e au ⟨rfl,aH⟩;have aK:=I aH;have Qv:=I (gD.out au (c9 yx.out aH));clear aH dk gD yx;go_wp2_with fail
 refine Qv.out.mono ?_;rintro e aB ⟨fa,c2,rfl,bS,aI⟩;have aV:=b9 aK aI;obtain⟨mG,mM⟩:∃mG,aB.heap.size=mG:=⟨_,rfl⟩;have dA:=(Below.refl aB.heap.size aB).alloc bh (.cells #[.pointer none,.int .u64 0,.int .i64 0] 153);have dZ:=dP.new aB 153 (by decide);have vq:∀a,fa=some a->a.block≠mG:=λa e=>by
  obtain⟨g,off,e2,hcell⟩:=bS oe.out;rw[e2]at e;injection e with e
  subst e;have h1:0<(aM U).length:=List.length_pos_iff.2 oe.out;have af:=hcell 0 h1;rw[bH h1]at af;have aq:=World.block_lt_of_cell? aB _ af;dsimp only at aq ⊢;omega
 have vO:=c9 bS dA;have oV:=I vO;have gF:=I (mA.out _ _ fa c2 dZ vO (by rw[mM];exact vq));have rT:=b9 aV dA;have qa:=I mM;have Fz:=I vq;have hle:w.heap.size<=mG:=by rw[<-mM];exact aV.out.size
 clear bS aI aK Qv dA dZ vq vO mM mA oe;go_wp2_with fail
 rw[qa.out]at gF;rw[qa.out];refine gF.out.mono ?_;rintro e bA ⟨rfl,Ya,cA⟩;have cx:=I (rT.out.grown cA rT.out.size (λx e=>by injection e with e;omega));have j6:=E5 oV.out Fz.out cA;have QY:=I (nD.out fa c2 bA j6);have SJ:=I Ya;clear Ya cA gF rT j6 oV Fz nD qa aV;go_wp2_with fail
 refine QY.out.mono ?_;rintro e dG ⟨p,rfl,sW,cL⟩;have dh:=b9 cx cL;have SK:=I (SJ.out.below cL);have Rv:=I (ye.out dG p sW (c9 aU.out dh));clear sW cL cx SJ QY ye aU;go_wp2_with fail
 refine Rv.out.mono ?_;rintro e dp ⟨⟨rN,vb,rfl,oz⟩,fS⟩;have iP:=b9 dh fS;have ad9:=I (SK.out.below fS);have q2:=I oz;clear oz fS dh SK Rv;have Ro:Hid (∀W,Below dp.heap.size dp W->(convert 87 9 (.slice rN wm.length vb)).run prog W=.ok (.string (strOf wm)) W):=I (λW ak=>Rn.out W rN vb (c9 q2.out ak));have avn:=Ro.out;clear Rn q2 Ro;generalize strOf wm=axb at *;generalize strOf aG=aw9 at *;have dw:Hid (∃S,u6 ag S/\strOf E=strOf S):=I ⟨E,wy,rfl⟩;clear wy;generalize strOf E=Pv at *;go_upto_region 9 with fail
 refine wp_region_held_drew (S:=(λW:ai=>Below dp.heap.size dp W)) (by kernel_rfl) (by exact dQ.drew) (λhHeld=>?_);refine ch 4 {dst:=some 43,op:=.move (.tmp 12),type:=87,pos:= "stream.go:81",after:=#[],guard:=none} ?_ rfl (Or.inl ⟨by rfl,?_⟩) ?_;rotate_left
 ·(intro w hSw;(try dsimp only at hSw);go_simp;(try with_reducible rfl))
 try simp only[bx]
 refine ch 5 {dst:=some 44,op:=.convert 87 9 (.tmp 43),type:=9,pos:= "stream.go:81",after:=#[{on:=4,ground:=.data}],guard:=none} ?_ rfl (Or.inl ⟨by rfl,?_⟩) ?_;rotate_left
 ·(intro w hSw;(try dsimp only at hSw);go_simp;(try with_reducible rfl))
 try simp only[bx]
 refine iq 0 {dst:=some 39,op:=.call {callee:=.value (.func 133),args:=#[.const (.int .u64 2)],argTypes:=#[31]},type:=63,pos:= "stream.go:81",after:=#[],guard:=none} rfl (λK hK=>?_);go_simp
 (go_at_call 133;refine(acR.out _).mono ?_;rintro e dt ⟨b,rfl,sz,ky,fZ⟩;have hP:=I (hHeld.trans (fZ.mono hHeld.size));have dN:=I (du hHeld.size ky);have kc:=I sz;clear sz fZ ky)
 go_simp;refine hK.out _ _ (by exact hP) (λhHeld=>?_);clear hK K
 try simp only[bx]
 refine iq 1 {dst:=some 40,op:=.call {callee:=.value (.func 100),args:=#[.tmp 9],argTypes:=#[153]},type:=87,pos:= "stream.go:81",after:=#[{on:=0,ground:=.chain}],guard:=none} rfl (λK hK=>?_);go_simp
 (go_at_call 100;refine(jX.out _ _ (ad9.out.below hP)).mono ?_;rintro e oQ ⟨g,rfl,vP,lf⟩;have rR:=b9 hP lf;have uF:=I (kc.out.below lf);have dO:=I vP;clear vP lf hP kc)
 go_simp;refine hK.out _ _ (by exact rR) (λhHeld=>?_);clear hK K
 try simp only[bx]
 have VN:=Cv.out oQ _ aG.length dO.out;refine iq 2 {dst:=some 41,op:=.convert 87 9 (.tmp 40),type:=9,pos:= "stream.go:81",after:=#[{on:=1,ground:=.data}],guard:=none} rfl (λK hK=>?_);go_simp;refine hK.out _ _ (by exact rR) (λhHeld=>?_);clear hK K
 try simp only[bx]
 refine iq 3 {dst:=some 42,op:=.call {callee:=.value (.func 63),args:=#[.tmp 39,.tmp 41],argTypes:=#[63,9]},type:=63,pos:= "stream.go:81",after:=#[{on:=0,ground:=.data},{on:=2,ground:=.data},{on:=1,ground:=.chain}],guard:=none} rfl (λK hK=>?_);go_simp
 (go_at_call 63;refine(tI.out _ _ uF).mono ?_;rintro e x4 ⟨rfl,sA,nX⟩;have mY:=I (rR.out.trans (below_grown nX dN.out rR.out.size));have lx:=I sA;clear sA nX)
 go_simp;refine hK.out _ _ (by exact mY) (λhHeld=>?_);clear hK K
 try simp only[bx]
 refine iq 6 {dst:=some 45,op:=.call {callee:=.value (.func 63),args:=#[.tmp 42,.tmp 44],argTypes:=#[63,9]},type:=63,pos:= "stream.go:81",after:=#[{on:=3,ground:=.data},{on:=5,ground:=.data},{on:=3,ground:=.chain}],guard:=none} rfl (λK hK=>?_);go_simp
 (go_at_call 63;refine(SD.out _ _ lx).mono ?_;rintro e axk ⟨rfl,VI,y8⟩;have mX:=I (mY.out.trans (below_grown y8 dN.out mY.out.size));have jo:=I VI;clear VI y8)
 go_simp;refine hK.out _ _ (by exact mX) (λhHeld=>?_);clear hK K
 try simp only[bx]
 refine iq 7 {dst:=some 46,op:=.call {callee:=.value (.func 34),args:=#[.tmp 45],argTypes:=#[63]},type:=9,pos:= "stream.go:81",after:=#[{on:=6,ground:=.data},{on:=6,ground:=.chain}],guard:=none} rfl (λK hK=>?_);go_simp
 (go_at_call 34;refine(fO.out _ _ jo).mono ?_;rintro e uz ⟨rfl,xq⟩;have h0:=b9 mX xq;clear xq)
 go_simp;refine hK.out _ _ (by exact h0) (λhHeld=>?_);clear hK K
 try simp only[bx]
 refine ch 8 {dst:=some 4,op:=.assign (.tmp 46),type:=9,pos:= "stream.go:81",after:=#[{on:=7,ground:=.data},{on:=7,ground:=.chain},{on:=0,ground:=.phase},{on:=1,ground:=.phase},{on:=2,ground:=.phase},{on:=3,ground:=.phase},{on:=4,ground:=.phase},{on:=5,ground:=.phase},{on:=6,ground:=.phase},{on:=7,ground:=.phase}],guard:=none} ?_ rfl (Or.inl ⟨by rfl,?_⟩) ?_;rotate_left
 ·(intro w hSw;(try dsimp only at hSw);go_simp;(try with_reducible rfl))
 try simp only[bx]
 refine ch 9 {dst:=some 5,op:=.assign (.const (.bool true)),type:=4,pos:= "stream.go:81",after:=#[{on:=8,ground:=.chain},{on:=0,ground:=.phase},{on:=1,ground:=.phase},{on:=2,ground:=.phase},{on:=3,ground:=.phase},{on:=4,ground:=.phase},{on:=5,ground:=.phase},{on:=6,ground:=.phase},{on:=7,ground:=.phase},{on:=8,ground:=.phase}],guard:=none} ?_ rfl (Or.inl ⟨by rfl,?_⟩) ?_;rotate_left
 ·(intro w hSw;(try dsimp only at hSw);go_simp;(try with_reducible rfl))
 try simp only[bx]
 refine wpAnyH_done (by kernel_rfl) ?_ _;go_wp2;go_ret2;obtain⟨S,aiw,Mh⟩:=dw.out;exact⟨⟨S,aiw,by rw[<-Mh];rfl⟩,iP.out.trans (h0.out.mono iP.out.size)⟩
theorem agK(A:a7)(L c q:Nat)(W:ai)(h:q<=L)(hc:L<=c):(Instr.slice 87 (.slice A L c) none (some (.int .i64 q)) none).run prog W=.ok (.slice A q c) W:=by
 have h1:q<=c:=by omega
 go_simp
theorem apq{w:ai}{A:a7}{l:ae}(k:Nat)(h:Reads w A (aN l)):Reads w A (aN (l.take k)):=λaX=>by
 have am:l.take k≠[]:=by intro e;rw[e]at aX;exact aX rfl
 obtain⟨g,off,e,hc⟩:=h (by
   intro e;have:l=[]:=by simpa [aN]using e
   rw[this]at am;simp at am)
 refine⟨g,off,e,λj ar=>?_⟩;rw[jn,cq]at ar;rw[hc j (by rw[jn];omega),jF l j (by omega),jF (l.take k) j (by rw[cq];omega),getElem_take]
theorem apl{w w':ai}{A:a7}{xs:b3}{row:Option Nat}(h:Reads w A xs)(hA:∀a,A=some a->row≠some a.block)(aD:w.grownBy w' row):Reads w' A xs:=λaX=>by
 obtain⟨g,off,rfl,hc⟩:=h aX;have lM:=hA _ rfl;refine⟨g,off,rfl,λj ar=>?_⟩;have h1:=hc j ar;have av:j<xs.length:=ar;rw[bH av]at h1 ⊢;have af:=World.block_lt_of_cell? w _ h1;exact(World.cell?_of_block (a:=⟨g,off+j,none⟩) (aD.block g af (λe=>lM e.symm))).trans h1
theorem aoG(A:a7)(c:Nat)(ag:ae)(w:ai)(am:0<ag.length)(hl:ag.length<=700)(hc:ag.length<=c)(et:∀x∈ag,x<28)(aj:Reads w A (aN ag)) :
  Calls prog 102 #[.slice A ag.length c] w λe w'=>(∃de df ss,e=.returned (.slice de ss.length df)/\Reads w' de (mU ss)/\(∀s∈ss,u6 ag s)/\ss[0]?=some (kV ag)/\ss.length<=3)/\Below w.heap.size w w':=by
 obtain⟨i0,ax,bB,bK,bw⟩:=info_parts akW;have av:∀x∈ag,x<256:=λx ah=>by have:=et x ah;omega
 have DJ:=uy ag av;have kL:Hid (∀W,Below w.heap.size w W->(convert 87 9 (.slice A ag.length c)).run prog W=.ok (.string (strOf ag)) W):=I (λW ak=>o3 W A c ag av (c9 aj ak));have xH:(ag.take 1).length=1:=by rw[cq];omega
 have Cv:Hid (∀W,Below w.heap.size w W->(convert 87 9 (.slice A 1 c)).run prog W=.ok (.string (strOf (ag.take 1))) W):=I (λW ak=>by
  have h:=o3 W A c (ag.take 1) (p3 av 1) (apq 1 (c9 aj ak));rw[xH]at h;exact h)
 have Az:Hid (∀W,(Instr.slice 87 (.slice A ag.length c) none (some (.int .i64 1)) none).run prog W=.ok (.slice A 1 c) W):=I (λW=>agK A ag.length c 1 W (by omega) hc);have Q0:=I (λW=>Qo 0 W (by omega));have JM:=I (λW=>Qo 1 W (by omega));have Ks:=I (λW b (h:fM W b [0])=>uA b [0] ag W (by simp;omega) h);have F6:=I (λW b (h:fM W b [1])=>uA b [1] (ag.take 1) W (by simp;omega) h);have e0:[0]++ag=kV ag:=rfl;have aF:[1]++ag.take 1=pD ag:=rfl;have uS:=I (ars ag et);have WV:∀x∈kV ag,x<256:=uS.out.lt;have Vs:∀x∈pD ag,x<256:=λx ah=>by
  rcases List.mem_cons.1 ah with rfl | ah
  .omega
  .exact p3 av 1 x ah
 rw[e0]at Ks;rw[aF]at F6;have Sr:=I (λW b (h:fM W b (kV ag))=>wv b (kV ag) W (by simp[kV];omega) WV h);have Kz:=I (λW b (h:fM W b (pD ag))=>wv b (pD ag) W (by simp[pD];omega) Vs h);have r2:=I (λh=>arm ag et h);have r0:=I (λW (ak:Below w.heap.size w W)=>amT A c ag W (by omega) av (c9 aj ak));have gH:=I (λA c W h=>OM A c ag W av h);have gg:=I (λB d W (ak:Below w.heap.size w W) (h:Reads W B (aM (iC ag)))=>aol A B c d ag W am hl et (c9 aj ak) (by unfold er;rw[jT];exact h));have hcv:=kL.out;clear et aj av DJ e0 aF WV Vs xH kL;go_enter func102,ntmps102
 go_upto_region 1 with fail
 refine wp_region_held_drew (S:=(λW:ai=>Below w.heap.size w W)) (by kernel_rfl) (by exact dQ.drew) (λhHeld=>?_);refine ch 1 {dst:=some 8,op:=.move (.tmp 0),type:=87,pos:= "stream.go:52",after:=#[],guard:=none} ?_ rfl (Or.inl ⟨by rfl,?_⟩) ?_;rotate_left
 ·(intro w hSw;(try dsimp only at hSw);go_simp;(try with_reducible rfl))
 try simp only[bx]
 refine ch 2 {dst:=some 9,op:=.convert 87 9 (.tmp 8),type:=9,pos:= "stream.go:52",after:=#[{on:=1,ground:=.data}],guard:=none} ?_ rfl (Or.inl ⟨by rfl,?_⟩) ?_;rotate_left
 ·(intro w hSw;(try dsimp only at hSw);go_simp;(try with_reducible rfl))
 try simp only[bx]
 refine iq 0 {dst:=some 7,op:=.call {callee:=.value (.func 133),args:=#[.const (.int .u64 0)],argTypes:=#[31]},type:=63,pos:= "stream.go:52",after:=#[],guard:=none} rfl (λK hK=>?_);go_simp
 (go_at_call 133;refine(Q0.out _).mono ?_;rintro e dt ⟨b,rfl,sz,ky,fZ⟩;have hP:=I (hHeld.trans (fZ.mono hHeld.size));have dN:=I (du hHeld.size ky);have kc:=I sz;clear sz fZ ky)
 go_simp;refine hK.out _ _ (by exact hP) (λhHeld=>?_);clear hK K
 try simp only[bx]
 refine iq 3 {dst:=some 10,op:=.call {callee:=.value (.func 33),args:=#[.tmp 7,.tmp 9],argTypes:=#[63,9]},type:=63,pos:= "stream.go:52",after:=#[{on:=0,ground:=.data},{on:=2,ground:=.data},{on:=0,ground:=.chain}],guard:=none} rfl (λK hK=>?_);go_simp
 (go_at_call 33;refine(Ks.out _ _ kc).mono ?_;rintro e x4 ⟨rfl,sA,nX⟩;have mY:=I (hP.out.trans (below_grown nX dN.out hP.out.size));have lx:=I sA;clear sA nX)
 go_simp;refine hK.out _ _ (by exact mY) (λhHeld=>?_);clear hK K
 try simp only[bx]
 refine iq 4 {dst:=some 11,op:=.call {callee:=.value (.func 34),args:=#[.tmp 10],argTypes:=#[63]},type:=9,pos:= "stream.go:52",after:=#[{on:=3,ground:=.data},{on:=3,ground:=.chain}],guard:=none} rfl (λK hK=>?_);go_simp
 (go_at_call 34;refine(Sr.out _ _ lx).mono ?_;rintro e uz ⟨rfl,xq⟩;have h0:=b9 mY xq;clear xq)
 go_simp;refine hK.out _ _ (by exact h0) (λhHeld=>?_);clear hK K
 try simp only[bx]
 refine iq 5 {dst:=some 12,op:=.buildSlice 163 1 #[(0,.tmp 11)],type:=163,pos:= "stream.go:52",after:=#[{on:=4,ground:=.data}],guard:=none} rfl (λK hK=>?_);go_simp;refine hK.out _ _ (by exact h0.out.alloc h0.out.size _) (λhHeld=>?_);clear hK K
 try simp only[bx]
 refine ch 6 {dst:=some 3,op:=.assign (.tmp 12),type:=163,pos:= "stream.go:52",after:=#[{on:=5,ground:=.data},{on:=4,ground:=.chain},{on:=0,ground:=.phase},{on:=1,ground:=.phase},{on:=2,ground:=.phase},{on:=3,ground:=.phase},{on:=4,ground:=.phase},{on:=5,ground:=.phase}],guard:=none} ?_ rfl (Or.inl ⟨by rfl,?_⟩) ?_;rotate_left
 ·(intro w hSw;(try dsimp only at hSw);go_simp;(try with_reducible rfl))
 try simp only[bx]
 refine wpAnyH_done (by kernel_rfl) ?_ _;have hrow:=Row.new uz 9 (mU [kV ag]);have hown:=ann hrow h0.out.size (by simp);have Vw:=h0.out.alloc h0.out.size (.cells #[.string (strOf (kV ag))] 9);have Lw:uz.alloc (.cells (mU [kV ag]).toArray 9)=uz.alloc (.cells #[.string (strOf (kV ag))] 9):=rfl;rw[Lw]at hown;obtain⟨u,hu⟩:∃u,u=Value.slice (some ⟨uz.heap.size,0,none⟩) 1 1:=⟨_,rfl⟩;have hown2:(uz.alloc (.cells #[.string (strOf (kV ag))] 9)).ownsRow w.heap.size 9 1 u 1 (mU [kV ag]):=by rw[hu];exact hown
 have hQ:=I hown2;have JJ:=I Vw;rw[<-hu];clear hrow hown Vw Lw hu hown2 hP dN kc mY lx h0 Q0 Ks Sr hHeld;generalize uz.alloc (.cells #[.string (strOf (kV ag))] 9)=dv at *;clear hcv;go_wp2_with fail
 refine(r0.out dv JJ).mono ?_;rintro e aB ⟨B,d,rfl,⟨bS,bu⟩,aI⟩;have mX:Hid (∀a q,B=some a->u.ownBlock=some q->q≠a.block):=I (λa q aF e2 e3=>by
  have h1:=bu a aF;have af:=(hQ.out.lt q e2).2;omega)
 clear bu;have aV:=b9 JJ aI;have mv:=I (own_below hQ.out aI);have hS:=I (gH.out B d aB bS);have eA:=I bS;clear bS aI JJ hQ r0 gH;go_wp2_with fail
 refine hS.out.mono ?_;rintro e a1 ⟨rfl,bz⟩;have bE:=b9 aV bz;have oV:=I (c9 eA.out bz);have mw:=I (own_below mv.out bz);clear bz aV hS eA mv;have RG:=gg;clear gg;by_cases h1:gC (er ag)=1
 case' pos=>
  have U2:=r2.out h1;rw[h1];have QE:=I U2;clear h1 U2 r2;have VN:=Cv.out;have fU:=Az.out;clear Cv Az;go_upto_region 4 with fail
  refine wp_region_held_drew (S:=(λW:ai=>Below w.heap.size w W)) (by kernel_rfl) (by exact bE.out.drew) (λhHeld=>?_);refine ch 0 {dst:=some 18,op:=.move (.tmp 3),type:=163,pos:= "stream.go:55",after:=#[],guard:=none} ?_ rfl (Or.inl ⟨by rfl,?_⟩) ?_;rotate_left
  ·(intro w hSw;(try dsimp only at hSw);go_simp;(try with_reducible rfl))
  try simp only[bx]
  refine ch 2 {dst:=some 20,op:=.move (.tmp 0),type:=87,pos:= "stream.go:55",after:=#[],guard:=none} ?_ rfl (Or.inl ⟨by rfl,?_⟩) ?_;rotate_left
  ·(intro w hSw;(try dsimp only at hSw);go_simp;(try with_reducible rfl))
  try simp only[bx]
  refine ch 3 {dst:=some 21,op:=.slice 87 (.tmp 20) none (some (.const (.int .i64 1))) none,type:=87,pos:= "stream.go:55",after:=#[{on:=2,ground:=.data}],guard:=none} ?_ rfl (Or.inl ⟨by rfl,?_⟩) ?_;rotate_left
  ·(intro w hSw;(try dsimp only at hSw);go_simp;(try with_reducible rfl))
  try simp only[bx]
  refine ch 4 {dst:=some 22,op:=.convert 87 9 (.tmp 21),type:=9,pos:= "stream.go:55",after:=#[{on:=3,ground:=.data}],guard:=none} ?_ rfl (Or.inl ⟨by rfl,?_⟩) ?_;rotate_left
  ·(intro w hSw;(try dsimp only at hSw);go_simp;(try with_reducible rfl))
  try simp only[bx]
  refine iq 1 {dst:=some 19,op:=.call {callee:=.value (.func 133),args:=#[.const (.int .u64 1)],argTypes:=#[31]},type:=63,pos:= "stream.go:55",after:=#[],guard:=none} rfl (λK hK=>?_);go_simp
  (go_at_call 133;refine(JM.out _).mono ?_;rintro e dt ⟨b,rfl,sz,ky,fZ⟩;have hP:=I ((Below.refl a1.heap.size a1).drew.trans (fZ.mono bh));have dN:=I ky;have kc:=I sz;clear sz fZ ky)
  go_simp;refine hK.out _ _ (by exact bE.out.trans (hP.out.mono bE.out.size)) (λhHeld=>?_);clear hK K
  try simp only[bx]
  refine iq 5 {dst:=some 23,op:=.call {callee:=.value (.func 33),args:=#[.tmp 19,.tmp 22],argTypes:=#[63,9]},type:=63,pos:= "stream.go:55",after:=#[{on:=1,ground:=.data},{on:=4,ground:=.data},{on:=1,ground:=.chain}],guard:=none} rfl (λK hK=>?_);go_simp
  (go_at_call 33;refine(F6.out _ _ kc).mono ?_;rintro e x4 ⟨rfl,sA,nX⟩;have mY:=I (hP.out.trans (below_grown nX dN.out hP.out.size));have lx:=I sA;clear sA nX)
  go_simp;refine hK.out _ _ (by exact bE.out.trans (mY.out.mono bE.out.size)) (λhHeld=>?_);clear hK K
  try simp only[bx]
  refine iq 6 {dst:=some 24,op:=.call {callee:=.value (.func 34),args:=#[.tmp 23],argTypes:=#[63]},type:=9,pos:= "stream.go:55",after:=#[{on:=5,ground:=.data},{on:=5,ground:=.chain}],guard:=none} rfl (λK hK=>?_);go_simp
  (go_at_call 34;refine(Kz.out _ _ lx).mono ?_;rintro e uz ⟨rfl,xq⟩;have h0:=b9 mY xq;clear xq)
  go_simp;refine hK.out _ _ (by exact bE.out.trans (h0.out.mono bE.out.size)) (λhHeld=>?_);clear hK K
  try simp only[bx]
  refine iq 7 {dst:=some 25,op:=.buildSlice 163 1 #[(0,.tmp 24)],type:=163,pos:= "stream.go:55",after:=#[{on:=6,ground:=.data}],guard:=none} rfl (λK hK=>?_);go_simp;refine hK.out _ _ (by exact bE.out.trans ((h0.out.alloc h0.out.size _).mono bE.out.size)) (λhHeld=>?_);clear hK K
  try simp only[bx]
  have ts:=I (h0.out.alloc h0.out.size (.cells #[.string (strOf (pD ag))] 9));have Kk:=I (own_below mw.out ts);have hH:=I (World.news_of_block (heap_alloc_new uz (.cells #[.string (strOf (pD ag))] 9)));refine iq 8 {dst:=some 26,op:=.call {callee:=.builtin .append,args:=#[.tmp 18,.tmp 25],argTypes:=#[163,163]},type:=163,pos:= "stream.go:55",after:=#[{on:=0,ground:=.data},{on:=7,ground:=.data},{on:=6,ground:=.chain}],guard:=none} rfl (λK hK=>?_)
  (refine step_append_lies _ (by rfl) _ _ _ (by rfl) w.heap.size 9 i0 (.string ⟨#[]⟩) 1 16 underlying163 ax bB bK bw rfl (by omega) u 1 (mU [kV ag]) (by rfl) Kk.out ⟨uz.heap.size,0,none⟩ 1 1 [.string (strOf (pD ag))] (by rfl) (by rfl) hH.out (by intro u hu;simp at hu;subst hu;rfl) (by omega) (by unfold maxLen;omega) (by omega) (by have:=ts.out.size;have:=bE.out.size;omega) _ rfl ?_;intro gK iB fm ma j4 _ _;have Au:=I ma;have JL:=I ((bE.out.trans (ts.out.mono bE.out.size)).grown j4 (by have:=ts.out.size;have:=bE.out.size;omega) (λq e=>(Kk.out.lt q e).1));have QI:=I (apl (c9 oV.out ts) (λa e e2=>mX.out a _ e e2 rfl) j4);clear ma j4)
  refine hK.out _ _ (by exact JL) (λhHeld=>?_);clear hK K
  try simp only[bx]
  refine ch 9 {dst:=some 3,op:=.assign (.tmp 26),type:=163,pos:= "stream.go:55",after:=#[{on:=8,ground:=.data},{on:=8,ground:=.chain},{on:=0,ground:=.phase},{on:=1,ground:=.phase},{on:=2,ground:=.phase},{on:=3,ground:=.phase},{on:=4,ground:=.phase},{on:=5,ground:=.phase},{on:=6,ground:=.phase},{on:=7,ground:=.phase},{on:=8,ground:=.phase}],guard:=none} ?_ rfl (Or.inl ⟨by rfl,?_⟩) ?_;rotate_left
  ·(intro w hSw;(try dsimp only at hSw);go_simp;(try with_reducible rfl))
  try simp only[bx]
  refine wpAnyH_done (by kernel_rfl) ?_ _;have fD:mU [kV ag]++[Value.string (strOf (pD ag))]=mU [kV ag,pD ag]:=rfl;have hown:=Au.out;rw[fD]at hown;obtain⟨u2,sY⟩:∃u2,u2=Value.slice (some ⟨gK,0,none⟩) 2 iB:=⟨_,rfl⟩;rw[show(1+1:Nat)=2 from rfl,<-sY]at hown;rw[<-sY];obtain⟨ss,sU⟩:∃ss,ss=[kV ag,pD ag]:=⟨_,rfl⟩;rw[<-sU]at hown;have CX:=I hown;have Ge:Hid ((∀s∈ss,u6 ag s)/\ss[0]?=some (kV ag)):=I (by
   rw[sU];refine⟨λs ap=>?_,by simp⟩;simp at ap;rcases ap with rfl | rfl
   .exact uS.out
   .exact QE)
  obtain⟨k,hk⟩:∃k,k=2:=⟨_,rfl⟩;rw[<-hk]at CX;have J9:Hid (ss.length=k/\k<=2):=I (by rw[sU,hk];exact⟨rfl,Nat.le_refl _⟩);have Kr:=QI;have FI:=JL;have fy:k<=2:=by omega
  clear fD hown sY sU hk QI JL Au ts Kk hH hP dN kc mY lx h0 hHeld VN fU QE uS F6 Kz JM oV bE mw mX;rename ai=>ab3
 case' neg=>
  have iG:(((gC (er ag):Nat):Int) == 1)=false:=cz
  generalize gC (er ag)=cM at *;obtain⟨ss,sU⟩:∃ss,ss=[kV ag]:=⟨_,rfl⟩;have Ge:Hid ((∀s∈ss,u6 ag s)/\ss[0]?=some (kV ag)):=I (by
   rw[sU];refine⟨λs ap=>?_,by simp⟩;simp at ap;rw[ap];exact uS)
  obtain⟨k,hk⟩:∃k,k=1:=⟨_,rfl⟩;have CX:Hid (a1.ownsRow w.heap.size 9 1 u k (mU ss)):=I (by rw[hk,sU];exact mw);have J9:Hid (ss.length=k/\k<=2):=I (by rw[sU,hk];exact⟨rfl,by omega⟩);have Kr:=oV;have FI:=bE;have fy:k<=2:=by omega
  obtain⟨u2,sY⟩:∃u2,u2=u:=⟨_,rfl⟩;rw[<-sY]at CX ⊢;clear sU hk sY uS r2 F6 Kz JM oV bE mw mX h1 Az Cv;rename ai=>ab3
 all_goals
  have CJ:=I (RG.out B d ab3 FI.out Kr);clear RG Kr;go_wp2_with fail
  refine CJ.out.mono ?_;rintro e dG ⟨⟨S,cu,rfl⟩,cL⟩;have dh:=b9 FI cL;have CW:=I (own_below CX.out cL);have cI:=I cu;have Xu:=dh.out.size;clear cu cL FI CX CJ;go_wp2_with (at_builtin;refine wpList_append_own _ rfl _ _ 163 rfl w.heap.size 9 i0 (.string ⟨#[]⟩) 1 16 underlying163 ax bB bK bw rfl (by decide) _ _ _ rfl (CW.out.alloc _) ⟨dG.heap.size,0,none⟩ 1 1 [.string (strOf S)] rfl rfl ?d1 ?d2 ?d3 ?d4 ?d5 ?_)
  case d1=>
   intro j u ar;match j,ar with
   | 0,ar=>simp at ar;subst ar;simp[Addr.add]
  case d2=>intro u hu;simp at hu;subst hu;rfl
  case d3=>unfold maxLen;omega
  case d4=>omega
  case d5=>simp;omega
  intro gZ dt di dn _;have jN:Below w.heap.size w dt:=(dh.out.alloc dh.out.size _).grown dn (by simp;omega) (λx e=>(CW.out.lt x e).1);have e:mU ss++[Value.string (strOf S)]=mU (ss++[S]):=by simp[mU]
  rw[e]at di;obtain⟨de,df,rfl,bp,_⟩:=kU di;have dB:=I bp;have h2:=I jN;clear di dn jN e bp CW;go_wp2;go_ret;refine⟨⟨de,df,ss++[S],by rw[aY,J9.out.1];rfl,dB.out,λs ap=>?_,(hZ (List.getElem?_eq_some_iff.1 Ge.out.2).1).trans Ge.out.2,by rw[aY,J9.out.1];simp;omega⟩,h2.out⟩;rcases List.mem_append.1 ap with ap | ap
  .exact Ge.out.1 s ap
  .rw[List.mem_singleton.1 ap];exact cI.out
theorem aoF(A:a7)(c:Nat)(ag:ae)(w:ai)(am:0<ag.length)(hl:ag.length<=700)(hc:ag.length<=c)(et:∀x∈ag,x<28)(aj:Reads w A (aN ag)) :
  Calls prog 62 #[.slice A ag.length c] w λe w'=>(∃S,u5 ag S/\e=.returned (.string (strOf S)))/\Below w.heap.size w w':=by
 have bU:=I (aoG A c ag w am hl hc et aj);have RU:=I (λA c ss W am hl aj=>atB A c ss W am hl aj);clear aj et;generalize hm:ag.length=m at *;have ci:=I hm;clear hm;go_enter func62,ntmps62
 go_wp2_with fail
 refine bU.out.mono ?_;rintro e aB ⟨⟨de,df,ss,rfl,bp,hq,aw,xy⟩,aI⟩;have aV:=I aI;have iR:=I (⟨hq,aw⟩:_/\_);have CM:=I (RU.out de df ss aB (List.getElem?_eq_some_iff.1 aw).1 (by omega) bp);clear bp hq aw xy aI bU RU;go_wp2_with fail
 refine CM.out.mono ?_;rintro e a1 ⟨⟨S,cu,hmin,V4,rfl⟩,rfl⟩;have cI:Hid (u5 ag S):=I ⟨iR.out.1 S cu,by
  have:=hmin _ (mem_of_getElem? iR.out.2);simpa [kV]using this,λh=>V4 _ iR.out.2 (by rw[h];rfl)⟩
 clear cu hmin V4 CM iR;have dw:Hid (∃AJ,u5 ag AJ/\strOf S=strOf AJ):=I ⟨S,cI,rfl⟩;generalize strOf S=Px at *;go_wp2;go_ret;obtain⟨AJ,h1,af⟩:=dw.out;exact⟨⟨AJ,h1,congrArg (λx=>Ending.returned (Value.string x)) af⟩,aV⟩
namespace ao
theorem anC(l:List fc)(r:Int×Int×Int)(h:∀s∈l,oi s)(j:Nat):∀x∈gk j (cE r l),x<28:=by
 have hle:=BW l r h;intro x ah;unfold gk at ah;obtain⟨vs,ui,rfl⟩:=List.mem_map.1 ah;refine(LD _ ?_).2;rcases eP j vs.length with h1 | h1
 .rw[bH h1,b6];exact hle _ (List.mem_flatten.2 ⟨vs,ui,b7 h1⟩)
 .rw[getElem?_eq_none h1,getD_none];omega
end ao
theorem GX{w w':ai}{A:a7}{l:ae}{b:Nat}{bs:ae}(h:fM w b bs)(aj:Reads w A (aN l))(aD:w.grownBy w' (some b)):Reads w' A (aN l):=by
 obtain⟨p,kH,hrow,_,_⟩:=h;refine IF hrow (λm z ah=>?_) aj aD;match m,ah with
 | 0,ah=>simp at ah
 | 1,ah=>simp at ah
 | m+2,ah=>simp at ah
def pv(e:Ending)(l:List fc):Prop:=
 if ∀s∈l,oi s then ∃S,De l S/\e=.returned (.tuple #[.string (strOf S),.bool true])else e=.returned (.tuple #[.string (strOf []),.bool false])
theorem aoj(A:a7)(c:Nat)(w:ai):Calls prog 36 #[.slice A 0 c] w λe w'=>pv e []/\Below w.heap.size w w':=by
 have hq:=aqs [] rfl;have hpost:∀e,e=.returned (.tuple #[.string (strOf [0]),.bool true])->pv e []:=λe he=>by
  unfold pv;rw[aA (by simp)];exact⟨[0],hq,he⟩
 have wR:=I hpost;obtain⟨sf,sv⟩:∃sf:Ending->Prop,sf=λe=>pv e []:=⟨_,rfl⟩
 have wx:=I sv;have hgoal:(λ(e:Ending) (w':ai)=>pv e []/\Below w.heap.size w w')=λe w'=>sf e/\Below w.heap.size w w':=by rw[sv]
 rw[hgoal];have e0:([]:ae)++br 0=[0]:=by rw[tQ 0 (by omega)];rfl
 have cP:=Ca w.heap.size 0 [] _ (by omega) (by simp) (fM.new w);rw[e0]at cP;have jH:=I cP;have rT:=I ((Below.refl w.heap.size w).alloc bh (.cells #[.pointer none,.int .i64 0] 62));have fO:=I (λW (h:fM W w.heap.size [0])=>wv w.heap.size [0] W (by simp) (by simp) h);clear hq hpost hgoal sv e0 cP;go_enter func36,ntmps36
 go_wp2_with fail
 refine jH.out.mono ?_;rintro e au ⟨rfl,bL,aZ⟩;have nI:=I (fO.out au bL);have aK:=I (rT.out.trans (below_grown aZ bh rT.out.size));clear bL aZ jH rT fO;go_wp2_with fail
 refine nI.out.mono ?_;rintro e aB ⟨rfl,aI⟩;have aV:=b9 aK aI;clear aI aK nI;generalize XL:strOf [0]=axe at *;have atV:=I XL;clear XL;go_wp2;go_ret2;refine⟨?_,aV⟩;rw[wx.out];exact wR.out _ rfl
theorem aok(A:a7)(c:Nat)(l:List fc)(w:ai)(am:0<l.length)(hl:l.length<=700)(cW:xa l)(aj:sj w A l) :
  Calls prog 36 #[.slice A l.length c] w λe w'=>pv e l/\Below w.heap.size w w':=by
 obtain⟨sf,sv⟩:∃sf:Ending->Prop,sf=λe=>pv e l:=⟨_,rfl⟩
 have wx:=I sv;have hgoal:(λ(e:Ending) (w':ai)=>pv e l/\Below w.heap.size w w')=λe w'=>sf e/\Below w.heap.size w w':=by rw[sv]
 rw[hgoal];clear hgoal sv;obtain⟨mG,mM⟩:∃mG,w.heap.size=mG:=⟨_,rfl⟩;have rj:=fM.new w;rw[mM]at rj;have cP:=Ca mG l.length [] _ (by omega) (by simp) rj;rw[nil_append]at cP;have jH:=I cP;have rT:=I ((Below.refl w.heap.size w).alloc bh (.cells #[.pointer none,.int .i64 0] 62));have Re:=I (λW (ak:Below w.heap.size w W)=>aod A c l W hl cW (aj.below ak));have qa:=I mM;have hwrap:IntKind.u64.wrap (l.length:Int)=(l.length:Int):=by rw[IntKind.wrap_u64];omega
 have xg:((l.length:Int) == 0)=false:=cz
 have Lt:decide ((1000:Int)<(l.length:Int))=false:=aT;clear rj cP mM cW aj;go_enter func36,ntmps36
 go_wp2_with fail
 rw[qa.out];refine jH.out.mono ?_;rintro e au ⟨rfl,bL,aZ⟩;have aH:=rT.out.trans (below_grown aZ (Nat.le_of_eq qa) rT.out.size);have aK:=I aH;have k0:=I bL;have wF:=I (Re.out au aH);clear bL aZ aH jH rT Re;by_cases hall:∀s∈l,oi s
 .unfold rP at wF;simp only[aA hall]at wF;have od:=I hall;clear hall;go_wp2_with fail
  refine wF.out.mono ?_;rintro e aB ⟨⟨gd,bC,eI,bf,fa,bM,B,EG,rfl,gv,eu,fy,kS,cd,bS,cX⟩,aI⟩;have hb2':=aK.out.trans (aI.mono aK.out.size);have db:=k0.out.below aI;obtain⟨ba,jx⟩:∃ba,aB.heap.size=ba:=⟨_,rfl⟩;have dA:=(Below.refl aB.heap.size aB).alloc bh (.cells #[.slice gd l.length bC,.slice eI l.length bf,.slice fa l.length bM] 108);have e7:=Row.new aB 108 [.slice gd l.length bC,.slice eI l.length bf,.slice fa l.length bM];obtain⟨a0,ie,a2⟩:=dE e7;have bE:=I (hb2'.trans (dA.mono hb2'.size));have wD:=I (db.below dA);have QG:=I (⟨c9 kS dA,c9 cd dA,c9 bS dA,c9 cX dA⟩:_/\_/\_/\_);have cm:∀j,(gk j (cE (1,2,4) l)).length=l.length:=λj=>by rw[gk,cQ,BV]
  have cb:Hid (∀j A k W,l.length<=k->Reads W A (aN (gk j (cE (1,2,4) l)))->Calls prog 62 #[.slice A l.length k] W λe w'=>(∃S,u5 (gk j (cE (1,2,4) l)) S/\e=.returned (.string (strOf S)))/\Below W.heap.size W w'):=I (λj A k W hk aj=>by
   have h1:=aoF A k (gk j (cE (1,2,4) l)) W (by rw[cm];exact am) (by rw[cm];exact hl) (by rw[cm];exact hk) (anC l _ od.out j) aj;rw[cm]at h1;exact h1)
  have BH:=nS l.length (by omega);have Mv:(kf (cE (1,2,4) l)).length<=5000:=by
   have h1:=Gt _ (BW l (1,2,4) od);rw[Dy]at h1;rw[kf,ao.bytesOf_length];omega
  have ef:=I (λW (X S:ae) (cK:X.length+S.length<=100000) (h:fM W mG X)=>uA mG X S W (by omega) h);have hb256:∀x∈kf (cE (1,2,4) l),x<256:=u9 _ _;have kL:=I (λW A c (h:Reads W A (aN (kf (cE (1,2,4) l))))=>o3 W A c _ hb256 h);have iz:=I (λW (X:ae) (cK:X.length<=100000) (h:fM W mG X)=>Jd mG X (kf (cE (1,2,4) l)) W (by omega) (by omega) h);have fO:=I (λW (X:ae) (cK:X.length<=100000) (ah:∀x∈X,x<256) (h:fM W mG X)=>wv mG X W (by omega) ah h);have ey:=I (λeg c6 fX h1 af aq=>aqv l am hl od.out eg c6 fX h1 af aq);have oc:=I (⟨gv,eu,fy⟩:_/\_/\_);have VH:w.heap.size<=mG:=Nat.le_of_eq qa.out;have Hlen:=I cm;clear aI hb2' db kS cd bS cX gv eu fy dA e7 cm hb256 wF aK k0 qa;generalize lg:kf (cE (1,2,4) l)=q3 at *;have wC:=I lg;clear lg;generalize pO:l.length=n at *;have RY:=I pO;clear pO;go_wp2;rw[jx]at *;generalize aB.alloc (.cells #[.slice gd n bC,.slice eI n bf,.slice fa n bM] 108)=dv at *;clear a0 ie a2;go_loopw [9,30] (λ_ i wr=>∃(j:Nat) (e6:List (ae)),i=.int .i64 j/\j<=3/\Hid (e6.length=j)/\Hid (∀q S,e6[q]?=some S->u5 (gk q (cE (1,2,4) l)) S)/\Hid (fM wr mG (br n++e6.flatten))/\Hid (e6.flatten.length<=j*701) /\
   Hid (Below w.heap.size w wr)/\Hid (Reads wr gd (aN (gk 0 (cE (1,2,4) l)))/\Reads wr eI (aN (gk 1 (cE (1,2,4) l)))/\Reads wr fa (aN (gk 2 (cE (1,2,4) l)))/\Reads wr B (aN q3))) (λ_ i _=>3-(intOf i).toNat)
  case atStart=>exact⟨0,[],rfl,by omega,I rfl,I (λq S h=>by simp at h),by rw[flatten_nil,append_nil];exact wD,I (by simp),bE,QG⟩
  case round=>
   obtain⟨j,e6,rfl,ar,ld,DI,rj,lL,hbel,ff⟩:=hrel;clear wD bE QG;by_cases zf:j<3
   .have o4:(j:Int)<3:=by omega
    have key:∃(A:a7) (dI:Nat),Hid ([Value.slice gd n bC,.slice eI n bf,.slice fa n bM][j]?=some (.slice A n dI))/\n<=dI/\Hid (Reads wr A (aN (gk j (cE (1,2,4) l)))):=by
     obtain⟨gW,gO,dc,_⟩:=ff.out;obtain⟨ur,gy,ft⟩:=oc.out;rcases(by omega:j=0\/j=1\/j=2)with rfl | rfl | rfl
     .exact⟨gd,bC,rfl,ur,gW⟩
     .exact⟨eI,bf,rfl,gy,gO⟩
     .exact⟨fa,bM,rfl,ft,dc⟩
    obtain⟨A,dI,hidx,rn,Xh⟩:=key;have hidx2:∀W,(Instr.index 108 (.agg #[.slice gd n bC,.slice eI n bf,.slice fa n bM]) (.int .i64 j)).run prog W=.ok (.slice A n dI) W:=λW=>by
     have h:=hidx.out;rcases(by omega:j=0\/j=1\/j=2)with rfl | rfl | rfl
     all_goals
      simp only[dR,dU,Option.some.injEq]at h;rw[h];simp[Instr.index,run_underlying underlying108,asIntOf,go_sem]
    have ce:=I (cb.out j A dI wr rn Xh);clear hidx Xh;go_wp2_with fail
    refine ce.out.mono ?_;rintro e bA ⟨⟨S,cu,rfl⟩,a8⟩;have U7:=cu.len;have kR:=Hlen.out j;rw[kR]at U7;have bU:=I cu;have MD:=rj.out.below a8;have VC:=hbel.out.trans (a8.mono hbel.out.size);have MN:=lL.out;have q1:=I (ef.out bA (br n++e6.flatten) S (by rw[aY];omega) MD);have Cl:=I (⟨c9 ff.out.1 a8,c9 ff.out.2.1 a8,c9 ff.out.2.2.1 a8,c9 ff.out.2.2.2 a8⟩:_/\_/\_/\_);have Cw:=I MD;have cx:=I VC;have ac6:Hid ((e6++[S]).flatten.length<=(j+1)*701):=I (by rw[flatten_append,aY,flatten_singleton];omega);clear a8 cu kR MD VC MN ce hbel ff rj lL U7;go_wp2_with fail
    refine q1.out.mono ?_;rintro e dG ⟨rfl,jA,fp⟩;have k1:Hid (fM dG mG (br n++(e6++[S]).flatten)):=I (by rw[flatten_append,flatten_singleton,<-dj];exact jA);have acC:=I (⟨GX Cw.out Cl.out.1 fp,GX Cw.out Cl.out.2.1 fp,GX Cw.out Cl.out.2.2.1 fp,GX Cw.out Cl.out.2.2.2 fp⟩:_/\_/\_/\_);have dh:=I (cx.out.trans (below_grown fp VH cx.out.size));clear jA fp q1 Cl Cw cx;go_wp2;go_roundw
    case rel=>
     refine⟨j+1,e6++[S],by go_num,by omega,I (by rw[aY,ld.out];rfl),I (λq AJ h=>?_),k1,ac6,dh,acC⟩;rcases eP q e6.length with hq | hq
     .rw[hZ hq]at h;exact DI.out q AJ h
     .rw[jk hq,getElem?_singleton]at h;split at h
      .next am=>
       injection h with h
       have:q=j:=by rw[<-ld.out];omega
       rw[this,<-h];exact bU.out
      .cases h
    case measure=>simp[intOf];omega
   .have vH:j=3:=by omega
    subst vH;obtain⟨eg,c6,fX,sw⟩:∃eg c6 fX,e6=[eg,c6,fX]:=by
     match e6,ld.out with
     | [x,y,z],_=>exact⟨x,y,z,rfl⟩
    subst sw;have j2:=ey.out eg c6 fX (DI.out 0 eg rfl) (DI.out 1 c6 rfl) (DI.out 2 fX rfl);have e0:(br n++[eg,c6,fX].flatten)++(br q3.length++q3)=pZ n eg c6 fX q3:=by
     simp[pZ]
    have hcv:=kL.out wr B EG ff.out.2.2.2;have MN:=lL.out;have xH:=iz.out wr _ (by rw[aY];omega) rj.out;rw[e0]at xH;have C8:=I xH;have nI:=I (λW (h:fM W mG (pZ n eg c6 fX q3))=>fO.out W _ (by have:=j2.len;omega) j2.lt h);have wR:Hid (∀e,e=.returned (.tuple #[.string (strOf (pZ n eg c6 fX q3)),.bool true])->pv e l):=I (λe he=>by
     unfold pv;rw[aA od.out];exact⟨_,j2,he⟩)
    have gE:=I hbel.out;clear j2 e0 MN xH hbel ff rj lL DI ld iz fO ef cb ey kL oc Hlen;generalize pZ n eg c6 fX q3=E at *;go_wp2_with fail
    refine C8.out.mono ?_;rintro e dG ⟨rfl,jA,fp⟩;have dh:=I (gE.out.trans (below_grown fp VH gE.out.size));have wW:=I (nI.out dG jA);clear jA fp gE C8 nI hcv;go_wp2_with fail
    refine wW.out.mono ?_;rintro e dp ⟨rfl,fS⟩;have iP:=b9 dh fS;clear fS dh wW;generalize strOf E=Pv at *;go_wp2;go_ret2;refine⟨?_,iP⟩;rw[wx.out];exact wR.out _ rfl
 .unfold rP at wF;simp only[ay hall]at wF;have wR:Hid (∀e,e=.returned (.tuple #[.string (strOf []),.bool false])->pv e l):=I (λe he=>by
   unfold pv;rw[ay hall];exact he)
  clear hall;go_wp2_with fail
  refine wF.out.mono ?_;rintro e aB ⟨rfl,aI⟩;have aV:=I ((aK.out.trans (aI.mono aK.out.size)).alloc (aK.out.trans (aI.mono aK.out.size)).size (.cells #[.slice none 0 0,.slice none 0 0,.slice none 0 0] 108));clear aI aK wF k0;go_wp2;go_ret2;refine⟨?_,aV⟩;rw[wx.out];exact wR.out _ rfl
theorem aoi(A:a7)(c:Nat)(l:List fc)(w:ai)(hl:l.length<=700)(cW:xa l)(aj:sj w A l) :
  Calls prog 36 #[.slice A l.length c] w λe w'=>pv e l/\Below w.heap.size w w':=by
 cases l with
 | nil=>exact aoj A c w
 | cons s l=>exact aok A c (s :: l) w (by simp) hl cW aj
end Go.Proofs.YtgiicohbigiapaaGreat
