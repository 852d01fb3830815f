/- Contracts. -/
import Derived.Test.YtgiicohbigiapaaGreatQav
import Derived.Test.YtgiicohbigiapaaGreatQax
import Derived.Test.YtgiicohbigiapaaGreatQap
import Derived.Test.YtgiicohbigiapaaGreatQz2
import Derived.Test.YtgiicohbigiapaaGreatQz1
import Derived.Test.YtgiicohbigiapaaGreatQz0
set_option maxHeartbeats 4000000
set_option maxRecDepth 100000
open Go.Proofs.Tryz Go.Proofs.YtgiicohbigiapaaGreat.ao List Nat Option
namespace Go.Proofs.YtgiicohbigiapaaGreat
open Go.RowKit Go.Shelf
attribute [local go_sem] Oper.semAt_some
theorem apU{n l:Nat}{P:Program}{row:String}{args:Array Value}{w:ai}{R:Value->ai->Prop}(h:Rows P row args w R):RowsIn (Fence.wide.inRound l) n P row args w R:=λc ag _=>by
 obtain⟨v,w',cS,ap⟩:=h c ag;exact⟨v,w',cS,stepsIn_wide.2 ap⟩
theorem anf{n l:Nat}{P:Program}{ops:Array Oper}{Q:Exit->Act->ai->Prop}(ns:∀(i:Nat) (o:Oper),ops[i]?=some o->∀c,o.op≠.defer c)(j2:¬LetsOut Q) :
  ∀(L:ae) (a:Act) (w:ai),wpOps P ops Q L a w->wpOpsIn (Fence.wide.inRound l) n P ops Q L a w:=by
 intro L;induction L with
 | nil=>exact λa w h=>h
 | cons i rest ih=>
  intro a w h;simp only[wpOps]at h;simp only[wpOpsIn];cases b8:ops[i]? with
  | none=>rw[b8]at h;exact ih a w h
  | some o=>
   rw[b8]at h;dsimp only at h ⊢;by_cases hw:Region.wanted o (yielded ops a.tmps)=true
   .rw[aA hw]at h ⊢;rcases h with h | ⟨_,h⟩
    .refine⟨λ_ _=>trivial,?_⟩;show o.uponIn _ n P a _ Q ((o.semAt (some l) a.eval).run P w);rw[Oper.semAt_some l _ _ (ns i o b8)];unfold Oper.wp at h;generalize (execOp a.eval o).run P w=r at *;cases r with
     | ok x w'=>
      cases x with
      | value v=>exact ih _ _ h
      | skip=>exact ih _ _ h
      | defer d=>exact ih _ _ h
      | enter f args=>
       refine⟨λaG=>(by cases aG),?_⟩;refine CallsIn.mono (CallsIn.inRound l (callsIn_wide.2 h)) λe pq he=>?_
       cases e with
       | returned v=>exact ih _ _ he
       | panicked c=>exact he
       | outgrown=>exact he
      | row row args=>exact⟨λaG=>(by cases aG),RowsIn.mono (apU h) λv pq he=>ih _ _ he⟩
      | _=>exact h.elim
     | halt x w'=>
      cases x with
      | panic v=>exact h
      | _=>exact h.elim
    .exact absurd h j2
   .rw[ay hw]at h ⊢;exact⟨λ_ _=>trivial,ih _ _ h⟩
theorem apr{n l id:Nat}{P:Program}{ops:Array Oper}{Q:Exit->Act->ai->Prop}{S:ai->Prop}{a:Act}{w:ai}(hm:P.follows .mixedOrders=true)(ns:ops.all (λo=>match o.op with | .defer _=>false | _=>true)=true)(j2:¬LetsOut Q)(cu:S w.drew)
  (h:S w.drew->wpAnyH P .any ops Q S ops.size (Array.replicate ops.size false) a w.drew):(Code.region id ops true).wpIn (Fence.wide.inRound l) n P Q a w:=
 wpIn_region_draw λt=>by
  simp only[Region.schedule,hm,Bool.true_or,if_true];refine anf (λi o b8 c hc=>?_) j2 _ _ _ (wpAny_sound ops.size t _ a _ (wpAny_of_held _ _ _ _ (h cu)));obtain⟨ax,rfl⟩:=Array.getElem?_eq_some_iff.1 b8;have h1:=Array.all_eq_true.1 ns i ax;rw[hc]at h1;cases h1
def nJ(n₀ ck iw:Nat)(A B:ai):Prop:=oh n₀ ck A B/\B.heap[iw]?=A.heap[iw]?
theorem nJ.t{n₀ ck iw:Nat}{A B C:ai}(h:nJ n₀ ck iw A B)(k:nJ n₀ ck iw B C):nJ n₀ ck iw A C:=⟨h.1.t k.1,k.2.trans h.2⟩
theorem nJ.b{n₀ ck iw:Nat}{w:ai}(az:n₀<=w.heap.size)(bu:ck<w.heap.size)(j1:iw<w.heap.size)(W:ai)(l:Nat)(o ET:Obj)(hl:w.heap.size<=l)(h:W.heap[l]?=some o)(h1:o.isCells=false)(af:o.isWalk=false):nJ n₀ ck iw W (W.putObj l ET):=
 ⟨oh.b az bu W l o ET hl h h1 af,World.putObj_heap_other (by omega)⟩
abbrev p5(m:Nat):={k:Nat // 2*k<m}
def pG(m k:Nat):Nat:=if 2*k+1<m then 2 else 1
def p5.enc(g m:Nat)(x:p5 m):Array Value:=#[.slice (some ⟨g,2*x.1*2,none⟩) (pG m x.1) (pG m x.1)]
theorem agi(n:Nat)(az:1<=n)(l ck iw n₀ g m c:Nat)(WH:m<=c)(hm:m<=1000)(J uZ:List (p5 m)->ai->Prop)
  (vw:∀pre x W,J pre W->pre.length<(m+1)/2->YieldAt Fence.wide (n-1) prog l (p5.enc g m x) W λe bc=>
   (e=.returned (.bool true)/\J (pre++[x]) bc/\nJ n₀ ck iw W bc)\/(e=.returned (.bool false)/\uZ (pre++[x]) bc))
  (aik:∀pre W,J pre W->J pre W.drew)
  (W:ai) (su:W.cell? ⟨ck,0,none⟩=some (.slice (some ⟨g,0,none⟩) m c)) (A8:W.cell? ⟨iw,0,none⟩=some (.int .i64 2)) (am:J [] W) :
  CallsIn Fence.wide n prog 221 #[.func (.yield l) #[] #[],.pointer (some ⟨ck,0,none⟩),.pointer (some ⟨iw,0,none⟩)] W λe bc=>(∃v,e=.returned v) /\
   ((∃ys,ys.map (·.1)=List.range ((m+1)/2)/\J ys bc)\/(∃pre:List (p5 m),True/\uZ pre bc)):=by
 refine callsIn_of_wp func221 rfl trivial ?_ rfl;simp only[ntmps221,List.size_toArray,b1,length_nil,reduceAdd,reduceSub,Array.replicate_succ,Array.replicate_zero,push_toArray,append_toArray,nil_append,cons_append];gi_wp2
 gi_loopw [4] (λi wr=>∃(k q:Nat) (pre:List (p5 m)),2*k<=m+1/\i=.int .i64 q/\Hid (q=2*k)/\Hid (pre.map (·.1)=List.range k)/\J pre wr/\Hid (nJ n₀ ck iw W wr))
  (λi _=>(m+2-intOf i).toNat)
 case atStart=>exact⟨0,0,[],by omega,rfl,I rfl,I rfl,am,I ⟨⟨Below.refl _ _,rfl⟩,rfl⟩⟩
 case round=>
  obtain⟨k,q,pre,hk,rfl,hq,aw,yV,pJ⟩:=hrel;have cm:pre.length=k:=by
   have:=congrArg List.length aw.out;rw[cQ,length_range]at this;exact this
  have q4:wr.cell? ⟨ck,0,none⟩=some (.slice (some ⟨g,0,none⟩) m c):=(World.cell?_of_block (a:=⟨ck,0,none⟩) pJ.out.1.2).trans su;have om:wr.cell? ⟨iw,0,none⟩=some (.int .i64 2):=(World.cell?_of_block (a:=⟨iw,0,none⟩) pJ.out.2).trans A8;by_cases av:q<m
  .have sG:2*k<m:=by have:=hq.out;omega
   obtain⟨fn,tmps,assign,body,hy,cS⟩:=vw pre ⟨k,sG⟩ wr.drew (aik _ _ yV) (by omega);have kC:(pre++[(⟨k,sG⟩:p5 m)]).map (λx:p5 m=>x.1)=List.range (k+1):=by rw[map_append,aw.out,range_succ];rfl
   have nH:=I kC;unfold p5.enc at hy;dsimp only at hy;rw[<-hq.out]at hy;by_cases af:q+1<m
   .have e2:pG m k=2:=by unfold pG;rw[aA (by have:=hq.out;omega)]
    rw[e2]at hy;clear kC aw su A8;gi_wp2
    have gy:q<=m:=by omega
    have ft:¬c=q:=by omega
    have lT:min 2 ((m-q:Nat):Int)=2:=by omega
    refine wpIn_wide.2 ?_;go_region_held3 (λbc=>bc.cell? ⟨ck,0,none⟩=some (.slice (some ⟨g,0,none⟩) m c)/\bc.cell? ⟨iw,0,none⟩=some (.int .i64 2)) (first | exact⟨q4,om⟩) (fail)
    clear q4 om;rename_i hHeld
    obtain⟨q4,om⟩:=hHeld;gi_wp2
    refine cS.mono ?_;rintro e lE (⟨rfl,DG,kB⟩ | ⟨rfl,hJx3⟩)
    .have d1:lE.cell? ⟨ck,0,none⟩=some (.slice (some ⟨g,0,none⟩) m c):=(World.cell?_of_block (a:=⟨ck,0,none⟩) kB.1.2).trans q4;have d2:lE.cell? ⟨iw,0,none⟩=some (.int .i64 2):=(World.cell?_of_block (a:=⟨iw,0,none⟩) kB.2).trans om;have mu:Hid (nJ n₀ ck iw W lE):=I (pJ.out.t (nJ.t ⟨⟨dQ.drew,rfl⟩,rfl⟩ kB));have r2:=I (show q+2=2*(k+1) by have:=hq.out;omega);clear q4 om cS hy kB pJ hq;gi_wp2
     go_roundw
     case rel=>exact⟨k+1,q+2,_,by omega,by go_num,r2,nH,DG,mu⟩
     case measure=>simp[intOf];omega
    .clear q4 om hy;gi_wp2
     refine bodyPost_ret (results_none rfl _ _ _) rfl ?_;exact⟨⟨_,rfl⟩,.inr ⟨_,trivial,hJx3⟩⟩
   .have e2:pG m k=1:=by unfold pG;rw[ay (by have:=hq.out;omega)]
    rw[e2]at hy;clear kC aw su A8;gi_wp2
    have gy:q<=m:=by omega
    have ft:¬c=q:=by omega
    have lT:min 2 ((m-q:Nat):Int)=1:=by omega
    refine wpIn_wide.2 ?_;go_region_held3 (λbc=>bc.cell? ⟨ck,0,none⟩=some (.slice (some ⟨g,0,none⟩) m c)/\bc.cell? ⟨iw,0,none⟩=some (.int .i64 2)) (first | exact⟨q4,om⟩) (fail)
    clear q4 om;rename_i hHeld
    obtain⟨q4,om⟩:=hHeld;gi_wp2
    refine cS.mono ?_;rintro e lE (⟨rfl,DG,kB⟩ | ⟨rfl,hJx3⟩)
    .have d1:lE.cell? ⟨ck,0,none⟩=some (.slice (some ⟨g,0,none⟩) m c):=(World.cell?_of_block (a:=⟨ck,0,none⟩) kB.1.2).trans q4;have d2:lE.cell? ⟨iw,0,none⟩=some (.int .i64 2):=(World.cell?_of_block (a:=⟨iw,0,none⟩) kB.2).trans om;have mu:Hid (nJ n₀ ck iw W lE):=I (pJ.out.t (nJ.t ⟨⟨dQ.drew,rfl⟩,rfl⟩ kB));have r2:=I (show q+2=2*(k+1) by have:=hq.out;omega);clear q4 om cS hy kB pJ hq;gi_wp2
     go_roundw
     case rel=>exact⟨k+1,q+2,_,by omega,by go_num,r2,nH,DG,mu⟩
     case measure=>simp[intOf];omega
    .clear q4 om hy;gi_wp2
     refine bodyPost_ret (results_none rfl _ _ _) rfl ?_;exact⟨⟨_,rfl⟩,.inr ⟨_,trivial,hJx3⟩⟩
  .have sG:k=(m+1)/2:=by have:=hq.out;omega
   have kC:=aw.out;rw[sG]at kC;have nH:=I kC;clear kC aw su A8 pJ;gi_wp2
   go_end0
   exact⟨⟨_,rfl⟩,.inl ⟨pre,nH,yV⟩⟩
theorem agj(n:Nat)(A:a7)(m c:Nat)(w:ai) :
  CallsIn Fence.wide n prog 207 #[.slice A m c,.int .i64 2] w λe w'=>e=.returned (.func (.func 221) #[] #[.pointer (some ⟨w.heap.size,0,none⟩),.pointer (some ⟨w.heap.size+1,0,none⟩)])/\w'=(w.alloc (.cells #[.slice A m c] 226)).alloc (.cells #[.int .i64 2] 3):=by
 refine callsIn_of_wp func207 rfl trivial ?_ rfl;simp only[ntmps207,List.size_toArray,b1,length_nil,reduceAdd,reduceSub,Array.replicate_succ,Array.replicate_zero,push_toArray,append_toArray,nil_append,cons_append];gi_wp2
 go_ret;exact⟨rfl,rfl⟩
theorem agk(n:Nat)(az:1<=n)(n₀ ck iw g m c:Nat)(WH:m<=c)(hm:m<=1000)(w:ai)(su:ck<w.heap.size)(A8:iw<w.heap.size)
  (hc:w.cell? ⟨ck,0,none⟩=some (.slice (some ⟨g,0,none⟩) m c)) (aG:w.cell? ⟨iw,0,none⟩=some (.int .i64 2)) :
  SeqStopsK Fence.wide n prog 221 #[.pointer (some ⟨ck,0,none⟩),.pointer (some ⟨iw,0,none⟩)] (p5.enc g m) (nJ n₀ ck iw) (λys=>ys.map (·.1)=List.range ((m+1)/2)) (λ_=>True) ((m+1)/2) w:=λl J uZ W bg aij _ vw am=>
 agi n az l ck iw n₀ g m c WH hm J uZ vw (λpre W h=>aij pre W _ none h (nR (dl W none)) (λr e=>by cases e)) W ((bg.cell (p:=⟨ck,0,none⟩) su).trans hc) ((bg.cell (p:=⟨iw,0,none⟩) A8).trans aG) am
attribute [local go_sem] Oper.semAt_some
theorem B0{w w':ai}{base n size:Nat}{e:TypeId}{v:Value}{xs:b3}(h:w.ownsRow base e size v n xs)(aD:w.grownBy w' none):w'.ownsRow base e size v n xs:=
 h.kept aD (by
  rcases h.2 with⟨rfl,_⟩ | ⟨g,cap,fg,rfl,_⟩
  .exact .inl rfl
  .exact .inr (by simp[Value.ownBlock]))
theorem akY{w:ai}{base n:Nat}{v:Value}{l:ae}(h:w.ownsRow base 3 1 v n (aM l))(az:0<n):∃g cap post,v=.slice (some ⟨g,0,none⟩) n cap/\base<=g/\Row w g 3 (aM l++post):=by
 rcases h.2 with⟨_,am⟩ | ⟨g,cap,fg,rfl,ak,aD,qv,hj,hcs,aC⟩
 .omega
 .refine⟨g,cap,fg.toList.drop (n*1),rfl,ak,?_⟩;unfold Row;rw[<-aC,gA,Array.toArray_toList];exact aD
theorem k6.cG{w w':ai}{T:List bn}{row:Option Nat}(h:k6 w T)(aD:w.grownBy w' row)(aj:∀b,row=some b->∃o:Obj,w.heap[b]?=some o/\∀ag,o≠.cells ag 3 (0,0)):k6 w' T:=λt aC=>by
 obtain⟨post,hrow⟩:=h t aC;refine⟨post,hrow.keep (aD.block _ hrow.lt (λe=>?_))⟩;obtain⟨o,b8,az⟩:=aj _ e.symm;unfold Row at hrow;rw[b8]at hrow;injection hrow with hrow
 exact az _ hrow
theorem anl{w:ai}{base n size:Nat}{e:TypeId}{v:Value}{xs:b3}(h:w.ownsRow base e size v n xs)(he:e≠3):∀b,v.ownBlock=some b->∃o:Obj,w.heap[b]?=some o/\∀ag,o≠.cells ag 3 (0,0):=λb ak=>by
 rcases h.2 with⟨rfl,_⟩ | ⟨g,cap,fg,rfl,_,aD,_⟩
 .cases ak
 .simp only[Value.ownBlock,Option.some.injEq]at ak;subst ak;exact⟨_,aD,λag e'=>by injection e' with _ e2;exact he e2⟩
inductive tr (T:List bn):ae->List bn->Prop
 | nil:tr T [] []
 | take {ks:ae} {P:List bn} {k:Nat} {u:bn}:tr T ks P->2*k+1<T.length->u.1=ao.wt T (2*k)+ao.wt T (2*k+1)->u.2.2=(T[2*k]?.getD hs).2.2++(T[2*k+1]?.getD hs).2.2->tr T (ks++[k]) (P++[u])
 | skip {ks:ae} {P:List bn} {k:Nat}:tr T ks P->¬2*k+1<T.length->tr T (ks++[k]) P
theorem tr.len{T:List bn}{ks:ae}{P:List bn}(h:tr T ks P):P.length<=ks.length:=by
 induction h with
 | nil=>simp
 | take _ _ _ _ ih=>simp only[aY,b1,length_nil];omega
 | skip _ _ ih=>simp only[aY,b1,length_nil];omega
theorem Lh(T:List bn):∀(n:Nat) (P:List bn),tr T (List.range n) P->2*n<=T.length+1->P.length=min n (T.length/2) /\
  ∀x,x<P.length->ao.wt P x=ao.wt T (2*x)+ao.wt T (2*x+1)/\(P[x]?.getD hs).2.2=(T[2*x]?.getD hs).2.2++(T[2*x+1]?.getD hs).2.2
 | 0,P,h,_=>by
  rw[range_zero]at h;generalize Bp:([]:ae)=ks at h;cases h with
  | nil=>exact⟨by simp,λx ah=>by simp at ah⟩
  | take=>simp at Bp
  | skip=>simp at Bp
 | n+1,P,h,az=>by
  rw[range_succ]at h;generalize Bp:List.range n++[n]=ks at h;cases h with
  | nil=>simp at Bp
  | @take ks P k u h1 af aq aJ=>
   obtain⟨rfl,e2⟩:=append_inj' Bp rfl;injection e2 with e2
   subst e2;obtain⟨gO,dc⟩:=Lh T n _ h1 (by omega);refine⟨by rw[aY,gO,b1,length_nil];omega,λx ah=>?_⟩;have UZ:P.length=n:=by omega
   rw[aY,b1,length_nil]at ah;by_cases NR:x<P.length
   .obtain⟨s1,s2⟩:=dc x NR;unfold ao.wt at s1 ⊢;rw[hZ NR];exact⟨s1,s2⟩
   .obtain rfl:x=n:=by omega
    unfold ao.wt at aq ⊢;rw[jk (by omega),show x-P.length=0 by omega];exact⟨aq,aJ⟩
  | skip h1 af=>
   obtain⟨rfl,e2⟩:=append_inj' Bp rfl;injection e2 with e2
   subst e2;obtain⟨gO,dc⟩:=Lh T n _ h1 (by omega);exact⟨by rw[gO];omega,dc⟩
def Gl(T:List bn)(m B:Nat)(vs:Value)(w:ai)(pre:List (p5 m))(W:ai):Prop:=
 (∃v P,Boxed W B 226 v/\W.ownsRow B 231 2 v P.length (cn P)/\tr T (pre.map (·.1)) P/\k6 W P)/\(Boxed W (B+1) 226 vs/\Boxed W (B+2) 3 (.int .i64 2))/\Below B w W
theorem ans(T:List bn)(m B:Nat)(vs:Value)(w:ai)(bu:B=w.heap.size):OwnFrom (B+3) (Gl T m B vs w):=by
 rintro pre W bc row ⟨⟨v,P,h1,af,aq,aJ⟩,⟨aR,cg⟩,c7⟩ aD aj;have aX:∀{b:Nat} {t:TypeId} {u:Value},Boxed W b t u->some b≠row:=λak e=>by
  obtain⟨_,o,b8,hc⟩:=aj _ e.symm;rw[show W.heap[_]?=_ from ak]at b8;cases b8
  cases hc
 refine⟨⟨v,P,h1.kept aD (aX h1),af.kept aD ?_,aq,aJ.cG aD λb e=>?_⟩,⟨aR.kept aD (aX aR),cg.kept aD (aX cg)⟩,c7.grown aD (by rw[bu];exact(bu▸c7).size) λr e=>by have:=(aj r e).1;omega⟩
 .rcases af.2 with⟨rfl,_⟩ | ⟨g,cap,fg,rfl,_,lM,_⟩
  .exact .inl rfl
  .refine .inr λe'=>?_
   obtain⟨_,o,b8,hc⟩:=aj g (by simpa [Value.ownBlock]using e'.symm);rw[lM]at b8;cases b8
   cases hc
 .obtain⟨_,o,b8,hc⟩:=aj b e;exact⟨o,b8,λag e'=>by rw[e']at hc;cases hc⟩
theorem Is{T:List bn}{m B:Nat}{vs:Value}{w:ai}{pre:List (p5 m)}{k:Nat}{hk:2*k<m}{W fv fm:ai}{v:Value}{P:List bn}{u:bn}{gK iB:Nat}{qD:Obj}{news post:b3}
  (bu:B=w.heap.size) (h1:Boxed W B 226 v) (af:W.ownsRow B 231 2 v P.length (cn P)) (aq:tr T (pre.map (·.1)) P) (aJ:k6 W P) (aR:Boxed W (B+1) 226 vs) (cg:Boxed W (B+2) 3 (.int .i64 2)) (c7:Below B w W)
  (sG:2*k+1<T.length) (hw:u.1=ao.wt T (2*k)+ao.wt T (2*k+1)) (ap:u.2.2=(T[2*k]?.getD hs).2.2++(T[2*k+1]?.getD hs).2.2) (az:cn [u]=news)
  (a8:Below W.heap.size W fv) (j6:Row fv u.2.1.1 3 (aM u.2.2++post)) (hown:fm.ownsRow B 231 2 (.slice (some ⟨gK,0,none⟩) (P.length+1) iB) (P.length+1) (cn P++news)) (cP:(fv.alloc qD).grownBy fm v.ownBlock) :
  (fm.cell? ⟨B,0,none⟩=some v/\fm.frozen? ⟨B,0,none⟩=false)/\KeepsFrom (B+3) W (fm.setCell ⟨B,0,none⟩ (.slice (some ⟨gK,0,none⟩) (P.length+1) iB))/\nJ B (B+1) (B+2) W (fm.setCell ⟨B,0,none⟩ (.slice (some ⟨gK,0,none⟩) (P.length+1) iB)) /\
   Gl T m B vs w (pre++[⟨k,hk⟩]) (fm.setCell ⟨B,0,none⟩ (.slice (some ⟨gK,0,none⟩) (P.length+1) iB)):=by
 have cA:=dr a8 none;have l6:B<=W.heap.size:=by rw[bu];exact(bu▸c7).size
 have sM:=B0 af cA;have aF:=h1.kept cA (by simp);have e5:=aR.kept cA (by simp);have gR:=cg.kept cA (by simp);obtain⟨bf,bM,ev,gx,qA⟩:=aF.appended (by decide) sM (du l6 a8.size) bh hown cP;have oy:=grownBy_setCell' fm B (.slice (some ⟨gK,0,none⟩) (P.length+1) iB);have f5:=((e5.alloc qD).kept cP (e5.not_row (by decide) sM)).kept oy (by simp);have f6:=((gR.alloc qD).kept cP (gR.not_row (by decide) sM)).kept oy (by simp);have Vz:Below B W (fm.setCell ⟨B,0,none⟩ (.slice (some ⟨gK,0,none⟩) (P.length+1) iB)):=(a8.mono l6).trans qA;have ub:W.grownBy (fv.alloc qD) none:=iD cA qD;have xt:∀b,(some B:Option Nat)=some b->∃o:Obj,fm.heap[b]?=some o/\∀ag,o≠.cells ag 3 (0,0):=λb e=>by
  injection e with e
  subst e;exact⟨_,bf,λag e'=>by injection e' with _ e2;exact absurd e2 (by decide)⟩
 refine⟨⟨bf.cell,bf.frozen⟩,(KeepsFrom.of_grownBy cA (by simp)).trans (gx.from _),⟨⟨Vz,f5.trans aR.symm⟩,f6.trans cg.symm⟩,⟨_,P++[u],bM,?_,?_,λt aC=>?_⟩,⟨f5,f6⟩,c7.trans Vz⟩
 .rw[aY,O0,az];exact ev
 .rw[map_append];exact .take aq sG hw ap
 .have D4:=anl (B0 sM (iD (dl fv none) qD)) (by decide);rcases List.mem_append.1 aC with aC | aC
  .exact(((aJ.cG ub (λb e=>by cases e)).cG cP D4).cG oy xt) t aC
  .simp only[mem_singleton]at aC;subst aC;have jB:k6 fv [t]:=λFk xG=>by
    simp only[mem_singleton]at xG;subst xG;exact⟨post,j6⟩
   exact(((jB.cG (iD (dl fv none) qD) (λb e=>by cases e)).cG cP D4).cG oy xt) t (List.mem_singleton.2 rfl)
theorem ant:SQ:=by
 intro w g cap T post af cp Vd hj bI hrow XO;obtain⟨i0,ax,bB,bK,bw⟩:=info_parts HV;obtain⟨m,hm⟩:∃m,m=T.length:=⟨_,rfl⟩;rw[<-hm]at af cp Vd ⊢;have ci:=I hm;have eT:=I bI;have da:=I hrow;have ad2:=I XO;clear hm bI hrow XO;refine(callsIn_wide (n:=4)).1 ?_;refine callsIn_of_wp_marks func175 rfl trivial ?_ rfl;simp only[ntmps175,List.size_toArray,b1,length_nil,reduceAdd,reduceSub,Array.replicate_succ,Array.replicate_zero,push_toArray,append_toArray,nil_append,cons_append];gi_wp2_with fail
 refine⟨trivial,(agj 3 (some ⟨g,0,none⟩) m cap _).mono ?_⟩;rintro e w' ⟨rfl,ov⟩;obtain⟨B,bu⟩:∃B,B=w.heap.size:=⟨_,rfl⟩;have sT:w'.heap.size=B+3:=by rw[ov,bu];simp
 have cs:w.grownBy w' none:=by rw[ov];exact iD (iD (iD (dl _ _) _) _) _
 have d1:Boxed w' B 226 (.slice none 0 0):=by rw[ov,bu];exact((Boxed.new w _ _).alloc _).alloc _
 have d2:Boxed w' (B+1) 226 (.slice (some ⟨g,0,none⟩) m cap):=by
  have h:=Boxed.new (w.alloc (.cells #[.slice none 0 0] 226)) 226 (.slice (some ⟨g,0,none⟩) m cap);rw[World.size_alloc]at h;rw[ov,bu];exact h.alloc _
 have d3:Boxed w' (B+2) 3 (.int .i64 2):=by
  have h:=Boxed.new ((w.alloc (.cells #[.slice none 0 0] 226)).alloc (.cells #[.slice (some ⟨g,0,none⟩) m cap] 226)) 3 (.int .i64 2);rw[World.size_alloc,World.size_alloc]at h;rw[ov,bu];exact h
 have bz:Below B w w':=by rw[bu];exact k8 cs
 have acl:=I d1;have Qs:=I d2;have Qt:=I d3;have bE:=I bz;have jB:(w.alloc (.cells #[.slice none 0 0] 226)).heap.size=B+1:=by rw[World.size_alloc,bu]
 rw[jB,<-bu];have dN:=I bu;clear ov cs d1 d2 d3 bz jB bu;gi_wp2_with fail
 refine wpIn_rangeFunc_ownG (N:=(m+1)/2) (w0:=w') rfl (by omega) (gf:=221) (lb:=#[.pointer (some ⟨B+1,0,none⟩),.pointer (some ⟨B+1+1,0,none⟩)]) rfl trivial (enters_of func221 (by kernel_rfl) rfl)
  (agk 3 (by omega) B (B+1) (B+2) g m cap Vd cp w' (by omega) (by omega) Qs.out.cell Qt.out.cell) (λh k=>nJ.t h k) (nJ.b (by omega) (by omega) (by omega)) dQ (λ_=>rfl)
  (Gl T m B (.slice (some ⟨g,0,none⟩) m cap) w) (λ_ _ _=>False)
  (by rw[sT];exact ans T m B _ w dN) (λ_ _ _ _ _ ap _ _=>ap)
  ⟨⟨_,[],acl.out,World.ownsRow_nil _ _ _ _,.nil,λt aC=>by simp at aC⟩,⟨Qs.out,Qt.out⟩,bE.out⟩
  (λx=>{tmps:=#[.slice (some ⟨g,0,none⟩) m cap,undef,.slice none 0 0,.pointer (some ⟨B,0,none⟩),.slice (some ⟨g,2*x.1*2,none⟩) (pG m x.1) (pG m x.1),.slice (some ⟨g,0,none⟩) m cap,.func (.func 221) #[] #[.pointer (some ⟨B+1,0,none⟩),.pointer (some ⟨B+1+1,0,none⟩)],.slice (some ⟨g,2*x.1*2,none⟩) (pG m x.1) (pG m x.1),undef,undef,undef,undef,undef,undef,undef,undef,undef,undef,undef,undef,undef,undef,undef,undef,undef,undef,undef,undef,undef,undef,undef,undef,undef,undef,undef],defers:=[]}) ?assign ?body ?done ?stop
 case assign=>
  intro l x W K hK;unfold p5.enc;gi_wp2
  exact hK
 case body=>
  rintro l pre ⟨k,hk⟩ W ⟨⟨v,P,h1,tR,aq,aJ⟩,⟨aR,cg⟩,c7⟩ hlen;dsimp only;rw[sT];have yX:=aq.len;rw[cQ]at yX;by_cases sG:2*k+1<m
  .have e2:pG m k=2:=by unfold pG;rw[aA sG]
   rw[e2];have aj:=da.out.below (dN.out▸c7);obtain⟨a0,ie⟩:=B1 aj (bH (show 2*k<T.length by have:=ci.out;omega));obtain⟨bD,bP⟩:=B1 aj (bH (show 2*k+1<T.length by have:=ci.out;omega));obtain⟨u1,HR⟩:∃u1,u1=T[2*k]'(by have:=ci.out;omega):=⟨_,rfl⟩;obtain⟨u2,sY⟩:∃u2,u2=T[2*k+1]'(by have:=ci.out;omega):=⟨_,rfl⟩;rw[<-HR]at a0 ie;rw[<-sY]at bD bP;have l8:u1∈T:=by rw[HR];exact b7 _
   have ho:u2∈T:=by rw[sY];exact b7 _
   have aZ:T[2*k]?.getD hs=u1:=by rw[HR,bH (by have:=ci.out;omega),b6]
   have bl:T[2*k+1]?.getD hs=u2:=by rw[sY,bH (by have:=ci.out;omega),b6]
   have hd:ao.wt T (2*k)=u1.1:=by unfold ao.wt;rw[aZ]
   have nv:ao.wt T (2*k+1)=u2.1:=by unfold ao.wt;rw[bl]
   obtain⟨gl,kn,je⟩:=eT.out u1 l8;obtain⟨z2,ko,iO⟩:=eT.out u2 ho;have NC:=ad2.out.below (dN.out▸c7);obtain⟨awW,gO⟩:=NC u1 l8;obtain⟨EZ,dc⟩:=NC u2 ho;have KP:=I gO;have KQ:=I dc;obtain⟨a,⟨g1,c1⟩,ca⟩:=u1;obtain⟨b,⟨g2,c2⟩,cT⟩:=u2;dsimp only[pX]at a0 ie bD bP gl kn je z2 ko iO hd nv KP KQ;have gT:(a+b,(g1,c1),ca++cT).2.2=(T[2*k]?.getD hs).2.2++(T[2*k+1]?.getD hs).2.2:=by rw[aZ,bl]
   have hS:Hid (ca++cT=(T[2*k]?.getD hs).2.2++(T[2*k+1]?.getD hs).2.2):=I gT;have Gh:Hid (a+b=ao.wt T (2*k)+ao.wt T (2*k+1)):=I (by rw[hd,nv]);rw[show(2*k+1)*2=2*k*2+2 by omega]at bD bP;clear aj HR sY l8 ho aZ bl hd nv NC gO dc gT e2;generalize 2*k*2=off at *;obtain⟨b4,iZ⟩:∃b4,b4=ca.length:=⟨_,rfl⟩;obtain⟨bT,lk⟩:∃bT,bT=cT.length:=⟨_,rfl⟩;rw[<-iZ]at ie kn je;rw[<-lk]at bP ko iO;have c0:=h1.cell;obtain⟨O7,rq⟩:∃O7,O7=P.length:=⟨_,rfl⟩;have awc:O7<=500:=by omega
   have H1:=I h1;have dk:=I tR;have gD:=I aq;have nD:=I aJ;have p6:=I aR;have ye:=I cg;have Ad:=I c7;have l6:B<=W.heap.size:=by have:=h1.lt;omega
   have hcon:Calls prog 208 #[.slice (some ⟨W.heap.size,0,none⟩) 2 2] (W.drew.alloc (.cells #[.slice (some ⟨g1,0,none⟩) b4 c1,.slice (some ⟨g2,0,none⟩) bT c2] 112)) λe w'=>∃g4 cap4,e=.returned (.slice (some ⟨g4,0,none⟩) (b4+bT) cap4) /\
     Hid ((∃post,Row w' g4 3 (aM (ca++cT)++post))/\Below W.heap.size W w'):=by
    have dA:Below W.heap.size W (W.drew.alloc (.cells #[.slice (some ⟨g1,0,none⟩) b4 c1,.slice (some ⟨g2,0,none⟩) bT c2] 112)):=(Below.refl _ W).drew.alloc bh _;refine(asf W.heap.size g1 b4 c1 g2 bT c2 ca cT _ (by omega) iZ.symm lk.symm (by omega) (by omega) (Row.new W.drew 112 [.slice (some ⟨g1,0,none⟩) b4 c1,.slice (some ⟨g2,0,none⟩) bT c2])
     (λbc DK j u hu=>?_) (λbc DK j u hu=>?_)).mono ?_
    .rw[AN,(iL (iL KP.out dA) DK).cell j,hZ (List.getElem?_eq_some_iff.1 hu).1];exact hu
    .rw[AN,(iL (iL KQ.out dA) DK).cell j,hZ (List.getElem?_eq_some_iff.1 hu).1];exact hu
    .rintro e w' ⟨u,rfl,hown,ak⟩;obtain⟨g4,cap4,post,hu,_,hrow⟩:=akY hown (by omega);exact⟨g4,cap4,by rw[hu],I ⟨⟨post,hrow⟩,dA.trans (ak.mono dA.size)⟩⟩
   have Ak:=I hcon;have qX:=I iZ;have qY:=I lk;have adM:=I rq;clear h1 tR aq aJ aR cg c7 hcon iZ lk rq KP KQ;gi_wp2
   have HC:g<B:=by rw[dN.out];exact Row.lt da.out
   have hO:Hid (∀bc,Below B W bc->bc.cell? ⟨g,off,none⟩=some (.int .i64 a)/\bc.cell? ⟨g,off+1,none⟩=some (.slice (some ⟨g1,0,none⟩) b4 c1)/\bc.cell? ⟨g,off+2,none⟩=some (.int .i64 b)/\bc.cell? ⟨g,off+2+1,none⟩=some (.slice (some ⟨g2,0,none⟩) bT c2)):=I λbc h=>
    ⟨(h.cell (p:=⟨g,off,none⟩) HC).trans a0,(h.cell (p:=⟨g,off+1,none⟩) HC).trans ie,(h.cell (p:=⟨g,off+2,none⟩) HC).trans bD,(h.cell (p:=⟨g,off+2+1,none⟩) HC).trans bP⟩
   have lX:Hid (∀bc,Below W.heap.size W bc->bc.cell? ⟨B,0,none⟩=some v):=I λbc h=>(h.cell (p:=⟨B,0,none⟩) H1.out.lt).trans c0
   have g6:Hid (∀g4 cap4,cn [(a+b,(g4,cap4),ca++cT)]=[.int .i64 ((a:Int)+b),.slice (some ⟨g4,0,none⟩) (b4+bT) cap4]):=I λg4 cap4=>by
    show [zO _,pX _]=_;simp only[zO,pX,aY,<-qX.out,<-qY.out,Int.natCast_add]
   have av9:P.length<=500:=by have:=adM.out;omega
   have lP:IntKind.i64.wrap ((a:Int)+b)=(a:Int)+b:=IntWalk.i64_in _ (by omega);refine apr (S:=(λbc:ai=>bc.cell? ⟨g,off,none⟩=some (.int .i64 a)/\bc.cell? ⟨g,off+1,none⟩=some (.slice (some ⟨g1,0,none⟩) b4 c1)/\bc.cell? ⟨g,off+2,none⟩=some (.int .i64 b)/\bc.cell? ⟨g,off+2+1,none⟩=some (.slice (some ⟨g2,0,none⟩) bT c2))) (by kernel_rfl) (by kernel_rfl) (λ⟨_,_,h⟩=>h) ⟨a0,ie,bD,bP⟩ (λhHeld=>?_);refine ch 1 {dst:=some 12,op:=.move (.tmp 4),type:=226,pos:= "bound.go:48",after:=#[],guard:=none} ?_ rfl (Or.inl ⟨by rfl,?_⟩) ?_;rotate_left
   ·(intro w hSw;(try dsimp only at hSw);go_simp;(try with_reducible rfl))
   try simp only[bx]
   refine ch 2 {dst:=some 13,op:=.indexAddr 226 (.tmp 12) (.const (.int .i64 0)),type:=0,pos:= "bound.go:48",after:=#[{on:=1,ground:=.data}],guard:=none} ?_ rfl (Or.inl ⟨by rfl,?_⟩) ?_;rotate_left
   ·(intro w hSw;(try dsimp only at hSw);go_simp;(try with_reducible rfl))
   try simp only[bx]
   refine ch 3 {dst:=some 14,op:=.fieldAddr 231 (.tmp 13) 0,type:=0,pos:= "bound.go:48",after:=#[{on:=2,ground:=.data}],guard:=none} ?_ rfl (Or.inl ⟨by rfl,?_⟩) ?_;rotate_left
   ·(intro w hSw;(try dsimp only at hSw);go_simp;(try with_reducible rfl))
   try simp only[bx]
   refine ch 4 {dst:=some 15,op:=.load 3 (.tmp 14),type:=3,pos:= "bound.go:48",after:=#[{on:=3,ground:=.data}],guard:=none} ?_ rfl (Or.inl ⟨by rfl,?_⟩) ?_;rotate_left
   ·(intro w hSw;(try dsimp only at hSw);go_simp;(try with_reducible rfl))
   try simp only[bx]
   refine ch 5 {dst:=some 16,op:=.move (.tmp 4),type:=226,pos:= "bound.go:48",after:=#[],guard:=none} ?_ rfl (Or.inl ⟨by rfl,?_⟩) ?_;rotate_left
   ·(intro w hSw;(try dsimp only at hSw);go_simp;(try with_reducible rfl))
   try simp only[bx]
   refine ch 6 {dst:=some 17,op:=.indexAddr 226 (.tmp 16) (.const (.int .i64 1)),type:=0,pos:= "bound.go:48",after:=#[{on:=5,ground:=.data}],guard:=none} ?_ rfl (Or.inl ⟨by rfl,?_⟩) ?_;rotate_left
   ·(intro w hSw;(try dsimp only at hSw);go_simp;(try with_reducible rfl))
   try simp only[bx]
   refine ch 7 {dst:=some 18,op:=.fieldAddr 231 (.tmp 17) 0,type:=0,pos:= "bound.go:48",after:=#[{on:=6,ground:=.data}],guard:=none} ?_ rfl (Or.inl ⟨by rfl,?_⟩) ?_;rotate_left
   ·(intro w hSw;(try dsimp only at hSw);go_simp;(try with_reducible rfl))
   try simp only[bx]
   refine ch 8 {dst:=some 19,op:=.load 3 (.tmp 18),type:=3,pos:= "bound.go:48",after:=#[{on:=7,ground:=.data}],guard:=none} ?_ rfl (Or.inl ⟨by rfl,?_⟩) ?_;rotate_left
   ·(intro w hSw;(try dsimp only at hSw);go_simp;(try with_reducible rfl))
   try simp only[bx]
   refine ch 9 {dst:=some 20,op:=.binOp .add 3 (.tmp 15) (.tmp 19) 3,type:=3,pos:= "bound.go:48",after:=#[{on:=4,ground:=.data},{on:=8,ground:=.data}],guard:=none} ?_ rfl (Or.inl ⟨by rfl,?_⟩) ?_;rotate_left
   ·(intro w hSw;(try dsimp only at hSw);go_simp;(try with_reducible rfl))
   try simp only[bx]
   refine ch 10 {dst:=some 21,op:=.move (.tmp 4),type:=226,pos:= "bound.go:48",after:=#[],guard:=none} ?_ rfl (Or.inl ⟨by rfl,?_⟩) ?_;rotate_left
   ·(intro w hSw;(try dsimp only at hSw);go_simp;(try with_reducible rfl))
   try simp only[bx]
   refine ch 11 {dst:=some 22,op:=.indexAddr 226 (.tmp 21) (.const (.int .i64 0)),type:=0,pos:= "bound.go:48",after:=#[{on:=10,ground:=.data}],guard:=none} ?_ rfl (Or.inl ⟨by rfl,?_⟩) ?_;rotate_left
   ·(intro w hSw;(try dsimp only at hSw);go_simp;(try with_reducible rfl))
   try simp only[bx]
   refine ch 12 {dst:=some 23,op:=.fieldAddr 231 (.tmp 22) 1,type:=0,pos:= "bound.go:48",after:=#[{on:=11,ground:=.data}],guard:=none} ?_ rfl (Or.inl ⟨by rfl,?_⟩) ?_;rotate_left
   ·(intro w hSw;(try dsimp only at hSw);go_simp;(try with_reducible rfl))
   try simp only[bx]
   refine ch 13 {dst:=some 24,op:=.load 112 (.tmp 23),type:=112,pos:= "bound.go:48",after:=#[{on:=12,ground:=.data}],guard:=none} ?_ rfl (Or.inl ⟨by rfl,?_⟩) ?_;rotate_left
   ·(intro w hSw;(try dsimp only at hSw);go_simp;(try with_reducible rfl))
   try simp only[bx]
   refine ch 14 {dst:=some 25,op:=.move (.tmp 4),type:=226,pos:= "bound.go:48",after:=#[],guard:=none} ?_ rfl (Or.inl ⟨by rfl,?_⟩) ?_;rotate_left
   ·(intro w hSw;(try dsimp only at hSw);go_simp;(try with_reducible rfl))
   try simp only[bx]
   refine ch 15 {dst:=some 26,op:=.indexAddr 226 (.tmp 25) (.const (.int .i64 1)),type:=0,pos:= "bound.go:48",after:=#[{on:=14,ground:=.data}],guard:=none} ?_ rfl (Or.inl ⟨by rfl,?_⟩) ?_;rotate_left
   ·(intro w hSw;(try dsimp only at hSw);go_simp;(try with_reducible rfl))
   try simp only[bx]
   refine ch 16 {dst:=some 27,op:=.fieldAddr 231 (.tmp 26) 1,type:=0,pos:= "bound.go:48",after:=#[{on:=15,ground:=.data}],guard:=none} ?_ rfl (Or.inl ⟨by rfl,?_⟩) ?_;rotate_left
   ·(intro w hSw;(try dsimp only at hSw);go_simp;(try with_reducible rfl))
   try simp only[bx]
   refine ch 17 {dst:=some 28,op:=.load 112 (.tmp 27),type:=112,pos:= "bound.go:48",after:=#[{on:=16,ground:=.data}],guard:=none} ?_ rfl (Or.inl ⟨by rfl,?_⟩) ?_;rotate_left
   ·(intro w hSw;(try dsimp only at hSw);go_simp;(try with_reducible rfl))
   try simp only[bx]
   refine wpAnyH_ready (rs:=[0,18]) (by kernel_rfl) (by simp) ?_;refine AllReadyH.cons rfl (λK hK=>?_) (AllReadyH.cons rfl (λK hK=>?_) AllReadyH.nil)
   .have yQ:=lX.out _ (Below.refl _ W).drew;go_simp;refine hK.out _ _ (hO.out _ ((Below.refl _ W).drew.mono l6)) (λhHeld=>?_);clear hK K
    try simp only[bx]
    clear yQ;refine wpAnyH_ready (rs:=[18]) (by kernel_rfl) (by simp) ?_;refine AllReadyH.cons rfl (λK hK=>?_) AllReadyH.nil;go_simp;refine hK.out _ _ (hO.out _ (((Below.refl _ W).alloc bh _).drew.mono l6)) (λhHeld=>?_);clear hK K
    try simp only[bx]
    refine wpAnyH_ready (rs:=[19]) (by kernel_rfl) (by simp) ?_;refine AllReadyH.cons rfl (λK hK=>?_) AllReadyH.nil;go_simp;refine Ak.out.mono ?_;rintro e fv ⟨g4,cap4,rfl,hh⟩;have j6:Hid (∃post,Row fv g4 3 (aM (ca++cT)++post)):=I hh.out.1;have a8:=I hh.out.2;clear hh;go_simp;refine hK.out _ _ (hO.out _ (a8.out.mono l6)) (λhHeld=>?_);clear hK K
    try simp only[bx]
    refine ch 20 {dst:=some 31,op:=.build 231 #[(0,.tmp 20),(1,.tmp 30)],type:=231,pos:= "bound.go:48",after:=#[{on:=9,ground:=.data},{on:=19,ground:=.data}],guard:=none} ?_ rfl (Or.inl ⟨by rfl,?_⟩) ?_;rotate_left
    ·(intro w hSw;(try dsimp only at hSw);go_simp;(try with_reducible rfl))
    try simp only[bx]
    refine wpAnyH_ready (rs:=[21]) (by kernel_rfl) (by simp) ?_;refine AllReadyH.cons rfl (λK hK=>?_) AllReadyH.nil;go_simp;refine hK.out _ _ (hO.out _ ((a8.out.alloc a8.out.size _).mono l6)) (λhHeld=>?_);clear hK K
    try simp only[bx]
    refine wpAnyH_ready (rs:=[22]) (by kernel_rfl) (by simp) ?_;refine AllReadyH.cons rfl (λK hK=>?_) AllReadyH.nil;have oU:Hid ((fv.alloc (.cells #[.int .i64 ((a:Int)+b),.slice (some ⟨g4,0,none⟩) (b4+bT) cap4] 231)).ownsRow B 231 2 v P.length (cn P)):=I (B0 dk.out (iD (dr a8.out none) _));have hH:Hid (∀(j:Nat) (u:Value),([.int .i64 ((a:Int)+b),.slice (some ⟨g4,0,none⟩) (b4+bT) cap4]:b3)[j]?=some u->(fv.alloc (.cells #[.int .i64 ((a:Int)+b),.slice (some ⟨g4,0,none⟩) (b4+bT) cap4] 231)).cell? ((⟨fv.heap.size,0,none⟩:Addr).add j)=some u):=I (λj u hu=>by
     match j,hu with
     | 0,hu=>simp at hu;subst hu;simp[Addr.add]
     | 1,hu=>simp at hu;subst hu;simp[Addr.add])
    refine step_append_lies (fv.alloc (.cells #[.int .i64 ((a:Int)+b),.slice (some ⟨g4,0,none⟩) (b4+bT) cap4] 231)) (by rfl) _ _ _ (by rfl) B 231 i0 (.agg #[.int .i64 0,.slice none 0 0]) 2 32 underlying226 ax bB bK bw rfl (by omega) v P.length (cn P) (by rfl) oU.out ⟨fv.heap.size,0,none⟩ 1 1 [.int .i64 ((a:Int)+b),.slice (some ⟨g4,0,none⟩) (b4+bT) cap4] (by rfl) (by rfl) hH.out (by intro u hu;simp at hu;rcases hu with rfl | rfl<;>rfl) (by omega) (by unfold maxLen;omega) (by omega) (by have:=a8.out.size;simp;omega) (fv.heap.size+1) (by simp) ?_;intro gK iB fm ma j4 ra zn;obtain⟨O9,sP⟩:=j6.out;obtain⟨⟨om,LG⟩,E⟩:=Is (u:=(a+b,(g4,cap4),ca++cT)) (hk:=hk) dN.out H1.out dk.out gD.out nD.out p6.out ye.out Ad.out (by have:=ci.out;omega) Gh.out hS.out (g6.out g4 cap4) a8.out sP ma j4;have lx:=I E;have sy:Below B W fm:=((a8.out.alloc a8.out.size _).mono l6).grown j4 (by have:=a8.out.size;simp;omega) (λq hq=>(oU.out.lt q hq).1);refine hK.out _ _ (hO.out _ sy) (λhHeld=>?_);clear hK K E ma j4 ra zn sP oU hH sy
    try simp only[Act.put,setIfInBounds_toArray]
    refine wpAnyH_ready (rs:=[23]) (by kernel_rfl) (by simp) ?_;refine AllReadyH.cons rfl (λK hK=>?_) AllReadyH.nil;go_simp;refine hK.out _ _ (hO.out _ lx.out.2.1.1.1) (λhHeld=>?_);clear hK K;refine wpAnyH_done (by kernel_rfl) ?_ _;exact lx.out
   .go_simp;refine hK.out _ _ (hO.out _ (((Below.refl _ W).alloc bh _).drew.mono l6)) (λhHeld=>?_);clear hK K
    try simp only[bx]
    refine wpAnyH_ready (rs:=[0,19]) (by kernel_rfl) (by simp) ?_;refine AllReadyH.cons rfl (λK hK=>?_) (AllReadyH.cons rfl (λK hK=>?_) AllReadyH.nil)
    .have yQ:=lX.out _ ((Below.refl _ W).alloc bh (.cells #[.slice (some ⟨g1,0,none⟩) b4 c1,.slice (some ⟨g2,0,none⟩) bT c2] 112));go_simp;refine hK.out _ _ (hO.out _ (((Below.refl _ W).alloc bh _).drew.mono l6)) (λhHeld=>?_);clear hK K
     try simp only[bx]
     clear yQ;refine wpAnyH_ready (rs:=[19]) (by kernel_rfl) (by simp) ?_;refine AllReadyH.cons rfl (λK hK=>?_) AllReadyH.nil;go_simp;refine Ak.out.mono ?_;rintro e fv ⟨g4,cap4,rfl,hh⟩;have j6:Hid (∃post,Row fv g4 3 (aM (ca++cT)++post)):=I hh.out.1;have a8:=I hh.out.2;clear hh;go_simp;refine hK.out _ _ (hO.out _ (a8.out.mono l6)) (λhHeld=>?_);clear hK K
     try simp only[bx]
     refine ch 20 {dst:=some 31,op:=.build 231 #[(0,.tmp 20),(1,.tmp 30)],type:=231,pos:= "bound.go:48",after:=#[{on:=9,ground:=.data},{on:=19,ground:=.data}],guard:=none} ?_ rfl (Or.inl ⟨by rfl,?_⟩) ?_;rotate_left
     ·(intro w hSw;(try dsimp only at hSw);go_simp;(try with_reducible rfl))
     try simp only[bx]
     refine wpAnyH_ready (rs:=[21]) (by kernel_rfl) (by simp) ?_;refine AllReadyH.cons rfl (λK hK=>?_) AllReadyH.nil;go_simp;refine hK.out _ _ (hO.out _ ((a8.out.alloc a8.out.size _).mono l6)) (λhHeld=>?_);clear hK K
     try simp only[bx]
     refine wpAnyH_ready (rs:=[22]) (by kernel_rfl) (by simp) ?_;refine AllReadyH.cons rfl (λK hK=>?_) AllReadyH.nil;have oU:Hid ((fv.alloc (.cells #[.int .i64 ((a:Int)+b),.slice (some ⟨g4,0,none⟩) (b4+bT) cap4] 231)).ownsRow B 231 2 v P.length (cn P)):=I (B0 dk.out (iD (dr a8.out none) _));have hH:Hid (∀(j:Nat) (u:Value),([.int .i64 ((a:Int)+b),.slice (some ⟨g4,0,none⟩) (b4+bT) cap4]:b3)[j]?=some u->(fv.alloc (.cells #[.int .i64 ((a:Int)+b),.slice (some ⟨g4,0,none⟩) (b4+bT) cap4] 231)).cell? ((⟨fv.heap.size,0,none⟩:Addr).add j)=some u):=I (λj u hu=>by
      match j,hu with
      | 0,hu=>simp at hu;subst hu;simp[Addr.add]
      | 1,hu=>simp at hu;subst hu;simp[Addr.add])
     refine step_append_lies (fv.alloc (.cells #[.int .i64 ((a:Int)+b),.slice (some ⟨g4,0,none⟩) (b4+bT) cap4] 231)) (by rfl) _ _ _ (by rfl) B 231 i0 (.agg #[.int .i64 0,.slice none 0 0]) 2 32 underlying226 ax bB bK bw rfl (by omega) v P.length (cn P) (by rfl) oU.out ⟨fv.heap.size,0,none⟩ 1 1 [.int .i64 ((a:Int)+b),.slice (some ⟨g4,0,none⟩) (b4+bT) cap4] (by rfl) (by rfl) hH.out (by intro u hu;simp at hu;rcases hu with rfl | rfl<;>rfl) (by omega) (by unfold maxLen;omega) (by omega) (by have:=a8.out.size;simp;omega) (fv.heap.size+1) (by simp) ?_;intro gK iB fm ma j4 ra zn;obtain⟨O9,sP⟩:=j6.out;obtain⟨⟨om,LG⟩,E⟩:=Is (u:=(a+b,(g4,cap4),ca++cT)) (hk:=hk) dN.out H1.out dk.out gD.out nD.out p6.out ye.out Ad.out (by have:=ci.out;omega) Gh.out hS.out (g6.out g4 cap4) a8.out sP ma j4;have lx:=I E;have sy:Below B W fm:=((a8.out.alloc a8.out.size _).mono l6).grown j4 (by have:=a8.out.size;simp;omega) (λq hq=>(oU.out.lt q hq).1);refine hK.out _ _ (hO.out _ sy) (λhHeld=>?_);clear hK K E ma j4 ra zn sP oU hH sy
     try simp only[Act.put,setIfInBounds_toArray]
     refine wpAnyH_ready (rs:=[23]) (by kernel_rfl) (by simp) ?_;refine AllReadyH.cons rfl (λK hK=>?_) AllReadyH.nil;go_simp;refine hK.out _ _ (hO.out _ lx.out.2.1.1.1) (λhHeld=>?_);clear hK K;refine wpAnyH_done (by kernel_rfl) ?_ _;exact lx.out
    .go_simp;refine Ak.out.mono ?_;rintro e fv ⟨g4,cap4,rfl,hh⟩;have j6:Hid (∃post,Row fv g4 3 (aM (ca++cT)++post)):=I hh.out.1;have a8:=I hh.out.2;clear hh;go_simp;refine hK.out _ _ (hO.out _ (a8.out.mono l6)) (λhHeld=>?_);clear hK K
     try simp only[bx]
     refine ch 20 {dst:=some 31,op:=.build 231 #[(0,.tmp 20),(1,.tmp 30)],type:=231,pos:= "bound.go:48",after:=#[{on:=9,ground:=.data},{on:=19,ground:=.data}],guard:=none} ?_ rfl (Or.inl ⟨by rfl,?_⟩) ?_;rotate_left
     ·(intro w hSw;(try dsimp only at hSw);go_simp;(try with_reducible rfl))
     try simp only[bx]
     refine wpAnyH_ready (rs:=[0,21]) (by kernel_rfl) (by simp) ?_;refine AllReadyH.cons rfl (λK hK=>?_) (AllReadyH.cons rfl (λK hK=>?_) AllReadyH.nil)
     .have yQ:=lX.out _ a8.out;go_simp;refine hK.out _ _ (hO.out _ (a8.out.mono l6)) (λhHeld=>?_);clear hK K
      try simp only[bx]
      clear yQ;refine wpAnyH_ready (rs:=[21]) (by kernel_rfl) (by simp) ?_;refine AllReadyH.cons rfl (λK hK=>?_) AllReadyH.nil;go_simp;refine hK.out _ _ (hO.out _ ((a8.out.alloc a8.out.size _).mono l6)) (λhHeld=>?_);clear hK K
      try simp only[bx]
      refine wpAnyH_ready (rs:=[22]) (by kernel_rfl) (by simp) ?_;refine AllReadyH.cons rfl (λK hK=>?_) AllReadyH.nil;have oU:Hid ((fv.alloc (.cells #[.int .i64 ((a:Int)+b),.slice (some ⟨g4,0,none⟩) (b4+bT) cap4] 231)).ownsRow B 231 2 v P.length (cn P)):=I (B0 dk.out (iD (dr a8.out none) _));have hH:Hid (∀(j:Nat) (u:Value),([.int .i64 ((a:Int)+b),.slice (some ⟨g4,0,none⟩) (b4+bT) cap4]:b3)[j]?=some u->(fv.alloc (.cells #[.int .i64 ((a:Int)+b),.slice (some ⟨g4,0,none⟩) (b4+bT) cap4] 231)).cell? ((⟨fv.heap.size,0,none⟩:Addr).add j)=some u):=I (λj u hu=>by
       match j,hu with
       | 0,hu=>simp at hu;subst hu;simp[Addr.add]
       | 1,hu=>simp at hu;subst hu;simp[Addr.add])
      refine step_append_lies (fv.alloc (.cells #[.int .i64 ((a:Int)+b),.slice (some ⟨g4,0,none⟩) (b4+bT) cap4] 231)) (by rfl) _ _ _ (by rfl) B 231 i0 (.agg #[.int .i64 0,.slice none 0 0]) 2 32 underlying226 ax bB bK bw rfl (by omega) v P.length (cn P) (by rfl) oU.out ⟨fv.heap.size,0,none⟩ 1 1 [.int .i64 ((a:Int)+b),.slice (some ⟨g4,0,none⟩) (b4+bT) cap4] (by rfl) (by rfl) hH.out (by intro u hu;simp at hu;rcases hu with rfl | rfl<;>rfl) (by omega) (by unfold maxLen;omega) (by omega) (by have:=a8.out.size;simp;omega) (fv.heap.size+1) (by simp) ?_;intro gK iB fm ma j4 ra zn;obtain⟨O9,sP⟩:=j6.out;obtain⟨⟨om,LG⟩,E⟩:=Is (u:=(a+b,(g4,cap4),ca++cT)) (hk:=hk) dN.out H1.out dk.out gD.out nD.out p6.out ye.out Ad.out (by have:=ci.out;omega) Gh.out hS.out (g6.out g4 cap4) a8.out sP ma j4;have lx:=I E;have sy:Below B W fm:=((a8.out.alloc a8.out.size _).mono l6).grown j4 (by have:=a8.out.size;simp;omega) (λq hq=>(oU.out.lt q hq).1);refine hK.out _ _ (hO.out _ sy) (λhHeld=>?_);clear hK K E ma j4 ra zn sP oU hH sy
      try simp only[Act.put,setIfInBounds_toArray]
      refine wpAnyH_ready (rs:=[23]) (by kernel_rfl) (by simp) ?_;refine AllReadyH.cons rfl (λK hK=>?_) AllReadyH.nil;go_simp;refine hK.out _ _ (hO.out _ lx.out.2.1.1.1) (λhHeld=>?_);clear hK K;refine wpAnyH_done (by kernel_rfl) ?_ _;exact lx.out
     .go_simp;refine hK.out _ _ (hO.out _ ((a8.out.alloc a8.out.size _).mono l6)) (λhHeld=>?_);clear hK K
      try simp only[bx]
      refine wpAnyH_ready (rs:=[0]) (by kernel_rfl) (by simp) ?_;refine AllReadyH.cons rfl (λK hK=>?_) AllReadyH.nil;have yQ:=lX.out _ (a8.out.alloc a8.out.size (.cells #[.int .i64 ((a:Int)+b),.slice (some ⟨g4,0,none⟩) (b4+bT) cap4] 231));go_simp;refine hK.out _ _ (hO.out _ ((a8.out.alloc a8.out.size _).mono l6)) (λhHeld=>?_);clear hK K
      try simp only[bx]
      clear yQ;refine wpAnyH_ready (rs:=[22]) (by kernel_rfl) (by simp) ?_;refine AllReadyH.cons rfl (λK hK=>?_) AllReadyH.nil;have oU:Hid ((fv.alloc (.cells #[.int .i64 ((a:Int)+b),.slice (some ⟨g4,0,none⟩) (b4+bT) cap4] 231)).ownsRow B 231 2 v P.length (cn P)):=I (B0 dk.out (iD (dr a8.out none) _));have hH:Hid (∀(j:Nat) (u:Value),([.int .i64 ((a:Int)+b),.slice (some ⟨g4,0,none⟩) (b4+bT) cap4]:b3)[j]?=some u->(fv.alloc (.cells #[.int .i64 ((a:Int)+b),.slice (some ⟨g4,0,none⟩) (b4+bT) cap4] 231)).cell? ((⟨fv.heap.size,0,none⟩:Addr).add j)=some u):=I (λj u hu=>by
       match j,hu with
       | 0,hu=>simp at hu;subst hu;simp[Addr.add]
       | 1,hu=>simp at hu;subst hu;simp[Addr.add])
      refine step_append_lies (fv.alloc (.cells #[.int .i64 ((a:Int)+b),.slice (some ⟨g4,0,none⟩) (b4+bT) cap4] 231)) (by rfl) _ _ _ (by rfl) B 231 i0 (.agg #[.int .i64 0,.slice none 0 0]) 2 32 underlying226 ax bB bK bw rfl (by omega) v P.length (cn P) (by rfl) oU.out ⟨fv.heap.size,0,none⟩ 1 1 [.int .i64 ((a:Int)+b),.slice (some ⟨g4,0,none⟩) (b4+bT) cap4] (by rfl) (by rfl) hH.out (by intro u hu;simp at hu;rcases hu with rfl | rfl<;>rfl) (by omega) (by unfold maxLen;omega) (by omega) (by have:=a8.out.size;simp;omega) (fv.heap.size+1) (by simp) ?_;intro gK iB fm ma j4 ra zn;obtain⟨O9,sP⟩:=j6.out;obtain⟨⟨om,LG⟩,E⟩:=Is (u:=(a+b,(g4,cap4),ca++cT)) (hk:=hk) dN.out H1.out dk.out gD.out nD.out p6.out ye.out Ad.out (by have:=ci.out;omega) Gh.out hS.out (g6.out g4 cap4) a8.out sP ma j4;have lx:=I E;have sy:Below B W fm:=((a8.out.alloc a8.out.size _).mono l6).grown j4 (by have:=a8.out.size;simp;omega) (λq hq=>(oU.out.lt q hq).1);refine hK.out _ _ (hO.out _ sy) (λhHeld=>?_);clear hK K E ma j4 ra zn sP oU hH sy
      try simp only[Act.put,setIfInBounds_toArray]
      refine wpAnyH_ready (rs:=[23]) (by kernel_rfl) (by simp) ?_;refine AllReadyH.cons rfl (λK hK=>?_) AllReadyH.nil;go_simp;refine hK.out _ _ (hO.out _ lx.out.2.1.1.1) (λhHeld=>?_);clear hK K;refine wpAnyH_done (by kernel_rfl) ?_ _;exact lx.out
  .have e2:pG m k=1:=by unfold pG;rw[ay sG]
   rw[e2];have m8:Hid (KeepsFrom (B+3) W W/\nJ B (B+1) (B+2) W W/\Gl T m B (.slice (some ⟨g,0,none⟩) m cap) w (pre++[⟨k,hk⟩]) W):=I
    ⟨KeepsFrom.refl _ _,⟨⟨Below.refl _ _,rfl⟩,rfl⟩,⟨v,P,h1,tR,by rw[map_append];exact .skip aq (by have:=ci.out;show ¬2*k+1<T.length;omega),aJ⟩,⟨aR,cg⟩,c7⟩
   clear h1 tR aq aJ aR cg c7;gi_wp2
   exact m8.out
 case done=>
  rintro D ys W cR NT ⟨⟨v,P,h1,af,aq,aJ⟩,_,c7⟩ hK;rw[NT]at aq;obtain⟨gO,dc⟩:=Lh T _ P aq (by have:=ci.out;omega);have c1:=h1.cell;have Kn:Hid (w7 T P):=I ⟨by have:=ci.out;omega,λx ah=>(dc x ah).1,λx ah=>(dc x ah).2⟩;have dk:=I af;have nD:=I aJ;have Ad:=I c7;clear af aq aJ c7 gO dc h1;gi_wp2
  refine⟨by simp,.inl ⟨_,_,rfl,run_takeDeferred hK,?_⟩⟩;refine⟨_,results_tmp rfl _ _ _,v,P,rfl,Kn,?_,nD.out.cG (grownBy_putObj' W D (.deferred none)) λb e=>?_,?_⟩
  .rw[<-dN.out];exact ownsRow_putObj dk.out _ hK rfl
  .injection e with e
   subst e;exact⟨_,hK,λag e'=>by cases e'⟩
  .rw[<-dN.out];exact Ad.out.trans (belowK_b (w:=w) (by have:=dN.out;omega) W D _ _ (by have:=dN.out;omega) hK rfl rfl)
 case stop=>
  rintro D c pre W _ _ h _;exact h.elim
namespace ao
theorem asu{ag U:ae}(hu:yL ag U)(tS:ag.length<=256)(hex:∃x∈ag,0<x)(af:(fG ag).length<2):∀x∈U,x<=11:=by
 have h1:=Ou ag hex;obtain⟨c,i,rh⟩:∃c i,fG ag=[(c,i)]:=by
  match h:fG ag with
  | []=>rw[h]at h1;simp at h1
  | [(c,i)]=>exact⟨c,i,rfl⟩
  | _ :: _ :: _=>rw[h]at af;simp only[b1]at af;omega
 have hm:=(pV ag ag.length (c,i)).1 (show(c,i)∈fG ag by rw[rh];simp);simp only at hm;obtain⟨ax,hc,am⟩:=hm;have aF:=hu.cost;have e2:=(abY rh tS).cost;rw[<-e2,GM,GM,rh]at aF;simp only[map_cons,map_nil,sum_cons,sum_nil,ga]at aF;have e3:bZ ((List.replicate ag.length 0).set i 1) i=1:=by
  unfold bZ;rw[getElem?_set_self (by simpa using ax)];rfl
 rw[e3]at aF;have li:0<c:=by omega
 have e4:bZ U i=1:=Nat.eq_of_mul_eq_mul_left li aF;intro x ah;obtain⟨k,hk,rfl⟩:=List.mem_iff_getElem.1 ah;have uc:k<ag.length:=by rw[<-hu.len];exact hk
 by_cases Bo:k=i
 .subst Bo;unfold bZ at e4;rw[bH hk,b6]at e4;omega
 .have aO:¬0<ag[k]?.getD 0:=λh=>by
   have hmem:(ag[k]?.getD 0,k)∈fG ag:=(pV ag ag.length _).2 ⟨uc,rfl,h⟩;rw[rh]at hmem;simp only[mem_singleton]at hmem;injection hmem with _ e
   exact Bo e
  have:=mt (hu.just k uc).1 aO;rw[bH hk,b6]at this;omega
end ao
theorem asn:acw:=by
 intro w A c l hl ak aj cS;refine(asm (λ_=>True) A c l w (by unfold maxLen;omega) aj cS trivial (λag U W _ hl hm hex aj hu=>?_)).mono ?_
 .by_cases af:2<=(fG ag).length
  .exact .inr (asd ant A c ag W hl hm hex af aj)
  .exact .inl (asu hu hl hex (by omega))
 .rintro e w' ⟨v,rfl,B,d,U,rfl,aG,h1,af,aq⟩;rw[cQ]at aG;exact⟨B,d,U,by rw[cQ],aG,h1,af,aq⟩
theorem Oy(l:ae):(l.map λn:Nat=>(n:Int)).map Int.toNat=l:=by
 rw[List.map_map];conv=>rhs;rw[<-List.map_id l]
 apply map_congr_left
 intro x _;simp
def qf(w':ai)(b:Nat)(bs:ae)(e:Ending):Option (ae×Nat)->Prop
 | none=>e=.returned (.tuple #[.string (strOf []),.bool false])
 | some t=>e=.returned (.tuple #[.string (strOf t.1),.bool true])/\bJ w' b (some (bs.drop t.2))
theorem aiT(A:a7)(c:Nat)(U:ae)(w:ai)(bg:fw U)(aj:Reads w A (aM U)) :
  Calls prog 142 #[.slice A U.length c] w λe w'=>∃g,e=.returned (.tuple #[.slice (some ⟨g,0,none⟩) U.length U.length,.bool true])/\Reads w' (some ⟨g,0,none⟩) (aM (lH U))/\w.heap.size<=g/\Below w.heap.size w w':=by
 have hl:=bg.1;have h:=VJ A c (U.map λn:Nat=>(n:Int)) w (by rw[cQ];omega) (by rw[jT];exact aj) ((Ja U).2 bg);rw[cQ,Oy]at h;exact h
theorem amb(b n:Nat)(t:ae)(w:ai)(aC:t.length<=1000)(av:∀x∈t,x<256)(az:n<=1048576)(h:bJ w b (some t)) :
  Calls prog 110 #[.pointer (some ⟨b,0,none⟩),.int .i64 n] w λe w'=>qf w' b t e (fx 2 n t)/\w.grownBy w' (some b):=by
 have aU:=I (ame w b t (by omega) av h);have e2:fx 2 n t=(match jc t with | none=>none | some p=>(nN p.1 (t.drop p.2) n).map λq=>(q.1,p.2+q.2)):=by
  unfold fx;rw[ay (by decide),ay (by decide),aA rfl];rfl
 rw[e2];clear e2 h;have eC:=Pm t;have mg:=Pn t;cases bp:jc t with
 | none=>
  rw[bp]at aU;dsimp only;clear eC mg bp av aC;go_enter func110,ntmps110
  go_wp2_with fail
  refine aU.out.mono ?_;rintro e au ⟨⟨A,c,rfl⟩,aZ⟩;go_wp2;go_ret2;exact⟨rfl,aZ⟩
 | some p=>
  obtain⟨U,bj⟩:=p;have cd:=aU.out;rw[bp]at cd;unfold Gm at cd;dsimp only at cd;replace aU:=I cd
  clear cd;have bg:=mg (U,bj) bp;dsimp only at bg ⊢;have kz:(t.drop bj).length<=1000:=by rw[cC];omega
  have qs:∀x∈t.drop bj,x<256:=jw av bj;have hdd:∀k,(t.drop bj).drop k=t.drop (bj+k):=λk=>by rw[drop_drop]
  have yk:=I hdd;have iz:=I (λW (h:bJ W b (some (t.drop bj)))=>E9 b (some (t.drop bj)) 9223372036854775807 W (by omega) (by omega) ⟨qs,by omega⟩ h);have jG:=I bg;clear eC mg bp av aC bg hdd;generalize t.drop bj=u at *;by_cases hc:0<(aW u).2/\(aW u).1<=u.length-(aW u).2
  .have i7:=ar1 u hc (by omega);have Dr:nN U u n=(oq U ((u.drop (aW u).2).take (aW u).1) n).map λx=>(x,(aW u).2+(aW u).1):=by unfold nN;rw[aA hc]
   rw[i7]at iz;rw[Dr];dsimp only at iz;obtain⟨hU,jO⟩:∃hU,hU=(u.drop (aW u).2).take (aW u).1:=⟨_,rfl⟩;have hL:hU.length<=1000:=by rw[jO,cq,cC];omega
   have mN:∀x∈hU,x<256:=λx ah=>qs x (mem_of_mem_drop (mem_of_mem_take (by rw[jO]at ah;exact ah)))
   rw[<-jO]at iz ⊢;obtain⟨k,hk⟩:∃k,k=(aW u).2+(aW u).1:=⟨_,rfl⟩;rw[<-hk]at iz ⊢;have uL:=I (λW A c (aj:Reads W A (aM U))=>alL A c U hU n W jG.out (by omega) hL mN aj (aiT A c U W jG.out aj));have Hlen:=I (λd (h:oq U hU n=some d)=>(G6 U hU d n mN h).2.2);clear hc i7 Dr jO hL mN hk kz qs;have FO:=I (λW A c bs h1 af=>o3 W A c bs h1 af);generalize strOf hU=aw7 at *;go_enter func110,ntmps110
   go_wp2_with fail
   refine aU.out.mono ?_;rintro e au ⟨⟨A,c,rfl,zx,jP⟩,aZ⟩;have cv:=I aZ;have wT:=I zx;have Rg:=I jP;have tI:=I (iz.out au jP);clear zx aZ aU iz jP;go_wp2_with fail
   refine tI.out.mono ?_;rintro e aB ⟨rfl,gj,bl⟩;have cN:=I (ei cv.out bl);have jZ:=I (gB b _ aB gj);have Sf:=I (apo Rg.out wT.out bl);have kK:=I gj;clear bl gj cv tI wT Rg;go_wp2_with fail
   refine jZ.out.mono ?_;rintro e a1 ⟨rfl,rfl⟩;have wG:=I (uL.out aB A c Sf);clear jZ uL Sf;cases sD:oq U hU n with
   | none=>
    rw[sD]at wG;have hnil:∀W A c,(convert 87 9 (.slice A 0 c)).run prog W=.ok (.string (strOf [])) W:=λW A c=>FO.out W A c [] (by simp) (λh=>absurd rfl h)
    have JY:=I sD;clear Hlen FO sD kK;go_wp2_with fail
    refine wG.out.mono ?_;rintro e bA ⟨⟨p4,c4,rfl⟩,a8⟩;have gQ:=I (ei cN.out (dr a8 (some b)));have hcv:=hnil bA p4 c4;clear a8 cN wG hnil;go_wp2;go_ret2;rw[JY.out];exact⟨rfl,gQ⟩
   | some d=>
    rw[sD]at wG;have VP:∀x∈d,x<256:=λx ah=>gV (Hlen.out d sD x ah) jG.out.1
    have VO:=I (λW A c h=>FO.out W A c d VP h);have JY:=I sD;clear Hlen FO sD VP;have Rh:Hid (bJ aB b (some (t.drop (bj+k)))):=I (by rw[<-yk.out];exact kK);clear kK;go_wp2_with fail
    refine wG.out.mono ?_;rintro e bA ⟨⟨p4,c4,rfl,_,Xc⟩,a8⟩;have hcv:=VO.out bA p4 c4 Xc;have gQ:=I (ei cN.out (dr a8 (some b)));have tw:=I (Rh.out.below a8);clear a8 cN wG VO Xc Rh;generalize XA:strOf d=aaH at *;have adY:=I XA;clear XA;go_wp2;go_ret2;rw[JY.out,<-adY.out];exact⟨⟨rfl,tw⟩,gQ⟩
  .have i7:=ar0 u hc (by omega);have Dr:nN U u n=none:=by unfold nN;rw[ay hc]
   rw[i7]at iz;rw[Dr];dsimp only at iz;rw[map_none];have kL:=I (cZ []);generalize strOf []=aaB at *;clear i7 Dr hc kz qs yk jG;go_enter func110,ntmps110
   go_wp2_with fail
   refine aU.out.mono ?_;rintro e au ⟨⟨A,c,rfl,zx,jP⟩,aZ⟩;have cv:=I aZ;have tI:=I (iz.out au jP);clear zx aZ aU iz jP;go_wp2_with fail
   refine tI.out.mono ?_;rintro e aB ⟨rfl,gj,bl⟩;have cN:=I (ei cv.out bl);have jZ:=I (gB b _ aB gj);clear bl gj cv tI;go_wp2_with fail
   refine jZ.out.mono ?_;rintro e a1 ⟨rfl,rfl⟩;clear jZ;go_wp2;go_ret2;exact⟨rfl,cN⟩
namespace ao
theorem ahW(s U:ae)(h:uE (iC s) U)(am:0<s.length):cB U=U:=by
 have hl:=h.len;rw[GU]at hl;obtain⟨x,ah⟩:∃x,x∈s:=by
  cases s with
  | nil=>simp at am
  | cons x s=>exact⟨x,ea⟩
 have:=x2 s x ah;obtain⟨b,ak,e⟩:=P3 s (by omega);have aw:=h.fit b (by rw[GU];omega) (TY s b ak);refine aaR U ?_;rw[show U.length-1=b by omega];omega
theorem ahV(s U:ae)(h:uE (iC s) U):∀b∈s,0<U[b]?.getD 0:=λb ak=>h.fit b (by rw[GU];exact x2 s b ak) (TY s b ak)
theorem ago(U bs:ae)(h:∀x∈U,x<=11):GH U bs<=11*bs.length:=by
 unfold GH;induction bs with
 | nil=>simp
 | cons b bs ih=>
  have aq:=Dz h b;rw[map_cons,sum_cons,b1];omega
def Ji(s U c:ae):Prop:=fw U/\cB U=U/\q7 U s=some c/\c.length<=100000/\∀x∈c,x<256
theorem ags(s U:ae)(h:uE (iC s) U)(am:0<s.length)(ap:s.length<=10000):∃c,Ji s U c:=by
 obtain⟨t,aC⟩:=Uh U s (ahV s U h);have fj:=Ud U s t aC;have hL:=ago U s h.whole.2.1;refine⟨ph t,h.whole,ahW s U h am,by rw[q7,aC];rfl,by rw[O2];omega,ZQ t⟩
end ao
theorem aiU(A:a7)(c:Nat)(U:ae)(w:ai)(bg:fw U)(aj:Reads w A (aM U)) :
  Calls prog 142 #[.slice A U.length c] w λe w'=>∃g,e=.returned (.tuple #[.slice (some ⟨g,0,none⟩) U.length U.length,.bool true])/\Reads w' (some ⟨g,0,none⟩) (aM (lH U))/\w.heap.size<=g/\Below w.heap.size w w':=by
 have hl:=bg.1;have h:=VJ A c (U.map λn:Nat=>(n:Int)) w (by rw[cQ];omega) (by rw[jT];exact aj) ((Ja U).2 bg);rw[cQ,Oy]at h;exact h
theorem amu(A:a7)(c:Nat)(U:ae)(w:ai)(bg:fw U)(hc:U.length<=c)(aj:Reads w A (aM U)) :
  Calls prog 107 #[.slice A U.length c] w λe w'=>e=.returned (.tuple #[.string (strOf (gY (cB U))),.bool true])/\Below w.heap.size w w':=by
 have hl:=bg.1;have h:=amt w A c (U.map λn:Nat=>(n:Int)) (by rw[cQ];omega) (by rw[cQ];exact hc) (λx ah=>by
  obtain⟨n,az,rfl⟩:=List.mem_map.1 ah;have:=bg.2.1 n az;constructor<;>omega) (by rw[jT];exact aj)
 rw[cQ,Oy,aA ((Ja U).2 bg)]at h;exact h
theorem aso(A:a7)(c:Nat)(s:ae)(w:ai)(am:0<s.length)(ap:s.length<=10000)(av:∀x∈s,x<256)(aj:Reads w A (aM (iC s))) :
  Calls prog 106 #[.slice A (eX s) c] w λe w'=>∃B d U,e=.returned (.tuple #[.slice B (eX s) d,.bool true])/\eX s<=d/\U.length=eX s/\Reads w' B (aM U)/\(∃c,Ji s U c)/\Below w.heap.size w w':=by
 have aC:=uy s av;have h1:=asn w A c (er s) (by rw[tM];omega) (λx ah=>by have:=GQ s x ah;constructor<;>omega) (by unfold er;rw[jT];exact aj) (TT s av (by omega) am);rw[tM,agI]at h1;refine h1.mono ?_;rintro e w' ⟨B,d,U,rfl,aG,bp,aD,ak⟩;exact⟨B,d,U,rfl,aG,by rw[aD.len,GU],bp,ags s U aD am ap,ak⟩
theorem alY(A:a7)(c:Nat)(s:ae)(w:ai)(am:0<s.length)(ap:s.length<=10000)(av:∀x∈s,x<256)(aj:Reads w A (aM (iC s))) :
  Calls prog 68 #[.string (strOf s),.slice A (eX s) c] w λe w'=>(∃U c,Ji s U c/\e=.returned (.tuple #[.string (strOf (ni U c s)),.bool true]))/\Below w.heap.size w w':=by
 have e1:=I (aso A c s w am ap av aj);have hcv:=λW=>oo W s av
 have kL:=I hcv;have C3:∀W,Calls prog 66 #[.int .u64 2,.string (strOf s)] W _:=λW=>Ot 2 s W (by decide) (by omega)
 have Gc:=I C3;have b5:=I av;have bU:=I ap;clear aj av hcv C3 am ap;go_enter func68,ntmps68
 go_wp2_with fail
 refine e1.out.mono ?_;rintro e au ⟨B,d,U,rfl,aG,iE,bp,⟨hU,jO⟩,aH⟩;have FX:=I iE;have htab:=amu B d U au jO.1 (by omega) bp;rw[jO.2.1,iE]at htab;have w1:=I htab;have dB:=I bp;have ix:=I jO;have aK:=I aH;clear bp jO aH htab iE e1 aG;go_wp2_with fail
 refine w1.out.mono ?_;rintro e aB ⟨rfl,aI⟩;obtain⟨a1,cap,eD,hcell,bz⟩:=kL.out aB;have cO:Reads a1 (some ⟨aB.heap.size,0,none⟩) (aN s):=λ_=>⟨_,_,rfl,λj ar=>by
  rw[jn]at ar;rw[eH,hcell j ar,jF s j ar]⟩
 have pS:=c9 (c9 dB.out aI) bz;have henc:=alQ B (some ⟨aB.heap.size,0,none⟩) d cap U s a1 ix.out.1 bU.out b5.out pS cO (aiU B d U a1 ix.out.1 pS);rw[ix.out.2.2.1,FX.out]at henc;unfold Fg at henc;dsimp only at henc;have CB:=I henc;have bE:=I (aK.out.trans ((aI.trans (bz.mono aI.size)).mono aK.out.size));clear aI bz cO pS henc hcell aK w1 dB kL FX;have hL:=ix.out.2.2.2.1;have fj:(gY U).length<=200:=by
  rw[x1];have:=ix.out.1.1;omega
 have BH:=nS s.length (by have:=bU.out;omega);have ef:=I (λW b h=>uA b (2 :: br s.length) (gY U) W (by rw[b1];omega) h);have KC:=I (λW b h=>Jd b (2 :: br s.length++gY U) hU W (by rw[aY,b1];omega) (by omega) h);have xI:=nS hU.length (by omega);have e0:2 :: br s.length++gY U++(br hU.length++hU)=ni U hU s:=by
  unfold ni;simp only[cons_append,dj]
 have hall:∀x∈ni U hU s,x<256:=by
  have h8:=ix.out.1;refine B7 2 _ _ (by decide) (by have:=bU.out;omega) (Di (Fl U h8.2.1 h8.1) (Di (qr _ (by omega)) ix.out.2.2.2.2))
 have hlen:(ni U hU s).length<=1000000:=by
  unfold ni;simp only[b1,aY];omega
 rw[e0]at KC;have fO:=I (λW b h=>wv b (ni U hU s) W (by omega) hall h);clear e0 hall hlen hL fj BH xI bU b5;go_wp2_with fail
 refine CB.out.mono ?_;rintro e bA ⟨rfl,a8⟩;have cx:=b9 bE a8;clear a8 bE CB;go_wp2_with fail
 refine(Gc.out bA).mono ?_;rintro e dG ⟨rfl,jA,cL⟩;have dh:=b9 cx cL;have m7:=I cx.out.size;have na:=I (ef.out dG _ jA);clear jA cL cx ef Gc;generalize bA.heap.size=b at *;go_wp2_with fail
 refine na.out.mono ?_;rintro e dp ⟨rfl,vz,gu⟩;have iP:=I (dh.out.trans (below_grown gu m7.out dh.out.size));have Sw:=I (KC.out dp _ vz);clear vz gu dh na KC;go_wp2_with fail
 refine Sw.out.mono ?_;rintro e dt ⟨rfl,sz,y9⟩;have h2:=I (iP.out.trans (below_grown y9 m7.out iP.out.size));have Sn:=I (fO.out dt _ sz);clear sz y9 iP Sw fO;go_wp2_with fail
 refine Sn.out.mono ?_;rintro e oQ ⟨rfl,lf⟩;have uG:=b9 h2 lf;clear lf h2 Sn;go_wp2;go_ret2;exact⟨⟨U,hU,ix,rfl⟩,uG⟩
theorem alZ(A:a7)(c:Nat)(s:ByteArray)(w:ai) :
  Calls prog 68 #[.string s,.slice A 0 c] w λe w'=>e=.returned (.tuple #[.string (strOf []),.bool false])/\Below w.heap.size w w':=by
 have h:Calls prog 106 #[.slice A 0 c] w _:=asp A c [] w (by unfold maxLen;simp) (λh=>absurd rfl h) (by rintro⟨_,_,x,ah,_⟩;simp at ah);have H:=I h;clear h;go_enter func68,ntmps68
 go_wp2_with fail
 refine H.out.mono ?_;rintro e w' ⟨rfl,rfl⟩;go_wp2;go_ret2;exact⟨rfl,Below.refl _ _⟩
theorem amn(k:Nat)(s:ae)(w:ai)(hk:k<256)(ap:s.length<=10000000) :
  Calls prog 66 #[.int .u64 k,.string (strOf s)] w λe w'=>∃b,e=.returned (.pointer (some ⟨b,0,none⟩))/\fM w' b (k :: br s.length)/\w.heap.size<=b/\Below w.heap.size w w':=
 (Ot k s w hk ap).mono λ_ _ ⟨h1,af,aq⟩=>⟨_,h1,af,Nat.le_refl _,aq⟩
theorem amo(s:ae)(w:ai)(ap:s.length<=10000)(av:∀x∈s,x<256)(h1:gC (er s)=1) :
  Calls prog 37 #[.string (strOf s)] w λe w'=>e=.returned (.string (strOf (Dh s)))/\Below w.heap.size w w':=by
 obtain⟨x,ah,am⟩:=OU s h1;obtain⟨au,cap,eD,hcell,aH⟩:=oo w s av;have cO:Reads au (some ⟨w.heap.size,0,none⟩) (aN s):=λ_=>⟨_,_,rfl,λj ar=>by
  rw[jn]at ar;rw[eH,hcell j ar,jF s j ar]⟩
 have r0:=I (Zt (some ⟨w.heap.size,0,none⟩) cap s au (by omega) av cO);have iG:=λA c W h=>OM A c s W av h
 rw[h1]at iG;have gH:=I iG;have C3:∀W,Calls prog 66 #[.int .u64 1,.string (strOf s)] W _:=λW=>amn 1 s W (by decide) (by omega)
 have Gc:=I C3;have BH:=nS s.length (by omega);have xH:(s.take 1).length<=1:=by rw[cq];omega
 have ef:=I (λW b h=>uA b (1 :: br s.length) (s.take 1) W (by rw[b1];omega) h);have fO:=I (λW b h=>wv b ((1 :: br s.length)++s.take 1) W (by rw[aY,b1];omega) (B7 1 s.length (s.take 1) (by decide) (by omega) (p3 av 1)) h);have e0:(1 :: br s.length)++s.take 1=Dh s:=rfl;rw[e0]at ef fO;have hcut:∀W:ai,(Instr.slice 9 (.string (strOf s)) none (some (.int .i64 1)) none).run prog W=.ok (.string (strOf (s.take 1))) W:=λW=>ti s 1 (by omega) W
 have bI:=cZ s;have aK:=I aH;clear ah hcell cO iG C3 BH xH e0 h1 av aH;generalize Dh s=E at *;generalize strOf (s.take 1)=s1 at *;generalize strOf s=str at *;go_enter func37,ntmps37
 go_wp2_with fail
 refine r0.out.mono ?_;rintro e aB ⟨A,c,rfl,bS,aI⟩;have aV:=b9 aK aI;have hS:=I (gH.out A c aB bS);clear bS aI aK r0 gH eD;go_wp2_with fail
 refine hS.out.mono ?_;rintro e a1 ⟨rfl,bz⟩;have bE:=b9 aV bz;clear bz aV hS;go_upto_region 3 with fail
 refine wp_region_held_drew (S:=(λ_:ai=>True)) (by kernel_rfl) (by trivial) (λhHeld=>?_);refine ch 0 {dst:=some 13,op:=.move (.tmp 0),type:=9,pos:= "lits.go:30",after:=#[],guard:=none} ?_ rfl (Or.inl ⟨by rfl,?_⟩) ?_;rotate_left
 ·(intro w hSw;(try dsimp only at hSw);go_simp;(try with_reducible rfl))
 try simp only[bx]
 refine ch 2 {dst:=some 15,op:=.move (.tmp 0),type:=9,pos:= "lits.go:30",after:=#[],guard:=none} ?_ rfl (Or.inl ⟨by rfl,?_⟩) ?_;rotate_left
 ·(intro w hSw;(try dsimp only at hSw);go_simp;(try with_reducible rfl))
 try simp only[bx]
 refine ch 3 {dst:=some 16,op:=.slice 9 (.tmp 15) none (some (.const (.int .i64 1))) none,type:=9,pos:= "lits.go:30",after:=#[{on:=2,ground:=.data}],guard:=none} ?_ rfl (Or.inl ⟨by rfl,?_⟩) ?_;rotate_left
 ·(intro w hSw;(try dsimp only at hSw);go_simp;(try with_reducible rfl))
 try simp only[bx]
 refine iq 1 {dst:=some 14,op:=.call {callee:=.value (.func 66),args:=#[.const (.int .u64 1),.tmp 13],argTypes:=#[31,9]},type:=63,pos:= "lits.go:30",after:=#[{on:=0,ground:=.data}],guard:=none} rfl (λK hK=>?_);go_simp
 (go_at_call 66;refine(Gc.out _).mono ?_;rintro e bA ⟨b,rfl,nV,ky,a8⟩;have hP:=I (bE.out.drew.trans (a8.mono bE.out.size));have dN:=I (du bE.out.drew.size ky);have kc:=I nV;clear nV a8 ky)
 go_simp;refine hK.out _ _ (by trivial) (λhHeld=>?_);clear hK K
 try simp only[bx]
 refine iq 4 {dst:=some 17,op:=.call {callee:=.value (.func 33),args:=#[.tmp 14,.tmp 16],argTypes:=#[63,9]},type:=63,pos:= "lits.go:30",after:=#[{on:=1,ground:=.data},{on:=3,ground:=.data},{on:=1,ground:=.chain}],guard:=none} rfl (λK hK=>?_);go_simp
 (go_at_call 33;refine(ef.out _ _ kc).mono ?_;rintro e dG ⟨rfl,jA,fp⟩;have rR:=I (hP.out.trans (below_grown fp dN.out hP.out.size));have uF:=I jA;clear jA fp)
 go_simp;refine hK.out _ _ (by trivial) (λhHeld=>?_);clear hK K
 try simp only[bx]
 refine iq 5 {dst:=some 18,op:=.call {callee:=.value (.func 34),args:=#[.tmp 17],argTypes:=#[63]},type:=9,pos:= "lits.go:30",after:=#[{on:=4,ground:=.data},{on:=4,ground:=.chain}],guard:=none} rfl (λK hK=>?_);go_simp
 (go_at_call 34;refine(fO.out _ _ uF).mono ?_;rintro e dp ⟨rfl,fS⟩;have mY:=b9 rR fS;clear fS)
 go_simp;refine hK.out _ _ (by trivial) (λhHeld=>?_);clear hK K
 try simp only[bx]
 refine ch 6 {dst:=some 2,op:=.assign (.tmp 18),type:=9,pos:= "lits.go:30",after:=#[{on:=5,ground:=.data},{on:=5,ground:=.chain},{on:=0,ground:=.phase},{on:=1,ground:=.phase},{on:=2,ground:=.phase},{on:=3,ground:=.phase},{on:=4,ground:=.phase},{on:=5,ground:=.phase}],guard:=none} ?_ rfl (Or.inl ⟨by rfl,?_⟩) ?_;rotate_left
 ·(intro w hSw;(try dsimp only at hSw);go_simp;(try with_reducible rfl))
 try simp only[bx]
 refine wpAnyH_done (by kernel_rfl) ?_ _;go_wp2;go_ret;exact⟨rfl,mY⟩
theorem amr(s:ae)(w:ai)(ap:s.length<=10000)(av:∀x∈s,x<256)(h1:gC (er s)≠1) :
  Calls prog 37 #[.string (strOf s)] w λe w'=>(∃E,yK s E/\e=.returned (.string (strOf E)))/\Below w.heap.size w w':=by
 obtain⟨au,cap,eD,hcell,aH⟩:=oo w s av;have cO:Reads au (some ⟨w.heap.size,0,none⟩) (aN s):=λ_=>⟨_,_,rfl,λj ar=>by
  rw[jn]at ar;rw[eH,hcell j ar,jF s j ar]⟩
 have r0:=I (Zt (some ⟨w.heap.size,0,none⟩) cap s au (by omega) av cO);obtain⟨m,hm⟩:∃m,m=gC (er s):=⟨_,rfl⟩;have iG:=λA c W h=>OM A c s W av h
 rw[<-hm]at h1 iG;have gH:=I iG;have aui:((m:Int) == 1)=false:=cz
 have ef:=I (λW=>amd s W (by omega) av);have R4:=I (aqt s av (by omega));have aK:=I aH;have eO:(s=[]/\eX s=0)\/0<s.length:=by
  cases s with
  | nil=>exact .inl ⟨rfl,rfl⟩
  | cons x s=>exact .inr (by simp)
 have gg:=I (λA c W am h=>alY A c s W am ap av h);have c8:=I (λA c W=>alZ A c (strOf s) W);have bU:=I ap;clear hcell cO iG aH av hm ap;go_enter func37,ntmps37
 go_wp2_with fail
 refine r0.out.mono ?_;rintro e aB ⟨A,c,rfl,bS,aI⟩;have aV:=b9 aK aI;have hS:=I (gH.out A c aB bS);have eA:=I bS;clear bS aI aK r0 gH eD;go_wp2_with fail
 refine hS.out.mono ?_;rintro e a1 ⟨rfl,bz⟩;have bE:=b9 aV bz;have oV:=I (c9 eA.out bz);clear bz aV hS eA h1;go_wp2_with fail
 refine(ef.out a1).mono ?_;rintro e bA ⟨rfl,a8⟩;have cx:=b9 bE a8;have q1:=I (c9 oV.out a8);clear a8 bE ef oV;have akb:=cZ (rC s);have dw:Hid (∃Ac,yK s Ac/\strOf (rC s)=strOf Ac):=I ⟨rC s,R4,rfl⟩;clear R4;generalize Wt:(rC s).length=EI at akb;have FV:=I Wt;clear Wt;generalize strOf (rC s)=aaC at *;rcases eO with⟨_,aC⟩ | am
 .rw[aC];have RX:=I (c8.out A c bA);clear gg c8 q1 aC bU FV;generalize strOf s=str at *;have es:(strOf []).size=0:=cZ [];generalize strOf []=aaB at *;go_wp2_with fail
  refine RX.out.mono ?_;rintro e dG ⟨rfl,cL⟩;have dh:=b9 cx cL;clear cL cx RX;obtain⟨Ac,h1,af⟩:=dw.out;have H1:=I h1;have dk:=I af;clear h1 af dw;go_wp2;go_ret;exact⟨⟨Ac,H1,congrArg (λx=>Ending.returned (Value.string x)) dk⟩,dh⟩
 .have CJ:=I (gg.out A c bA am q1);clear gg c8 q1;go_wp2_with fail
  refine CJ.out.mono ?_;rintro e dG ⟨⟨U,hU,jO,rfl⟩,cL⟩;have dh:=b9 cx cL;have ix:=I jO;have aj9:=cZ (ni U hU s);clear cL cx CJ jO;by_cases hl:(ni U hU s).length<EI
  .have adG:=I (aqo U hU s (by have:=bU.out;omega) ix.out.1 ix.out.2.1 ix.out.2.2.1 (by have:=ix.out.2.2.2.1;omega) ix.out.2.2.2.2 (by rw[FV.out];exact hl));have d1:decide (((ni U hU s).length:Int)<EI)=true:=cl;have d2:decide ((ni U hU s).length<EI)=true:=bG hl;clear hl ix bU FV dw;generalize ni U hU s=E at *;have dk:=I (rfl:strOf E=strOf E);generalize fD:strOf E=Pv at aj9 dk ⊢;have gD:=I fD.symm;clear fD dk;generalize E.length=alH at *;go_wp2;go_ret;exact⟨⟨E,adG,congrArg (λx=>Ending.returned (Value.string x)) gD⟩,dh⟩
  .have d1:decide (((ni U hU s).length:Int)<EI)=false:=aT;have d2:decide ((ni U hU s).length<EI)=false:=bF hl;clear hl ix bU FV;generalize strOf (ni U hU s)=Pv at *;generalize (ni U hU s).length=alH at *;obtain⟨Ac,h1,af⟩:=dw.out;have H1:=I h1;have dk:=I af;clear h1 af dw;go_wp2;go_ret;exact⟨⟨Ac,H1,congrArg (λx=>Ending.returned (Value.string x)) dk⟩,dh⟩
theorem amq(s:ae)(w:ai)(ap:s.length<=10000)(av:∀x∈s,x<256) :
  Calls prog 37 #[.string (strOf s)] w λe w'=>(∃E,yK s E/\e=.returned (.string (strOf E)))/\Below w.heap.size w w':=by
 by_cases h1:gC (er s)=1
 .exact(amo s w ap av h1).mono λe w' ⟨he,ak⟩=>⟨⟨_,aqn s av (by omega) h1,he⟩,ak⟩
 .exact amr s w ap av h1
end Go.Proofs.YtgiicohbigiapaaGreat
