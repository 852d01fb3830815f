/- Contracts. -/
import Derived.Test.YtgiicohbigiapaaGreatOav
import Derived.Test.YtgiicohbigiapaaGreatOax
import Derived.Test.YtgiicohbigiapaaGreatOap
import Derived.Test.YtgiicohbigiapaaGreatOz2
import Derived.Test.YtgiicohbigiapaaGreatOz1
import Derived.Test.YtgiicohbigiapaaGreatOz0
set_option maxHeartbeats 4000000
set_option maxRecDepth 100000
open Go.Proofs.Tryz Go.Proofs.YtgiicohbigiapaaGreat.am List Nat Option
namespace Go.Proofs.YtgiicohbigiapaaGreat
open Go.RowKit Go.Shelf
attribute [local go_sem] Oper.semAt_some
theorem aqg{n l:Nat}{P:Program}{row:String}{args:Array Value}{w:ah}{R:Value->ah->Prop}(h:Rows P row args w R):RowsIn (Fence.wide.inRound l) n P row args w R:=λc ag _=>by
 obtain⟨v,w',cK,ap⟩:=h c ag;exact⟨v,w',cK,stepsIn_wide.2 ap⟩
theorem anD{n l:Nat}{P:Program}{ops:Array Oper}{Q:Exit->Act->ah->Prop}(mU:∀(i:Nat) (o:Oper),ops[i]?=some o->∀c,o.op≠.defer c)(jO:¬LetsOut Q) :
  ∀(L:ae) (a:Act) (w:ah),wpOps P ops Q L a w->wpOpsIn (Fence.wide.inRound l) n P ops Q L a w:=by
 intro L;induction L with
|nil=>exact λa w h=>h
|cons i rest ih=>
  intro a w h;simp only[wpOps]at h;simp only[wpOpsIn];cases b9:ops[i]? with
 |none=>rw[b9]at h;exact ih a w h
 |some o=>
   rw[b9]at h;dsimp only at h ⊢;by_cases hw:Region.wanted o (yielded ops a.tmps)=true
   .rw[aB hw]at h ⊢;rcases h with h|⟨_,h⟩
    .refine⟨λ_ _=>trivial,?_⟩;show o.uponIn _ n P a _ Q ((o.semAt (some l) a.eval).run P w);rw[Oper.semAt_some l _ _ (mU i o b9)];unfold Oper.wp at h;generalize (execOp a.eval o).run P w=r at *;cases r with
    |ok x w'=>
      cases x with
     |value v=>exact ih _ _ h
     |skip=>exact ih _ _ h
     |defer d=>exact ih _ _ h
     |enter f args=>
       refine⟨λaI=>(by cases aI),?_⟩;refine CallsIn.mono (CallsIn.inRound l (callsIn_wide.2 h)) λe o5 he=>?_
       cases e with
      |returned v=>exact ih _ _ he
      |panicked c=>exact he
      |outgrown=>exact he
     |row row args=>exact⟨λaI=>(by cases aI),RowsIn.mono (aqg h) λv o5 he=>ih _ _ he⟩
     |_=>exact h.elim
    |halt x w'=>
      cases x with
     |panic v=>exact h
     |_=>exact h.elim
    .exact absurd h jO
   .rw[az hw]at h ⊢;exact⟨λ_ _=>trivial,ih _ _ h⟩
theorem apN{n l id:Nat}{P:Program}{ops:Array Oper}{Q:Exit->Act->ah->Prop}{S:ah->Prop}{a:Act}{w:ah}(hm:P.follows .mixedOrders=true)(mU:ops.all (λo=>match o.op with|.defer _=>false|_=>true)=true)(jO:¬LetsOut Q)(cD:S w.drew)
  (h:S w.drew->wpAnyH P .any ops Q S ops.size (Array.replicate ops.size false) a w.drew):(Code.region id ops true).wpIn (Fence.wide.inRound l) n P Q a w:=
 wpIn_region_draw λt=>by
  simp only[Region.schedule,hm,Bool.true_or,if_true];refine anD (λi o b9 c hc=>?_) jO _ _ _ (wpAny_sound ops.size t _ a _ (wpAny_of_held _ _ _ _ (h cD)));obtain⟨ay,rfl⟩:=Array.getElem?_eq_some_iff.1 b9;have h1:=Array.all_eq_true.1 mU i ay;rw[hc]at h1;cases h1
def nh(n₀ cm ia:Nat)(A B:ah):Prop:=nR n₀ cm A B/\B.heap[ia]?=A.heap[ia]?
theorem nh.t{n₀ cm ia:Nat}{A B C:ah}(h:nh n₀ cm ia A B)(k:nh n₀ cm ia B C):nh n₀ cm ia A C:=⟨h.1.t k.1,k.2.trans h.2⟩
theorem nh.b{n₀ cm ia:Nat}{w:ah}(aA:n₀<=w.heap.size)(bx:cm<w.heap.size)(ji:ia<w.heap.size)(W:ah)(l:Nat)(o D1:Obj)(hl:w.heap.size<=l)(h:W.heap[l]?=some o)(h1:o.isCells=false)(af:o.isWalk=false):nh n₀ cm ia W (W.putObj l D1):=
 ⟨nR.b aA bx W l o D1 hl h h1 af,World.putObj_heap_other (by omega)⟩
abbrev pP(m:Nat):={k:Nat // 2*k<m}
def po(m k:Nat):Nat:=if 2*k+1<m then 2 else 1
def pP.enc(g m:Nat)(x:pP m):Array Value:=#[.slice (some ⟨g,2*x.1*2,none⟩) (po m x.1) (po m x.1)]
theorem agA(n:Nat)(aA:1<=n)(l cm ia n₀ g m c:Nat)(UM:m<=c)(hm:m<=1000)(J um:List (pP m)->ah->Prop)
  (uN:∀pre x W,J pre W->pre.length<(m+1)/2->YieldAt Fence.wide (n-1) prog l (pP.enc g m x) W λe bb=>
   (e=.returned (.bool true)/\J (pre++[x]) bb/\nh n₀ cm ia W bb)\/(e=.returned (.bool false)/\um (pre++[x]) bb))
  (aiF:∀pre W,J pre W->J pre W.drew)
  (W:ah)(rT:W.cell? ⟨cm,0,none⟩=some (.slice (some ⟨g,0,none⟩) m c))(Ad:W.cell? ⟨ia,0,none⟩=some (.int .i64 2))(ao:J [] W) :
  CallsIn Fence.wide n prog 221 #[.func (.yield l) #[] #[],.pointer (some ⟨cm,0,none⟩),.pointer (some ⟨ia,0,none⟩)] W λe bb=>(∃v,e=.returned v) /\
   ((∃ys,ys.map (·.1)=List.range ((m+1)/2)/\J ys bb)\/(∃pre:List (pP m),True/\um pre bb)):=by
 refine callsIn_of_wp func221 rfl trivial ?_ rfl;simp only[ntmps221,List.size_toArray,bY,length_nil,reduceAdd,reduceSub,Array.replicate_succ,Array.replicate_zero,push_toArray,append_toArray,nil_append,cons_append];gi_wp2
 gi_loopw [4] (λi wr=>∃(k q:Nat) (pre:List (pP m)),2*k<=m+1/\i=.int .i64 q/\Hid (q=2*k)/\Hid (pre.map (·.1)=List.range k)/\J pre wr/\Hid (nh n₀ cm ia W wr))
  (λi _=>(m+2-intOf i).toNat)
 case atStart=>exact⟨0,0,[],by omega,rfl,I rfl,I rfl,ao,I ⟨⟨Below.refl _ _,rfl⟩,rfl⟩⟩
 case round=>
  obtain⟨k,q,pre,hk,rfl,hq,ax,x1,pu⟩:=hrel;have cn:pre.length=k:=by
   have:=congrArg List.length ax.out;rw[cQ,length_range]at this;exact this
  have qD:wr.cell? ⟨cm,0,none⟩=some (.slice (some ⟨g,0,none⟩) m c):=(World.cell?_of_block (a:=⟨cm,0,none⟩) pu.out.1.2).trans rT;have nV:wr.cell? ⟨ia,0,none⟩=some (.int .i64 2):=(World.cell?_of_block (a:=⟨ia,0,none⟩) pu.out.2).trans Ad;by_cases au:q<m
  .have r5:2*k<m:=by have:=hq.out;omega
   obtain⟨fn,tmps,assign,body,hy,cK⟩:=uN pre ⟨k,r5⟩ wr.drew (aiF _ _ x1) (by omega);have kr:(pre++[(⟨k,r5⟩:pP m)]).map (λx:pP m=>x.1)=List.range (k+1):=by rw[map_append,ax.out,range_succ];rfl
   have nf:=I kr;unfold pP.enc at hy;dsimp only at hy;rw[<-hq.out]at hy;by_cases af:q+1<m
   .have e2:po m k=2:=by unfold po;rw[aB (by have:=hq.out;omega)]
    rw[e2]at hy;clear kr ax rT Ad;gi_wp2
    have gp:q<=m:=by omega
    have fl:¬c=q:=by omega
    have lB:min 2 ((m-q:Nat):Int)=2:=by omega
    refine wpIn_wide.2 ?_;go_region_held3 (λbb=>bb.cell? ⟨cm,0,none⟩=some (.slice (some ⟨g,0,none⟩) m c)/\bb.cell? ⟨ia,0,none⟩=some (.int .i64 2)) (first|exact⟨qD,nV⟩) (fail)
    clear qD nV;rename_i hHeld
    obtain⟨qD,nV⟩:=hHeld;gi_wp2
    refine cK.mono ?_;rintro e lj (⟨rfl,CP,kq⟩|⟨rfl,hJx3⟩)
    .have d1:lj.cell? ⟨cm,0,none⟩=some (.slice (some ⟨g,0,none⟩) m c):=(World.cell?_of_block (a:=⟨cm,0,none⟩) kq.1.2).trans qD;have d2:lj.cell? ⟨ia,0,none⟩=some (.int .i64 2):=(World.cell?_of_block (a:=⟨ia,0,none⟩) kq.2).trans nV;have l6:Hid (nh n₀ cm ia W lj):=I (pu.out.t (nh.t ⟨⟨dM.drew,rfl⟩,rfl⟩ kq));have xC:=I (show q+2=2*(k+1) by have:=hq.out;omega);clear qD nV cK hy kq pu hq;gi_wp2
     go_roundw
     case rel=>exact⟨k+1,q+2,_,by omega,by go_num,xC,nf,CP,l6⟩
     case measure=>simp[intOf];omega
    .clear qD nV hy;gi_wp2
     refine bodyPost_ret (results_none rfl _ _ _) rfl ?_;exact⟨⟨_,rfl⟩,.inr ⟨_,trivial,hJx3⟩⟩
   .have e2:po m k=1:=by unfold po;rw[az (by have:=hq.out;omega)]
    rw[e2]at hy;clear kr ax rT Ad;gi_wp2
    have gp:q<=m:=by omega
    have fl:¬c=q:=by omega
    have lB:min 2 ((m-q:Nat):Int)=1:=by omega
    refine wpIn_wide.2 ?_;go_region_held3 (λbb=>bb.cell? ⟨cm,0,none⟩=some (.slice (some ⟨g,0,none⟩) m c)/\bb.cell? ⟨ia,0,none⟩=some (.int .i64 2)) (first|exact⟨qD,nV⟩) (fail)
    clear qD nV;rename_i hHeld
    obtain⟨qD,nV⟩:=hHeld;gi_wp2
    refine cK.mono ?_;rintro e lj (⟨rfl,CP,kq⟩|⟨rfl,hJx3⟩)
    .have d1:lj.cell? ⟨cm,0,none⟩=some (.slice (some ⟨g,0,none⟩) m c):=(World.cell?_of_block (a:=⟨cm,0,none⟩) kq.1.2).trans qD;have d2:lj.cell? ⟨ia,0,none⟩=some (.int .i64 2):=(World.cell?_of_block (a:=⟨ia,0,none⟩) kq.2).trans nV;have l6:Hid (nh n₀ cm ia W lj):=I (pu.out.t (nh.t ⟨⟨dM.drew,rfl⟩,rfl⟩ kq));have xC:=I (show q+2=2*(k+1) by have:=hq.out;omega);clear qD nV cK hy kq pu hq;gi_wp2
     go_roundw
     case rel=>exact⟨k+1,q+2,_,by omega,by go_num,xC,nf,CP,l6⟩
     case measure=>simp[intOf];omega
    .clear qD nV hy;gi_wp2
     refine bodyPost_ret (results_none rfl _ _ _) rfl ?_;exact⟨⟨_,rfl⟩,.inr ⟨_,trivial,hJx3⟩⟩
  .have r5:k=(m+1)/2:=by have:=hq.out;omega
   have kr:=ax.out;rw[r5]at kr;have nf:=I kr;clear kr ax rT Ad pu;gi_wp2
   go_end0
   exact⟨⟨_,rfl⟩,.inl ⟨pre,nf,x1⟩⟩
theorem agB(n:Nat)(A:a7)(m c:Nat)(w:ah) :
  CallsIn Fence.wide n prog 207 #[.slice A m c,.int .i64 2] w λe w'=>e=.returned (.func (.func 221) #[] #[.pointer (some ⟨w.heap.size,0,none⟩),.pointer (some ⟨w.heap.size+1,0,none⟩)])/\w'=(w.alloc (.cells #[.slice A m c] 226)).alloc (.cells #[.int .i64 2] 3):=by
 refine callsIn_of_wp func207 rfl trivial ?_ rfl;simp only[ntmps207,List.size_toArray,bY,length_nil,reduceAdd,reduceSub,Array.replicate_succ,Array.replicate_zero,push_toArray,append_toArray,nil_append,cons_append];gi_wp2
 go_ret;exact⟨rfl,rfl⟩
theorem agC(n:Nat)(aA:1<=n)(n₀ cm ia g m c:Nat)(UM:m<=c)(hm:m<=1000)(w:ah)(rT:cm<w.heap.size)(Ad:ia<w.heap.size)
  (hc:w.cell? ⟨cm,0,none⟩=some (.slice (some ⟨g,0,none⟩) m c))(aI:w.cell? ⟨ia,0,none⟩=some (.int .i64 2)) :
  SeqStopsK Fence.wide n prog 221 #[.pointer (some ⟨cm,0,none⟩),.pointer (some ⟨ia,0,none⟩)] (pP.enc g m) (nh n₀ cm ia) (λys=>ys.map (·.1)=List.range ((m+1)/2)) (λ_=>True) ((m+1)/2) w:=λl J um W bk aiE _ uN ao=>
 agA n aA l cm ia n₀ g m c UM hm J um uN (λpre W h=>aiE pre W _ none h (ns (dg W none)) (λr e=>by cases e)) W ((bk.cell (p:=⟨cm,0,none⟩) rT).trans hc) ((bk.cell (p:=⟨ia,0,none⟩) Ad).trans aI) ao
attribute [local go_sem] Oper.semAt_some
theorem A6{w w':ah}{base n size:Nat}{e:TypeId}{v:Value}{xs:b1}(h:w.ownsRow base e size v n xs)(aF:w.grownBy w' none):w'.ownsRow base e size v n xs:=
 h.kept aF (by
  rcases h.2 with⟨rfl,_⟩|⟨g,cap,eW,rfl,_⟩
  .exact .inl rfl
  .exact .inr (by simp[Value.ownBlock]))
theorem alm{w:ah}{base n:Nat}{v:Value}{l:ae}(h:w.ownsRow base 3 1 v n (aM l))(aA:0<n):∃g cap post,v=.slice (some ⟨g,0,none⟩) n cap/\base<=g/\Row w g 3 (aM l++post):=by
 rcases h.2 with⟨_,ao⟩|⟨g,cap,eW,rfl,ak,aF,qf,gX,hcs,aE⟩
 .omega
 .refine⟨g,cap,eW.toList.drop (n*1),rfl,ak,?_⟩;unfold Row;rw[<-aE,gq,Array.toArray_toList];exact aF
theorem kX.cG{w w':ah}{T:List bu}{row:Option Nat}(h:kX w T)(aF:w.grownBy w' row)(aj:∀b,row=some b->∃o:Obj,w.heap[b]?=some o/\∀ag,o≠.cells ag 3 (0,0)):kX w' T:=λt aE=>by
 obtain⟨post,hrow⟩:=h t aE;refine⟨post,hrow.keep (aF.block _ hrow.lt (λe=>?_))⟩;obtain⟨o,b9,aA⟩:=aj _ e.symm;unfold Row at hrow;rw[b9]at hrow;injection hrow with hrow
 exact aA _ hrow
theorem anJ{w:ah}{base n size:Nat}{e:TypeId}{v:Value}{xs:b1}(h:w.ownsRow base e size v n xs)(he:e≠3):∀b,v.ownBlock=some b->∃o:Obj,w.heap[b]?=some o/\∀ag,o≠.cells ag 3 (0,0):=λb ak=>by
 rcases h.2 with⟨rfl,_⟩|⟨g,cap,eW,rfl,_,aF,_⟩
 .cases ak
 .simp only[Value.ownBlock,Option.some.injEq]at ak;subst ak;exact⟨_,aF,λag e'=>by injection e' with _ e2;exact he e2⟩
inductive sN (T:List bu):ae->List bu->Prop
|nil:sN T [] []
|take {ks:ae} {P:List bu} {k:Nat} {u:bu}:sN T ks P->2*k+1<T.length->u.1=am.wt T (2*k)+am.wt T (2*k+1)->u.2.2=(T[2*k]?.getD ha).2.2++(T[2*k+1]?.getD ha).2.2->sN T (ks++[k]) (P++[u])
|skip {ks:ae} {P:List bu} {k:Nat}:sN T ks P->¬2*k+1<T.length->sN T (ks++[k]) P
theorem sN.len{T:List bu}{ks:ae}{P:List bu}(h:sN T ks P):P.length<=ks.length:=by
 induction h with
|nil=>simp
|take _ _ _ _ ih=>simp only[aY,bY,length_nil];omega
|skip _ _ ih=>simp only[aY,bY,length_nil];omega
theorem Kl(T:List bu):∀(n:Nat) (P:List bu),sN T (List.range n) P->2*n<=T.length+1->P.length=min n (T.length/2) /\
  ∀x,x<P.length->am.wt P x=am.wt T (2*x)+am.wt T (2*x+1)/\(P[x]?.getD ha).2.2=(T[2*x]?.getD ha).2.2++(T[2*x+1]?.getD ha).2.2
|0,P,h,_=>by
  rw[range_zero]at h;generalize Au:([]:ae)=ks at h;cases h with
 |nil=>exact⟨by simp,λx ai=>by simp at ai⟩
 |take=>simp at Au
 |skip=>simp at Au
|n+1,P,h,aA=>by
  rw[range_succ]at h;generalize Au:List.range n++[n]=ks at h;cases h with
 |nil=>simp at Au
 |@take ks P k u h1 af aq aK=>
   obtain⟨rfl,e2⟩:=append_inj' Au rfl;injection e2 with e2
   subst e2;obtain⟨gE,c9⟩:=Kl T n _ h1 (by omega);refine⟨by rw[aY,gE,bY,length_nil];omega,λx ai=>?_⟩;have S0:P.length=n:=by omega
   rw[aY,bY,length_nil]at ai;by_cases MS:x<P.length
   .obtain⟨s1,s2⟩:=c9 x MS;unfold am.wt at s1 ⊢;rw[hO MS];exact⟨s1,s2⟩
   .obtain rfl:x=n:=by omega
    unfold am.wt at aq ⊢;rw[iY (by omega),show x-P.length=0 by omega];exact⟨aq,aK⟩
 |skip h1 af=>
   obtain⟨rfl,e2⟩:=append_inj' Au rfl;injection e2 with e2
   subst e2;obtain⟨gE,c9⟩:=Kl T n _ h1 (by omega);exact⟨by rw[gE];omega,c9⟩
def Fe(T:List bu)(m B:Nat)(vs:Value)(w:ah)(pre:List (pP m))(W:ah):Prop:=
 (∃v P,Boxed W B 226 v/\W.ownsRow B 231 2 v P.length (cp P)/\sN T (pre.map (·.1)) P/\kX W P)/\(Boxed W (B+1) 226 vs/\Boxed W (B+2) 3 (.int .i64 2))/\Below B w W
theorem anQ(T:List bu)(m B:Nat)(vs:Value)(w:ah)(bx:B=w.heap.size):OwnFrom (B+3) (Fe T m B vs w):=by
 rintro pre W bb row ⟨⟨v,P,h1,af,aq,aK⟩,⟨aT,ci⟩,c6⟩ aF aj;have aZ:∀{b:Nat} {t:TypeId} {u:Value},Boxed W b t u->some b≠row:=λak e=>by
  obtain⟨_,o,b9,hc⟩:=aj _ e.symm;rw[show W.heap[_]?=_ from ak]at b9;cases b9
  cases hc
 refine⟨⟨v,P,h1.kept aF (aZ h1),af.kept aF ?_,aq,aK.cG aF λb e=>?_⟩,⟨aT.kept aF (aZ aT),ci.kept aF (aZ ci)⟩,c6.grown aF (by rw[bx];exact(bx▸c6).size) λr e=>by have:=(aj r e).1;omega⟩
 .rcases af.2 with⟨rfl,_⟩|⟨g,cap,eW,rfl,_,ls,_⟩
  .exact .inl rfl
  .refine .inr λe'=>?_
   obtain⟨_,o,b9,hc⟩:=aj g (by simpa [Value.ownBlock]using e'.symm);rw[ls]at b9;cases b9
   cases hc
 .obtain⟨_,o,b9,hc⟩:=aj b e;exact⟨o,b9,λag e'=>by rw[e']at hc;cases hc⟩
theorem Hl{T:List bu}{m B:Nat}{vs:Value}{w:ah}{pre:List (pP m)}{k:Nat}{hk:2*k<m}{W fp fb:ah}{v:Value}{P:List bu}{u:bu}{gy ik:Nat}{qn:Obj}{news post:b1}
  (bx:B=w.heap.size)(h1:Boxed W B 226 v)(af:W.ownsRow B 231 2 v P.length (cp P))(aq:sN T (pre.map (·.1)) P)(aK:kX W P)(aT:Boxed W (B+1) 226 vs)(ci:Boxed W (B+2) 3 (.int .i64 2))(c6:Below B w W)
  (r5:2*k+1<T.length)(hw:u.1=am.wt T (2*k)+am.wt T (2*k+1))(ap:u.2.2=(T[2*k]?.getD ha).2.2++(T[2*k+1]?.getD ha).2.2)(aA:cp [u]=news)
  (bc:av W fp)(jS:Row fp u.2.1.1 3 (aM u.2.2++post))(hown:fb.ownsRow B 231 2 (.slice (some ⟨gy,0,none⟩) (P.length+1) ik) (P.length+1) (cp P++news))(cP:(fp.alloc qn).grownBy fb v.ownBlock) :
  (fb.cell? ⟨B,0,none⟩=some v/\fb.frozen? ⟨B,0,none⟩=false)/\KeepsFrom (B+3) W (fb.setCell ⟨B,0,none⟩ (.slice (some ⟨gy,0,none⟩) (P.length+1) ik))/\nh B (B+1) (B+2) W (fb.setCell ⟨B,0,none⟩ (.slice (some ⟨gy,0,none⟩) (P.length+1) ik)) /\
   Fe T m B vs w (pre++[⟨k,hk⟩]) (fb.setCell ⟨B,0,none⟩ (.slice (some ⟨gy,0,none⟩) (P.length+1) ik)):=by
 have cx:=dj bc none;have lQ:B<=W.heap.size:=by rw[bx];exact(bx▸c6).size
 have sb:=A6 af cx;have aG:=h1.kept cx (by simp);have e5:=aT.kept cx (by simp);have gG:=ci.kept cx (by simp);obtain⟨bh,bN,en,gn,qk⟩:=aG.appended (by decide) sb (dl lQ bc.size) bl hown cP;have n3:=grownBy_setCell' fb B (.slice (some ⟨gy,0,none⟩) (P.length+1) ik);have f5:=((e5.alloc qn).kept cP (e5.not_row (by decide) sb)).kept n3 (by simp);have f6:=((gG.alloc qn).kept cP (gG.not_row (by decide) sb)).kept n3 (by simp);have TE:Below B W (fb.setCell ⟨B,0,none⟩ (.slice (some ⟨gy,0,none⟩) (P.length+1) ik)):=(bc.mono lQ).trans qk;have tq:W.grownBy (fp.alloc qn) none:=im cx qn;have wA:∀b,(some B:Option Nat)=some b->∃o:Obj,fb.heap[b]?=some o/\∀ag,o≠.cells ag 3 (0,0):=λb e=>by
  injection e with e
  subst e;exact⟨_,bh,λag e'=>by injection e' with _ e2;exact absurd e2 (by decide)⟩
 refine⟨⟨bh.cell,bh.frozen⟩,(KeepsFrom.of_grownBy cx (by simp)).trans (gn.from _),⟨⟨TE,f5.trans aT.symm⟩,f6.trans ci.symm⟩,⟨_,P++[u],bN,?_,?_,λt aE=>?_⟩,⟨f5,f6⟩,c6.trans TE⟩
 .rw[aY,NW,aA];exact en
 .rw[map_append];exact .take aq r5 hw ap
 .have Dc:=anJ (A6 sb (im (dg fp none) qn)) (by decide);rcases List.mem_append.1 aE with aE|aE
  .exact(((aK.cG tq (λb e=>by cases e)).cG cP Dc).cG n3 wA) t aE
  .simp only[mem_singleton]at aE;subst aE;have hM:kX fp [t]:=λEs wM=>by
    simp only[mem_singleton]at wM;subst wM;exact⟨post,jS⟩
   exact(((hM.cG (im (dg fp none) qn) (λb e=>by cases e)).cG cP Dc).cG n3 wA) t (List.mem_singleton.2 rfl)
theorem anR:QT:=by
 intro w g cap T post af cq Tf gX bB hrow VT;obtain⟨i0,ay,bC,bL,bz⟩:=info_parts GM;obtain⟨m,hm⟩:∃m,m=T.length:=⟨_,rfl⟩;rw[<-hm]at af cq Tf ⊢;have cj:=I hm;have fS:=I bB;have dr:=I hrow;have ad3:=I VT;clear hm bB hrow VT;refine(callsIn_wide (n:=4)).1 ?_;refine callsIn_of_wp_marks func175 rfl trivial ?_ rfl;simp only[ntmps175,List.size_toArray,bY,length_nil,reduceAdd,reduceSub,Array.replicate_succ,Array.replicate_zero,push_toArray,append_toArray,nil_append,cons_append];gi_wp2_with fail
 refine⟨trivial,(agB 3 (some ⟨g,0,none⟩) m cap _).mono ?_⟩;rintro e w' ⟨rfl,n0⟩;obtain⟨B,bx⟩:∃B,B=w.heap.size:=⟨_,rfl⟩;have si:w'.heap.size=B+3:=by rw[n0,bx];simp
 have ct:w.grownBy w' none:=by rw[n0];exact im (im (im (dg _ _) _) _) _
 have d1:Boxed w' B 226 (.slice none 0 0):=by rw[n0,bx];exact((Boxed.new w _ _).alloc _).alloc _
 have d2:Boxed w' (B+1) 226 (.slice (some ⟨g,0,none⟩) m cap):=by
  have h:=Boxed.new (w.alloc (.cells #[.slice none 0 0] 226)) 226 (.slice (some ⟨g,0,none⟩) m cap);rw[World.size_alloc]at h;rw[n0,bx];exact h.alloc _
 have d3:Boxed w' (B+2) 3 (.int .i64 2):=by
  have h:=Boxed.new ((w.alloc (.cells #[.slice none 0 0] 226)).alloc (.cells #[.slice (some ⟨g,0,none⟩) m cap] 226)) 3 (.int .i64 2);rw[World.size_alloc,World.size_alloc]at h;rw[n0,bx];exact h
 have bA:Below B w w':=by rw[bx];exact kZ ct
 have aas:=I d1;have Pv:=I d2;have Pw:=I d3;have b6:=I bA;have hM:(w.alloc (.cells #[.slice none 0 0] 226)).heap.size=B+1:=by rw[World.size_alloc,bx]
 rw[hM,<-bx];have eb:=I bx;clear n0 ct d1 d2 d3 bA hM bx;gi_wp2_with fail
 refine wpIn_rangeFunc_ownG (N:=(m+1)/2) (w0:=w') rfl (by omega) (gf:=221) (lb:=#[.pointer (some ⟨B+1,0,none⟩),.pointer (some ⟨B+1+1,0,none⟩)]) rfl trivial (enters_of func221 (by kernel_rfl) rfl)
  (agC 3 (by omega) B (B+1) (B+2) g m cap Tf cq w' (by omega) (by omega) Pv.out.cell Pw.out.cell) (λh k=>nh.t h k) (nh.b (by omega) (by omega) (by omega)) dM (λ_=>rfl)
  (Fe T m B (.slice (some ⟨g,0,none⟩) m cap) w) (λ_ _ _=>False)
  (by rw[si];exact anQ T m B _ w eb) (λ_ _ _ _ _ ap _ _=>ap)
  ⟨⟨_,[],aas.out,World.ownsRow_nil _ _ _ _,.nil,λt aE=>by simp at aE⟩,⟨Pv.out,Pw.out⟩,b6.out⟩
  (λx=>{tmps:=#[.slice (some ⟨g,0,none⟩) m cap,undef,.slice none 0 0,.pointer (some ⟨B,0,none⟩),.slice (some ⟨g,2*x.1*2,none⟩) (po m x.1) (po m x.1),.slice (some ⟨g,0,none⟩) m cap,.func (.func 221) #[] #[.pointer (some ⟨B+1,0,none⟩),.pointer (some ⟨B+1+1,0,none⟩)],.slice (some ⟨g,2*x.1*2,none⟩) (po m x.1) (po m x.1),undef,undef,undef,undef,undef,undef,undef,undef,undef,undef,undef,undef,undef,undef,undef,undef,undef,undef,undef,undef,undef,undef,undef,undef,undef,undef,undef],defers:=[]}) ?assign ?body ?done ?stop
 case assign=>
  intro l x W K hK;unfold pP.enc;gi_wp2
  exact hK
 case body=>
  rintro l pre ⟨k,hk⟩ W ⟨⟨v,P,h1,tf,aq,aK⟩,⟨aT,ci⟩,c6⟩ hlen;dsimp only;rw[si];have x3:=aq.len;rw[cQ]at x3;by_cases r5:2*k+1<m
  .have e2:po m k=2:=by unfold po;rw[aB r5]
   rw[e2];have aj:=dr.out.below (eb.out▸c6);obtain⟨a0,fL⟩:=A8 aj (bI (show 2*k<T.length by have:=cj.out;omega));obtain⟨bF,bP⟩:=A8 aj (bI (show 2*k+1<T.length by have:=cj.out;omega));obtain⟨u1,GI⟩:∃u1,u1=T[2*k]'(by have:=cj.out;omega):=⟨_,rfl⟩;obtain⟨u2,sp⟩:∃u2,u2=T[2*k+1]'(by have:=cj.out;omega):=⟨_,rfl⟩;rw[<-GI]at a0 fL;rw[<-sp]at bF bP;have lS:u1∈T:=by rw[GI];exact b8 _
   have gZ:u2∈T:=by rw[sp];exact b8 _
   have a1:T[2*k]?.getD ha=u1:=by rw[GI,bI (by have:=cj.out;omega),b7]
   have bp:T[2*k+1]?.getD ha=u2:=by rw[sp,bI (by have:=cj.out;omega),b7]
   have gU:am.wt T (2*k)=u1.1:=by unfold am.wt;rw[a1]
   have mX:am.wt T (2*k+1)=u2.1:=by unfold am.wt;rw[bp]
   obtain⟨gh,j0,iQ⟩:=fS.out u1 lS;obtain⟨z2,ke,iD⟩:=fS.out u2 gZ;have MD:=ad3.out.below (eb.out▸c6);obtain⟨axk,gE⟩:=MD u1 lS;obtain⟨D7,c9⟩:=MD u2 gZ;have JS:=I gE;have JT:=I c9;obtain⟨a,⟨g1,c1⟩,cb⟩:=u1;obtain⟨b,⟨g2,c2⟩,cR⟩:=u2;dsimp only[pI]at a0 fL bF bP gh j0 iQ z2 ke iD gU mX JS JT;have gd:(a+b,(g1,c1),cb++cR).2.2=(T[2*k]?.getD ha).2.2++(T[2*k+1]?.getD ha).2.2:=by rw[a1,bp]
   have iT:Hid (cb++cR=(T[2*k]?.getD ha).2.2++(T[2*k+1]?.getD ha).2.2):=I gd;have Fa:Hid (a+b=am.wt T (2*k)+am.wt T (2*k+1)):=I (by rw[gU,mX]);rw[show(2*k+1)*2=2*k*2+2 by omega]at bF bP;clear aj GI sp lS gZ a1 bp gU mX MD gE c9 gd e2;generalize 2*k*2=off at *;obtain⟨b2,iK⟩:∃b2,b2=cb.length:=⟨_,rfl⟩;obtain⟨bU,k7⟩:∃bU,bU=cR.length:=⟨_,rfl⟩;rw[<-iK]at fL j0 iQ;rw[<-k7]at bP ke iD;have c0:=h1.cell;obtain⟨N4,qV⟩:∃N4,N4=P.length:=⟨_,rfl⟩;have awy:N4<=500:=by omega
   have H1:=I h1;have dN:=I tf;have hD:=I aq;have ot:=I aK;have rn:=I aT;have zf:=I ci;have zg:=I c6;have lQ:B<=W.heap.size:=by have:=h1.lt;omega
   have hcon:Calls prog 208 #[.slice (some ⟨W.heap.size,0,none⟩) 2 2] (W.drew.alloc (.cells #[.slice (some ⟨g1,0,none⟩) b2 c1,.slice (some ⟨g2,0,none⟩) bU c2] 112)) λe w'=>∃g4 cap4,e=.returned (.slice (some ⟨g4,0,none⟩) (b2+bU) cap4) /\
     Hid ((∃post,Row w' g4 3 (aM (cb++cR)++post))/\av W w'):=by
    have dw:Below W.heap.size W (W.drew.alloc (.cells #[.slice (some ⟨g1,0,none⟩) b2 c1,.slice (some ⟨g2,0,none⟩) bU c2] 112)):=(Below.refl _ W).drew.alloc bl _;refine(asA W.heap.size g1 b2 c1 g2 bU c2 cb cR _ (by omega) iK.symm k7.symm (by omega) (by omega) (Row.new W.drew 112 [.slice (some ⟨g1,0,none⟩) b2 c1,.slice (some ⟨g2,0,none⟩) bU c2])
     (λbb CT j u hu=>?_) (λbb CT j u hu=>?_)).mono ?_
    .rw[zO,(iA (iA JS.out dw) CT).cell j,hO (List.getElem?_eq_some_iff.1 hu).1];exact hu
    .rw[zO,(iA (iA JT.out dw) CT).cell j,hO (List.getElem?_eq_some_iff.1 hu).1];exact hu
    .rintro e w' ⟨u,rfl,hown,ak⟩;obtain⟨g4,cap4,post,hu,_,hrow⟩:=alm hown (by omega);exact⟨g4,cap4,by rw[hu],I ⟨⟨post,hrow⟩,dw.trans (ak.mono dw.size)⟩⟩
   have BE:=I hcon;have sX:=I iK;have ud:=I k7;have adu:=I qV;clear h1 tf aq aK aT ci c6 hcon iK k7 qV JS JT;gi_wp2
   have Gq:g<B:=by rw[eb.out];exact Row.lt dr.out
   have h3:Hid (∀bb,Below B W bb->bb.cell? ⟨g,off,none⟩=some (.int .i64 a)/\bb.cell? ⟨g,off+1,none⟩=some (.slice (some ⟨g1,0,none⟩) b2 c1)/\bb.cell? ⟨g,off+2,none⟩=some (.int .i64 b)/\bb.cell? ⟨g,off+2+1,none⟩=some (.slice (some ⟨g2,0,none⟩) bU c2)):=I λbb h=>
    ⟨(h.cell (p:=⟨g,off,none⟩) Gq).trans a0,(h.cell (p:=⟨g,off+1,none⟩) Gq).trans fL,(h.cell (p:=⟨g,off+2,none⟩) Gq).trans bF,(h.cell (p:=⟨g,off+2+1,none⟩) Gq).trans bP⟩
   have l5:Hid (∀bb,av W bb->bb.cell? ⟨B,0,none⟩=some v):=I λbb h=>(h.cell (p:=⟨B,0,none⟩) H1.out.lt).trans c0
   have jr:Hid (∀g4 cap4,cp [(a+b,(g4,cap4),cb++cR)]=[.int .i64 ((a:Int)+b),.slice (some ⟨g4,0,none⟩) (b2+bU) cap4]):=I λg4 cap4=>by
    show [yW _,pI _]=_;simp only[yW,pI,aY,<-sX.out,<-ud.out,Int.natCast_add]
   have awv:P.length<=500:=by have:=adu.out;omega
   have lw:IntKind.i64.wrap ((a:Int)+b)=(a:Int)+b:=IntWalk.i64_in _ (by omega);refine apN (S:=(λbb:ah=>bb.cell? ⟨g,off,none⟩=some (.int .i64 a)/\bb.cell? ⟨g,off+1,none⟩=some (.slice (some ⟨g1,0,none⟩) b2 c1)/\bb.cell? ⟨g,off+2,none⟩=some (.int .i64 b)/\bb.cell? ⟨g,off+2+1,none⟩=some (.slice (some ⟨g2,0,none⟩) bU c2))) (by kernel_rfl) (by kernel_rfl) (λ⟨_,_,h⟩=>h) ⟨a0,fL,bF,bP⟩ (λhHeld=>?_);refine bJ 1 {dst:=some 12,op:=.move (.tmp 4),type:=226,pos:= "bound.go:48",after:=#[],guard:=none} ?_ rfl (Or.inl ⟨by rfl,?_⟩) ?_;rotate_left
   ·(intro w hSw;(try dsimp only at hSw);go_simp;(try with_reducible rfl))
   try simp only[bf]
   refine bJ 2 {dst:=some 13,op:=.indexAddr 226 (.tmp 12) (.const (.int .i64 0)),type:=0,pos:= "bound.go:48",after:=#[{on:=1,ground:=.data}],guard:=none} ?_ rfl (Or.inl ⟨by rfl,?_⟩) ?_;rotate_left
   ·(intro w hSw;(try dsimp only at hSw);go_simp;(try with_reducible rfl))
   try simp only[bf]
   refine bJ 3 {dst:=some 14,op:=.fieldAddr 231 (.tmp 13) 0,type:=0,pos:= "bound.go:48",after:=#[{on:=2,ground:=.data}],guard:=none} ?_ rfl (Or.inl ⟨by rfl,?_⟩) ?_;rotate_left
   ·(intro w hSw;(try dsimp only at hSw);go_simp;(try with_reducible rfl))
   try simp only[bf]
   refine bJ 4 {dst:=some 15,op:=.load 3 (.tmp 14),type:=3,pos:= "bound.go:48",after:=#[{on:=3,ground:=.data}],guard:=none} ?_ rfl (Or.inl ⟨by rfl,?_⟩) ?_;rotate_left
   ·(intro w hSw;(try dsimp only at hSw);go_simp;(try with_reducible rfl))
   try simp only[bf]
   refine bJ 5 {dst:=some 16,op:=.move (.tmp 4),type:=226,pos:= "bound.go:48",after:=#[],guard:=none} ?_ rfl (Or.inl ⟨by rfl,?_⟩) ?_;rotate_left
   ·(intro w hSw;(try dsimp only at hSw);go_simp;(try with_reducible rfl))
   try simp only[bf]
   refine bJ 6 {dst:=some 17,op:=.indexAddr 226 (.tmp 16) (.const (.int .i64 1)),type:=0,pos:= "bound.go:48",after:=#[{on:=5,ground:=.data}],guard:=none} ?_ rfl (Or.inl ⟨by rfl,?_⟩) ?_;rotate_left
   ·(intro w hSw;(try dsimp only at hSw);go_simp;(try with_reducible rfl))
   try simp only[bf]
   refine bJ 7 {dst:=some 18,op:=.fieldAddr 231 (.tmp 17) 0,type:=0,pos:= "bound.go:48",after:=#[{on:=6,ground:=.data}],guard:=none} ?_ rfl (Or.inl ⟨by rfl,?_⟩) ?_;rotate_left
   ·(intro w hSw;(try dsimp only at hSw);go_simp;(try with_reducible rfl))
   try simp only[bf]
   refine bJ 8 {dst:=some 19,op:=.load 3 (.tmp 18),type:=3,pos:= "bound.go:48",after:=#[{on:=7,ground:=.data}],guard:=none} ?_ rfl (Or.inl ⟨by rfl,?_⟩) ?_;rotate_left
   ·(intro w hSw;(try dsimp only at hSw);go_simp;(try with_reducible rfl))
   try simp only[bf]
   refine bJ 9 {dst:=some 20,op:=.binOp .add 3 (.tmp 15) (.tmp 19) 3,type:=3,pos:= "bound.go:48",after:=#[{on:=4,ground:=.data},{on:=8,ground:=.data}],guard:=none} ?_ rfl (Or.inl ⟨by rfl,?_⟩) ?_;rotate_left
   ·(intro w hSw;(try dsimp only at hSw);go_simp;(try with_reducible rfl))
   try simp only[bf]
   refine bJ 10 {dst:=some 21,op:=.move (.tmp 4),type:=226,pos:= "bound.go:48",after:=#[],guard:=none} ?_ rfl (Or.inl ⟨by rfl,?_⟩) ?_;rotate_left
   ·(intro w hSw;(try dsimp only at hSw);go_simp;(try with_reducible rfl))
   try simp only[bf]
   refine bJ 11 {dst:=some 22,op:=.indexAddr 226 (.tmp 21) (.const (.int .i64 0)),type:=0,pos:= "bound.go:48",after:=#[{on:=10,ground:=.data}],guard:=none} ?_ rfl (Or.inl ⟨by rfl,?_⟩) ?_;rotate_left
   ·(intro w hSw;(try dsimp only at hSw);go_simp;(try with_reducible rfl))
   try simp only[bf]
   refine bJ 12 {dst:=some 23,op:=.fieldAddr 231 (.tmp 22) 1,type:=0,pos:= "bound.go:48",after:=#[{on:=11,ground:=.data}],guard:=none} ?_ rfl (Or.inl ⟨by rfl,?_⟩) ?_;rotate_left
   ·(intro w hSw;(try dsimp only at hSw);go_simp;(try with_reducible rfl))
   try simp only[bf]
   refine bJ 13 {dst:=some 24,op:=.load 112 (.tmp 23),type:=112,pos:= "bound.go:48",after:=#[{on:=12,ground:=.data}],guard:=none} ?_ rfl (Or.inl ⟨by rfl,?_⟩) ?_;rotate_left
   ·(intro w hSw;(try dsimp only at hSw);go_simp;(try with_reducible rfl))
   try simp only[bf]
   refine bJ 14 {dst:=some 25,op:=.move (.tmp 4),type:=226,pos:= "bound.go:48",after:=#[],guard:=none} ?_ rfl (Or.inl ⟨by rfl,?_⟩) ?_;rotate_left
   ·(intro w hSw;(try dsimp only at hSw);go_simp;(try with_reducible rfl))
   try simp only[bf]
   refine bJ 15 {dst:=some 26,op:=.indexAddr 226 (.tmp 25) (.const (.int .i64 1)),type:=0,pos:= "bound.go:48",after:=#[{on:=14,ground:=.data}],guard:=none} ?_ rfl (Or.inl ⟨by rfl,?_⟩) ?_;rotate_left
   ·(intro w hSw;(try dsimp only at hSw);go_simp;(try with_reducible rfl))
   try simp only[bf]
   refine bJ 16 {dst:=some 27,op:=.fieldAddr 231 (.tmp 26) 1,type:=0,pos:= "bound.go:48",after:=#[{on:=15,ground:=.data}],guard:=none} ?_ rfl (Or.inl ⟨by rfl,?_⟩) ?_;rotate_left
   ·(intro w hSw;(try dsimp only at hSw);go_simp;(try with_reducible rfl))
   try simp only[bf]
   refine bJ 17 {dst:=some 28,op:=.load 112 (.tmp 27),type:=112,pos:= "bound.go:48",after:=#[{on:=16,ground:=.data}],guard:=none} ?_ rfl (Or.inl ⟨by rfl,?_⟩) ?_;rotate_left
   ·(intro w hSw;(try dsimp only at hSw);go_simp;(try with_reducible rfl))
   try simp only[bf]
   refine wpAnyH_ready (rs:=[0,18]) (by kernel_rfl) (by simp) ?_;refine AllReadyH.cons rfl (λK hK=>?_) (AllReadyH.cons rfl (λK hK=>?_) AllReadyH.nil)
   .have xU:=l5.out _ (Below.refl _ W).drew;go_simp;refine hK.out _ _ (h3.out _ ((Below.refl _ W).drew.mono lQ)) (λhHeld=>?_);clear hK K
    try simp only[bf]
    clear xU;refine wpAnyH_ready (rs:=[18]) (by kernel_rfl) (by simp) ?_;refine AllReadyH.cons rfl (λK hK=>?_) AllReadyH.nil;go_simp;refine hK.out _ _ (h3.out _ (((Below.refl _ W).alloc bl _).drew.mono lQ)) (λhHeld=>?_);clear hK K
    try simp only[bf]
    refine wpAnyH_ready (rs:=[19]) (by kernel_rfl) (by simp) ?_;refine AllReadyH.cons rfl (λK hK=>?_) AllReadyH.nil;go_simp;refine BE.out.mono ?_;rintro e fp ⟨g4,cap4,rfl,hh⟩;have jS:Hid (∃post,Row fp g4 3 (aM (cb++cR)++post)):=I hh.out.1;have bc:=I hh.out.2;clear hh;go_simp;refine hK.out _ _ (h3.out _ (bc.out.mono lQ)) (λhHeld=>?_);clear hK K
    try simp only[bf]
    refine bJ 20 {dst:=some 31,op:=.build 231 #[(0,.tmp 20),(1,.tmp 30)],type:=231,pos:= "bound.go:48",after:=#[{on:=9,ground:=.data},{on:=19,ground:=.data}],guard:=none} ?_ rfl (Or.inl ⟨by rfl,?_⟩) ?_;rotate_left
    ·(intro w hSw;(try dsimp only at hSw);go_simp;(try with_reducible rfl))
    try simp only[bf]
    refine wpAnyH_ready (rs:=[21]) (by kernel_rfl) (by simp) ?_;refine AllReadyH.cons rfl (λK hK=>?_) AllReadyH.nil;go_simp;refine hK.out _ _ (h3.out _ ((bc.out.alloc bc.out.size _).mono lQ)) (λhHeld=>?_);clear hK K
    try simp only[bf]
    refine wpAnyH_ready (rs:=[22]) (by kernel_rfl) (by simp) ?_;refine AllReadyH.cons rfl (λK hK=>?_) AllReadyH.nil;have rz:Hid ((fp.alloc (.cells #[.int .i64 ((a:Int)+b),.slice (some ⟨g4,0,none⟩) (b2+bU) cap4] 231)).ownsRow B 231 2 v P.length (cp P)):=I (A6 dN.out (im (dj bc.out none) _));have j3:Hid (∀(j:Nat) (u:Value),([.int .i64 ((a:Int)+b),.slice (some ⟨g4,0,none⟩) (b2+bU) cap4]:b1)[j]?=some u->(fp.alloc (.cells #[.int .i64 ((a:Int)+b),.slice (some ⟨g4,0,none⟩) (b2+bU) cap4] 231)).cell? ((⟨fp.heap.size,0,none⟩:Addr).add j)=some u):=I (λj u hu=>by
     match j,hu with
    |0,hu=>simp at hu;subst hu;simp[Addr.add]
    |1,hu=>simp at hu;subst hu;simp[Addr.add])
    refine step_append_lies (fp.alloc (.cells #[.int .i64 ((a:Int)+b),.slice (some ⟨g4,0,none⟩) (b2+bU) cap4] 231)) (by rfl) _ _ _ (by rfl) B 231 i0 (.agg #[.int .i64 0,.slice none 0 0]) 2 32 underlying226 ay bC bL bz rfl (by omega) v P.length (cp P) (by rfl) rz.out ⟨fp.heap.size,0,none⟩ 1 1 [.int .i64 ((a:Int)+b),.slice (some ⟨g4,0,none⟩) (b2+bU) cap4] (by rfl) (by rfl) j3.out (by intro u hu;simp at hu;rcases hu with rfl|rfl<;>rfl) (by omega) (by unfold maxLen;omega) (by omega) (by have:=bc.out.size;simp;omega) (fp.heap.size+1) (by simp) ?_;intro gy ik fb lU jQ qJ yv;obtain⟨N6,se⟩:=jS.out;obtain⟨⟨nV,KJ⟩,E⟩:=Hl (u:=(a+b,(g4,cap4),cb++cR)) (hk:=hk) eb.out H1.out dN.out hD.out ot.out rn.out zf.out zg.out (by have:=cj.out;omega) Fa.out iT.out (jr.out g4 cap4) bc.out se lU jQ;have l4:=I E;have rX:Below B W fb:=((bc.out.alloc bc.out.size _).mono lQ).grown jQ (by have:=bc.out.size;simp;omega) (λq hq=>(rz.out.lt q hq).1);refine hK.out _ _ (h3.out _ rX) (λhHeld=>?_);clear hK K E lU jQ qJ yv se rX
    try simp only[Act.put,setIfInBounds_toArray]
    refine wpAnyH_ready (rs:=[23]) (by kernel_rfl) (by simp) ?_;refine AllReadyH.cons rfl (λK hK=>?_) AllReadyH.nil;go_simp;refine hK.out _ _ (h3.out _ l4.out.2.1.1.1) (λhHeld=>?_);clear hK K;refine wpAnyH_done (by kernel_rfl) ?_ _;exact l4.out
   .go_simp;refine hK.out _ _ (h3.out _ (((Below.refl _ W).alloc bl _).drew.mono lQ)) (λhHeld=>?_);clear hK K
    try simp only[bf]
    refine wpAnyH_ready (rs:=[0,19]) (by kernel_rfl) (by simp) ?_;refine AllReadyH.cons rfl (λK hK=>?_) (AllReadyH.cons rfl (λK hK=>?_) AllReadyH.nil)
    .have xU:=l5.out _ ((Below.refl _ W).alloc bl (.cells #[.slice (some ⟨g1,0,none⟩) b2 c1,.slice (some ⟨g2,0,none⟩) bU c2] 112));go_simp;refine hK.out _ _ (h3.out _ (((Below.refl _ W).alloc bl _).drew.mono lQ)) (λhHeld=>?_);clear hK K
     try simp only[bf]
     clear xU;refine wpAnyH_ready (rs:=[19]) (by kernel_rfl) (by simp) ?_;refine AllReadyH.cons rfl (λK hK=>?_) AllReadyH.nil;go_simp;refine BE.out.mono ?_;rintro e fp ⟨g4,cap4,rfl,hh⟩;have jS:Hid (∃post,Row fp g4 3 (aM (cb++cR)++post)):=I hh.out.1;have bc:=I hh.out.2;clear hh;go_simp;refine hK.out _ _ (h3.out _ (bc.out.mono lQ)) (λhHeld=>?_);clear hK K
     try simp only[bf]
     refine bJ 20 {dst:=some 31,op:=.build 231 #[(0,.tmp 20),(1,.tmp 30)],type:=231,pos:= "bound.go:48",after:=#[{on:=9,ground:=.data},{on:=19,ground:=.data}],guard:=none} ?_ rfl (Or.inl ⟨by rfl,?_⟩) ?_;rotate_left
     ·(intro w hSw;(try dsimp only at hSw);go_simp;(try with_reducible rfl))
     try simp only[bf]
     refine wpAnyH_ready (rs:=[21]) (by kernel_rfl) (by simp) ?_;refine AllReadyH.cons rfl (λK hK=>?_) AllReadyH.nil;go_simp;refine hK.out _ _ (h3.out _ ((bc.out.alloc bc.out.size _).mono lQ)) (λhHeld=>?_);clear hK K
     try simp only[bf]
     refine wpAnyH_ready (rs:=[22]) (by kernel_rfl) (by simp) ?_;refine AllReadyH.cons rfl (λK hK=>?_) AllReadyH.nil;have rz:Hid ((fp.alloc (.cells #[.int .i64 ((a:Int)+b),.slice (some ⟨g4,0,none⟩) (b2+bU) cap4] 231)).ownsRow B 231 2 v P.length (cp P)):=I (A6 dN.out (im (dj bc.out none) _));have j3:Hid (∀(j:Nat) (u:Value),([.int .i64 ((a:Int)+b),.slice (some ⟨g4,0,none⟩) (b2+bU) cap4]:b1)[j]?=some u->(fp.alloc (.cells #[.int .i64 ((a:Int)+b),.slice (some ⟨g4,0,none⟩) (b2+bU) cap4] 231)).cell? ((⟨fp.heap.size,0,none⟩:Addr).add j)=some u):=I (λj u hu=>by
      match j,hu with
     |0,hu=>simp at hu;subst hu;simp[Addr.add]
     |1,hu=>simp at hu;subst hu;simp[Addr.add])
     refine step_append_lies (fp.alloc (.cells #[.int .i64 ((a:Int)+b),.slice (some ⟨g4,0,none⟩) (b2+bU) cap4] 231)) (by rfl) _ _ _ (by rfl) B 231 i0 (.agg #[.int .i64 0,.slice none 0 0]) 2 32 underlying226 ay bC bL bz rfl (by omega) v P.length (cp P) (by rfl) rz.out ⟨fp.heap.size,0,none⟩ 1 1 [.int .i64 ((a:Int)+b),.slice (some ⟨g4,0,none⟩) (b2+bU) cap4] (by rfl) (by rfl) j3.out (by intro u hu;simp at hu;rcases hu with rfl|rfl<;>rfl) (by omega) (by unfold maxLen;omega) (by omega) (by have:=bc.out.size;simp;omega) (fp.heap.size+1) (by simp) ?_;intro gy ik fb lU jQ qJ yv;obtain⟨N6,se⟩:=jS.out;obtain⟨⟨nV,KJ⟩,E⟩:=Hl (u:=(a+b,(g4,cap4),cb++cR)) (hk:=hk) eb.out H1.out dN.out hD.out ot.out rn.out zf.out zg.out (by have:=cj.out;omega) Fa.out iT.out (jr.out g4 cap4) bc.out se lU jQ;have l4:=I E;have rX:Below B W fb:=((bc.out.alloc bc.out.size _).mono lQ).grown jQ (by have:=bc.out.size;simp;omega) (λq hq=>(rz.out.lt q hq).1);refine hK.out _ _ (h3.out _ rX) (λhHeld=>?_);clear hK K E lU jQ qJ yv se rX
     try simp only[Act.put,setIfInBounds_toArray]
     refine wpAnyH_ready (rs:=[23]) (by kernel_rfl) (by simp) ?_;refine AllReadyH.cons rfl (λK hK=>?_) AllReadyH.nil;go_simp;refine hK.out _ _ (h3.out _ l4.out.2.1.1.1) (λhHeld=>?_);clear hK K;refine wpAnyH_done (by kernel_rfl) ?_ _;exact l4.out
    .go_simp;refine BE.out.mono ?_;rintro e fp ⟨g4,cap4,rfl,hh⟩;have jS:Hid (∃post,Row fp g4 3 (aM (cb++cR)++post)):=I hh.out.1;have bc:=I hh.out.2;clear hh;go_simp;refine hK.out _ _ (h3.out _ (bc.out.mono lQ)) (λhHeld=>?_);clear hK K
     try simp only[bf]
     refine bJ 20 {dst:=some 31,op:=.build 231 #[(0,.tmp 20),(1,.tmp 30)],type:=231,pos:= "bound.go:48",after:=#[{on:=9,ground:=.data},{on:=19,ground:=.data}],guard:=none} ?_ rfl (Or.inl ⟨by rfl,?_⟩) ?_;rotate_left
     ·(intro w hSw;(try dsimp only at hSw);go_simp;(try with_reducible rfl))
     try simp only[bf]
     refine wpAnyH_ready (rs:=[0,21]) (by kernel_rfl) (by simp) ?_;refine AllReadyH.cons rfl (λK hK=>?_) (AllReadyH.cons rfl (λK hK=>?_) AllReadyH.nil)
     .have xU:=l5.out _ bc.out;go_simp;refine hK.out _ _ (h3.out _ (bc.out.mono lQ)) (λhHeld=>?_);clear hK K
      try simp only[bf]
      clear xU;refine wpAnyH_ready (rs:=[21]) (by kernel_rfl) (by simp) ?_;refine AllReadyH.cons rfl (λK hK=>?_) AllReadyH.nil;go_simp;refine hK.out _ _ (h3.out _ ((bc.out.alloc bc.out.size _).mono lQ)) (λhHeld=>?_);clear hK K
      try simp only[bf]
      refine wpAnyH_ready (rs:=[22]) (by kernel_rfl) (by simp) ?_;refine AllReadyH.cons rfl (λK hK=>?_) AllReadyH.nil;have rz:Hid ((fp.alloc (.cells #[.int .i64 ((a:Int)+b),.slice (some ⟨g4,0,none⟩) (b2+bU) cap4] 231)).ownsRow B 231 2 v P.length (cp P)):=I (A6 dN.out (im (dj bc.out none) _));have j3:Hid (∀(j:Nat) (u:Value),([.int .i64 ((a:Int)+b),.slice (some ⟨g4,0,none⟩) (b2+bU) cap4]:b1)[j]?=some u->(fp.alloc (.cells #[.int .i64 ((a:Int)+b),.slice (some ⟨g4,0,none⟩) (b2+bU) cap4] 231)).cell? ((⟨fp.heap.size,0,none⟩:Addr).add j)=some u):=I (λj u hu=>by
       match j,hu with
      |0,hu=>simp at hu;subst hu;simp[Addr.add]
      |1,hu=>simp at hu;subst hu;simp[Addr.add])
      refine step_append_lies (fp.alloc (.cells #[.int .i64 ((a:Int)+b),.slice (some ⟨g4,0,none⟩) (b2+bU) cap4] 231)) (by rfl) _ _ _ (by rfl) B 231 i0 (.agg #[.int .i64 0,.slice none 0 0]) 2 32 underlying226 ay bC bL bz rfl (by omega) v P.length (cp P) (by rfl) rz.out ⟨fp.heap.size,0,none⟩ 1 1 [.int .i64 ((a:Int)+b),.slice (some ⟨g4,0,none⟩) (b2+bU) cap4] (by rfl) (by rfl) j3.out (by intro u hu;simp at hu;rcases hu with rfl|rfl<;>rfl) (by omega) (by unfold maxLen;omega) (by omega) (by have:=bc.out.size;simp;omega) (fp.heap.size+1) (by simp) ?_;intro gy ik fb lU jQ qJ yv;obtain⟨N6,se⟩:=jS.out;obtain⟨⟨nV,KJ⟩,E⟩:=Hl (u:=(a+b,(g4,cap4),cb++cR)) (hk:=hk) eb.out H1.out dN.out hD.out ot.out rn.out zf.out zg.out (by have:=cj.out;omega) Fa.out iT.out (jr.out g4 cap4) bc.out se lU jQ;have l4:=I E;have rX:Below B W fb:=((bc.out.alloc bc.out.size _).mono lQ).grown jQ (by have:=bc.out.size;simp;omega) (λq hq=>(rz.out.lt q hq).1);refine hK.out _ _ (h3.out _ rX) (λhHeld=>?_);clear hK K E lU jQ qJ yv se rX
      try simp only[Act.put,setIfInBounds_toArray]
      refine wpAnyH_ready (rs:=[23]) (by kernel_rfl) (by simp) ?_;refine AllReadyH.cons rfl (λK hK=>?_) AllReadyH.nil;go_simp;refine hK.out _ _ (h3.out _ l4.out.2.1.1.1) (λhHeld=>?_);clear hK K;refine wpAnyH_done (by kernel_rfl) ?_ _;exact l4.out
     .go_simp;refine hK.out _ _ (h3.out _ ((bc.out.alloc bc.out.size _).mono lQ)) (λhHeld=>?_);clear hK K
      try simp only[bf]
      refine wpAnyH_ready (rs:=[0]) (by kernel_rfl) (by simp) ?_;refine AllReadyH.cons rfl (λK hK=>?_) AllReadyH.nil;have xU:=l5.out _ (bc.out.alloc bc.out.size (.cells #[.int .i64 ((a:Int)+b),.slice (some ⟨g4,0,none⟩) (b2+bU) cap4] 231));go_simp;refine hK.out _ _ (h3.out _ ((bc.out.alloc bc.out.size _).mono lQ)) (λhHeld=>?_);clear hK K
      try simp only[bf]
      clear xU;refine wpAnyH_ready (rs:=[22]) (by kernel_rfl) (by simp) ?_;refine AllReadyH.cons rfl (λK hK=>?_) AllReadyH.nil;have rz:Hid ((fp.alloc (.cells #[.int .i64 ((a:Int)+b),.slice (some ⟨g4,0,none⟩) (b2+bU) cap4] 231)).ownsRow B 231 2 v P.length (cp P)):=I (A6 dN.out (im (dj bc.out none) _));have j3:Hid (∀(j:Nat) (u:Value),([.int .i64 ((a:Int)+b),.slice (some ⟨g4,0,none⟩) (b2+bU) cap4]:b1)[j]?=some u->(fp.alloc (.cells #[.int .i64 ((a:Int)+b),.slice (some ⟨g4,0,none⟩) (b2+bU) cap4] 231)).cell? ((⟨fp.heap.size,0,none⟩:Addr).add j)=some u):=I (λj u hu=>by
       match j,hu with
      |0,hu=>simp at hu;subst hu;simp[Addr.add]
      |1,hu=>simp at hu;subst hu;simp[Addr.add])
      refine step_append_lies (fp.alloc (.cells #[.int .i64 ((a:Int)+b),.slice (some ⟨g4,0,none⟩) (b2+bU) cap4] 231)) (by rfl) _ _ _ (by rfl) B 231 i0 (.agg #[.int .i64 0,.slice none 0 0]) 2 32 underlying226 ay bC bL bz rfl (by omega) v P.length (cp P) (by rfl) rz.out ⟨fp.heap.size,0,none⟩ 1 1 [.int .i64 ((a:Int)+b),.slice (some ⟨g4,0,none⟩) (b2+bU) cap4] (by rfl) (by rfl) j3.out (by intro u hu;simp at hu;rcases hu with rfl|rfl<;>rfl) (by omega) (by unfold maxLen;omega) (by omega) (by have:=bc.out.size;simp;omega) (fp.heap.size+1) (by simp) ?_;intro gy ik fb lU jQ qJ yv;obtain⟨N6,se⟩:=jS.out;obtain⟨⟨nV,KJ⟩,E⟩:=Hl (u:=(a+b,(g4,cap4),cb++cR)) (hk:=hk) eb.out H1.out dN.out hD.out ot.out rn.out zf.out zg.out (by have:=cj.out;omega) Fa.out iT.out (jr.out g4 cap4) bc.out se lU jQ;have l4:=I E;have rX:Below B W fb:=((bc.out.alloc bc.out.size _).mono lQ).grown jQ (by have:=bc.out.size;simp;omega) (λq hq=>(rz.out.lt q hq).1);refine hK.out _ _ (h3.out _ rX) (λhHeld=>?_);clear hK K E lU jQ qJ yv se rX
      try simp only[Act.put,setIfInBounds_toArray]
      refine wpAnyH_ready (rs:=[23]) (by kernel_rfl) (by simp) ?_;refine AllReadyH.cons rfl (λK hK=>?_) AllReadyH.nil;go_simp;refine hK.out _ _ (h3.out _ l4.out.2.1.1.1) (λhHeld=>?_);clear hK K;refine wpAnyH_done (by kernel_rfl) ?_ _;exact l4.out
  .have e2:po m k=1:=by unfold po;rw[az r5]
   rw[e2];have oy:Hid (KeepsFrom (B+3) W W/\nh B (B+1) (B+2) W W/\Fe T m B (.slice (some ⟨g,0,none⟩) m cap) w (pre++[⟨k,hk⟩]) W):=I
    ⟨KeepsFrom.refl _ _,⟨⟨Below.refl _ _,rfl⟩,rfl⟩,⟨v,P,h1,tf,by rw[map_append];exact .skip aq (by have:=cj.out;show ¬2*k+1<T.length;omega),aK⟩,⟨aT,ci⟩,c6⟩
   clear h1 tf aq aK aT ci c6;gi_wp2
   exact oy.out
 case done=>
  rintro D ys W cH MU ⟨⟨v,P,h1,af,aq,aK⟩,_,c6⟩ hK;rw[MU]at aq;obtain⟨gE,c9⟩:=Kl T _ P aq (by have:=cj.out;omega);have c1:=h1.cell;have Jm:Hid (v6 T P):=I ⟨by have:=cj.out;omega,λx ai=>(c9 x ai).1,λx ai=>(c9 x ai).2⟩;have dN:=I af;have ot:=I aK;have zg:=I c6;clear af aq aK c6 gE c9 h1;gi_wp2
  refine⟨by simp,.inl ⟨_,_,rfl,run_takeDeferred hK,?_⟩⟩;refine⟨_,results_tmp rfl _ _ _,v,P,rfl,Jm,?_,ot.out.cG (grownBy_putObj' W D (.deferred none)) λb e=>?_,?_⟩
  .rw[<-eb.out];exact ownsRow_putObj dN.out _ hK rfl
  .injection e with e
   subst e;exact⟨_,hK,λag e'=>by cases e'⟩
  .show Below (w.heap.size) w _;rw[<-eb.out];exact zg.out.trans (belowK_b (w:=w) (by have:=eb.out;omega) W D _ _ (by have:=eb.out;omega) hK rfl rfl)
 case stop=>
  rintro D c pre W _ _ h _;exact h.elim
namespace am
theorem asO{ag U:ae}(hu:xP ag U)(tg:ag.length<=256)(hex:∃x∈ag,0<x)(af:(fA ag).length<2):∀x∈U,x<=11:=by
 have h1:=Nt ag hex;obtain⟨c,i,qN⟩:∃c i,fA ag=[(c,i)]:=by
  match h:fA ag with
 |[]=>rw[h]at h1;simp at h1
 |[(c,i)]=>exact⟨c,i,rfl⟩
 |_::_::_=>rw[h]at af;simp only[bY]at af;omega
 have hm:=(pG ag ag.length (c,i)).1 (show(c,i)∈fA ag by rw[qN];simp);simp only at hm;obtain⟨ay,hc,ao⟩:=hm;have aG:=hu.cost;have e2:=(Z4 qN tg).cost;rw[<-e2,FD,FD,qN]at aG;simp only[map_cons,map_nil,sum_cons,sum_nil,fX]at aG;have e3:bX ((List.replicate ag.length 0).set i 1) i=1:=by
  unfold bX;rw[getElem?_set_self (by simpa using ay)];rfl
 rw[e3]at aG;have k6:0<c:=by omega
 have e4:bX U i=1:=Nat.eq_of_mul_eq_mul_left k6 aG;intro x ai;obtain⟨k,hk,rfl⟩:=List.mem_iff_getElem.1 ai;have tr:k<ag.length:=by rw[<-hu.len];exact hk
 by_cases At:k=i
 .subst At;unfold bX at e4;rw[bI hk,b7]at e4;omega
 .have aQ:¬0<ag[k]?.getD 0:=λh=>by
   have hmem:(ag[k]?.getD 0,k)∈fA ag:=(pG ag ag.length _).2 ⟨tr,rfl,h⟩;rw[qN]at hmem;simp only[mem_singleton]at hmem;injection hmem with _ e
   exact At e
  have:=mt (hu.just k tr).1 aQ;rw[bI hk,b7]at this;omega
end am
theorem asH:aaK:=by
 intro w A c l hl ak aj cK;refine(asG (λ_=>True) A c l w (by unfold maxLen;omega) aj cK trivial (λag U W _ hl hm hex aj hu=>?_)).mono ?_
 .by_cases af:2<=(fA ag).length
  .exact .inr (asy anR A c ag W hl hm hex af aj)
  .exact .inl (asO hu hl hex (by omega))
 .rintro e w' ⟨v,rfl,B,d,U,rfl,aI,h1,af,aq⟩;rw[cQ]at aI;exact⟨B,d,U,by rw[cQ],aI,h1,af,aq⟩
theorem Nx(l:ae):(l.map λn:Nat=>(n:Int)).map Int.toNat=l:=by
 rw[List.map_map];conv=>rhs;rw[<-List.map_id l]
 apply map_congr_left
 intro x _;simp
def pZ(w':ah)(b:Nat)(bs:ae)(e:Ending):Option (ae×Nat)->Prop
|none=>e=.returned (.tuple #[.string (strOf []),.bool false])
|some t=>e=.returned (.tuple #[.string (strOf t.1),.bool true])/\bK w' b (some (bs.drop t.2))
theorem ajf(A:a7)(c:Nat)(U:ae)(w:ah)(bk:fq U)(aj:Reads w A (aM U)) :
  Calls prog 142 #[.slice A U.length c] w λe w'=>∃g,e=.returned (.tuple #[.slice (some ⟨g,0,none⟩) U.length U.length,.bool true])/\Reads w' (some ⟨g,0,none⟩) (aM (lm U))/\w.heap.size<=g/\av w w':=by
 have hl:=bk.1;have h:=TP A c (U.map λn:Nat=>(n:Int)) w (by rw[cQ];omega) (by rw[jF];exact aj) ((HW U).2 bk);rw[cQ,Nx]at h;exact h
theorem amy(b n:Nat)(t:ae)(w:ah)(aE:t.length<=1000)(au:∀x∈t,x<256)(aA:n<=1048576)(h:bK w b (some t)) :
  Calls prog 110 #[.pointer (some ⟨b,0,none⟩),.int .i64 n] w λe w'=>pZ w' b t e (fr 2 n t)/\w.grownBy w' (some b):=by
 have bj:=I (amB w b t (by omega) au h);have e2:fr 2 n t=(match iP t with|none=>none|some p=>(nl p.1 (t.drop p.2) n).map λq=>(q.1,p.2+q.2)):=by
  unfold fr;rw[az (by decide),az (by decide),aB rfl];rfl
 rw[e2];clear e2 h;have et:=Oj t;have lY:=Ok t;cases bt:iP t with
|none=>
  rw[bt]at bj;dsimp only;clear et lY bt au aE;go_enter func110,ntmps110
  go_wp2_with fail
  refine bj.out.mono ?_;rintro e aw ⟨⟨A,c,rfl⟩,a1⟩;go_wp2;go_ret2;exact⟨rfl,a1⟩
|some p=>
  obtain⟨U,bn⟩:=p;have cg:=bj.out;rw[bt]at cg;unfold Ff at cg;dsimp only at cg;replace bj:=I cg
  clear cg;have bk:=lY (U,bn) bt;dsimp only at bk ⊢;have ko:(t.drop bn).length<=1000:=by rw[cB];omega
  have qc:∀x∈t.drop bn,x<256:=jh au bn;have hdd:∀k,(t.drop bn).drop k=t.drop (bn+k):=λk=>by rw[drop_drop]
  have EP:=I hdd;have lK:=I (λW (h:bK W b (some (t.drop bn)))=>Eh b (some (t.drop bn)) 9223372036854775807 W (by omega) (by omega) ⟨qc,by omega⟩ h);have kB:=I bk;clear et lY bt au aE bk hdd;generalize t.drop bn=u at *;by_cases hc:0<(aX u).2/\(aX u).1<=u.length-(aX u).2
  .have iM:=asm u hc (by omega);have CA:nl U u n=(nX U ((u.drop (aX u).2).take (aX u).1) n).map λx=>(x,(aX u).2+(aX u).1):=by unfold nl;rw[aB hc]
   rw[iM]at lK;rw[CA];dsimp only at lK;obtain⟨hH,jA⟩:∃hH,hH=(u.drop (aX u).2).take (aX u).1:=⟨_,rfl⟩;have hz:hH.length<=1000:=by rw[jA,cr,cB];omega
   have mr:∀x∈hH,x<256:=λx ai=>qc x (mem_of_mem_drop (mem_of_mem_take (by rw[jA]at ai;exact ai)))
   rw[<-jA]at lK ⊢;obtain⟨k,hk⟩:∃k,k=(aX u).2+(aX u).1:=⟨_,rfl⟩;rw[<-hk]at lK ⊢;have vK:=I (λW A c (aj:Reads W A (aM U))=>al7 A c U hH n W kB.out (by omega) hz mr aj (ajf A c U W kB.out aj));have Hlen:=I (λd (h:nX U hH n=some d)=>(FS U hH d n mr h).2.2);clear hc iM CA jA hz mr hk ko qc;have PX:=I (λW A c bs h1 af=>oL W A c bs h1 af);generalize strOf hH=axy at *;go_enter func110,ntmps110
   go_wp2_with fail
   refine bj.out.mono ?_;rintro e aw ⟨⟨A,c,rfl,yF,jB⟩,a1⟩;have dm:=I a1;have zx:=I yF;have abP:=I jB;have xJ:=I (lK.out aw jB);clear yF a1 jB;go_wp2_with fail
   refine xJ.out.mono ?_;rintro e aC ⟨rfl,gb,bp⟩;have du:=I (ef dm.out bp);have l7:=I (gu b _ aC gb);have adz:=I (apL abP.out zx.out bp);have pd:=I gb;clear bp gb;go_wp2_with fail
   refine l7.out.mono ?_;rintro e a6 ⟨rfl,rfl⟩;have zn:=I (vK.out aC A c adz);cases r2:nX U hH n with
  |none=>
    rw[r2]at zn;have hnil:∀W A c,(convert 87 9 (.slice A 0 c)).run prog W=.ok (.string (strOf [])) W:=λW A c=>PX.out W A c [] (by simp) (λh=>absurd rfl h)
    have IP:=I r2;clear r2;go_wp2_with fail
    refine zn.out.mono ?_;rintro e bH ⟨⟨pO,c4,rfl⟩,bc⟩;have hQ:=I (ef du.out (dj bc (some b)));have hcv:=hnil bH pO c4;clear bc hnil;go_wp2;go_ret2;rw[IP.out];exact⟨rfl,hQ⟩
  |some d=>
    rw[r2]at zn;have TV:∀x∈d,x<256:=λx ai=>gJ (Hlen.out d r2 x ai) kB.out.1
    have TU:=I (λW A c h=>PX.out W A c d TV h);have IP:=I r2;clear r2 TV;have abQ:Hid (bK aC b (some (t.drop (bn+k)))):=I (by rw[<-EP.out];exact pd);go_wp2_with fail
    refine zn.out.mono ?_;rintro e bH ⟨⟨pO,c4,rfl,_,Vi⟩,bc⟩;have hcv:=TU.out bH pO c4 Vi;have hQ:=I (ef du.out (dj bc (some b)));have vJ:=I (abQ.out.below bc);clear bc TU Vi;generalize VG:strOf d=YQ at *;have adT:=I VG;clear VG;go_wp2;go_ret2;rw[IP.out,<-adT.out];exact⟨⟨rfl,vJ⟩,hQ⟩
  .have iM:=asl u hc (by omega);have CA:nl U u n=none:=by unfold nl;rw[az hc]
   rw[iM]at lK;rw[CA];dsimp only at lK;rw[map_none];have nP:=I (cy []);generalize strOf []=YJ at *;clear iM CA hc ko qc;go_enter func110,ntmps110
   go_wp2_with fail
   refine bj.out.mono ?_;rintro e aw ⟨⟨A,c,rfl,yF,jB⟩,a1⟩;have dm:=I a1;have xJ:=I (lK.out aw jB);clear yF a1 jB;go_wp2_with fail
   refine xJ.out.mono ?_;rintro e aC ⟨rfl,gb,bp⟩;have du:=I (ef dm.out bp);have l7:=I (gu b _ aC gb);clear bp gb;go_wp2_with fail
   refine l7.out.mono ?_;rintro e a6 ⟨rfl,rfl⟩;go_wp2;go_ret2;exact⟨rfl,du⟩
namespace am
theorem aih(s U:ae)(h:tV (il s) U)(ao:0<s.length):cA U=U:=by
 have hl:=h.len;rw[FH]at hl;obtain⟨x,ai⟩:∃x,x∈s:=by
  cases s with
 |nil=>simp at ao
 |cons x s=>exact⟨x,dU⟩
 have:=w8 s x ai;obtain⟨b,ak,e⟩:=O5 s (by omega);have ax:=h.fit b (by rw[FH];omega) (RX s b ak);refine Y0 U ?_;rw[show U.length-1=b by omega];omega
theorem aig(s U:ae)(h:tV (il s) U):∀b∈s,0<U[b]?.getD 0:=λb ak=>h.fit b (by rw[FH];exact w8 s b ak) (RX s b ak)
theorem agH(U bs:ae)(h:∀x∈U,x<=11):Fy U bs<=11*bs.length:=by
 unfold Fy;induction bs with
|nil=>simp
|cons b bs ih=>
  have aq:=CJ h b;rw[map_cons,sum_cons,bY];omega
def H5(s U c:ae):Prop:=fq U/\cA U=U/\qG U s=some c/\c.length<=100000/\∀x∈c,x<256
theorem agL(s U:ae)(h:tV (il s) U)(ao:0<s.length)(ap:s.length<=10000):∃c,H5 s U c:=by
 obtain⟨t,aE⟩:=Sg U s (aig s U h);have e1:=Sc U s t aE;have hz:=agH U s h.whole.2.1;refine⟨oX t,h.whole,aih s U h ao,by rw[qG,aE];rfl,by rw[NZ];omega,XZ t⟩
end am
theorem ajg(A:a7)(c:Nat)(U:ae)(w:ah)(bk:fq U)(aj:Reads w A (aM U)) :
  Calls prog 142 #[.slice A U.length c] w λe w'=>∃g,e=.returned (.tuple #[.slice (some ⟨g,0,none⟩) U.length U.length,.bool true])/\Reads w' (some ⟨g,0,none⟩) (aM (lm U))/\w.heap.size<=g/\av w w':=by
 have hl:=bk.1;have h:=TP A c (U.map λn:Nat=>(n:Int)) w (by rw[cQ];omega) (by rw[jF];exact aj) ((HW U).2 bk);rw[cQ,Nx]at h;exact h
theorem amR(A:a7)(c:Nat)(U:ae)(w:ah)(bk:fq U)(hc:U.length<=c)(aj:Reads w A (aM U)) :
  Calls prog 107 #[.slice A U.length c] w λe w'=>e=.returned (.tuple #[.string (strOf (gM (cA U))),.bool true])/\av w w':=by
 have hl:=bk.1;have h:=amQ w A c (U.map λn:Nat=>(n:Int)) (by rw[cQ];omega) (by rw[cQ];exact hc) (λx ai=>by
  obtain⟨n,aA,rfl⟩:=List.mem_map.1 ai;have:=bk.2.1 n aA;constructor<;>omega) (by rw[jF];exact aj)
 rw[cQ,Nx,aB ((HW U).2 bk)]at h;exact h
theorem asI(A:a7)(c:Nat)(s:ae)(w:ah)(ao:0<s.length)(ap:s.length<=10000)(au:∀x∈s,x<256)(aj:Reads w A (aM (il s))) :
  Calls prog 106 #[.slice A (eL s) c] w λe w'=>∃B d U,e=.returned (.tuple #[.slice B (eL s) d,.bool true])/\eL s<=d/\U.length=eL s/\Reads w' B (aM U)/\(∃c,H5 s U c)/\av w w':=by
 have aE:=tP s au;have h1:=asH w A c (ei s) (by rw[s8];omega) (λx ai=>by have:=FF s x ai;constructor<;>omega) (by unfold ei;rw[jF];exact aj) (RS s au (by omega) ao);rw[s8,ag1]at h1;refine h1.mono ?_;rintro e w' ⟨B,d,U,rfl,aI,bt,aF,ak⟩;exact⟨B,d,U,rfl,aI,by rw[aF.len,FH],bt,agL s U aF ao ap,ak⟩
theorem amk(A:a7)(c:Nat)(s:ae)(w:ah)(ao:0<s.length)(ap:s.length<=10000)(au:∀x∈s,x<256)(aj:Reads w A (aM (il s))) :
  Calls prog 68 #[.string (strOf s),.slice A (eL s) c] w λe w'=>(∃U c,H5 s U c/\e=.returned (.tuple #[.string (strOf (mO U c s)),.bool true]))/\av w w':=by
 have gj:=I (asI A c s w ao ap au aj);have hcv:=λW=>nW W s au
 have nP:=I hcv;have Jw:∀W,Calls prog 66 #[.int .u64 2,.string (strOf s)] W _:=λW=>Ns 2 s W (by decide) (by omega)
 have Jv:=I Jw;have ce:=I au;have ca:=I ap;clear aj au hcv ao ap;go_enter func68,ntmps68
 go_wp2_with fail
 refine gj.out.mono ?_;rintro e aw ⟨B,d,U,rfl,aI,iq,bt,⟨hH,jA⟩,aH⟩;have I7:=I iq;have htab:=amR B d U aw jA.1 (by omega) bt;rw[jA.2.1,iq]at htab;have Cg:=I htab;have ep:=I bt;have kg:=I jA;have aN:=I aH;clear bt jA aH htab iq aI;go_wp2_with fail
 refine Cg.out.mono ?_;rintro e aC ⟨rfl,aJ⟩;obtain⟨a6,cap,dS,hcell,bA⟩:=nP.out aC;have cO:Reads a6 (some ⟨aC.heap.size,0,none⟩) (aO s):=λ_=>⟨_,_,rfl,λj ar=>by
  rw[i7]at ar;rw[ez,hcell j ar,jq s j ar]⟩
 have pD:=c7 (c7 ep.out aJ) bA;have henc:=amc B (some ⟨aC.heap.size,0,none⟩) d cap U s a6 kg.out.1 ca.out ce.out pD cO (ajg B d U a6 kg.out.1 pD);rw[kg.out.2.2.1,I7.out]at henc;unfold En at henc;dsimp only at henc;have BJ:=I henc;have b6:=I (aN.out.trans ((aJ.trans (bA.mono aJ.size)).mono aN.out.size));clear aJ bA cO pD henc hcell;have hz:=kg.out.2.2.2.1;have e1:(gM U).length<=200:=by
  rw[w7];have:=kg.out.1.1;omega
 have AN:=lP s.length (by have:=ca.out;omega);have fD:=I (λW b h=>tR b (2::bg s.length) (gM U) W (by rw[bY];omega) h);have QH:=I (λW b h=>HZ b (2::bg s.length++gM U) hH W (by rw[aY,bY];omega) (by omega) h);have wO:=lP hH.length (by omega);have e0:2::bg s.length++gM U++(bg hH.length++hH)=mO U hH s:=by
  unfold mO;simp only[cons_append,df]
 have hall:∀x∈mO U hH s,x<256:=by
  have hX:=kg.out.1;refine Be 2 _ _ (by decide) (by have:=ca.out;omega) (Cp (Et U hX.2.1 hX.1) (Cp (qb _ (by omega)) kg.out.2.2.2.2))
 have hlen:(mO U hH s).length<=1000000:=by
  unfold mO;simp only[bY,aY];omega
 rw[e0]at QH;have hj:=I (λW b h=>vC b (mO U hH s) W (by omega) hall h);clear e0 hall hlen hz e1 AN wO;go_wp2_with fail
 refine BJ.out.mono ?_;rintro e bH ⟨rfl,bc⟩;have dt:=b3 b6 bc;clear bc;go_wp2_with fail
 refine(Jv.out bH).mono ?_;rintro e dp ⟨rfl,jm,cL⟩;have dX:=b3 dt cL;have pe:=I dt.out.size;have qB:=I (fD.out dp _ jm);clear jm cL;generalize bH.heap.size=b at *;go_wp2_with fail
 refine qB.out.mono ?_;rintro e dB ⟨rfl,uQ,gk⟩;have kf:=I (dX.out.trans (below_grown gk pe.out dX.out.size));have ad5:=I (QH.out dB _ uQ);clear uQ gk;go_wp2_with fail
 refine ad5.out.mono ?_;rintro e dk ⟨rfl,rY,yf⟩;have ic:=I (kf.out.trans (below_grown yf pe.out kf.out.size));have adO:=I (hj.out dk _ rY);clear rY yf;go_wp2_with fail
 refine adO.out.mono ?_;rintro e oo ⟨rfl,k3⟩;have zh:=b3 ic k3;clear k3;go_wp2;go_ret2;exact⟨⟨U,hH,kg,rfl⟩,zh⟩
theorem aml(A:a7)(c:Nat)(s:ByteArray)(w:ah) :
  Calls prog 68 #[.string s,.slice A 0 c] w λe w'=>e=.returned (.tuple #[.string (strOf []),.bool false])/\av w w':=by
 have h:Calls prog 106 #[.slice A 0 c] w _:=asJ A c [] w (by unfold maxLen;simp) (λh=>absurd rfl h) (by rintro⟨_,_,x,ai,_⟩;simp at ai);have H:=I h;clear h;go_enter func68,ntmps68
 go_wp2_with fail
 refine H.out.mono ?_;rintro e w' ⟨rfl,rfl⟩;go_wp2;go_ret2;exact⟨rfl,Below.refl _ _⟩
theorem amK(k:Nat)(s:ae)(w:ah)(hk:k<256)(ap:s.length<=10000000) :
  Calls prog 66 #[.int .u64 k,.string (strOf s)] w λe w'=>∃b,e=.returned (.pointer (some ⟨b,0,none⟩))/\fH w' b (k::bg s.length)/\w.heap.size<=b/\av w w':=
 (Ns k s w hk ap).mono λ_ _ ⟨h1,af,aq⟩=>⟨_,h1,af,Nat.le_refl _,aq⟩
theorem amL(s:ae)(w:ah)(ap:s.length<=10000)(au:∀x∈s,x<256)(h1:gv (ei s)=1) :
  Calls prog 37 #[.string (strOf s)] w λe w'=>e=.returned (.string (strOf (Co s)))/\av w w':=by
 obtain⟨x,ai,ao⟩:=NQ s h1;obtain⟨aw,cap,dS,hcell,aH⟩:=nW w s au;have cO:Reads aw (some ⟨w.heap.size,0,none⟩) (aO s):=λ_=>⟨_,_,rfl,λj ar=>by
  rw[i7]at ar;rw[ez,hcell j ar,jq s j ar]⟩
 have xw:=I (XB (some ⟨w.heap.size,0,none⟩) cap s aw (by omega) au cO);have iv:=λA c W h=>NJ A c s W au h
 rw[h1]at iv;have ju:=I iv;have Jw:∀W,Calls prog 66 #[.int .u64 1,.string (strOf s)] W _:=λW=>amK 1 s W (by decide) (by omega)
 have Jv:=I Jw;have AN:=lP s.length (by omega);have wN:(s.take 1).length<=1:=by rw[cr];omega
 have fD:=I (λW b h=>tR b (1::bg s.length) (s.take 1) W (by rw[bY];omega) h);have hj:=I (λW b h=>vC b ((1::bg s.length)++s.take 1) W (by rw[aY,bY];omega) (Be 1 s.length (s.take 1) (by decide) (by omega) (pN au 1)) h);have e0:(1::bg s.length)++s.take 1=Co s:=rfl;rw[e0]at fD hj;have hcut:∀W:ah,(Instr.slice 9 (.string (strOf s)) none (some (.int .i64 1)) none).run prog W=.ok (.string (strOf (s.take 1))) W:=λW=>rb s 1 (by omega) W
 have bB:=cy s;have aN:=I aH;clear ai hcell cO iv AN wN e0 h1 au aH;generalize Co s=E at *;generalize strOf (s.take 1)=s1 at *;generalize strOf s=str at *;go_enter func37,ntmps37
 go_wp2_with fail
 refine xw.out.mono ?_;rintro e aC ⟨A,c,rfl,bS,aJ⟩;have bm:=b3 aN aJ;have iT:=I (ju.out A c aC bS);clear bS aJ dS;go_wp2_with fail
 refine iT.out.mono ?_;rintro e a6 ⟨rfl,bA⟩;have b6:=b3 bm bA;clear bA;go_upto_region 3 with fail
 refine wp_region_held_drew (S:=(λ_:ah=>True)) (by kernel_rfl) (by trivial) (λhHeld=>?_);refine bJ 0 {dst:=some 13,op:=.move (.tmp 0),type:=9,pos:= "lits.go:30",after:=#[],guard:=none} ?_ rfl (Or.inl ⟨by rfl,?_⟩) ?_;rotate_left
 ·(intro w hSw;(try dsimp only at hSw);go_simp;(try with_reducible rfl))
 try simp only[bf]
 refine bJ 2 {dst:=some 15,op:=.move (.tmp 0),type:=9,pos:= "lits.go:30",after:=#[],guard:=none} ?_ rfl (Or.inl ⟨by rfl,?_⟩) ?_;rotate_left
 ·(intro w hSw;(try dsimp only at hSw);go_simp;(try with_reducible rfl))
 try simp only[bf]
 refine bJ 3 {dst:=some 16,op:=.slice 9 (.tmp 15) none (some (.const (.int .i64 1))) none,type:=9,pos:= "lits.go:30",after:=#[{on:=2,ground:=.data}],guard:=none} ?_ rfl (Or.inl ⟨by rfl,?_⟩) ?_;rotate_left
 ·(intro w hSw;(try dsimp only at hSw);go_simp;(try with_reducible rfl))
 try simp only[bf]
 refine hd 1 {dst:=some 14,op:=.call {callee:=.value (.func 66),args:=#[.const (.int .u64 1),.tmp 13],argTypes:=#[31,9]},type:=63,pos:= "lits.go:30",after:=#[{on:=0,ground:=.data}],guard:=none} rfl (λK hK=>?_);go_simp
 (go_at_call 66;refine(Jv.out _).mono ?_;rintro e bH ⟨b,rfl,nv,kn,bc⟩;have ib:=I (b6.out.drew.trans (bc.mono b6.out.size));have eb:=I (dl b6.out.drew.size kn);have mG:=I nv;clear nv bc kn)
 go_simp;refine hK.out _ _ (by trivial) (λhHeld=>?_);clear hK K
 try simp only[bf]
 refine hd 4 {dst:=some 17,op:=.call {callee:=.value (.func 33),args:=#[.tmp 14,.tmp 16],argTypes:=#[63,9]},type:=63,pos:= "lits.go:30",after:=#[{on:=1,ground:=.data},{on:=3,ground:=.data},{on:=1,ground:=.chain}],guard:=none} rfl (λK hK=>?_);go_simp
 (go_at_call 33;refine(fD.out _ _ mG).mono ?_;rintro e dp ⟨rfl,jm,fi⟩;have ro:=I (ib.out.trans (below_grown fi eb.out ib.out.size));have xj:=I jm;clear jm fi)
 go_simp;refine hK.out _ _ (by trivial) (λhHeld=>?_);clear hK K
 try simp only[bf]
 refine hd 5 {dst:=some 18,op:=.call {callee:=.value (.func 34),args:=#[.tmp 17],argTypes:=#[63]},type:=9,pos:= "lits.go:30",after:=#[{on:=4,ground:=.data},{on:=4,ground:=.chain}],guard:=none} rfl (λK hK=>?_);go_simp
 (go_at_call 34;refine(hj.out _ _ xj).mono ?_;rintro e dB ⟨rfl,gA⟩;have nN:=b3 ro gA;clear gA)
 go_simp;refine hK.out _ _ (by trivial) (λhHeld=>?_);clear hK K
 try simp only[bf]
 refine bJ 6 {dst:=some 2,op:=.assign (.tmp 18),type:=9,pos:= "lits.go:30",after:=#[{on:=5,ground:=.data},{on:=5,ground:=.chain},{on:=0,ground:=.phase},{on:=1,ground:=.phase},{on:=2,ground:=.phase},{on:=3,ground:=.phase},{on:=4,ground:=.phase},{on:=5,ground:=.phase}],guard:=none} ?_ rfl (Or.inl ⟨by rfl,?_⟩) ?_;rotate_left
 ·(intro w hSw;(try dsimp only at hSw);go_simp;(try with_reducible rfl))
 try simp only[bf]
 refine wpAnyH_done (by kernel_rfl) ?_ _;go_wp2;go_ret;exact⟨rfl,nN⟩
theorem amN(s:ae)(w:ah)(ap:s.length<=10000)(au:∀x∈s,x<256)(h1:gv (ei s)≠1) :
  Calls prog 37 #[.string (strOf s)] w λe w'=>(∃E,xO s E/\e=.returned (.string (strOf E)))/\av w w':=by
 obtain⟨aw,cap,dS,hcell,aH⟩:=nW w s au;have cO:Reads aw (some ⟨w.heap.size,0,none⟩) (aO s):=λ_=>⟨_,_,rfl,λj ar=>by
  rw[i7]at ar;rw[ez,hcell j ar,jq s j ar]⟩
 have xw:=I (XB (some ⟨w.heap.size,0,none⟩) cap s aw (by omega) au cO);obtain⟨m,hm⟩:∃m,m=gv (ei s):=⟨_,rfl⟩;have iv:=λA c W h=>NJ A c s W au h
 rw[<-hm]at h1 iv;have ju:=I iv;have auE:((m:Int)==1)=false:=cz
 have fD:=I (λW=>amA s W (by omega) au);have adl:=I (aqO s au (by omega));have aN:=I aH;have eZ:(s=[]/\eL s=0)\/0<s.length:=by
  cases s with
 |nil=>exact .inl ⟨rfl,rfl⟩
 |cons x s=>exact .inr (by simp)
 have j2:=I (λA c W ao h=>amk A c s W ao ap au h);have ff:=I (λA c W=>aml A c (strOf s) W);have ca:=I ap;clear hcell cO iv aH au hm ap;go_enter func37,ntmps37
 go_wp2_with fail
 refine xw.out.mono ?_;rintro e aC ⟨A,c,rfl,bS,aJ⟩;have bm:=b3 aN aJ;have iT:=I (ju.out A c aC bS);have fg:=I bS;clear bS aJ dS;go_wp2_with fail
 refine iT.out.mono ?_;rintro e a6 ⟨rfl,bA⟩;have b6:=b3 bm bA;have sZ:=I (c7 fg.out bA);clear bA h1;go_wp2_with fail
 refine(fD.out a6).mono ?_;rintro e bH ⟨rfl,bc⟩;have dt:=b3 b6 bc;have vS:=I (c7 sZ.out bc);clear bc;have aky:=cy (q4 s);have dO:Hid (∃ze,xO s ze/\strOf (q4 s)=strOf ze):=I ⟨q4 s,adl,rfl⟩;generalize Ux:(q4 s).length=DQ at aky;have acL:=I Ux;clear Ux;generalize strOf (q4 s)=YK at *;rcases eZ with⟨_,aE⟩|ao
 .rw[aE];have ac2:=I (ff.out A c bH);clear aE;generalize strOf s=str at *;have es:(strOf []).size=0:=cy [];generalize strOf []=YJ at *;go_wp2_with fail
  refine ac2.out.mono ?_;rintro e dp ⟨rfl,cL⟩;have dX:=b3 dt cL;clear cL;obtain⟨ze,h1,af⟩:=dO.out;have H1:=I h1;have dN:=I af;clear h1 af;go_wp2;go_ret;exact⟨⟨ze,H1,congrArg (λx=>Ending.returned (Value.string x)) dN⟩,dX⟩
 .have I2:=I (j2.out A c bH ao vS);go_wp2_with fail
  refine I2.out.mono ?_;rintro e dp ⟨⟨U,hH,jA,rfl⟩,cL⟩;have dX:=b3 dt cL;have kg:=I jA;have akw:=cy (mO U hH s);clear cL jA;by_cases hl:(mO U hH s).length<DQ
  .have adk:=I (aqJ U hH s (by have:=ca.out;omega) kg.out.1 kg.out.2.1 kg.out.2.2.1 (by have:=kg.out.2.2.2.1;omega) kg.out.2.2.2.2 (by rw[acL.out];exact hl));have d1:decide (((mO U hH s).length:Int)<DQ)=true:=cf;have d2:decide ((mO U hH s).length<DQ)=true:=bE hl;clear hl;generalize mO U hH s=E at *;have dN:=I (rfl:strOf E=strOf E);generalize fx:strOf E=Ov at akw dN ⊢;have hD:=I fx.symm;clear fx;generalize E.length=al4 at *;go_wp2;go_ret;exact⟨⟨E,adk,congrArg (λx=>Ending.returned (Value.string x)) hD⟩,dX⟩
  .have d1:decide (((mO U hH s).length:Int)<DQ)=false:=aU;have d2:decide ((mO U hH s).length<DQ)=false:=bG hl;clear hl;generalize strOf (mO U hH s)=Ov at *;generalize (mO U hH s).length=al4 at *;obtain⟨ze,h1,af⟩:=dO.out;have H1:=I h1;have dN:=I af;clear h1 af;go_wp2;go_ret;exact⟨⟨ze,H1,congrArg (λx=>Ending.returned (Value.string x)) dN⟩,dX⟩
theorem amM(s:ae)(w:ah)(ap:s.length<=10000)(au:∀x∈s,x<256) :
  Calls prog 37 #[.string (strOf s)] w λe w'=>(∃E,xO s E/\e=.returned (.string (strOf E)))/\av w w':=by
 by_cases h1:gv (ei s)=1
 .exact(amL s w ap au h1).mono λe w' ⟨he,ak⟩=>⟨⟨_,aqI s au (by omega) h1,he⟩,ak⟩
 .exact amN s w ap au h1
end Go.Proofs.YtgiicohbigiapaaGreat
