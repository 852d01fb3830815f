/- Contracts, and what they rest on. Conditions: the theorems' premises. -/
import Derived.Test.YtaebnkeddcbmkaaGreatYau
import Derived.Test.YtaebnkeddcbmkaaGreatYax
set_option maxHeartbeats 4000000
set_option maxRecDepth 100000
open Go.Lib(hid)
open Go.Proofs.Tryz Go.Proofs.YtaebnkeddcbmkaaGreat.Bm
namespace Go.Proofs.YtaebnkeddcbmkaaGreat
open Go.RowKit Go.Shelf
attribute [local go_sem] Oper.semAt_some
theorem Py{n l:Nat}{P:Program}{row:String}{args:Array Value}{w:World}{R:Value->World->Prop}(h:Rows P row args w R):RowsIn (Fence.wide.inRound l) n P row args w R:=fun c cs _=>by
 obtain⟨v,w',hR,hs⟩:=h c cs;exact⟨v,w',hR,stepsIn_wide.2 hs⟩
theorem UY{n l:Nat}{P:Program}{ops:Array Oper}{Q:Exit->Act->World->Prop}(hnd:∀(i:Nat) (o:Oper),ops[i]?=some o->∀c,o.op≠.defer c)(hQ:¬LetsOut Q) :
  ∀(L:List Nat) (a:Act) (w:World),wpOps P ops Q L a w->wpOpsIn (Fence.wide.inRound l) n P ops Q L a w:=by
 intro L;induction L with
 | nil=>exact fun a w h=>h
 | cons i rest ih=>
  intro a w h;simp only[wpOps]at h;simp only[wpOpsIn];cases ho:ops[i]? with
  | none=>rw[ho]at h;exact ih a w h
  | some o=>
   rw[ho]at h;dsimp only at h ⊢;by_cases hw:Region.wanted o (yielded ops a.tmps)=true
   ·rw[if_pos hw]at h ⊢;rcases h with h | ⟨_,h⟩
    ·refine⟨fun _ _=>trivial,?_⟩;show o.uponIn _ n P a _ Q ((o.semAt (some l) a.eval).run P w);rw[Oper.semAt_some l _ _ (hnd i o ho)];unfold Oper.wp at h;generalize (execOp a.eval o).run P w=r at *;cases r with
     | ok x w'=>
      cases x with
      | value v=>exact ih _ _ h
      | skip=>exact ih _ _ h
      | defer d=>exact ih _ _ h
      | enter f args=>
       refine⟨fun hd=>(by cases hd),?_⟩;refine CallsIn.mono (CallsIn.inRound l (callsIn_wide.2 h)) fun e w'' he=>?_
       cases e with
       | returned v=>exact ih _ _ he
       | panicked c=>exact he
       | outgrown=>exact he
      | row row args=>exact⟨fun hd=>(by cases hd),RowsIn.mono (Py h) fun v w'' he=>ih _ _ he⟩
      | _=>exact h.elim
     | halt x w'=>
      cases x with
      | panic v=>exact h
      | _=>exact h.elim
    ·exact absurd h hQ
   ·rw[if_neg hw]at h ⊢;exact⟨fun _ _=>trivial,ih _ _ h⟩
theorem Fz{n l id:Nat}{P:Program}{ops:Array Oper}{Q:Exit->Act->World->Prop}{S:World->Prop}{a:Act}{w:World}(hm:P.follows .mixedOrders=true)(hnd:ops.all (fun o=>match o.op with | .defer _=>false | _=>true)=true)(hQ:¬LetsOut Q)(hS:S w.drew)
  (h:S w.drew->wpAnyH P .any ops Q S ops.size (Array.replicate ops.size false) a w.drew):(Code.region id ops true).wpIn (Fence.wide.inRound l) n P Q a w:=
 wpIn_region_draw fun t=>by
  simp only[Region.schedule,hm,Bool.true_or,if_true];refine UY (fun i o ho c hc=>?_) hQ _ _ _ (wpAny_sound ops.size t _ a _ (wpAny_of_held _ _ _ _ (h hS)));obtain⟨hi,rfl⟩:=Array.getElem?_eq_some_iff.1 ho;have h1:=Array.all_eq_true.1 hnd i hi;rw[hc]at h1;cases h1
def mM(n₀ Bs Bn:Nat)(A B:World):Prop:=oD n₀ Bs A B/\B.heap[Bn]?=A.heap[Bn]?
theorem mM.t{n₀ Bs Bn:Nat}{A B C:World}(h:mM n₀ Bs Bn A B)(k:mM n₀ Bs Bn B C):mM n₀ Bs Bn A C:=⟨h.1.t k.1,k.2.trans h.2⟩
theorem mM.b{n₀ Bs Bn:Nat}{w:World}(hn:n₀<=w.heap.size)(hB:Bs<w.heap.size)(hC:Bn<w.heap.size)(W:World)(l:Nat)(o o':Obj)(hl:w.heap.size<=l)(h:W.heap[l]?=some o)(h1:o.isCells=false)(h2:o.isWalk=false):mM n₀ Bs Bn W (W.putObj l o'):=
 ⟨oD.b hn hB W l o o' hl h h1 h2,World.putObj_heap_other (by omega)⟩
abbrev Chk(m:Nat):={k:Nat // 2*k<m}
def jK(m k:Nat):Nat:=if 2*k+1<m then 2 else 1
def Chk.enc(g m:Nat)(x:Chk m):Array Value:=#[.slice (some ⟨g,2*x.1*2,none⟩) (jK m x.1) (jK m x.1)]
theorem Sn(n:Nat)(hn:1<=n)(l Bs Bn n₀ g m c:Nat)(hmc:m<=c)(hm:m<=1000)(J Jx:List (Chk m)->World->Prop)
  (hY:∀pre x W,J pre W->pre.length<(m+1)/2->YieldAt Fence.wide (n-1) prog l (Chk.enc g m x) W fun e W'=>
   (e=.returned (.bool true)/\J (pre++[x]) W'/\mM n₀ Bs Bn W W')\/(e=.returned (.bool false)/\Jx (pre++[x]) W'))
  (hJd:∀pre W,J pre W->J pre W.drew)
  (W:World) (hBs:W.cell? ⟨Bs,0,none⟩=some (.slice (some ⟨g,0,none⟩) m c)) (hBn:W.cell? ⟨Bn,0,none⟩=some (.int .i64 2)) (h0:J [] W) :
  CallsIn Fence.wide n prog 199 #[.func (.yield l) #[] #[],.pointer (some ⟨Bs,0,none⟩),.pointer (some ⟨Bn,0,none⟩)] W fun e W'=>(∃v,e=.returned v) /\
   ((∃ys,ys.map (·.1)=List.range ((m+1)/2)/\J ys W')\/(∃pre:List (Chk m),True/\Jx pre W')):=by
 refine callsIn_of_wp func199 rfl trivial ?_ rfl;simp only[ntmps199,List.size_toArray,List.length_cons,List.length_nil,Nat.reduceAdd,Nat.reduceSub,Array.replicate_succ,Array.replicate_zero,List.push_toArray,List.append_toArray,List.nil_append,List.cons_append];gi_wp2
 gi_loopw [4] (fun i wr=>∃(k q:Nat) (pre:List (Chk m)),2*k<=m+1/\i=.int .i64 (q:Int)/\Hid (q=2*k)/\Hid (pre.map (·.1)=List.range k)/\J pre wr/\Hid (mM n₀ Bs Bn W wr))
  (fun i _=>(m+2-intOf i).toNat)
 case atStart=>exact⟨0,0,[],by omega,rfl,hid rfl,hid rfl,h0,hid ⟨⟨Below.refl _ _,rfl⟩,rfl⟩⟩
 case round=>
  obtain⟨k,q,pre,hk,rfl,hq,hp,hJs,hkb⟩:=hrel;have hpl:pre.length=k:=by
   have:=congrArg List.length hp.out;rw[List.length_map,List.length_range]at this;exact this
  have cS:wr.cell? ⟨Bs,0,none⟩=some (.slice (some ⟨g,0,none⟩) m c):=(World.cell?_of_block (a:=⟨Bs,0,none⟩) hkb.out.1.2).trans hBs;have cN:wr.cell? ⟨Bn,0,none⟩=some (.int .i64 2):=(World.cell?_of_block (a:=⟨Bn,0,none⟩) hkb.out.2).trans hBn;by_cases hlt:q<m
  ·have hkm:2*k<m:=by have:=hq.out;omega
   obtain⟨fn,tmps,assign,body,hy,hR⟩:=hY pre ⟨k,hkm⟩ wr.drew (hJd _ _ hJs) (by omega);have hp2:(pre++[(⟨k,hkm⟩:Chk m)]).map (fun x:Chk m=>x.1)=List.range (k+1):=by rw[List.map_append,hp.out,List.range_succ];rfl
   have Hp2:=hid hp2;unfold Chk.enc at hy;dsimp only at hy;rw[<-hq.out]at hy;by_cases h2:q+1<m
   ·have e2:jK m k=2:=by unfold jK;rw[if_pos (by have:=hq.out;omega)]
    rw[e2]at hy;clear hp2 hp hBs hBn;gi_wp2
    have q1:q<=m:=by omega
    have q2:¬c=q:=by omega
    have q3:min 2 ((m-q:Nat):Int)=2:=by omega
    refine wpIn_wide.2 ?_;go_region_held3 (fun W'=>W'.cell? ⟨Bs,0,none⟩=some (.slice (some ⟨g,0,none⟩) m c)/\W'.cell? ⟨Bn,0,none⟩=some (.int .i64 2)) (first | exact⟨cS,cN⟩) (fail)
    clear cS cN;rename_i hHeld
    obtain⟨cS,cN⟩:=hHeld;gi_wp2
    refine hR.mono ?_;rintro e W3 (⟨rfl,hJ3,hk3⟩ | ⟨rfl,hJx3⟩)
    ·have d1:W3.cell? ⟨Bs,0,none⟩=some (.slice (some ⟨g,0,none⟩) m c):=(World.cell?_of_block (a:=⟨Bs,0,none⟩) hk3.1.2).trans cS;have d2:W3.cell? ⟨Bn,0,none⟩=some (.int .i64 2):=(World.cell?_of_block (a:=⟨Bn,0,none⟩) hk3.2).trans cN;have Hk3:Hid (mM n₀ Bs Bn W W3):=hid (hkb.out.t (mM.t ⟨⟨(Below.refl _ _).drew,rfl⟩,rfl⟩ hk3));have Hq1:=hid (show q+2=2*(k+1) by have:=hq.out;omega);clear cS cN hR hy hk3 hkb hq;gi_wp2
     go_roundw
     case rel=>exact⟨k+1,q+2,_,by omega,by go_num,Hq1,Hp2,hJ3,Hk3⟩
     case measure=>simp[intOf];omega
    ·clear cS cN hy;gi_wp2
     refine bodyPost_ret (results_none rfl _ _ _) rfl ?_;exact⟨⟨_,rfl⟩,.inr ⟨_,trivial,hJx3⟩⟩
   ·have e2:jK m k=1:=by unfold jK;rw[if_neg (by have:=hq.out;omega)]
    rw[e2]at hy;clear hp2 hp hBs hBn;gi_wp2
    have q1:q<=m:=by omega
    have q2:¬c=q:=by omega
    have q3:min 2 ((m-q:Nat):Int)=1:=by omega
    refine wpIn_wide.2 ?_;go_region_held3 (fun W'=>W'.cell? ⟨Bs,0,none⟩=some (.slice (some ⟨g,0,none⟩) m c)/\W'.cell? ⟨Bn,0,none⟩=some (.int .i64 2)) (first | exact⟨cS,cN⟩) (fail)
    clear cS cN;rename_i hHeld
    obtain⟨cS,cN⟩:=hHeld;gi_wp2
    refine hR.mono ?_;rintro e W3 (⟨rfl,hJ3,hk3⟩ | ⟨rfl,hJx3⟩)
    ·have d1:W3.cell? ⟨Bs,0,none⟩=some (.slice (some ⟨g,0,none⟩) m c):=(World.cell?_of_block (a:=⟨Bs,0,none⟩) hk3.1.2).trans cS;have d2:W3.cell? ⟨Bn,0,none⟩=some (.int .i64 2):=(World.cell?_of_block (a:=⟨Bn,0,none⟩) hk3.2).trans cN;have Hk3:Hid (mM n₀ Bs Bn W W3):=hid (hkb.out.t (mM.t ⟨⟨(Below.refl _ _).drew,rfl⟩,rfl⟩ hk3));have Hq1:=hid (show q+2=2*(k+1) by have:=hq.out;omega);clear cS cN hR hy hk3 hkb hq;gi_wp2
     go_roundw
     case rel=>exact⟨k+1,q+2,_,by omega,by go_num,Hq1,Hp2,hJ3,Hk3⟩
     case measure=>simp[intOf];omega
    ·clear cS cN hy;gi_wp2
     refine bodyPost_ret (results_none rfl _ _ _) rfl ?_;exact⟨⟨_,rfl⟩,.inr ⟨_,trivial,hJx3⟩⟩
  ·have hkm:k=(m+1)/2:=by have:=hq.out;omega
   have hp2:=hp.out;rw[hkm]at hp2;have Hp2:=hid hp2;clear hp2 hp hBs hBn hkb;gi_wp2
   go_end0
   exact⟨⟨_,rfl⟩,.inl ⟨pre,Hp2.out,hJs⟩⟩
theorem YI(n:Nat)(A:Option Addr)(m c:Nat)(w:World) :
  CallsIn Fence.wide n prog 187 #[.slice A m c,.int .i64 2] w fun e w'=>e=.returned (.func (.func 199) #[] #[.pointer (some ⟨w.heap.size,0,none⟩),.pointer (some ⟨w.heap.size+1,0,none⟩)])/\w'=(w.alloc (.cells #[.slice A m c] 218)).alloc (.cells #[.int .i64 2] 3):=by
 refine callsIn_of_wp func187 rfl trivial ?_ rfl;simp only[ntmps187,List.size_toArray,List.length_cons,List.length_nil,Nat.reduceAdd,Nat.reduceSub,Array.replicate_succ,Array.replicate_zero,List.push_toArray,List.append_toArray,List.nil_append,List.cons_append];gi_wp2
 go_ret;exact⟨rfl,rfl⟩
theorem GL(n:Nat)(hn:1<=n)(n₀ Bs Bn g m c:Nat)(hmc:m<=c)(hm:m<=1000)(w:World)(hBs:Bs<w.heap.size)(hBn:Bn<w.heap.size)
  (hc:w.cell? ⟨Bs,0,none⟩=some (.slice (some ⟨g,0,none⟩) m c)) (hd:w.cell? ⟨Bn,0,none⟩=some (.int .i64 2)) :
  SeqStopsK Fence.wide n prog 199 #[.pointer (some ⟨Bs,0,none⟩),.pointer (some ⟨Bn,0,none⟩)] (Chk.enc g m) (mM n₀ Bs Bn) (fun ys=>ys.map (·.1)=List.range ((m+1)/2)) (fun _=>True) ((m+1)/2) w:=fun l J Jx W hW hJ _ hY h0=>
 Sn n hn l Bs Bn n₀ g m c hmc hm J Jx hY (fun pre W h=>hJ pre W _ none h (bf (aj W none)) (fun r e=>by cases e)) W ((hW.cell (p:=⟨Bs,0,none⟩) hBs).trans hc) ((hW.cell (p:=⟨Bn,0,none⟩) hBn).trans hd) h0
attribute [local go_sem] Oper.semAt_some
theorem kJ{w w':World}{base n size:Nat}{e:TypeId}{v:Value}{xs:List Value}(h:w.ownsRow base e size v n xs)(hg:w.grownBy w' none):w'.ownsRow base e size v n xs:=
 h.kept hg (by
  rcases h.2 with⟨rfl,_⟩ | ⟨g,cap,cur,rfl,_⟩
  ·exact .inl rfl
  ·exact .inr (by simp[Value.ownBlock]))
theorem Iy{w:World}{base n:Nat}{v:Value}{l:List Nat}(h:w.ownsRow base 3 1 v n (aM l))(hn:0<n):∃g cap post,v=.slice (some ⟨g,0,none⟩) n cap/\base<=g/\Row w g 3 (aM l++post):=by
 rcases h.2 with⟨_,h0⟩ | ⟨g,cap,cur,rfl,hb,hg,hnc,hcm,hcs,ht⟩
 ·omega
 ·refine⟨g,cap,cur.toList.drop (n*1),rfl,hb,?_⟩;unfold Row;rw[<-ht,List.take_append_drop,Array.toArray_toList];exact hg
theorem jE.far{w w':World}{T:List Pcl}{row:Option Nat}(h:jE w T)(hg:w.grownBy w' row)(hr:∀b,row=some b->∃o:Obj,w.heap[b]?=some o/\∀cs,o≠.cells cs 3 (0,0)):jE w' T:=fun t ht=>by
 obtain⟨post,hrow⟩:=h t ht;refine⟨post,hrow.keep (hg.block _ hrow.lt (fun e=>?_))⟩;obtain⟨o,ho,hn⟩:=hr _ e.symm;unfold Row at hrow;rw[ho]at hrow;injection hrow with hrow
 exact hn _ hrow
theorem aat{w:World}{base n size:Nat}{e:TypeId}{v:Value}{xs:List Value}(h:w.ownsRow base e size v n xs)(he:e≠3):∀b,v.ownBlock=some b->∃o:Obj,w.heap[b]?=some o/\∀cs,o≠.cells cs 3 (0,0):=fun b hb=>by
 rcases h.2 with⟨rfl,_⟩ | ⟨g,cap,cur,rfl,_,hg,_⟩
 ·cases hb
 ·simp only[Value.ownBlock,Option.some.injEq]at hb;subst hb;exact⟨_,hg,fun cs e'=>by injection e' with _ e2;exact he e2⟩
inductive Col (T:List Pcl):List Nat->List Pcl->Prop
 | nil:Col T [] []
 | take {ks:List Nat} {P:List Pcl} {k:Nat} {u:Pcl}:Col T ks P->2*k+1<T.length->u.1=Bm.wt T (2*k)+Bm.wt T (2*k+1)->u.2.2=(T[2*k]?.getD dU).2.2++(T[2*k+1]?.getD dU).2.2->Col T (ks++[k]) (P++[u])
 | skip {ks:List Nat} {P:List Pcl} {k:Nat}:Col T ks P->¬2*k+1<T.length->Col T (ks++[k]) P
theorem Col.len{T:List Pcl}{ks:List Nat}{P:List Pcl}(h:Col T ks P):P.length<=ks.length:=by
 induction h with
 | nil=>simp
 | take _ _ _ _ ih=>simp only[List.length_append,List.length_cons,List.length_nil];omega
 | skip _ _ ih=>simp only[List.length_append,List.length_cons,List.length_nil];omega
theorem wL(T:List Pcl):∀(n:Nat) (P:List Pcl),Col T (List.range n) P->2*n<=T.length+1->P.length=min n (T.length/2) /\
  ∀x,x<P.length->Bm.wt P x=Bm.wt T (2*x)+Bm.wt T (2*x+1)/\(P[x]?.getD dU).2.2=(T[2*x]?.getD dU).2.2++(T[2*x+1]?.getD dU).2.2
 | 0,P,h,_=>by
  rw[List.range_zero]at h;generalize hks:([]:List Nat)=ks at h;cases h with
  | nil=>exact⟨by simp,fun x hx=>by simp at hx⟩
  | take=>simp at hks
  | skip=>simp at hks
 | n+1,P,h,hn=>by
  rw[List.range_succ]at h;generalize hks:List.range n++[n]=ks at h;cases h with
  | nil=>simp at hks
  | @take ks P k u h1 h2 h3 h4=>
   obtain⟨rfl,e2⟩:=List.append_inj' hks rfl;injection e2 with e2
   subst e2;obtain⟨r1,r2⟩:=wL T n _ h1 (by omega);refine⟨by rw[List.length_append,r1,List.length_cons,List.length_nil];omega,fun x hx=>?_⟩;have hPn:P.length=n:=by omega
   rw[List.length_append,List.length_cons,List.length_nil]at hx;by_cases hxn:x<P.length
   ·obtain⟨s1,s2⟩:=r2 x hxn;unfold Bm.wt at s1 ⊢;rw[List.getElem?_append_left hxn];exact⟨s1,s2⟩
   ·obtain rfl:x=n:=by omega
    unfold Bm.wt at h3 ⊢;rw[List.getElem?_append_right (by omega),show x-P.length=0 by omega];exact⟨h3,h4⟩
  | skip h1 h2=>
   obtain⟨rfl,e2⟩:=List.append_inj' hks rfl;injection e2 with e2
   subst e2;obtain⟨r1,r2⟩:=wL T n _ h1 (by omega);exact⟨by rw[r1];omega,r2⟩
def KD(T:List Pcl)(m B:Nat)(vs:Value)(w:World)(pre:List (Chk m))(W:World):Prop:=
 (∃v P,Boxed W B 218 v/\W.ownsRow B 223 2 v P.length (p2 P)/\Col T (pre.map (·.1)) P/\jE W P)/\(Boxed W (B+1) 218 vs/\Boxed W (B+2) 3 (.int .i64 2))/\Below B w W
theorem OU(T:List Pcl)(m B:Nat)(vs:Value)(w:World)(hB:B=w.heap.size):OwnFrom (B+3) (KD T m B vs w):=by
 rintro pre W W' row ⟨⟨v,P,h1,h2,h3,h4⟩,⟨h5,h6⟩,h7⟩ hg hr;have hne:∀{b:Nat} {t:TypeId} {u:Value},Boxed W b t u->some b≠row:=fun hb e=>by
  obtain⟨_,o,ho,hc⟩:=hr _ e.symm;rw[show W.heap[_]?=_ from hb]at ho;cases ho
  cases hc
 refine⟨⟨v,P,h1.kept hg (hne h1),h2.kept hg ?_,h3,h4.far hg fun b e=>?_⟩,⟨h5.kept hg (hne h5),h6.kept hg (hne h6)⟩,h7.grown hg (by rw[hB];exact(hB▸h7).size) fun r e=>by have:=(hr r e).1;omega⟩
 ·rcases h2.2 with⟨rfl,_⟩ | ⟨g,cap,cur,rfl,_,hgb,_⟩
  ·exact .inl rfl
  ·refine .inr fun e'=>?_
   obtain⟨_,o,ho,hc⟩:=hr g (by simpa [Value.ownBlock]using e'.symm);rw[hgb]at ho;cases ho
   cases hc
 ·obtain⟨_,o,ho,hc⟩:=hr b e;exact⟨o,ho,fun cs e'=>by rw[e']at hc;cases hc⟩
theorem qU{T:List Pcl}{m B:Nat}{vs:Value}{w:World}{pre:List (Chk m)}{k:Nat}{hk:2*k<m}{W W4 wN:World}{v:Value}{P:List Pcl}{u:Pcl}{gN jJ:Nat}{o2:Obj}{news post:List Value}
  (hB:B=w.heap.size) (h1:Boxed W B 218 v) (h2:W.ownsRow B 223 2 v P.length (p2 P)) (h3:Col T (pre.map (·.1)) P) (h4:jE W P) (h5:Boxed W (B+1) 218 vs) (h6:Boxed W (B+2) 3 (.int .i64 2)) (h7:Below B w W)
  (hkm:2*k+1<T.length) (hw:u.1=Bm.wt T (2*k)+Bm.wt T (2*k+1)) (hs:u.2.2=(T[2*k]?.getD dU).2.2++(T[2*k+1]?.getD dU).2.2) (hn:p2 [u]=news)
  (hb4:Below W.heap.size W W4) (hr4:Row W4 u.2.1.1 3 (aM u.2.2++post)) (hown:wN.ownsRow B 223 2 (.slice (some ⟨gN,0,none⟩) (P.length+1) jJ) (P.length+1) (p2 P++news)) (hgr:(W4.alloc o2).grownBy wN v.ownBlock) :
  (wN.cell? ⟨B,0,none⟩=some v/\wN.frozen? ⟨B,0,none⟩=false)/\KeepsFrom (B+3) W (wN.setCell ⟨B,0,none⟩ (.slice (some ⟨gN,0,none⟩) (P.length+1) jJ))/\mM B (B+1) (B+2) W (wN.setCell ⟨B,0,none⟩ (.slice (some ⟨gN,0,none⟩) (P.length+1) jJ)) /\
   KD T m B vs w (pre++[⟨k,hk⟩]) (wN.setCell ⟨B,0,none⟩ (.slice (some ⟨gN,0,none⟩) (P.length+1) jJ)):=by
 have hg4:=ak hb4 none;have hBW:B<=W.heap.size:=by rw[hB];exact(hB▸h7).size
 have wZ:=kJ h2 hg4;have e1:=h1.kept hg4 (by simp);have e5:=h5.kept hg4 (by simp);have e6:=h6.kept hg4 (by simp);obtain⟨k1,k2,k3,k4,k5⟩:=e1.appended (by decide) wZ (Nat.le_trans hBW hb4.size) (Nat.le_refl _) hown hgr;have hgs:=grownBy_setCell' wN B (.slice (some ⟨gN,0,none⟩) (P.length+1) jJ);have f5:=((e5.alloc o2).kept hgr (e5.not_row (by decide) wZ)).kept hgs (by simp);have f6:=((e6.alloc o2).kept hgr (e6.not_row (by decide) wZ)).kept hgs (by simp);have hbW:Below B W (wN.setCell ⟨B,0,none⟩ (.slice (some ⟨gN,0,none⟩) (P.length+1) jJ)):=(hb4.mono hBW).trans k5;have hga:W.grownBy (W4.alloc o2) none:=aF hg4 o2;have Gl:∀b,(some B:Option Nat)=some b->∃o:Obj,wN.heap[b]?=some o/\∀cs,o≠.cells cs 3 (0,0):=fun b e=>by
  injection e with e
  subst e;exact⟨_,k1,fun cs e'=>by injection e' with _ e2;exact absurd e2 (by decide)⟩
 refine⟨⟨k1.cell,k1.frozen⟩,(KeepsFrom.of_grownBy hg4 (by simp)).trans (k4.from _),⟨⟨hbW,f5.trans h5.symm⟩,f6.trans h6.symm⟩,⟨_,P++[u],k2,?_,?_,fun t ht=>?_⟩,⟨f5,f6⟩,h7.trans hbW⟩
 ·rw[List.length_append,xJ,hn];exact k3
 ·rw[List.map_append];exact .take h3 hkm hw hs
 ·have hkd:=aat (kJ wZ (aF (aj W4 none) o2)) (by decide);rcases List.mem_append.1 ht with ht | ht
  ·exact(((h4.far hga (fun b e=>by cases e)).far hgr hkd).far hgs Gl) t ht
  ·simp only[List.mem_singleton]at ht;subst ht;have hs1:jE W4 [t]:=fun t' ht'=>by
    simp only[List.mem_singleton]at ht';subst ht';exact⟨post,hr4⟩
   exact(((hs1.far (aF (aj W4 none) o2) (fun b e=>by cases e)).far hgr hkd).far hgs Gl) t (List.mem_singleton.2 rfl)
theorem aau:acJ:=by
 intro w g cap T post h2 hT hTc hcm hsz hrow aoz;obtain⟨i0,hi,hz0,hz1,hz2⟩:=info_parts vM;obtain⟨m,hm⟩:∃m,m=T.length:=⟨_,rfl⟩;rw[<-hm]at h2 hT hTc ⊢;have Hm:=hid hm;have Hsz:=hid hsz;have gF:=hid hrow;have apz:=hid aoz;clear hm hsz hrow aoz;refine(callsIn_wide (n:=4)).1 ?_;refine callsIn_of_wp_marks func157 rfl trivial ?_ rfl;simp only[ntmps157,List.size_toArray,List.length_cons,List.length_nil,Nat.reduceAdd,Nat.reduceSub,Array.replicate_succ,Array.replicate_zero,List.push_toArray,List.append_toArray,List.nil_append,List.cons_append];gi_wp2_with fail
 refine⟨trivial,(YI 3 (some ⟨g,0,none⟩) m cap _).mono ?_⟩;rintro e w' ⟨rfl,hW3⟩;obtain⟨B,hB⟩:∃B,B=w.heap.size:=⟨_,rfl⟩;have hs3:w'.heap.size=B+3:=by rw[hW3,hB];simp
 have hg3:w.grownBy w' none:=by rw[hW3];exact aF (aF (aF (aj _ _) _) _) _
 have d1:Boxed w' B 218 (.slice none 0 0):=by rw[hW3,hB];exact((Boxed.new w _ _).alloc _).alloc _
 have d2:Boxed w' (B+1) 218 (.slice (some ⟨g,0,none⟩) m cap):=by
  have h:=Boxed.new (w.alloc (.cells #[.slice none 0 0] 218)) 218 (.slice (some ⟨g,0,none⟩) m cap);rw[World.size_alloc]at h;rw[hW3,hB];exact h.alloc _
 have d3:Boxed w' (B+2) 3 (.int .i64 2):=by
  have h:=Boxed.new ((w.alloc (.cells #[.slice none 0 0] 218)).alloc (.cells #[.slice (some ⟨g,0,none⟩) m cap] 218)) 3 (.int .i64 2);rw[World.size_alloc,World.size_alloc]at h;rw[hW3,hB];exact h
 have hb3:Below B w w':=by rw[hB];exact aJ hg3
 have D1:=hid d1;have D2:=hid d2;have D3:=hid d3;have Hb3:=hid hb3;have hs1:(w.alloc (.cells #[.slice none 0 0] 218)).heap.size=B+1:=by rw[World.size_alloc,hB]
 rw[hs1,<-hB];have HB:=hid hB;clear hW3 hg3 d1 d2 d3 hb3 hs1 hB;gi_wp2_with fail
 refine wpIn_rangeFunc_ownG (N:=(m+1)/2) (w0:=w') rfl (by omega) (gf:=199) (lb:=#[.pointer (some ⟨B+1,0,none⟩),.pointer (some ⟨B+1+1,0,none⟩)]) rfl trivial (enters_of func199 (by kernel_rfl) rfl)
  (GL 3 (by omega) B (B+1) (B+2) g m cap hTc hT w' (by omega) (by omega) D2.out.cell D3.out.cell) (fun h k=>mM.t h k) (mM.b (by omega) (by omega) (by omega)) (Below.refl _ _) (fun _=>rfl)
  (KD T m B (.slice (some ⟨g,0,none⟩) m cap) w) (fun _ _ _=>False)
  (by rw[hs3];exact OU T m B _ w HB.out) (fun _ _ _ _ _ hs _ _=>hs)
  ⟨⟨_,[],D1.out,World.ownsRow_nil _ _ _ _,.nil,fun t ht=>by simp at ht⟩,⟨D2.out,D3.out⟩,Hb3.out⟩
  (fun x=>{tmps:=#[.slice (some ⟨g,0,none⟩) m cap,undef,.slice none 0 0,.pointer (some ⟨B,0,none⟩),.slice (some ⟨g,2*x.1*2,none⟩) (jK m x.1) (jK m x.1),.slice (some ⟨g,0,none⟩) m cap,.func (.func 199) #[] #[.pointer (some ⟨B+1,0,none⟩),.pointer (some ⟨B+1+1,0,none⟩)],.slice (some ⟨g,2*x.1*2,none⟩) (jK m x.1) (jK m x.1),undef,undef,undef,undef,undef,undef,undef,undef,undef,undef,undef,undef,undef,undef,undef,undef,undef,undef,undef,undef,undef,undef,undef,undef,undef,undef,undef],defers:=[]}) ?assign ?body ?done ?stop
 case assign=>
  intro l x W K hK;unfold Chk.enc;gi_wp2
  exact hK
 case body=>
  rintro l pre ⟨k,hk⟩ W ⟨⟨v,P,h1,h2',h3,h4⟩,⟨h5,h6⟩,h7⟩ hlen;dsimp only;rw[hs3];have hPl:=h3.len;rw[List.length_map]at hPl;by_cases hkm:2*k+1<m
  ·have e2:jK m k=2:=by unfold jK;rw[if_pos hkm]
   rw[e2];have hr:=gF.out.below (HB.out▸h7);obtain⟨a0,a1⟩:=tO hr (List.getElem?_eq_getElem (show 2*k<T.length by have:=Hm.out;omega));obtain⟨b0,b1⟩:=tO hr (List.getElem?_eq_getElem (show 2*k+1<T.length by have:=Hm.out;omega));obtain⟨u1,hu1⟩:∃u1,u1=T[2*k]'(by have:=Hm.out;omega):=⟨_,rfl⟩;obtain⟨u2,hu2⟩:∃u2,u2=T[2*k+1]'(by have:=Hm.out;omega):=⟨_,rfl⟩;rw[<-hu1]at a0 a1;rw[<-hu2]at b0 b1;have hm1:u1∈T:=by rw[hu1];exact List.getElem_mem _
   have hm2:u2∈T:=by rw[hu2];exact List.getElem_mem _
   have hg1:T[2*k]?.getD dU=u1:=by rw[hu1,List.getElem?_eq_getElem (by have:=Hm.out;omega),Option.getD_some]
   have hg2:T[2*k+1]?.getD dU=u2:=by rw[hu2,List.getElem?_eq_getElem (by have:=Hm.out;omega),Option.getD_some]
   have hw1:Bm.wt T (2*k)=u1.1:=by unfold Bm.wt;rw[hg1]
   have hw2:Bm.wt T (2*k+1)=u2.1:=by unfold Bm.wt;rw[hg2]
   obtain⟨z1,y1,x1⟩:=Hsz.out u1 hm1;obtain⟨z2,y2,x2⟩:=Hsz.out u2 hm2;have alU:=apz.out.below (HB.out▸h7);obtain⟨aqy,r1⟩:=alU u1 hm1;obtain⟨Vp,r2⟩:=alU u2 hm2;have R1:=hid r1;have R2:=hid r2;obtain⟨a,⟨g1,c1⟩,l1⟩:=u1;obtain⟨b,⟨g2,c2⟩,l2⟩:=u2;dsimp only[Me]at a0 a1 b0 b1 z1 y1 x1 z2 y2 x2 hw1 hw2 R1 R2;have hs2:(a+b,(g1,c1),l1++l2).2.2=(T[2*k]?.getD dU).2.2++(T[2*k+1]?.getD dU).2.2:=by rw[hg1,hg2]
   have Hs2:Hid (l1++l2=(T[2*k]?.getD dU).2.2++(T[2*k+1]?.getD dU).2.2):=hid hs2;have Hw2:Hid (a+b=Bm.wt T (2*k)+Bm.wt T (2*k+1)):=hid (by rw[hw1,hw2]);rw[show(2*k+1)*2=2*k*2+2 by omega]at b0 b1;clear hr hu1 hu2 hm1 hm2 hg1 hg2 hw1 hw2 alU r1 r2 hs2 e2;generalize 2*k*2=off at *;obtain⟨n1,hn1⟩:∃n1,n1=l1.length:=⟨_,rfl⟩;obtain⟨n2,hn2⟩:∃n2,n2=l2.length:=⟨_,rfl⟩;rw[<-hn1]at a1 y1 x1;rw[<-hn2]at b1 y2 x2;have c0:=h1.cell;obtain⟨pn,hpn⟩:∃pn,pn=P.length:=⟨_,rfl⟩;have aro:pn<=500:=by omega
   have H1:=hid h1;have H2:=hid h2';have H3:=hid h3;have H4:=hid h4;have H5:=hid h5;have H6:=hid h6;have H7:=hid h7;have hBW:B<=W.heap.size:=by have:=h1.lt;omega
   have hcon:Calls prog 188 #[.slice (some ⟨W.heap.size,0,none⟩) 2 2] (W.drew.alloc (.cells #[.slice (some ⟨g1,0,none⟩) n1 c1,.slice (some ⟨g2,0,none⟩) n2 c2] 115)) fun e w'=>∃g4 cap4,e=.returned (.slice (some ⟨g4,0,none⟩) (n1+n2) cap4) /\
     Hid ((∃post,Row w' g4 3 (aM (l1++l2)++post))/\Below W.heap.size W w'):=by
    have hal:Below W.heap.size W (W.drew.alloc (.cells #[.slice (some ⟨g1,0,none⟩) n1 c1,.slice (some ⟨g2,0,none⟩) n2 c2] 115)):=(Below.refl _ W).drew.alloc (Nat.le_refl _) _;refine(Xk W.heap.size g1 n1 c1 g2 n2 c2 l1 l2 _ (by omega) hn1.symm hn2.symm (by omega) (by omega) (Row.new W.drew 115 [.slice (some ⟨g1,0,none⟩) n1 c1,.slice (some ⟨g2,0,none⟩) n2 c2])
     (fun W' hW' j u hu=>?_) (fun W' hW' j u hu=>?_)).mono ?_
    ·rw[iB,(aL (aL R1.out hal) hW').cell j,List.getElem?_append_left (List.getElem?_eq_some_iff.1 hu).1];exact hu
    ·rw[iB,(aL (aL R2.out hal) hW').cell j,List.getElem?_append_left (List.getElem?_eq_some_iff.1 hu).1];exact hu
    ·rintro e w' ⟨u,rfl,hown,hb⟩;obtain⟨g4,cap4,post,hu,_,hrow⟩:=Iy hown (by omega);exact⟨g4,cap4,by rw[hu],hid ⟨⟨post,hrow⟩,hal.trans (hb.mono hal.size)⟩⟩
   have agS:=hid hcon;have Hn1:=hid hn1;have Hn2:=hid hn2;have Hpn:=hid hpn;clear h1 h2' h3 h4 h5 h6 h7 hcon hn1 hn2 hpn R1 R2;gi_wp2
   have hgW:g<B:=by rw[HB.out];exact Row.lt gF.out
   have HS1:Hid (∀W',Below B W W'->W'.cell? ⟨g,off,none⟩=some (.int .i64 (a:Int))/\W'.cell? ⟨g,off+1,none⟩=some (.slice (some ⟨g1,0,none⟩) n1 c1)/\W'.cell? ⟨g,off+2,none⟩=some (.int .i64 (b:Int))/\W'.cell? ⟨g,off+2+1,none⟩=some (.slice (some ⟨g2,0,none⟩) n2 c2)):=hid fun W' h=>
    ⟨(h.cell (p:=⟨g,off,none⟩) hgW).trans a0,(h.cell (p:=⟨g,off+1,none⟩) hgW).trans a1,(h.cell (p:=⟨g,off+2,none⟩) hgW).trans b0,(h.cell (p:=⟨g,off+2+1,none⟩) hgW).trans b1⟩
   have HS2:Hid (∀W',Below W.heap.size W W'->W'.cell? ⟨B,0,none⟩=some v):=hid fun W' h=>(h.cell (p:=⟨B,0,none⟩) H1.out.lt).trans c0
   have HN:Hid (∀g4 cap4,p2 [(a+b,(g4,cap4),l1++l2)]=[.int .i64 ((a:Int)+(b:Int)),.slice (some ⟨g4,0,none⟩) (n1+n2) cap4]):=hid fun g4 cap4=>by
    show [afS _,Me _]=_;simp only[afS,Me,List.length_append,<-Hn1.out,<-Hn2.out,Int.natCast_add]
   have hp5:P.length<=500:=by have:=Hpn.out;omega
   have hwr:IntKind.i64.wrap ((a:Int)+(b:Int))=(a:Int)+(b:Int):=IntWalk.i64_in _ (by omega);refine Fz (S:=(fun W':World=>W'.cell? ⟨g,off,none⟩=some (.int .i64 (a:Int))/\W'.cell? ⟨g,off+1,none⟩=some (.slice (some ⟨g1,0,none⟩) n1 c1)/\W'.cell? ⟨g,off+2,none⟩=some (.int .i64 (b:Int))/\W'.cell? ⟨g,off+2+1,none⟩=some (.slice (some ⟨g2,0,none⟩) n2 c2))) (by kernel_rfl) (by kernel_rfl) (fun⟨_,_,h⟩=>h) ⟨a0,a1,b0,b1⟩ (fun hHeld=>?_);refine wpAnyH_take (i:=1) (oi:={dst:=some 12,op:=.move (.tmp 4),type:=218,pos:= "bound.go:48",after:=#[],guard:=none}) (v:=?_) rfl (by kernel_rfl) (by kernel_rfl) (by kernel_rfl) (fun _ _ _ h=>h) (Or.inl ⟨by rfl,?_⟩) (by assumption) ?_;rotate_left
   ·(intro w hSw;(try dsimp only at hSw);go_simp;(try with_reducible rfl))
   try simp only[Act.put,List.setIfInBounds_toArray,List.set_cons_zero,List.set_cons_succ]
   refine wpAnyH_take (i:=2) (oi:={dst:=some 13,op:=.indexAddr 218 (.tmp 12) (.const (.int .i64 0)),type:=0,pos:= "bound.go:48",after:=#[{on:=1,ground:=.data}],guard:=none}) (v:=?_) rfl (by kernel_rfl) (by kernel_rfl) (by kernel_rfl) (fun _ _ _ h=>h) (Or.inl ⟨by rfl,?_⟩) (by assumption) ?_;rotate_left
   ·(intro w hSw;(try dsimp only at hSw);go_simp;(try with_reducible rfl))
   try simp only[Act.put,List.setIfInBounds_toArray,List.set_cons_zero,List.set_cons_succ]
   refine wpAnyH_take (i:=3) (oi:={dst:=some 14,op:=.fieldAddr 223 (.tmp 13) 0,type:=0,pos:= "bound.go:48",after:=#[{on:=2,ground:=.data}],guard:=none}) (v:=?_) rfl (by kernel_rfl) (by kernel_rfl) (by kernel_rfl) (fun _ _ _ h=>h) (Or.inl ⟨by rfl,?_⟩) (by assumption) ?_;rotate_left
   ·(intro w hSw;(try dsimp only at hSw);go_simp;(try with_reducible rfl))
   try simp only[Act.put,List.setIfInBounds_toArray,List.set_cons_zero,List.set_cons_succ]
   refine wpAnyH_take (i:=4) (oi:={dst:=some 15,op:=.load 3 (.tmp 14),type:=3,pos:= "bound.go:48",after:=#[{on:=3,ground:=.data}],guard:=none}) (v:=?_) rfl (by kernel_rfl) (by kernel_rfl) (by kernel_rfl) (fun _ _ _ h=>h) (Or.inl ⟨by rfl,?_⟩) (by assumption) ?_;rotate_left
   ·(intro w hSw;(try dsimp only at hSw);go_simp;(try with_reducible rfl))
   try simp only[Act.put,List.setIfInBounds_toArray,List.set_cons_zero,List.set_cons_succ]
   refine wpAnyH_take (i:=5) (oi:={dst:=some 16,op:=.move (.tmp 4),type:=218,pos:= "bound.go:48",after:=#[],guard:=none}) (v:=?_) rfl (by kernel_rfl) (by kernel_rfl) (by kernel_rfl) (fun _ _ _ h=>h) (Or.inl ⟨by rfl,?_⟩) (by assumption) ?_;rotate_left
   ·(intro w hSw;(try dsimp only at hSw);go_simp;(try with_reducible rfl))
   try simp only[Act.put,List.setIfInBounds_toArray,List.set_cons_zero,List.set_cons_succ]
   refine wpAnyH_take (i:=6) (oi:={dst:=some 17,op:=.indexAddr 218 (.tmp 16) (.const (.int .i64 1)),type:=0,pos:= "bound.go:48",after:=#[{on:=5,ground:=.data}],guard:=none}) (v:=?_) rfl (by kernel_rfl) (by kernel_rfl) (by kernel_rfl) (fun _ _ _ h=>h) (Or.inl ⟨by rfl,?_⟩) (by assumption) ?_;rotate_left
   ·(intro w hSw;(try dsimp only at hSw);go_simp;(try with_reducible rfl))
   try simp only[Act.put,List.setIfInBounds_toArray,List.set_cons_zero,List.set_cons_succ]
   refine wpAnyH_take (i:=7) (oi:={dst:=some 18,op:=.fieldAddr 223 (.tmp 17) 0,type:=0,pos:= "bound.go:48",after:=#[{on:=6,ground:=.data}],guard:=none}) (v:=?_) rfl (by kernel_rfl) (by kernel_rfl) (by kernel_rfl) (fun _ _ _ h=>h) (Or.inl ⟨by rfl,?_⟩) (by assumption) ?_;rotate_left
   ·(intro w hSw;(try dsimp only at hSw);go_simp;(try with_reducible rfl))
   try simp only[Act.put,List.setIfInBounds_toArray,List.set_cons_zero,List.set_cons_succ]
   refine wpAnyH_take (i:=8) (oi:={dst:=some 19,op:=.load 3 (.tmp 18),type:=3,pos:= "bound.go:48",after:=#[{on:=7,ground:=.data}],guard:=none}) (v:=?_) rfl (by kernel_rfl) (by kernel_rfl) (by kernel_rfl) (fun _ _ _ h=>h) (Or.inl ⟨by rfl,?_⟩) (by assumption) ?_;rotate_left
   ·(intro w hSw;(try dsimp only at hSw);go_simp;(try with_reducible rfl))
   try simp only[Act.put,List.setIfInBounds_toArray,List.set_cons_zero,List.set_cons_succ]
   refine wpAnyH_take (i:=9) (oi:={dst:=some 20,op:=.binOp .add 3 (.tmp 15) (.tmp 19) 3,type:=3,pos:= "bound.go:48",after:=#[{on:=4,ground:=.data},{on:=8,ground:=.data}],guard:=none}) (v:=?_) rfl (by kernel_rfl) (by kernel_rfl) (by kernel_rfl) (fun _ _ _ h=>h) (Or.inl ⟨by rfl,?_⟩) (by assumption) ?_;rotate_left
   ·(intro w hSw;(try dsimp only at hSw);go_simp;(try with_reducible rfl))
   try simp only[Act.put,List.setIfInBounds_toArray,List.set_cons_zero,List.set_cons_succ]
   refine wpAnyH_take (i:=10) (oi:={dst:=some 21,op:=.move (.tmp 4),type:=218,pos:= "bound.go:48",after:=#[],guard:=none}) (v:=?_) rfl (by kernel_rfl) (by kernel_rfl) (by kernel_rfl) (fun _ _ _ h=>h) (Or.inl ⟨by rfl,?_⟩) (by assumption) ?_;rotate_left
   ·(intro w hSw;(try dsimp only at hSw);go_simp;(try with_reducible rfl))
   try simp only[Act.put,List.setIfInBounds_toArray,List.set_cons_zero,List.set_cons_succ]
   refine wpAnyH_take (i:=11) (oi:={dst:=some 22,op:=.indexAddr 218 (.tmp 21) (.const (.int .i64 0)),type:=0,pos:= "bound.go:48",after:=#[{on:=10,ground:=.data}],guard:=none}) (v:=?_) rfl (by kernel_rfl) (by kernel_rfl) (by kernel_rfl) (fun _ _ _ h=>h) (Or.inl ⟨by rfl,?_⟩) (by assumption) ?_;rotate_left
   ·(intro w hSw;(try dsimp only at hSw);go_simp;(try with_reducible rfl))
   try simp only[Act.put,List.setIfInBounds_toArray,List.set_cons_zero,List.set_cons_succ]
   refine wpAnyH_take (i:=12) (oi:={dst:=some 23,op:=.fieldAddr 223 (.tmp 22) 1,type:=0,pos:= "bound.go:48",after:=#[{on:=11,ground:=.data}],guard:=none}) (v:=?_) rfl (by kernel_rfl) (by kernel_rfl) (by kernel_rfl) (fun _ _ _ h=>h) (Or.inl ⟨by rfl,?_⟩) (by assumption) ?_;rotate_left
   ·(intro w hSw;(try dsimp only at hSw);go_simp;(try with_reducible rfl))
   try simp only[Act.put,List.setIfInBounds_toArray,List.set_cons_zero,List.set_cons_succ]
   refine wpAnyH_take (i:=13) (oi:={dst:=some 24,op:=.load 115 (.tmp 23),type:=115,pos:= "bound.go:48",after:=#[{on:=12,ground:=.data}],guard:=none}) (v:=?_) rfl (by kernel_rfl) (by kernel_rfl) (by kernel_rfl) (fun _ _ _ h=>h) (Or.inl ⟨by rfl,?_⟩) (by assumption) ?_;rotate_left
   ·(intro w hSw;(try dsimp only at hSw);go_simp;(try with_reducible rfl))
   try simp only[Act.put,List.setIfInBounds_toArray,List.set_cons_zero,List.set_cons_succ]
   refine wpAnyH_take (i:=14) (oi:={dst:=some 25,op:=.move (.tmp 4),type:=218,pos:= "bound.go:48",after:=#[],guard:=none}) (v:=?_) rfl (by kernel_rfl) (by kernel_rfl) (by kernel_rfl) (fun _ _ _ h=>h) (Or.inl ⟨by rfl,?_⟩) (by assumption) ?_;rotate_left
   ·(intro w hSw;(try dsimp only at hSw);go_simp;(try with_reducible rfl))
   try simp only[Act.put,List.setIfInBounds_toArray,List.set_cons_zero,List.set_cons_succ]
   refine wpAnyH_take (i:=15) (oi:={dst:=some 26,op:=.indexAddr 218 (.tmp 25) (.const (.int .i64 1)),type:=0,pos:= "bound.go:48",after:=#[{on:=14,ground:=.data}],guard:=none}) (v:=?_) rfl (by kernel_rfl) (by kernel_rfl) (by kernel_rfl) (fun _ _ _ h=>h) (Or.inl ⟨by rfl,?_⟩) (by assumption) ?_;rotate_left
   ·(intro w hSw;(try dsimp only at hSw);go_simp;(try with_reducible rfl))
   try simp only[Act.put,List.setIfInBounds_toArray,List.set_cons_zero,List.set_cons_succ]
   refine wpAnyH_take (i:=16) (oi:={dst:=some 27,op:=.fieldAddr 223 (.tmp 26) 1,type:=0,pos:= "bound.go:48",after:=#[{on:=15,ground:=.data}],guard:=none}) (v:=?_) rfl (by kernel_rfl) (by kernel_rfl) (by kernel_rfl) (fun _ _ _ h=>h) (Or.inl ⟨by rfl,?_⟩) (by assumption) ?_;rotate_left
   ·(intro w hSw;(try dsimp only at hSw);go_simp;(try with_reducible rfl))
   try simp only[Act.put,List.setIfInBounds_toArray,List.set_cons_zero,List.set_cons_succ]
   refine wpAnyH_take (i:=17) (oi:={dst:=some 28,op:=.load 115 (.tmp 27),type:=115,pos:= "bound.go:48",after:=#[{on:=16,ground:=.data}],guard:=none}) (v:=?_) rfl (by kernel_rfl) (by kernel_rfl) (by kernel_rfl) (fun _ _ _ h=>h) (Or.inl ⟨by rfl,?_⟩) (by assumption) ?_;rotate_left
   ·(intro w hSw;(try dsimp only at hSw);go_simp;(try with_reducible rfl))
   try simp only[Act.put,List.setIfInBounds_toArray,List.set_cons_zero,List.set_cons_succ]
   refine wpAnyH_ready (rs:=[0,18]) (by kernel_rfl) (by simp) ?_;refine AllReadyH.cons rfl (fun K hK=>?_) (AllReadyH.cons rfl (fun K hK=>?_) AllReadyH.nil)
   ·have cB:=HS2.out _ (Below.refl _ W).drew;go_simp;refine hK.out _ _ (HS1.out _ ((Below.refl _ W).drew.mono hBW)) (fun hHeld=>?_);clear hK K
    try simp only[Act.put,List.setIfInBounds_toArray,List.set_cons_zero,List.set_cons_succ]
    clear cB;refine wpAnyH_ready (rs:=[18]) (by kernel_rfl) (by simp) ?_;refine AllReadyH.cons rfl (fun K hK=>?_) AllReadyH.nil;go_simp;refine hK.out _ _ (HS1.out _ (((Below.refl _ W).alloc (Nat.le_refl _) _).drew.mono hBW)) (fun hHeld=>?_);clear hK K
    try simp only[Act.put,List.setIfInBounds_toArray,List.set_cons_zero,List.set_cons_succ]
    refine wpAnyH_ready (rs:=[19]) (by kernel_rfl) (by simp) ?_;refine AllReadyH.cons rfl (fun K hK=>?_) AllReadyH.nil;go_simp;refine agS.out.mono ?_;rintro e W4 ⟨g4,cap4,rfl,hh⟩;have hr4:Hid (∃post,Row W4 g4 3 (aM (l1++l2)++post)):=hid hh.out.1;have hb4:=hid hh.out.2;clear hh;go_simp;refine hK.out _ _ (HS1.out _ (hb4.out.mono hBW)) (fun hHeld=>?_);clear hK K
    try simp only[Act.put,List.setIfInBounds_toArray,List.set_cons_zero,List.set_cons_succ]
    refine wpAnyH_take (i:=20) (oi:={dst:=some 31,op:=.build 223 #[(0,.tmp 20),(1,.tmp 30)],type:=223,pos:= "bound.go:48",after:=#[{on:=9,ground:=.data},{on:=19,ground:=.data}],guard:=none}) (v:=?_) rfl (by kernel_rfl) (by kernel_rfl) (by kernel_rfl) (fun _ _ _ h=>h) (Or.inl ⟨by rfl,?_⟩) (by assumption) ?_;rotate_left
    ·(intro w hSw;(try dsimp only at hSw);go_simp;(try with_reducible rfl))
    try simp only[Act.put,List.setIfInBounds_toArray,List.set_cons_zero,List.set_cons_succ]
    refine wpAnyH_ready (rs:=[21]) (by kernel_rfl) (by simp) ?_;refine AllReadyH.cons rfl (fun K hK=>?_) AllReadyH.nil;go_simp;refine hK.out _ _ (HS1.out _ ((hb4.out.alloc hb4.out.size _).mono hBW)) (fun hHeld=>?_);clear hK K
    try simp only[Act.put,List.setIfInBounds_toArray,List.set_cons_zero,List.set_cons_succ]
    refine wpAnyH_ready (rs:=[22]) (by kernel_rfl) (by simp) ?_;refine AllReadyH.cons rfl (fun K hK=>?_) AllReadyH.nil;have HoA:Hid ((W4.alloc (.cells #[.int .i64 ((a:Int)+(b:Int)),.slice (some ⟨g4,0,none⟩) (n1+n2) cap4] 223)).ownsRow B 223 2 v P.length (p2 P)):=hid (kJ H2.out (aF (ak hb4.out none) _));have dx:Hid (∀(j:Nat) (u:Value),([.int .i64 ((a:Int)+(b:Int)),.slice (some ⟨g4,0,none⟩) (n1+n2) cap4]:List Value)[j]?=some u->(W4.alloc (.cells #[.int .i64 ((a:Int)+(b:Int)),.slice (some ⟨g4,0,none⟩) (n1+n2) cap4] 223)).cell? ((⟨W4.heap.size,0,none⟩:Addr).add j)=some u):=hid (fun j u hu=>by
     match j,hu with
     | 0,hu=>simp at hu;subst hu;simp[Addr.add]
     | 1,hu=>simp at hu;subst hu;simp[Addr.add])
    refine step_append_lies (W4.alloc (.cells #[.int .i64 ((a:Int)+(b:Int)),.slice (some ⟨g4,0,none⟩) (n1+n2) cap4] 223)) (by rfl) _ _ _ (by rfl) B 223 i0 (.agg #[.int .i64 0,.slice none 0 0]) 2 32 underlying218 hi hz0 hz1 hz2 rfl (by omega) v P.length (p2 P) (by rfl) HoA.out ⟨W4.heap.size,0,none⟩ 1 1 [.int .i64 ((a:Int)+(b:Int)),.slice (some ⟨g4,0,none⟩) (n1+n2) cap4] (by rfl) (by rfl) dx.out (by intro u hu;simp at hu;rcases hu with rfl | rfl<;>rfl) (by omega) (by unfold maxLen;omega) (by omega) (by have:=hb4.out.size;simp;omega) (W4.heap.size+1) (by simp) ?_;intro gN jJ wN hoN hgN Im aeU;obtain⟨afV,TJ⟩:=hr4.out;obtain⟨⟨cN,fN⟩,E⟩:=qU (u:=(a+b,(g4,cap4),l1++l2)) (hk:=hk) HB.out H1.out H2.out H3.out H4.out H5.out H6.out H7.out (by have:=Hm.out;omega) Hw2.out Hs2.out (HN.out g4 cap4) hb4.out TJ hoN hgN;have HE:=hid E;have hbN:Below B W wN:=((hb4.out.alloc hb4.out.size _).mono hBW).grown hgN (by have:=hb4.out.size;simp;omega) (fun q hq=>(HoA.out.lt q hq).1);refine hK.out _ _ (HS1.out _ hbN) (fun hHeld=>?_);clear hK K E hoN hgN Im aeU TJ HoA dx hbN
    try simp only[Act.put,List.setIfInBounds_toArray]
    refine wpAnyH_ready (rs:=[23]) (by kernel_rfl) (by simp) ?_;refine AllReadyH.cons rfl (fun K hK=>?_) AllReadyH.nil;go_simp;refine hK.out _ _ (HS1.out _ HE.out.2.1.1.1) (fun hHeld=>?_);clear hK K;refine wpAnyH_done (by kernel_rfl) ?_ _;exact HE.out
   ·go_simp;refine hK.out _ _ (HS1.out _ (((Below.refl _ W).alloc (Nat.le_refl _) _).drew.mono hBW)) (fun hHeld=>?_);clear hK K
    try simp only[Act.put,List.setIfInBounds_toArray,List.set_cons_zero,List.set_cons_succ]
    refine wpAnyH_ready (rs:=[0,19]) (by kernel_rfl) (by simp) ?_;refine AllReadyH.cons rfl (fun K hK=>?_) (AllReadyH.cons rfl (fun K hK=>?_) AllReadyH.nil)
    ·have cB:=HS2.out _ ((Below.refl _ W).alloc (Nat.le_refl _) (.cells #[.slice (some ⟨g1,0,none⟩) n1 c1,.slice (some ⟨g2,0,none⟩) n2 c2] 115));go_simp;refine hK.out _ _ (HS1.out _ (((Below.refl _ W).alloc (Nat.le_refl _) _).drew.mono hBW)) (fun hHeld=>?_);clear hK K
     try simp only[Act.put,List.setIfInBounds_toArray,List.set_cons_zero,List.set_cons_succ]
     clear cB;refine wpAnyH_ready (rs:=[19]) (by kernel_rfl) (by simp) ?_;refine AllReadyH.cons rfl (fun K hK=>?_) AllReadyH.nil;go_simp;refine agS.out.mono ?_;rintro e W4 ⟨g4,cap4,rfl,hh⟩;have hr4:Hid (∃post,Row W4 g4 3 (aM (l1++l2)++post)):=hid hh.out.1;have hb4:=hid hh.out.2;clear hh;go_simp;refine hK.out _ _ (HS1.out _ (hb4.out.mono hBW)) (fun hHeld=>?_);clear hK K
     try simp only[Act.put,List.setIfInBounds_toArray,List.set_cons_zero,List.set_cons_succ]
     refine wpAnyH_take (i:=20) (oi:={dst:=some 31,op:=.build 223 #[(0,.tmp 20),(1,.tmp 30)],type:=223,pos:= "bound.go:48",after:=#[{on:=9,ground:=.data},{on:=19,ground:=.data}],guard:=none}) (v:=?_) rfl (by kernel_rfl) (by kernel_rfl) (by kernel_rfl) (fun _ _ _ h=>h) (Or.inl ⟨by rfl,?_⟩) (by assumption) ?_;rotate_left
     ·(intro w hSw;(try dsimp only at hSw);go_simp;(try with_reducible rfl))
     try simp only[Act.put,List.setIfInBounds_toArray,List.set_cons_zero,List.set_cons_succ]
     refine wpAnyH_ready (rs:=[21]) (by kernel_rfl) (by simp) ?_;refine AllReadyH.cons rfl (fun K hK=>?_) AllReadyH.nil;go_simp;refine hK.out _ _ (HS1.out _ ((hb4.out.alloc hb4.out.size _).mono hBW)) (fun hHeld=>?_);clear hK K
     try simp only[Act.put,List.setIfInBounds_toArray,List.set_cons_zero,List.set_cons_succ]
     refine wpAnyH_ready (rs:=[22]) (by kernel_rfl) (by simp) ?_;refine AllReadyH.cons rfl (fun K hK=>?_) AllReadyH.nil;have HoA:Hid ((W4.alloc (.cells #[.int .i64 ((a:Int)+(b:Int)),.slice (some ⟨g4,0,none⟩) (n1+n2) cap4] 223)).ownsRow B 223 2 v P.length (p2 P)):=hid (kJ H2.out (aF (ak hb4.out none) _));have dx:Hid (∀(j:Nat) (u:Value),([.int .i64 ((a:Int)+(b:Int)),.slice (some ⟨g4,0,none⟩) (n1+n2) cap4]:List Value)[j]?=some u->(W4.alloc (.cells #[.int .i64 ((a:Int)+(b:Int)),.slice (some ⟨g4,0,none⟩) (n1+n2) cap4] 223)).cell? ((⟨W4.heap.size,0,none⟩:Addr).add j)=some u):=hid (fun j u hu=>by
      match j,hu with
      | 0,hu=>simp at hu;subst hu;simp[Addr.add]
      | 1,hu=>simp at hu;subst hu;simp[Addr.add])
     refine step_append_lies (W4.alloc (.cells #[.int .i64 ((a:Int)+(b:Int)),.slice (some ⟨g4,0,none⟩) (n1+n2) cap4] 223)) (by rfl) _ _ _ (by rfl) B 223 i0 (.agg #[.int .i64 0,.slice none 0 0]) 2 32 underlying218 hi hz0 hz1 hz2 rfl (by omega) v P.length (p2 P) (by rfl) HoA.out ⟨W4.heap.size,0,none⟩ 1 1 [.int .i64 ((a:Int)+(b:Int)),.slice (some ⟨g4,0,none⟩) (n1+n2) cap4] (by rfl) (by rfl) dx.out (by intro u hu;simp at hu;rcases hu with rfl | rfl<;>rfl) (by omega) (by unfold maxLen;omega) (by omega) (by have:=hb4.out.size;simp;omega) (W4.heap.size+1) (by simp) ?_;intro gN jJ wN hoN hgN Im aeU;obtain⟨afV,TJ⟩:=hr4.out;obtain⟨⟨cN,fN⟩,E⟩:=qU (u:=(a+b,(g4,cap4),l1++l2)) (hk:=hk) HB.out H1.out H2.out H3.out H4.out H5.out H6.out H7.out (by have:=Hm.out;omega) Hw2.out Hs2.out (HN.out g4 cap4) hb4.out TJ hoN hgN;have HE:=hid E;have hbN:Below B W wN:=((hb4.out.alloc hb4.out.size _).mono hBW).grown hgN (by have:=hb4.out.size;simp;omega) (fun q hq=>(HoA.out.lt q hq).1);refine hK.out _ _ (HS1.out _ hbN) (fun hHeld=>?_);clear hK K E hoN hgN Im aeU TJ HoA dx hbN
     try simp only[Act.put,List.setIfInBounds_toArray]
     refine wpAnyH_ready (rs:=[23]) (by kernel_rfl) (by simp) ?_;refine AllReadyH.cons rfl (fun K hK=>?_) AllReadyH.nil;go_simp;refine hK.out _ _ (HS1.out _ HE.out.2.1.1.1) (fun hHeld=>?_);clear hK K;refine wpAnyH_done (by kernel_rfl) ?_ _;exact HE.out
    ·go_simp;refine agS.out.mono ?_;rintro e W4 ⟨g4,cap4,rfl,hh⟩;have hr4:Hid (∃post,Row W4 g4 3 (aM (l1++l2)++post)):=hid hh.out.1;have hb4:=hid hh.out.2;clear hh;go_simp;refine hK.out _ _ (HS1.out _ (hb4.out.mono hBW)) (fun hHeld=>?_);clear hK K
     try simp only[Act.put,List.setIfInBounds_toArray,List.set_cons_zero,List.set_cons_succ]
     refine wpAnyH_take (i:=20) (oi:={dst:=some 31,op:=.build 223 #[(0,.tmp 20),(1,.tmp 30)],type:=223,pos:= "bound.go:48",after:=#[{on:=9,ground:=.data},{on:=19,ground:=.data}],guard:=none}) (v:=?_) rfl (by kernel_rfl) (by kernel_rfl) (by kernel_rfl) (fun _ _ _ h=>h) (Or.inl ⟨by rfl,?_⟩) (by assumption) ?_;rotate_left
     ·(intro w hSw;(try dsimp only at hSw);go_simp;(try with_reducible rfl))
     try simp only[Act.put,List.setIfInBounds_toArray,List.set_cons_zero,List.set_cons_succ]
     refine wpAnyH_ready (rs:=[0,21]) (by kernel_rfl) (by simp) ?_;refine AllReadyH.cons rfl (fun K hK=>?_) (AllReadyH.cons rfl (fun K hK=>?_) AllReadyH.nil)
     ·have cB:=HS2.out _ hb4.out;go_simp;refine hK.out _ _ (HS1.out _ (hb4.out.mono hBW)) (fun hHeld=>?_);clear hK K
      try simp only[Act.put,List.setIfInBounds_toArray,List.set_cons_zero,List.set_cons_succ]
      clear cB;refine wpAnyH_ready (rs:=[21]) (by kernel_rfl) (by simp) ?_;refine AllReadyH.cons rfl (fun K hK=>?_) AllReadyH.nil;go_simp;refine hK.out _ _ (HS1.out _ ((hb4.out.alloc hb4.out.size _).mono hBW)) (fun hHeld=>?_);clear hK K
      try simp only[Act.put,List.setIfInBounds_toArray,List.set_cons_zero,List.set_cons_succ]
      refine wpAnyH_ready (rs:=[22]) (by kernel_rfl) (by simp) ?_;refine AllReadyH.cons rfl (fun K hK=>?_) AllReadyH.nil;have HoA:Hid ((W4.alloc (.cells #[.int .i64 ((a:Int)+(b:Int)),.slice (some ⟨g4,0,none⟩) (n1+n2) cap4] 223)).ownsRow B 223 2 v P.length (p2 P)):=hid (kJ H2.out (aF (ak hb4.out none) _));have dx:Hid (∀(j:Nat) (u:Value),([.int .i64 ((a:Int)+(b:Int)),.slice (some ⟨g4,0,none⟩) (n1+n2) cap4]:List Value)[j]?=some u->(W4.alloc (.cells #[.int .i64 ((a:Int)+(b:Int)),.slice (some ⟨g4,0,none⟩) (n1+n2) cap4] 223)).cell? ((⟨W4.heap.size,0,none⟩:Addr).add j)=some u):=hid (fun j u hu=>by
       match j,hu with
       | 0,hu=>simp at hu;subst hu;simp[Addr.add]
       | 1,hu=>simp at hu;subst hu;simp[Addr.add])
      refine step_append_lies (W4.alloc (.cells #[.int .i64 ((a:Int)+(b:Int)),.slice (some ⟨g4,0,none⟩) (n1+n2) cap4] 223)) (by rfl) _ _ _ (by rfl) B 223 i0 (.agg #[.int .i64 0,.slice none 0 0]) 2 32 underlying218 hi hz0 hz1 hz2 rfl (by omega) v P.length (p2 P) (by rfl) HoA.out ⟨W4.heap.size,0,none⟩ 1 1 [.int .i64 ((a:Int)+(b:Int)),.slice (some ⟨g4,0,none⟩) (n1+n2) cap4] (by rfl) (by rfl) dx.out (by intro u hu;simp at hu;rcases hu with rfl | rfl<;>rfl) (by omega) (by unfold maxLen;omega) (by omega) (by have:=hb4.out.size;simp;omega) (W4.heap.size+1) (by simp) ?_;intro gN jJ wN hoN hgN Im aeU;obtain⟨afV,TJ⟩:=hr4.out;obtain⟨⟨cN,fN⟩,E⟩:=qU (u:=(a+b,(g4,cap4),l1++l2)) (hk:=hk) HB.out H1.out H2.out H3.out H4.out H5.out H6.out H7.out (by have:=Hm.out;omega) Hw2.out Hs2.out (HN.out g4 cap4) hb4.out TJ hoN hgN;have HE:=hid E;have hbN:Below B W wN:=((hb4.out.alloc hb4.out.size _).mono hBW).grown hgN (by have:=hb4.out.size;simp;omega) (fun q hq=>(HoA.out.lt q hq).1);refine hK.out _ _ (HS1.out _ hbN) (fun hHeld=>?_);clear hK K E hoN hgN Im aeU TJ HoA dx hbN
      try simp only[Act.put,List.setIfInBounds_toArray]
      refine wpAnyH_ready (rs:=[23]) (by kernel_rfl) (by simp) ?_;refine AllReadyH.cons rfl (fun K hK=>?_) AllReadyH.nil;go_simp;refine hK.out _ _ (HS1.out _ HE.out.2.1.1.1) (fun hHeld=>?_);clear hK K;refine wpAnyH_done (by kernel_rfl) ?_ _;exact HE.out
     ·go_simp;refine hK.out _ _ (HS1.out _ ((hb4.out.alloc hb4.out.size _).mono hBW)) (fun hHeld=>?_);clear hK K
      try simp only[Act.put,List.setIfInBounds_toArray,List.set_cons_zero,List.set_cons_succ]
      refine wpAnyH_ready (rs:=[0]) (by kernel_rfl) (by simp) ?_;refine AllReadyH.cons rfl (fun K hK=>?_) AllReadyH.nil;have cB:=HS2.out _ (hb4.out.alloc hb4.out.size (.cells #[.int .i64 ((a:Int)+(b:Int)),.slice (some ⟨g4,0,none⟩) (n1+n2) cap4] 223));go_simp;refine hK.out _ _ (HS1.out _ ((hb4.out.alloc hb4.out.size _).mono hBW)) (fun hHeld=>?_);clear hK K
      try simp only[Act.put,List.setIfInBounds_toArray,List.set_cons_zero,List.set_cons_succ]
      clear cB;refine wpAnyH_ready (rs:=[22]) (by kernel_rfl) (by simp) ?_;refine AllReadyH.cons rfl (fun K hK=>?_) AllReadyH.nil;have HoA:Hid ((W4.alloc (.cells #[.int .i64 ((a:Int)+(b:Int)),.slice (some ⟨g4,0,none⟩) (n1+n2) cap4] 223)).ownsRow B 223 2 v P.length (p2 P)):=hid (kJ H2.out (aF (ak hb4.out none) _));have dx:Hid (∀(j:Nat) (u:Value),([.int .i64 ((a:Int)+(b:Int)),.slice (some ⟨g4,0,none⟩) (n1+n2) cap4]:List Value)[j]?=some u->(W4.alloc (.cells #[.int .i64 ((a:Int)+(b:Int)),.slice (some ⟨g4,0,none⟩) (n1+n2) cap4] 223)).cell? ((⟨W4.heap.size,0,none⟩:Addr).add j)=some u):=hid (fun j u hu=>by
       match j,hu with
       | 0,hu=>simp at hu;subst hu;simp[Addr.add]
       | 1,hu=>simp at hu;subst hu;simp[Addr.add])
      refine step_append_lies (W4.alloc (.cells #[.int .i64 ((a:Int)+(b:Int)),.slice (some ⟨g4,0,none⟩) (n1+n2) cap4] 223)) (by rfl) _ _ _ (by rfl) B 223 i0 (.agg #[.int .i64 0,.slice none 0 0]) 2 32 underlying218 hi hz0 hz1 hz2 rfl (by omega) v P.length (p2 P) (by rfl) HoA.out ⟨W4.heap.size,0,none⟩ 1 1 [.int .i64 ((a:Int)+(b:Int)),.slice (some ⟨g4,0,none⟩) (n1+n2) cap4] (by rfl) (by rfl) dx.out (by intro u hu;simp at hu;rcases hu with rfl | rfl<;>rfl) (by omega) (by unfold maxLen;omega) (by omega) (by have:=hb4.out.size;simp;omega) (W4.heap.size+1) (by simp) ?_;intro gN jJ wN hoN hgN Im aeU;obtain⟨afV,TJ⟩:=hr4.out;obtain⟨⟨cN,fN⟩,E⟩:=qU (u:=(a+b,(g4,cap4),l1++l2)) (hk:=hk) HB.out H1.out H2.out H3.out H4.out H5.out H6.out H7.out (by have:=Hm.out;omega) Hw2.out Hs2.out (HN.out g4 cap4) hb4.out TJ hoN hgN;have HE:=hid E;have hbN:Below B W wN:=((hb4.out.alloc hb4.out.size _).mono hBW).grown hgN (by have:=hb4.out.size;simp;omega) (fun q hq=>(HoA.out.lt q hq).1);refine hK.out _ _ (HS1.out _ hbN) (fun hHeld=>?_);clear hK K E hoN hgN Im aeU TJ HoA dx hbN
      try simp only[Act.put,List.setIfInBounds_toArray]
      refine wpAnyH_ready (rs:=[23]) (by kernel_rfl) (by simp) ?_;refine AllReadyH.cons rfl (fun K hK=>?_) AllReadyH.nil;go_simp;refine hK.out _ _ (HS1.out _ HE.out.2.1.1.1) (fun hHeld=>?_);clear hK K;refine wpAnyH_done (by kernel_rfl) ?_ _;exact HE.out
  ·have e2:jK m k=1:=by unfold jK;rw[if_neg hkm]
   rw[e2];have Gq:Hid (KeepsFrom (B+3) W W/\mM B (B+1) (B+2) W W/\KD T m B (.slice (some ⟨g,0,none⟩) m cap) w (pre++[⟨k,hk⟩]) W):=hid
    ⟨KeepsFrom.refl _ _,⟨⟨Below.refl _ _,rfl⟩,rfl⟩,⟨v,P,h1,h2',by rw[List.map_append];exact .skip h3 (by have:=Hm.out;show ¬2*k+1<T.length;omega),h4⟩,⟨h5,h6⟩,h7⟩
   clear h1 h2' h3 h4 h5 h6 h7;gi_wp2
   exact Gq.out
 case done=>
  rintro D ys W hD hys ⟨⟨v,P,h1,h2,h3,h4⟩,_,h7⟩ hK;rw[hys]at h3;obtain⟨r1,r2⟩:=wL T _ P h3 (by have:=Hm.out;omega);have c1:=h1.cell;have Hpo:Hid (mQ T P):=hid ⟨by have:=Hm.out;omega,fun x hx=>(r2 x hx).1,fun x hx=>(r2 x hx).2⟩;have H2:=hid h2;have H4:=hid h4;have H7:=hid h7;clear h2 h3 h4 h7 r1 r2 h1;gi_wp2
  refine⟨by simp,.inl ⟨_,_,rfl,run_takeDeferred hK,?_⟩⟩;refine⟨_,results_tmp rfl _ _ _,v,P,rfl,Hpo.out,?_,H4.out.far (grownBy_putObj' W D (.deferred none)) fun b e=>?_,?_⟩
  ·rw[<-HB.out];exact ownsRow_putObj H2.out _ hK rfl
  ·injection e with e
   subst e;exact⟨_,hK,fun cs e'=>by cases e'⟩
  ·show Below (w.heap.size) w _;rw[<-HB.out];exact H7.out.trans (belowK_b (w:=w) (by have:=HB.out;omega) W D _ _ (by have:=HB.out;omega) hK rfl rfl)
 case stop=>
  rintro D c pre W _ _ h _;exact h.elim
namespace Bm
theorem Xo{cs ls:List Nat}(hu:aeb cs ls)(aeI:cs.length<=256)(hex:∃x∈cs,0<x)(h2:(lvs cs).length<2):∀x∈ls,x<=11:=by
 have h1:=Ci cs hex;obtain⟨c,i,hci⟩:∃c i,lvs cs=[(c,i)]:=by
  match h:lvs cs with
  | []=>rw[h]at h1;simp at h1
  | [(c,i)]=>exact⟨c,i,rfl⟩
  | _ :: _ :: _=>rw[h]at h2;simp only[List.length_cons]at h2;omega
 have hm:=(bX cs cs.length (c,i)).1 (show(c,i)∈lvs cs by rw[hci];simp);simp only at hm;obtain⟨hi,hc,h0⟩:=hm;have e1:=hu.cost;have e2:=(Xn hci aeI).cost;rw[<-e2,qx,qx,hci]at e1;simp only[List.map_cons,List.map_nil,List.sum_cons,List.sum_nil,Nat.add_zero]at e1;have e3:bH ((List.replicate cs.length 0).set i 1) i=1:=by
  unfold bH;rw[List.getElem?_set_self (by simpa using hi)];rfl
 rw[e3]at e1;have hcp:0<c:=by omega
 have e4:bH ls i=1:=Nat.eq_of_mul_eq_mul_left hcp e1;intro x hx;obtain⟨k,hk,rfl⟩:=List.mem_iff_getElem.1 hx;have hkc:k<cs.length:=by rw[<-hu.len];exact hk
 by_cases hki:k=i
 ·subst hki;unfold bH at e4;rw[List.getElem?_eq_getElem hk,Option.getD_some]at e4;omega
 ·have hz:¬0<cs[k]?.getD 0:=fun h=>by
   have hmem:(cs[k]?.getD 0,k)∈lvs cs:=(bX cs cs.length _).2 ⟨hkc,rfl,h⟩;rw[hci]at hmem;simp only[List.mem_singleton]at hmem;injection hmem with _ e
   exact hki e
  have:=mt (hu.just k hkc).1 hz;rw[List.getElem?_eq_getElem hk,Option.getD_some]at this;omega
end Bm
theorem agG:akA:=by
 intro w A c l hl hb hr hR;refine(abP (fun _=>True) A c l w (by unfold maxLen;omega) hr hR trivial (fun cs ls W _ hl hm hex hr hu=>?_)).mono ?_
 ·by_cases h2:2<=(lvs cs).length
  ·exact .inr (abO aau A c cs W hl hm hex h2 hr)
  ·exact .inl (Xo hu hl hex (by omega))
 ·rintro e w' ⟨v,rfl,B,d,ls,rfl,hd,h1,h2,h3⟩;rw[List.length_map]at hd;exact⟨B,d,ls,by rw[List.length_map],hd,h1,h2,h3⟩
theorem Ck(l:List Nat):(l.map fun n:Nat=>(n:Int)).map Int.toNat=l:=by
 rw[List.map_map];conv=>rhs;rw[<-List.map_id l]
 apply List.map_congr_left
 intro x _;simp
def MZ(w':World)(b:Nat)(bs:List Nat)(e:Ending):Option (List Nat×Nat)->Prop
 | none=>e=.returned (.tuple #[.string (strOf []),.bool false])
 | some t=>e=.returned (.tuple #[.string (strOf t.1),.bool true])/\CR w' b (some (bs.drop t.2))
theorem Tj(A:Option Addr)(c:Nat)(ls:List Nat)(w:World)(hW:bC ls)(hr:Reads w A (aM ls)) :
  Calls prog 127 #[.slice A ls.length c] w fun e w'=>∃g,e=.returned (.tuple #[.slice (some ⟨g,0,none⟩) ls.length ls.length,.bool true])/\Reads w' (some ⟨g,0,none⟩) (aM (iZ ls))/\w.heap.size<=g/\Below w.heap.size w w':=by
 have hl:=hW.1;have h:=zU A c (ls.map fun n:Nat=>(n:Int)) w (by rw[List.length_map];omega) (by rw[bJ];exact hr) ((yO ls).2 hW);rw[List.length_map,Ck]at h;exact h
theorem ZY(b n:Nat)(t:List Nat)(w:World)(ht:t.length<=1000)(hlt:∀x∈t,x<256)(hn:n<=1048576)(h:CR w b (some t)) :
  Calls prog 104 #[.pointer (some ⟨b,0,none⟩),.int .i64 (n:Int)] w fun e w'=>MZ w' b t e (eG 2 n t)/\w.grownBy w' (some b):=by
 have Hr:=hid (aad w b t (by omega) hlt h);have e2:eG 2 n t=(match jl t with | none=>none | some p=>(oZ p.1 (t.drop p.2) n).map fun q=>(q.1,p.2+q.2)):=by
  unfold eG;rw[if_neg (by decide),if_neg (by decide),if_pos rfl];rfl
 rw[e2];clear e2 h;have hat:=Mi t;have hwh:=xY t;cases hrd:jl t with
 | none=>
  rw[hrd]at Hr;dsimp only;clear hat hwh hrd hlt ht;go_enter func104,ntmps104
  go_wp2_with fail
  refine Hr.out.mono ?_;rintro e w1 ⟨⟨A,c,rfl⟩,hg1⟩;go_wp2;go_ret2;exact⟨rfl,hg1⟩
 | some p=>
  obtain⟨ls,sz⟩:=p;have hr1:=Hr.out;rw[hrd]at hr1;unfold Yk at hr1;dsimp only at hr1;replace Hr:=hid hr1
  clear hr1;have hW:=hwh (ls,sz) hrd;dsimp only at hW ⊢;have hdl:(t.drop sz).length<=1000:=by rw[List.length_drop];omega
  have hdt:∀x∈t.drop sz,x<256:=dG hlt sz;have hdd:∀k,(t.drop sz).drop k=t.drop (sz+k):=fun k=>by rw[List.drop_drop]
  have Hdd:=hid hdd;have Htx:=hid (fun W (h:CR W b (some (t.drop sz)))=>nC b (some (t.drop sz)) 9223372036854775807 W (by omega) (by omega) ⟨hdt,by omega⟩ h);have HW:=hid hW;clear hat hwh hrd hlt ht hW hdd;generalize t.drop sz=u at *;by_cases hc:0<(au u).2/\(au u).1<=u.length-(au u).2
  ·have ht2:=abM u hc (by omega);have ecb:oZ ls u n=(NI ls ((u.drop (au u).2).take (au u).1) n).map fun x=>(x,(au u).2+(au u).1):=by unfold oZ;rw[if_pos hc]
   rw[ht2]at Htx;rw[ecb];dsimp only at Htx;obtain⟨cd,hcd⟩:∃cd,cd=(u.drop (au u).2).take (au u).1:=⟨_,rfl⟩;have hcl:cd.length<=1000:=by rw[hcd,List.length_take,List.length_drop];omega
   have hct:∀x∈cd,x<256:=fun x hx=>hdt x (List.mem_of_mem_drop (List.mem_of_mem_take (by rw[hcd]at hx;exact hx)))
   rw[<-hcd]at Htx ⊢;obtain⟨k,hk⟩:∃k,k=(au u).2+(au u).1:=⟨_,rfl⟩;rw[<-hk]at Htx ⊢;have acB:=hid (fun W A c (hr:Reads W A (aM ls))=>ZO A c ls cd n W HW.out (by omega) hcl hct hr (Tj A c ls W HW.out hr));have Hlen:=hid (fun d (h:NI ls cd n=some d)=>(BN ls cd d n hct h).2.2);clear hc ht2 ecb hcd hcl hct hk hdl hdt;have ajZ:=hid (fun W A c bs h1 h2=>bS W A c bs h1 h2);generalize strOf cd=scd at *;go_enter func104,ntmps104
   go_wp2_with fail
   refine Hr.out.mono ?_;rintro e w1 ⟨⟨A,c,rfl,aeZ,sV⟩,hg1⟩;have Hg1:=hid hg1;have acE:=hid aeZ;have amy:=hid sV;have XL:=hid (Htx.out w1 sV);clear aeZ hg1 Hr Htx sV;go_wp2_with fail
   refine XL.out.mono ?_;rintro e w2 ⟨rfl,jX,hg2⟩;have Hg2:=hid (ay Hg1.out hg2);have Hrb:=hid (aK b _ w2 jX);have amR:=hid (Pm amy.out acE.out hg2);have vW:=hid jX;clear hg2 jX Hg1 XL acE amy;go_wp2_with fail
   refine Hrb.out.mono ?_;rintro e w3 ⟨rfl,rfl⟩;have Hd2:=hid (acB.out w2 A c amR.out);clear Hrb acB amR;cases hdc:NI ls cd n with
   | none=>
    rw[hdc]at Hd2;have hnil:∀W A c,(convert 60 9 (.slice A 0 c)).run prog W=.ok (.string (strOf [])) W:=fun W A c=>ajZ.out W A c [] (by simp) (fun h=>absurd rfl h)
    have Hdc:=hid hdc;clear Hlen ajZ hdc vW;go_wp2_with fail
    refine Hd2.out.mono ?_;rintro e w4 ⟨⟨A4,c4,rfl⟩,hb4⟩;have Hg4:=hid (ay Hg2.out (ak hb4 (some b)));have hcv:=hnil w4 A4 c4;clear hb4 Hg2 Hd2 hnil;go_wp2;go_ret2;rw[Hdc.out];exact⟨rfl,Hg4.out⟩
   | some d=>
    rw[hdc]at Hd2;have aiM:∀x∈d,x<256:=fun x hx=>Nat.lt_of_lt_of_le (Hlen.out d hdc x hx) HW.out.1
    have anI:=hid (fun W A c h=>ajZ.out W A c d aiM h);have Hdc:=hid hdc;clear Hlen ajZ hdc aiM;have ahG:Hid (CR w2 b (some (t.drop (sz+k)))):=hid (by rw[<-Hdd.out];exact vW.out);clear vW;go_wp2_with fail
    refine Hd2.out.mono ?_;rintro e w4 ⟨⟨A4,c4,rfl,_,aoj⟩,hb4⟩;have hcv:=anI.out w4 A4 c4 aoj;have Hg4:=hid (ay Hg2.out (ak hb4 (some b)));have XI:=hid (ahG.out.below hb4);clear hb4 Hg2 Hd2 anI aoj ahG;generalize hsd:strOf d=sd at *;have Hsd:=hid hsd;clear hsd;go_wp2;go_ret2;rw[Hdc.out,<-Hsd.out];exact⟨⟨rfl,XI.out⟩,Hg4.out⟩
  ·have ht2:=agC u hc (by omega);have ecb:oZ ls u n=none:=by unfold oZ;rw[if_neg hc]
   rw[ht2]at Htx;rw[ecb];dsimp only at Htx;rw[Option.map_none];have Hcv:=hid (aA []);generalize strOf []=sN at *;clear ht2 ecb hc hdl hdt Hdd HW;go_enter func104,ntmps104
   go_wp2_with fail
   refine Hr.out.mono ?_;rintro e w1 ⟨⟨A,c,rfl,aeZ,sV⟩,hg1⟩;have Hg1:=hid hg1;have XL:=hid (Htx.out w1 sV);clear aeZ hg1 Hr Htx sV;go_wp2_with fail
   refine XL.out.mono ?_;rintro e w2 ⟨rfl,jX,hg2⟩;have Hg2:=hid (ay Hg1.out hg2);have Hrb:=hid (aK b _ w2 jX);clear hg2 jX Hg1 XL;go_wp2_with fail
   refine Hrb.out.mono ?_;rintro e w3 ⟨rfl,rfl⟩;clear Hrb;go_wp2;go_ret2;exact⟨rfl,Hg2.out⟩
namespace Bm
theorem NR(s ls:List Nat)(h:Bj (aR s) ls)(h0:0<s.length):aI ls=ls:=by
 have hl:=h.len;rw[nN]at hl;obtain⟨x,hx⟩:∃x,x∈s:=by
  cases s with
  | nil=>simp at h0
  | cons x s=>exact⟨x,List.mem_cons_self⟩
 have:=jP s x hx;obtain⟨b,hb,e⟩:=Xh s (by omega);have hp:=h.fit b (by rw[nN];omega) (zM s b hb);refine AB ls ?_;rw[show ls.length-1=b by omega];omega
theorem Zl(s ls:List Nat)(h:Bj (aR s) ls):∀b∈s,0<ls[b]?.getD 0:=fun b hb=>h.fit b (by rw[nN];exact jP s b hb) (zM s b hb)
theorem Eb(ls bs:List Nat)(h:∀x∈ls,x<=11):BJ ls bs<=11*bs.length:=by
 unfold BJ;induction bs with
 | nil=>simp
 | cons b bs ih=>
  have h3:=Es h b;rw[List.map_cons,List.sum_cons,List.length_cons];omega
def adA(s ls c:List Nat):Prop:=bC ls/\aI ls=ls/\QB ls s=some c/\c.length<=100000/\∀x∈c,x<256
theorem aer(s ls:List Nat)(h:Bj (aR s) ls)(h0:0<s.length)(hs:s.length<=10000):∃c,adA s ls c:=by
 obtain⟨t,ht⟩:=En ls s (Zl s ls h);have htl:=wU ls s t ht;have hcl:=Eb ls s h.whole.2.1;refine⟨pO t,h.whole,NR s ls h h0,by rw[QB,ht];rfl,by rw[nu];omega,LZ t⟩
end Bm
theorem NU(A:Option Addr)(c:Nat)(ls:List Nat)(w:World)(hW:bC ls)(hr:Reads w A (aM ls)) :
  Calls prog 127 #[.slice A ls.length c] w fun e w'=>∃g,e=.returned (.tuple #[.slice (some ⟨g,0,none⟩) ls.length ls.length,.bool true])/\Reads w' (some ⟨g,0,none⟩) (aM (iZ ls))/\w.heap.size<=g/\Below w.heap.size w w':=by
 have hl:=hW.1;have h:=zU A c (ls.map fun n:Nat=>(n:Int)) w (by rw[List.length_map];omega) (by rw[bJ];exact hr) ((yO ls).2 hW);rw[List.length_map,Ck]at h;exact h
theorem aai(A:Option Addr)(c:Nat)(ls:List Nat)(w:World)(hW:bC ls)(hc:ls.length<=c)(hr:Reads w A (aM ls)) :
  Calls prog 101 #[.slice A ls.length c] w fun e w'=>e=.returned (.tuple #[.string (strOf (bR (aI ls))),.bool true])/\Below w.heap.size w w':=by
 have hl:=hW.1;have h:=afs w A c (ls.map fun n:Nat=>(n:Int)) (by rw[List.length_map];omega) (by rw[List.length_map];exact hc) (fun x hx=>by
  obtain⟨n,hn,rfl⟩:=List.mem_map.1 hx;have:=hW.2.1 n hn;constructor<;>omega) (by rw[bJ];exact hr)
 rw[List.length_map,Ck,if_pos ((yO ls).2 hW)]at h;exact h
theorem abQ(A:Option Addr)(c:Nat)(s:List Nat)(w:World)(h0:0<s.length)(hs:s.length<=10000)(hlt:∀x∈s,x<256)(hr:Reads w A (aM (aR s))) :
  Calls prog 100 #[.slice A (iH s) c] w fun e w'=>∃B d ls,e=.returned (.tuple #[.slice B (iH s) d,.bool true])/\iH s<=d/\ls.length=iH s/\Reads w' B (aM ls)/\(∃c,adA s ls c)/\Below w.heap.size w w':=by
 have ht:=jW s hlt;have h1:=agG w A c (aG s) (by rw[bI];omega) (fun x hx=>by have:=kY s x hx;constructor<;>omega) (by unfold aG;rw[bJ];exact hr) (qz s hlt (by omega) h0);rw[bI,GY]at h1;refine h1.mono ?_;rintro e w' ⟨B,d,ls,rfl,hd,hrd,hg,hb⟩;exact⟨B,d,ls,rfl,hd,by rw[hg.len,nN],hrd,aer s ls hg h0 hs,hb⟩
theorem afo(A:Option Addr)(c:Nat)(s:List Nat)(w:World)(h0:0<s.length)(hs:s.length<=10000)(hlt:∀x∈s,x<256)(hr:Reads w A (aM (aR s))) :
  Calls prog 71 #[.string (strOf s),.slice A (iH s) c] w fun e w'=>(∃ls c,adA s ls c/\e=.returned (.tuple #[.string (strOf (gI ls c s)),.bool true]))/\Below w.heap.size w w':=by
 have Hl:=hid (abQ A c s w h0 hs hlt hr);have hcv:=fun W=>bU W s hlt
 have Hcv:=hid hcv;have Ri:∀W,Calls prog 69 #[.int .u64 2,.string (strOf s)] W _:=fun W=>Ch 2 s W (by decide) (by omega)
 have akf:=hid Ri;have Hlt:=hid hlt;have Hs:=hid hs;clear hr hlt hcv Ri h0 hs;go_enter func71,ntmps71
 go_wp2_with fail
 refine Hl.out.mono ?_;rintro e w1 ⟨B,d,ls,rfl,hd,hll,hrd,⟨cd,hcd⟩,hb1⟩;have Hll:=hid hll;have htab:=aai B d ls w1 hcd.1 (by omega) hrd;rw[hcd.2.1,hll]at htab;have acI:=hid htab;have Hrd:=hid hrd;have Hcd:=hid hcd;have Hb1:=hid hb1;clear hrd hcd hb1 htab hll Hl hd;go_wp2_with fail
 refine acI.out.mono ?_;rintro e w2 ⟨rfl,hb2⟩;obtain⟨w3,cap,dB,hcell,hb3⟩:=Hcv.out w2;have hrs:Reads w3 (some ⟨w2.heap.size,0,none⟩) (u8s s):=fun _=>⟨_,_,rfl,fun j hj=>by
  rw[aO]at hj;rw[Nat.zero_add,hcell j hj,bD s j hj]⟩
 have hrl:=aC (aC Hrd.out hb2) hb3;have henc:=ZP B (some ⟨w2.heap.size,0,none⟩) d cap ls s w3 Hcd.out.1 Hs.out Hlt.out hrl hrs (NU B d ls w3 Hcd.out.1 hrl);rw[Hcd.out.2.2.1,Hll.out]at henc;unfold ajP at henc;dsimp only at henc;have adH:=hid henc;have Hb3:=hid (Hb1.out.trans ((hb2.trans (hb3.mono hb2.size)).mono Hb1.out.size));clear hb2 hb3 hrs hrl henc hcell Hb1 acI Hrd Hcv Hll;have hcl:=Hcd.out.2.2.2.1;have htl:(bR ls).length<=200:=by
  rw[dK];have:=Hcd.out.1.1;omega
 have ahp:=eZ s.length (by have:=Hs.out;omega);have fT:=hid (fun W b h=>iq b (2 :: grp s.length) (bR ls) W (by rw[List.length_cons];omega) h);have adW:=hid (fun W b h=>rY b (2 :: grp s.length++bR ls) cd W (by rw[List.length_append,List.length_cons];omega) (by omega) h);have htc:=eZ cd.length (by omega);have e0:2 :: grp s.length++bR ls++(grp cd.length++cd)=gI ls cd s:=by
  unfold gI;simp only[List.cons_append,List.append_assoc]
 have hall:∀x∈gI ls cd s,x<256:=by
  have hls:=Hcd.out.1;refine AA 2 _ _ (by decide) (by have:=Hs.out;omega) (mR (yC ls hls.2.1 hls.1) (mR (lU _ (by omega)) Hcd.out.2.2.2.2))
 have hlen:(gI ls cd s).length<=1000000:=by
  unfold gI;simp only[List.length_cons,List.length_append];omega
 rw[e0]at adW;have qj:=hid (fun W b h=>iU b (gI ls cd s) W (by omega) hall h);clear e0 hall hlen hcl htl ahp htc Hs Hlt;go_wp2_with fail
 refine adH.out.mono ?_;rintro e w4 ⟨rfl,hb4⟩;have Hb4:=hid (Hb3.out.trans (hb4.mono Hb3.out.size));clear hb4 Hb3 adH;go_wp2_with fail
 refine(akf.out w4).mono ?_;rintro e w5 ⟨rfl,hc5,hb5⟩;have Hb5:=hid (Hb4.out.trans (hb5.mono Hb4.out.size));have Hle:=hid Hb4.out.size;have Hr5:=hid (fT.out w5 _ hc5);clear hc5 hb5 Hb4 fT akf;generalize w4.heap.size=b at *;go_wp2_with fail
 refine Hr5.out.mono ?_;rintro e w6 ⟨rfl,hc6,hg6⟩;have Hb6:=hid (Hb5.out.trans (below_grown hg6 Hle.out Hb5.out.size));have Ht6:=hid (adW.out w6 _ hc6);clear hc6 hg6 Hb5 Hr5 adW;go_wp2_with fail
 refine Ht6.out.mono ?_;rintro e w7 ⟨rfl,hc7,hg7⟩;have Hb7:=hid (Hb6.out.trans (below_grown hg7 Hle.out Hb6.out.size));have Hs7:=hid (qj.out w7 _ hc7);clear hc7 hg7 Hb6 Ht6 qj;go_wp2_with fail
 refine Hs7.out.mono ?_;rintro e w8 ⟨rfl,hb8⟩;have Hb8:=hid (Hb7.out.trans (hb8.mono Hb7.out.size));clear hb8 Hb7 Hs7;go_wp2;go_ret2;exact⟨⟨ls,cd,Hcd.out,rfl⟩,Hb8.out⟩
theorem ZU(A:Option Addr)(c:Nat)(s:ByteArray)(w:World) :
  Calls prog 71 #[.string s,.slice A 0 c] w fun e w'=>e=.returned (.tuple #[.string (strOf []),.bool false])/\Below w.heap.size w w':=by
 have h:Calls prog 100 #[.slice A 0 c] w _:=agH A c [] w (by unfold maxLen;simp) (fun h=>absurd rfl h) (by rintro⟨_,_,x,hx,_⟩;simp at hx);have H:=hid h;clear h;go_enter func71,ntmps71
 go_wp2_with fail
 refine H.out.mono ?_;rintro e w' ⟨rfl,rfl⟩;go_wp2;go_ret2;exact⟨rfl,Below.refl _ _⟩
theorem afr(k:Nat)(s:List Nat)(w:World)(hk:k<256)(hs:s.length<=10000000) :
  Calls prog 69 #[.int .u64 (k:Int),.string (strOf s)] w fun e w'=>∃b,e=.returned (.pointer (some ⟨b,0,none⟩))/\CW w' b (k :: grp s.length)/\w.heap.size<=b/\Below w.heap.size w w':=
 (Ch k s w hk hs).mono fun _ _ ⟨h1,h2,h3⟩=>⟨_,h1,h2,Nat.le_refl _,h3⟩
theorem IY(s:List Nat)(w:World)(hs:s.length<=10000)(hlt:∀x∈s,x<256)(h1:kR (aG s)=1) :
  Calls prog 37 #[.string (strOf s)] w fun e w'=>e=.returned (.string (strOf (DF s)))/\Below w.heap.size w w':=by
 obtain⟨x,hx,h0⟩:=xG s h1;obtain⟨w1,cap,dB,hcell,hb1⟩:=bU w s hlt;have hrs:Reads w1 (some ⟨w.heap.size,0,none⟩) (u8s s):=fun _=>⟨_,_,rfl,fun j hj=>by
  rw[aO]at hj;rw[Nat.zero_add,hcell j hj,bD s j hj]⟩
 have Hof:=hid (adi (some ⟨w.heap.size,0,none⟩) cap s w1 (by omega) hlt hrs);have hsy:=fun A c W h=>xE A c s W hlt h
 rw[h1]at hsy;have Hsy:=hid hsy;have Ri:∀W,Calls prog 69 #[.int .u64 1,.string (strOf s)] W _:=fun W=>afr 1 s W (by decide) (by omega)
 have akf:=hid Ri;have ahp:=eZ s.length (by omega);have ht1:(s.take 1).length<=1:=by rw[List.length_take];omega
 have fT:=hid (fun W b h=>iq b (1 :: grp s.length) (s.take 1) W (by rw[List.length_cons];omega) h);have qj:=hid (fun W b h=>iU b ((1 :: grp s.length)++s.take 1) W (by rw[List.length_append,List.length_cons];omega) (AA 1 s.length (s.take 1) (by decide) (by omega) (iN hlt 1)) h);have e0:(1 :: grp s.length)++s.take 1=DF s:=rfl;rw[e0]at fT qj;have hcut:∀W:World,(Instr.slice 9 (.string (strOf s)) none (some (.int .i64 1)) none).run prog W=.ok (.string (strOf (s.take 1))) W:=fun W=>uU s 1 (by omega) W
 have hsz:=aA s;have Hb1:=hid hb1;clear hx hcell hrs hsy Ri ahp ht1 e0 h1 hlt hb1;generalize DF s=E at *;generalize strOf (s.take 1)=s1 at *;generalize strOf s=str at *;go_enter func37,ntmps37
 go_wp2_with fail
 refine Hof.out.mono ?_;rintro e w2 ⟨A,c,rfl,hr2,hb2⟩;have Hb2:=hid (Hb1.out.trans (hb2.mono Hb1.out.size));have Hs2:=hid (Hsy.out A c w2 hr2);clear hr2 hb2 Hb1 Hof Hsy dB;go_wp2_with fail
 refine Hs2.out.mono ?_;rintro e w3 ⟨rfl,hb3⟩;have Hb3:=hid (Hb2.out.trans (hb3.mono Hb2.out.size));clear hb3 Hb2 Hs2;go_upto_region 3 with fail
 refine wp_region_held_drew (S:=(fun _:World=>True)) (by kernel_rfl) (by trivial) (fun hHeld=>?_);refine wpAnyH_take (i:=0) (oi:={dst:=some 13,op:=.move (.tmp 0),type:=9,pos:= "lits.go:30",after:=#[],guard:=none}) (v:=?_) rfl (by kernel_rfl) (by kernel_rfl) (by kernel_rfl) (fun _ _ _ h=>h) (Or.inl ⟨by rfl,?_⟩) (by assumption) ?_;rotate_left
 ·(intro w hSw;(try dsimp only at hSw);go_simp;(try with_reducible rfl))
 try simp only[Act.put,List.setIfInBounds_toArray,List.set_cons_zero,List.set_cons_succ]
 refine wpAnyH_take (i:=2) (oi:={dst:=some 15,op:=.move (.tmp 0),type:=9,pos:= "lits.go:30",after:=#[],guard:=none}) (v:=?_) rfl (by kernel_rfl) (by kernel_rfl) (by kernel_rfl) (fun _ _ _ h=>h) (Or.inl ⟨by rfl,?_⟩) (by assumption) ?_;rotate_left
 ·(intro w hSw;(try dsimp only at hSw);go_simp;(try with_reducible rfl))
 try simp only[Act.put,List.setIfInBounds_toArray,List.set_cons_zero,List.set_cons_succ]
 refine wpAnyH_take (i:=3) (oi:={dst:=some 16,op:=.slice 9 (.tmp 15) none (some (.const (.int .i64 1))) none,type:=9,pos:= "lits.go:30",after:=#[{on:=2,ground:=.data}],guard:=none}) (v:=?_) rfl (by kernel_rfl) (by kernel_rfl) (by kernel_rfl) (fun _ _ _ h=>h) (Or.inl ⟨by rfl,?_⟩) (by assumption) ?_;rotate_left
 ·(intro w hSw;(try dsimp only at hSw);go_simp;(try with_reducible rfl))
 try simp only[Act.put,List.setIfInBounds_toArray,List.set_cons_zero,List.set_cons_succ]
 refine wpAnyH_ready (rs:=[1]) (by kernel_rfl) (by simp) ?_;refine AllReadyH.cons (o:={dst:=some 14,op:=.call {callee:=.value (.func 69),args:=#[.const (.int .u64 1),.tmp 13],argTypes:=#[36,9]},type:=73,pos:= "lits.go:30",after:=#[{on:=0,ground:=.data}],guard:=none}) rfl (fun K hK=>?_) AllReadyH.nil;go_simp
 (go_at_call 69;refine(akf.out _).mono ?_;rintro e w4 ⟨b,rfl,hc4,hbb,hb4⟩;have HX:=hid (Hb3.out.drew.trans (hb4.mono Hb3.out.size));have HB:=hid (Nat.le_trans Hb3.out.drew.size hbb);have HC:=hid hc4;clear hc4 hb4 hbb)
 go_simp;refine hK.out _ _ (by trivial) (fun hHeld=>?_);clear hK K
 try simp only[Act.put,List.setIfInBounds_toArray,List.set_cons_zero,List.set_cons_succ]
 refine wpAnyH_ready (rs:=[4]) (by kernel_rfl) (by simp) ?_;refine AllReadyH.cons (o:={dst:=some 17,op:=.call {callee:=.value (.func 33),args:=#[.tmp 14,.tmp 16],argTypes:=#[73,9]},type:=73,pos:= "lits.go:30",after:=#[{on:=1,ground:=.data},{on:=3,ground:=.data},{on:=1,ground:=.chain}],guard:=none}) rfl (fun K hK=>?_) AllReadyH.nil;go_simp
 (go_at_call 33;refine(fT.out _ _ HC.out).mono ?_;rintro e w5 ⟨rfl,hc5,hg5⟩;have HY:=hid (HX.out.trans (below_grown hg5 HB.out HX.out.size));have HD:=hid hc5;clear hc5 hg5)
 go_simp;refine hK.out _ _ (by trivial) (fun hHeld=>?_);clear hK K
 try simp only[Act.put,List.setIfInBounds_toArray,List.set_cons_zero,List.set_cons_succ]
 refine wpAnyH_ready (rs:=[5]) (by kernel_rfl) (by simp) ?_;refine AllReadyH.cons (o:={dst:=some 18,op:=.call {callee:=.value (.func 34),args:=#[.tmp 17],argTypes:=#[73]},type:=9,pos:= "lits.go:30",after:=#[{on:=4,ground:=.data},{on:=4,ground:=.chain}],guard:=none}) rfl (fun K hK=>?_) AllReadyH.nil;go_simp
 (go_at_call 34;refine(qj.out _ _ HD.out).mono ?_;rintro e w6 ⟨rfl,hb6⟩;have HZ:=hid (HY.out.trans (hb6.mono HY.out.size));clear hb6)
 go_simp;refine hK.out _ _ (by trivial) (fun hHeld=>?_);clear hK K
 try simp only[Act.put,List.setIfInBounds_toArray,List.set_cons_zero,List.set_cons_succ]
 refine wpAnyH_take (i:=6) (oi:={dst:=some 2,op:=.assign (.tmp 18),type:=9,pos:= "lits.go:30",after:=#[{on:=5,ground:=.data},{on:=5,ground:=.chain},{on:=0,ground:=.phase},{on:=1,ground:=.phase},{on:=2,ground:=.phase},{on:=3,ground:=.phase},{on:=4,ground:=.phase},{on:=5,ground:=.phase}],guard:=none}) (v:=?_) rfl (by kernel_rfl) (by kernel_rfl) (by kernel_rfl) (fun _ _ _ h=>h) (Or.inl ⟨by rfl,?_⟩) (by assumption) ?_;rotate_left
 ·(intro w hSw;(try dsimp only at hSw);go_simp;(try with_reducible rfl))
 try simp only[Act.put,List.setIfInBounds_toArray,List.set_cons_zero,List.set_cons_succ]
 refine wpAnyH_done (by kernel_rfl) ?_ _;go_wp2;go_ret;exact⟨rfl,HZ.out⟩
theorem IZ(s:List Nat)(w:World)(hs:s.length<=10000)(hlt:∀x∈s,x<256)(h1:kR (aG s)≠1) :
  Calls prog 37 #[.string (strOf s)] w fun e w'=>(∃E,adZ s E/\e=.returned (.string (strOf E)))/\Below w.heap.size w w':=by
 obtain⟨w1,cap,dB,hcell,hb1⟩:=bU w s hlt;have hrs:Reads w1 (some ⟨w.heap.size,0,none⟩) (u8s s):=fun _=>⟨_,_,rfl,fun j hj=>by
  rw[aO]at hj;rw[Nat.zero_add,hcell j hj,bD s j hj]⟩
 have Hof:=hid (adi (some ⟨w.heap.size,0,none⟩) cap s w1 (by omega) hlt hrs);obtain⟨m,hm⟩:∃m,m=kR (aG s):=⟨_,rfl⟩;have hsy:=fun A c W h=>xE A c s W hlt h
 rw[<-hm]at h1 hsy;have Hsy:=hid hsy;have dm:((m:Int) == 1)=false:=by rw[beq_eq_false_iff_ne];omega
 have fT:=hid (fun W=>aac s W (by omega) hlt);have HpR:=hid (agm s hlt (by omega));have Hb1:=hid hb1;have hin:(s=[]/\iH s=0)\/0<s.length:=by
  cases s with
  | nil=>exact .inl ⟨rfl,rfl⟩
  | cons x s=>exact .inr (by simp)
 have Hin:=hid (fun A c W h0 h=>afo A c s W h0 hs hlt h);have Hno:=hid (fun A c W=>ZU A c (strOf s) W);have Hs:=hid hs;clear hcell hrs hsy hb1 hlt hm hs;go_enter func37,ntmps37
 go_wp2_with fail
 refine Hof.out.mono ?_;rintro e w2 ⟨A,c,rfl,hr2,hb2⟩;have Hb2:=hid (Hb1.out.trans (hb2.mono Hb1.out.size));have Hs2:=hid (Hsy.out A c w2 hr2);have Hr2:=hid hr2;clear hr2 hb2 Hb1 Hof Hsy dB;go_wp2_with fail
 refine Hs2.out.mono ?_;rintro e w3 ⟨rfl,hb3⟩;have Hb3:=hid (Hb2.out.trans (hb3.mono Hb2.out.size));have Hr3:=hid (aC Hr2.out hb3);clear hb3 Hb2 Hs2 Hr2 h1;go_wp2_with fail
 refine(fT.out w3).mono ?_;rintro e w4 ⟨rfl,hb4⟩;have Hb4:=hid (Hb3.out.trans (hb4.mono Hb3.out.size));have Hr4:=hid (aC Hr3.out hb4);clear hb4 Hb3 fT Hr3;have hsR:=aA (QG s);have dR:Hid (∃E',adZ s E'/\strOf (QG s)=strOf E'):=hid ⟨QG s,HpR.out,rfl⟩;clear HpR;generalize hlR:(QG s).length=lR at hsR;have HlR:=hid hlR;clear hlR;generalize strOf (QG s)=sR at *;rcases hin with⟨_,ht⟩ | h0
 ·rw[ht];have Hn4:=hid (Hno.out A c w4);clear Hin Hno Hr4 ht Hs HlR;generalize strOf s=str at *;have es:(strOf []).size=0:=aA [];generalize strOf []=sN at *;go_wp2_with fail
  refine Hn4.out.mono ?_;rintro e w5 ⟨rfl,hb5⟩;have Hb5:=hid (Hb4.out.trans (hb5.mono Hb4.out.size));clear hb5 Hb4 Hn4;obtain⟨E',h1,h2⟩:=dR.out;have H1:=hid h1;have H2:=hid h2;clear h1 h2 dR;go_wp2;go_ret;exact⟨⟨E',H1.out,congrArg (fun x=>Ending.returned (Value.string x)) H2.out⟩,Hb5.out⟩
 ·have Hi4:=hid (Hin.out A c w4 h0 Hr4.out);clear Hin Hno Hr4;go_wp2_with fail
  refine Hi4.out.mono ?_;rintro e w5 ⟨⟨ls,cd,hcd,rfl⟩,hb5⟩;have Hb5:=hid (Hb4.out.trans (hb5.mono Hb4.out.size));have Hcd:=hid hcd;have hsE:=aA (gI ls cd s);clear hb5 Hb4 Hi4 hcd;by_cases hl:(gI ls cd s).length<lR
  ·have HpE:=hid (Wm ls cd s (by have:=Hs.out;omega) Hcd.out.1 Hcd.out.2.1 Hcd.out.2.2.1 (by have:=Hcd.out.2.2.2.1;omega) Hcd.out.2.2.2.2 (by rw[HlR.out];exact hl));have d1:decide (((gI ls cd s).length:Int)<(lR:Int))=true:=decide_eq_true (by omega);have d2:decide ((gI ls cd s).length<lR)=true:=decide_eq_true hl;clear hl Hcd Hs HlR dR;generalize gI ls cd s=E at *;have H2:=hid (rfl:strOf E=strOf E);generalize hE:strOf E=sE at hsE H2 ⊢;have H3:=hid hE.symm;clear hE H2;generalize E.length=lE at *;go_wp2;go_ret;exact⟨⟨E,HpE.out,congrArg (fun x=>Ending.returned (Value.string x)) H3.out⟩,Hb5.out⟩
  ·have d1:decide (((gI ls cd s).length:Int)<(lR:Int))=false:=decide_eq_false (by omega);have d2:decide ((gI ls cd s).length<lR)=false:=decide_eq_false hl;clear hl Hcd Hs HlR;generalize strOf (gI ls cd s)=sE at *;generalize (gI ls cd s).length=lE at *;obtain⟨E',h1,h2⟩:=dR.out;have H1:=hid h1;have H2:=hid h2;clear h1 h2 dR;go_wp2;go_ret;exact⟨⟨E',H1.out,congrArg (fun x=>Ending.returned (Value.string x)) H2.out⟩,Hb5.out⟩
theorem Uy(s:List Nat)(w:World)(hs:s.length<=10000)(hlt:∀x∈s,x<256) :
  Calls prog 37 #[.string (strOf s)] w fun e w'=>(∃E,adZ s E/\e=.returned (.string (strOf E)))/\Below w.heap.size w w':=by
 by_cases h1:kR (aG s)=1
 ·exact(IY s w hs hlt h1).mono fun e w' ⟨he,hb⟩=>⟨⟨_,Wj s hlt (by omega) h1,he⟩,hb⟩
 ·exact IZ s w hs hlt h1
end Go.Proofs.YtaebnkeddcbmkaaGreat
