/- Contracts, and what they rest on. Conditions: the theorems' premises. -/
import Derived.Test.YtgiicohbigiapaaGreatYbd
import Derived.Test.YtgiicohbigiapaaGreatYbl
set_option maxHeartbeats 4000000
set_option maxRecDepth 100000
open Go.Lib(hid)
open Go.Proofs.Tryz Go.Proofs.YtgiicohbigiapaaGreat.Bm
namespace Go.Proofs.YtgiicohbigiapaaGreat
open Go.RowKit Go.Shelf
attribute [local go_sem] Oper.semAt_some
theorem Mf{n l:Nat}{P:Program}{row:String}{args:Array Value}{w:World}{R:Value→World→Prop}(h:Rows P row args w R):RowsIn (Fence.wide.inRound l) n P row args w R:=fun c cs _=>by
 obtain⟨v,w',hR,hs⟩:=h c cs;exact⟨v,w',hR,stepsIn_wide.2 hs⟩
theorem QU{n l:Nat}{P:Program}{ops:Array Oper}{Q:Exit→Act→World→Prop}(hnd:∀(i:Nat) (o:Oper),ops[i]?=some o→∀c,o.op≠.defer c)(hQ:¬LetsOut Q) :
  ∀(L:List Nat) (a:Act) (w:World),wpOps P ops Q L a w→wpOpsIn (Fence.wide.inRound l) n P ops Q L a w:=by
 intro L;induction L with
 | nil=>exact fun a w h=>h
 | cons i rest ih=>
  intro a w h;simp only[wpOps]at h;simp only[wpOpsIn];cases ho:ops[i]? with
  | none=>rw[ho]at h;exact ih a w h
  | some o=>
   rw[ho]at h;dsimp only at h ⊢;by_cases hw:Region.wanted o (yielded ops a.tmps)=true
   ·rw[if_pos hw]at h ⊢;rcases h with h | ⟨_,h⟩
    ·refine⟨fun _ _=>trivial,?_⟩;show o.uponIn _ n P a _ Q ((o.semAt (some l) a.eval).run P w);rw[Oper.semAt_some l _ _ (hnd i o ho)];unfold Oper.wp at h;generalize (execOp a.eval o).run P w=r at *;cases r with
     | ok x w'=>
      cases x with
      | value v=>exact ih _ _ h
      | skip=>exact ih _ _ h
      | defer d=>exact ih _ _ h
      | enter f args=>
       refine⟨fun hd=>(by cases hd),?_⟩;refine CallsIn.mono (CallsIn.inRound l (callsIn_wide.2 h)) fun e w'' he=>?_
       cases e with
       | returned v=>exact ih _ _ he
       | panicked c=>exact he
       | outgrown=>exact he
      | row row args=>exact⟨fun hd=>(by cases hd),RowsIn.mono (Mf h) fun v w'' he=>ih _ _ he⟩
      | _=>exact h.elim
     | halt x w'=>
      cases x with
      | panic v=>exact h
      | _=>exact h.elim
    ·exact absurd h hQ
   ·rw[if_neg hw]at h ⊢;exact⟨fun _ _=>trivial,ih _ _ h⟩
theorem Dw{n l id:Nat}{P:Program}{ops:Array Oper}{Q:Exit→Act→World→Prop}{S:World→Prop}{a:Act}{w:World}(hm:P.follows .mixedOrders=true)(hnd:ops.all (fun o=>match o.op with | .defer _=>false | _=>true)=true)(hQ:¬LetsOut Q)(hS:S w.drew)
  (h:S w.drew→wpAnyH P .any ops Q S ops.size (Array.replicate ops.size false) a w.drew):(Code.region id ops true).wpIn (Fence.wide.inRound l) n P Q a w:=
 wpIn_region_draw fun t=>by
  simp only[Region.schedule,hm,Bool.true_or,if_true];refine QU (fun i o ho c hc=>?_) hQ _ _ _ (wpAny_sound ops.size t _ a _ (wpAny_of_held _ _ _ _ (h hS)));obtain⟨hi,rfl⟩:=Array.getElem?_eq_some_iff.1 ho;have h1:=Array.all_eq_true.1 hnd i hi;rw[hc]at h1;cases h1
def lN(n₀ Bs Bn:Nat)(A B:World):Prop:=nI n₀ Bs A B∧B.heap[Bn]?=A.heap[Bn]?
theorem lN.t{n₀ Bs Bn:Nat}{A B C:World}(h:lN n₀ Bs Bn A B)(k:lN n₀ Bs Bn B C):lN n₀ Bs Bn A C:=⟨h.1.t k.1,k.2.trans h.2⟩
theorem lN.b{n₀ Bs Bn:Nat}{w:World}(hn:n₀≤w.heap.size)(hB:Bs<w.heap.size)(hC:Bn<w.heap.size)(W:World)(l:Nat)(o o':Obj)(hl:w.heap.size≤l)(h:W.heap[l]?=some o)(h1:o.isCells=false)(h2:o.isWalk=false):lN n₀ Bs Bn W (W.putObj l o'):=
 ⟨nI.b hn hB W l o o' hl h h1 h2,World.putObj_heap_other (by omega)⟩
abbrev Chk(m:Nat):={k:Nat // 2*k<m}
def jq(m k:Nat):Nat:=if 2*k+1<m then 2 else 1
def Chk.enc(g m:Nat)(x:Chk m):Array Value:=#[.slice (some ⟨g,2*x.1*2,none⟩) (jq m x.1) (jq m x.1)]
theorem OH(n:Nat)(hn:1≤n)(l Bs Bn n₀ g m c:Nat)(hmc:m≤c)(hm:m≤1000)(J Jx:List (Chk m)→World→Prop)
  (hY:∀pre x W,J pre W→pre.length<(m+1)/2→YieldAt Fence.wide (n-1) prog l (Chk.enc g m x) W fun e W'=>
   (e=.returned (.bool true)∧J (pre++[x]) W'∧lN n₀ Bs Bn W W')∨(e=.returned (.bool false)∧Jx (pre++[x]) W'))
  (hJd:∀pre W,J pre W→J pre W.drew)
  (W:World) (hBs:W.cell? ⟨Bs,0,none⟩=some (.slice (some ⟨g,0,none⟩) m c)) (hBn:W.cell? ⟨Bn,0,none⟩=some (.int .i64 2)) (h0:J [] W) :
  CallsIn Fence.wide n prog 221 #[.func (.yield l) #[] #[],.pointer (some ⟨Bs,0,none⟩),.pointer (some ⟨Bn,0,none⟩)] W fun e W'=>(∃v,e=.returned v) ∧
   ((∃ys,ys.map (·.1)=List.range ((m+1)/2)∧J ys W')∨(∃pre:List (Chk m),True∧Jx pre W')):=by
 refine callsIn_of_wp func221 rfl trivial ?_ rfl;simp only[ntmps221,List.size_toArray,List.length_cons,List.length_nil,Nat.reduceAdd,Nat.reduceSub,Array.replicate_succ,Array.replicate_zero,List.push_toArray,List.append_toArray,List.nil_append,List.cons_append];gi_wp2
 gi_loopw [4] (fun i wr=>∃(k q:Nat) (pre:List (Chk m)),2*k≤m+1∧i=.int .i64 (q:Int)∧Hid (q=2*k)∧Hid (pre.map (·.1)=List.range k)∧J pre wr∧Hid (lN n₀ Bs Bn W wr))
  (fun i _=>(m+2-intOf i).toNat)
 case atStart=>exact⟨0,0,[],by omega,rfl,hid rfl,hid rfl,h0,hid ⟨⟨Below.refl _ _,rfl⟩,rfl⟩⟩
 case round=>
  obtain⟨k,q,pre,hk,rfl,hq,hp,hJs,hkb⟩:=hrel;have hpl:pre.length=k:=by
   have:=congrArg List.length hp.out;rw[List.length_map,List.length_range]at this;exact this
  have cS:wr.cell? ⟨Bs,0,none⟩=some (.slice (some ⟨g,0,none⟩) m c):=(World.cell?_of_block (a:=⟨Bs,0,none⟩) hkb.out.1.2).trans hBs;have cN:wr.cell? ⟨Bn,0,none⟩=some (.int .i64 2):=(World.cell?_of_block (a:=⟨Bn,0,none⟩) hkb.out.2).trans hBn;by_cases hlt:q<m
  ·have hkm:2*k<m:=by have:=hq.out;omega
   obtain⟨fn,tmps,assign,body,hy,hR⟩:=hY pre ⟨k,hkm⟩ wr.drew (hJd _ _ hJs) (by omega);have hp2:(pre++[(⟨k,hkm⟩:Chk m)]).map (fun x:Chk m=>x.1)=List.range (k+1):=by rw[List.map_append,hp.out,List.range_succ];rfl
   have Hp2:=hid hp2;unfold Chk.enc at hy;dsimp only at hy;rw[←hq.out]at hy;by_cases h2:q+1<m
   ·have e2:jq m k=2:=by unfold jq;rw[if_pos (by have:=hq.out;omega)]
    rw[e2]at hy;clear hp2 hp hBs hBn;gi_wp2
    have q1:q≤m:=by omega
    have q2:¬c=q:=by omega
    have q3:min 2 ((m-q:Nat):Int)=2:=by omega
    refine wpIn_wide.2 ?_;go_region_held3 (fun W'=>W'.cell? ⟨Bs,0,none⟩=some (.slice (some ⟨g,0,none⟩) m c)∧W'.cell? ⟨Bn,0,none⟩=some (.int .i64 2)) (first | exact⟨cS,cN⟩) (fail)
    clear cS cN;rename_i hHeld
    obtain⟨cS,cN⟩:=hHeld;gi_wp2
    refine hR.mono ?_;rintro e W3 (⟨rfl,hJ3,hk3⟩ | ⟨rfl,hJx3⟩)
    ·have d1:W3.cell? ⟨Bs,0,none⟩=some (.slice (some ⟨g,0,none⟩) m c):=(World.cell?_of_block (a:=⟨Bs,0,none⟩) hk3.1.2).trans cS;have d2:W3.cell? ⟨Bn,0,none⟩=some (.int .i64 2):=(World.cell?_of_block (a:=⟨Bn,0,none⟩) hk3.2).trans cN;have Hk3:Hid (lN n₀ Bs Bn W W3):=hid (hkb.out.t (lN.t ⟨⟨(Below.refl _ _).drew,rfl⟩,rfl⟩ hk3));have Hq1:=hid (show q+2=2*(k+1) by have:=hq.out;omega);clear cS cN hR hy hk3 hkb hq;gi_wp2
     go_roundw
     case rel=>exact⟨k+1,q+2,_,by omega,by go_num,Hq1,Hp2,hJ3,Hk3⟩
     case measure=>simp[intOf];omega
    ·clear cS cN hy;gi_wp2
     refine bodyPost_ret (results_none rfl _ _ _) rfl ?_;exact⟨⟨_,rfl⟩,.inr ⟨_,trivial,hJx3⟩⟩
   ·have e2:jq m k=1:=by unfold jq;rw[if_neg (by have:=hq.out;omega)]
    rw[e2]at hy;clear hp2 hp hBs hBn;gi_wp2
    have q1:q≤m:=by omega
    have q2:¬c=q:=by omega
    have q3:min 2 ((m-q:Nat):Int)=1:=by omega
    refine wpIn_wide.2 ?_;go_region_held3 (fun W'=>W'.cell? ⟨Bs,0,none⟩=some (.slice (some ⟨g,0,none⟩) m c)∧W'.cell? ⟨Bn,0,none⟩=some (.int .i64 2)) (first | exact⟨cS,cN⟩) (fail)
    clear cS cN;rename_i hHeld
    obtain⟨cS,cN⟩:=hHeld;gi_wp2
    refine hR.mono ?_;rintro e W3 (⟨rfl,hJ3,hk3⟩ | ⟨rfl,hJx3⟩)
    ·have d1:W3.cell? ⟨Bs,0,none⟩=some (.slice (some ⟨g,0,none⟩) m c):=(World.cell?_of_block (a:=⟨Bs,0,none⟩) hk3.1.2).trans cS;have d2:W3.cell? ⟨Bn,0,none⟩=some (.int .i64 2):=(World.cell?_of_block (a:=⟨Bn,0,none⟩) hk3.2).trans cN;have Hk3:Hid (lN n₀ Bs Bn W W3):=hid (hkb.out.t (lN.t ⟨⟨(Below.refl _ _).drew,rfl⟩,rfl⟩ hk3));have Hq1:=hid (show q+2=2*(k+1) by have:=hq.out;omega);clear cS cN hR hy hk3 hkb hq;gi_wp2
     go_roundw
     case rel=>exact⟨k+1,q+2,_,by omega,by go_num,Hq1,Hp2,hJ3,Hk3⟩
     case measure=>simp[intOf];omega
    ·clear cS cN hy;gi_wp2
     refine bodyPost_ret (results_none rfl _ _ _) rfl ?_;exact⟨⟨_,rfl⟩,.inr ⟨_,trivial,hJx3⟩⟩
  ·have hkm:k=(m+1)/2:=by have:=hq.out;omega
   have hp2:=hp.out;rw[hkm]at hp2;have Hp2:=hid hp2;clear hp2 hp hBs hBn hkb;gi_wp2
   go_end0
   exact⟨⟨_,rfl⟩,.inl ⟨pre,Hp2.out,hJs⟩⟩
theorem UG(n:Nat)(A:Option Addr)(m c:Nat)(w:World) :
  CallsIn Fence.wide n prog 207 #[.slice A m c,.int .i64 2] w fun e w'=>e=.returned (.func (.func 221) #[] #[.pointer (some ⟨w.heap.size,0,none⟩),.pointer (some ⟨w.heap.size+1,0,none⟩)])∧w'=(w.alloc (.cells #[.slice A m c] 226)).alloc (.cells #[.int .i64 2] 3):=by
 refine callsIn_of_wp func207 rfl trivial ?_ rfl;simp only[ntmps207,List.size_toArray,List.length_cons,List.length_nil,Nat.reduceAdd,Nat.reduceSub,Array.replicate_succ,Array.replicate_zero,List.push_toArray,List.append_toArray,List.nil_append,List.cons_append];gi_wp2
 go_ret;exact⟨rfl,rfl⟩
theorem EB(n:Nat)(hn:1≤n)(n₀ Bs Bn g m c:Nat)(hmc:m≤c)(hm:m≤1000)(w:World)(hBs:Bs<w.heap.size)(hBn:Bn<w.heap.size)
  (hc:w.cell? ⟨Bs,0,none⟩=some (.slice (some ⟨g,0,none⟩) m c)) (hd:w.cell? ⟨Bn,0,none⟩=some (.int .i64 2)) :
  SeqStopsK Fence.wide n prog 221 #[.pointer (some ⟨Bs,0,none⟩),.pointer (some ⟨Bn,0,none⟩)] (Chk.enc g m) (lN n₀ Bs Bn) (fun ys=>ys.map (·.1)=List.range ((m+1)/2)) (fun _=>True) ((m+1)/2) w:=fun l J Jx W hW hJ _ hY h0=>
 OH n hn l Bs Bn n₀ g m c hmc hm J Jx hY (fun pre W h=>hJ pre W _ none h (bA (ak W none)) (fun r e=>by cases e)) W ((hW.cell (p:=⟨Bs,0,none⟩) hBs).trans hc) ((hW.cell (p:=⟨Bn,0,none⟩) hBn).trans hd) h0
attribute [local go_sem] Oper.semAt_some
theorem jW{w w':World}{base n size:Nat}{e:TypeId}{v:Value}{xs:List Value}(h:w.ownsRow base e size v n xs)(hg:w.grownBy w' none):w'.ownsRow base e size v n xs:=
 h.kept hg (by
  rcases h.2 with⟨rfl,_⟩ | ⟨g,cap,cur,rfl,_⟩
  ·exact .inl rfl
  ·exact .inr (by simp[Value.ownBlock]))
theorem EW{w:World}{base n:Nat}{v:Value}{l:List Nat}(h:w.ownsRow base 3 1 v n (aL l))(hn:0<n):∃g cap post,v=.slice (some ⟨g,0,none⟩) n cap∧base≤g∧Row w g 3 (aL l++post):=by
 rcases h.2 with⟨_,h0⟩ | ⟨g,cap,cur,rfl,hb,hg,hnc,hcm,hcs,ht⟩
 ·omega
 ·refine⟨g,cap,cur.toList.drop (n*1),rfl,hb,?_⟩;unfold Row;rw[←ht,List.take_append_drop,Array.toArray_toList];exact hg
theorem jk.far{w w':World}{T:List Pcl}{row:Option Nat}(h:jk w T)(hg:w.grownBy w' row)(hr:∀b,row=some b→∃o:Obj,w.heap[b]?=some o∧∀cs,o≠.cells cs 3 (0,0)):jk w' T:=fun t ht=>by
 obtain⟨post,hrow⟩:=h t ht;refine⟨post,hrow.keep (hg.block _ hrow.lt (fun e=>?_))⟩;obtain⟨o,ho,hn⟩:=hr _ e.symm;unfold Row at hrow;rw[ho]at hrow;injection hrow with hrow
 exact hn _ hrow
theorem Ws{w:World}{base n size:Nat}{e:TypeId}{v:Value}{xs:List Value}(h:w.ownsRow base e size v n xs)(he:e≠3):∀b,v.ownBlock=some b→∃o:Obj,w.heap[b]?=some o∧∀cs,o≠.cells cs 3 (0,0):=fun b hb=>by
 rcases h.2 with⟨rfl,_⟩ | ⟨g,cap,cur,rfl,_,hg,_⟩
 ·cases hb
 ·simp only[Value.ownBlock,Option.some.injEq]at hb;subst hb;exact⟨_,hg,fun cs e'=>by injection e' with _ e2;exact he e2⟩
inductive Col (T:List Pcl):List Nat→List Pcl→Prop
 | nil:Col T [] []
 | take {ks:List Nat} {P:List Pcl} {k:Nat} {u:Pcl}:Col T ks P→2*k+1<T.length→u.1=Bm.wt T (2*k)+Bm.wt T (2*k+1)→u.2.2=(T[2*k]?.getD dO).2.2++(T[2*k+1]?.getD dO).2.2→Col T (ks++[k]) (P++[u])
 | skip {ks:List Nat} {P:List Pcl} {k:Nat}:Col T ks P→¬2*k+1<T.length→Col T (ks++[k]) P
theorem Col.len{T:List Pcl}{ks:List Nat}{P:List Pcl}(h:Col T ks P):P.length≤ks.length:=by
 induction h with
 | nil=>simp
 | take _ _ _ _ ih=>simp only[List.length_append,List.length_cons,List.length_nil];omega
 | skip _ _ ih=>simp only[List.length_append,List.length_cons,List.length_nil];omega
theorem uS(T:List Pcl):∀(n:Nat) (P:List Pcl),Col T (List.range n) P→2*n≤T.length+1→P.length=min n (T.length/2) ∧
  ∀x,x<P.length→Bm.wt P x=Bm.wt T (2*x)+Bm.wt T (2*x+1)∧(P[x]?.getD dO).2.2=(T[2*x]?.getD dO).2.2++(T[2*x+1]?.getD dO).2.2
 | 0,P,h,_=>by
  rw[List.range_zero]at h;generalize hks:([]:List Nat)=ks at h;cases h with
  | nil=>exact⟨by simp,fun x hx=>by simp at hx⟩
  | take=>simp at hks
  | skip=>simp at hks
 | n+1,P,h,hn=>by
  rw[List.range_succ]at h;generalize hks:List.range n++[n]=ks at h;cases h with
  | nil=>simp at hks
  | @take ks P k u h1 h2 h3 h4=>
   obtain⟨rfl,e2⟩:=List.append_inj' hks rfl;injection e2 with e2
   subst e2;obtain⟨r1,r2⟩:=uS T n _ h1 (by omega);refine⟨by rw[List.length_append,r1,List.length_cons,List.length_nil];omega,fun x hx=>?_⟩;have hPn:P.length=n:=by omega
   rw[List.length_append,List.length_cons,List.length_nil]at hx;by_cases hxn:x<P.length
   ·obtain⟨s1,s2⟩:=r2 x hxn;unfold Bm.wt at s1 ⊢;rw[List.getElem?_append_left hxn];exact⟨s1,s2⟩
   ·obtain rfl:x=n:=by omega
    unfold Bm.wt at h3 ⊢;rw[List.getElem?_append_right (by omega),show x-P.length=0 by omega];exact⟨h3,h4⟩
  | skip h1 h2=>
   obtain⟨rfl,e2⟩:=List.append_inj' hks rfl;injection e2 with e2
   subst e2;obtain⟨r1,r2⟩:=uS T n _ h1 (by omega);exact⟨by rw[r1];omega,r2⟩
def GZ(T:List Pcl)(m B:Nat)(vs:Value)(w:World)(pre:List (Chk m))(W:World):Prop:=
 (∃v P,Boxed W B 226 v∧W.ownsRow B 231 2 v P.length (p2 P)∧Col T (pre.map (·.1)) P∧jk W P)∧(Boxed W (B+1) 226 vs∧Boxed W (B+2) 3 (.int .i64 2))∧Below B w W
theorem LD(T:List Pcl)(m B:Nat)(vs:Value)(w:World)(hB:B=w.heap.size):OwnFrom (B+3) (GZ T m B vs w):=by
 rintro pre W W' row ⟨⟨v,P,h1,h2,h3,h4⟩,⟨h5,h6⟩,h7⟩ hg hr;have hne:∀{b:Nat} {t:TypeId} {u:Value},Boxed W b t u→some b≠row:=fun hb e=>by
  obtain⟨_,o,ho,hc⟩:=hr _ e.symm;rw[show W.heap[_]?=_ from hb]at ho;cases ho
  cases hc
 refine⟨⟨v,P,h1.kept hg (hne h1),h2.kept hg ?_,h3,h4.far hg fun b e=>?_⟩,⟨h5.kept hg (hne h5),h6.kept hg (hne h6)⟩,h7.grown hg (by rw[hB];exact(hB▸h7).size) fun r e=>by have:=(hr r e).1;omega⟩
 ·rcases h2.2 with⟨rfl,_⟩ | ⟨g,cap,cur,rfl,_,hgb,_⟩
  ·exact .inl rfl
  ·refine .inr fun e'=>?_
   obtain⟨_,o,ho,hc⟩:=hr g (by simpa [Value.ownBlock]using e'.symm);rw[hgb]at ho;cases ho
   cases hc
 ·obtain⟨_,o,ho,hc⟩:=hr b e;exact⟨o,ho,fun cs e'=>by rw[e']at hc;cases hc⟩
theorem pV{T:List Pcl}{m B:Nat}{vs:Value}{w:World}{pre:List (Chk m)}{k:Nat}{hk:2*k<m}{W W4 wN:World}{v:Value}{P:List Pcl}{u:Pcl}{gN nX:Nat}{o2:Obj}{news post:List Value}
  (hB:B=w.heap.size) (h1:Boxed W B 226 v) (h2:W.ownsRow B 231 2 v P.length (p2 P)) (h3:Col T (pre.map (·.1)) P) (h4:jk W P) (h5:Boxed W (B+1) 226 vs) (h6:Boxed W (B+2) 3 (.int .i64 2)) (h7:Below B w W)
  (hkm:2*k+1<T.length) (hw:u.1=Bm.wt T (2*k)+Bm.wt T (2*k+1)) (hs:u.2.2=(T[2*k]?.getD dO).2.2++(T[2*k+1]?.getD dO).2.2) (hn:p2 [u]=news)
  (hb4:Below W.heap.size W W4) (hr4:Row W4 u.2.1.1 3 (aL u.2.2++post)) (hown:wN.ownsRow B 231 2 (.slice (some ⟨gN,0,none⟩) (P.length+1) nX) (P.length+1) (p2 P++news)) (hgr:(W4.alloc o2).grownBy wN v.ownBlock) :
  (wN.cell? ⟨B,0,none⟩=some v∧wN.frozen? ⟨B,0,none⟩=false)∧KeepsFrom (B+3) W (wN.setCell ⟨B,0,none⟩ (.slice (some ⟨gN,0,none⟩) (P.length+1) nX))∧lN B (B+1) (B+2) W (wN.setCell ⟨B,0,none⟩ (.slice (some ⟨gN,0,none⟩) (P.length+1) nX)) ∧
   GZ T m B vs w (pre++[⟨k,hk⟩]) (wN.setCell ⟨B,0,none⟩ (.slice (some ⟨gN,0,none⟩) (P.length+1) nX)):=by
 have hg4:=aj hb4 none;have hBW:B≤W.heap.size:=by rw[hB];exact(hB▸h7).size
 have vk:=jW h2 hg4;have e1:=h1.kept hg4 (by simp);have e5:=h5.kept hg4 (by simp);have e6:=h6.kept hg4 (by simp);obtain⟨k1,k2,k3,k4,k5⟩:=e1.appended (by decide) vk (Nat.le_trans hBW hb4.size) (Nat.le_refl _) hown hgr;have hgs:=grownBy_setCell' wN B (.slice (some ⟨gN,0,none⟩) (P.length+1) nX);have f5:=((e5.alloc o2).kept hgr (e5.not_row (by decide) vk)).kept hgs (by simp);have f6:=((e6.alloc o2).kept hgr (e6.not_row (by decide) vk)).kept hgs (by simp);have hbW:Below B W (wN.setCell ⟨B,0,none⟩ (.slice (some ⟨gN,0,none⟩) (P.length+1) nX)):=(hb4.mono hBW).trans k5;have hga:W.grownBy (W4.alloc o2) none:=aD hg4 o2;have YG:∀b,(some B:Option Nat)=some b→∃o:Obj,wN.heap[b]?=some o∧∀cs,o≠.cells cs 3 (0,0):=fun b e=>by
  injection e with e
  subst e;exact⟨_,k1,fun cs e'=>by injection e' with _ e2;exact absurd e2 (by decide)⟩
 refine⟨⟨k1.cell,k1.frozen⟩,(KeepsFrom.of_grownBy hg4 (by simp)).trans (k4.from _),⟨⟨hbW,f5.trans h5.symm⟩,f6.trans h6.symm⟩,⟨_,P++[u],k2,?_,?_,fun t ht=>?_⟩,⟨f5,f6⟩,h7.trans hbW⟩
 ·rw[List.length_append,vN,hn];exact k3
 ·rw[List.map_append];exact .take h3 hkm hw hs
 ·have hkd:=Ws (jW vk (aD (ak W4 none) o2)) (by decide);rcases List.mem_append.1 ht with ht | ht
  ·exact(((h4.far hga (fun b e=>by cases e)).far hgr hkd).far hgs YG) t ht
  ·simp only[List.mem_singleton]at ht;subst ht;have hs1:jk W4 [t]:=fun t' ht'=>by
    simp only[List.mem_singleton]at ht';subst ht';exact⟨post,hr4⟩
   exact(((hs1.far (aD (ak W4 none) o2) (fun b e=>by cases e)).far hgr hkd).far hgs YG) t (List.mem_singleton.2 rfl)
theorem Wt:Yy:=by
 intro w g cap T post h2 hT hTc hcm hsz hrow ajv;obtain⟨i0,hi,hz0,hz1,hz2⟩:=info_parts ug;obtain⟨m,hm⟩:∃m,m=T.length:=⟨_,rfl⟩;rw[←hm]at h2 hT hTc ⊢;have Hm:=hid hm;have Hsz:=hid hsz;have fZ:=hid hrow;have aks:=hid ajv;clear hm hsz hrow ajv;refine(callsIn_wide (n:=4)).1 ?_;refine callsIn_of_wp_marks func175 rfl trivial ?_ rfl;simp only[ntmps175,List.size_toArray,List.length_cons,List.length_nil,Nat.reduceAdd,Nat.reduceSub,Array.replicate_succ,Array.replicate_zero,List.push_toArray,List.append_toArray,List.nil_append,List.cons_append];gi_wp2_with fail
 refine⟨trivial,(UG 3 (some ⟨g,0,none⟩) m cap _).mono ?_⟩;rintro e w' ⟨rfl,hW3⟩;obtain⟨B,hB⟩:∃B,B=w.heap.size:=⟨_,rfl⟩;have hs3:w'.heap.size=B+3:=by rw[hW3,hB];simp
 have hg3:w.grownBy w' none:=by rw[hW3];exact aD (aD (aD (ak _ _) _) _) _
 have d1:Boxed w' B 226 (.slice none 0 0):=by rw[hW3,hB];exact((Boxed.new w _ _).alloc _).alloc _
 have d2:Boxed w' (B+1) 226 (.slice (some ⟨g,0,none⟩) m cap):=by
  have h:=Boxed.new (w.alloc (.cells #[.slice none 0 0] 226)) 226 (.slice (some ⟨g,0,none⟩) m cap);rw[World.size_alloc]at h;rw[hW3,hB];exact h.alloc _
 have d3:Boxed w' (B+2) 3 (.int .i64 2):=by
  have h:=Boxed.new ((w.alloc (.cells #[.slice none 0 0] 226)).alloc (.cells #[.slice (some ⟨g,0,none⟩) m cap] 226)) 3 (.int .i64 2);rw[World.size_alloc,World.size_alloc]at h;rw[hW3,hB];exact h
 have hb3:Below B w w':=by rw[hB];exact aJ hg3
 have D1:=hid d1;have D2:=hid d2;have D3:=hid d3;have Hb3:=hid hb3;have hs1:(w.alloc (.cells #[.slice none 0 0] 226)).heap.size=B+1:=by rw[World.size_alloc,hB]
 rw[hs1,←hB];have HB:=hid hB;clear hW3 hg3 d1 d2 d3 hb3 hs1 hB;gi_wp2_with fail
 refine wpIn_rangeFunc_ownG (N:=(m+1)/2) (w0:=w') rfl (by omega) (gf:=221) (lb:=#[.pointer (some ⟨B+1,0,none⟩),.pointer (some ⟨B+1+1,0,none⟩)]) rfl trivial (enters_of func221 (by kernel_rfl) rfl)
  (EB 3 (by omega) B (B+1) (B+2) g m cap hTc hT w' (by omega) (by omega) D2.out.cell D3.out.cell) (fun h k=>lN.t h k) (lN.b (by omega) (by omega) (by omega)) (Below.refl _ _) (fun _=>rfl)
  (GZ T m B (.slice (some ⟨g,0,none⟩) m cap) w) (fun _ _ _=>False)
  (by rw[hs3];exact LD T m B _ w HB.out) (fun _ _ _ _ _ hs _ _=>hs)
  ⟨⟨_,[],D1.out,World.ownsRow_nil _ _ _ _,.nil,fun t ht=>by simp at ht⟩,⟨D2.out,D3.out⟩,Hb3.out⟩
  (fun x=>{tmps:=#[.slice (some ⟨g,0,none⟩) m cap,undef,.slice none 0 0,.pointer (some ⟨B,0,none⟩),.slice (some ⟨g,2*x.1*2,none⟩) (jq m x.1) (jq m x.1),.slice (some ⟨g,0,none⟩) m cap,.func (.func 221) #[] #[.pointer (some ⟨B+1,0,none⟩),.pointer (some ⟨B+1+1,0,none⟩)],.slice (some ⟨g,2*x.1*2,none⟩) (jq m x.1) (jq m x.1),undef,undef,undef,undef,undef,undef,undef,undef,undef,undef,undef,undef,undef,undef,undef,undef,undef,undef,undef,undef,undef,undef,undef,undef,undef,undef,undef],defers:=[]}) ?assign ?body ?done ?stop
 case assign=>
  intro l x W K hK;unfold Chk.enc;gi_wp2
  exact hK
 case body=>
  rintro l pre ⟨k,hk⟩ W ⟨⟨v,P,h1,h2',h3,h4⟩,⟨h5,h6⟩,h7⟩ hlen;dsimp only;rw[hs3];have hPl:=h3.len;rw[List.length_map]at hPl;by_cases hkm:2*k+1<m
  ·have e2:jq m k=2:=by unfold jq;rw[if_pos hkm]
   rw[e2];have hr:=fZ.out.below (HB.out▸h7);obtain⟨a0,a1⟩:=rD hr (List.getElem?_eq_getElem (show 2*k<T.length by have:=Hm.out;omega));obtain⟨b0,b1⟩:=rD hr (List.getElem?_eq_getElem (show 2*k+1<T.length by have:=Hm.out;omega));obtain⟨u1,hu1⟩:∃u1,u1=T[2*k]'(by have:=Hm.out;omega):=⟨_,rfl⟩;obtain⟨u2,hu2⟩:∃u2,u2=T[2*k+1]'(by have:=Hm.out;omega):=⟨_,rfl⟩;rw[←hu1]at a0 a1;rw[←hu2]at b0 b1;have hm1:u1∈T:=by rw[hu1];exact List.getElem_mem _
   have hm2:u2∈T:=by rw[hu2];exact List.getElem_mem _
   have hg1:T[2*k]?.getD dO=u1:=by rw[hu1,List.getElem?_eq_getElem (by have:=Hm.out;omega),Option.getD_some]
   have hg2:T[2*k+1]?.getD dO=u2:=by rw[hu2,List.getElem?_eq_getElem (by have:=Hm.out;omega),Option.getD_some]
   have hw1:Bm.wt T (2*k)=u1.1:=by unfold Bm.wt;rw[hg1]
   have hw2:Bm.wt T (2*k+1)=u2.1:=by unfold Bm.wt;rw[hg2]
   obtain⟨z1,y1,x1⟩:=Hsz.out u1 hm1;obtain⟨z2,y2,x2⟩:=Hsz.out u2 hm2;have ahb:=aks.out.below (HB.out▸h7);obtain⟨alp,r1⟩:=ahb u1 hm1;obtain⟨Rl,r2⟩:=ahb u2 hm2;have R1:=hid r1;have R2:=hid r2;obtain⟨a,⟨g1,c1⟩,l1⟩:=u1;obtain⟨b,⟨g2,c2⟩,l2⟩:=u2;dsimp only[Jr]at a0 a1 b0 b1 z1 y1 x1 z2 y2 x2 hw1 hw2 R1 R2;have hs2:(a+b,(g1,c1),l1++l2).2.2=(T[2*k]?.getD dO).2.2++(T[2*k+1]?.getD dO).2.2:=by rw[hg1,hg2]
   have Hs2:Hid (l1++l2=(T[2*k]?.getD dO).2.2++(T[2*k+1]?.getD dO).2.2):=hid hs2;have Hw2:Hid (a+b=Bm.wt T (2*k)+Bm.wt T (2*k+1)):=hid (by rw[hw1,hw2]);rw[show(2*k+1)*2=2*k*2+2 by omega]at b0 b1;clear hr hu1 hu2 hm1 hm2 hg1 hg2 hw1 hw2 ahb r1 r2 hs2 e2;generalize 2*k*2=off at *;obtain⟨n1,hn1⟩:∃n1,n1=l1.length:=⟨_,rfl⟩;obtain⟨n2,hn2⟩:∃n2,n2=l2.length:=⟨_,rfl⟩;rw[←hn1]at a1 y1 x1;rw[←hn2]at b1 y2 x2;have c0:=h1.cell;obtain⟨pn,hpn⟩:∃pn,pn=P.length:=⟨_,rfl⟩;have ama:pn≤500:=by omega
   have H1:=hid h1;have H2:=hid h2';have H3:=hid h3;have H4:=hid h4;have H5:=hid h5;have H6:=hid h6;have H7:=hid h7;have hBW:B≤W.heap.size:=by have:=h1.lt;omega
   have hcon:Calls prog 208 #[.slice (some ⟨W.heap.size,0,none⟩) 2 2] (W.drew.alloc (.cells #[.slice (some ⟨g1,0,none⟩) n1 c1,.slice (some ⟨g2,0,none⟩) n2 c2] 112)) fun e w'=>∃g4 cap4,e=.returned (.slice (some ⟨g4,0,none⟩) (n1+n2) cap4) ∧
     Hid ((∃post,Row w' g4 3 (aL (l1++l2)++post))∧Below W.heap.size W w'):=by
    have hal:Below W.heap.size W (W.drew.alloc (.cells #[.slice (some ⟨g1,0,none⟩) n1 c1,.slice (some ⟨g2,0,none⟩) n2 c2] 112)):=(Below.refl _ W).drew.alloc (Nat.le_refl _) _;refine(Tn W.heap.size g1 n1 c1 g2 n2 c2 l1 l2 _ (by omega) hn1.symm hn2.symm (by omega) (by omega) (Row.new W.drew 112 [.slice (some ⟨g1,0,none⟩) n1 c1,.slice (some ⟨g2,0,none⟩) n2 c2])
     (fun W' hW' j u hu=>?_) (fun W' hW' j u hu=>?_)).mono ?_
    ·rw[gX,(aN (aN R1.out hal) hW').cell j,List.getElem?_append_left (List.getElem?_eq_some_iff.1 hu).1];exact hu
    ·rw[gX,(aN (aN R2.out hal) hW').cell j,List.getElem?_append_left (List.getElem?_eq_some_iff.1 hu).1];exact hu
    ·rintro e w' ⟨u,rfl,hown,hb⟩;obtain⟨g4,cap4,post,hu,_,hrow⟩:=EW hown (by omega);exact⟨g4,cap4,by rw[hu],hid ⟨⟨post,hrow⟩,hal.trans (hb.mono hal.size)⟩⟩
   have acv:=hid hcon;have Hn1:=hid hn1;have Hn2:=hid hn2;have Hpn:=hid hpn;clear h1 h2' h3 h4 h5 h6 h7 hcon hn1 hn2 hpn R1 R2;gi_wp2
   have hgW:g<B:=by rw[HB.out];exact Row.lt fZ.out
   have HS1:Hid (∀W',Below B W W'→W'.cell? ⟨g,off,none⟩=some (.int .i64 (a:Int))∧W'.cell? ⟨g,off+1,none⟩=some (.slice (some ⟨g1,0,none⟩) n1 c1)∧W'.cell? ⟨g,off+2,none⟩=some (.int .i64 (b:Int))∧W'.cell? ⟨g,off+2+1,none⟩=some (.slice (some ⟨g2,0,none⟩) n2 c2)):=hid fun W' h=>
    ⟨(h.cell (p:=⟨g,off,none⟩) hgW).trans a0,(h.cell (p:=⟨g,off+1,none⟩) hgW).trans a1,(h.cell (p:=⟨g,off+2,none⟩) hgW).trans b0,(h.cell (p:=⟨g,off+2+1,none⟩) hgW).trans b1⟩
   have HS2:Hid (∀W',Below W.heap.size W W'→W'.cell? ⟨B,0,none⟩=some v):=hid fun W' h=>(h.cell (p:=⟨B,0,none⟩) H1.out.lt).trans c0
   have HN:Hid (∀g4 cap4,p2 [(a+b,(g4,cap4),l1++l2)]=[.int .i64 ((a:Int)+(b:Int)),.slice (some ⟨g4,0,none⟩) (n1+n2) cap4]):=hid fun g4 cap4=>by
    show [abz _,Jr _]=_;simp only[abz,Jr,List.length_append,←Hn1.out,←Hn2.out,Int.natCast_add]
   have hp5:P.length≤500:=by have:=Hpn.out;omega
   have hwr:IntKind.i64.wrap ((a:Int)+(b:Int))=(a:Int)+(b:Int):=IntWalk.i64_in _ (by omega);refine Dw (S:=(fun W':World=>W'.cell? ⟨g,off,none⟩=some (.int .i64 (a:Int))∧W'.cell? ⟨g,off+1,none⟩=some (.slice (some ⟨g1,0,none⟩) n1 c1)∧W'.cell? ⟨g,off+2,none⟩=some (.int .i64 (b:Int))∧W'.cell? ⟨g,off+2+1,none⟩=some (.slice (some ⟨g2,0,none⟩) n2 c2))) (by kernel_rfl) (by kernel_rfl) (fun⟨_,_,h⟩=>h) ⟨a0,a1,b0,b1⟩ (fun hHeld=>?_);refine wpAnyH_take (i:=1) (oi:={dst:=some 12,op:=.move (.tmp 4),type:=226,pos:= "bound.go:48",after:=#[],guard:=none}) (v:=?_) rfl (by kernel_rfl) (by kernel_rfl) (by kernel_rfl) (fun _ _ _ h=>h) (Or.inl ⟨by rfl,?_⟩) (by assumption) ?_;rotate_left
   ·(intro w hSw;(try dsimp only at hSw);go_simp;(try with_reducible rfl))
   try simp only[Act.put,List.setIfInBounds_toArray,List.set_cons_zero,List.set_cons_succ]
   refine wpAnyH_take (i:=2) (oi:={dst:=some 13,op:=.indexAddr 226 (.tmp 12) (.const (.int .i64 0)),type:=0,pos:= "bound.go:48",after:=#[{on:=1,ground:=.data}],guard:=none}) (v:=?_) rfl (by kernel_rfl) (by kernel_rfl) (by kernel_rfl) (fun _ _ _ h=>h) (Or.inl ⟨by rfl,?_⟩) (by assumption) ?_;rotate_left
   ·(intro w hSw;(try dsimp only at hSw);go_simp;(try with_reducible rfl))
   try simp only[Act.put,List.setIfInBounds_toArray,List.set_cons_zero,List.set_cons_succ]
   refine wpAnyH_take (i:=3) (oi:={dst:=some 14,op:=.fieldAddr 231 (.tmp 13) 0,type:=0,pos:= "bound.go:48",after:=#[{on:=2,ground:=.data}],guard:=none}) (v:=?_) rfl (by kernel_rfl) (by kernel_rfl) (by kernel_rfl) (fun _ _ _ h=>h) (Or.inl ⟨by rfl,?_⟩) (by assumption) ?_;rotate_left
   ·(intro w hSw;(try dsimp only at hSw);go_simp;(try with_reducible rfl))
   try simp only[Act.put,List.setIfInBounds_toArray,List.set_cons_zero,List.set_cons_succ]
   refine wpAnyH_take (i:=4) (oi:={dst:=some 15,op:=.load 3 (.tmp 14),type:=3,pos:= "bound.go:48",after:=#[{on:=3,ground:=.data}],guard:=none}) (v:=?_) rfl (by kernel_rfl) (by kernel_rfl) (by kernel_rfl) (fun _ _ _ h=>h) (Or.inl ⟨by rfl,?_⟩) (by assumption) ?_;rotate_left
   ·(intro w hSw;(try dsimp only at hSw);go_simp;(try with_reducible rfl))
   try simp only[Act.put,List.setIfInBounds_toArray,List.set_cons_zero,List.set_cons_succ]
   refine wpAnyH_take (i:=5) (oi:={dst:=some 16,op:=.move (.tmp 4),type:=226,pos:= "bound.go:48",after:=#[],guard:=none}) (v:=?_) rfl (by kernel_rfl) (by kernel_rfl) (by kernel_rfl) (fun _ _ _ h=>h) (Or.inl ⟨by rfl,?_⟩) (by assumption) ?_;rotate_left
   ·(intro w hSw;(try dsimp only at hSw);go_simp;(try with_reducible rfl))
   try simp only[Act.put,List.setIfInBounds_toArray,List.set_cons_zero,List.set_cons_succ]
   refine wpAnyH_take (i:=6) (oi:={dst:=some 17,op:=.indexAddr 226 (.tmp 16) (.const (.int .i64 1)),type:=0,pos:= "bound.go:48",after:=#[{on:=5,ground:=.data}],guard:=none}) (v:=?_) rfl (by kernel_rfl) (by kernel_rfl) (by kernel_rfl) (fun _ _ _ h=>h) (Or.inl ⟨by rfl,?_⟩) (by assumption) ?_;rotate_left
   ·(intro w hSw;(try dsimp only at hSw);go_simp;(try with_reducible rfl))
   try simp only[Act.put,List.setIfInBounds_toArray,List.set_cons_zero,List.set_cons_succ]
   refine wpAnyH_take (i:=7) (oi:={dst:=some 18,op:=.fieldAddr 231 (.tmp 17) 0,type:=0,pos:= "bound.go:48",after:=#[{on:=6,ground:=.data}],guard:=none}) (v:=?_) rfl (by kernel_rfl) (by kernel_rfl) (by kernel_rfl) (fun _ _ _ h=>h) (Or.inl ⟨by rfl,?_⟩) (by assumption) ?_;rotate_left
   ·(intro w hSw;(try dsimp only at hSw);go_simp;(try with_reducible rfl))
   try simp only[Act.put,List.setIfInBounds_toArray,List.set_cons_zero,List.set_cons_succ]
   refine wpAnyH_take (i:=8) (oi:={dst:=some 19,op:=.load 3 (.tmp 18),type:=3,pos:= "bound.go:48",after:=#[{on:=7,ground:=.data}],guard:=none}) (v:=?_) rfl (by kernel_rfl) (by kernel_rfl) (by kernel_rfl) (fun _ _ _ h=>h) (Or.inl ⟨by rfl,?_⟩) (by assumption) ?_;rotate_left
   ·(intro w hSw;(try dsimp only at hSw);go_simp;(try with_reducible rfl))
   try simp only[Act.put,List.setIfInBounds_toArray,List.set_cons_zero,List.set_cons_succ]
   refine wpAnyH_take (i:=9) (oi:={dst:=some 20,op:=.binOp .add 3 (.tmp 15) (.tmp 19) 3,type:=3,pos:= "bound.go:48",after:=#[{on:=4,ground:=.data},{on:=8,ground:=.data}],guard:=none}) (v:=?_) rfl (by kernel_rfl) (by kernel_rfl) (by kernel_rfl) (fun _ _ _ h=>h) (Or.inl ⟨by rfl,?_⟩) (by assumption) ?_;rotate_left
   ·(intro w hSw;(try dsimp only at hSw);go_simp;(try with_reducible rfl))
   try simp only[Act.put,List.setIfInBounds_toArray,List.set_cons_zero,List.set_cons_succ]
   refine wpAnyH_take (i:=10) (oi:={dst:=some 21,op:=.move (.tmp 4),type:=226,pos:= "bound.go:48",after:=#[],guard:=none}) (v:=?_) rfl (by kernel_rfl) (by kernel_rfl) (by kernel_rfl) (fun _ _ _ h=>h) (Or.inl ⟨by rfl,?_⟩) (by assumption) ?_;rotate_left
   ·(intro w hSw;(try dsimp only at hSw);go_simp;(try with_reducible rfl))
   try simp only[Act.put,List.setIfInBounds_toArray,List.set_cons_zero,List.set_cons_succ]
   refine wpAnyH_take (i:=11) (oi:={dst:=some 22,op:=.indexAddr 226 (.tmp 21) (.const (.int .i64 0)),type:=0,pos:= "bound.go:48",after:=#[{on:=10,ground:=.data}],guard:=none}) (v:=?_) rfl (by kernel_rfl) (by kernel_rfl) (by kernel_rfl) (fun _ _ _ h=>h) (Or.inl ⟨by rfl,?_⟩) (by assumption) ?_;rotate_left
   ·(intro w hSw;(try dsimp only at hSw);go_simp;(try with_reducible rfl))
   try simp only[Act.put,List.setIfInBounds_toArray,List.set_cons_zero,List.set_cons_succ]
   refine wpAnyH_take (i:=12) (oi:={dst:=some 23,op:=.fieldAddr 231 (.tmp 22) 1,type:=0,pos:= "bound.go:48",after:=#[{on:=11,ground:=.data}],guard:=none}) (v:=?_) rfl (by kernel_rfl) (by kernel_rfl) (by kernel_rfl) (fun _ _ _ h=>h) (Or.inl ⟨by rfl,?_⟩) (by assumption) ?_;rotate_left
   ·(intro w hSw;(try dsimp only at hSw);go_simp;(try with_reducible rfl))
   try simp only[Act.put,List.setIfInBounds_toArray,List.set_cons_zero,List.set_cons_succ]
   refine wpAnyH_take (i:=13) (oi:={dst:=some 24,op:=.load 112 (.tmp 23),type:=112,pos:= "bound.go:48",after:=#[{on:=12,ground:=.data}],guard:=none}) (v:=?_) rfl (by kernel_rfl) (by kernel_rfl) (by kernel_rfl) (fun _ _ _ h=>h) (Or.inl ⟨by rfl,?_⟩) (by assumption) ?_;rotate_left
   ·(intro w hSw;(try dsimp only at hSw);go_simp;(try with_reducible rfl))
   try simp only[Act.put,List.setIfInBounds_toArray,List.set_cons_zero,List.set_cons_succ]
   refine wpAnyH_take (i:=14) (oi:={dst:=some 25,op:=.move (.tmp 4),type:=226,pos:= "bound.go:48",after:=#[],guard:=none}) (v:=?_) rfl (by kernel_rfl) (by kernel_rfl) (by kernel_rfl) (fun _ _ _ h=>h) (Or.inl ⟨by rfl,?_⟩) (by assumption) ?_;rotate_left
   ·(intro w hSw;(try dsimp only at hSw);go_simp;(try with_reducible rfl))
   try simp only[Act.put,List.setIfInBounds_toArray,List.set_cons_zero,List.set_cons_succ]
   refine wpAnyH_take (i:=15) (oi:={dst:=some 26,op:=.indexAddr 226 (.tmp 25) (.const (.int .i64 1)),type:=0,pos:= "bound.go:48",after:=#[{on:=14,ground:=.data}],guard:=none}) (v:=?_) rfl (by kernel_rfl) (by kernel_rfl) (by kernel_rfl) (fun _ _ _ h=>h) (Or.inl ⟨by rfl,?_⟩) (by assumption) ?_;rotate_left
   ·(intro w hSw;(try dsimp only at hSw);go_simp;(try with_reducible rfl))
   try simp only[Act.put,List.setIfInBounds_toArray,List.set_cons_zero,List.set_cons_succ]
   refine wpAnyH_take (i:=16) (oi:={dst:=some 27,op:=.fieldAddr 231 (.tmp 26) 1,type:=0,pos:= "bound.go:48",after:=#[{on:=15,ground:=.data}],guard:=none}) (v:=?_) rfl (by kernel_rfl) (by kernel_rfl) (by kernel_rfl) (fun _ _ _ h=>h) (Or.inl ⟨by rfl,?_⟩) (by assumption) ?_;rotate_left
   ·(intro w hSw;(try dsimp only at hSw);go_simp;(try with_reducible rfl))
   try simp only[Act.put,List.setIfInBounds_toArray,List.set_cons_zero,List.set_cons_succ]
   refine wpAnyH_take (i:=17) (oi:={dst:=some 28,op:=.load 112 (.tmp 27),type:=112,pos:= "bound.go:48",after:=#[{on:=16,ground:=.data}],guard:=none}) (v:=?_) rfl (by kernel_rfl) (by kernel_rfl) (by kernel_rfl) (fun _ _ _ h=>h) (Or.inl ⟨by rfl,?_⟩) (by assumption) ?_;rotate_left
   ·(intro w hSw;(try dsimp only at hSw);go_simp;(try with_reducible rfl))
   try simp only[Act.put,List.setIfInBounds_toArray,List.set_cons_zero,List.set_cons_succ]
   refine wpAnyH_ready (rs:=[0,18]) (by kernel_rfl) (by simp) ?_;refine AllReadyH.cons rfl (fun K hK=>?_) (AllReadyH.cons rfl (fun K hK=>?_) AllReadyH.nil)
   ·have cB:=HS2.out _ (Below.refl _ W).drew;go_simp;refine hK.out _ _ (HS1.out _ ((Below.refl _ W).drew.mono hBW)) (fun hHeld=>?_);clear hK K
    try simp only[Act.put,List.setIfInBounds_toArray,List.set_cons_zero,List.set_cons_succ]
    clear cB;refine wpAnyH_ready (rs:=[18]) (by kernel_rfl) (by simp) ?_;refine AllReadyH.cons rfl (fun K hK=>?_) AllReadyH.nil;go_simp;refine hK.out _ _ (HS1.out _ (((Below.refl _ W).alloc (Nat.le_refl _) _).drew.mono hBW)) (fun hHeld=>?_);clear hK K
    try simp only[Act.put,List.setIfInBounds_toArray,List.set_cons_zero,List.set_cons_succ]
    refine wpAnyH_ready (rs:=[19]) (by kernel_rfl) (by simp) ?_;refine AllReadyH.cons rfl (fun K hK=>?_) AllReadyH.nil;go_simp;refine acv.out.mono ?_;rintro e W4 ⟨g4,cap4,rfl,hh⟩;have hr4:Hid (∃post,Row W4 g4 3 (aL (l1++l2)++post)):=hid hh.out.1;have hb4:=hid hh.out.2;clear hh;go_simp;refine hK.out _ _ (HS1.out _ (hb4.out.mono hBW)) (fun hHeld=>?_);clear hK K
    try simp only[Act.put,List.setIfInBounds_toArray,List.set_cons_zero,List.set_cons_succ]
    refine wpAnyH_take (i:=20) (oi:={dst:=some 31,op:=.build 231 #[(0,.tmp 20),(1,.tmp 30)],type:=231,pos:= "bound.go:48",after:=#[{on:=9,ground:=.data},{on:=19,ground:=.data}],guard:=none}) (v:=?_) rfl (by kernel_rfl) (by kernel_rfl) (by kernel_rfl) (fun _ _ _ h=>h) (Or.inl ⟨by rfl,?_⟩) (by assumption) ?_;rotate_left
    ·(intro w hSw;(try dsimp only at hSw);go_simp;(try with_reducible rfl))
    try simp only[Act.put,List.setIfInBounds_toArray,List.set_cons_zero,List.set_cons_succ]
    refine wpAnyH_ready (rs:=[21]) (by kernel_rfl) (by simp) ?_;refine AllReadyH.cons rfl (fun K hK=>?_) AllReadyH.nil;go_simp;refine hK.out _ _ (HS1.out _ ((hb4.out.alloc hb4.out.size _).mono hBW)) (fun hHeld=>?_);clear hK K
    try simp only[Act.put,List.setIfInBounds_toArray,List.set_cons_zero,List.set_cons_succ]
    refine wpAnyH_ready (rs:=[22]) (by kernel_rfl) (by simp) ?_;refine AllReadyH.cons rfl (fun K hK=>?_) AllReadyH.nil;have HoA:Hid ((W4.alloc (.cells #[.int .i64 ((a:Int)+(b:Int)),.slice (some ⟨g4,0,none⟩) (n1+n2) cap4] 231)).ownsRow B 231 2 v P.length (p2 P)):=hid (jW H2.out (aD (aj hb4.out none) _));have dR:Hid (∀(j:Nat) (u:Value),([.int .i64 ((a:Int)+(b:Int)),.slice (some ⟨g4,0,none⟩) (n1+n2) cap4]:List Value)[j]?=some u→(W4.alloc (.cells #[.int .i64 ((a:Int)+(b:Int)),.slice (some ⟨g4,0,none⟩) (n1+n2) cap4] 231)).cell? ((⟨W4.heap.size,0,none⟩:Addr).add j)=some u):=hid (fun j u hu=>by
     match j,hu with
     | 0,hu=>simp at hu;subst hu;simp[Addr.add]
     | 1,hu=>simp at hu;subst hu;simp[Addr.add])
    refine step_append_lies (W4.alloc (.cells #[.int .i64 ((a:Int)+(b:Int)),.slice (some ⟨g4,0,none⟩) (n1+n2) cap4] 231)) (by rfl) _ _ _ (by rfl) B 231 i0 (.agg #[.int .i64 0,.slice none 0 0]) 2 32 underlying226 hi hz0 hz1 hz2 rfl (by omega) v P.length (p2 P) (by rfl) HoA.out ⟨W4.heap.size,0,none⟩ 1 1 [.int .i64 ((a:Int)+(b:Int)),.slice (some ⟨g4,0,none⟩) (n1+n2) cap4] (by rfl) (by rfl) dR.out (by intro u hu;simp at hu;rcases hu with rfl | rfl<;>rfl) (by omega) (by unfold maxLen;omega) (by omega) (by have:=hb4.out.size;simp;omega) (W4.heap.size+1) (by simp) ?_;intro gN nX wN hoN hgN Nf aaA;obtain⟨abC,PL⟩:=hr4.out;obtain⟨⟨cN,fN⟩,E⟩:=pV (u:=(a+b,(g4,cap4),l1++l2)) (hk:=hk) HB.out H1.out H2.out H3.out H4.out H5.out H6.out H7.out (by have:=Hm.out;omega) Hw2.out Hs2.out (HN.out g4 cap4) hb4.out PL hoN hgN;have HE:=hid E;have hbN:Below B W wN:=((hb4.out.alloc hb4.out.size _).mono hBW).grown hgN (by have:=hb4.out.size;simp;omega) (fun q hq=>(HoA.out.lt q hq).1);refine hK.out _ _ (HS1.out _ hbN) (fun hHeld=>?_);clear hK K E hoN hgN Nf aaA PL HoA dR hbN
    try simp only[Act.put,List.setIfInBounds_toArray]
    refine wpAnyH_ready (rs:=[23]) (by kernel_rfl) (by simp) ?_;refine AllReadyH.cons rfl (fun K hK=>?_) AllReadyH.nil;go_simp;refine hK.out _ _ (HS1.out _ HE.out.2.1.1.1) (fun hHeld=>?_);clear hK K;refine wpAnyH_done (by kernel_rfl) ?_ _;exact HE.out
   ·go_simp;refine hK.out _ _ (HS1.out _ (((Below.refl _ W).alloc (Nat.le_refl _) _).drew.mono hBW)) (fun hHeld=>?_);clear hK K
    try simp only[Act.put,List.setIfInBounds_toArray,List.set_cons_zero,List.set_cons_succ]
    refine wpAnyH_ready (rs:=[0,19]) (by kernel_rfl) (by simp) ?_;refine AllReadyH.cons rfl (fun K hK=>?_) (AllReadyH.cons rfl (fun K hK=>?_) AllReadyH.nil)
    ·have cB:=HS2.out _ ((Below.refl _ W).alloc (Nat.le_refl _) (.cells #[.slice (some ⟨g1,0,none⟩) n1 c1,.slice (some ⟨g2,0,none⟩) n2 c2] 112));go_simp;refine hK.out _ _ (HS1.out _ (((Below.refl _ W).alloc (Nat.le_refl _) _).drew.mono hBW)) (fun hHeld=>?_);clear hK K
     try simp only[Act.put,List.setIfInBounds_toArray,List.set_cons_zero,List.set_cons_succ]
     clear cB;refine wpAnyH_ready (rs:=[19]) (by kernel_rfl) (by simp) ?_;refine AllReadyH.cons rfl (fun K hK=>?_) AllReadyH.nil;go_simp;refine acv.out.mono ?_;rintro e W4 ⟨g4,cap4,rfl,hh⟩;have hr4:Hid (∃post,Row W4 g4 3 (aL (l1++l2)++post)):=hid hh.out.1;have hb4:=hid hh.out.2;clear hh;go_simp;refine hK.out _ _ (HS1.out _ (hb4.out.mono hBW)) (fun hHeld=>?_);clear hK K
     try simp only[Act.put,List.setIfInBounds_toArray,List.set_cons_zero,List.set_cons_succ]
     refine wpAnyH_take (i:=20) (oi:={dst:=some 31,op:=.build 231 #[(0,.tmp 20),(1,.tmp 30)],type:=231,pos:= "bound.go:48",after:=#[{on:=9,ground:=.data},{on:=19,ground:=.data}],guard:=none}) (v:=?_) rfl (by kernel_rfl) (by kernel_rfl) (by kernel_rfl) (fun _ _ _ h=>h) (Or.inl ⟨by rfl,?_⟩) (by assumption) ?_;rotate_left
     ·(intro w hSw;(try dsimp only at hSw);go_simp;(try with_reducible rfl))
     try simp only[Act.put,List.setIfInBounds_toArray,List.set_cons_zero,List.set_cons_succ]
     refine wpAnyH_ready (rs:=[21]) (by kernel_rfl) (by simp) ?_;refine AllReadyH.cons rfl (fun K hK=>?_) AllReadyH.nil;go_simp;refine hK.out _ _ (HS1.out _ ((hb4.out.alloc hb4.out.size _).mono hBW)) (fun hHeld=>?_);clear hK K
     try simp only[Act.put,List.setIfInBounds_toArray,List.set_cons_zero,List.set_cons_succ]
     refine wpAnyH_ready (rs:=[22]) (by kernel_rfl) (by simp) ?_;refine AllReadyH.cons rfl (fun K hK=>?_) AllReadyH.nil;have HoA:Hid ((W4.alloc (.cells #[.int .i64 ((a:Int)+(b:Int)),.slice (some ⟨g4,0,none⟩) (n1+n2) cap4] 231)).ownsRow B 231 2 v P.length (p2 P)):=hid (jW H2.out (aD (aj hb4.out none) _));have dR:Hid (∀(j:Nat) (u:Value),([.int .i64 ((a:Int)+(b:Int)),.slice (some ⟨g4,0,none⟩) (n1+n2) cap4]:List Value)[j]?=some u→(W4.alloc (.cells #[.int .i64 ((a:Int)+(b:Int)),.slice (some ⟨g4,0,none⟩) (n1+n2) cap4] 231)).cell? ((⟨W4.heap.size,0,none⟩:Addr).add j)=some u):=hid (fun j u hu=>by
      match j,hu with
      | 0,hu=>simp at hu;subst hu;simp[Addr.add]
      | 1,hu=>simp at hu;subst hu;simp[Addr.add])
     refine step_append_lies (W4.alloc (.cells #[.int .i64 ((a:Int)+(b:Int)),.slice (some ⟨g4,0,none⟩) (n1+n2) cap4] 231)) (by rfl) _ _ _ (by rfl) B 231 i0 (.agg #[.int .i64 0,.slice none 0 0]) 2 32 underlying226 hi hz0 hz1 hz2 rfl (by omega) v P.length (p2 P) (by rfl) HoA.out ⟨W4.heap.size,0,none⟩ 1 1 [.int .i64 ((a:Int)+(b:Int)),.slice (some ⟨g4,0,none⟩) (n1+n2) cap4] (by rfl) (by rfl) dR.out (by intro u hu;simp at hu;rcases hu with rfl | rfl<;>rfl) (by omega) (by unfold maxLen;omega) (by omega) (by have:=hb4.out.size;simp;omega) (W4.heap.size+1) (by simp) ?_;intro gN nX wN hoN hgN Nf aaA;obtain⟨abC,PL⟩:=hr4.out;obtain⟨⟨cN,fN⟩,E⟩:=pV (u:=(a+b,(g4,cap4),l1++l2)) (hk:=hk) HB.out H1.out H2.out H3.out H4.out H5.out H6.out H7.out (by have:=Hm.out;omega) Hw2.out Hs2.out (HN.out g4 cap4) hb4.out PL hoN hgN;have HE:=hid E;have hbN:Below B W wN:=((hb4.out.alloc hb4.out.size _).mono hBW).grown hgN (by have:=hb4.out.size;simp;omega) (fun q hq=>(HoA.out.lt q hq).1);refine hK.out _ _ (HS1.out _ hbN) (fun hHeld=>?_);clear hK K E hoN hgN Nf aaA PL HoA dR hbN
     try simp only[Act.put,List.setIfInBounds_toArray]
     refine wpAnyH_ready (rs:=[23]) (by kernel_rfl) (by simp) ?_;refine AllReadyH.cons rfl (fun K hK=>?_) AllReadyH.nil;go_simp;refine hK.out _ _ (HS1.out _ HE.out.2.1.1.1) (fun hHeld=>?_);clear hK K;refine wpAnyH_done (by kernel_rfl) ?_ _;exact HE.out
    ·go_simp;refine acv.out.mono ?_;rintro e W4 ⟨g4,cap4,rfl,hh⟩;have hr4:Hid (∃post,Row W4 g4 3 (aL (l1++l2)++post)):=hid hh.out.1;have hb4:=hid hh.out.2;clear hh;go_simp;refine hK.out _ _ (HS1.out _ (hb4.out.mono hBW)) (fun hHeld=>?_);clear hK K
     try simp only[Act.put,List.setIfInBounds_toArray,List.set_cons_zero,List.set_cons_succ]
     refine wpAnyH_take (i:=20) (oi:={dst:=some 31,op:=.build 231 #[(0,.tmp 20),(1,.tmp 30)],type:=231,pos:= "bound.go:48",after:=#[{on:=9,ground:=.data},{on:=19,ground:=.data}],guard:=none}) (v:=?_) rfl (by kernel_rfl) (by kernel_rfl) (by kernel_rfl) (fun _ _ _ h=>h) (Or.inl ⟨by rfl,?_⟩) (by assumption) ?_;rotate_left
     ·(intro w hSw;(try dsimp only at hSw);go_simp;(try with_reducible rfl))
     try simp only[Act.put,List.setIfInBounds_toArray,List.set_cons_zero,List.set_cons_succ]
     refine wpAnyH_ready (rs:=[0,21]) (by kernel_rfl) (by simp) ?_;refine AllReadyH.cons rfl (fun K hK=>?_) (AllReadyH.cons rfl (fun K hK=>?_) AllReadyH.nil)
     ·have cB:=HS2.out _ hb4.out;go_simp;refine hK.out _ _ (HS1.out _ (hb4.out.mono hBW)) (fun hHeld=>?_);clear hK K
      try simp only[Act.put,List.setIfInBounds_toArray,List.set_cons_zero,List.set_cons_succ]
      clear cB;refine wpAnyH_ready (rs:=[21]) (by kernel_rfl) (by simp) ?_;refine AllReadyH.cons rfl (fun K hK=>?_) AllReadyH.nil;go_simp;refine hK.out _ _ (HS1.out _ ((hb4.out.alloc hb4.out.size _).mono hBW)) (fun hHeld=>?_);clear hK K
      try simp only[Act.put,List.setIfInBounds_toArray,List.set_cons_zero,List.set_cons_succ]
      refine wpAnyH_ready (rs:=[22]) (by kernel_rfl) (by simp) ?_;refine AllReadyH.cons rfl (fun K hK=>?_) AllReadyH.nil;have HoA:Hid ((W4.alloc (.cells #[.int .i64 ((a:Int)+(b:Int)),.slice (some ⟨g4,0,none⟩) (n1+n2) cap4] 231)).ownsRow B 231 2 v P.length (p2 P)):=hid (jW H2.out (aD (aj hb4.out none) _));have dR:Hid (∀(j:Nat) (u:Value),([.int .i64 ((a:Int)+(b:Int)),.slice (some ⟨g4,0,none⟩) (n1+n2) cap4]:List Value)[j]?=some u→(W4.alloc (.cells #[.int .i64 ((a:Int)+(b:Int)),.slice (some ⟨g4,0,none⟩) (n1+n2) cap4] 231)).cell? ((⟨W4.heap.size,0,none⟩:Addr).add j)=some u):=hid (fun j u hu=>by
       match j,hu with
       | 0,hu=>simp at hu;subst hu;simp[Addr.add]
       | 1,hu=>simp at hu;subst hu;simp[Addr.add])
      refine step_append_lies (W4.alloc (.cells #[.int .i64 ((a:Int)+(b:Int)),.slice (some ⟨g4,0,none⟩) (n1+n2) cap4] 231)) (by rfl) _ _ _ (by rfl) B 231 i0 (.agg #[.int .i64 0,.slice none 0 0]) 2 32 underlying226 hi hz0 hz1 hz2 rfl (by omega) v P.length (p2 P) (by rfl) HoA.out ⟨W4.heap.size,0,none⟩ 1 1 [.int .i64 ((a:Int)+(b:Int)),.slice (some ⟨g4,0,none⟩) (n1+n2) cap4] (by rfl) (by rfl) dR.out (by intro u hu;simp at hu;rcases hu with rfl | rfl<;>rfl) (by omega) (by unfold maxLen;omega) (by omega) (by have:=hb4.out.size;simp;omega) (W4.heap.size+1) (by simp) ?_;intro gN nX wN hoN hgN Nf aaA;obtain⟨abC,PL⟩:=hr4.out;obtain⟨⟨cN,fN⟩,E⟩:=pV (u:=(a+b,(g4,cap4),l1++l2)) (hk:=hk) HB.out H1.out H2.out H3.out H4.out H5.out H6.out H7.out (by have:=Hm.out;omega) Hw2.out Hs2.out (HN.out g4 cap4) hb4.out PL hoN hgN;have HE:=hid E;have hbN:Below B W wN:=((hb4.out.alloc hb4.out.size _).mono hBW).grown hgN (by have:=hb4.out.size;simp;omega) (fun q hq=>(HoA.out.lt q hq).1);refine hK.out _ _ (HS1.out _ hbN) (fun hHeld=>?_);clear hK K E hoN hgN Nf aaA PL HoA dR hbN
      try simp only[Act.put,List.setIfInBounds_toArray]
      refine wpAnyH_ready (rs:=[23]) (by kernel_rfl) (by simp) ?_;refine AllReadyH.cons rfl (fun K hK=>?_) AllReadyH.nil;go_simp;refine hK.out _ _ (HS1.out _ HE.out.2.1.1.1) (fun hHeld=>?_);clear hK K;refine wpAnyH_done (by kernel_rfl) ?_ _;exact HE.out
     ·go_simp;refine hK.out _ _ (HS1.out _ ((hb4.out.alloc hb4.out.size _).mono hBW)) (fun hHeld=>?_);clear hK K
      try simp only[Act.put,List.setIfInBounds_toArray,List.set_cons_zero,List.set_cons_succ]
      refine wpAnyH_ready (rs:=[0]) (by kernel_rfl) (by simp) ?_;refine AllReadyH.cons rfl (fun K hK=>?_) AllReadyH.nil;have cB:=HS2.out _ (hb4.out.alloc hb4.out.size (.cells #[.int .i64 ((a:Int)+(b:Int)),.slice (some ⟨g4,0,none⟩) (n1+n2) cap4] 231));go_simp;refine hK.out _ _ (HS1.out _ ((hb4.out.alloc hb4.out.size _).mono hBW)) (fun hHeld=>?_);clear hK K
      try simp only[Act.put,List.setIfInBounds_toArray,List.set_cons_zero,List.set_cons_succ]
      clear cB;refine wpAnyH_ready (rs:=[22]) (by kernel_rfl) (by simp) ?_;refine AllReadyH.cons rfl (fun K hK=>?_) AllReadyH.nil;have HoA:Hid ((W4.alloc (.cells #[.int .i64 ((a:Int)+(b:Int)),.slice (some ⟨g4,0,none⟩) (n1+n2) cap4] 231)).ownsRow B 231 2 v P.length (p2 P)):=hid (jW H2.out (aD (aj hb4.out none) _));have dR:Hid (∀(j:Nat) (u:Value),([.int .i64 ((a:Int)+(b:Int)),.slice (some ⟨g4,0,none⟩) (n1+n2) cap4]:List Value)[j]?=some u→(W4.alloc (.cells #[.int .i64 ((a:Int)+(b:Int)),.slice (some ⟨g4,0,none⟩) (n1+n2) cap4] 231)).cell? ((⟨W4.heap.size,0,none⟩:Addr).add j)=some u):=hid (fun j u hu=>by
       match j,hu with
       | 0,hu=>simp at hu;subst hu;simp[Addr.add]
       | 1,hu=>simp at hu;subst hu;simp[Addr.add])
      refine step_append_lies (W4.alloc (.cells #[.int .i64 ((a:Int)+(b:Int)),.slice (some ⟨g4,0,none⟩) (n1+n2) cap4] 231)) (by rfl) _ _ _ (by rfl) B 231 i0 (.agg #[.int .i64 0,.slice none 0 0]) 2 32 underlying226 hi hz0 hz1 hz2 rfl (by omega) v P.length (p2 P) (by rfl) HoA.out ⟨W4.heap.size,0,none⟩ 1 1 [.int .i64 ((a:Int)+(b:Int)),.slice (some ⟨g4,0,none⟩) (n1+n2) cap4] (by rfl) (by rfl) dR.out (by intro u hu;simp at hu;rcases hu with rfl | rfl<;>rfl) (by omega) (by unfold maxLen;omega) (by omega) (by have:=hb4.out.size;simp;omega) (W4.heap.size+1) (by simp) ?_;intro gN nX wN hoN hgN Nf aaA;obtain⟨abC,PL⟩:=hr4.out;obtain⟨⟨cN,fN⟩,E⟩:=pV (u:=(a+b,(g4,cap4),l1++l2)) (hk:=hk) HB.out H1.out H2.out H3.out H4.out H5.out H6.out H7.out (by have:=Hm.out;omega) Hw2.out Hs2.out (HN.out g4 cap4) hb4.out PL hoN hgN;have HE:=hid E;have hbN:Below B W wN:=((hb4.out.alloc hb4.out.size _).mono hBW).grown hgN (by have:=hb4.out.size;simp;omega) (fun q hq=>(HoA.out.lt q hq).1);refine hK.out _ _ (HS1.out _ hbN) (fun hHeld=>?_);clear hK K E hoN hgN Nf aaA PL HoA dR hbN
      try simp only[Act.put,List.setIfInBounds_toArray]
      refine wpAnyH_ready (rs:=[23]) (by kernel_rfl) (by simp) ?_;refine AllReadyH.cons rfl (fun K hK=>?_) AllReadyH.nil;go_simp;refine hK.out _ _ (HS1.out _ HE.out.2.1.1.1) (fun hHeld=>?_);clear hK K;refine wpAnyH_done (by kernel_rfl) ?_ _;exact HE.out
  ·have e2:jq m k=1:=by unfold jq;rw[if_neg hkm]
   rw[e2];have Ej:Hid (KeepsFrom (B+3) W W∧lN B (B+1) (B+2) W W∧GZ T m B (.slice (some ⟨g,0,none⟩) m cap) w (pre++[⟨k,hk⟩]) W):=hid
    ⟨KeepsFrom.refl _ _,⟨⟨Below.refl _ _,rfl⟩,rfl⟩,⟨v,P,h1,h2',by rw[List.map_append];exact .skip h3 (by have:=Hm.out;show ¬2*k+1<T.length;omega),h4⟩,⟨h5,h6⟩,h7⟩
   clear h1 h2' h3 h4 h5 h6 h7;gi_wp2
   exact Ej.out
 case done=>
  rintro D ys W hD hys ⟨⟨v,P,h1,h2,h3,h4⟩,_,h7⟩ hK;rw[hys]at h3;obtain⟨r1,r2⟩:=uS T _ P h3 (by have:=Hm.out;omega);have c1:=h1.cell;have Hpo:Hid (lS T P):=hid ⟨by have:=Hm.out;omega,fun x hx=>(r2 x hx).1,fun x hx=>(r2 x hx).2⟩;have H2:=hid h2;have H4:=hid h4;have H7:=hid h7;clear h2 h3 h4 h7 r1 r2 h1;gi_wp2
  refine⟨by simp,.inl ⟨_,_,rfl,run_takeDeferred hK,?_⟩⟩;refine⟨_,results_tmp rfl _ _ _,v,P,rfl,Hpo.out,?_,H4.out.far (grownBy_putObj' W D (.deferred none)) fun b e=>?_,?_⟩
  ·rw[←HB.out];exact ownsRow_putObj H2.out _ hK rfl
  ·injection e with e
   subst e;exact⟨_,hK,fun cs e'=>by cases e'⟩
  ·rw[←HB.out];exact H7.out.trans (belowK_b (w:=w) (by have:=HB.out;omega) W D _ _ (by have:=HB.out;omega) hK rfl rfl)
 case stop=>
  rintro D c pre W _ _ h _;exact h.elim
namespace Bm
theorem Tv{cs ls:List Nat}(hu:ZJ cs ls)(aap:cs.length≤256)(hex:∃x∈cs,0<x)(h2:(lvs cs).length<2):∀x∈ls,x≤11:=by
 have h1:=Ah cs hex;obtain⟨c,i,hci⟩:∃c i,lvs cs=[(c,i)]:=by
  match h:lvs cs with
  | []=>rw[h]at h1;simp at h1
  | [(c,i)]=>exact⟨c,i,rfl⟩
  | _ :: _ :: _=>rw[h]at h2;simp only[List.length_cons]at h2;omega
 have hm:=(bW cs cs.length (c,i)).1 (show(c,i)∈lvs cs by rw[hci];simp);simp only at hm;obtain⟨hi,hc,h0⟩:=hm;have e1:=hu.cost;have e2:=(Tt hci aap).cost;rw[←e2,oU,oU,hci]at e1;simp only[List.map_cons,List.map_nil,List.sum_cons,List.sum_nil,Nat.add_zero]at e1;have e3:bH ((List.replicate cs.length 0).set i 1) i=1:=by
  unfold bH;rw[List.getElem?_set_self (by simpa using hi)];rfl
 rw[e3]at e1;have hcp:0<c:=by omega
 have e4:bH ls i=1:=Nat.eq_of_mul_eq_mul_left hcp e1;intro x hx;obtain⟨k,hk,rfl⟩:=List.mem_iff_getElem.1 hx;have hkc:k<cs.length:=by rw[←hu.len];exact hk
 by_cases hki:k=i
 ·subst hki;unfold bH at e4;rw[List.getElem?_eq_getElem hk,Option.getD_some]at e4;omega
 ·have hz:¬0<cs[k]?.getD 0:=fun h=>by
   have hmem:(cs[k]?.getD 0,k)∈lvs cs:=(bW cs cs.length _).2 ⟨hkc,rfl,h⟩;rw[hci]at hmem;simp only[List.mem_singleton]at hmem;injection hmem with _ e
   exact hki e
  have:=mt (hu.just k hkc).1 hz;rw[List.getElem?_eq_getElem hk,Option.getD_some]at this;omega
end Bm
theorem acn:afN:=by
 intro w A c l hl hb hr hR;refine(XM (fun _=>True) A c l w (by unfold maxLen;omega) hr hR trivial (fun cs ls W _ hl hm hex hr hu=>?_)).mono ?_
 ·by_cases h2:2≤(lvs cs).length
  ·exact .inr (XL Wt A c cs W hl hm hex h2 hr)
  ·exact .inl (Tv hu hl hex (by omega))
 ·rintro e w' ⟨v,rfl,B,d,ls,rfl,hd,h1,h2,h3⟩;rw[List.length_map]at hd;exact⟨B,d,ls,by rw[List.length_map],hd,h1,h2,h3⟩
theorem Aj(l:List Nat):(l.map fun n:Nat=>(n:Int)).map Int.toNat=l:=by
 rw[List.map_map];conv=>rhs;rw[←List.map_id l]
 apply List.map_congr_left
 intro x _;simp
end Go.Proofs.YtgiicohbigiapaaGreat
