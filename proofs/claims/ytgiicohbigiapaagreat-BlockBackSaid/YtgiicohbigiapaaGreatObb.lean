/- Contracts. -/
import Derived.Test.YtgiicohbigiapaaGreatOba
import Derived.Test.YtgiicohbigiapaaGreatOaz
import Derived.Test.YtgiicohbigiapaaGreatOz2
import Derived.Test.YtgiicohbigiapaaGreatOz1
import Derived.Test.YtgiicohbigiapaaGreatOz0
set_option maxHeartbeats 4000000
set_option maxRecDepth 100000
open Go.Proofs.Tryz Go.Proofs.YtgiicohbigiapaaGreat.am List Nat Option
namespace Go.Proofs.YtgiicohbigiapaaGreat
open Go.RowKit
def zK(w w':ah)(b:Nat)(e:Ending)(o:Option (ae)):Prop:=
 ∃x ok st,e=.returned (.tuple #[.string (strOf x),.bool ok])/\(ok=true->bK w' b st)/\w.grownBy w' (some b)/\o=if ok=true/\st=some []then some x else none
theorem Rl(D:ae)(n:Nat)(bs:ae):gx D 2 n bs=match jg bs (n:Int)with
 |none=>none
 |some t=>match iC (bs.drop t.2) (n:Int)with
  |none=>none
  |some q=>if t.2+q.2=bs.length/\(iG D t.1 (q.1.map h9) n).2=0/\(iG D t.1 (q.1.map h9) n).1.length=n then some (iG D t.1 (q.1.map h9) n).1 else none:=by
 unfold gx;rw[az (by decide),az (by decide)];rfl
theorem aak(l:List am.dx)(h:∀s∈l,s.1<=65538/\s.2.1<=65538/\s.2.2<=65538):wa (l.map h9):=λs ap=>by
 obtain⟨t,aE,rfl⟩:=List.mem_map.1 ap;have:=h t aE;exact⟨⟨by show _<=(t.1:Int);omega,by show(t.1:Int)<=_;omega⟩,⟨by show _<=(t.2.1:Int);omega,by show(t.2.1:Int)<=_;omega⟩,⟨by show _<=(t.2.2:Int);omega,by show(t.2.2:Int)<=_;omega⟩⟩
theorem QY(D L:ae)(l:List eS)(n:Nat):(iG D L l n).2<=5:=by
 unfold iG;split
 .exact zero_le _
 .rcases Nj (a:=D.length) (lim:=n) l 0 L.length with h|h|h
  .rw[h];exact zero_le _
  .rw[h];decide
  .rw[h];decide
theorem QX(D L:ae)(l:List eS)(n:Nat):(iG D L l n).1.length<=n:=by
 unfold iG;split
 .next h=>
  have h1:=W4 h;have af:=O0 h1 (show D.length=D.length+0 by omega);have aq:=(DS h1).2;dsimp only;rw[cB,af];omega
 .exact zero_le _
theorem afS(b n:Nat)(D bs:ae)(w:ah)(hl:bs.length<=1000)(au:∀x∈bs,x<256)(cH:D.length<=1000)(hDlt:∀x∈D,x<256)(aA:n<=512)(h:bK w b (some bs)) :
  Calls prog 43 #[.pointer (some ⟨b,0,none⟩),.int .i64 n,.string (strOf D)] w λe w'=>zK w w' b e (gx D 2 n bs):=by
 have H1:=I (amJ b bs (n:Int) w hl au ⟨by omega,by omega⟩ h);have aJ:=Rl D n bs;clear h;cases aI:jg bs (n:Int)with
|none=>
  rw[aI]at H1 aJ;dsimp only at aJ;rw[aJ];clear aJ aI hl au cH hDlt aA;go_enter func43,ntmps43
  go_wp2_with fail
  refine H1.out.mono ?_;rintro e aw ⟨rfl,a1⟩;go_wp2;go_ret2;exact⟨[],false,none,rfl,λh=>(by cases h),a1,rfl⟩
|some t=>
  obtain⟨L,j⟩:=t;have ar:=R3 bs n (L,j) au aI;have nu:=R4 bs n (L,j) au aI;dsimp only at ar nu;rw[aI]at H1 aJ;dsimp only at aJ;have ko:(bs.drop j).length<=1000:=by rw[cB];omega
  have dN:=I (λW hc=>aoB b (bs.drop j) (n:Int) W (by omega) (by omega) (by omega) (jh au j) hc);cases ap:iC (bs.drop j) (n:Int)with
 |none=>
   rw[ap]at dN aJ;dsimp only at aJ;rw[aJ];clear aJ ap aI hl au cH hDlt aA ar nu ko;go_enter func43,ntmps43
   go_wp2_with fail
   refine H1.out.mono ?_;rintro e aw ⟨⟨rfl,bM⟩,a1⟩;have hD:=I (dN.out aw bM);have dm:=I a1;clear bM a1;go_wp2_with fail
   refine hD.out.mono ?_;rintro e aC ⟨⟨A,c,rfl⟩,bp⟩;go_wp2;go_ret2;exact⟨[],false,none,rfl,λh=>(by cases h),ef dm.out bp,rfl⟩
 |some q=>
   obtain⟨l,i⟩:=q;have ay:=Oz (bs.drop j) n (l,i) ap;have iX:=aak l (YU (bs.drop j) n (l,i) ap);rw[ap]at dN aJ;rw[cB]at ay;dsimp only at ay aJ;have xG:=I (λW A c aj=>alw D L A c (l.map h9) (n:Int) n W (by omega) (by omega) (by rw[cQ];omega) ⟨by omega,by omega⟩ (by omega) (by omega) hDlt nu iX (OU aj));have MX:=QY D L (l.map h9) n;have MZ:=QX D L (l.map h9) n;rw[cQ]at xG;generalize iG D L (l.map h9) n=Z at *;obtain⟨X,z⟩:=Z;dsimp only at aJ xG MX MZ;have bB:=cy X;have dO:Hid (∀W,bK W b (some ((bs.drop j).drop i))->w.grownBy W (some b)->zK w W b (.returned (.tuple #[.string (strOf X),.bool (decide (z=0) && decide (X.length=n))])) (gx D 2 n bs)):=I (λW hc aF=>by
    refine⟨X,_,some ((bs.drop j).drop i),rfl,λ_=>hc,aF,?_⟩;rw[aJ,drop_drop];by_cases aQ:z=0/\X.length=n
    .by_cases pr:j+i=bs.length
     .rw[aB ⟨pr,aQ.1,aQ.2⟩,aB ⟨by simp[aQ.1,aQ.2],by rw[drop_eq_nil_of_le (by omega)]⟩]
     .rw[az (λc=>pr c.1),az (λc=>pr (by
       have h1:=List.drop_eq_nil_iff.1 (Option.some.inj c.2);omega))]
    .rw[az (λc=>aQ c.2),az (λc=>aQ (by simpa using c.1))])
   clear aJ ap aI hl au cH hDlt ar nu ko ay iX;go_enter func43,ntmps43
   go_wp2_with fail
   refine H1.out.mono ?_;rintro e aw ⟨⟨rfl,bM⟩,a1⟩;have hD:=I (dN.out aw bM);have dm:=I a1;clear bM a1;go_wp2_with fail
   refine hD.out.mono ?_;rintro e aC ⟨⟨⟨A,c,rfl,aj⟩,c8⟩,bp⟩;have fg:=I (xG.out aC A c aj);have du:=I (ef dm.out bp);have ig:=I c8;clear aj c8 bp;dsimp only;generalize strOf X=kM at *;go_wp2_with fail
   refine fg.out.mono ?_;rintro e a6 ⟨rfl,bA⟩;have hend:=dO.out a6 (ig.out.below bA) (ef du.out (dj bA _));clear bA;by_cases aQ:z=0
   .subst aQ;have xW:((X.length:Int)==(n:Int))=decide (X.length=n):=by
     by_cases h:X.length=n
     .rw[h,bE rfl];simp
     .rw[bG h,beq_eq_false_iff_ne];omega
    have Kx:decide ((X.length:Int)=n)=decide (X.length=n):=decide_eq_decide.2 (by omega);rw[bE rfl,Bool.true_and]at hend;go_wp2;go_ret2;exact hend
   .have ta:((z:Int)==0)=false:=cz
    have aho:decide ((z:Int)=0)=false:=aU;rw[bG aQ,Bool.false_and]at hend;go_wp2;go_ret2;exact hend
theorem apc(n:Nat)(bs:ae):(if (eH n (some bs)).2=some []then some (eH n (some bs)).1 else none)=if bs.length=n then some bs else none:=by
 by_cases h:n<=bs.length
 .rw[Ec n bs h];by_cases af:bs.length=n
  .rw[aB af,aB (by rw[drop_eq_nil_of_le (by omega)])];dsimp only;rw[take_of_length_le (by omega)]
  .rw[az af,az (λc=>af (by have:=List.drop_eq_nil_iff.1 (Option.some.inj c);omega))]
 .rw[Eb n bs h,az (by simp),az (by omega)]
theorem af0(b aP n s:Nat)(D bs:ae)(w:ah)(h:bK w b (some bs)) :
  Calls prog 20 #[.pointer (some ⟨b,0,none⟩),.agg #[.int .u64 0,.int .i64 aP,.int .i64 n,.int .u64 s],.string (strOf D)] w λe w'=>zK w w' b e (gx D 0 n bs):=by
 have hW:=h.below ((Below.refl w.heap.size w).alloc bl (.cells #[.int .u64 0,.int .i64 aP,.int .i64 n,.int .u64 s] 49));have fJ:=I (im (dg w (some b)) (.cells #[.int .u64 0,.int .i64 aP,.int .i64 n,.int .u64 s] 49));have aj:=sC b (some bs) (n:Int) _ hW;rw[cX]at aj;have he:gx D 0 n bs=if true=true/\(eH n (some bs)).2=some []then some (eH n (some bs)).1 else none:=by
  simp only[true_and];rw[apc n bs];rfl
 have e7:=I he;have bj:=I aj;clear h hW aj he;generalize eH n (some bs)=R at *;obtain⟨x,st⟩:=R;dsimp only at bj e7;generalize strOf D=jY at *;have ib:=I (λe (h:e=Ending.returned (.tuple #[.string (strOf x),.bool true]))=>h);go_enter func20,ntmps20
 go_wp2_with fail
 refine bj.out.mono ?_;rintro e aw ⟨rfl,bM,a1⟩;go_wp2;go_ret2;exact⟨x,true,st,rfl,λ_=>bM,ef fJ.out a1,by simpa using e7.out⟩
theorem af2(b aP n s:Nat)(D bs:ae)(w:ah)(hl:bs.length<=1000)(au:∀x∈bs,x<256)(cH:D.length<=1000)(hDlt:∀x∈D,x<256)(aA:n<=512)(h:bK w b (some bs)) :
  Calls prog 20 #[.pointer (some ⟨b,0,none⟩),.agg #[.int .u64 2,.int .i64 aP,.int .i64 n,.int .u64 s],.string (strOf D)] w λe w'=>zK w w' b e (gx D 2 n bs):=by
 have hW:=h.below ((Below.refl w.heap.size w).alloc bl (.cells #[.int .u64 2,.int .i64 aP,.int .i64 n,.int .u64 s] 49));have fJ:=I (im (dg w (some b)) (.cells #[.int .u64 2,.int .i64 aP,.int .i64 n,.int .u64 s] 49));have bj:=I (afS b n D bs _ hl au cH hDlt aA hW);clear h hW hl au cH hDlt aA;generalize strOf D=jY at *;go_enter func20,ntmps20
 go_wp2_with fail
 refine bj.out.mono ?_;rintro e aw ⟨x,ok,st,rfl,bM,a1,he⟩;go_wp2;go_ret2;exact⟨x,ok,st,rfl,bM,ef fJ.out a1,he⟩
theorem af1(b aP n s:Nat)(D bs:ae)(w:ah)(au:∀x∈bs,x<256)(aA:n<=512)(h:bK w b (some bs)) :
  Calls prog 20 #[.pointer (some ⟨b,0,none⟩),.agg #[.int .u64 1,.int .i64 aP,.int .i64 n,.int .u64 s],.string (strOf D)] w λe w'=>zK w w' b e (gx D 1 n bs):=by
 have hW:=h.below ((Below.refl w.heap.size w).alloc bl (.cells #[.int .u64 1,.int .i64 aP,.int .i64 n,.int .u64 s] 49));have fJ:=I (im (dg w (some b)) (.cells #[.int .u64 1,.int .i64 aP,.int .i64 n,.int .u64 s] 49));have hrow:Row (w.alloc (.cells #[.int .u64 1,.int .i64 aP,.int .i64 n,.int .u64 s] 49)) w.heap.size 49 [.int .u64 1,.int .i64 aP,.int .i64 n,.int .u64 s]:=Row.new w 49 [.int .u64 1,.int .i64 aP,.int .i64 n,.int .u64 s];have dr:=I hrow;have b5:=I h.lt;have aj:=λW (hc:bK W b (some bs))=>sC b (some bs) 1 W hc
 rw[show(1:Int).toNat=1 from rfl]at aj;have hrep:∃R,(∀W,Calls prog 30 #[.string (strOf (eH 1 (some bs)).1),.int .i64 n] W λe w'=>e=.returned (.string (strOf R))/\av W w') /\
   gx D 1 n bs=if true=true/\(eH 1 (some bs)).2=some []then some R else none:=by
  cases bs with
 |nil=>exact⟨[],λW=>Zb n W (by omega),rfl⟩
 |cons x u=>
   refine⟨List.replicate n x,λW=>OI x n W (by omega),?_⟩;cases u with
  |nil=>rfl
  |cons y u=>rfl
 obtain⟨R,hrep,he⟩:=hrep;have Hrep:=I hrep;have e7:=I he;have bj:=I aj;have ou:=I hW;clear h hW aj he hrep hrow au aA;generalize eH 1 (some bs)=Q at *;obtain⟨x,st⟩:=Q;dsimp only at bj e7 Hrep;generalize strOf D=jY at *;go_enter func20,ntmps20
 go_upto_region 5 with fail
 generalize w.alloc (.cells #[.int .u64 1,.int .i64 aP,.int .i64 n,.int .u64 s] 49)=dK at *;have nO:=I (show dK.cell? ⟨w.heap.size,2,none⟩=some (.int .i64 n)from dr.out.cell 2);refine wp_region_held_drew (S:=(λW:ah=>W.cell? ⟨w.heap.size,2,none⟩=some (.int .i64 n))) (by kernel_rfl) (by exact nO) (λhHeld=>?_);refine bJ 0 {dst:=some 18,op:=.move (.tmp 0),type:=46,pos:= "block.go:126",after:=#[],guard:=none} ?_ rfl (Or.inl ⟨by rfl,?_⟩) ?_;rotate_left
 ·(intro w hSw;(try dsimp only at hSw);go_simp;(try with_reducible rfl))
 try simp only[bf]
 refine bJ 2 {dst:=some 20,op:=.fieldAddr 49 (.tmp 4) 2,type:=0,pos:= "block.go:126",after:=#[],guard:=none} ?_ rfl (Or.inl ⟨by rfl,?_⟩) ?_;rotate_left
 ·(intro w hSw;(try dsimp only at hSw);go_simp;(try with_reducible rfl))
 try simp only[bf]
 refine bJ 3 {dst:=some 21,op:=.load 3 (.tmp 20),type:=3,pos:= "block.go:126",after:=#[{on:=2,ground:=.data}],guard:=none} ?_ rfl (Or.inl ⟨by rfl,?_⟩) ?_;rotate_left
 ·(intro w hSw;(try dsimp only at hSw);go_simp;(try with_reducible rfl))
 try simp only[bf]
 refine hd 1 {dst:=some 19,op:=.call {callee:=.value (.func 42),args:=#[.tmp 18,.const (.int .i64 1)],argTypes:=#[46,3]},type:=9,pos:= "block.go:126",after:=#[{on:=0,ground:=.data}],guard:=none} rfl (λK hK=>?_);go_simp
 (go_at_call 42;refine(bj.out _ ou.out.drew).mono ?_;rintro e aw ⟨rfl,bM,a1⟩;have Il:=I (ef (ns fJ) a1);have mG:=I bM;have pR:=I (show aw.cell? ⟨w.heap.size,2,none⟩=some (.int .i64 n)from(dr.out.keep (w':=aw) (a1.block w.heap.size dr.out.lt (by have:=b5.out;simp;omega))).cell 2);clear bM a1)
 go_simp;refine hK.out _ _ (by exact pR) (λhHeld=>?_);clear hK K
 try simp only[bf]
 refine hd 4 {dst:=some 22,op:=.call {callee:=.value (.func 30),args:=#[.tmp 19,.tmp 21],argTypes:=#[9,3]},type:=9,pos:= "block.go:126",after:=#[{on:=1,ground:=.data},{on:=3,ground:=.data},{on:=1,ground:=.chain}],guard:=none} rfl (λK hK=>?_);go_simp
 (go_at_call 30;refine(Hrep.out _).mono ?_;rintro e aC ⟨rfl,aJ⟩;have nN:=I (ef Il.out (dj aJ (some b)));have xj:=I (mG.out.below aJ);have aaJ:=I ((aJ.cell (p:=⟨w.heap.size,2,none⟩) (World.block_lt_of_cell? _ _ pR)).trans pR);clear aJ)
 go_simp;refine hK.out _ _ (by exact aaJ) (λhHeld=>?_);clear hK K
 try simp only[bf]
 refine bJ 5 {dst:=some 6,op:=.assign (.tmp 22),type:=9,pos:= "block.go:126",after:=#[{on:=4,ground:=.data},{on:=4,ground:=.chain},{on:=0,ground:=.phase},{on:=1,ground:=.phase},{on:=2,ground:=.phase},{on:=3,ground:=.phase},{on:=4,ground:=.phase}],guard:=none} ?_ rfl (Or.inl ⟨by rfl,?_⟩) ?_;rotate_left
 ·(intro w hSw;(try dsimp only at hSw);go_simp;(try with_reducible rfl))
 try simp only[bf]
 refine bJ 6 {dst:=some 7,op:=.assign (.const (.bool true)),type:=4,pos:= "block.go:126",after:=#[{on:=5,ground:=.chain},{on:=0,ground:=.phase},{on:=1,ground:=.phase},{on:=2,ground:=.phase},{on:=3,ground:=.phase},{on:=4,ground:=.phase},{on:=5,ground:=.phase}],guard:=none} ?_ rfl (Or.inl ⟨by rfl,?_⟩) ?_;rotate_left
 ·(intro w hSw;(try dsimp only at hSw);go_simp;(try with_reducible rfl))
 try simp only[bf]
 refine wpAnyH_done (by kernel_rfl) ?_ _;go_wp2;go_ret2;exact⟨R,true,st,rfl,λ_=>xj.out,nN.out,by simpa using e7.out⟩
theorem af3(b k aP n s:Nat)(D bs:ae)(w:ah)(hk:k<3)(hl:bs.length<=1000)(au:∀x∈bs,x<256)(cH:D.length<=1000)(hDlt:∀x∈D,x<256)(aA:n<=512)(h:bK w b (some bs)) :
  Calls prog 20 #[.pointer (some ⟨b,0,none⟩),.agg #[.int .u64 k,.int .i64 aP,.int .i64 n,.int .u64 s],.string (strOf D)] w λe w'=>zK w w' b e (gx D k n bs):=by
 rcases(by omega:k=0\/k=1\/k=2)with rfl|rfl|rfl
 .exact af0 b aP n s D bs w h
 .exact af1 b aP n s D bs w au aA h
 .exact af2 b aP n s D bs w hl au cH hDlt aA h
theorem Rm{D bs X:ae}{k n:Nat}(cH:∀x∈D,x<256)(cs:∀x∈bs,x<256)(h:gx D k n bs=some X):∀x∈X,x<256:=by
 unfold gx at h;split at h
 .split at h
  .injection h with h;subst h;exact cs
  .cases h
 .split at h
  .split at h
   .next h1=>
    injection h with h
    subst h;intro x ai;rw[(List.mem_replicate.1 ai).2,bI (by omega)];exact cs _ (b8 _)
   .cases h
  .split at h
   .cases h
   .next t aE=>
    split at h
    .cases h
    .next q _=>
     split at h
     .next hc=>
      injection h with h
      rw[<-h];unfold iG;split
      .exact jh (O1 _ _ _ cH (R4 bs n t cs aE)) _
      .intro x ai;cases ai
     .cases h
theorem afh(D bs:ae)(lim:Int)(w:ah)(hl:bs.length<=1000)(au:∀x∈bs,x<256)(cH:D.length<=1000)(hDlt:∀x∈D,x<256) :
  Calls prog 9 #[.string (strOf bs),.string (strOf D),.int .i64 lim] w λe w'=>e=.returned (.tuple #[.string (strOf (j5 D bs lim).1),.int .i64 ((j5 D bs lim).2:Int)])/\av w w':=by
 have b0:=I (Kj bs w);have hg:=I (λW hc=>J1 w.heap.size bs W (by omega) au hc);have adC:=I (λW k aP n s at_ (hk:k<3) (aA:n<=512) hc=>af3 w.heap.size k aP n s D (bs.drop at_) W hk (by rw[cB];omega) (jh au at_) cH hDlt aA hc);have zj:=I (λk n at_ X (h:gx D k n (bs.drop at_)=some X)=>Rm hDlt (jh au at_) h);obtain⟨V,bW⟩:∃V,V=j5 D bs lim:=⟨_,rfl⟩;rw[<-bW];have oT:∀h,ip bs=some h->h.1<3:=λh he=>by
  unfold ip at he;split at he
  .cases he
  .split at he
   .cases he
   .next k r hk=>
    cases aE:qu r with
   |none=>rw[aE]at he;cases he
   |some t=>rw[aE]at he;injection he with he;rw[<-he];dsimp only;omega
 unfold j5 at bW;clear hl au cH hDlt;generalize strOf bs=vu at *;generalize strOf D=jY at *;go_enter func9,ntmps9
 go_wp2_with fail
 refine b0.out.mono ?_;rintro e aw ⟨rfl,bM,aH⟩;have aN:=I aH;have BM:=I (hg.out aw bM);clear bM aH;go_wp2_with fail
 refine BM.out.mono ?_;rintro e aC ⟨ax,bp⟩;have fS:=I aN.out.size;have bm:=I (aN.out.trans (below_grown bp bl aN.out.size));have vY:=I bp.size;clear bp;cases aI:ip bs with
|none=>
  rw[aI]at ax bW;obtain rfl:e=.returned (.tuple #[.agg #[.int .u64 0,.int .i64 0,.int .i64 0,.int .u64 0],.int .i64 3]):=ax;subst bW;clear aI oT;have pb:=I (λu=>bm.out.alloc bm.out.size u);go_wp2;go_ret2;exact⟨rfl,pb.out _⟩
|some h=>
  obtain⟨k,aP,n,s,at_⟩:=h;have hk:=oT _ aI;rw[aI]at ax bW;obtain⟨rfl,c8⟩:e=.returned (.tuple #[.agg #[.int .u64 k,.int .i64 aP,.int .i64 n,.int .u64 s],.int .i64 0])/\bK aC w.heap.size (some (bs.drop at_)):=ax;dsimp only at bW hk;have hrow:Row (aC.alloc (.cells #[.int .u64 k,.int .i64 aP,.int .i64 n,.int .u64 s] 49)) aC.heap.size 49 [.int .u64 k,.int .i64 aP,.int .i64 n,.int .u64 s]:=Row.new aC 49 [.int .u64 k,.int .i64 aP,.int .i64 n,.int .u64 s];have dr:=I hrow;have e6:=I (bm.out.alloc bm.out.size (.cells #[.int .u64 k,.int .i64 aP,.int .i64 n,.int .u64 s] 49));have abH:=I (c8.below ((Below.refl aC.heap.size aC).alloc bl (.cells #[.int .u64 k,.int .i64 aP,.int .i64 n,.int .u64 s] 49)));have EV:=I (c8.lt);clear aI oT c8 hrow;by_cases hbig:lim<(n:Int)\/512<n
  .rw[aB hbig]at bW;subst bW;have d1:decide (min lim 512<(n:Int))=true:=cf;clear hbig;go_wp2;go_ret2;exact⟨rfl,e6⟩
  .rw[az hbig]at bW;have d1:decide (min lim 512<(n:Int))=false:=aU;have bj:=I (adC.out _ k aP n s at_ hk (by omega) abH.out);have nO:=I (dr.out.cell 3);have cc:=I (λX h=>zj.out k n at_ X h);have uk:=I (λX (h:gx D k n (bs.drop at_)=some X)=>dl (Nat.le_of_eq (Q9 h)) (by omega:n<=512));have c0:=dr.out.cell 0;have c1:=dr.out.cell 1;have c2:=dr.out.cell 2;have c3:=dr.out.cell 3;simp only[dH,dJ]at c0 c1 c2 c3;go_wp2_with fail
   clear c0 c1 c2 c3;generalize aC.alloc (.cells #[.int .u64 k,.int .i64 aP,.int .i64 n,.int .u64 s] 49)=dK at *;refine bj.out.mono ?_;rintro e a6 ⟨x,ok,st,rfl,k5,ct,he⟩;have hrow3:=dr.out.keep (ct.block aC.heap.size dr.out.lt (by have:=EV.out;simp;omega));have IG:=I (show a6.cell? ⟨aC.heap.size,3,none⟩=some (.int .u64 s)from hrow3.cell 3);have b6:=I (e6.out.trans (below_grown ct bl e6.out.size));clear hrow3 ct;cases ok with
  |false=>
    rw[he]at bW;simp only[Bool.false_eq_true,false_and,if_false]at bW;subst bW;clear he k5;go_wp2;go_ret2;exact⟨rfl,b6⟩
  |true=>
    have fC:=I (apw w.heap.size st a6 (k5 rfl));by_cases aS:st=some []
    .rw[bE aS]at fC;rw[aB ⟨rfl,aS⟩]at he;rw[he]at bW;dsimp only at bW;have ai:=cc.out x he;have kv:=uk.out x he;have Jz:=I (λW=>Y7 x W (by omega) ai);clear he k5 aS ai kv;go_wp2_with fail
     refine fC.out.mono ?_;rintro e bH ⟨rfl,rfl⟩;go_upto_region 10 with fail
     refine wp_region_held_drew (S:=(λW:ah=>W.cell? ⟨aC.heap.size,3,none⟩=some (.int .u64 s))) (by kernel_rfl) (by exact IG) (λhHeld=>?_);refine bJ 0 {dst:=some 42,op:=.move (.tmp 11),type:=9,pos:= "block.go:70",after:=#[],guard:=none} ?_ rfl (Or.inl ⟨by rfl,?_⟩) ?_;rotate_left
     ·(intro w hSw;(try dsimp only at hSw);go_simp;(try with_reducible rfl))
     try simp only[bf]
     refine bJ 2 {dst:=some 44,op:=.fieldAddr 49 (.tmp 9) 3,type:=0,pos:= "block.go:70",after:=#[],guard:=none} ?_ rfl (Or.inl ⟨by rfl,?_⟩) ?_;rotate_left
     ·(intro w hSw;(try dsimp only at hSw);go_simp;(try with_reducible rfl))
     try simp only[bf]
     refine bJ 3 {dst:=some 45,op:=.load 31 (.tmp 44),type:=31,pos:= "block.go:70",after:=#[{on:=2,ground:=.data}],guard:=none} ?_ rfl (Or.inl ⟨by rfl,?_⟩) ?_;rotate_left
     ·(intro w hSw;(try dsimp only at hSw);go_simp;(try with_reducible rfl))
     try simp only[bf]
     refine hd 1 {dst:=some 43,op:=.call {callee:=.value (.func 22),args:=#[.tmp 42],argTypes:=#[9]},type:=31,pos:= "block.go:70",after:=#[{on:=0,ground:=.data}],guard:=none} rfl (λK hK=>?_);go_simp
     (go_at_call 22;refine(Jz.out _).mono ?_;rintro e dp ⟨rfl,cL⟩;have nN:=I (b6.out.drew.trans (cL.mono b6.out.drew.size));have pR:=I ((cL.cell (p:=⟨aC.heap.size,3,none⟩) (World.block_lt_of_cell? _ _ IG)).trans IG);clear cL)
     go_simp;refine hK.out _ _ (by exact pR) (λhHeld=>?_);clear hK K
     try simp only[bf]
     refine bJ 4 {dst:=some 46,op:=.binOp .neq 31 (.tmp 43) (.tmp 45) 31,type:=4,pos:= "block.go:70",after:=#[{on:=1,ground:=.data},{on:=3,ground:=.data}],guard:=none} ?_ rfl (Or.inl ⟨by rfl,?_⟩) ?_;rotate_left
     ·(intro w hSw;(try dsimp only at hSw);go_simp;(try with_reducible rfl))
     try simp only[bf]
     refine wpAnyH_done (by kernel_rfl) ?_ _;by_cases hsum:am.sumOf x=s
     .rw[aB hsum]at bW;subst bW;rw[hsum];clear hsum;go_wp2;go_ret2;exact⟨rfl,nN⟩
     .rw[az hsum]at bW;subst bW;have ta:((am.sumOf x:Int)==(s:Int))=false:=cz
      generalize am.sumOf x=y at *;go_wp2;go_ret2;exact⟨rfl,nN⟩
    .rw[bG aS]at fC;rw[az (λc=>aS c.2)]at he;rw[he]at bW;subst bW;clear he k5 aS;go_wp2_with fail
     refine fC.out.mono ?_;rintro e bH ⟨rfl,rfl⟩;go_wp2;go_ret2;exact⟨rfl,b6⟩
namespace am
structure vE(D X:ae)(aP:Nat)(S:ae):Prop where
 lt:∀x∈S,x<256
 len:S.length<=X.length+16
 pos:0<S.length
 plain:S.length<=(fF 0 aP X++X).length
 head:∃k a,0<a/\ip S=some (k,aP,X.length,sumOf X,a)
 yes:∀lim:Int,(X.length:Int)<=lim->j5 D S lim=(X,0)
 few:∀lim:Int,lim<(X.length:Int)->j5 D S lim=([],5)
 cut:∀j,j<S.length->j5 D (S.take j) (X.length:Int)=([],3)
 more:∀x,j5 D (S++[x]) (X.length:Int)=([],3)
 other:∀(fI:ae) (lim:Int) (Y:ae),j5 fI S lim=(Y,0)->sumOf Y=sumOf X
theorem ajl(k aP:Nat)(X:ae)(hk:k<256)(ev:aP<=1073741824)(ck:X.length<=512):∀x∈fF k aP X,x<256:=λx ai=>by
 unfold fF at ai;rcases List.mem_cons.1 ai with rfl|ai
 .exact hk
 .rcases List.mem_append.1 ai with ai|ai
  .exact qb aP (by omega) x ai
  .rcases List.mem_append.1 ai with ai|ai
   .exact qb X.length (by omega) x ai
   .exact ut _ _ x ai
theorem afE{D X T:ae}{k aP:Nat}(h:rk D X k T)(ev:aP<=1073741824)(ck:X.length<=512):vE D X aP (fF k aP X++T):=by
 have h1:=ajk k aP X ev ck;have af:=x9 k aP X;have aq:=x9 0 aP X;have aK:=h.len;have aT:=h.kind;refine⟨λx ai=>(List.mem_append.1 ai).elim (ajl k aP X (by omega) ev ck x) (h.lt x),?_,?_,?_,⟨k,_,?_,ya k aP X T h.kind ev ck⟩,afJ h ev ck,afF h.kind ev ck,afD h ev ck,afG h ev ck,λfI lim Y=>afI h.kind ev ck lim⟩
 .rw[aY];omega
 .rw[aY];omega
 .rw[aY,aY];omega
 .omega
end am
theorem J0(D X:ae)(aP:Nat)(v:Int)(w:ah)(cH:D.length<=256)(ck:X.length<=512)(hDlt:∀x∈D,x<256)(hXlt:∀x∈X,x<256)(ev:aP<=1073741824)(aD:ec v) :
  Calls prog 8 #[.string (strOf X),.string (strOf D),.int .i64 aP,.int .i64 v] w λe w'=>(∃S,vE D X aP S/\e=.returned (.tuple #[.string (strOf S),.int .i64 0]))/\av w w':=by
 refine(afm D X aP v w cH ck hDlt hXlt ev aD).mono ?_;rintro e w' ⟨⟨k,T,hq,he⟩,ak⟩;exact⟨⟨_,afE hq ev ck,he⟩,ak⟩
theorem Q8{D X S:ae}{aP:Nat}(aL:vE D X aP S)(fI:ae)(lim:Int)(w:ah)(ck:X.length<=512)(xZ:fI.length<=1000)(hDlt:∀x∈fI,x<256) :
  Calls prog 9 #[.string (strOf S),.string (strOf fI),.int .i64 lim] w λe w'=>e=.returned (.tuple #[.string (strOf (j5 fI S lim).1),.int .i64 ((j5 fI S lim).2:Int)])/\av w w':=
 afh fI S lim w (by have:=aL.len;omega) aL.lt xZ hDlt
theorem Zs:strOf []=⟨#[]⟩:=rfl
theorem arK:strOf [104,101,108,108,111,32,104,101,108,108,111,32,104,101,108,108,111]=⟨#[104,101,108,108,111,32,104,101,108,108,111,32,104,101,108,108,111]⟩:=by decide
theorem arJ:strOf [104,101,108,108,111,32]=⟨#[104,101,108,108,111,32]⟩:=by decide
theorem afH{D:ae}{S:ae}(h:vE D [] 0 S):S.length=11:=by
 have h1:=h.plain;obtain⟨k,a,_,hk⟩:=h.head;have af:(fF 0 0 []++[]).length=11:=by decide
 have aq:11<=S.length:=by
  have hy:=h.yes 0 (by simp);rcases eF 10 S.length with ao|ao
  .exact ao
  .exfalso
   have hh:ip S=none\/∃z,ip S=some z/\11<=S.length:=by
    unfold ip;cases S with
   |nil=>exact .inl rfl
   |cons x r=>
     dsimp only;split
     .exact .inl rfl
     .cases aE:qu r with
     |none=>exact .inl rfl
     |some t=>
       refine .inr ⟨_,rfl,?_⟩;unfold qu at aE;split at aE
       .split at aE
        .rw[bY];omega
        .cases aE
       .cases aE
   rcases hh with hh|⟨_,_,hh⟩
   .rw[hh]at hk;cases hk
   .omega
 omega
theorem JY(w:ah):Calls prog 7 #[] w λe w'=>e=.returned (.bool true)/\av w w':=by
 have H1:=I (J0 [104,101,108,108,111,32] [104,101,108,108,111,32,104,101,108,108,111,32,104,101,108,108,111] 3 2 w (by decide) (by decide) (by decide) (by decide) (by decide) ⟨by omega,by omega⟩);have dN:=I (λW S (aL:vE [104,101,108,108,111,32] [104,101,108,108,111,32,104,101,108,108,111,32,104,101,108,108,111] 3 S)=>Q8 aL [104,101,108,108,111,32] 17 W (by decide) (by decide) (by decide));have rn:=I (λW=>J0 [] [] 0 1 W (by decide) (by decide) (by decide) (by decide) (by decide) ⟨by omega,by omega⟩);obtain⟨X,ck⟩:∃X,X=[104,101,108,108,111,32,104,101,108,108,111,32,104,101,108,108,111]:=⟨_,rfl⟩;obtain⟨D,cH⟩:∃D,D=[104,101,108,108,111,32]:=⟨_,rfl⟩;have CW:X.length=17:=by rw[ck];rfl
 have AI:=arK;have vd:=arJ;rw[<-ck]at H1 dN AI;rw[<-cH]at H1 dN vd;rw[AI,vd]at H1;rw[vd]at dN;rw[Zs]at rn;have H1:Hid (Calls prog 8 #[.string ⟨#[104,101,108,108,111,32,104,101,108,108,111,32,104,101,108,108,111]⟩,.string ⟨#[104,101,108,108,111,32]⟩,.int .i64 3,.int .i64 2] w λe w'=>(∃S,vE D X 3 S/\e=.returned (.tuple #[.string (strOf S),.int .i64 0]))/\av w w'):=I H1.out;have rn:Hid (∀W,Calls prog 8 #[.string ⟨#[]⟩,.string ⟨#[]⟩,.int .i64 0,.int .i64 1] W λe w'=>(∃S,vE [] [] 0 S/\e=.returned (.tuple #[.string (strOf S),.int .i64 0]))/\av W w'):=I rn.out;have aiX:((ByteArray.mk #[104,101,108,108,111,32,104,101,108,108,111,32,104,101,108,108,111]).toList==(ByteArray.mk #[104,101,108,108,111,32,104,101,108,108,111,32,104,101,108,108,111]).toList)=true:=by simp
 clear ck cH vd;go_enter func7,ntmps7
 go_wp2_with fail
 refine H1.out.mono ?_;rintro e aw ⟨⟨S,aL,rfl⟩,aH⟩;have aN:=I aH;have aI:=λW=>dN.out W S aL
 rw[aL.yes 17 (by omega)]at aI;dsimp only at aI;rw[AI]at aI;obtain⟨k,a,_,hh⟩:=aL.head;have kb:=aL.len;have ev:=λW=>afp S W (by omega) aL.lt
 have sj:=λW=>af6 S W (by omega) aL.lt
 rw[hh]at ev sj;dsimp only at ev sj;rw[CW]at sj;have fC:=I aI;have ach:=I ev;have Jx:=I sj;clear aH aI ev sj aL hh kb AI;generalize strOf S=YL at *;go_wp2_with fail
 refine(fC.out _).mono ?_;rintro e aC ⟨rfl,aJ⟩;have bm:=b3 aN aJ;clear aJ;go_wp2_with fail
 refine(ach.out _).mono ?_;rintro e a6 ⟨rfl,bA⟩;have b6:=b3 bm bA;clear bA;go_wp2_with fail
 refine(Jx.out _).mono ?_;rintro e bH ⟨rfl,bc⟩;have dt:=b3 b6 bc;clear bc;go_wp2_with fail
 refine(rn.out _).mono ?_;rintro e dp ⟨⟨dY,qQ,rfl⟩,cL⟩;have dX:=b3 dt cL;have dQ:(strOf dY).size=11:=by rw[cy];exact afH qQ
 clear cL qQ;generalize strOf dY=s0 at *;go_wp2;go_ret;exact⟨rfl,dX⟩
def xd(e:Ending)(o:Option (ae)):Prop:=∃X ok,e=.returned (.tuple #[.string (strOf X),.bool ok])/\o=if ok=true then some X else none
theorem afU(n:Nat)(D bs:ae)(w:ah) :
  Calls prog 23 #[.string (strOf bs),.string (strOf D),.int .i64 0,.int .i64 n] w λe w'=>xd e (gx D 0 n bs)/\av w w':=by
 have bB:=cy bs;have he:gx D 0 n bs=if decide (bs.length=n)=true then some bs else none:=by
  unfold gx;rw[aB rfl];simp only[decide_eq_true_eq]
 have e7:=I he;have xW:((bs.length:Int)==(n:Int))=decide (bs.length=n):=by
  by_cases h:bs.length=n
  .rw[h,bE rfl];simp
  .rw[bG h,beq_eq_false_iff_ne];omega
 have Kx:decide ((bs.length:Int)=n)=decide (bs.length=n):=decide_eq_decide.2 (by omega);clear he;generalize strOf D=jY at *;generalize VC:strOf bs=vu at *;have adP:=I VC;clear VC;go_enter func23,ntmps23
 go_wp2;go_ret2;exact⟨⟨bs,decide (bs.length=n),by rw[adP.out];rfl,e7⟩,Below.refl _ _⟩
theorem afV(n:Nat)(D bs:ae)(w:ah)(aA:n<=512) :
  Calls prog 23 #[.string (strOf bs),.string (strOf D),.int .i64 1,.int .i64 n] w λe w'=>xd e (gx D 1 n bs)/\av w w':=by
 have bB:=cy bs;by_cases h1:bs.length=1
 .obtain⟨x,rfl⟩:∃x,bs=[x]:=by
   cases bs with
  |nil=>cases h1
  |cons x u=>cases u with
   |nil=>exact⟨x,rfl⟩
   |cons y u=>simp at h1
  have rp:=I (λj (ar:j<=512) W=>ra (List.replicate j x) [x] (by rw[iZ];simp;omega) W);have dO:Hid (xd (.returned (.tuple #[.string (strOf (List.replicate n x)),.bool true])) (gx D 1 n [x])):=I ⟨_,true,rfl,rfl⟩;have hsz1:(strOf [x]).size=1:=bB;clear bB h1;generalize hM:strOf [x]=s1 at *;clear hM;generalize strOf D=jY at *;go_enter func23,ntmps23
  go_wp2;go_loopw [10,11] (λvn bV wr=>∃j:Nat,j<=n/\vn=.string (strOf (List.replicate j x))/\bV=.int .i64 j/\wr=w) (λ_ bV _=>n-(intOf bV).toNat)
  case atStart=>exact⟨0,by omega,rfl,rfl,by first|rfl|trivial⟩
  case round=>
   obtain⟨j,ar,rfl,rfl,rfl⟩:=hrel;by_cases As:j<n
   .have hadd:=λW=>rp.out j (by omega) W
    rw[show List.replicate j x++[x]=List.replicate (j+1) x from(replicate_succ' (n:=j) (a:=x)).symm]at hadd;generalize akA:strOf (List.replicate j x)=axC at *;clear akA;go_wp2;go_roundw
    case rel=>exact⟨j+1,by omega,rfl,by go_num,by first|rfl|trivial⟩
    case measure=>simp[intOf];omega
   .obtain rfl:j=n:=by omega
    go_wp2;go_ret2;exact⟨dO,Below.refl _ _⟩
 .have dO:Hid (xd (.returned (.tuple #[.string (strOf []),.bool false])) (gx D 1 n bs)):=I ⟨_,false,rfl,by
   unfold gx;rw[az (by decide),aB rfl,az h1];rfl⟩
  have d1:((bs.length:Int)==1)=false:=cz
  clear h1;generalize strOf D=jY at *;generalize strOf bs=vu at *;go_enter func23,ntmps23
  go_wp2;refine wp_loop_rounds 2 ?_;rw[rounds_succ];by_cases g6:0<n
  .have d0:decide ((0:Int)<n)=true:=cf;go_wp2;go_ret2;exact⟨dO,Below.refl _ _⟩
  .have d0:decide ((0:Int)<n)=false:=aU;go_wp2;go_ret2;exact⟨dO,Below.refl _ _⟩
theorem afW(n:Nat)(D bs:ae)(w:ah)(hl:bs.length<=1000)(au:∀x∈bs,x<256)(cH:D.length<=1000)(aA:n<=512) :
  Calls prog 23 #[.string (strOf bs),.string (strOf D),.int .i64 2,.int .i64 n] w λe w'=>xd e (gx D 2 n bs)/\av w w':=by
 have bB:=cy bs;have H1:=I (amO bs (n:Int) w hl au (by omega));have aJ:=Rl D n bs;cases aI:jg bs (n:Int)with
|none=>
  rw[aI]at H1 aJ;dsimp only at aJ;rw[aJ];clear aJ aI hl au cH aA;generalize strOf D=jY at *;generalize strOf bs=vu at *;go_enter func23,ntmps23
  go_wp2_with fail
  refine H1.out.mono ?_;rintro e aw ⟨rfl,aH⟩;unfold mK;go_wp2;go_ret2;exact⟨⟨[],false,rfl,rfl⟩,aH⟩
|some t=>
  obtain⟨L,j⟩:=t;have ar:=R3 bs n (L,j) au aI;dsimp only at ar;rw[aI]at H1 aJ;unfold mK at H1;dsimp only at aJ H1;have oM:((j:Int)==0)=false:=cz
  have dN:=I (λW=>aoO (bs.drop j) (n:Int) W (by rw[cB];omega) (jh au j) ⟨by omega,by omega⟩);have fG:=λW=>o2 bs j ar.2.2 W
  cases ap:iC (bs.drop j) (n:Int)with
 |none=>
   rw[ap]at dN aJ;dsimp only at aJ;rw[aJ];clear aJ ap aI hl au cH aA ar;generalize strOf L=YI at *;generalize strOf (bs.drop j)=Ow at *;generalize strOf D=jY at *;generalize strOf bs=vu at *;generalize bs.length=WV at *;go_enter func23,ntmps23
   go_wp2_with fail
   refine H1.out.mono ?_;rintro e aw ⟨rfl,aH⟩;have aN:=I aH;clear aH;go_wp2_with fail
   refine(dN.out _).mono ?_;rintro e aC ⟨ax,aJ⟩;obtain rfl:e=.returned (.tuple #[.slice none 0 0,.int .i64 0]):=ax;have bm:=b3 aN aJ;clear aJ;go_wp2;go_ret2;exact⟨⟨[],false,rfl,rfl⟩,bm⟩
 |some q=>
   obtain⟨l,i⟩:=q;have ay:=Oz (bs.drop j) n (l,i) ap;have iX:=aak l (YU (bs.drop j) n (l,i) ap);rw[ap]at dN aJ;rw[cB]at ay;dsimp only at ay aJ;have auz:((i:Int)==0)=false:=cz
   have hw:IntKind.i64.wrap ((j:Int)+i)=((j+i:Nat):Int):=by rw[IntWalk.i64_in _ (by omega)];omega
   by_cases pr:j+i=bs.length
   .have mX:IntKind.i64.wrap ((j:Int)+i)=(bs.length:Int):=by rw[hw,pr]
    have xG:=I (λW A c aj=>alv D L A c (l.map h9) (n:Int) n W (by omega) (by omega) (by rw[cQ];omega) ⟨by omega,by omega⟩ (.inr rfl) (by omega) iX (OU aj));have MX:=QY D L (l.map h9) n;have MZ:=QX D L (l.map h9) n;rw[cQ]at xG;generalize iG D L (l.map h9) n=Z at *;obtain⟨X,z⟩:=Z;dsimp only at aJ xG MX MZ;have awL:=cy X;have dO:Hid (xd (.returned (.tuple #[.string (strOf X),.bool (decide (z=0) && decide (X.length=n))])) (gx D 2 n bs)):=I ⟨X,_,rfl,by
     rw[aJ];by_cases aQ:z=0/\X.length=n
     .rw[aB ⟨pr,aQ.1,aQ.2⟩,aB (by simp[aQ.1,aQ.2])]
     .rw[az (λc=>aQ c.2),az (λc=>aQ (by simpa using c))]⟩
    clear aJ ap aI hl au cH ar ay iX hw pr;generalize strOf L=YI at *;generalize strOf (bs.drop j)=Ow at *;generalize strOf D=jY at *;generalize strOf bs=vu at *;generalize strOf X=kM at *;generalize gx D 2 n bs=at4 at *;generalize bs.length=WV at *;go_enter func23,ntmps23
    go_wp2_with fail
    refine H1.out.mono ?_;rintro e aw ⟨rfl,aH⟩;have aN:=I aH;clear aH;go_wp2_with fail
    refine(dN.out _).mono ?_;rintro e aC ⟨⟨A,c,rfl,aj⟩,aJ⟩;have bm:=b3 aN aJ;have fg:=I (xG.out aC A c aj);clear aJ aj;dsimp only;go_wp2_with fail
    refine fg.out.mono ?_;rintro e a6 ⟨rfl,bA⟩;have b6:=b3 bm bA;clear bA;by_cases aQ:z=0
    .subst aQ;have xW:((X.length:Int)==(n:Int))=decide (X.length=n):=by
      by_cases h:X.length=n
      .rw[h,bE rfl];simp
      .rw[bG h,beq_eq_false_iff_ne];omega
     have Kx:decide ((X.length:Int)=n)=decide (X.length=n):=decide_eq_decide.2 (by omega);have hend:=dO.out;rw[bE rfl,Bool.true_and]at hend;go_wp2;go_ret2;exact⟨hend,b6⟩
    .have ta:((z:Int)==0)=false:=cz
     have aho:decide ((z:Int)=0)=false:=aU;have hend:=dO.out;rw[bG aQ,Bool.false_and]at hend;go_wp2;go_ret2;exact⟨hend,b6⟩
   .rw[az (λc=>pr c.1)]at aJ;rw[aJ];have auA:(((j+i:Nat):Int)==(bs.length:Int))=false:=cz
    clear aJ ap aI hl au cH aA ar ay iX pr;generalize strOf L=YI at *;generalize strOf (bs.drop j)=Ow at *;generalize strOf D=jY at *;generalize strOf bs=vu at *;generalize bs.length=WV at *;generalize ((j+i:Nat):Int)=axa at *;go_enter func23,ntmps23
    go_wp2_with fail
    refine H1.out.mono ?_;rintro e aw ⟨rfl,aH⟩;have aN:=I aH;clear aH;go_wp2_with fail
    refine(dN.out _).mono ?_;rintro e aC ⟨⟨A,c,rfl,aj⟩,aJ⟩;have bm:=b3 aN aJ;clear aJ aj;dsimp only;go_wp2;go_ret2;exact⟨⟨[],false,rfl,rfl⟩,bm⟩
theorem ajx(bs:ae)(h:am.eb)(he:ip bs=some h):h.1<3/\0<h.2.2.2.2/\h.2.2.2.2<=bs.length:=by
 unfold ip at he;split at he
 .cases he
 .next k r=>
  split at he
  .cases he
  .next hk=>
   cases aE:qu r with
  |none=>rw[aE]at he;cases he
  |some t=>
    rw[aE]at he;injection he with he
    have h1:=(ZM r [] t aE).2;rw[<-he,bY];dsimp only;omega
theorem afX(k n:Nat)(D bs:ae)(w:ah)(hk:k<3)(hl:bs.length<=1000)(au:∀x∈bs,x<256)(cH:D.length<=1000)(aA:n<=512) :
  Calls prog 23 #[.string (strOf bs),.string (strOf D),.int .i64 k,.int .i64 n] w λe w'=>xd e (gx D k n bs)/\av w w':=by
 rcases(by omega:k=0\/k=1\/k=2)with rfl|rfl|rfl
 .exact afU n D bs w
 .exact afV n D bs w aA
 .exact afW n D bs w hl au cH aA
theorem afY(D bs:ae)(lim:Int)(w:ah)(hl:bs.length<=1000)(au:∀x∈bs,x<256)(cH:D.length<=1000)(hDlt:∀x∈D,x<256) :
  Calls prog 10 #[.string (strOf bs),.string (strOf D),.int .i64 lim] w λe w'=>e=.returned (.tuple #[.string (strOf (j5 D bs lim).1),.int .i64 ((j5 D bs lim).2:Int)])/\av w w':=by
 have hg:=I (Rn bs w (by omega) au);have abD:=I (λW k n at_ (hk:k<3) (aA:n<=512)=>afX k n D (bs.drop at_) W hk (by rw[cB];omega) (jh au at_) cH aA);have zj:=I (λk n at_ X (h:gx D k n (bs.drop at_)=some X)=>Rm hDlt (jh au at_) h);obtain⟨V,bW⟩:∃V,V=j5 D bs lim:=⟨_,rfl⟩;rw[<-bW];have oT:=ajx bs;have fG:=λi (ay:i<=bs.length) W=>o2 bs i ay W
 unfold j5 at bW;clear au cH hDlt;generalize strOf D=jY at *;cases aI:ip bs with
|none=>
  rw[aI]at hg bW;subst bW;have zp:Hid (Calls prog 11 #[.string (strOf bs)] w λe w'=>e=.returned (.tuple #[.agg #[.int .i64 0,.int .i64 0,.int .i64 0],.int .u64 0,.int .i64 0])/\av w w'):=I hg.out;clear aI oT fG hl;generalize strOf bs=vu at *;go_enter func10,ntmps10
  go_wp2_with fail
  refine zp.out.mono ?_;rintro e aw ⟨rfl,aH⟩;have pb:=I (λu=>aH.alloc aH.size u);clear aH;go_wp2;go_ret2;exact⟨rfl,pb.out _⟩
|some h=>
  obtain⟨k,aP,n,s,at_⟩:=h;obtain⟨hk,Lt,aV⟩:=oT _ aI;dsimp only at hk Lt aV;rw[aI]at hg bW;have zp:Hid (Calls prog 11 #[.string (strOf bs)] w λe w'=>e=.returned (.tuple #[.agg #[.int .i64 k,.int .i64 aP,.int .i64 n],.int .u64 s,.int .i64 at_])/\av w w'):=I hg.out;dsimp only at bW;have Cy:((at_:Int)==0)=false:=cz
  have hcut:=λW=>fG at_ aV W
  clear aI oT fG hl Lt aV;by_cases hbig:lim<(n:Int)\/512<n
  .rw[aB hbig]at bW;subst bW;have d1:decide (lim<(n:Int))=true\/(decide (lim<(n:Int))=false/\decide ((512:Int)<n)=true):=by
    by_cases h:lim<(n:Int)
    .exact .inl (bE h)
    .exact .inr ⟨bG h,bE (by omega)⟩
   clear hcut hbig;generalize strOf bs=vu at *;go_enter func10,ntmps10
   go_wp2_with fail
   refine zp.out.mono ?_;rintro e aw ⟨rfl,aH⟩;have pb:=I (λu=>aH.alloc aH.size u);clear aH;rcases d1 with d1|⟨d1,d2⟩
   .go_wp2;go_ret2;exact⟨rfl,pb.out _⟩
   .go_wp2;go_ret2;exact⟨rfl,pb.out _⟩
  .rw[az hbig]at bW;have d1:decide (lim<(n:Int))=false:=aU;have d2:decide ((512:Int)<n)=false:=aU;have bj:=I (λW=>abD.out W k n at_ hk (by omega));have cc:=I (λX h=>zj.out k n at_ X h);have uk:=I (λX (h:gx D k n (bs.drop at_)=some X)=>dl (Nat.le_of_eq (Q9 h)) (by omega:n<=512));clear hbig hk;generalize strOf (bs.drop at_)=Ow at *;generalize strOf bs=vu at *;generalize gx D k n (bs.drop at_)=O at *;go_enter func10,ntmps10
   go_wp2_with fail
   refine zp.out.mono ?_;rintro e aw ⟨rfl,aH⟩;have hrow:Row (aw.alloc (.cells #[.int .i64 k,.int .i64 aP,.int .i64 n] 30)) aw.heap.size 30 [.int .i64 k,.int .i64 aP,.int .i64 n]:=Row.new aw 30 [.int .i64 k,.int .i64 aP,.int .i64 n];have dr:=I hrow;have e6:=I (aH.alloc aH.size (.cells #[.int .i64 k,.int .i64 aP,.int .i64 n] 30));clear aH hrow;go_upto_region 6 with fail
   generalize aw.alloc (.cells #[.int .i64 k,.int .i64 aP,.int .i64 n] 30)=dK at *;have ou:=I (show dK.cell? ⟨aw.heap.size,0,none⟩=some (.int .i64 k)from dr.out.cell 0);have ig:=I (show dK.cell? ⟨aw.heap.size,2,none⟩=some (.int .i64 n)from dr.out.cell 2);refine wp_region_held_drew (S:=(λW:ah=>W.cell? ⟨aw.heap.size,0,none⟩=some (.int .i64 k)/\W.cell? ⟨aw.heap.size,2,none⟩=some (.int .i64 n))) (by kernel_rfl) (by exact⟨ou,ig⟩) (λhHeld=>?_);refine bJ 0 {dst:=some 31,op:=.move (.tmp 0),type:=9,pos:= "ref.go:69",after:=#[],guard:=none} ?_ rfl (Or.inl ⟨by rfl,?_⟩) ?_;rotate_left
   ·(intro w hSw;(try dsimp only at hSw);go_simp;(try with_reducible rfl))
   try simp only[bf]
   refine bJ 1 {dst:=some 32,op:=.move (.tmp 10),type:=3,pos:= "ref.go:69",after:=#[],guard:=none} ?_ rfl (Or.inl ⟨by rfl,?_⟩) ?_;rotate_left
   ·(intro w hSw;(try dsimp only at hSw);go_simp;(try with_reducible rfl))
   try simp only[bf]
   refine bJ 2 {dst:=some 33,op:=.slice 9 (.tmp 31) (some (.tmp 32)) none none,type:=9,pos:= "ref.go:69",after:=#[{on:=0,ground:=.data},{on:=1,ground:=.data}],guard:=none} ?_ rfl (Or.inl ⟨by rfl,?_⟩) ?_;rotate_left
   ·(intro w hSw;(try dsimp only at hSw);go_simp;(try with_reducible rfl))
   try simp only[bf]
   refine bJ 3 {dst:=some 34,op:=.move (.tmp 1),type:=9,pos:= "ref.go:69",after:=#[],guard:=none} ?_ rfl (Or.inl ⟨by rfl,?_⟩) ?_;rotate_left
   ·(intro w hSw;(try dsimp only at hSw);go_simp;(try with_reducible rfl))
   try simp only[bf]
   refine bJ 4 {dst:=some 35,op:=.indexAddr 30 (.tmp 8) (.const (.int .i64 0)),type:=0,pos:= "ref.go:69",after:=#[],guard:=none} ?_ rfl (Or.inl ⟨by rfl,?_⟩) ?_;rotate_left
   ·(intro w hSw;(try dsimp only at hSw);go_simp;(try with_reducible rfl))
   try simp only[bf]
   refine bJ 5 {dst:=some 36,op:=.load 3 (.tmp 35),type:=3,pos:= "ref.go:69",after:=#[{on:=4,ground:=.data}],guard:=none} ?_ rfl (Or.inl ⟨by rfl,?_⟩) ?_;rotate_left
   ·(intro w hSw;(try dsimp only at hSw);go_simp;(try with_reducible rfl))
   try simp only[bf]
   refine bJ 6 {dst:=some 37,op:=.indexAddr 30 (.tmp 8) (.const (.int .i64 2)),type:=0,pos:= "ref.go:69",after:=#[],guard:=none} ?_ rfl (Or.inl ⟨by rfl,?_⟩) ?_;rotate_left
   ·(intro w hSw;(try dsimp only at hSw);go_simp;(try with_reducible rfl))
   try simp only[bf]
   refine bJ 7 {dst:=some 38,op:=.load 3 (.tmp 37),type:=3,pos:= "ref.go:69",after:=#[{on:=6,ground:=.data}],guard:=none} ?_ rfl (Or.inl ⟨by rfl,?_⟩) ?_;rotate_left
   ·(intro w hSw;(try dsimp only at hSw);go_simp;(try with_reducible rfl))
   try simp only[bf]
   refine hd 8 {dst:=some 39,op:=.call {callee:=.value (.func 23),args:=#[.tmp 33,.tmp 34,.tmp 36,.tmp 38],argTypes:=#[9,9,3,3]},type:=44,pos:= "ref.go:69",after:=#[{on:=2,ground:=.data},{on:=3,ground:=.data},{on:=5,ground:=.data},{on:=7,ground:=.data}],guard:=none} rfl (λK hK=>?_);go_simp
   (go_at_call 23;refine(bj.out _).mono ?_;rintro e a6 ⟨⟨x,ok,rfl,he⟩,bA⟩;have eb:=I (e6.out.drew.trans (bA.mono e6.out.drew.size));have pR:=I (And.intro ((bA.cell (p:=⟨aw.heap.size,0,none⟩) (World.block_lt_of_cell? _ _ ou)).trans ou) ((bA.cell (p:=⟨aw.heap.size,2,none⟩) (World.block_lt_of_cell? _ _ ig)).trans ig));clear bA)
   go_simp;refine hK.out _ _ (by exact pR) (λhHeld=>?_);clear hK K
   try simp only[bf]
   refine bJ 9 {dst:=some 30,op:=.move (.tmp 39),type:=44,pos:= "ref.go:69",after:=#[{on:=8,ground:=.data}],guard:=none} ?_ rfl (Or.inl ⟨by rfl,?_⟩) ?_;rotate_left
   ·(intro w hSw;(try dsimp only at hSw);go_simp;(try with_reducible rfl))
   try simp only[bf]
   refine bJ 10 {dst:=some 40,op:=.extract (.tmp 30) 0,type:=9,pos:= "ref.go:69",after:=#[{on:=9,ground:=.data}],guard:=none} ?_ rfl (Or.inl ⟨by rfl,?_⟩) ?_;rotate_left
   ·(intro w hSw;(try dsimp only at hSw);go_simp;(try with_reducible rfl))
   try simp only[bf]
   refine bJ 11 {dst:=some 41,op:=.extract (.tmp 30) 1,type:=4,pos:= "ref.go:69",after:=#[{on:=9,ground:=.data},{on:=12,ground:=.gcOnly Go.Departure.lateStores}],guard:=none} ?_ rfl (Or.inl ⟨by rfl,?_⟩) ?_;rotate_left
   ·(intro w hSw;(try dsimp only at hSw);go_simp;(try with_reducible rfl))
   try simp only[bf]
   refine bJ 12 {dst:=some 11,op:=.assign (.tmp 40),type:=9,pos:= "ref.go:69",after:=#[{on:=10,ground:=.data},{on:=8,ground:=.chain},{on:=0,ground:=.phase},{on:=1,ground:=.phase},{on:=2,ground:=.phase},{on:=3,ground:=.phase},{on:=4,ground:=.phase},{on:=5,ground:=.phase},{on:=6,ground:=.phase},{on:=7,ground:=.phase},{on:=8,ground:=.phase},{on:=9,ground:=.phase},{on:=10,ground:=.phase},{on:=11,ground:=.textOnly Go.Departure.lateStores}],guard:=none} ?_ rfl (Or.inl ⟨by rfl,?_⟩) ?_;rotate_left
   ·(intro w hSw;(try dsimp only at hSw);go_simp;(try with_reducible rfl))
   try simp only[bf]
   refine bJ 13 {dst:=some 12,op:=.assign (.tmp 41),type:=4,pos:= "ref.go:69",after:=#[{on:=11,ground:=.data},{on:=12,ground:=.chain},{on:=0,ground:=.phase},{on:=1,ground:=.phase},{on:=2,ground:=.phase},{on:=3,ground:=.phase},{on:=4,ground:=.phase},{on:=5,ground:=.phase},{on:=6,ground:=.phase},{on:=7,ground:=.phase},{on:=8,ground:=.phase},{on:=9,ground:=.phase},{on:=10,ground:=.phase},{on:=11,ground:=.phase},{on:=12,ground:=.phase}],guard:=none} ?_ rfl (Or.inl ⟨by rfl,?_⟩) ?_;rotate_left
   ·(intro w hSw;(try dsimp only at hSw);go_simp;(try with_reducible rfl))
   try simp only[bf]
   refine wpAnyH_done (by kernel_rfl) ?_ _;cases ok with
  |false=>
    simp only[Bool.false_eq_true,if_false]at he;subst he;subst bW;clear hcut;go_wp2;go_ret2;exact⟨rfl,eb⟩
  |true=>
    simp only[if_true]at he;subst he;dsimp only at bW;have xw:=I (λW=>SF x W (by have:=uk.out x rfl;omega) (cc.out x rfl));clear hcut;go_wp2_with fail
    refine(xw.out _).mono ?_;rintro e bH ⟨rfl,rfl⟩;by_cases hsum:am.sumOf x=s
    .rw[aB hsum]at bW;subst bW;rw[hsum];clear hsum;go_wp2;go_ret2;exact⟨rfl,eb⟩
    .rw[az hsum]at bW;subst bW;have ta:((am.sumOf x:Int)==(s:Int))=false:=cz
     generalize am.sumOf x=y at *;go_wp2;go_ret2;exact⟨rfl,eb⟩
def A7(a b:ByteArray):b1:=[.string a,.string b]
theorem afc(X D:ae)(aP v:Int)(w:ah)(ck:X.length<=9223372036854775807)(cH:D.length<=9223372036854775807)(h:600<X.length\/300<D.length) :
  Calls prog 3 #[.agg #[.string (strOf X),.string (strOf D)],.int .i64 aP,.int .i64 v] w λe w'=>e=.returned (.bool true)/\av w w':=by
 have jy:=(Below.refl w.heap.size w).alloc bl (.cells #[.string (strOf X),.string (strOf D)] 22);have hrow:Row (w.alloc (.cells #[.string (strOf X),.string (strOf D)] 22)) w.heap.size 22 (A7 (strOf X) (strOf D)):=Row.new w 22 (A7 (strOf X) (strOf D));have Bv:=I (λW=>JY W);have hM:=cy X;have gd:=cy D;have e6:=I jy;have dr:=I hrow;clear jy hrow;generalize strOf X=kM at *;generalize strOf D=jY at *;generalize X.length=m at *;generalize D.length=n at *;go_enter func3,ntmps3
 go_wp2_with fail
 refine(Bv.out _).mono ?_;rintro e aw ⟨rfl,aH⟩;have bm:=b3 e6 aH;have aj:=dr.out.keep (aH.block _ dr.out.lt);have ou:=I (show aw.cell? ⟨w.heap.size,0,none⟩=some (.string kM)from aj.cell 0);have kQ:=I (show aw.cell? ⟨w.heap.size,1,none⟩=some (.string jY)from aj.cell 1);clear aH aj;go_upto_region 3 with fail
 refine wp_region_held_drew (S:=(λW:ah=>W.cell? ⟨w.heap.size,0,none⟩=some (.string kM)/\W.cell? ⟨w.heap.size,1,none⟩=some (.string jY))) (by kernel_rfl) (by exact⟨ou,kQ⟩) (λhHeld=>?_);refine bJ 0 {dst:=some 20,op:=.indexAddr 22 (.tmp 3) (.const (.int .i64 0)),type:=0,pos:= "law.go:25",after:=#[],guard:=none} ?_ rfl (Or.inl ⟨by rfl,?_⟩) ?_;rotate_left
 ·(intro w hSw;(try dsimp only at hSw);go_simp;(try with_reducible rfl))
 try simp only[bf]
 refine bJ 1 {dst:=some 21,op:=.load 9 (.tmp 20),type:=9,pos:= "law.go:25",after:=#[{on:=0,ground:=.data}],guard:=none} ?_ rfl (Or.inl ⟨by rfl,?_⟩) ?_;rotate_left
 ·(intro w hSw;(try dsimp only at hSw);go_simp;(try with_reducible rfl))
 try simp only[bf]
 refine bJ 2 {dst:=some 22,op:=.indexAddr 22 (.tmp 3) (.const (.int .i64 1)),type:=0,pos:= "law.go:25",after:=#[{on:=4,ground:=.gcOnly Go.Departure.lateStores}],guard:=none} ?_ rfl (Or.inl ⟨by rfl,?_⟩) ?_;rotate_left
 ·(intro w hSw;(try dsimp only at hSw);go_simp;(try with_reducible rfl))
 try simp only[bf]
 refine bJ 3 {dst:=some 23,op:=.load 9 (.tmp 22),type:=9,pos:= "law.go:25",after:=#[{on:=2,ground:=.data},{on:=4,ground:=.gcOnly Go.Departure.lateStores}],guard:=none} ?_ rfl (Or.inl ⟨by rfl,?_⟩) ?_;rotate_left
 ·(intro w hSw;(try dsimp only at hSw);go_simp;(try with_reducible rfl))
 try simp only[bf]
 refine bJ 4 {dst:=some 7,op:=.assign (.tmp 21),type:=9,pos:= "law.go:25",after:=#[{on:=1,ground:=.data},{on:=0,ground:=.phase},{on:=1,ground:=.phase},{on:=2,ground:=.textOnly Go.Departure.lateStores},{on:=3,ground:=.textOnly Go.Departure.lateStores}],guard:=none} ?_ rfl (Or.inl ⟨by rfl,?_⟩) ?_;rotate_left
 ·(intro w hSw;(try dsimp only at hSw);go_simp;(try with_reducible rfl))
 try simp only[bf]
 refine bJ 5 {dst:=some 8,op:=.assign (.tmp 23),type:=9,pos:= "law.go:25",after:=#[{on:=3,ground:=.data},{on:=4,ground:=.chain},{on:=0,ground:=.phase},{on:=1,ground:=.phase},{on:=2,ground:=.phase},{on:=3,ground:=.phase},{on:=4,ground:=.phase}],guard:=none} ?_ rfl (Or.inl ⟨by rfl,?_⟩) ?_;rotate_left
 ·(intro w hSw;(try dsimp only at hSw);go_simp;(try with_reducible rfl))
 try simp only[bf]
 refine wpAnyH_done (by kernel_rfl) ?_ _;have pb:=I bm.out.drew;by_cases h1:600<m
 .have d1:decide ((600:Int)<m)=true:=cf;clear h;go_wp2;go_ret;exact⟨rfl,pb⟩
 .have d1:decide ((600:Int)<m)=false:=aU;have d2:decide ((300:Int)<n)=true:=cf;clear h;go_wp2;go_ret;exact⟨rfl,pb⟩
theorem afa(X D:ae)(aP v:Int)(w:ah)(ck:X.length<=600)(cH:D.length<=300)(h:(512<X.length\/256<D.length)\/(X.length<=512/\D.length<=256/\(aP<0\/1073741824<aP))) :
  Calls prog 3 #[.agg #[.string (strOf X),.string (strOf D)],.int .i64 aP,.int .i64 v] w λe w'=>e=.returned (.bool true)/\av w w':=by
 have jy:=(Below.refl w.heap.size w).alloc bl (.cells #[.string (strOf X),.string (strOf D)] 22);have hrow:Row (w.alloc (.cells #[.string (strOf X),.string (strOf D)] 22)) w.heap.size 22 (A7 (strOf X) (strOf D)):=Row.new w 22 (A7 (strOf X) (strOf D));have Bv:=I (λW=>JY W);have hM:=cy X;have gd:=cy D;have e6:=I jy;have dr:=I hrow;have gj:=I (λW (h:512<X.length\/256<D.length)=>afo D X aP v W h);have iE:=I (λW (h:X.length<=512/\D.length<=256/\(aP<0\/1073741824<aP))=>afn D X aP v W h.2.1 h.1 h.2.2);rw[Zs]at gj iE;have d1:decide ((600:Int)<(X.length:Int))=false:=aU;have d2:decide ((300:Int)<(D.length:Int))=false:=aU;clear jy hrow;generalize strOf X=kM at *;generalize strOf D=jY at *;generalize X.length=m at *;generalize D.length=n at *;go_enter func3,ntmps3
 go_wp2_with fail
 refine(Bv.out _).mono ?_;rintro e aw ⟨rfl,aH⟩;have bm:=b3 e6 aH;have aj:=dr.out.keep (aH.block _ dr.out.lt);have ou:=I (show aw.cell? ⟨w.heap.size,0,none⟩=some (.string kM)from aj.cell 0);have kQ:=I (show aw.cell? ⟨w.heap.size,1,none⟩=some (.string jY)from aj.cell 1);clear aH aj;go_upto_region 3 with fail
 refine wp_region_held_drew (S:=(λW:ah=>W.cell? ⟨w.heap.size,0,none⟩=some (.string kM)/\W.cell? ⟨w.heap.size,1,none⟩=some (.string jY))) (by kernel_rfl) (by exact⟨ou,kQ⟩) (λhHeld=>?_);refine bJ 0 {dst:=some 20,op:=.indexAddr 22 (.tmp 3) (.const (.int .i64 0)),type:=0,pos:= "law.go:25",after:=#[],guard:=none} ?_ rfl (Or.inl ⟨by rfl,?_⟩) ?_;rotate_left
 ·(intro w hSw;(try dsimp only at hSw);go_simp;(try with_reducible rfl))
 try simp only[bf]
 refine bJ 1 {dst:=some 21,op:=.load 9 (.tmp 20),type:=9,pos:= "law.go:25",after:=#[{on:=0,ground:=.data}],guard:=none} ?_ rfl (Or.inl ⟨by rfl,?_⟩) ?_;rotate_left
 ·(intro w hSw;(try dsimp only at hSw);go_simp;(try with_reducible rfl))
 try simp only[bf]
 refine bJ 2 {dst:=some 22,op:=.indexAddr 22 (.tmp 3) (.const (.int .i64 1)),type:=0,pos:= "law.go:25",after:=#[{on:=4,ground:=.gcOnly Go.Departure.lateStores}],guard:=none} ?_ rfl (Or.inl ⟨by rfl,?_⟩) ?_;rotate_left
 ·(intro w hSw;(try dsimp only at hSw);go_simp;(try with_reducible rfl))
 try simp only[bf]
 refine bJ 3 {dst:=some 23,op:=.load 9 (.tmp 22),type:=9,pos:= "law.go:25",after:=#[{on:=2,ground:=.data},{on:=4,ground:=.gcOnly Go.Departure.lateStores}],guard:=none} ?_ rfl (Or.inl ⟨by rfl,?_⟩) ?_;rotate_left
 ·(intro w hSw;(try dsimp only at hSw);go_simp;(try with_reducible rfl))
 try simp only[bf]
 refine bJ 4 {dst:=some 7,op:=.assign (.tmp 21),type:=9,pos:= "law.go:25",after:=#[{on:=1,ground:=.data},{on:=0,ground:=.phase},{on:=1,ground:=.phase},{on:=2,ground:=.textOnly Go.Departure.lateStores},{on:=3,ground:=.textOnly Go.Departure.lateStores}],guard:=none} ?_ rfl (Or.inl ⟨by rfl,?_⟩) ?_;rotate_left
 ·(intro w hSw;(try dsimp only at hSw);go_simp;(try with_reducible rfl))
 try simp only[bf]
 refine bJ 5 {dst:=some 8,op:=.assign (.tmp 23),type:=9,pos:= "law.go:25",after:=#[{on:=3,ground:=.data},{on:=4,ground:=.chain},{on:=0,ground:=.phase},{on:=1,ground:=.phase},{on:=2,ground:=.phase},{on:=3,ground:=.phase},{on:=4,ground:=.phase}],guard:=none} ?_ rfl (Or.inl ⟨by rfl,?_⟩) ?_;rotate_left
 ·(intro w hSw;(try dsimp only at hSw);go_simp;(try with_reducible rfl))
 try simp only[bf]
 refine wpAnyH_done (by kernel_rfl) ?_ _;have pb:=I bm.out.drew;rcases h with h|h
 .have ox:=I (λW=>gj.out W h);go_wp2_with fail
  refine(ox.out _).mono ?_;rintro e aC ⟨rfl,aJ⟩;have b6:=b3 pb aJ;clear aJ;by_cases h1:512<m
  .have d3:decide ((512:Int)<m)=true:=cf;clear h;go_wp2;go_ret;exact⟨rfl,b6⟩
  .have d3:decide ((512:Int)<m)=false:=aU;have d4:decide ((256:Int)<n)=true:=cf;clear h;go_wp2;go_ret;exact⟨rfl,b6⟩
 .have Ix:=I (λW=>iE.out W h);obtain⟨hm,aA,ev⟩:=h;have d3:decide ((512:Int)<m)=false:=aU;have d4:decide ((256:Int)<n)=false:=aU;go_wp2_with fail
  refine(Ix.out _).mono ?_;rintro e aC ⟨rfl,aJ⟩;have b6:=b3 pb aJ;clear aJ;by_cases h1:aP<0
  .have d5:decide (aP<0)=true:=bE h1;clear ev;go_wp2;go_ret;exact⟨rfl,b6⟩
  .have d5:decide (aP<0)=false:=bG h1;have d6:decide (1073741824<aP)=true:=cf;clear ev;go_wp2;go_ret;exact⟨rfl,b6⟩
theorem afb(X D:ae)(aP:Nat)(v:Int)(w:ah)(ck:X.length<=512)(cH:D.length<=256)(hXlt:∀x∈X,x<256)(hDlt:∀x∈D,x<256)(ev:aP<=1073741824)(aD:ec v) :
  Calls prog 3 #[.agg #[.string (strOf X),.string (strOf D)],.int .i64 aP,.int .i64 v] w λe w'=>e=.returned (.bool true)/\av w w':=by
 have jy:=(Below.refl w.heap.size w).alloc bl (.cells #[.string (strOf X),.string (strOf D)] 22);have hrow:Row (w.alloc (.cells #[.string (strOf X),.string (strOf D)] 22)) w.heap.size 22 (A7 (strOf X) (strOf D)):=Row.new w 22 (A7 (strOf X) (strOf D));have Bv:=I (λW=>JY W);have hM:=cy X;have gd:=cy D;have e6:=I jy;have dr:=I hrow;have d1:decide ((600:Int)<(X.length:Int))=false:=aU;have d2:decide ((300:Int)<(D.length:Int))=false:=aU;have d3:decide ((512:Int)<(X.length:Int))=false:=aU;have d4:decide ((256:Int)<(D.length:Int))=false:=aU;have d5:decide ((aP:Int)<0)=false:=aU;have d6:decide ((1073741824:Int)<aP)=false:=aU;have BJ:=I (λW=>J0 D X aP v W cH ck hDlt hXlt ev aD);have vK:=I (λW S (aL:vE D X aP S)=>Q8 aL D (X.length:Int) W ck (by omega) hDlt);have ep:=I (λW S (hl:S.length<=1000) (au:∀x∈S,x<256)=>afY D S (X.length:Int) W hl au (by omega) hDlt);have ub:=I (λW S (hl:S.length<=1000000) (au:∀x∈S,x<256)=>Rn S W hl au);have ng:=I (λW=>af5 X aP W (by omega) hXlt ev);have GF:=cy (fF 0 aP X++X);have aiX:((strOf X).toList==(strOf X).toList)=true:=by simp
 have aw0:IntKind.i64.wrap ((X.length:Int)+16)=(X.length:Int)+16:=by rw[IntWalk.i64_in _ (by omega)]
 have auy:((aP:Int)==(aP:Int))=true:=by simp
 have auN:((X.length:Int)==(X.length:Int))=true:=by simp
 clear jy hrow hXlt hDlt aD cH ev;generalize cK:strOf X=kM at *;have adR:=I cK;clear cK;generalize strOf D=jY at *;generalize strOf (fF 0 aP X++X)=axv at *;go_enter func3,ntmps3
 go_wp2_with fail
 refine(Bv.out _).mono ?_;rintro e aw ⟨rfl,aH⟩;have bm:=b3 e6 aH;have aj:=dr.out.keep (aH.block _ dr.out.lt);have ou:=I (show aw.cell? ⟨w.heap.size,0,none⟩=some (.string kM)from aj.cell 0);have kQ:=I (show aw.cell? ⟨w.heap.size,1,none⟩=some (.string jY)from aj.cell 1);clear aH aj;go_upto_region 3 with fail
 refine wp_region_held_drew (S:=(λW:ah=>W.cell? ⟨w.heap.size,0,none⟩=some (.string kM)/\W.cell? ⟨w.heap.size,1,none⟩=some (.string jY))) (by kernel_rfl) (by exact⟨ou,kQ⟩) (λhHeld=>?_);refine bJ 0 {dst:=some 20,op:=.indexAddr 22 (.tmp 3) (.const (.int .i64 0)),type:=0,pos:= "law.go:25",after:=#[],guard:=none} ?_ rfl (Or.inl ⟨by rfl,?_⟩) ?_;rotate_left
 ·(intro w hSw;(try dsimp only at hSw);go_simp;(try with_reducible rfl))
 try simp only[bf]
 refine bJ 1 {dst:=some 21,op:=.load 9 (.tmp 20),type:=9,pos:= "law.go:25",after:=#[{on:=0,ground:=.data}],guard:=none} ?_ rfl (Or.inl ⟨by rfl,?_⟩) ?_;rotate_left
 ·(intro w hSw;(try dsimp only at hSw);go_simp;(try with_reducible rfl))
 try simp only[bf]
 refine bJ 2 {dst:=some 22,op:=.indexAddr 22 (.tmp 3) (.const (.int .i64 1)),type:=0,pos:= "law.go:25",after:=#[{on:=4,ground:=.gcOnly Go.Departure.lateStores}],guard:=none} ?_ rfl (Or.inl ⟨by rfl,?_⟩) ?_;rotate_left
 ·(intro w hSw;(try dsimp only at hSw);go_simp;(try with_reducible rfl))
 try simp only[bf]
 refine bJ 3 {dst:=some 23,op:=.load 9 (.tmp 22),type:=9,pos:= "law.go:25",after:=#[{on:=2,ground:=.data},{on:=4,ground:=.gcOnly Go.Departure.lateStores}],guard:=none} ?_ rfl (Or.inl ⟨by rfl,?_⟩) ?_;rotate_left
 ·(intro w hSw;(try dsimp only at hSw);go_simp;(try with_reducible rfl))
 try simp only[bf]
 refine bJ 4 {dst:=some 7,op:=.assign (.tmp 21),type:=9,pos:= "law.go:25",after:=#[{on:=1,ground:=.data},{on:=0,ground:=.phase},{on:=1,ground:=.phase},{on:=2,ground:=.textOnly Go.Departure.lateStores},{on:=3,ground:=.textOnly Go.Departure.lateStores}],guard:=none} ?_ rfl (Or.inl ⟨by rfl,?_⟩) ?_;rotate_left
 ·(intro w hSw;(try dsimp only at hSw);go_simp;(try with_reducible rfl))
 try simp only[bf]
 refine bJ 5 {dst:=some 8,op:=.assign (.tmp 23),type:=9,pos:= "law.go:25",after:=#[{on:=3,ground:=.data},{on:=4,ground:=.chain},{on:=0,ground:=.phase},{on:=1,ground:=.phase},{on:=2,ground:=.phase},{on:=3,ground:=.phase},{on:=4,ground:=.phase}],guard:=none} ?_ rfl (Or.inl ⟨by rfl,?_⟩) ?_;rotate_left
 ·(intro w hSw;(try dsimp only at hSw);go_simp;(try with_reducible rfl))
 try simp only[bf]
 refine wpAnyH_done (by kernel_rfl) ?_ _;have pb:=I bm.out.drew;go_wp2_with fail
 refine(BJ.out _).mono ?_;rintro e aC ⟨⟨S,aL,rfl⟩,aJ⟩;have b6:=b3 pb aJ;have kb:=aL.len;have yt:=aL.plain;have awF:=cy S;have aI:=λW=>vK.out W S aL
 have bt:=λW=>ep.out W S (by omega) aL.lt
 rw[aL.yes _ (Int.le_refl _)]at aI bt;dsimp only at aI bt;rw[adR.out]at aI bt;have hh:=λW=>ub.out W S (by omega) aL.lt
 obtain⟨k,a,aV,hk⟩:=aL.head;rw[hk]at hh;have hg:Hid (∀W,Calls prog 11 #[.string (strOf S)] W λe w'=>e=.returned (.tuple #[.agg #[.int .i64 k,.int .i64 aP,.int .i64 (X.length:Int)],.int .u64 (am.sumOf X),.int .i64 a])/\av W w'):=I hh;have fC:=I aI;have bj:=I bt;have d7:decide ((0:Int)<a)=true:=cf;have aut:decide (0<a)=true:=bE aV;have auu:decide (S.length<=X.length+16)=true:=bE kb;have d8:decide ((S.length:Int)<=(X.length:Int)+16)=true:=cf;have d9:decide ((S.length:Int)<=((fF 0 aP X++X).length:Int))=true:=cf;have auv:decide (S.length<=(fF 0 aP X++X).length)=true:=bE yt;clear aJ aI bt hh hk aL;generalize strOf S=YL at *;generalize (fF 0 aP X++X).length=axe at *;generalize am.sumOf X=y at *;go_wp2_with fail
 refine(fC.out _).mono ?_;rintro e a6 ⟨rfl,bA⟩;have dt:=b3 b6 bA;clear bA;go_wp2_with fail
 refine(bj.out _).mono ?_;rintro e bH ⟨rfl,bc⟩;have dX:=b3 dt bc;clear bc;go_wp2_with fail
 refine(hg.out _).mono ?_;rintro e dp ⟨rfl,cL⟩;have hrow:Row (dp.alloc (.cells #[.int .i64 k,.int .i64 aP,.int .i64 (X.length:Int)] 30)) dp.heap.size 30 [.int .i64 k,.int .i64 aP,.int .i64 (X.length:Int)]:=Row.new dp 30 [.int .i64 k,.int .i64 aP,.int .i64 (X.length:Int)];have c1:=hrow.cell 1;have c2:=hrow.cell 2;simp only[dH,dJ]at c1 c2;have kf:=I ((dX.out.trans (cL.mono dX.out.size)).alloc (dX.out.trans (cL.mono dX.out.size)).size (.cells #[.int .i64 k,.int .i64 aP,.int .i64 (X.length:Int)] 30));clear cL hrow;go_wp2_with fail
 refine(ng.out _).mono ?_;rintro e dB ⟨rfl,gA⟩;have ic:=b3 kf gA;clear gA c1 c2;go_wp2;go_ret;exact⟨rfl,ic⟩
end Go.Proofs.YtgiicohbigiapaaGreat
