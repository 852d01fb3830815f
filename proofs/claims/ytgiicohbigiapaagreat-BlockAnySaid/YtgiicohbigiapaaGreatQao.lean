/- Contracts. -/
import Derived.Test.YtgiicohbigiapaaGreatQal
import Derived.Shelf.SlSortCmp.QuietGrown
import Derived.Lib.AppendZerosOnto
import Derived.Test.YtgiicohbigiapaaGreatQz1
import Derived.Test.YtgiicohbigiapaaGreatQz0
set_option maxHeartbeats 4000000
set_option maxRecDepth 100000
open Go.Proofs.Tryz Go.Proofs.YtgiicohbigiapaaGreat.ao List Nat Option
namespace Go.Proofs.YtgiicohbigiapaaGreat
open Go.RowKit Go.Sort
abbrev bn:=Nat×(Nat×Nat)×ae
def zO(t:bn):Value:=.int .i64 (t.1:Int)
def pX(t:bn):Value:=.slice (some ⟨t.2.1.1,0,none⟩) t.2.2.length t.2.1.2
def hs:bn:=(0,(0,0),[])
def cn(l:List bn):b3:=hT zO pX l
theorem xj(w:ai)(n:Nat)(os:Array Obj):Below w.heap.size w (grow (w.drewN n) os):=by
 refine⟨rfl,rfl,rfl,?_,λk hk=>?_⟩
 .simp[grow]
 .exact heap_grow_old (w.drewN n) os hk
theorem asr(a b:Nat)(u v:Value)(aS:a<=4000000000)(ak:b<=4000000000)(w:ai) :
  Calls prog 205 #[.agg #[.int .i64 a,u],.agg #[.int .i64 b,v]] w λe w'=>e=.returned (.int .i64 ((a:Int)-b))/\∃q os,w'=grow (w.drewN q) os:=by
 go_enter func205,ntmps205
 go_wp2;go_ret;exact⟨rfl,0,#[.cells #[.int .i64 a,u] 231,.cells #[.int .i64 b,v] 231],by rw[alloc_eq_grow,alloc_eq_grow,grow_grow];rfl⟩
section
variable {α:Type}
theorem abx(d x y:α)(P Q R:List α):swp d (P++x :: (Q++y :: R)) P.length (P.length+1+Q.length)=P++y :: (Q++x :: R):=by
 unfold swp;have aF:(P++x :: (Q++y :: R))[P.length+1+Q.length]?=some y:=by
  rw[jk (by omega),show P.length+1+Q.length-P.length=Q.length+1 by omega,dU,jk (by omega),Nat.sub_self];rfl
 have e2:(P++x :: (Q++y :: R))[P.length]?=some x:=by
  rw[jk (by omega),Nat.sub_self];rfl
 rw[aF,e2,b6,b6,set_append_right _ _ (by omega),Nat.sub_self,set_cons_zero,set_append_right _ _ (by omega),show P.length+1+Q.length-P.length=Q.length+1 by omega,set_cons_succ,
  set_append_right _ _ (by omega),Nat.sub_self,set_cons_zero]
theorem PW(d x y:α)(P R:List α):swp d (P++x :: y :: R) P.length (P.length+1)=P++y :: x :: R:=abx d x y P [] R
theorem abw(d:α)(l:List α)(i j:Nat)(ax:i<l.length)(ar:j<l.length):swp d l i j=swp d l j i:=by
 apply ext_getElem?
 intro k;unfold swp;rw[getElem?_set,getElem?_set,getElem?_set,getElem?_set,length_set,length_set];by_cases h1:j=k
 .subst h1;by_cases af:i=j
  .subst af;rfl
  .simp[af,ar]
 .by_cases af:i=k
  .subst af;simp[h1,ax]
  .simp[h1,af]
end
def cF(w:ai)(g:Nat)(L:List bn)(post:b3):Prop:=Row w g 231 (cn L++post)
theorem cF.below{w w':ai}{g:Nat}{L:List bn}{post:b3}(h:cF w g L post)(ak:Below w.heap.size w w'):cF w' g L post:=iL h ak
theorem Iy{w:ai}{g:Nat}{L:List bn}{post:b3}(aj:cF w g L post)(i j:Nat)(ax:i<L.length)(ar:j<L.length) :
  ∃(a b:Int) (g1 b4 c1 g2 bT c2:Nat),(w.cell? ⟨g,i*2,none⟩=some (.int .i64 a)/\w.cell? ⟨g,i*2+1,none⟩=some (.slice (some ⟨g1,0,none⟩) b4 c1))/\(w.cell? ⟨g,j*2,none⟩=some (.int .i64 b)/\w.cell? ⟨g,j*2+1,none⟩=some (.slice (some ⟨g2,0,none⟩) bT c2)) /\
   (w.frozen? ⟨g,i*2,none⟩=false/\w.frozen? ⟨g,i*2+1,none⟩=false/\w.frozen? ⟨g,j*2,none⟩=false/\w.frozen? ⟨g,j*2+1,none⟩=false) /\
   (∃v1,(w.setCell ⟨g,i*2,none⟩ (.int .i64 b)).cell? ⟨g,j*2,none⟩=some v1)/\(∃v2,((w.setCell ⟨g,i*2,none⟩ (.int .i64 b)).setCell ⟨g,i*2+1,none⟩ (.slice (some ⟨g2,0,none⟩) bT c2)).cell? ⟨g,j*2+1,none⟩=some v2) /\
   cF ((((w.setCell ⟨g,i*2,none⟩ (.int .i64 b)).setCell ⟨g,i*2+1,none⟩ (.slice (some ⟨g2,0,none⟩) bT c2)).setCell ⟨g,j*2,none⟩ (.int .i64 a)).setCell ⟨g,j*2+1,none⟩ (.slice (some ⟨g1,0,none⟩) b4 c1)) g (swp hs L i j) post:=by
 obtain⟨c0,c1⟩:=wi (f:=zO) (h:=pX) aj i ax;obtain⟨bC,bf⟩:=wi (f:=zO) (h:=pX) aj j ar;obtain⟨v1,uj⟩:=cell?_setCell_some (w:=w) (p:=⟨g,i*2,none⟩) (x:=.int .i64 (L[j].1:Int)) (q:=⟨g,j*2,none⟩) bC;obtain⟨v2,oE⟩:=cell?_setCell_some (w:=w) (p:=⟨g,i*2,none⟩) (x:=.int .i64 (L[j].1:Int)) (q:=⟨g,j*2+1,none⟩) bf;obtain⟨v3,Yh⟩:=cell?_setCell_some (w:=w.setCell ⟨g,i*2,none⟩ (.int .i64 (L[j].1:Int))) (p:=⟨g,i*2+1,none⟩) (x:=pX L[j]) (q:=⟨g,j*2+1,none⟩) oE;exact⟨L[i].1,L[j].1,L[i].2.1.1,L[i].2.2.length,L[i].2.1.2,L[j].2.1.1,L[j].2.2.length,L[j].2.1.2,⟨c0,c1⟩,⟨bC,bf⟩,⟨aj.free _,aj.free _,aj.free _,aj.free _⟩,⟨v1,uj⟩,⟨v3,Yh⟩,aat (f:=zO) (h:=pX) (d:=hs) aj i j ax ar⟩
namespace ao
theorem aoN{α:Type}(d:α)(X A M B Y:List α)(k:Nat)(hk:k<A.length)(sq:B.length=A.length) :
  swp d (X++((B.take k++A.drop k)++(M++((A.take k++B.drop k)++Y)))) (X.length+k) (X.length+A.length+M.length+k)=X++((B.take (k+1)++A.drop (k+1))++(M++((A.take (k+1)++B.drop (k+1))++Y))):=by
 have h:=abx d A[k] (B[k]'(by omega)) (X++B.take k) (A.drop (k+1)++(M++A.take k)) (B.drop (k+1)++Y);rw[aY,cq,Nat.min_eq_left (by omega)]at h;rw[show X.length+k+1+(A.drop (k+1)++(M++A.take k)).length=X.length+A.length+M.length+k by
  rw[aY,aY,cC,cq,Nat.min_eq_left (by omega)];omega]at h
 have aF:X++((B.take k++A.drop k)++(M++((A.take k++B.drop k)++Y)))=(X++B.take k)++A[k] :: ((A.drop (k+1)++(M++A.take k))++B[k]'(by omega) :: (B.drop (k+1)++Y)):=by
  rw[drop_eq_getElem_cons hk,drop_eq_getElem_cons (show k<B.length by omega)];simp only[dj,cons_append]
 have e2:X++((B.take (k+1)++A.drop (k+1))++(M++((A.take (k+1)++B.drop (k+1))++Y)))=(X++B.take k)++B[k]'(by omega) :: ((A.drop (k+1)++(M++A.take k))++A[k] :: (B.drop (k+1)++Y)):=by
  rw[gb hk,gb (show k<B.length by omega)];simp only[dj,cons_append,nil_append]
 rw[aF,h,e2]
def cw(L:List bn):Prop:=L.Pairwise λa b=>a.1<=b.1
def cy(A B:List bn):Prop:=A.Perm B/\∀v,A.filter (λt=>t.1 == v)=B.filter (λt=>t.1 == v)
theorem cy.refl(A:List bn):cy A A:=⟨List.Perm.refl _,λ_=>rfl⟩
theorem cy.trans{A B C:List bn}(h:cy A B)(k:cy B C):cy A C:=⟨h.1.trans k.1,λv=>(h.2 v).trans (k.2 v)⟩
theorem cy.append{A B C D:List bn}(h:cy A B)(k:cy C D):cy (A++C) (B++D):=⟨h.1.append k.1,λv=>by rw[filter_append,filter_append,h.2 v,k.2 v]⟩
theorem cy.swap{A B:List bn}(h:∀a∈A,∀b∈B,a.1≠b.1):cy (A++B) (B++A):=⟨perm_append_comm,λv=>by
 rw[filter_append,filter_append];by_cases hA:∃a∈A,a.1=v
 .obtain⟨a,aS,rfl⟩:=hA;have:B.filter (λt=>t.1 == a.1)=[]:=List.filter_eq_nil_iff.2 (λb ak=>by
   have:=h a aS b ak;simp only[beq_iff_eq];omega)
  rw[this,append_nil,nil_append]
 .have:A.filter (λt=>t.1 == v)=[]:=List.filter_eq_nil_iff.2 (λa aS=>by
   simp only[beq_iff_eq];exact λe=>hA ⟨a,aS,e⟩)
  rw[this,append_nil,nil_append]⟩
theorem N4{P Q:List bn}{x:bn}(h:cw (P++Q))(j2:∀q∈Q,x.1<q.1)(cJ:∀p∈P,p.1<=x.1):cw (P++x :: Q)/\cy ((P++Q)++[x]) (P++x :: Q):=by
 unfold cw at h ⊢;rw[pairwise_append]at h;refine⟨?_,?_⟩
 .rw[pairwise_append,pairwise_cons];refine⟨h.1,⟨λq hq=>by have:=j2 q hq;omega,h.2.1⟩,λp aw y hy=>?_⟩;rcases List.mem_cons.1 hy with rfl | hy
  .exact cJ p aw
  .exact h.2.2 p aw y hy
 .rw[dj];have h1:cy (Q++[x]) ([x]++Q):=cy.swap (λa aS b ak=>by
   simp only[mem_singleton]at ak;subst ak;have:=j2 a aS;omega)
  exact(cy.refl P).append h1
theorem alJ{P:List bn}{p x:bn}(h:cw (P++[p]))(ah:p.1<=x.1):∀q∈P++[p],q.1<=x.1:=λq hq=>by
 unfold cw at h;rw[pairwise_append]at h;rcases List.mem_append.1 hq with hq | hq
 .have:=h.2.2 q hq p (by simp);omega
 .simp only[mem_singleton]at hq;subst hq;exact ah
end ao
theorem B1{w:ai}{g:Nat}{L:List bn}{post:b3}{i:Nat}{t:bn}(h:cF w g L post)(ax:L[i]?=some t):w.cell? ⟨g,i*2,none⟩=some (.int .i64 (t.1:Int))/\w.cell? ⟨g,i*2+1,none⟩=some (pX t):=by
 have hl:i<L.length:=by
  rcases eP i L.length with h1 | h1
  .exact h1
  .rw[getElem?_eq_none h1]at ax;cases ax
 have h1:=wi (f:=zO) (h:=pX) h i hl;rw[bH hl]at ax;injection ax with ax
 rw[ax]at h1;exact h1
theorem LP{α:Type}(x:α)(A B:List α):(A++x :: B)[A.length]?=some x:=by
 rw[jk (by omega),Nat.sub_self];rfl
theorem ahT{α:Type}(x y:α)(A B:List α):(A++x :: y :: B)[A.length+1]?=some y:=by
 rw[jk (by omega),show A.length+1-A.length=1 by omega];rfl
def Light(L:List bn):Prop:=∀t∈L,t.1<=4000000000
theorem GG(a b:Nat)(g1 b4 c1 g2 bT c2:Nat)(aS:a<=4000000000)(ak:b<=4000000000)(w:ai)(n:Nat)(os:Array Obj) :
  Calls prog 205 #[.agg #[.int .i64 a,.slice (some ⟨g1,0,none⟩) b4 c1],.agg #[.int .i64 b,.slice (some ⟨g2,0,none⟩) bT c2]] (grow (w.drewN n) os) λe pq=>e=.returned (.int .i64 ((a:Int)-b))/\∃p:GrownBy,pq=grow (w.drewN p.n) p.os:=
 Calls.grown_of (asr a b _ _ aS ak _)
theorem G8:∀args w,(callFunc 205 args).run prog w=.ok (.enter 205 args) w:=enters_of func205 (by kernel_rfl) rfl
theorem abW(g c:Nat)(X Z Y:List bn)(post:b3)(w:ai)(hl:(X++(Z++Y)).length<=100000)(hw:Light Z)(aj:cF w g (X++(Z++Y)) post) :
  Calls prog 230 #[.slice (some ⟨g,0,none⟩) (X++(Z++Y)).length c,.int .i64 (X.length:Int),.int .i64 ((X.length+Z.length:Nat):Int),.func (.func 205) #[] #[]] w λe w'=>e=.returned (.tuple #[])/\∃ng,cF w' g (X++(ng++Y)) post/\cw ng/\cy Z ng/\w.grownBy w' (some g):=by
 obtain⟨n,az⟩:∃n,n=(X++(Z++Y)).length:=⟨_,rfl⟩;obtain⟨b,ak⟩:∃b,b=X.length+Z.length:=⟨_,rfl⟩;rw[<-az]at hl ⊢;rw[<-ak];have hlen:n=X.length+Z.length+Y.length:=by rw[az];simp only[aY];omega
 obtain⟨kJ,kF⟩:∃kJ,kJ=X.length:=⟨_,rfl⟩;rw[<-kF]at ak hlen ⊢;cases Z with
 | nil=>
  have aL:∃ng,cF w g (X++(ng++Y)) post/\cw ng/\cy [] ng/\w.grownBy w (some g):=⟨[],aj,by simp[cw],cy.refl _,dl _ _⟩;have bk:=I aL;simp only[length_nil,ga]at ak;rw[ak];have ah:kJ<=100000:=by omega
  clear aL az hlen aj hw kF ak;go_enter func230,ntmps230
  go_wp2;go_loopw [8] (λbV wr=>bV=.int .i64 ((kJ:Int)+1)/\wr=w) (λ_ _=>0)
  case atStart=>exact⟨by go_num,rfl⟩
  case round=>
   obtain⟨rfl,rfl⟩:=hrel;go_wp2;go_end0
   exact⟨rfl,bk⟩
 | cons z Z=>
  have aQ:∃c6 R,c6.length=1/\cw c6/\cy (z :: Z) (c6++R)/\cF w g (X++(c6++(R++Y))) post:=⟨[z],Z,rfl,by simp[cw],cy.refl _,aj⟩;have cb:=I aQ;have fP:=I hw;have lg:kJ+1<=b:=by rw[ak,b1];omega
  have o9:b<=n:=by omega
  have bO:=I ak;have og:=I kF;clear aQ aj hw ak az hlen kF;have mJ:=G8;go_enter func230,ntmps230
  go_wp2;go_loopw [8] (λbV wr=>∃(i:Nat),bV=.int .i64 i/\kJ+1<=i/\i<=b/\Hid (∃c6 R,kJ+c6.length=i/\cw c6/\cy (z :: Z) (c6++R)/\cF wr g (X++(c6++(R++Y))) post)/\Hid (w.grownBy wr (some g))) (λbV _=>b-(intOf bV).toNat)
  case atStart=>
   obtain⟨c6,R,h1,af,aq,aJ⟩:=cb.out;exact⟨kJ+1,by go_num,by omega,lg,I ⟨c6,R,by omega,af,aq,aJ⟩,I (dl _ _)⟩
  case round=>
   obtain⟨i,rfl,MO,HF,aQ,aD⟩:=hrel;clear cb;by_cases avE:i<b
   .obtain⟨x,jS⟩:∃x,Hid (x∈z :: Z/\∃c6 R,kJ+c6.length=i/\cw c6/\cy (z :: Z) (c6++x :: R)/\cF wr g (X++(c6++(x :: (R++Y)))) post):=by
     obtain⟨c6,R,h1,af,aq,aJ⟩:=aQ.out;have aR:=aq.1.length_eq;rw[aY]at aR;have:=bO.out;cases R with
     | nil=>simp at aR;rw[b1]at this;omega
     | cons x R=>exact⟨x,I ⟨aq.1.mem_iff.2 (by simp),c6,R,h1,af,aq,aJ⟩⟩
    have aea:=I jS.out.1;have fb:=I jS.out.2;clear aQ jS;go_wp2;rename ai=>eY
    go_loopw [9] (λhM wr=>∃(j:Nat),hM=.int .i64 j/\kJ<=j/\j<=i/\Hid (∃P Q R,kJ+P.length=j/\kJ+P.length+Q.length=i/\cw (P++Q)/\(∀q∈Q,x.1<q.1)/\cy (z :: Z) ((P++Q)++x :: R)/\cF wr g (X++(P++x :: (Q++(R++Y)))) post)/\Hid (w.grownBy wr (some g))) (λhM _=>(intOf hM).toNat)
    case atStart=>
     obtain⟨c6,R,h1,af,aq,aJ⟩:=fb.out;exact⟨i,rfl,by omega,by omega,I ⟨c6,[],R,h1,by simpa using h1,by simpa using af,by simp,by simpa using aq,by simpa using aJ⟩,aD⟩
    case round=>
     obtain⟨j,rfl,avF,avG,eO,bl⟩:=hrel;clear aD fb;by_cases akC:kJ<j
     .obtain⟨jU,rfl⟩:∃jU,j=jU+1:=⟨j-1,by omega⟩;obtain⟨p,hin2⟩:∃p,Hid (∃P Q R,kJ+P.length=jU/\kJ+P.length+1+Q.length=i/\cw ((P++[p])++Q)/\(∀q∈Q,x.1<q.1)/\cy (z :: Z) (((P++[p])++Q)++x :: R)/\cF wr g ((X++P)++p :: x :: (Q++(R++Y))) post):=by
       obtain⟨P,Q,R,h1,af,aq,aJ,aR,cg⟩:=eO.out;rcases eq_nil_or_concat P with rfl | ⟨se,p,rfl⟩
       .simp at h1;omega
       .rw[concat_eq_append]at h1 af aq aR cg;rw[aY,length_singleton]at h1 af;exact⟨p,I ⟨se,Q,R,by omega,by omega,aq,aJ,aR,by simpa using cg⟩⟩
      have aji:(x.1<=4000000000/\p.1<=4000000000)/\(wr.cell? ⟨g,jU*2,none⟩=some (.int .i64 (p.1:Int))/\wr.cell? ⟨g,jU*2+1,none⟩=some (pX p))/\(wr.cell? ⟨g,(jU+1)*2,none⟩=some (.int .i64 (x.1:Int))/\wr.cell? ⟨g,(jU+1)*2+1,none⟩=some (pX x))/\g<wr.heap.size:=by
       obtain⟨P,Q,R,h1,af,aq,aJ,aR,cg⟩:=hin2.out;have tW:(X++P).length=jU:=by rw[aY,<-og.out];exact h1
       have aF:=LP p (X++P) (x :: (Q++(R++Y)));have e2:=ahT p x (X++P) (Q++(R++Y));rw[tW]at aF e2;exact⟨⟨fP.out x aea.out,fP.out p (aR.1.mem_iff.2 (by simp))⟩,B1 cg aF,B1 cg e2,cg.lt⟩
      obtain⟨⟨l4,yN⟩,⟨c0,c1⟩,⟨bC,bf⟩,jQ⟩:=aji;have m0:=cell_grown (a:=⟨g,jU*2,none⟩) jQ c0;have m1:=cell_grown (a:=⟨g,jU*2+1,none⟩) jQ c1;have m2:=cell_grown (a:=⟨g,(jU+1)*2,none⟩) jQ bC;have m3:=cell_grown (a:=⟨g,(jU+1)*2+1,none⟩) jQ bf;have hj:=GG x.1 p.1 x.2.1.1 x.2.2.length x.2.1.2 p.2.1.1 p.2.2.length p.2.1.2 l4 yN wr;simp only[pX]at m1 m3;have lz:=I hj;have akD:decide ((kJ:Int)<jU+1)=true:=cl;have w0:IntKind.i64.wrap (jU:Int)=jU:=by rw[IntKind.wrap_i64];omega
      have mixed:prog.follows .mixedOrders=true:=by kernel_rfl
      have gy:(0:Int)<=jU+1:=by omega
      have ft:(jU:Int)+1<n:=by omega
      have lT:(jU:Int)<n:=by omega
      have t1:((jU:Int)+1).toNat=jU+1:=by omega
      clear c0 c1 bC bf hj eO;by_cases av:x.1<p.1
      .have aG:decide ((x.1:Int)-(p.1:Int)<0)=true:=cl;go_wp2_with fail
       go_quiet_grown ((go_at_call 205;exact lz.out _ _))
       have aI:Below wr.heap.size wr (grow (wr.drewN nq) osq):=xj wr nq osq;have cs:w.grownBy (grow (wr.drewN nq) osq) (some g):=bl.out.trans (dr aI _);change Exit.then _ _ _ _ (grow (wr.drewN nq) osq);have ajv:∃P Q R,kJ+P.length=jU/\kJ+P.length+1+Q.length=i/\cw ((P++[p])++Q)/\(∀q∈Q,x.1<q.1)/\cy (z :: Z) (((P++[p])++Q)++x :: R)/\cF (grow (wr.drewN nq) osq) g ((X++P)++p :: x :: (Q++(R++Y))) post:=by
        obtain⟨P,Q,R,h1,af,aq,aJ,aR,cg⟩:=hin2.out;exact⟨P,Q,R,h1,af,aq,aJ,aR,cg.below aI⟩
       clear aI lz m0 m1 m2 m3 jQ hin2;generalize grow (wr.drewN nq) osq=aB at *;obtain⟨P,Q,R,h1,af,aq,aJ,aR,cg⟩:=ajv;have tW:(X++P).length=jU:=by rw[aY,<-og.out];exact h1
       have hle:jU+1<((X++P)++p :: x :: (Q++(R++Y))).length:=by rw[aY,tW];simp
       obtain⟨jh,bv,g1,b4,va,g2,bT,qj,⟨c0,c1⟩,⟨bC,bf⟩,⟨f0,f1,f2,f3⟩,⟨v1,uj⟩,⟨v2,oE⟩,hfin⟩:=Iy cg (jU+1) jU hle (by omega);have oA:=PW hs p x (X++P) (Q++(R++Y));rw[tW,abw _ _ _ _ (by omega) hle]at oA;rw[oA]at hfin;have ey:Hid (∃P Q R,kJ+P.length=jU/\kJ+P.length+Q.length=i/\cw (P++Q)/\(∀q∈Q,x.1<q.1)/\cy (z :: Z) ((P++Q)++x :: R)/\cF _ g (X++(P++x :: (Q++(R++Y)))) post):=I ⟨P,p :: Q,R,h1,by rw[b1];omega,by simpa using aq,λq hq=>by
        rcases List.mem_cons.1 hq with rfl | hq
        .exact av
        .exact aJ q hq,by simpa using aR,by simpa using hfin⟩
       have jf:=I cs;clear h1 af aq aJ aR cg tW hle hfin oA cs P Q R;go_wp2_with fail
       go_region
       go_wp2;go_roundw
       case rel=>exact⟨jU,by go_num,by omega,by omega,ey,I (jf.out.trans (nR (DA _ _ _ _ _ _ _ _ _ _)))⟩
       case measure=>simp[intOf]
      .have aG:decide ((x.1:Int)-(p.1:Int)<0)=false:=aT;go_wp2_with fail
       go_quiet_grown ((go_at_call 205;exact lz.out _ _))
       have aI:Below wr.heap.size wr (grow (wr.drewN nq) osq):=xj wr nq osq;have cs:w.grownBy (grow (wr.drewN nq) osq) (some g):=bl.out.trans (dr aI _);change Exit.then _ _ _ _ (grow (wr.drewN nq) osq);have hout:∃c6 R,kJ+c6.length=i+1/\cw c6/\cy (z :: Z) (c6++R)/\cF (grow (wr.drewN nq) osq) g (X++(c6++(R++Y))) post:=by
        obtain⟨P,Q,R,h1,af,aq,aJ,aR,cg⟩:=hin2.out;obtain⟨f1,f2⟩:=N4 (P:=P++[p]) (Q:=Q) (x:=x) aq aJ (alJ (by
         unfold cw at aq ⊢;exact(List.pairwise_append.1 aq).1) (by omega))
        refine⟨(P++[p])++x :: Q,R,by simp only[aY,b1,length_nil];omega,f1,aR.trans ?_,?_⟩
        .rw[show P++[p]++Q++x :: R=(P++[p]++Q++[x])++R by simp];exact f2.append (cy.refl R)
        .have c7:=cg.below aI;simpa using c7
       have m8:=I hout;have jf:=I cs;clear hout aI lz m0 m1 m2 m3 jQ hin2 cs;generalize grow (wr.drewN nq) osq=aB at *;go_wp2;go_roundw
       case rel=>exact⟨i+1,by go_num,by omega,by omega,m8,jf⟩
       case measure=>simp[intOf];omega
     .have MU:j=kJ:=by omega
      have akD:decide ((kJ:Int)<j)=false:=aT;have mixed:prog.follows .mixedOrders=true:=by kernel_rfl
      have adj:=I MU;clear MU;go_wp2_with fail
      go_quiet (fail)
      have aI:Below wr.heap.size wr (wr.drewN nq):=below_drewN dQ nq;have cs:w.grownBy (wr.drewN nq) (some g):=bl.out.trans (dr aI _);have hout:∃c6 R,kJ+c6.length=i+1/\cw c6/\cy (z :: Z) (c6++R)/\cF (wr.drewN nq) g (X++(c6++(R++Y))) post:=by
       obtain⟨P,Q,R,h1,af,aq,aJ,aR,cg⟩:=eO.out;have MU:=adj.out;obtain rfl:P=[]:=lq (by omega);obtain⟨f1,f2⟩:=N4 (P:=[]) (Q:=Q) (x:=x) aq aJ (by simp);simp only[nil_append,length_nil,ga]at f1 f2 af aR cg;refine⟨x :: Q,R,by simp only[b1];omega,f1,aR.trans ?_,?_⟩
       .rw[show Q++x :: R=(Q++[x])++R by simp];exact f2.append (cy.refl R)
       .have c7:=cg.below aI;simpa using c7
      have m8:=I hout;have jf:=I cs;clear hout aI eO cs;generalize wr.drewN nq=aB at *;go_wp2;go_roundw
      case rel=>exact⟨i+1,by go_num,by omega,by omega,m8,jf⟩
      case measure=>simp[intOf];omega
   .obtain rfl:i=b:=by omega
    have hfin:∃ng,cF wr g (X++(ng++Y)) post/\cw ng/\cy (z :: Z) ng/\w.grownBy wr (some g):=by
     obtain⟨c6,R,h1,af,aq,aJ⟩:=aQ.out;have aR:=aq.1.length_eq;rw[aY]at aR;have:=bO.out;obtain rfl:R=[]:=lq (by omega);exact⟨c6,by simpa using aJ,af,by simpa using aq,aD.out⟩
    have bk:=I hfin;clear hfin aQ aD;go_wp2;go_end0
    exact⟨rfl,bk⟩
namespace ao
abbrev wt(L:List bn)(i:Nat):Nat:=(L[i]?.getD hs).1
theorem uB{L:List bn}{i:Nat}(h:i<L.length):wt L i=L[i].1:=by unfold wt;rw[bH h,b6]
theorem rH{L:List bn}(h:cw L){i j:Nat}(vG:i<=j)(ar:j<L.length):wt L i<=wt L j:=by
 rw[uB ar,uB (show i<L.length by omega)];rcases eP i j with h1 | h1
 .exact List.pairwise_iff_getElem.1 h i j (by omega) ar h1
 .obtain rfl:i=j:=by omega
  exact Nat.le_refl _
theorem BT{L:List bn}{k:Nat}{t:bn}(h:t∈L.take k):∃i,i<k/\i<L.length/\t.1=wt L i:=by
 obtain⟨i,ax,rfl⟩:=List.mem_iff_getElem.1 h;rw[cq]at ax;exact⟨i,by omega,by omega,by rw[getElem_take,uB (by omega)]⟩
theorem BR{L:List bn}{k:Nat}{t:bn}(h:t∈L.drop k):∃i,k<=i/\i<L.length/\t.1=wt L i:=by
 obtain⟨i,ax,rfl⟩:=List.mem_iff_getElem.1 h;rw[cC]at ax;exact⟨k+i,by omega,by omega,by rw[getElem_drop,uB (by omega)]⟩
theorem aa3{A B:List bn}(hA:cw A)(bu:cw B)(h:∀a∈A,∀b∈B,a.1<=b.1):cw (A++B):=List.pairwise_append.2 ⟨hA,bu,h⟩
theorem Fb{A:List bn}(h:cw A)(k:Nat):cw (A.take k):=List.Pairwise.sublist (take_sublist _ _) h
theorem Fa{A:List bn}(h:cw A)(k:Nat):cw (A.drop k):=List.Pairwise.sublist (drop_sublist _ _) h
theorem am8{z:bn}{V:List bn}(bY:cw V)(k:Nat)(hk:k<=V.length)(am:0<k->wt V (k-1)<z.1)(h1:k<V.length->z.1<=wt V k):cw (V.take k++z :: V.drop k)/\cy ([z]++V) (V.take k++z :: V.drop k):=by
 have av:∀t∈V.take k,t.1<z.1:=λt aC=>by
  obtain⟨i,ax,hl,e⟩:=BT aC;have:=rH bY (show i<=k-1 by omega) (by omega);have:=am (by omega);omega
 have fq:∀t∈V.drop k,z.1<=t.1:=λt aC=>by
  obtain⟨i,ax,hl,e⟩:=BR aC;have:=rH bY ax hl;have:=h1 (by omega);omega
 refine⟨aa3 (Fb bY k) (List.pairwise_cons.2 ⟨fq,Fa bY k⟩) (λa aS b ak=>?_),?_⟩
 .have af:=av a aS;rcases List.mem_cons.1 ak with rfl | ak
  .omega
  .have:=fq b ak;omega
 .have e:[z]++V=([z]++V.take k)++V.drop k:=by rw[dj,gA]
  rw[e,show V.take k++z :: V.drop k=(V.take k++[z])++V.drop k by simp];refine cy.append (cy.swap (λa aS b ak=>?_)) (cy.refl _);simp only[mem_singleton]at aS;subst aS;have:=av b ak;omega
theorem ahl{z:bn}{aP:List bn}(ki:cw aP)(k:Nat)(hk:k<=aP.length)(am:0<k->wt aP (k-1)<=z.1)(h1:k<aP.length->z.1<wt aP k):cw (aP.take k++z :: aP.drop k)/\cy (aP++[z]) (aP.take k++z :: aP.drop k):=by
 have e:aP.take k++aP.drop k=aP:=gA k aP;have h:=N4 (P:=aP.take k) (Q:=aP.drop k) (x:=z) (by rw[e];exact ki) (λq hq=>by
  obtain⟨i,ax,hl,e⟩:=BR hq;have:=rH ki ax hl;have:=h1 (by omega);omega) (λp aw=>by
  obtain⟨i,ax,hl,e⟩:=BT aw;have:=rH ki (show i<=k-1 by omega) (by omega);have:=am (by omega);omega)
 rw[e]at h;exact h
theorem Zb{aP V gI kt:List bn}(ki:cw aP)(bY:cw V)(x y:Nat)(ah:x<=aP.length)(hy:y<=V.length)(Hs:x<aP.length->0<y->wt V (y-1)<wt aP x)(Hr:0<x->y<V.length->wt aP (x-1)<=wt V y)
  (h1:cw gI) (af:cw kt) (s1:cy (aP.take x++V.take y) gI) (s2:cy (aP.drop x++V.drop y) kt):cw (gI++kt)/\cy (aP++V) (gI++kt):=by
 have bf:∀a∈aP.take x,∀b∈aP.drop x,a.1<=b.1:=λa aS b ak=>by
  obtain⟨i,ax,hl,e⟩:=BT aS;obtain⟨j,ar,eF,e2⟩:=BR ak;have:=rH ki (show i<=j by omega) eF;omega
 have bM:∀a∈V.take y,∀b∈V.drop y,a.1<=b.1:=λa aS b ak=>by
  obtain⟨i,ax,hl,e⟩:=BT aS;obtain⟨j,ar,eF,e2⟩:=BR ak;have:=rH bY (show i<=j by omega) eF;omega
 have ev:∀a∈aP.take x,∀b∈V.drop y,a.1<=b.1:=λa aS b ak=>by
  obtain⟨i,ax,hl,e⟩:=BT aS;obtain⟨j,ar,eF,e2⟩:=BR ak;have:=rH ki (show i<=x-1 by omega) (by omega);have:=rH bY ar eF;have:=Hr (by omega) (by omega);omega
 have gx:∀a∈V.take y,∀b∈aP.drop x,a.1<b.1:=λa aS b ak=>by
  obtain⟨i,ax,hl,e⟩:=BT aS;obtain⟨j,ar,eF,e2⟩:=BR ak;have:=rH bY (show i<=y-1 by omega) (by omega);have:=rH ki ar eF;have:=Hs (by omega) (by omega);omega
 refine⟨aa3 h1 af (λa aS b ak=>?_),?_⟩
 .rcases List.mem_append.1 (s1.1.mem_iff.2 aS)with aS | aS<;>rcases List.mem_append.1 (s2.1.mem_iff.2 ak)with ak | ak
  .exact bf a aS b ak
  .exact ev a aS b ak
  .exact Nat.le_of_lt (gx a aS b ak)
  .exact bM a aS b ak
 .have e:aP++V=aP.take x++((aP.drop x++V.take y)++V.drop y):=by
   conv=>lhs;rw[<-gA x aP,<-gA y V]
   simp only[dj]
  have aq:cy (aP.drop x++V.take y) (V.take y++aP.drop x):=cy.swap (λa aS b ak=>by have:=gx b ak a aS;omega);have aJ:cy (aP++V) (aP.take x++((V.take y++aP.drop x)++V.drop y)):=by
   rw[e];exact(cy.refl _).append (aq.append (cy.refl _))
  refine aJ.trans ?_;rw[show aP.take x++((V.take y++aP.drop x)++V.drop y)=(aP.take x++V.take y)++(aP.drop x++V.drop y) by simp];exact s1.append s2
end ao
open Go.Sort (grow)
theorem AP{w:ai}{g:Nat}{L:List bn}{post:b3}{i:Nat}{t:bn}(h:cF w g L post)(ax:L[i]?=some t) :
  (∀n os,(grow (w.drewN n) os).cell? ⟨g,i*2,none⟩=some (.int .i64 (t.1:Int)))/\(∀n os,(grow (w.drewN n) os).cell? ⟨g,i*2+1,none⟩=some (.slice (some ⟨t.2.1.1,0,none⟩) t.2.2.length t.2.1.2)):=by
 obtain⟨h1,af⟩:=B1 h ax;exact⟨λn os=>cell_grown (a:=⟨g,i*2,none⟩) h.lt h1 n os,λn os=>cell_grown (a:=⟨g,i*2+1,none⟩) h.lt af n os⟩
theorem asQ(g c:Nat)(X V Y:List bn)(z:bn)(post:b3)(w:ai)(hl:(X++(z :: (V++Y))).length<=100000)(bY:cw V)(aE:0<V.length)(hw:Light (z :: V))(aj:cF w g (X++(z :: (V++Y))) post) :
  Calls prog 231 #[.slice (some ⟨g,0,none⟩) (X++(z :: (V++Y))).length c,.int .i64 (X.length:Int),.int .i64 ((X.length+1:Nat):Int),.int .i64 ((X.length+1+V.length:Nat):Int),.func (.func 205) #[] #[]] w λe w'=>e=.returned (.tuple #[])/\∃W,cF w' g (X++(W++Y)) post/\cw W/\cy (z :: V) W/\w.grownBy w' (some g):=by
 obtain⟨n,az⟩:∃n,n=(X++(z :: (V++Y))).length:=⟨_,rfl⟩;obtain⟨a,aS⟩:∃a,a=X.length:=⟨_,rfl⟩;obtain⟨m,hm⟩:∃m,m=a+1:=⟨_,rfl⟩;obtain⟨b,ak⟩:∃b,b=m+V.length:=⟨_,rfl⟩;rw[<-aS,<-hm,<-ak,<-az];rw[<-az]at hl;have o9:b<=n:=by rw[az,ak,hm,aS];simp;omega
 have M4:m<=b:=by omega
 have Mt:a<=m:=by omega
 have WG:(m:Int)-a=1:=by omega
 have hget:∀k,k<V.length->(X++(z :: (V++Y)))[m+k]?=some (V[k]?.getD hs):=λk hk=>by
  rw[jk (by omega),show m+k-X.length=k+1 by omega,dU,hZ hk,bH hk,b6]
 have vF:(X++(z :: (V++Y)))[a]?=some z:=by rw[aS];exact LP z X (V++Y)
 have xA:∀k,k<V.length->ao.wt V k<=4000000000:=λk hk=>by
  rw[uB hk];exact hw _ (by simp)
 have aO:z.1<=4000000000:=hw z (by simp);have aU:=I aj;have qS:=I hget;have CI:=I vF;have CL:=I xA;have h0:=I bY;have bO:=I ak;have ci:=I hm;have jp:=I aS;have mJ:=G8;have mixed:prog.follows .mixedOrders=true:=by kernel_rfl
 clear aj hget vF xA bY az aS hm ak hw;go_enter func231,ntmps231
 go_wp2;go_loopw [10,11] (λbV hM wr=>∃(i j:Nat),bV=.int .i64 i/\hM=.int .i64 j/\m<=i/\i<=j/\j<=b/\Hid ((m<i->ao.wt V (i-m-1)<z.1)/\(j<b->z.1<=ao.wt V (j-m)))/\Hid (cF wr g (X++(z :: (V++Y))) post)/\Hid (w.grownBy wr (some g))) (λbV hM _=>(intOf hM).toNat-(intOf bV).toNat)
 case atStart=>exact⟨m,b,rfl,rfl,by omega,M4,by omega,I ⟨λh=>by omega,λh=>by omega⟩,aU,I (dl _ _)⟩
 case round=>
  obtain⟨i,j,rfl,rfl,HK,vG,MT,eO,hrow,aD⟩:=hrel;clear aU;by_cases av:i<j
  .obtain⟨h,hh⟩:∃h,h=(i+j)/2:=⟨_,rfl⟩;have D3:i<=h:=by omega
   have Wf:h<j:=by omega
   have nY:((i:Int)+j)/2=(h:Int):=by omega
   clear hh;have ah:=qS.out (h-m) (by have:=bO.out;omega);rw[show m+(h-m)=h by omega]at ah;have ro:=CL.out (h-m) (by have:=bO.out;omega);obtain⟨t,aC⟩:∃t,t=V[h-m]?.getD hs:=⟨_,rfl⟩;have sX:ao.wt V (h-m)=t.1:=by rw[aC]
   rw[<-aC]at ah;rw[sX]at ro;obtain⟨m0,m1⟩:=AP hrow.out ah;obtain⟨m2,m3⟩:=AP hrow.out CI.out;have hj:=GG t.1 z.1 t.2.1.1 t.2.2.length t.2.1.2 z.2.1.1 z.2.2.length z.2.1.2 ro aO wr;have lz:=I hj;have w2:=I sX;have Wg:(h:Int)<n:=by omega
   have avf:(a:Int)<n:=by omega
   clear ah ro aC sX hj;go_wp2_with fail
   by_cases j3:t.1<z.1
   .have aG:decide ((t.1:Int)-(z.1:Int)<0)=true:=cl;go_quiet_grown ((go_at_call 205;exact lz.out _ _))
    have aI:Below wr.heap.size wr (grow (wr.drewN nq) osq):=xj wr nq osq;have gh:=I (hrow.out.below aI);have cN:=I (aD.out.trans (dr aI (some g)));have rY:Hid ((m<h+1->ao.wt V (h+1-m-1)<z.1)/\(j<b->z.1<=ao.wt V (j-m))):=I ⟨λ_=>by rw[show h+1-m-1=h-m by omega,w2.out];exact j3,eO.out.2⟩;change Exit.then _ _ _ _ (grow (wr.drewN nq) osq);clear aI lz m0 m1 m2 m3 hrow aD eO;generalize grow (wr.drewN nq) osq=aB at *;go_wp2;go_roundw
    case rel=>exact⟨h+1,j,by go_num,rfl,by omega,by omega,MT,rY,gh,cN⟩
    case measure=>simp[intOf];omega
   .have aG:decide ((t.1:Int)-(z.1:Int)<0)=false:=aT;go_quiet_grown ((go_at_call 205;exact lz.out _ _))
    have aI:Below wr.heap.size wr (grow (wr.drewN nq) osq):=xj wr nq osq;have gh:=I (hrow.out.below aI);have cN:=I (aD.out.trans (dr aI (some g)));have rY:Hid ((m<i->ao.wt V (i-m-1)<z.1)/\(h<b->z.1<=ao.wt V (h-m))):=I ⟨eO.out.1,λ_=>by rw[w2.out];omega⟩;change Exit.then _ _ _ _ (grow (wr.drewN nq) osq);clear aI lz m0 m1 m2 m3 hrow aD eO;generalize grow (wr.drewN nq) osq=aB at *;go_wp2;go_roundw
    case rel=>exact⟨i,h,rfl,by go_num,HK,D3,by omega,rY,gh,cN⟩
    case measure=>simp[intOf];omega
  .obtain rfl:i=j:=by omega
   have MX:i-m<=V.length:=by have:=bO.out;omega
   obtain⟨q,hq⟩:∃q,q=i-m:=⟨_,rfl⟩;have hfin:cw (V.take q++z :: V.drop q)/\cy ([z]++V) (V.take q++z :: V.drop q):=am8 h0.out q (by omega) (λh=>by rw[hq];exact eO.out.1 (by omega)) (λh=>by
    rw[hq];exact eO.out.2 (by have:=bO.out;omega))
   have ey:=I hfin;have ajw:i=a+1+q:=by omega
   have aj5:q<=V.length:=by omega
   have cb:Hid (cF wr g (X++(V.take 0++(z :: (V.drop 0++Y)))) post):=I (by simpa using hrow.out);clear hfin hq eO hrow MX qS CI CL av;go_wp2;rename ai=>eY
   have fA:=I aD.out;clear aD;go_loopw [13] (λiJ wr=>∃(t:Nat),iJ=.int .i64 ((a:Int)+t)/\t<=q/\Hid (cF wr g (X++(V.take t++(z :: (V.drop t++Y)))) post)/\Hid (w.grownBy wr (some g))) (λiJ _=>a+q-(intOf iJ).toNat)
   case atStart=>exact⟨0,by go_num,by omega,cb,fA⟩
   case round=>
    obtain⟨t,rfl,awt,hrow,aD⟩:=hrel;clear cb fA;by_cases htlt:t<q
    .have oA:swp hs (X++(V.take t++(z :: (V.drop t++Y)))) (a+t) (a+t+1)=X++(V.take (t+1)++(z :: (V.drop (t+1)++Y))):=by
      have h1:=PW hs z (V[t]'(by omega)) (X++V.take t) (V.drop (t+1)++Y);rw[aY,cq,Nat.min_eq_left (by omega),<-jp.out]at h1;rw[drop_eq_getElem_cons (show t<V.length by omega),gb (show t<V.length by omega)];simp only[dj,cons_append,nil_append]at h1 ⊢;exact h1
     have hlen:(X++(V.take t++(z :: (V.drop t++Y)))).length=a+1+V.length+Y.length:=by
      simp only[aY,b1,cq,cC];have:=jp.out;omega
     obtain⟨jh,bv,g1,b4,va,g2,bT,qj,⟨c0,c1⟩,⟨bC,bf⟩,⟨f0,f1,f2,f3⟩,⟨v1,uj⟩,⟨v2,oE⟩,hfin⟩:=Iy hrow.out (a+t) (a+t+1) (by omega) (by omega);rw[oA]at hfin;have J4:=I hfin;have gy:(0:Int)<=a+(t:Int):=by omega
     have ft:(a:Int)+t<n:=by have:=bO.out;have:=ci.out;omega
     have lT:(0:Int)<=a+(t:Int)+1:=by omega
     have wa:(a:Int)+t+1<n:=by have:=bO.out;have:=ci.out;omega
     have t1:((a:Int)+t).toNat=a+t:=by omega
     have t2:((a:Int)+t+1).toNat=a+t+1:=by omega
     have aG:decide ((a:Int)+t<i-1)=true:=cl;clear hfin oA hlen hrow;go_wp2_with fail
     go_region
     go_wp2;go_roundw
     case rel=>exact⟨t+1,by go_num,by omega,J4,I (aD.out.trans (nR (DA _ _ _ _ _ _ _ _ _ _)))⟩
     case measure=>simp[intOf];omega
    .obtain rfl:t=q:=by omega
     have kA:∃W,cF wr g (X++(W++Y)) post/\cw W/\cy (z :: V) W/\w.grownBy wr (some g):=⟨V.take t++z :: V.drop t,by simpa using hrow.out,ey.out.1,ey.out.2,aD.out⟩;have bk:=I kA;have aG:decide ((a:Int)+t<i-1)=false:=aT;clear kA hrow aD ey;go_wp2;refine bodyPost_ret (results_none rfl _ _ _) rfl ?_;exact⟨rfl,bk⟩
theorem asO(g c:Nat)(X aP Y:List bn)(z:bn)(post:b3)(w:ai)(hl:(X++(aP++(z :: Y))).length<=100000)(ki:cw aP)(hu:2<=aP.length)(hw:Light (z :: aP))(aj:cF w g (X++(aP++(z :: Y))) post) :
  Calls prog 231 #[.slice (some ⟨g,0,none⟩) (X++(aP++(z :: Y))).length c,.int .i64 (X.length:Int),.int .i64 ((X.length+aP.length:Nat):Int),.int .i64 ((X.length+aP.length+1:Nat):Int),.func (.func 205) #[] #[]] w λe w'=>e=.returned (.tuple #[])/\∃W,cF w' g (X++(W++Y)) post/\cw W/\cy (aP++[z]) W/\w.grownBy w' (some g):=by
 obtain⟨n,az⟩:∃n,n=(X++(aP++(z :: Y))).length:=⟨_,rfl⟩;obtain⟨a,aS⟩:∃a,a=X.length:=⟨_,rfl⟩;obtain⟨m,hm⟩:∃m,m=a+aP.length:=⟨_,rfl⟩;obtain⟨b,ak⟩:∃b,b=m+1:=⟨_,rfl⟩;rw[<-aS,<-hm,<-ak,<-az];rw[<-az]at hl;have o9:b<=n:=by rw[az,ak,hm,aS];simp;omega
 have Mt:a+2<=m:=by omega
 have WG:((m:Int)-a == 1)=false:=cz
 have y0:(b:Int)-m=1:=by omega
 have hget:∀k,k<aP.length->(X++(aP++(z :: Y)))[a+k]?=some (aP[k]?.getD hs):=λk hk=>by
  rw[jk (by omega),show a+k-X.length=k by omega,hZ hk,bH hk,b6]
 have vF:(X++(aP++(z :: Y)))[m]?=some z:=by
  have h1:=LP z (X++aP) Y;rw[aY,<-aS,<-hm,dj]at h1;exact h1
 have xA:∀k,k<aP.length->ao.wt aP k<=4000000000:=λk hk=>by
  rw[uB hk];exact hw _ (by simp)
 have aO:z.1<=4000000000:=hw z (by simp);have aU:=I aj;have qS:=I hget;have CI:=I vF;have CL:=I xA;have mX:=I ki;have bO:=I ak;have ci:=I hm;have jp:=I aS;have mJ:=G8;have mixed:prog.follows .mixedOrders=true:=by kernel_rfl
 clear aj hget vF xA ki az aS hm ak hw;go_enter func231,ntmps231
 go_wp2;go_loopw [14,15] (λbV hM wr=>∃(i j:Nat),bV=.int .i64 i/\hM=.int .i64 j/\a<=i/\i<=j/\j<=m/\Hid ((a<i->ao.wt aP (i-a-1)<=z.1)/\(j<m->z.1<ao.wt aP (j-a)))/\Hid (cF wr g (X++(aP++(z :: Y))) post)/\Hid (w.grownBy wr (some g))) (λbV hM _=>(intOf hM).toNat-(intOf bV).toNat)
 case atStart=>exact⟨a,m,rfl,rfl,by omega,by omega,by omega,I ⟨λh=>by omega,λh=>by omega⟩,aU,I (dl _ _)⟩
 case round=>
  obtain⟨i,j,rfl,rfl,HK,vG,MT,eO,hrow,aD⟩:=hrel;clear aU;by_cases av:i<j
  .obtain⟨h,hh⟩:∃h,h=(i+j)/2:=⟨_,rfl⟩;have D3:i<=h:=by omega
   have Wf:h<j:=by omega
   have nY:((i:Int)+j)/2=(h:Int):=by omega
   clear hh;have ah:=qS.out (h-a) (by have:=ci.out;omega);rw[show a+(h-a)=h by omega]at ah;have ro:=CL.out (h-a) (by have:=ci.out;omega);obtain⟨t,aC⟩:∃t,t=aP[h-a]?.getD hs:=⟨_,rfl⟩;have sX:ao.wt aP (h-a)=t.1:=by rw[aC]
   rw[<-aC]at ah;rw[sX]at ro;obtain⟨m0,m1⟩:=AP hrow.out ah;obtain⟨m2,m3⟩:=AP hrow.out CI.out;have hj:=GG z.1 t.1 z.2.1.1 z.2.2.length z.2.1.2 t.2.1.1 t.2.2.length t.2.1.2 aO ro wr;have lz:=I hj;have w2:=I sX;have Wg:(h:Int)<n:=by have:=bO.out;omega
   have ue:(m:Int)<n:=by have:=bO.out;omega
   clear ah ro aC sX hj;go_wp2_with fail
   by_cases j3:z.1<t.1
   .have aG:decide ((z.1:Int)-(t.1:Int)<0)=true:=cl;go_quiet_grown ((go_at_call 205;exact lz.out _ _))
    have aI:Below wr.heap.size wr (grow (wr.drewN nq) osq):=xj wr nq osq;have gh:=I (hrow.out.below aI);have cN:=I (aD.out.trans (dr aI (some g)));have rY:Hid ((a<i->ao.wt aP (i-a-1)<=z.1)/\(h<m->z.1<ao.wt aP (h-a))):=I ⟨eO.out.1,λ_=>by rw[w2.out];exact j3⟩;change Exit.then _ _ _ _ (grow (wr.drewN nq) osq);clear aI lz m0 m1 m2 m3 hrow aD eO;generalize grow (wr.drewN nq) osq=aB at *;go_wp2;go_roundw
    case rel=>exact⟨i,h,rfl,by go_num,HK,D3,by omega,rY,gh,cN⟩
    case measure=>simp[intOf];omega
   .have aG:decide ((z.1:Int)-(t.1:Int)<0)=false:=aT;go_quiet_grown ((go_at_call 205;exact lz.out _ _))
    have aI:Below wr.heap.size wr (grow (wr.drewN nq) osq):=xj wr nq osq;have gh:=I (hrow.out.below aI);have cN:=I (aD.out.trans (dr aI (some g)));have rY:Hid ((a<h+1->ao.wt aP (h+1-a-1)<=z.1)/\(j<m->z.1<ao.wt aP (j-a))):=I ⟨λ_=>by rw[show h+1-a-1=h-a by omega,w2.out];omega,eO.out.2⟩;change Exit.then _ _ _ _ (grow (wr.drewN nq) osq);clear aI lz m0 m1 m2 m3 hrow aD eO;generalize grow (wr.drewN nq) osq=aB at *;go_wp2;go_roundw
    case rel=>exact⟨h+1,j,by go_num,rfl,by omega,by omega,MT,rY,gh,cN⟩
    case measure=>simp[intOf];omega
  .obtain rfl:i=j:=by omega
   have MX:i-a<=aP.length:=by have:=ci.out;omega
   obtain⟨q,hq⟩:∃q,q=i-a:=⟨_,rfl⟩;have hfin:cw (aP.take q++z :: aP.drop q)/\cy (aP++[z]) (aP.take q++z :: aP.drop q):=ahl mX.out q (by omega) (λh=>by rw[hq];exact eO.out.1 (by omega)) (λh=>by
    rw[hq];exact eO.out.2 (by have:=ci.out;omega))
   have ey:=I hfin;have ajw:i=a+q:=by omega
   have aj5:q<=aP.length:=by omega
   have cb:Hid (cF wr g (X++(aP.take aP.length++(z :: (aP.drop aP.length++Y)))) post):=I (by simpa using hrow.out);have HL:m=a+aP.length:=ci.out;clear hfin hq eO hrow MX qS CI CL av;go_wp2;rename ai=>eY
   have fA:=I aD.out;clear aD;have qu:m<=b:=by have:=bO.out;omega
   go_loopw [17] (λiJ wr=>∃(k:Nat),iJ=.int .i64 k/\i<=k/\k<=m/\Hid (∃t,k=a+t/\t<=aP.length/\cF wr g (X++(aP.take t++(z :: (aP.drop t++Y)))) post)/\Hid (w.grownBy wr (some g))) (λiJ _=>(intOf iJ).toNat)
   case atStart=>exact⟨m,rfl,by omega,by omega,I ⟨aP.length,HL,by omega,cb.out⟩,fA⟩
   case round=>
    obtain⟨k,rfl,MR,sG,hrow,aD⟩:=hrel;clear cb fA;by_cases htlt:i<k
    .obtain⟨k,rfl⟩:∃k',k=k'+1:=⟨k-1,by omega⟩;have hfin:∃(jh bv:Int) (g1 b4 va g2 bT qj:Nat),(wr.cell? ⟨g,(k+1)*2,none⟩=some (.int .i64 jh)/\wr.cell? ⟨g,(k+1)*2+1,none⟩=some (.slice (some ⟨g1,0,none⟩) b4 va))/\(wr.cell? ⟨g,k*2,none⟩=some (.int .i64 bv)/\wr.cell? ⟨g,k*2+1,none⟩=some (.slice (some ⟨g2,0,none⟩) bT qj)) /\
       (wr.frozen? ⟨g,(k+1)*2,none⟩=false/\wr.frozen? ⟨g,(k+1)*2+1,none⟩=false/\wr.frozen? ⟨g,k*2,none⟩=false/\wr.frozen? ⟨g,k*2+1,none⟩=false) /\
       (∃v1,(wr.setCell ⟨g,(k+1)*2,none⟩ (.int .i64 bv)).cell? ⟨g,k*2,none⟩=some v1)/\(∃v2,((wr.setCell ⟨g,(k+1)*2,none⟩ (.int .i64 bv)).setCell ⟨g,(k+1)*2+1,none⟩ (.slice (some ⟨g2,0,none⟩) bT qj)).cell? ⟨g,k*2+1,none⟩=some v2) /\
       (∃t,k=a+t/\t<=aP.length/\cF ((((wr.setCell ⟨g,(k+1)*2,none⟩ (.int .i64 bv)).setCell ⟨g,(k+1)*2+1,none⟩ (.slice (some ⟨g2,0,none⟩) bT qj)).setCell ⟨g,k*2,none⟩ (.int .i64 jh)).setCell ⟨g,k*2+1,none⟩ (.slice (some ⟨g1,0,none⟩) b4 va)) g (X++(aP.take t++(z :: (aP.drop t++Y)))) post):=by
      obtain⟨t,aC,akk,aj⟩:=hrow.out;obtain⟨s,rfl⟩:∃s,t=s+1:=⟨t-1,by omega⟩;obtain rfl:k=a+s:=by omega
      have hlen:(X++(aP.take (s+1)++(z :: (aP.drop (s+1)++Y)))).length=a+aP.length+1+Y.length:=by
       simp only[aY,b1,cq,cC];have:=jp.out;omega
      have oA:swp hs (X++(aP.take (s+1)++(z :: (aP.drop (s+1)++Y)))) (a+s+1) (a+s)=X++(aP.take s++(z :: (aP.drop s++Y))):=by
       have h1:=PW hs (aP[s]'(by omega)) z (X++aP.take s) (aP.drop (s+1)++Y);rw[aY,cq,Nat.min_eq_left (by omega),<-jp.out]at h1;rw[abw _ _ _ _ (by omega) (by omega),drop_eq_getElem_cons (show s<aP.length by omega),gb (show s<aP.length by omega)];simp only[dj,cons_append,nil_append]at h1 ⊢;exact h1
      obtain⟨jh,bv,g1,b4,va,g2,bT,qj,aF,e2,e3,e4,e5,aL⟩:=Iy aj (a+s+1) (a+s) (by omega) (by omega);rw[oA]at aL;exact⟨jh,bv,g1,b4,va,g2,bT,qj,aF,e2,e3,e4,e5,s,rfl,by omega,aL⟩
     obtain⟨jh,bv,g1,b4,va,g2,bT,qj,⟨c0,c1⟩,⟨bC,bf⟩,⟨f0,f1,f2,f3⟩,⟨v1,uj⟩,⟨v2,oE⟩,aL⟩:=hfin;have J4:=I aL;have ft:(k:Int)+1<n:=by have:=bO.out;omega
     have lT:(k:Int)<n:=by omega
     have gy:(0:Int)<=k+1:=by omega
     have t1:((k:Int)+1).toNat=k+1:=by omega
     have w0:IntKind.i64.wrap (k:Int)=k:=by rw[IntKind.wrap_i64];omega
     have aG:decide ((i:Int)<k+1)=true:=cl;clear aL hrow;go_wp2_with fail
     go_region
     go_wp2;go_roundw
     case rel=>exact⟨k,by go_num,by omega,by omega,J4,I (aD.out.trans (nR (DA _ _ _ _ _ _ _ _ _ _)))⟩
     case measure=>simp[intOf]
    .obtain rfl:k=i:=by omega
     have kA:∃W,cF wr g (X++(W++Y)) post/\cw W/\cy (aP++[z]) W/\w.grownBy wr (some g):=by
      obtain⟨t,aC,akk,aj⟩:=hrow.out;obtain rfl:t=q:=by omega
      exact⟨aP.take t++z :: aP.drop t,by simpa using aj,ey.out.1,ey.out.2,aD.out⟩
     have bk:=I kA;clear kA hrow aD ey;go_wp2;refine bodyPost_ret (results_none rfl _ _ _) rfl ?_;exact⟨rfl,bk⟩
theorem Qd(g c:Nat)(ve:Value)(X A M B Y:List bn)(post:b3)(w:ai)(sq:B.length=A.length)(hl:(X++(A++(M++(B++Y)))).length<=100000)(aj:cF w g (X++(A++(M++(B++Y)))) post) :
  Calls prog 237 #[.slice (some ⟨g,0,none⟩) (X++(A++(M++(B++Y)))).length c,.int .i64 (X.length:Int),.int .i64 ((X.length+A.length+M.length:Nat):Int),.int .i64 (A.length:Int),ve] w λe w'=>e=.returned (.tuple #[])/\cF w' g (X++(B++(M++(A++Y)))) post/\w.grownBy w' (some g):=by
 obtain⟨n,az⟩:∃n,n=(X++(A++(M++(B++Y)))).length:=⟨_,rfl⟩;rw[<-az]at hl ⊢;have hlen:n=X.length+A.length+M.length+B.length+Y.length:=by rw[az];simp only[aY];omega
 obtain⟨b,ak⟩:∃b,b=X.length+A.length+M.length:=⟨_,rfl⟩;rw[<-ak];have aQ:cF w g (X++((B.take 0++A.drop 0)++(M++((A.take 0++B.drop 0)++Y)))) post:=by simpa using aj
 have cb:=I aQ;have bO:=I ak;have NR:X.length+A.length<=b:=by omega
 have o9:b+A.length<=n:=by omega
 have Jv:=I sq;clear aj az hlen aQ ak sq;go_enter func237,ntmps237
 go_wp2;go_loopw [10] (λbV wr=>∃k:Nat,k<=A.length/\bV=.int .i64 k/\Hid (cF wr g (X++((B.take k++A.drop k)++(M++((A.take k++B.drop k)++Y)))) post)/\Hid (w.grownBy wr (some g))) (λbV _=>A.length-(intOf bV).toNat)
 case atStart=>exact⟨0,by omega,rfl,cb,I (dl _ _)⟩
 case round=>
  obtain⟨k,hk,rfl,hrow,aD⟩:=hrel;clear cb;by_cases bb:k<A.length
  .have Ws:(X++((B.take k++A.drop k)++(M++((A.take k++B.drop k)++Y)))).length=X.length+A.length+M.length+A.length+Y.length:=by
    have:=Jv.out;simp only[aY,cq,cC];omega
   have ak:=bO.out;obtain⟨jh,bv,g1,b4,va,g2,bT,qj,⟨c0,c1⟩,⟨bC,bf⟩,⟨f0,f1,f2,f3⟩,⟨v1,uj⟩,⟨v2,oE⟩,hfin⟩:=Iy hrow.out (X.length+k) (b+k) (by omega) (by omega);have V2:cF ((((wr.setCell ⟨g,(X.length+k)*2,none⟩ (.int .i64 bv)).setCell ⟨g,(X.length+k)*2+1,none⟩ (.slice (some ⟨g2,0,none⟩) bT qj)).setCell ⟨g,(b+k)*2,none⟩ (.int .i64 jh)).setCell ⟨g,(b+k)*2+1,none⟩ (.slice (some ⟨g1,0,none⟩) b4 va)) g (X++((B.take (k+1)++A.drop (k+1))++(M++((A.take (k+1)++B.drop (k+1))++Y)))) post:=by
    rw[<-aoN hs X A M B Y k bb Jv.out,<-ak];exact hfin
   have ey:=I V2;clear hfin V2 Ws hrow ak;have gy:(0:Int)<=(X.length:Int)+k:=by omega
   have ft:(X.length:Int)+k<n:=by omega
   have lT:(0:Int)<=b+(k:Int):=by omega
   have wa:(b:Int)+k<n:=by omega
   have t1:((X.length:Int)+k).toNat=X.length+k:=by omega
   have t2:((b:Int)+k).toNat=b+k:=by omega
   generalize X.length=x at *;generalize auB:A.length=an at *;go_wp2_with fail
   go_region
   go_wp2;go_roundw
   case rel=>exact⟨k+1,by omega,by go_num,ey,I (aD.out.trans (nR (DA _ _ _ _ _ _ _ _ _ _)))⟩
   case measure=>simp[intOf];omega
  .obtain rfl:k=A.length:=by omega
   have hfin:cF wr g (X++(B++(M++(A++Y)))) post:=by
    have h1:=hrow.out;rw[drop_length,take_length,append_nil,<-Jv.out,take_length,drop_length,append_nil]at h1;exact h1
   have bk:=I hfin;clear hfin hrow;go_wp2;go_end0
   exact⟨rfl,bk,aD⟩
theorem asK(g c:Nat)(ve:Value)(X aP V Y:List bn)(post:b3)(w:ai)(ki:0<aP.length)(bY:0<V.length)(hl:(X++(aP++(V++Y))).length<=100000)(aj:cF w g (X++(aP++(V++Y))) post) :
  Calls prog 236 #[.slice (some ⟨g,0,none⟩) (X++(aP++(V++Y))).length c,.int .i64 (X.length:Int),.int .i64 ((X.length+aP.length:Nat):Int),.int .i64 ((X.length+aP.length+V.length:Nat):Int),ve] w λe w'=>e=.returned (.tuple #[])/\cF w' g (X++(V++(aP++Y))) post/\w.grownBy w' (some g):=by
 obtain⟨n,az⟩:∃n,n=(X++(aP++(V++Y))).length:=⟨_,rfl⟩;obtain⟨T,cp⟩:∃T,T=X++(V++(aP++Y)):=⟨_,rfl⟩;obtain⟨m,hm⟩:∃m,m=X.length+aP.length:=⟨_,rfl⟩;rw[<-az]at hl ⊢;rw[<-cp,<-hm];have aQ:∃dJ fu eJ jg:List bn,fu.length=aP.length/\eJ.length=V.length/\dJ.length+aP.length=m/\dJ++(eJ++(fu++jg))=T/\n=(dJ++(fu++(eJ++jg))).length/\cF w g (dJ++(fu++(eJ++jg))) post:=⟨X,aP,V,Y,rfl,rfl,hm.symm,cp.symm,az,aj⟩;have cb:=I aQ;have HL:aP.length<=m:=by omega
 have ue:m+V.length<=n:=by rw[az,hm];simp only[aY];omega
 obtain⟨bD,dg⟩:∃bD,bD=m+V.length:=⟨_,rfl⟩;rw[<-dg];have aky:IntKind.i64.wrap ((m:Int)-(X.length:Int))=(aP.length:Int):=by rw[IntKind.wrap_i64];omega
 have oC:(bD:Int)-m=(V.length:Int):=by omega
 have ip:(m:Int)-(X.length:Int)=(aP.length:Int):=by omega
 clear az cp aj aQ hm dg;generalize aP.length=i0 at *;generalize V.length=akZ at *;generalize X.length=x at *;go_enter func236,ntmps236
 go_wp2;go_loopw [10,11] (λbV hM wr=>∃i j:Nat,0<i/\0<j/\i<=m/\m+j<=n/\bV=.int .i64 i/\hM=.int .i64 j/\Hid (∃dJ fu eJ jg:List bn,fu.length=i/\eJ.length=j/\dJ.length+i=m/\dJ++(eJ++(fu++jg))=T/\n=(dJ++(fu++(eJ++jg))).length/\cF wr g (dJ++(fu++(eJ++jg))) post)/\Hid (w.grownBy wr (some g))) (λbV hM _=>(intOf bV).toNat+(intOf hM).toNat)
 case atStart=>exact⟨i0,akZ,ki,bY,HL,ue,by go_num,by go_num,cb,I (dl _ _)⟩
 case round=>
  obtain⟨i,j,ax,ar,aju,vI,rfl,rfl,aQ,aD⟩:=hrel;clear cb ki bY HL ue aky oC ip;have cb:Hid _:=aQ;clear aQ;by_cases vG:i=j
  .subst vG;have ap:Calls prog 237 #[.slice (some ⟨g,0,none⟩) n c,.int .i64 ((m:Int)-i),.int .i64 m,.int .i64 i,ve] wr λe w'=>e=.returned (.tuple #[])/\cF w' g T post/\w.grownBy w' (some g):=by
    obtain⟨dJ,fu,eJ,jg,h1,af,aq,aJ,aR,cg⟩:=cb.out;have h:=Qd g c ve dJ fu [] eJ jg post wr (by omega) (by simp only[nil_append];omega) (by simpa using cg);simp only[nil_append,length_nil,ga]at h;rw[<-aR,h1,show dJ.length+i=m by omega,show(dJ.length:Int)=m-(i:Int) by omega,aJ]at h;exact h.mono λe w' ⟨ie,a2,a3⟩=>⟨ie,a2,aD.out.trans a3⟩
   have bU:=I ap;clear ap cb;go_wp2_with fail
   refine bU.out.mono ?_;rintro e w' ⟨rfl,h1,af⟩;go_wp2;go_end0
   exact⟨rfl,h1,af⟩
  .by_cases nr:j<i
   .have ap:Calls prog 237 #[.slice (some ⟨g,0,none⟩) n c,.int .i64 ((m:Int)-i),.int .i64 m,.int .i64 j,ve] wr λe w'=>e=.returned (.tuple #[])/\Hid (∃dJ fu eJ jg:List bn,fu.length=i-j/\eJ.length=j/\dJ.length+(i-j)=m/\dJ++(eJ++(fu++jg))=T/\n=(dJ++(fu++(eJ++jg))).length/\cF w' g (dJ++(fu++(eJ++jg))) post)/\Hid (w.grownBy w' (some g)):=by
     obtain⟨dJ,fu,eJ,jg,h1,af,aq,aJ,aR,cg⟩:=cb.out;have G4:fu=fu.take j++fu.drop j:=(gA j fu).symm;have ca:(fu.take j).length=j:=by rw[cq];omega
     have cT:(fu.drop j).length=i-j:=by rw[cC];omega
     rw[G4,dj]at cg;have h:=Qd g c ve dJ (fu.take j) (fu.drop j) eJ jg post wr (by omega) (by rw[<-dj (fu.take j),<-G4];omega) cg;rw[<-dj (fu.take j),<-G4,<-aR,ca,cT,show dJ.length+j+(i-j)=m by omega,show(dJ.length:Int)=m-(i:Int) by omega]at h;refine h.mono ?_;rintro e w' ⟨ie,a2,a3⟩;refine⟨ie,I ⟨dJ++eJ,fu.drop j,fu.take j,jg,cT,ca,by rw[aY];omega,?_,?_,?_⟩,I (aD.out.trans a3)⟩
     .rw[<-aJ];conv=>rhs;rw[G4]
      simp only[dj]
     .rw[aR];simp only[aY,ca,cT];omega
     .rw[dj];exact a2
    have bU:=I ap;clear ap cb;have aX:((i:Int) != (j:Int))=true:=by rw[bne_iff_ne];omega
    go_wp2_with fail
    refine bU.out.mono ?_;rintro e w' ⟨rfl,h1,af⟩;clear bU aD;go_wp2;go_roundw
    case rel=>exact⟨i-j,j,by omega,ar,by omega,vI,by go_num,rfl,h1,af⟩
    case measure=>simp[intOf];omega
   .have ap:Calls prog 237 #[.slice (some ⟨g,0,none⟩) n c,.int .i64 ((m:Int)-i),.int .i64 ((m:Int)+j-i),.int .i64 i,ve] wr λe w'=>e=.returned (.tuple #[])/\Hid (∃dJ fu eJ jg:List bn,fu.length=i/\eJ.length=j-i/\dJ.length+i=m/\dJ++(eJ++(fu++jg))=T/\n=(dJ++(fu++(eJ++jg))).length/\cF w' g (dJ++(fu++(eJ++jg))) post)/\Hid (w.grownBy w' (some g)):=by
     obtain⟨dJ,fu,eJ,jg,h1,af,aq,aJ,aR,cg⟩:=cb.out;have G5:eJ=eJ.take (j-i)++eJ.drop (j-i):=(gA (j-i) eJ).symm;have ca:(eJ.take (j-i)).length=j-i:=by rw[cq];omega
     have cT:(eJ.drop (j-i)).length=i:=by rw[cC];omega
     rw[G5,dj]at cg;have h:=Qd g c ve dJ fu (eJ.take (j-i)) (eJ.drop (j-i)) jg post wr (by omega) (by rw[<-dj (eJ.take (j-i)),<-G5];omega) cg;rw[<-dj (eJ.take (j-i)),<-G5,<-aR,h1,ca,show((dJ.length+i+(j-i):Nat):Int)=m+(j:Int)-i by omega,show(dJ.length:Int)=m-(i:Int) by omega]at h;refine h.mono ?_;rintro e w' ⟨ie,a2,a3⟩;refine⟨ie,I ⟨dJ,eJ.drop (j-i),eJ.take (j-i),fu++jg,cT,ca,by omega,?_,?_,a2⟩,I (aD.out.trans a3)⟩
     .rw[<-aJ];conv=>rhs;rw[G5]
      simp only[dj]
     .rw[aR];simp only[aY,ca,cT];omega
    have bU:=I ap;clear ap cb;have aX:((i:Int) != (j:Int))=true:=by rw[bne_iff_ne];omega
    go_wp2_with fail
    refine bU.out.mono ?_;rintro e w' ⟨rfl,h1,af⟩;clear bU aD;go_wp2;go_roundw
    case rel=>exact⟨i,j-i,ax,by omega,aju,by omega,rfl,by go_num,h1,af⟩
    case measure=>simp[intOf];omega
def tK(g c n:Nat)(X aP V Y:List bn)(post:b3)(W:ai):Prop:=
 Calls prog 231 #[.slice (some ⟨g,0,none⟩) n c,.int .i64 (X.length:Int),.int .i64 ((X.length+aP.length:Nat):Int),.int .i64 ((X.length+aP.length+V.length:Nat):Int),.func (.func 205) #[] #[]] W λe w'=>e=.returned (.tuple #[])/\∃R,cF w' g (X++(R++Y)) post/\cw R/\cy (aP++V) R/\W.grownBy w' (some g)
theorem asP(g c n:Nat)(X aP V Y:List bn)(post:b3)(w:ai)(az:n=(X++(aP++(V++Y))).length)(hl:n<=100000)(ki:cw aP)(bY:cw V)(hu:2<=aP.length)(aE:2<=V.length)(hw:Light (aP++V))(aj:cF w g (X++(aP++(V++Y))) post)
  (SM:∀(dJ fu eJ jg:List bn) (W:ai),fu.length+eJ.length<aP.length+V.length->0<fu.length->0<eJ.length->cw fu->cw eJ->Light (fu++eJ)->n=(dJ++(fu++(eJ++jg))).length->cF W g (dJ++(fu++(eJ++jg))) post->tK g c n dJ fu eJ jg post W):tK g c n X aP V Y post w:=by
 unfold tK;obtain⟨a,aS⟩:∃a,a=X.length:=⟨_,rfl⟩;obtain⟨m,hm⟩:∃m,m=a+aP.length:=⟨_,rfl⟩;obtain⟨b,ak⟩:∃b,b=m+V.length:=⟨_,rfl⟩;obtain⟨md,WI⟩:∃md,md=(a+b)/2:=⟨_,rfl⟩;rw[<-aS,<-hm,<-ak];have o9:b<=n:=by rw[az,ak,hm,aS];simp;omega
 have WG:((m:Int)-a == 1)=false:=cz
 have y0:((b:Int)-m == 1)=false:=cz
 have HK:((a:Int)+b)/2=(md:Int):=by omega
 have Mt:a+2<=m:=by omega
 have M4:m+2<=b:=by omega
 have V9:∀k,k<aP.length->(X++(aP++(V++Y)))[a+k]?=some (aP[k]?.getD hs):=λk hk=>by
  rw[jk (by omega),show a+k-X.length=k by omega,hZ hk,bH hk,b6]
 have Wa:∀k,k<V.length->(X++(aP++(V++Y)))[m+k]?=some (V[k]?.getD hs):=λk hk=>by
  rw[jk (by omega),show m+k-X.length=aP.length+k by omega,jk (by omega),show aP.length+k-aP.length=k by omega,hZ hk,bH hk,b6]
 have Wu:∀k,k<aP.length->ao.wt aP k<=4000000000:=λk hk=>by
  rw[uB hk];exact hw _ (by simp)
 have Wv:∀k,k<V.length->ao.wt V k<=4000000000:=λk hk=>by
  rw[uB hk];exact hw _ (by simp)
 have aU:=I aj;have adc:=I V9;have ade:=I Wa;have ado:=I Wu;have adp:=I Wv;have mX:=I ki;have h0:=I bY;have fP:=I hw;have SN:=I SM;have bX:=I az;have bO:=I ak;have ci:=I hm;have jp:=I aS;have FZ:=I WI;have mJ:=G8;have mixed:prog.follows .mixedOrders=true:=by kernel_rfl
 clear aj V9 Wa Wu Wv ki bY hw SM az aS hm ak WI;go_enter func231,ntmps231
 go_upto_if 140 with fail
 go_cut [20,21]from 141 to 146 (λap7 ap8 eY=>eY=w/\∃s0 gW:Nat,ap7=.int .i64 s0/\ap8=.int .i64 gW/\a<=s0/\s0<=gW/\gW<=m/\gW<=md/\md+m<=b+s0/\(s0=a\/md+m=b+s0)/\(gW=m\/gW=md))
 case first=>
  have h1:=FZ.out;have af:=ci.out;have aq:=bO.out;by_cases nr:md<m
  .go_wp2;go_meet
   exact⟨rfl,md+m-b,md,by go_num,rfl,by omega,by omega,by omega,by omega,by omega,by omega,.inr rfl⟩
  .go_wp2;go_meet
   exact⟨rfl,a,m,rfl,rfl,by omega,by omega,by omega,by omega,by omega,.inl rfl,.inl rfl⟩
 case rest=>
  obtain⟨NN,s0,gW,rfl,rfl,qx,ake,awh,awi,Ny,gT,bS⟩:=hcut;subst NN;obtain⟨p,aw⟩:∃p,p+1=md+m:=⟨md+m-1,by omega⟩;have W1:(md:Int)+m-1=p:=by omega
  have av1:md<=b:=by have:=FZ.out;omega
  have ave:a<=md:=by have:=FZ.out;omega
  go_wp2_with fail
  go_loopw [20,21] (λpn Ps wr=>∃(s r:Nat),pn=.int .i64 s/\Ps=.int .i64 r/\s0<=s/\s<=r/\r<=gW/\Hid ((s0<s->ao.wt aP (s-1-a)<=ao.wt V (p+1-s-m))/\(r<gW->ao.wt V (p-r-m)<ao.wt aP (r-a)))/\Hid (cF wr g (X++(aP++(V++Y))) post)/\Hid (wc.grownBy wr (some g))) (λpn Ps _=>(intOf Ps).toNat-(intOf pn).toNat)
  case atStart=>exact⟨s0,gW,rfl,rfl,by omega,ake,by omega,I ⟨λh=>by omega,λh=>by omega⟩,aU,I (dl _ _)⟩
  case round=>
   obtain⟨s,r,rfl,rfl,sU,awo,ff,eO,hrow,aD⟩:=hrel;clear aU;by_cases av:s<r
   .obtain⟨h,hh⟩:∃h,h=(s+r)/2:=⟨_,rfl⟩;have D3:s<=h:=by omega
    have Wf:h<r:=by omega
    have nY:((s:Int)+r)/2=(h:Int):=by omega
    obtain⟨k,hk⟩:∃k,k=p-h:=⟨_,rfl⟩;have Bo:(p:Int)-h=k:=by omega
    have w0:IntKind.i64.wrap (k:Int)=k:=by rw[IntKind.wrap_i64];omega
    have au:(k:Int).toNat=k:=by omega
    have qu:m<=k:=by omega
    have pJ:k<b:=by omega
    clear hh;have ah:=adc.out (h-a) (by have:=ci.out;omega);rw[show a+(h-a)=h by omega]at ah;have ro:=ado.out (h-a) (by have:=ci.out;omega);have hy:=ade.out (k-m) (by have:=bO.out;omega);rw[show m+(k-m)=k by omega]at hy;have Ea:=adp.out (k-m) (by have:=bO.out;omega);obtain⟨t,aC⟩:∃t,t=aP[h-a]?.getD hs:=⟨_,rfl⟩;obtain⟨v,HS⟩:∃v,v=V[k-m]?.getD hs:=⟨_,rfl⟩;have sX:ao.wt aP (h-a)=t.1:=by rw[aC]
    have X5:ao.wt V (p-h-m)=v.1:=by rw[HS,hk]
    have X6:ao.wt V (k-m)=v.1:=by rw[HS]
    rw[<-aC]at ah;rw[<-HS]at hy;rw[sX]at ro;rw[X6]at Ea;obtain⟨m0,m1⟩:=AP hrow.out ah;obtain⟨m2,m3⟩:=AP hrow.out hy;have hj:=GG v.1 t.1 v.2.1.1 v.2.2.length v.2.1.2 t.2.1.1 t.2.2.length t.2.1.2 Ea ro wr;have lz:=I hj;have w2:=I sX;have SG:=I X5;have Wg:(h:Int)<n:=by omega
    have lj:(k:Int)<n:=by omega
    have atS:=I hk;clear ah ro hy Ea aC HS sX X5 X6 hj hk;go_wp2_with fail
    by_cases j3:v.1<t.1
    .have aG:decide ((v.1:Int)-(t.1:Int)<0)=true:=cl;go_quiet_grown ((go_at_call 205;exact lz.out _ _))
     have aI:Below wr.heap.size wr (grow (wr.drewN nq) osq):=xj wr nq osq;have gh:=I (hrow.out.below aI);have cN:=I (aD.out.trans (dr aI (some g)));have rY:Hid ((s0<s->ao.wt aP (s-1-a)<=ao.wt V (p+1-s-m))/\(h<gW->ao.wt V (p-h-m)<ao.wt aP (h-a))):=I ⟨eO.out.1,λ_=>by rw[w2.out,SG.out];exact j3⟩;change Exit.then _ _ _ _ (grow (wr.drewN nq) osq);clear aI lz m0 m1 m2 m3 hrow aD eO;generalize grow (wr.drewN nq) osq=aB at *;go_wp2;go_roundw
     case rel=>exact⟨s,h,rfl,by go_num,sU,D3,by omega,rY,gh,cN⟩
     case measure=>simp[intOf];omega
    .have aG:decide ((v.1:Int)-(t.1:Int)<0)=false:=aT;go_quiet_grown ((go_at_call 205;exact lz.out _ _))
     have aI:Below wr.heap.size wr (grow (wr.drewN nq) osq):=xj wr nq osq;have gh:=I (hrow.out.below aI);have cN:=I (aD.out.trans (dr aI (some g)));have rY:Hid ((s0<h+1->ao.wt aP (h+1-1-a)<=ao.wt V (p+1-(h+1)-m))/\(r<gW->ao.wt V (p-r-m)<ao.wt aP (r-a))):=I ⟨λ_=>by
      rw[show h+1-1-a=h-a by omega,show p+1-(h+1)-m=p-h-m by omega,w2.out,SG.out];omega,eO.out.2⟩
     change Exit.then _ _ _ _ (grow (wr.drewN nq) osq);clear aI lz m0 m1 m2 m3 hrow aD eO;generalize grow (wr.drewN nq) osq=aB at *;go_wp2;go_roundw
     case rel=>exact⟨h+1,r,by go_num,rfl,by omega,by omega,ff,rY,gh,cN⟩
     case measure=>simp[intOf];omega
   .obtain rfl:s=r:=by omega
    obtain⟨e,he⟩:∃e,e+s=md+m:=⟨md+m-s,by omega⟩;have avu:(md:Int)+m-s=e:=by omega
    clear av;obtain⟨x,ah⟩:∃x,x=s-a:=⟨_,rfl⟩;obtain⟨y,hy⟩:∃y,y=e-m:=⟨_,rfl⟩;have av2:m<=e:=by omega
    have Bh:e<=b:=by omega
    have Yf:x<=aP.length:=by have:=ci.out;omega
    have Yi:y<=V.length:=by have:=bO.out;omega
    have Hs:x<aP.length->0<y->ao.wt V (y-1)<ao.wt aP x:=λh1 af=>by
     have aq:=eO.out.2 (by have:=ci.out;omega);rw[show p-s-m=y-1 by omega,<-ah]at aq;exact aq
    have Hr:0<x->y<V.length->ao.wt aP (x-1)<=ao.wt V y:=λh1 af=>by
     have aq:=eO.out.1 (by have:=bO.out;omega);rw[show s-1-a=x-1 by omega,show p+1-s-m=y by omega]at aq;exact aq
    have QQ:=I Hs;have QP:=I Hr;have ca:(aP.take x).length=x:=by rw[cq];omega
    have cT:(aP.drop x).length=m-s:=by rw[cC];have:=ci.out;omega
    have qB:(V.take y).length=y:=by rw[cq];omega
    have YM:(V.drop y).length=b-e:=by rw[cC];have:=bO.out;omega
    have k4:=I ca;have iU:=I cT;have u4:=I qB;have Gk:=I YM;have fT:cF wr g ((X++aP.take x)++(aP.drop x++(V.take y++(V.drop y++Y)))) post:=by
     have h1:=hrow.out;rw[<-gA x aP,<-gA y V]at h1;simpa only[dj]using h1
    have hlen1:((X++aP.take x)++(aP.drop x++(V.take y++(V.drop y++Y)))).length=n:=by
     rw[bX.out,<-congrArg List.length (show(X++aP.take x)++(aP.drop x++(V.take y++(V.drop y++Y)))=X++(aP++(V++Y)) by
      conv=>rhs;rw[<-gA x aP,<-gA y V]
      simp only[dj])]
    have jJ:=I fT;have FW:=I hlen1;have b2:=I ah;have sb:=I hy;clear Hs Hr ca cT qB YM fT hlen1 hrow eO ah hy;go_upto_region 39 with fail
    go_cut [185]from 178 to 185 (λap5 eY=>ap5=.bool (decide (s<m/\m<e))/\eY=wr)
    case first=>
     by_cases h1:s<m
     .by_cases af:m<e
      .go_wp2_with fail
       go_meet
       exact⟨by rw[bG (show s<m/\m<e from⟨h1,af⟩)],rfl⟩
      .go_wp2_with fail
       go_meet
       exact⟨by rw[bF (show ¬(s<m/\m<e)from λh=>af h.2)],rfl⟩
     .go_wp2_with fail
      go_meet
      exact⟨by rw[bF (show ¬(s<m/\m<e)from λh=>h1 h.1)],rfl⟩
    case rest=>
    obtain⟨rfl,lP⟩:=hcut;rename ai=>Cd
    subst lP;go_upto_if 185 with fail
    go_cut []from 185 to 191 (λeY=>cF eY g (X++(aP.take x++(V.take y++(aP.drop x++(V.drop y++Y))))) post/\wc.grownBy eY (some g))
    case first=>
     by_cases hc:s<m/\m<e
     .rw[bG hc];have mb:Calls prog 236 #[.slice (some ⟨g,0,none⟩) n c,.int .i64 s,.int .i64 m,.int .i64 e,.func (.func 205) #[] #[]] Cd λe w'=>e=.returned (.tuple #[])/\Hid (cF w' g (X++(aP.take x++(V.take y++(aP.drop x++(V.drop y++Y))))) post/\wc.grownBy w' (some g)):=by
       have h:=asK g c (.func (.func 205) #[] #[]) (X++aP.take x) (aP.drop x) (V.take y) (V.drop y++Y) post Cd (by rw[iU.out];omega) (by rw[u4.out];have:=sb.out;omega) (by rw[FW.out];omega) jJ.out;rw[FW.out,iU.out,u4.out,aY,k4.out,<-jp.out,show a+x=s by have:=b2.out;omega,show s+(m-s)=m by omega,show m+y=e by have:=sb.out;omega]at h;exact h.mono λe w' ⟨h1,af,aq⟩=>⟨h1,I ⟨by simpa only[dj]using af,aD.out.trans aq⟩⟩
      have yz:=I mb;clear mb;go_wp2_with fail
      refine yz.out.mono ?_;rintro e w' ⟨rfl,h1⟩;go_wp2_with fail
      go_meet
      exact h1.out
     .rw[bF hc];have hfin:cF Cd g (X++(aP.take x++(V.take y++(aP.drop x++(V.drop y++Y))))) post/\wc.grownBy Cd (some g):=by
       refine⟨?_,aD⟩;have h1:=jJ.out;by_cases af:s<m
       .have aq:V.take y=[]:=lq (by rw[u4.out];have:=sb.out;omega);rw[aq]at h1 ⊢;simpa using h1
       .have aq:aP.drop x=[]:=lq (by rw[iU.out];omega);rw[aq]at h1 ⊢;simpa using h1
      have bk:=I hfin;clear hfin;go_wp2_with fail
      go_meet
      exact bk.out
    case rest=>
    have k2:=I hcut;clear hcut aD jJ;rename ai=>Cd
    go_upto_region 41 with fail
    go_cut [199]from 192 to 199 (λap6 eY=>ap6=.bool (decide (a<s/\s<md))/\eY=Cd)
    case first=>
     by_cases h1:a<s
     .by_cases af:s<md
      .go_wp2_with fail
       go_meet
       exact⟨by rw[bG (show a<s/\s<md from⟨h1,af⟩)],rfl⟩
      .go_wp2_with fail
       go_meet
       exact⟨by rw[bF (show ¬(a<s/\s<md)from λh=>af h.2)],rfl⟩
     .go_wp2_with fail
      go_meet
      exact⟨by rw[bF (show ¬(a<s/\s<md)from λh=>h1 h.1)],rfl⟩
    case rest=>
    obtain⟨rfl,lP⟩:=hcut;rename ai=>wp
    subst lP;go_upto_if 199 with fail
    go_cut []from 199 to 205 (λeY=>∃gI,cF eY g (X++(gI++(aP.drop x++(V.drop y++Y)))) post/\cw gI/\cy (aP.take x++V.take y) gI/\wc.grownBy eY (some g))
    case first=>
     by_cases hc:a<s/\s<md
     .rw[bG hc];have mb:Calls prog 231 #[.slice (some ⟨g,0,none⟩) n c,.int .i64 a,.int .i64 s,.int .i64 md,.func (.func 205) #[] #[]] wp λe w'=>e=.returned (.tuple #[])/\Hid (∃gI,cF w' g (X++(gI++(aP.drop x++(V.drop y++Y)))) post/\cw gI/\cy (aP.take x++V.take y) gI/\wc.grownBy w' (some g)):=by
       have hlen:n=(X++(aP.take x++(V.take y++(aP.drop x++(V.drop y++Y))))).length:=by
        rw[<-FW.out];simp only[aY];omega
       have h:=SN.out X (aP.take x) (V.take y) (aP.drop x++(V.drop y++Y)) wp (by rw[k4.out,u4.out];have:=sb.out;have:=b2.out;have:=ci.out;have:=bO.out;omega) (by rw[k4.out];have:=b2.out;omega) (by rw[u4.out];have:=sb.out;omega) (Fb mX.out x) (Fb h0.out y)
        (λt aC=>fP.out t (by
         rcases List.mem_append.1 aC with aC | aC
         .exact mem_append_left _ (mem_of_mem_take aC)
         .exact mem_append_right _ (mem_of_mem_take aC))) hlen k2.out.1
       unfold tK at h;rw[k4.out,u4.out,<-jp.out,show a+x=s by have:=b2.out;omega,show s+y=md by have:=sb.out;omega]at h;exact h.mono λe w' ⟨h1,R,af,aq,aJ,aR⟩=>⟨h1,I ⟨R,af,aq,aJ,k2.out.2.trans aR⟩⟩
      have yz:=I mb;clear mb;go_wp2_with fail
      refine yz.out.mono ?_;rintro e w' ⟨rfl,h1⟩;go_wp2_with fail
      go_meet
      exact h1.out
     .rw[bF hc];have hfin:∃gI,cF wp g (X++(gI++(aP.drop x++(V.drop y++Y)))) post/\cw gI/\cy (aP.take x++V.take y) gI/\wc.grownBy wp (some g):=by
       refine⟨aP.take x++V.take y,by simpa only[dj]using k2.out.1,?_,cy.refl _,k2.out.2⟩;by_cases af:a<s
       .have aq:V.take y=[]:=lq (by rw[u4.out];have:=sb.out;omega);rw[aq,append_nil];exact Fb mX.out x
       .have aq:aP.take x=[]:=lq (by rw[k4.out];have:=b2.out;omega);rw[aq,nil_append];exact Fb h0.out y
      have bk:=I hfin;clear hfin;go_wp2_with fail
      go_meet
      exact bk.out
    case rest=>
    have gp:=I hcut;clear hcut k2;rename ai=>tp
    go_upto_region 43 with fail
    go_cut [213]from 206 to 213 (λap9 eY=>ap9=.bool (decide (md<e/\e<b))/\eY=tp)
    case first=>
     by_cases h1:md<e
     .by_cases af:e<b
      .go_wp2_with fail
       go_meet
       exact⟨by rw[bG (show md<e/\e<b from⟨h1,af⟩)],rfl⟩
      .go_wp2_with fail
       go_meet
       exact⟨by rw[bF (show ¬(md<e/\e<b)from λh=>af h.2)],rfl⟩
     .go_wp2_with fail
      go_meet
      exact⟨by rw[bF (show ¬(md<e/\e<b)from λh=>h1 h.1)],rfl⟩
    case rest=>
    obtain⟨rfl,lP⟩:=hcut;rename ai=>Jc
    subst lP;obtain⟨gI,bf,bM,ev,gx⟩:=gp.out;have HZ:gI.length=x+y:=by
     have h1:=ev.1.length_eq;rw[aY,k4.out,u4.out]at h1;omega
    have aef:=I bM;have aeg:=I ev;by_cases hc:md<e/\e<b
    .rw[bG hc];have mb:Calls prog 231 #[.slice (some ⟨g,0,none⟩) n c,.int .i64 md,.int .i64 e,.int .i64 b,.func (.func 205) #[] #[]] Jc λe w'=>e=.returned (.tuple #[])/\Hid (∃kt,cF w' g (X++(gI++(kt++Y))) post/\cw kt/\cy (aP.drop x++V.drop y) kt/\wc.grownBy w' (some g)):=by
      have hlen:n=((X++gI)++(aP.drop x++(V.drop y++Y))).length:=by
       rw[<-FW.out];simp only[aY,HZ,k4.out,u4.out];omega
      have h:=SN.out (X++gI) (aP.drop x) (V.drop y) Y Jc (by rw[iU.out,Gk.out];have:=sb.out;have:=b2.out;have:=ci.out;have:=bO.out;have:=FZ.out;omega) (by rw[iU.out];omega) (by rw[Gk.out];omega) (Fa mX.out x) (Fa h0.out y)
       (λt aC=>fP.out t (by
        rcases List.mem_append.1 aC with aC | aC
        .exact mem_append_left _ (mem_of_mem_drop aC)
        .exact mem_append_right _ (mem_of_mem_drop aC))) hlen (by simpa only[dj]using bf)
      unfold tK at h;rw[iU.out,Gk.out,aY,HZ,<-jp.out,show a+(x+y)=md by have:=sb.out;have:=b2.out;omega,show md+(m-s)=e by omega,show e+(b-e)=b by omega]at h;exact h.mono λe w' ⟨h1,R,af,aq,aJ,aR⟩=>⟨h1,I ⟨R,by simpa only[dj]using af,aq,aJ,gx.trans aR⟩⟩
     have yz:=I mb;clear mb bf bM ev gx HZ;go_wp2_with fail
     refine yz.out.mono ?_;rintro e w' ⟨rfl,h1⟩;go_wp2;go_end0
     refine⟨rfl,?_⟩;obtain⟨kt,HW,N8,Yz,YA⟩:=h1.out;obtain⟨gl,z2⟩:=Zb mX.out h0.out x y Yf Yi QQ.out QP.out aef.out N8 aeg.out Yz;exact⟨gI++kt,by simpa only[dj]using HW,gl,z2,YA⟩
    .rw[bF hc];have Xt:cw (aP.drop x++V.drop y):=by
      by_cases af:md<e
      .have aq:V.drop y=[]:=lq (by rw[Gk.out];omega);rw[aq,append_nil];exact Fa mX.out x
      .have aq:aP.drop x=[]:=lq (by rw[iU.out];omega);rw[aq,nil_append];exact Fa h0.out y
     obtain⟨gl,z2⟩:=Zb mX.out h0.out x y Yf Yi QQ.out QP.out bM Xt ev (cy.refl _);have hfin:∃R,cF Jc g (X++(R++Y)) post/\cw R/\cy (aP++V) R/\wc.grownBy Jc (some g):=⟨_,by simpa only[dj]using bf,gl,z2,gx⟩;have bk:=I hfin;clear hfin Xt gl z2 bf bM ev gx HZ;go_wp2;go_end0
     exact⟨rfl,bk⟩
theorem abZ(g c n:Nat)(post:b3)(hl:n<=100000):∀(N:Nat) (X aP V Y:List bn) (W:ai),aP.length+V.length<=N->0<aP.length->0<V.length->cw aP->cw V->Light (aP++V)->n=(X++(aP++(V++Y))).length->cF W g (X++(aP++(V++Y))) post->tK g c n X aP V Y post W:=by
 intro N;induction N with
 | zero=>intro X aP V Y W h h1;omega
 | succ N ih=>
  intro X aP V Y W cV au5 xp ki bY hw az aj;by_cases h1:aP.length=1
  .obtain⟨z,rfl⟩:=List.length_eq_one_iff.1 h1;have h:=asQ g c X V Y z post W (by rw[az]at hl;simpa using hl) bY xp (λt aC=>hw t (by simpa using aC)) (by simpa using aj);unfold tK;rw[az];simpa using h
  .by_cases af:V.length=1
   .obtain⟨z,rfl⟩:=List.length_eq_one_iff.1 af;have h:=asO g c X aP Y z post W (by rw[az]at hl;simpa using hl) ki (by omega) (λt aC=>hw t (by
     rcases List.mem_cons.1 aC with rfl | aC
     .simp
     .simp[aC])) (by simpa using aj)
    unfold tK;rw[az];simpa using h
   .exact asP g c n X aP V Y post W az hl ki bY (by omega) (by omega) hw aj (λdJ fu eJ jg bc h aq aJ aR cg c7 fK dm=>ih dJ fu eJ jg bc (by omega) aq aJ aR cg c7 fK dm)
namespace ao
def uD(k:Nat)(ck:List (List bn)):Prop:=∀B∈ck,B.length=k/\cw B
def Runs(k:Nat)(L:List bn):Prop:=∃(ck:List (List bn)) (C:List bn),L=ck.flatten++C/\uD k ck/\C.length<=k/\cw C
theorem K3{k:Nat}{ck:List (List bn)}(h:uD k ck):ck.flatten.length=ck.length*k:=by
 induction ck with
 | nil=>simp
 | cons B ck ih=>
  rw[flatten_cons,aY,(h B (by simp)).1,ih (λC j1=>h C (by simp[j1])),b1,succ_mul];omega
theorem Td{k:Nat}{ck:List (List bn)}(h:uD k ck){C:List bn}(hl:C.length=k)(ap:cw C):uD k (ck++[C])/\(ck++[C]).flatten=ck.flatten++C:=by
 refine⟨λB bu=>?_,by simp⟩;rcases List.mem_append.1 bu with bu | bu
 .exact h B bu
 .simp only[mem_singleton]at bu;subst bu;exact⟨hl,ap⟩
theorem aqZ:cw []:=by simp[cw]
theorem ap1{k:Nat}{R:List bn}(hk:0<k)(h:Runs k R)(hl:2*k<=R.length):∃aP V Dc,R=aP++(V++Dc)/\aP.length=k/\V.length=k/\cw aP/\cw V/\Runs k Dc:=by
 obtain⟨ck,C,rfl,bu,j1,ap⟩:=h;have hlen:=K3 bu;rw[aY]at hl;match ck,bu,hlen,hl with
 | [],_,_,hl=>simp at hl;omega
 | [B],bu,_,hl=>
  have h1:=bu B (by simp);simp only[flatten_cons,flatten_nil,append_nil]at hl ⊢;exact⟨B,C,[],by simp,h1.1,by omega,h1.2,ap,[],[],by simp,λB bu=>by simp at bu,by simp,aqZ⟩
 | B :: D :: ck,bu,_,_=>
  have h1:=bu B (by simp);have af:=bu D (by simp);exact⟨B,D,ck.flatten++C,by simp,h1.1,af.1,h1.2,af.2,ck,C,rfl,λE fD=>bu E (by simp[fD]),j1,ap⟩
theorem ap0{k:Nat}{R:List bn}(h:Runs k R)(hl:k<R.length)(eF:R.length<2*k):∃aP V,R=aP++V/\aP.length=k/\0<V.length/\cw aP/\cw V:=by
 obtain⟨ck,C,rfl,bu,j1,ap⟩:=h;have hlen:=K3 bu;rw[aY]at hl eF;match ck,bu,hlen,hl,eF with
 | [],_,_,hl,_=>simp at hl;omega
 | [B],bu,hlen,hl,_=>
  have h1:=bu B (by simp);simp only[length_singleton,Nat.one_mul]at hlen;exact⟨B,C,by simp,h1.1,by omega,h1.2,ap⟩
 | B :: D :: ck,_,hlen,_,eF=>
  rw[b1,b1,succ_mul,succ_mul]at hlen;omega
theorem aay{k:Nat}{R:List bn}(h:Runs k R)(hl:R.length<=k):cw R:=by
 obtain⟨ck,C,rfl,bu,j1,ap⟩:=h;have hlen:=K3 bu;rw[aY]at hl;match ck,bu,hlen,hl with
 | [],_,_,_=>simpa using ap
 | [B],bu,hlen,hl=>
  simp only[length_singleton,Nat.one_mul]at hlen;obtain rfl:C=[]:=lq (by omega);simpa using (bu B (by simp)).2
 | B :: D :: ck,_,hlen,hl=>
  rw[b1,b1,succ_mul,succ_mul]at hlen;obtain rfl:C=[]:=lq (by omega);have am:(B :: D :: ck).flatten=[]:=lq (by omega);rw[am];simp[cw]
theorem cy.light{A B:List bn}(h:cy A B)(hA:Light A):Light B:=λt aC=>hA t (h.1.mem_iff.2 aC)
end ao
theorem asN(g c:Nat)(T:List bn)(post:b3)(w:ai)(hl:T.length<=100000)(hw:Light T)(aj:cF w g T post) :
  Calls prog 220 #[.slice (some ⟨g,0,none⟩) T.length c,.int .i64 (T.length:Int),.func (.func 205) #[] #[]] w λe w'=>e=.returned (.tuple #[])/\∃dz,cF w' g dz post/\cw dz/\cy T dz/\w.grownBy w' (some g):=by
 obtain⟨n,az⟩:∃n,n=T.length:=⟨_,rfl⟩;rw[<-az]at hl ⊢;have bX:=I az;have aU:=I aj;have fP:=I hw;clear az aj hw;go_enter func220,ntmps220
 go_wp2;go_loopw [7,8] (λjh bv wr=>∃(a:Nat),jh=.int .i64 a/\bv=.int .i64 ((a:Int)+20)/\a<=n/\Hid (∃(gm:List (List bn)) (R:List bn),a=gm.flatten.length/\uD 20 gm/\cy T (gm.flatten++R)/\cF wr g (gm.flatten++R) post)/\Hid (w.grownBy wr (some g))) (λjh _ _=>n+20-(intOf jh).toNat)
 case atStart=>exact⟨0,rfl,by simp,by omega,I ⟨[],T,rfl,λB bu=>by simp at bu,by simpa using cy.refl T,by simpa using aU.out⟩,I (dl _ _)⟩
 case round=>
  obtain⟨a,rfl,rfl,aS,aQ,aD⟩:=hrel;clear aU;by_cases nl:a+20<=n
  .have eO:Calls prog 230 #[.slice (some ⟨g,0,none⟩) n c,.int .i64 a,.int .i64 ((a:Int)+20),.func (.func 205) #[] #[]] wr λe w'=>e=.returned (.tuple #[])/\Hid (∃(gm:List (List bn)) (R:List bn),a+20=gm.flatten.length/\uD 20 gm/\cy T (gm.flatten++R)/\cF w' g (gm.flatten++R) post)/\Hid (w.grownBy w' (some g)):=by
    obtain⟨gm,R,h1,af,aq,aJ⟩:=aQ.out;have aR:=aq.1.length_eq;rw[aY,<-bX.out]at aR;have aF:R=R.take 20++R.drop 20:=(gA 20 R).symm;have ca:(R.take 20).length=20:=by rw[cq];omega
    rw[aF]at aJ aq;have h:=abW g c gm.flatten (R.take 20) (R.drop 20) post wr (by rw[<-aF,aY];omega) (λt aC=>cy.light aq fP.out t (mem_append_right _ (mem_append_left _ aC))) aJ;rw[<-aF,aY,<-aR,ca,<-h1,show((a+20:Nat):Int)=a+20 by omega]at h;refine h.mono ?_;rintro e w' ⟨bf,ng,bM,ev,gx,qA⟩;have Og:ng.length=20:=by rw[<-gx.1.length_eq,ca]
    obtain⟨bP,bq⟩:=Td af Og ev;exact⟨bf,I ⟨gm++[ng],R.drop 20,by rw[bq,aY,Og,<-h1],bP,by rw[bq,dj];exact aq.trans ((cy.refl _).append (gx.append (cy.refl _))),by rw[bq,dj];exact bM⟩,I (aD.out.trans qA)⟩
   have gg:=I eO;clear eO aQ aD;go_wp2_with fail
   refine gg.out.mono ?_;rintro e aB ⟨rfl,jS,bl⟩;clear gg;go_wp2;go_roundw
   case rel=>exact⟨a+20,by go_num,by go_num,by omega,jS,bl⟩
   case measure=>simp[intOf];omega
  .have eO:Calls prog 230 #[.slice (some ⟨g,0,none⟩) n c,.int .i64 a,.int .i64 n,.func (.func 205) #[] #[]] wr λe w'=>e=.returned (.tuple #[])/\Hid (∃L,L.length=n/\ao.Runs 20 L/\cy T L/\cF w' g L post)/\Hid (w.grownBy w' (some g)):=by
    obtain⟨gm,R,h1,af,aq,aJ⟩:=aQ.out;have aR:=aq.1.length_eq;rw[aY,<-bX.out]at aR;have h:=abW g c gm.flatten R [] post wr (by rw[append_nil,aY];omega) (λt aC=>cy.light aq fP.out t (by simp[aC])) (by simpa using aJ);rw[append_nil,aY,<-aR,<-h1]at h;refine h.mono ?_;rintro e w' ⟨bf,ng,bM,ev,gx,qA⟩;have Og:ng.length=R.length:=gx.1.length_eq.symm;exact⟨bf,I ⟨gm.flatten++ng,by rw[aY];omega,⟨gm,ng,rfl,af,by omega,ev⟩,aq.trans ((cy.refl _).append gx),by simpa using bM⟩,I (aD.out.trans qA)⟩
   have gg:=I eO;clear eO aQ aD;go_wp2_with fail
   refine gg.out.mono ?_;rintro e aB ⟨rfl,jS,bl⟩;clear gg;go_wp2;rename ai=>eY
   go_loopw [6] (λiJ wr=>∃(k:Nat),iJ=.int .i64 k/\20<=k/\k<=200020/\Hid (∃L,L.length=n/\ao.Runs k L/\cy T L/\cF wr g L post)/\Hid (w.grownBy wr (some g))) (λiJ _=>n-(intOf iJ).toNat)
   case atStart=>exact⟨20,rfl,by omega,by omega,jS,bl⟩
   case round=>
    obtain⟨k,rfl,gv,eu,aQ,aD⟩:=hrel;clear jS bl;by_cases lj:k<n
    .have XH:Hid (∃(gm:List (List bn)) (R:List bn),0=gm.flatten.length/\uD (2*k) gm/\ao.Runs k R/\cy T (gm.flatten++R)/\cF wr g (gm.flatten++R) post):=I (by
      obtain⟨L,h1,af,aq,aJ⟩:=aQ.out;exact⟨[],L,rfl,λB bu=>by simp at bu,af,by simpa using aq,by simpa using aJ⟩)
     clear aQ;go_wp2;rename ai=>Ce
     go_loopw [7,8] (λjh bv wr=>∃(a:Nat),jh=.int .i64 a/\bv=.int .i64 ((a:Int)+2*k)/\a<=n/\Hid (∃(gm:List (List bn)) (R:List bn),a=gm.flatten.length/\uD (2*k) gm/\ao.Runs k R/\cy T (gm.flatten++R)/\cF wr g (gm.flatten++R) post)/\Hid (w.grownBy wr (some g))) (λjh _ _=>n+20-(intOf jh).toNat)
     case atStart=>exact⟨0,rfl,by go_num,by omega,XH,aD⟩
     case round=>
      obtain⟨a,rfl,rfl,aS,aQ,aD⟩:=hrel;clear XH;by_cases avc:a+2*k<=n
      .have eO:Calls prog 231 #[.slice (some ⟨g,0,none⟩) n c,.int .i64 a,.int .i64 ((a:Int)+k),.int .i64 ((a:Int)+2*k),.func (.func 205) #[] #[]] wr λe w'=>e=.returned (.tuple #[])/\Hid (∃(gm:List (List bn)) (R:List bn),a+2*k=gm.flatten.length/\uD (2*k) gm/\ao.Runs k R/\cy T (gm.flatten++R)/\cF w' g (gm.flatten++R) post)/\Hid (w.grownBy w' (some g)):=by
        obtain⟨gm,R,h1,af,tR,aq,aJ⟩:=aQ.out;have aR:=aq.1.length_eq;rw[aY,<-bX.out]at aR;obtain⟨aP,V,Dc,rfl,ca,cT,s1,s2,r'⟩:=ap1 (by omega) tR (by omega);have h:=abZ g c n post hl (aP.length+V.length) gm.flatten aP V Dc wr bh (by omega) (by omega) s1 s2 (λt aC=>cy.light aq fP.out t (by rcases List.mem_append.1 aC with aC | aC<;>simp[aC])) (by rw[aY];omega) aJ;unfold tK at h;rw[ca,cT,<-h1,show((a+k:Nat):Int)=a+(k:Int) by omega,show((a+k+k:Nat):Int)=a+2*(k:Int) by omega]at h;refine h.mono ?_;rintro e w' ⟨bf,W,bM,ev,gx,qA⟩;have Oe:W.length=2*k:=by rw[<-gx.1.length_eq,aY];omega
        obtain⟨bP,bq⟩:=Td af Oe ev;exact⟨bf,I ⟨gm++[W],Dc,by rw[bq,aY,Oe,<-h1],bP,r',by
         rw[bq,dj];refine aq.trans ((cy.refl _).append ?_);rw[<-dj];exact gx.append (cy.refl _),by rw[bq,dj];exact bM⟩,I (aD.out.trans qA)⟩
       have gg:=I eO;clear eO aQ aD;go_wp2_with fail
       refine gg.out.mono ?_;rintro e aB ⟨rfl,jS,bl⟩;clear gg;go_wp2;go_roundw
       case rel=>exact⟨a+2*k,by go_num,by go_num,by omega,jS,bl⟩
       case measure=>simp[intOf];omega
      .by_cases Mt:a+k<n
       .have eO:Calls prog 231 #[.slice (some ⟨g,0,none⟩) n c,.int .i64 a,.int .i64 ((a:Int)+k),.int .i64 n,.func (.func 205) #[] #[]] wr λe w'=>e=.returned (.tuple #[])/\Hid (∃L,L.length=n/\ao.Runs (2*k) L/\cy T L/\cF w' g L post)/\Hid (w.grownBy w' (some g)):=by
         obtain⟨gm,R,h1,af,tR,aq,aJ⟩:=aQ.out;have aR:=aq.1.length_eq;rw[aY,<-bX.out]at aR;obtain⟨aP,V,rfl,ca,cT,s1,s2⟩:=ap0 tR (by omega) (by omega);rw[aY]at aR;have h:=abZ g c n post hl (aP.length+V.length) gm.flatten aP V [] wr bh (by omega) (by omega) s1 s2 (λt aC=>cy.light aq fP.out t (by rcases List.mem_append.1 aC with aC | aC<;>simp[aC])) (by simp only[append_nil,aY];omega) (by simpa using aJ);unfold tK at h;rw[ca,<-h1,show((a+k:Nat):Int)=a+(k:Int) by omega,show a+k+V.length=n by omega]at h;refine h.mono ?_;rintro e w' ⟨bf,W,bM,ev,gx,qA⟩;have Oe:W.length=k+V.length:=by rw[<-gx.1.length_eq,aY];omega
         exact⟨bf,I ⟨gm.flatten++W,by rw[aY];omega,⟨gm,W,rfl,af,by omega,ev⟩,aq.trans ((cy.refl _).append gx),by simpa using bM⟩,I (aD.out.trans qA)⟩
        have gg:=I eO;clear eO aQ aD;go_wp2_with fail
        refine gg.out.mono ?_;rintro e aB ⟨rfl,jS,bl⟩;clear gg;go_wp2;go_roundw
        case rel=>exact⟨2*k,by go_num,by omega,by omega,jS,bl⟩
        case measure=>simp[intOf];omega
       .have jS:Hid (∃L,L.length=n/\ao.Runs (2*k) L/\cy T L/\cF wr g L post):=I (by
         obtain⟨gm,R,h1,af,tR,aq,aJ⟩:=aQ.out;have aR:=aq.1.length_eq;rw[aY,<-bX.out]at aR;exact⟨gm.flatten++R,by rw[aY];omega,⟨gm,R,rfl,af,by omega,aay tR (by omega)⟩,aq,aJ⟩)
        clear aQ;go_wp2;go_roundw
        case rel=>exact⟨2*k,by go_num,by omega,by omega,jS,aD⟩
        case measure=>simp[intOf];omega
    .have hfin:∃dz,cF wr g dz post/\cw dz/\cy T dz/\w.grownBy wr (some g):=by
      obtain⟨L,h1,af,aq,aJ⟩:=aQ.out;exact⟨L,aJ,aay af (by omega),aq,aD.out⟩
     have bk:=I hfin;clear hfin aQ aD;go_wp2;go_end0
     exact⟨rfl,bk⟩
theorem asM(g c:Nat)(T:List bn)(post:b3)(w:ai)(hl:T.length<=100000)(hw:Light T)(aj:cF w g T post) :
  Calls prog 204 #[.slice (some ⟨g,0,none⟩) T.length c,.func (.func 205) #[] #[]] w λe w'=>e=.returned (.tuple #[])/\Hid (∃dz,cF w' g dz post/\cw dz/\cy T dz/\w.grownBy w' (some g)):=by
 have bU:=I (asN g c T post w hl hw aj);clear hw aj;go_enter func204,ntmps204
 go_wp2_with fail
 refine bU.out.mono ?_;rintro e au ⟨rfl,hfin⟩;have bk:=I hfin;clear hfin;go_wp2;go_end0
 exact⟨rfl,bk⟩
theorem abX(g c:Nat)(T:List bn)(post:b3)(w:ai)(hl:T.length<=100000)(hw:Light T)(aj:cF w g T post) :
  Calls prog 173 #[.slice (some ⟨g,0,none⟩) T.length c] w λe w'=>e=.returned (.slice (some ⟨g,0,none⟩) T.length c)/\∃dz,cF w' g dz post/\cw dz/\cy T dz/\w.grownBy w' (some g):=by
 have bU:=I (asM g c T post w hl hw aj);clear hw aj;go_enter func173,ntmps173
 go_wp2_with fail
 refine bU.out.mono ?_;rintro e au ⟨rfl,aL⟩;go_wp2;go_ret;exact⟨rfl,aL⟩
theorem wpList_append_run{ops:Array Oper}{rest:List Oper}{o:Oper}{a:Act}(w:ai){Q:Exit->Act->ai->Prop}(D0:o.guard=none)(s x:Operand)(t tx:TypeId)
  (b8:o.op=.call {callee:=.builtin .append,args:=#[s,x],argTypes:=#[t,tx]}) (vs ab2 tm:Value) (w':ai) (ap:a.eval s=vs) (ah:a.eval x=ab2) (aj:∀ty,(Builtin.append_ #[t,tx] ty #[vs,ab2]).run prog w=.ok tm w')
  (h:wpList prog ops Q rest (a.put o.dst tm) w'):wpList prog ops Q (o :: rest) a w:=
 wpList_plain D0 λ_ hK=>by
  unfold Oper.wp execOp;simp only[b8,resolve,invoke,builtin,Sem.run_bind,Sem.run_pure,Result.andThen_ok,map_toArray,map_cons,map_nil,ap,ah,aj];exact hK _ _ h
theorem HV:(prog.info? 231).map (λi=>(i.zero,i.size,i.bytes))=some (some (.agg #[.int .i64 0,.slice none 0 0]),2,32):=by kernel_rfl
theorem O1(l:List bn):(cn l).length=l.length*2:=xd l
theorem O0(l m:List bn):cn (l++m)=cn l++cn m:=K8 l m
theorem ZO(l:List bn):∀u∈cn l,u.oneCell'=true:=by
 induction l with
 | nil=>intro u hu;simp[cn,hT]at hu
 | cons x l ih=>
  intro u hu;unfold cn at hu ih;rw[hT]at hu;rcases List.mem_cons.1 hu with rfl | hu
  .rfl
  .rcases List.mem_cons.1 hu with rfl | hu
   .rfl
   .exact ih u hu
theorem Yq(l:ae):∀u∈aM l,u.oneCell'=true:=by
 intro u hu;simp only[aM,mem_map]at hu;obtain⟨_,_,rfl⟩:=hu;rfl
theorem Yp(l:ae):(aM l).length=l.length*1:=by rw[gw,Nat.mul_one]
theorem akM(l m:ae):aM (l++m)=aM l++aM m:=(EC l m).symm
theorem asi(n:Nat)(w:ai)(am:0<n)(az:n<=100000) :
  Calls prog 222 #[.slice none 0 0,.int .i64 n] w λe w'=>∃G,e=.returned (.slice (some ⟨w.heap.size,0,none⟩) 0 G)/\w'.ownsRow w.heap.size 3 1 (.slice (some ⟨w.heap.size,0,none⟩) 0 G) 0 []/\w.grownBy w' none:=by
 obtain⟨i0,ax,bB,bK,bw⟩:=info_parts oF;obtain⟨G,vr⟩:∃G,G=grownCap w n 0 3:=⟨_,rfl⟩;have aii:n<=G:=by rw[vr];exact grownCap_ge w n 0 3
 have DF:G<=maxLen:=by rw[vr];exact grownCap_le_maxLen w n 0 3 (by unfold maxLen;omega)
 have aO:∀k,(Builtin.zeroCells (.int .i64 0:Value).cells k).size=k*1:=λk=>by simp[Builtin.zeroCells,Value.cells]
 have Eo:∀ty,(Builtin.append_ #[112,3] ty #[.slice none 0 0,.int .i64 n]).run prog w=.ok (.slice (some ⟨w.heap.size,0,none⟩) n G) (w.drew.alloc (.cells (#[]++Builtin.zeroCells (.int .i64 0:Value).cells n++Builtin.zeroCells (.int .i64 0:Value).cells (G-n)) 3)):=λty=>by
  have h:=Lib.run_append_grow_zeros (P:=prog) w 112 3 ty 3 i0 (.int .i64 0) .i64 .i64 underlying112 underlying3 ax bB none 0 0 [] (run_firstCells_none w.drew i0.size 0 0 0) n am (by rw[bK];omega) (by omega) (by omega) (by rw[bw];omega)
   (by rw[eH];exact growslice_fits (by omega) (by rw[bw];omega))
  simp only[eH]at h;rw[<-vr]at h;exact h
 have hfin:(w.drew.alloc (.cells (#[]++Builtin.zeroCells (.int .i64 0:Value).cells n++Builtin.zeroCells (.int .i64 0:Value).cells (G-n)) 3)).ownsRow w.heap.size 3 1 (.slice (some ⟨w.heap.size,0,none⟩) 0 G) 0 []/\w.grownBy (w.drew.alloc (.cells (#[]++Builtin.zeroCells (.int .i64 0:Value).cells n++Builtin.zeroCells (.int .i64 0:Value).cells (G-n)) 3)) none:=
  ⟨⟨by simp,.inr ⟨w.heap.size,G,_,rfl,Nat.le_refl _,heap_alloc_new w.drew _,by omega,DF,by simp only[Array.size_append,aO,Array.size_empty];omega,by simp⟩⟩,⟨rfl,rfl,rfl,by simp,λ_ hk _=>Go.heap_alloc_old w.drew _ hk⟩⟩
 have ey:=I hfin;have hG63:G<=9223372036854775807:=by unfold maxLen at DF;omega
 clear hfin vr aO;generalize w.drew.alloc (.cells (#[]++Builtin.zeroCells (.int .i64 0:Value).cells n++Builtin.zeroCells (.int .i64 0:Value).cells (G-n)) 3)=aB at *;have Kv:=I Eo;clear Eo ax bB bK bw;go_enter func222,ntmps222
 go_wp2_with (at_builtin;refine wpList_append_run _ rfl _ _ 112 3 rfl (.slice none 0 0) (.int .i64 n) (.slice (some ⟨w.heap.size,0,none⟩) n G) aB rfl rfl Kv.out ?_)
 go_wp2;go_ret;exact⟨G,rfl,ey.out.1,ey.out.2⟩
theorem asf(B g1 b4 c1 g2 bT c2:Nat)(ca cT:ae)(w:ai)(h1:0<b4)(pK:ca.length=b4)(eF:cT.length=bT)(iZ:b4<=10000)(lk:bT<=10000)
  (bu:Row w B 112 [.slice (some ⟨g1,0,none⟩) b4 c1,.slice (some ⟨g2,0,none⟩) bT c2])
  (cd:∀W,Below w.heap.size w W->∀j u,(aM ca)[j]?=some u->W.cell? ((⟨g1,0,none⟩:Addr).add j)=some u) (bS:∀W,Below w.heap.size w W->∀j u,(aM cT)[j]?=some u->W.cell? ((⟨g2,0,none⟩:Addr).add j)=some u) :
  Calls prog 208 #[.slice (some ⟨B,0,none⟩) 2 2] w λe w'=>∃v,e=.returned v/\w'.ownsRow w.heap.size 3 1 v (b4+bT) (aM (ca++cT))/\Below w.heap.size w w':=by
 obtain⟨i0,ax,bB,bK,bw⟩:=info_parts oF;have bC:=bu.cell 0;have bf:=bu.cell 1;simp only[dR,dU]at bC bf;have dN:=I bu;have dx:=I cd;have eA:=I bS;have yo:=I (asi (b4+bT) w (by omega) (by omega));have k4:Hid (ca.length=b4):=I pK;have iU:Hid (cT.length=bT):=I eF;clear bu cd bS pK eF;rw[Int.natCast_add]at yo;go_enter func208,ntmps208
 go_wp2;go_loopw [3,11] (λpn bV wr=>wr=w/\((pn=.int .i64 0/\bV=.int .i64 0)\/(pn=.int .i64 b4/\bV=.int .i64 1)\/(pn=.int .i64 ((b4:Int)+bT)/\bV=.int .i64 2))) (λ_ bV _=>2-(intOf bV).toNat)
 case atStart=>exact⟨rfl,.inl ⟨rfl,rfl⟩⟩
 case round=>
  obtain⟨rfl,⟨rfl,rfl⟩ | ⟨rfl,rfl⟩ | ⟨rfl,rfl⟩⟩:=hrel
  .go_wp2;go_roundw
   case rel=>exact⟨by trivial,.inr (.inl ⟨by go_num,by go_num⟩)⟩
   case measure=>simp[intOf]
  .go_wp2;go_roundw
   case rel=>exact⟨by trivial,.inr (.inr ⟨by go_num,by go_num⟩)⟩
   case measure=>simp[intOf]
  .clear bC bf;rename ai=>dv
   go_wp2_with fail
   refine yo.out.mono ?_;rintro e au ⟨G,rfl,hown,cP⟩;have aH:=k8 cP;have aQ:Hid (∃v,Value.slice (some ⟨dv.heap.size,0,none⟩) 0 G=v/\au.ownsRow dv.heap.size 3 1 v 0 (aM [])):=I ⟨_,rfl,hown⟩;have aK:=I aH;clear hown cP aH yo;go_wp2;rename ai=>eY
   go_loopw [6,27] (λwo bV pr=>Hid (Below dv.heap.size dv pr)/\((bV=.int .i64 0/\Hid (pr.ownsRow dv.heap.size 3 1 wo 0 (aM [])))\/(bV=.int .i64 1/\Hid (pr.ownsRow dv.heap.size 3 1 wo b4 (aM ca)))\/(bV=.int .i64 2/\Hid (pr.ownsRow dv.heap.size 3 1 wo (b4+bT) (aM (ca++cT)))))) (λ_ bV _=>2-(intOf bV).toNat)
   case atStart=>
    refine⟨aK,.inl ⟨rfl,I ?_⟩⟩;obtain⟨v,aE,h⟩:=aQ.out;rw[aE];exact h
   case round=>
    obtain⟨ak,⟨rfl,hown⟩ | ⟨rfl,hown⟩ | ⟨rfl,hown⟩⟩:=hrel
    .have kh:=iL dN.out ak.out;have bC:=kh.cell 0;simp only[dR]at bC;have bI:=ak.out.size;have hH:=I (dx.out _ ak);clear kh;go_wp2_with (at_builtin;refine wpList_append_own _ rfl _ _ 112 rfl dv.heap.size 3 i0 (.int .i64 0) 1 8 underlying112 ax bB bK bw rfl (by decide) _ _ _ rfl hown.out ⟨g1,0,none⟩ b4 c1 (aM ca) rfl ?d0 hH.out ?d2 ?d3 ?d4 ?d5 ?_)
     case d0=>rw[Yp,k4.out]
     case d2=>exact Yq ca
     case d3=>unfold maxLen;omega
     case d4=>omega
     case d5=>omega
     intro gZ dt di dn _;have fZ:Below dv.heap.size dv dt:=ak.out.grown dn bI (λq hq=>(hown.out.lt q hq).1);have h2:=I fZ;have jq:Hid (dt.ownsRow dv.heap.size 3 1 gZ b4 (aM ca)):=I di;clear di dn fZ hown ak hH bC;go_wp2;go_roundw
     case rel=>exact⟨h2,.inr (.inl ⟨by go_num,jq⟩)⟩
     case measure=>simp[intOf]
    .have kh:=iL dN.out ak.out;have bf:=kh.cell 1;simp only[dR,dU]at bf;have bI:=ak.out.size;have hH:=I (eA.out _ ak);clear kh;go_wp2_with (at_builtin;refine wpList_append_own _ rfl _ _ 112 rfl dv.heap.size 3 i0 (.int .i64 0) 1 8 underlying112 ax bB bK bw rfl (by decide) _ _ _ rfl hown.out ⟨g2,0,none⟩ bT c2 (aM cT) rfl ?e0 hH.out ?e2 ?e3 ?e4 ?e5 ?_)
     case e0=>rw[Yp,iU.out]
     case e2=>exact Yq cT
     case e3=>unfold maxLen;omega
     case e4=>omega
     case e5=>omega
     intro gZ dt di dn _;have fZ:Below dv.heap.size dv dt:=ak.out.grown dn bI (λq hq=>(hown.out.lt q hq).1);have h2:=I fZ;have jq:Hid (dt.ownsRow dv.heap.size 3 1 gZ (b4+bT) (aM (ca++cT))):=I (by rw[akM];exact di);clear di dn fZ hown ak hH bf;go_wp2;go_roundw
     case rel=>exact⟨h2,.inr (.inr ⟨by go_num,jq⟩)⟩
     case measure=>simp[intOf]
    .go_wp2;go_ret;exact⟨_,rfl,hown,ak⟩
theorem asj(n:Nat)(w:ai)(am:0<n)(az:n<=100000) :
  Calls prog 206 #[.slice none 0 0,.int .i64 n] w λe w'=>∃G,e=.returned (.slice (some ⟨w.heap.size,0,none⟩) 0 G)/\w'.ownsRow w.heap.size 231 2 (.slice (some ⟨w.heap.size,0,none⟩) 0 G) 0 []/\w.grownBy w' none:=by
 obtain⟨i0,ax,bB,bK,bw⟩:=info_parts HV;obtain⟨G,vr⟩:∃G,G=grownCap w n 0 231:=⟨_,rfl⟩;have aii:n<=G:=by rw[vr];exact grownCap_ge w n 0 231
 have DF:G<=maxLen:=by rw[vr];exact grownCap_le_maxLen w n 0 231 (by unfold maxLen;omega)
 have aO:∀k,(Builtin.zeroCells (.agg #[.int .i64 0,.slice none 0 0]:Value).cells k).size=k*2:=λk=>by simp[Builtin.zeroCells,Value.cells]
 have Eo:∀ty,(Builtin.append_ #[226,3] ty #[.slice none 0 0,.int .i64 n]).run prog w=.ok (.slice (some ⟨w.heap.size,0,none⟩) n G) (w.drew.alloc (.cells (#[]++Builtin.zeroCells (.agg #[.int .i64 0,.slice none 0 0]:Value).cells n++Builtin.zeroCells (.agg #[.int .i64 0,.slice none 0 0]:Value).cells (G-n)) 231)):=λty=>by
  have h:=Lib.run_append_grow_zeros (P:=prog) w 226 3 ty 231 i0 (.agg #[.int .i64 0,.slice none 0 0]) .i64 .i64 underlying226 underlying3 ax bB none 0 0 [] (run_firstCells_none w.drew i0.size 0 0 0) n am (by rw[bK];omega) (by omega) (by omega) (by rw[bw];omega)
   (by rw[eH];exact growslice_fits (by omega) (by rw[bw];omega))
  simp only[eH]at h;rw[<-vr]at h;exact h
 have hfin:(w.drew.alloc (.cells (#[]++Builtin.zeroCells (.agg #[.int .i64 0,.slice none 0 0]:Value).cells n++Builtin.zeroCells (.agg #[.int .i64 0,.slice none 0 0]:Value).cells (G-n)) 231)).ownsRow w.heap.size 231 2 (.slice (some ⟨w.heap.size,0,none⟩) 0 G) 0 []/\w.grownBy (w.drew.alloc (.cells (#[]++Builtin.zeroCells (.agg #[.int .i64 0,.slice none 0 0]:Value).cells n++Builtin.zeroCells (.agg #[.int .i64 0,.slice none 0 0]:Value).cells (G-n)) 231)) none:=
  ⟨⟨by simp,.inr ⟨w.heap.size,G,_,rfl,Nat.le_refl _,heap_alloc_new w.drew _,by omega,DF,by simp only[Array.size_append,aO,Array.size_empty];omega,by simp⟩⟩,⟨rfl,rfl,rfl,by simp,λ_ hk _=>Go.heap_alloc_old w.drew _ hk⟩⟩
 have ey:=I hfin;have hG63:G<=9223372036854775807:=by unfold maxLen at DF;omega
 clear hfin vr aO;generalize w.drew.alloc (.cells (#[]++Builtin.zeroCells (.agg #[.int .i64 0,.slice none 0 0]:Value).cells n++Builtin.zeroCells (.agg #[.int .i64 0,.slice none 0 0]:Value).cells (G-n)) 231)=aB at *;have Kv:=I Eo;clear Eo ax bB bK bw;go_enter func206,ntmps206
 go_wp2_with (at_builtin;refine wpList_append_run _ rfl _ _ 226 3 rfl (.slice none 0 0) (.int .i64 n) (.slice (some ⟨w.heap.size,0,none⟩) n G) aB rfl rfl Kv.out ?_)
 go_wp2;go_ret;exact⟨G,rfl,ey.out.1,ey.out.2⟩
theorem asg(B g1 b4 c1 g2 bT c2:Nat)(ca cT:List bn)(w:ai)(h1:0<b4)(pK:ca.length=b4)(eF:cT.length=bT)(iZ:b4<=10000)(lk:bT<=10000)
  (bu:Row w B 226 [.slice (some ⟨g1,0,none⟩) b4 c1,.slice (some ⟨g2,0,none⟩) bT c2])
  (cd:∀W,Below w.heap.size w W->∀j u,(cn ca)[j]?=some u->W.cell? ((⟨g1,0,none⟩:Addr).add j)=some u) (bS:∀W,Below w.heap.size w W->∀j u,(cn cT)[j]?=some u->W.cell? ((⟨g2,0,none⟩:Addr).add j)=some u) :
  Calls prog 174 #[.slice (some ⟨B,0,none⟩) 2 2] w λe w'=>∃v,e=.returned v/\w'.ownsRow w.heap.size 231 2 v (b4+bT) (cn (ca++cT))/\Below w.heap.size w w':=by
 obtain⟨i0,ax,bB,bK,bw⟩:=info_parts HV;have bC:=bu.cell 0;have bf:=bu.cell 1;simp only[dR,dU]at bC bf;have dN:=I bu;have dx:=I cd;have eA:=I bS;have yo:=I (asj (b4+bT) w (by omega) (by omega));have k4:Hid (ca.length=b4):=I pK;have iU:Hid (cT.length=bT):=I eF;clear bu cd bS pK eF;rw[Int.natCast_add]at yo;go_enter func174,ntmps174
 go_wp2;go_loopw [3,11] (λpn bV wr=>wr=w/\((pn=.int .i64 0/\bV=.int .i64 0)\/(pn=.int .i64 b4/\bV=.int .i64 1)\/(pn=.int .i64 ((b4:Int)+bT)/\bV=.int .i64 2))) (λ_ bV _=>2-(intOf bV).toNat)
 case atStart=>exact⟨rfl,.inl ⟨rfl,rfl⟩⟩
 case round=>
  obtain⟨rfl,⟨rfl,rfl⟩ | ⟨rfl,rfl⟩ | ⟨rfl,rfl⟩⟩:=hrel
  .go_wp2;go_roundw
   case rel=>exact⟨by trivial,.inr (.inl ⟨by go_num,by go_num⟩)⟩
   case measure=>simp[intOf]
  .go_wp2;go_roundw
   case rel=>exact⟨by trivial,.inr (.inr ⟨by go_num,by go_num⟩)⟩
   case measure=>simp[intOf]
  .clear bC bf;rename ai=>dv
   go_wp2_with fail
   refine yo.out.mono ?_;rintro e au ⟨G,rfl,hown,cP⟩;have aH:=k8 cP;have aQ:Hid (∃v,Value.slice (some ⟨dv.heap.size,0,none⟩) 0 G=v/\au.ownsRow dv.heap.size 231 2 v 0 (cn [])):=I ⟨_,rfl,hown⟩;have aK:=I aH;clear hown cP aH yo;go_wp2;rename ai=>eY
   go_loopw [6,27] (λwo bV pr=>Hid (Below dv.heap.size dv pr)/\((bV=.int .i64 0/\Hid (pr.ownsRow dv.heap.size 231 2 wo 0 (cn [])))\/(bV=.int .i64 1/\Hid (pr.ownsRow dv.heap.size 231 2 wo b4 (cn ca)))\/(bV=.int .i64 2/\Hid (pr.ownsRow dv.heap.size 231 2 wo (b4+bT) (cn (ca++cT)))))) (λ_ bV _=>2-(intOf bV).toNat)
   case atStart=>
    refine⟨aK,.inl ⟨rfl,I ?_⟩⟩;obtain⟨v,aE,h⟩:=aQ.out;rw[aE];exact h
   case round=>
    obtain⟨ak,⟨rfl,hown⟩ | ⟨rfl,hown⟩ | ⟨rfl,hown⟩⟩:=hrel
    .have kh:=iL dN.out ak.out;have bC:=kh.cell 0;simp only[dR]at bC;have bI:=ak.out.size;have hH:=I (dx.out _ ak);clear kh;go_wp2_with (at_builtin;refine wpList_append_own _ rfl _ _ 226 rfl dv.heap.size 231 i0 (.agg #[.int .i64 0,.slice none 0 0]) 2 32 underlying226 ax bB bK bw rfl (by decide) _ _ _ rfl hown.out ⟨g1,0,none⟩ b4 c1 (cn ca) rfl ?d0 hH.out ?d2 ?d3 ?d4 ?d5 ?_)
     case d0=>rw[O1,k4.out]
     case d2=>exact ZO ca
     case d3=>unfold maxLen;omega
     case d4=>omega
     case d5=>omega
     intro gZ dt di dn _;have fZ:Below dv.heap.size dv dt:=ak.out.grown dn bI (λq hq=>(hown.out.lt q hq).1);have h2:=I fZ;have jq:Hid (dt.ownsRow dv.heap.size 231 2 gZ b4 (cn ca)):=I di;clear di dn fZ hown ak hH bC;go_wp2;go_roundw
     case rel=>exact⟨h2,.inr (.inl ⟨by go_num,jq⟩)⟩
     case measure=>simp[intOf]
    .have kh:=iL dN.out ak.out;have bf:=kh.cell 1;simp only[dR,dU]at bf;have bI:=ak.out.size;have hH:=I (eA.out _ ak);clear kh;go_wp2_with (at_builtin;refine wpList_append_own _ rfl _ _ 226 rfl dv.heap.size 231 i0 (.agg #[.int .i64 0,.slice none 0 0]) 2 32 underlying226 ax bB bK bw rfl (by decide) _ _ _ rfl hown.out ⟨g2,0,none⟩ bT c2 (cn cT) rfl ?e0 hH.out ?e2 ?e3 ?e4 ?e5 ?_)
     case e0=>rw[O1,iU.out]
     case e2=>exact ZO cT
     case e3=>unfold maxLen;omega
     case e4=>omega
     case e5=>omega
     intro gZ dt di dn _;have fZ:Below dv.heap.size dv dt:=ak.out.grown dn bI (λq hq=>(hown.out.lt q hq).1);have h2:=I fZ;have jq:Hid (dt.ownsRow dv.heap.size 231 2 gZ (b4+bT) (cn (ca++cT))):=I (by rw[O0];exact di);clear di dn fZ hown ak hH bf;go_wp2;go_roundw
     case rel=>exact⟨h2,.inr (.inr ⟨by go_num,jq⟩)⟩
     case measure=>simp[intOf]
    .go_wp2;go_ret;exact⟨_,rfl,hown,ak⟩
namespace ao
def dF(L:List bn):ae:=L.flatMap (·.2.2)
def hv(L:List bn):Nat:=(L.map (·.1)).sum
def single(t:bn):Bool:=t.2.2.length == 1
theorem zY(A B:List bn):dF (A++B)=dF A++dF B:=by simp[dF]
theorem Qm(A B:List bn):hv (A++B)=hv A+hv B:=by simp[hv]
theorem abA{A B:List bn}(h:A.Perm B):(dF A).Perm (dF B):=h.flatMap_right _
theorem ati{A B:List bn}(h:A.Perm B):hv A=hv B:=(h.map _).sum_nat
theorem aa5{a:bn}{A:List bn}(h:cw (a :: A)):cw A:=(List.pairwise_cons.1 h).2
theorem PL:∀{A B:List bn},cw A->cw B->(∀v,A.filter (λt=>t.1 == v)=B.filter (λt=>t.1 == v))->A=B
 | [],[],_,_,_=>rfl
 | [],b :: B,_,_,h=>by have:=h b.1;simp at this
 | a :: A,[],_,_,h=>by have:=h a.1;simp at this
 | a :: A,b :: B,hA,bu,h=>by
  have aS:a∈(b :: B).filter (λt=>t.1 == a.1):=by rw[<-h a.1];simp
  have ak:b∈(a :: A).filter (λt=>t.1 == b.1):=by rw[h b.1];simp
  have h1:b.1<=a.1:=by
   rcases List.mem_cons.1 (List.mem_filter.1 aS).1 with e | h1
   .rw[e];exact Nat.le_refl _
   .exact(List.pairwise_cons.1 bu).1 a h1
  have af:a.1<=b.1:=by
   rcases List.mem_cons.1 (List.mem_filter.1 ak).1 with e | h1
   .rw[e];exact Nat.le_refl _
   .exact(List.pairwise_cons.1 hA).1 b h1
  have aF:a.1=b.1:=by omega
  have aq:=h a.1;rw[filter_cons_of_pos (by simp),filter_cons_of_pos (by simp[aF])]at aq;injection aq with e2 e3
  subst e2;congr 1
  refine PL (aa5 hA) (aa5 bu) (λv=>?_);have aJ:=h v;by_cases aE:a.1=v
  .rw[filter_cons_of_pos (by simp[aE]),filter_cons_of_pos (by simp[aE])]at aJ;injection aJ
  .rw[filter_cons_of_neg (by simp[aE]),filter_cons_of_neg (by simp[aE])]at aJ;exact aJ
theorem aa4{A:List bn}(h:cw A)(p:bn->Bool):cw (A.filter p):=List.Pairwise.filter p h
structure w7(T P:List bn):Prop where
 len:P.length=T.length/2
 wt:∀x,x<P.length->wt P x=wt T (2*x)+wt T (2*x+1)
 cM:∀x,x<P.length->(P[x]?.getD hs).2.2=(T[2*x]?.getD hs).2.2++(T[2*x+1]?.getD hs).2.2
theorem arS(T:List bn)(q:Nat)(h:2*q+2<=T.length):T.take (2*(q+1))=T.take (2*q)++[T[2*q]?.getD hs,T[2*q+1]?.getD hs]:=by
 rw[show 2*(q+1)=(2*q+1)+1 by omega,gb (by omega),gb (by omega),bH (by omega),bH (by omega),b6,b6,dj];rfl
theorem take_one(P:List bn)(q:Nat)(h:q<P.length):P.take (q+1)=P.take q++[P[q]?.getD hs]:=by
 rw[gb h,bH h,b6]
theorem O3{T P:List bn}(h:w7 T P):∀q,q<=P.length->dF (P.take q)=dF (T.take (2*q))/\hv (P.take q)=hv (T.take (2*q))
 | 0,_=>by simp[dF,hv]
 | q+1,hq=>by
  obtain⟨h1,af⟩:=O3 h q (by omega);have hl:=h.len;have aq:=h.wt q (by omega);have aJ:=h.cM q (by omega);rw[take_one P q (by omega),arS T q (by omega),zY,zY,Qm,Qm,h1,af];unfold wt at aq;simp only[dF,hv,flatMap_cons,flatMap_nil,append_nil,map_cons,map_nil,sum_cons,sum_nil,ga];rw[aq,aJ];exact⟨rfl,rfl⟩
theorem anu{T P:List bn}(h:w7 T P)(cp:cw T):cw P:=by
 unfold cw;rw[pairwise_iff_getElem];intro i j ax ar vG;have hl:=h.len;have h1:=h.wt i ax;have af:=h.wt j ar;rw[uB ax]at h1;rw[uB ar]at af;have:=rH cp (show 2*i<=2*j by omega) (by omega);have:=rH cp (show 2*i+1<=2*j+1 by omega) (by omega);omega
structure sh(ag:ae)(S:List bn):Prop where
 PK:cw S
 one:∀t∈S,∃i,t.2.2=[i]/\t.1=bZ ag i/\0<bZ ag i/\i<ag.length
 nodup:(dF S).Nodup
 all:∀i,i<ag.length->0<bZ ag i->i∈dF S
inductive tJ (S:List bn):Nat->List bn->Prop
 | zero:tJ S 0 S
 | succ {t:Nat} {T P dz:List bn}:tJ S t T->w7 T P->cy (S++P) dz->cw dz->tJ S (t+1) dz
def AH(ag:ae)(t:bn):Prop:=t.1=(t.2.2.map (bZ ag)).sum/\0<t.2.2.length/\∀i∈t.2.2,0<bZ ag i/\i<ag.length
theorem BS{T:List bn}{x:Nat}(h:x<T.length):T[x]?.getD hs∈T:=by
 rw[bH h,b6];exact b7 h
theorem ZS{ag:ae}{T P:List bn}(h:w7 T P)(cp:∀t∈T,AH ag t):∀t∈P,AH ag t/\2<=t.2.2.length:=λt aC=>by
 obtain⟨x,ah,rfl⟩:=List.mem_iff_getElem.1 aC;have hl:=h.len;have h1:=h.wt x ah;have af:=h.cM x ah;unfold wt at h1;rw[bH ah,b6]at h1 af;obtain⟨ie,a2,a3⟩:=cp _ (BS (show 2*x<T.length by omega));obtain⟨bP,bq,eo⟩:=cp _ (BS (show 2*x+1<T.length by omega));unfold AH;rw[af,map_append,sum_append_nat,aY];refine⟨⟨by omega,by omega,λi ax=>?_⟩,by omega⟩;rcases List.mem_append.1 ax with ax | ax
 .exact a3 i ax
 .exact eo i ax
theorem PF{ag:ae}{S:List bn}(h:sh ag S):∀t∈S,AH ag t/\single t=true:=λt aC=>by
 obtain⟨i,h1,af,aq,aJ⟩:=h.one t aC;unfold AH single;rw[h1];refine⟨⟨by simp[af],by simp,λk hk=>?_⟩,by simp⟩;simp only[mem_singleton]at hk;subst hk;exact⟨aq,aJ⟩
theorem H3{ag:ae}{S:List bn}(h:sh ag S):∀{t:Nat} {T:List bn},tJ S t T->cw T/\∀u∈T,AH ag u:=by
 intro t T cp;induction cp with
 | zero=>exact⟨h.PK,λu hu=>(PF h u hu).1⟩
 | succ _ aw ap aj ih=>
  refine⟨aj,λu hu=>?_⟩;rcases List.mem_append.1 (ap.1.mem_iff.2 hu)with h1 | h1
  .exact(PF h u h1).1
  .exact(ZS aw ih.2 u h1).1
theorem G9(L:List bn)(p q:bn->Bool):(L.filter p).filter q=(L.filter q).filter p:=by
 rw[List.filter_filter,List.filter_filter];congr 1
 funext t
 exact Bool.and_comm _ _
theorem merged{S P dz:List bn}(cu:cw S)(cJ:cw P)(h1:∀t∈S,single t=true)(af:∀t∈P,single t=false)(ap:cy (S++P) dz)(aj:cw dz):dz.filter single=S/\dz.filter (λt=>!single t)=P:=by
 have aF:S.filter single=S:=List.filter_eq_self.2 h1;have e2:P.filter single=[]:=List.filter_eq_nil_iff.2 (λt aC=>by simp[af t aC]);have e3:S.filter (λt=>!single t)=[]:=List.filter_eq_nil_iff.2 (λt aC=>by simp[h1 t aC]);have e4:P.filter (λt=>!single t)=P:=List.filter_eq_self.2 (λt aC=>by simp[af t aC]);refine⟨PL (aa4 aj _) cu (λv=>?_),PL (aa4 aj _) cJ (λv=>?_)⟩
 .rw[G9,<-ap.2 v,G9,filter_append,aF,e2,append_nil]
 .rw[G9,<-ap.2 v,G9,filter_append,e3,e4,nil_append]
theorem Uw(T:List bn)(p:bn->Bool)(k:Nat):(T.take k).filter p=(T.filter p).take ((T.take k).filter p).length:=
 List.prefix_iff_eq_take.1 ((take_prefix k T).filter p)
theorem agL{S P dz:List bn}(h1:dz.filter single=S)(af:dz.filter (λt=>!single t)=P)(k:Nat)(hk:k<=dz.length) :
  ∃s q,s+q=k/\s<=S.length/\q<=P.length/\(dz.take k).Perm (S.take s++P.take q)/\(dz.take k).filter single=S.take s/\(dz.take k).filter (λt=>!single t)=P.take q:=by
 have aF:=Uw dz single k;have e2:=Uw dz (λt=>!single t) k;rw[h1]at aF;rw[af]at e2;have aw:=(filter_append_perm single (dz.take k)).symm;have hl:=aw.length_eq;rw[cq,aY]at hl;have ca:((dz.take k).filter single).length<=S.length:=by rw[aF,cq];omega
 have cT:((dz.take k).filter (λt=>!single t)).length<=P.length:=by rw[e2,cq];omega
 refine⟨_,_,?_,ca,cT,?_,aF,e2⟩
 .omega
 .rw[<-aF,<-e2];exact aw
theorem Lj(f:Nat->Nat)(N:Nat):∀(Y:ae),(∀y∈Y,y<N)->((List.range N).map λi=>f i*Y.count i).sum=(Y.map f).sum
 | [],_=>by
  have:∀L:ae,(L.map λi=>f i*([]:ae).count i).sum=0:=λL=>by
   induction L with
   | nil=>rfl
   | cons a L ih=>rw[map_cons,sum_cons,ih];simp
  exact this _
 | y :: Y,h=>by
  have ih:=Lj f N Y (λz aO=>h z (ew _ aO));have hy:=h y ea;rw[map_cons,sum_cons,<-ih];have e:f y=((List.range N).map λi=>if i=y then f y else 0).sum:=by rw[zW,aA hy]
  conv=>rhs;rw[e]
  rw[<-xY];congr 1
  apply map_congr_left
  intro i _;rw[count_cons];by_cases ax:i=y
  .subst ax;simp[Nat.mul_add];omega
  .have:(y == i)=false:=by rw[beq_eq_false_iff_ne];exact λh=>ax h.symm
   rw[this,ay ax];simp
theorem Oi:∀(k:Nat) (l X Y:ae),l.Pairwise (·<=·)->l.Perm (X++Y)->X.length=k->(l.take k).sum<=X.sum
 | 0,_,_,_,_,_,_=>by simp
 | k+1,[],X,Y,_,aw,hk=>by
  have:=aw.length_eq;rw[aY,hk,length_nil]at this;omega
 | k+1,a :: l,X,Y,ap,aw,hk=>by
  rw[pairwise_cons]at ap;rw[take_succ_cons,sum_cons];by_cases cK:a∈X
  .obtain⟨A,B,rfl⟩:=append_of_mem cK;have h1:l.Perm ((A++B)++Y):=by
    refine List.Perm.cons_inv (a:=a) (aw.trans ?_);simp only[dj,cons_append];exact perm_middle
   have af:=Oi k l (A++B) Y ap.2 h1 (by simp only[aY,b1]at hk ⊢;omega);simp only[sum_append_nat,sum_cons]at af ⊢;omega
  .match X,hk with
   | x :: X,hk=>
    have vw:a∈Y:=by
     have h1:a∈(x :: X)++Y:=aw.mem_iff.1 (by simp);rcases List.mem_append.1 h1 with h1 | h1
     .exact absurd h1 cK
     .exact h1
    obtain⟨A,B,rfl⟩:=append_of_mem vw;have h1:l.Perm (X++(x :: (A++B))):=by
     refine List.Perm.cons_inv (a:=a) (aw.trans ?_);have aF:((x :: X)++(A++a :: B)).Perm (a :: ((x :: X)++(A++B))):=by
      rw[<-dj,<-dj];exact perm_middle
     refine aF.trans (List.Perm.cons _ ?_);rw[cons_append];exact List.perm_middle.symm
    have af:=Oi k l X (x :: (A++B)) ap.2 h1 (by simpa using hk);have aq:a<=x:=by
     rcases List.mem_cons.1 (aw.mem_iff.2 (show x∈(x :: X)++(A++a :: B) by simp))with e | aq
     .rw[e];exact Nat.le_refl _
     .exact ap.1 x aq
    rw[sum_cons];omega
theorem Zc{S P dz:List bn}(aw:(S++P).Perm dz)(aj:cw dz)(a b:Nat)(aS:a<=S.length)(ak:b<=P.length):hv (dz.take (a+b))<=hv (S.take a)+hv (P.take b):=by
 have h1:(dz.map (·.1)).Pairwise (·<=·):=List.pairwise_map.2 aj;have af:(dz.map (·.1)).Perm (((S.take a++P.take b).map (·.1))++((S.drop a++P.drop b).map (·.1))):=by
  rw[<-map_append];refine(aw.symm.trans ?_).map _;conv=>lhs;rw[<-gA a S,<-gA b P]
  simp only[dj];refine List.Perm.append_left _ ?_;rw[<-dj,<-dj];exact List.Perm.append_right _ perm_append_comm
 have aq:=Oi (a+b) _ _ _ h1 af (by rw[cQ,aY,cq,cq];omega);unfold hv;rw[map_take];rw[map_append,sum_append_nat]at aq;exact aq
end ao
end Go.Proofs.YtgiicohbigiapaaGreat
