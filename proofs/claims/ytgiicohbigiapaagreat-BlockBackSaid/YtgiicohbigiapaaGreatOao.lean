/- Contracts. -/
import Derived.Test.YtgiicohbigiapaaGreatOal
import Derived.Shelf.SlSortCmp.QuietGrown
import Derived.Lib.AppendZerosOnto
import Derived.Test.YtgiicohbigiapaaGreatOz1
import Derived.Test.YtgiicohbigiapaaGreatOz0
set_option maxHeartbeats 4000000
set_option maxRecDepth 100000
open Go.Proofs.Tryz Go.Proofs.YtgiicohbigiapaaGreat.am List Nat Option
namespace Go.Proofs.YtgiicohbigiapaaGreat
open Go.RowKit Go.Sort
abbrev bu:=Nat×(Nat×Nat)×ae
def yW(t:bu):Value:=.int .i64 (t.1:Int)
def pI(t:bu):Value:=.slice (some ⟨t.2.1.1,0,none⟩) t.2.2.length t.2.1.2
def ha:bu:=(0,(0,0),[])
def cp(l:List bu):b1:=hG yW pI l
theorem wn(w:ah)(n:Nat)(os:Array Obj):Below w.heap.size w (grow (w.drewN n) os):=by
 refine⟨rfl,rfl,rfl,?_,λk hk=>?_⟩
 .simp[grow]
 .exact heap_grow_old (w.drewN n) os hk
theorem asL(a b:Nat)(u v:Value)(aV:a<=4000000000)(ak:b<=4000000000)(w:ah) :
  Calls prog 205 #[.agg #[.int .i64 a,u],.agg #[.int .i64 b,v]] w λe w'=>e=.returned (.int .i64 ((a:Int)-b))/\∃q os,w'=grow (w.drewN q) os:=by
 go_enter func205,ntmps205
 go_wp2;go_ret;exact⟨rfl,0,#[.cells #[.int .i64 a,u] 231,.cells #[.int .i64 b,v] 231],by rw[alloc_eq_grow,alloc_eq_grow,grow_grow];rfl⟩
section
variable {α:Type}
theorem ZD(d x y:α)(P Q R:List α):swp d (P++x::(Q++y::R)) P.length (P.length+1+Q.length)=P++y::(Q++x::R):=by
 unfold swp;have aG:(P++x::(Q++y::R))[P.length+1+Q.length]?=some y:=by
  rw[iY (by omega),show P.length+1+Q.length-P.length=Q.length+1 by omega,dJ,iY (by omega),Nat.sub_self];rfl
 have e2:(P++x::(Q++y::R))[P.length]?=some x:=by
  rw[iY (by omega),Nat.sub_self];rfl
 rw[aG,e2,b7,b7,set_append_right _ _ (by omega),Nat.sub_self,set_cons_zero,set_append_right _ _ (by omega),show P.length+1+Q.length-P.length=Q.length+1 by omega,set_cons_succ,
  set_append_right _ _ (by omega),Nat.sub_self,set_cons_zero]
theorem OY(d x y:α)(P R:List α):swp d (P++x::y::R) P.length (P.length+1)=P++y::x::R:=ZD d x y P [] R
theorem ZC(d:α)(l:List α)(i j:Nat)(ay:i<l.length)(ar:j<l.length):swp d l i j=swp d l j i:=by
 apply ext_getElem?
 intro k;unfold swp;rw[getElem?_set,getElem?_set,getElem?_set,getElem?_set,length_set,length_set];by_cases h1:j=k
 .subst h1;by_cases af:i=j
  .subst af;rfl
  .simp[af,ar]
 .by_cases af:i=k
  .subst af;simp[h1,ay]
  .simp[h1,af]
end
def cF(w:ah)(g:Nat)(L:List bu)(post:b1):Prop:=Row w g 231 (cp L++post)
theorem cF.below{w w':ah}{g:Nat}{L:List bu}{post:b1}(h:cF w g L post)(ak:av w w'):cF w' g L post:=iA h ak
theorem Hq{w:ah}{g:Nat}{L:List bu}{post:b1}(aj:cF w g L post)(i j:Nat)(ay:i<L.length)(ar:j<L.length) :
  ∃(a b:Int) (g1 b2 c1 g2 bU c2:Nat),(w.cell? ⟨g,i*2,none⟩=some (.int .i64 a)/\w.cell? ⟨g,i*2+1,none⟩=some (.slice (some ⟨g1,0,none⟩) b2 c1))/\(w.cell? ⟨g,j*2,none⟩=some (.int .i64 b)/\w.cell? ⟨g,j*2+1,none⟩=some (.slice (some ⟨g2,0,none⟩) bU c2)) /\
   (w.frozen? ⟨g,i*2,none⟩=false/\w.frozen? ⟨g,i*2+1,none⟩=false/\w.frozen? ⟨g,j*2,none⟩=false/\w.frozen? ⟨g,j*2+1,none⟩=false) /\
   (∃v1,(w.setCell ⟨g,i*2,none⟩ (.int .i64 b)).cell? ⟨g,j*2,none⟩=some v1)/\(∃v2,((w.setCell ⟨g,i*2,none⟩ (.int .i64 b)).setCell ⟨g,i*2+1,none⟩ (.slice (some ⟨g2,0,none⟩) bU c2)).cell? ⟨g,j*2+1,none⟩=some v2) /\
   cF ((((w.setCell ⟨g,i*2,none⟩ (.int .i64 b)).setCell ⟨g,i*2+1,none⟩ (.slice (some ⟨g2,0,none⟩) bU c2)).setCell ⟨g,j*2,none⟩ (.int .i64 a)).setCell ⟨g,j*2+1,none⟩ (.slice (some ⟨g1,0,none⟩) b2 c1)) g (swp ha L i j) post:=by
 obtain⟨c0,c1⟩:=vt (f:=yW) (h:=pI) aj i ay;obtain⟨bD,bh⟩:=vt (f:=yW) (h:=pI) aj j ar;obtain⟨v1,tB⟩:=cell?_setCell_some (w:=w) (p:=⟨g,i*2,none⟩) (x:=.int .i64 (L[j].1:Int)) (q:=⟨g,j*2,none⟩) bD;obtain⟨v2,n9⟩:=cell?_setCell_some (w:=w) (p:=⟨g,i*2,none⟩) (x:=.int .i64 (L[j].1:Int)) (q:=⟨g,j*2+1,none⟩) bh;obtain⟨v3,Wo⟩:=cell?_setCell_some (w:=w.setCell ⟨g,i*2,none⟩ (.int .i64 (L[j].1:Int))) (p:=⟨g,i*2+1,none⟩) (x:=pI L[j]) (q:=⟨g,j*2+1,none⟩) n9;exact⟨L[i].1,L[j].1,L[i].2.1.1,L[i].2.2.length,L[i].2.1.2,L[j].2.1.1,L[j].2.2.length,L[j].2.1.2,⟨c0,c1⟩,⟨bD,bh⟩,⟨aj.free _,aj.free _,aj.free _,aj.free _⟩,⟨v1,tB⟩,⟨v3,Wo⟩,YB (f:=yW) (h:=pI) (d:=ha) aj i j ay ar⟩
namespace am
theorem ao9{α:Type}(d:α)(X A M B Y:List α)(k:Nat)(hk:k<A.length)(rR:B.length=A.length) :
  swp d (X++((B.take k++A.drop k)++(M++((A.take k++B.drop k)++Y)))) (X.length+k) (X.length+A.length+M.length+k)=X++((B.take (k+1)++A.drop (k+1))++(M++((A.take (k+1)++B.drop (k+1))++Y))):=by
 have h:=ZD d A[k] (B[k]'(by omega)) (X++B.take k) (A.drop (k+1)++(M++A.take k)) (B.drop (k+1)++Y);rw[aY,cr,Nat.min_eq_left (by omega)]at h;rw[show X.length+k+1+(A.drop (k+1)++(M++A.take k)).length=X.length+A.length+M.length+k by
  rw[aY,aY,cB,cr,Nat.min_eq_left (by omega)];omega]at h
 have aG:X++((B.take k++A.drop k)++(M++((A.take k++B.drop k)++Y)))=(X++B.take k)++A[k]::((A.drop (k+1)++(M++A.take k))++B[k]'(by omega)::(B.drop (k+1)++Y)):=by
  rw[drop_eq_getElem_cons hk,drop_eq_getElem_cons (show k<B.length by omega)];simp only[df,cons_append]
 have e2:X++((B.take (k+1)++A.drop (k+1))++(M++((A.take (k+1)++B.drop (k+1))++Y)))=(X++B.take k)++B[k]'(by omega)::((A.drop (k+1)++(M++A.take k))++A[k]::(B.drop (k+1)++Y)):=by
  rw[fY hk,fY (show k<B.length by omega)];simp only[df,cons_append,nil_append]
 rw[aG,h,e2]
def cv(L:List bu):Prop:=L.Pairwise λa b=>a.1<=b.1
def cw(A B:List bu):Prop:=A.Perm B/\∀v,A.filter (λt=>t.1==v)=B.filter (λt=>t.1==v)
theorem cw.refl(A:List bu):cw A A:=⟨List.Perm.refl _,λ_=>rfl⟩
theorem cw.trans{A B C:List bu}(h:cw A B)(k:cw B C):cw A C:=⟨h.1.trans k.1,λv=>(h.2 v).trans (k.2 v)⟩
theorem cw.append{A B C D:List bu}(h:cw A B)(k:cw C D):cw (A++C) (B++D):=⟨h.1.append k.1,λv=>by rw[filter_append,filter_append,h.2 v,k.2 v]⟩
theorem cw.swap{A B:List bu}(h:∀a∈A,∀b∈B,a.1≠b.1):cw (A++B) (B++A):=⟨perm_append_comm,λv=>by
 rw[filter_append,filter_append];by_cases hA:∃a∈A,a.1=v
 .obtain⟨a,aV,rfl⟩:=hA;have:B.filter (λt=>t.1==a.1)=[]:=List.filter_eq_nil_iff.2 (λb ak=>by
   have:=h a aV b ak;simp only[beq_iff_eq];omega)
  rw[this,append_nil,nil_append]
 .have:A.filter (λt=>t.1==v)=[]:=List.filter_eq_nil_iff.2 (λa aV=>by
   simp only[beq_iff_eq];exact λe=>hA ⟨a,aV,e⟩)
  rw[this,append_nil,nil_append]⟩
theorem M4{P Q:List bu}{x:bu}(h:cv (P++Q))(jO:∀q∈Q,x.1<q.1)(cJ:∀p∈P,p.1<=x.1):cv (P++x::Q)/\cw ((P++Q)++[x]) (P++x::Q):=by
 unfold cv at h ⊢;rw[pairwise_append]at h;refine⟨?_,?_⟩
 .rw[pairwise_append,pairwise_cons];refine⟨h.1,⟨λq hq=>by have:=jO q hq;omega,h.2.1⟩,λp ax y hy=>?_⟩;rcases List.mem_cons.1 hy with rfl|hy
  .exact cJ p ax
  .exact h.2.2 p ax y hy
 .rw[df];have h1:cw (Q++[x]) ([x]++Q):=cw.swap (λa aV b ak=>by
   simp only[mem_singleton]at ak;subst ak;have:=jO a aV;omega)
  exact(cw.refl P).append h1
theorem al5{P:List bu}{p x:bu}(h:cv (P++[p]))(ai:p.1<=x.1):∀q∈P++[p],q.1<=x.1:=λq hq=>by
 unfold cv at h;rw[pairwise_append]at h;rcases List.mem_append.1 hq with hq|hq
 .have:=h.2.2 q hq p (by simp);omega
 .simp only[mem_singleton]at hq;subst hq;exact ai
end am
theorem A8{w:ah}{g:Nat}{L:List bu}{post:b1}{i:Nat}{t:bu}(h:cF w g L post)(ay:L[i]?=some t):w.cell? ⟨g,i*2,none⟩=some (.int .i64 (t.1:Int))/\w.cell? ⟨g,i*2+1,none⟩=some (pI t):=by
 have hl:i<L.length:=by
  rcases eF i L.length with h1|h1
  .exact h1
  .rw[getElem?_eq_none h1]at ay;cases ay
 have h1:=vt (f:=yW) (h:=pI) h i hl;rw[bI hl]at ay;injection ay with ay
 rw[ay]at h1;exact h1
theorem KU{α:Type}(x:α)(A B:List α):(A++x::B)[A.length]?=some x:=by
 rw[iY (by omega),Nat.sub_self];rfl
theorem aif{α:Type}(x y:α)(A B:List α):(A++x::y::B)[A.length+1]?=some y:=by
 rw[iY (by omega),show A.length+1-A.length=1 by omega];rfl
def Light(L:List bu):Prop:=∀t∈L,t.1<=4000000000
theorem Fx(a b:Nat)(g1 b2 c1 g2 bU c2:Nat)(aV:a<=4000000000)(ak:b<=4000000000)(w:ah)(n:Nat)(os:Array Obj) :
  Calls prog 205 #[.agg #[.int .i64 a,.slice (some ⟨g1,0,none⟩) b2 c1],.agg #[.int .i64 b,.slice (some ⟨g2,0,none⟩) bU c2]] (grow (w.drewN n) os) λe o5=>e=.returned (.int .i64 ((a:Int)-b))/\∃p:GrownBy,o5=grow (w.drewN p.n) p.os:=
 Calls.grown_of (asL a b _ _ aV ak _)
theorem FU:∀args w,(callFunc 205 args).run prog w=.ok (.enter 205 args) w:=enters_of func205 (by kernel_rfl) rfl
theorem Z2(g c:Nat)(X Z Y:List bu)(post:b1)(w:ah)(hl:(X++(Z++Y)).length<=100000)(hw:Light Z)(aj:cF w g (X++(Z++Y)) post) :
  Calls prog 230 #[.slice (some ⟨g,0,none⟩) (X++(Z++Y)).length c,.int .i64 (X.length:Int),.int .i64 ((X.length+Z.length:Nat):Int),.func (.func 205) #[] #[]] w λe w'=>e=.returned (.tuple #[])/\∃mM,cF w' g (X++(mM++Y)) post/\cv mM/\cw Z mM/\w.grownBy w' (some g):=by
 obtain⟨n,aA⟩:∃n,n=(X++(Z++Y)).length:=⟨_,rfl⟩;obtain⟨b,ak⟩:∃b,b=X.length+Z.length:=⟨_,rfl⟩;rw[<-aA]at hl ⊢;rw[<-ak];have hlen:n=X.length+Z.length+Y.length:=by rw[aA];simp only[aY];omega
 obtain⟨kA,kv⟩:∃kA,kA=X.length:=⟨_,rfl⟩;rw[<-kv]at ak hlen ⊢;cases Z with
|nil=>
  have aL:∃mM,cF w g (X++(mM++Y)) post/\cv mM/\cw [] mM/\w.grownBy w (some g):=⟨[],aj,by simp[cv],cw.refl _,dg _ _⟩;have br:=I aL;simp only[length_nil,fX]at ak;rw[ak];have ai:kA<=100000:=by omega
  clear aL aA hlen aj hw kv ak;go_enter func230,ntmps230
  go_wp2;go_loopw [8] (λbV wr=>bV=.int .i64 ((kA:Int)+1)/\wr=w) (λ_ _=>0)
  case atStart=>exact⟨by go_num,rfl⟩
  case round=>
   obtain⟨rfl,rfl⟩:=hrel;go_wp2;go_end0
   exact⟨rfl,br⟩
|cons z Z=>
  have aS:∃cZ R,cZ.length=1/\cv cZ/\cw (z::Z) (cZ++R)/\cF w g (X++(cZ++(R++Y))) post:=⟨[z],Z,rfl,by simp[cv],cw.refl _,aj⟩;have cN:=I aS;have fm:=I hw;have k4:kA+1<=b:=by rw[ak,bY];omega
  have oR:b<=n:=by omega
  have b5:=I ak;have uk:=I kv;clear aS aj hw ak aA hlen kv;have mj:=FU;go_enter func230,ntmps230
  go_wp2;go_loopw [8] (λbV wr=>∃(i:Nat),bV=.int .i64 i/\kA+1<=i/\i<=b/\Hid (∃cZ R,kA+cZ.length=i/\cv cZ/\cw (z::Z) (cZ++R)/\cF wr g (X++(cZ++(R++Y))) post)/\Hid (w.grownBy wr (some g))) (λbV _=>b-(intOf bV).toNat)
  case atStart=>
   obtain⟨cZ,R,h1,af,aq,aK⟩:=cN.out;exact⟨kA+1,by go_num,by omega,k4,I ⟨cZ,R,by omega,af,aq,aK⟩,I (dg _ _)⟩
  case round=>
   obtain⟨i,rfl,LR,Gt,aS,aF⟩:=hrel;by_cases av0:i<b
   .obtain⟨x,jE⟩:∃x,Hid (x∈z::Z/\∃cZ R,kA+cZ.length=i/\cv cZ/\cw (z::Z) (cZ++x::R)/\cF wr g (X++(cZ++(x::(R++Y)))) post):=by
     obtain⟨cZ,R,h1,af,aq,aK⟩:=aS.out;have aT:=aq.1.length_eq;rw[aY]at aT;have:=b5.out;cases R with
    |nil=>simp at aT;rw[bY]at this;omega
    |cons x R=>exact⟨x,I ⟨aq.1.mem_iff.2 (by simp),cZ,R,h1,af,aq,aK⟩⟩
    have aem:=I jE.out.1;have gP:=I jE.out.2;clear aS jE;go_wp2;rename ah=>eQ
    go_loopw [9] (λhB wr=>∃(j:Nat),hB=.int .i64 j/\kA<=j/\j<=i/\Hid (∃P Q R,kA+P.length=j/\kA+P.length+Q.length=i/\cv (P++Q)/\(∀q∈Q,x.1<q.1)/\cw (z::Z) ((P++Q)++x::R)/\cF wr g (X++(P++x::(Q++(R++Y)))) post)/\Hid (w.grownBy wr (some g))) (λhB _=>(intOf hB).toNat)
    case atStart=>
     obtain⟨cZ,R,h1,af,aq,aK⟩:=gP.out;exact⟨i,rfl,by omega,by omega,I ⟨cZ,[],R,h1,by simpa using h1,by simpa using af,by simp,by simpa using aq,by simpa using aK⟩,aF⟩
    case round=>
     obtain⟨j,rfl,av1,av2,eZ,bp⟩:=hrel;clear aF;by_cases akZ:kA<j
     .obtain⟨jG,rfl⟩:∃jG,j=jG+1:=⟨j-1,by omega⟩;obtain⟨p,hin2⟩:∃p,Hid (∃P Q R,kA+P.length=jG/\kA+P.length+1+Q.length=i/\cv ((P++[p])++Q)/\(∀q∈Q,x.1<q.1)/\cw (z::Z) (((P++[p])++Q)++x::R)/\cF wr g ((X++P)++p::x::(Q++(R++Y))) post):=by
       obtain⟨P,Q,R,h1,af,aq,aK,aT,ci⟩:=eZ.out;rcases eq_nil_or_concat P with rfl|⟨rG,p,rfl⟩
       .simp at h1;omega
       .rw[concat_eq_append]at h1 af aq aT ci;rw[aY,length_singleton]at h1 af;exact⟨p,I ⟨rG,Q,R,by omega,by omega,aq,aK,aT,by simpa using ci⟩⟩
      have ajF:(x.1<=4000000000/\p.1<=4000000000)/\(wr.cell? ⟨g,jG*2,none⟩=some (.int .i64 (p.1:Int))/\wr.cell? ⟨g,jG*2+1,none⟩=some (pI p))/\(wr.cell? ⟨g,(jG+1)*2,none⟩=some (.int .i64 (x.1:Int))/\wr.cell? ⟨g,(jG+1)*2+1,none⟩=some (pI x))/\g<wr.heap.size:=by
       obtain⟨P,Q,R,h1,af,aq,aK,aT,ci⟩:=hin2.out;have tk:(X++P).length=jG:=by rw[aY,<-uk.out];exact h1
       have aG:=KU p (X++P) (x::(Q++(R++Y)));have e2:=aif p x (X++P) (Q++(R++Y));rw[tk]at aG e2;exact⟨⟨fm.out x aem.out,fm.out p (aT.1.mem_iff.2 (by simp))⟩,A8 ci aG,A8 ci e2,ci.lt⟩
      obtain⟨⟨lN,xR⟩,⟨c0,c1⟩,⟨bD,bh⟩,jC⟩:=ajF;have m0:=cell_grown (a:=⟨g,jG*2,none⟩) jC c0;have m1:=cell_grown (a:=⟨g,jG*2+1,none⟩) jC c1;have m2:=cell_grown (a:=⟨g,(jG+1)*2,none⟩) jC bD;have m3:=cell_grown (a:=⟨g,(jG+1)*2+1,none⟩) jC bh;have gX:=Fx x.1 p.1 x.2.1.1 x.2.2.length x.2.1.2 p.2.1.1 p.2.2.length p.2.1.2 lN xR wr;simp only[pI]at m1 m3;have pS:=I gX;have ak0:decide ((kA:Int)<jG+1)=true:=cf;have w0:IntKind.i64.wrap (jG:Int)=jG:=by rw[IntKind.wrap_i64];omega
      have mixed:prog.follows .mixedOrders=true:=by kernel_rfl
      have gp:(0:Int)<=jG+1:=by omega
      have fl:(jG:Int)+1<n:=by omega
      have lB:(jG:Int)<n:=by omega
      have t1:((jG:Int)+1).toNat=jG+1:=by omega
      clear c0 c1 bD bh gX eZ;by_cases au:x.1<p.1
      .have aI:decide ((x.1:Int)-(p.1:Int)<0)=true:=cf;go_wp2_with fail
       go_quiet_grown ((go_at_call 205;exact pS.out _ _))
       have aJ:Below wr.heap.size wr (grow (wr.drewN nq) osq):=wn wr nq osq;have ct:w.grownBy (grow (wr.drewN nq) osq) (some g):=bp.out.trans (dj aJ _);change Exit.then _ _ _ _ (grow (wr.drewN nq) osq);have ajS:∃P Q R,kA+P.length=jG/\kA+P.length+1+Q.length=i/\cv ((P++[p])++Q)/\(∀q∈Q,x.1<q.1)/\cw (z::Z) (((P++[p])++Q)++x::R)/\cF (grow (wr.drewN nq) osq) g ((X++P)++p::x::(Q++(R++Y))) post:=by
        obtain⟨P,Q,R,h1,af,aq,aK,aT,ci⟩:=hin2.out;exact⟨P,Q,R,h1,af,aq,aK,aT,ci.below aJ⟩
       clear aJ m0 m1 m2 m3 jC hin2;generalize grow (wr.drewN nq) osq=aC at *;obtain⟨P,Q,R,h1,af,aq,aK,aT,ci⟩:=ajS;have tk:(X++P).length=jG:=by rw[aY,<-uk.out];exact h1
       have hle:jG+1<((X++P)++p::x::(Q++(R++Y))).length:=by rw[aY,tk];simp
       obtain⟨iV,bv,g1,b2,uu,g2,bU,p3,⟨c0,c1⟩,⟨bD,bh⟩,⟨f0,f1,f2,f3⟩,⟨v1,tB⟩,⟨v2,n9⟩,hfin⟩:=Hq ci (jG+1) jG hle (by omega);have n5:=OY ha p x (X++P) (Q++(R++Y));rw[tk,ZC _ _ _ _ (by omega) hle]at n5;rw[n5]at hfin;have fe:Hid (∃P Q R,kA+P.length=jG/\kA+P.length+Q.length=i/\cv (P++Q)/\(∀q∈Q,x.1<q.1)/\cw (z::Z) ((P++Q)++x::R)/\cF _ g (X++(P++x::(Q++(R++Y)))) post):=I ⟨P,p::Q,R,h1,by rw[bY];omega,by simpa using aq,λq hq=>by
        rcases List.mem_cons.1 hq with rfl|hq
        .exact au
        .exact aK q hq,by simpa using aT,by simpa using hfin⟩
       have jJ:=I ct;clear h1 af aq aK aT ci tk hle hfin n5 ct P Q R;go_wp2_with fail
       go_region
       go_wp2;go_roundw
       case rel=>exact⟨jG,by go_num,by omega,by omega,fe,I (jJ.out.trans (ns (CK _ _ _ _ _ _ _ _ _ _)))⟩
       case measure=>simp[intOf]
      .have aI:decide ((x.1:Int)-(p.1:Int)<0)=false:=aU;go_wp2_with fail
       go_quiet_grown ((go_at_call 205;exact pS.out _ _))
       have aJ:Below wr.heap.size wr (grow (wr.drewN nq) osq):=wn wr nq osq;have ct:w.grownBy (grow (wr.drewN nq) osq) (some g):=bp.out.trans (dj aJ _);change Exit.then _ _ _ _ (grow (wr.drewN nq) osq);have hout:∃cZ R,kA+cZ.length=i+1/\cv cZ/\cw (z::Z) (cZ++R)/\cF (grow (wr.drewN nq) osq) g (X++(cZ++(R++Y))) post:=by
        obtain⟨P,Q,R,h1,af,aq,aK,aT,ci⟩:=hin2.out;obtain⟨f1,f2⟩:=M4 (P:=P++[p]) (Q:=Q) (x:=x) aq aK (al5 (by
         unfold cv at aq ⊢;exact(List.pairwise_append.1 aq).1) (by omega))
        refine⟨(P++[p])++x::Q,R,by simp only[aY,bY,length_nil];omega,f1,aT.trans ?_,?_⟩
        .rw[show P++[p]++Q++x::R=(P++[p]++Q++[x])++R by simp];exact f2.append (cw.refl R)
        .have c6:=ci.below aJ;simpa using c6
       have oy:=I hout;have jJ:=I ct;clear hout aJ m0 m1 m2 m3 jC hin2 ct;generalize grow (wr.drewN nq) osq=aC at *;go_wp2;go_roundw
       case rel=>exact⟨i+1,by go_num,by omega,by omega,oy,jJ⟩
       case measure=>simp[intOf];omega
     .have LY:j=kA:=by omega
      have ak0:decide ((kA:Int)<j)=false:=aU;have mixed:prog.follows .mixedOrders=true:=by kernel_rfl
      have acF:=I LY;clear LY;go_wp2_with fail
      go_quiet (fail)
      have aJ:Below wr.heap.size wr (wr.drewN nq):=below_drewN dM nq;have ct:w.grownBy (wr.drewN nq) (some g):=bp.out.trans (dj aJ _);have hout:∃cZ R,kA+cZ.length=i+1/\cv cZ/\cw (z::Z) (cZ++R)/\cF (wr.drewN nq) g (X++(cZ++(R++Y))) post:=by
       obtain⟨P,Q,R,h1,af,aq,aK,aT,ci⟩:=eZ.out;have LY:=acF.out;obtain rfl:P=[]:=lf (by omega);obtain⟨f1,f2⟩:=M4 (P:=[]) (Q:=Q) (x:=x) aq aK (by simp);simp only[nil_append,length_nil,fX]at f1 f2 af aT ci;refine⟨x::Q,R,by simp only[bY];omega,f1,aT.trans ?_,?_⟩
       .rw[show Q++x::R=(Q++[x])++R by simp];exact f2.append (cw.refl R)
       .have c6:=ci.below aJ;simpa using c6
      have oy:=I hout;have jJ:=I ct;clear hout aJ eZ ct;generalize wr.drewN nq=aC at *;go_wp2;go_roundw
      case rel=>exact⟨i+1,by go_num,by omega,by omega,oy,jJ⟩
      case measure=>simp[intOf];omega
   .obtain rfl:i=b:=by omega
    have hfin:∃mM,cF wr g (X++(mM++Y)) post/\cv mM/\cw (z::Z) mM/\w.grownBy wr (some g):=by
     obtain⟨cZ,R,h1,af,aq,aK⟩:=aS.out;have aT:=aq.1.length_eq;rw[aY]at aT;have:=b5.out;obtain rfl:R=[]:=lf (by omega);exact⟨cZ,by simpa using aK,af,by simpa using aq,aF.out⟩
    have br:=I hfin;clear hfin aS aF;go_wp2;go_end0
    exact⟨rfl,br⟩
namespace am
abbrev wt(L:List bu)(i:Nat):Nat:=(L[i]?.getD ha).1
theorem tS{L:List bu}{i:Nat}(h:i<L.length):wt L i=L[i].1:=by unfold wt;rw[bI h,b7]
theorem q8{L:List bu}(h:cv L){i j:Nat}(uX:i<=j)(ar:j<L.length):wt L i<=wt L j:=by
 rw[tS ar,tS (show i<L.length by omega)];rcases eF i j with h1|h1
 .exact List.pairwise_iff_getElem.1 h i j (by omega) ar h1
 .obtain rfl:i=j:=by omega
  exact Nat.le_refl _
theorem A0{L:List bu}{k:Nat}{t:bu}(h:t∈L.take k):∃i,i<k/\i<L.length/\t.1=wt L i:=by
 obtain⟨i,ay,rfl⟩:=List.mem_iff_getElem.1 h;rw[cr]at ay;exact⟨i,by omega,by omega,by rw[getElem_take,tS (by omega)]⟩
theorem AY{L:List bu}{k:Nat}{t:bu}(h:t∈L.drop k):∃i,k<=i/\i<L.length/\t.1=wt L i:=by
 obtain⟨i,ay,rfl⟩:=List.mem_iff_getElem.1 h;rw[cB]at ay;exact⟨k+i,by omega,by omega,by rw[getElem_drop,tS (by omega)]⟩
theorem Zc{A B:List bu}(hA:cv A)(bx:cv B)(h:∀a∈A,∀b∈B,a.1<=b.1):cv (A++B):=List.pairwise_append.2 ⟨hA,bx,h⟩
theorem Ej{A:List bu}(h:cv A)(k:Nat):cv (A.take k):=List.Pairwise.sublist (take_sublist _ _) h
theorem Ei{A:List bu}(h:cv A)(k:Nat):cv (A.drop k):=List.Pairwise.sublist (drop_sublist _ _) h
theorem anw{z:bu}{V:List bu}(bW:cv V)(k:Nat)(hk:k<=V.length)(ao:0<k->wt V (k-1)<z.1)(h1:k<V.length->z.1<=wt V k):cv (V.take k++z::V.drop k)/\cw ([z]++V) (V.take k++z::V.drop k):=by
 have au:∀t∈V.take k,t.1<z.1:=λt aE=>by
  obtain⟨i,ay,hl,e⟩:=A0 aE;have:=q8 bW (show i<=k-1 by omega) (by omega);have:=ao (by omega);omega
 have fj:∀t∈V.drop k,z.1<=t.1:=λt aE=>by
  obtain⟨i,ay,hl,e⟩:=AY aE;have:=q8 bW ay hl;have:=h1 (by omega);omega
 refine⟨Zc (Ej bW k) (List.pairwise_cons.2 ⟨fj,Ei bW k⟩) (λa aV b ak=>?_),?_⟩
 .have af:=au a aV;rcases List.mem_cons.1 ak with rfl|ak
  .omega
  .have:=fj b ak;omega
 .have e:[z]++V=([z]++V.take k)++V.drop k:=by rw[df,gq]
  rw[e,show V.take k++z::V.drop k=(V.take k++[z])++V.drop k by simp];refine cw.append (cw.swap (λa aV b ak=>?_)) (cw.refl _);simp only[mem_singleton]at aV;subst aV;have:=au b ak;omega
theorem ahE{z:bu}{aR:List bu}(j9:cv aR)(k:Nat)(hk:k<=aR.length)(ao:0<k->wt aR (k-1)<=z.1)(h1:k<aR.length->z.1<wt aR k):cv (aR.take k++z::aR.drop k)/\cw (aR++[z]) (aR.take k++z::aR.drop k):=by
 have e:aR.take k++aR.drop k=aR:=gq k aR;have h:=M4 (P:=aR.take k) (Q:=aR.drop k) (x:=z) (by rw[e];exact j9) (λq hq=>by
  obtain⟨i,ay,hl,e⟩:=AY hq;have:=q8 j9 ay hl;have:=h1 (by omega);omega) (λp ax=>by
  obtain⟨i,ay,hl,e⟩:=A0 ax;have:=q8 j9 (show i<=k-1 by omega) (by omega);have:=ao (by omega);omega)
 rw[e]at h;exact h
theorem Xj{aR V gw kj:List bu}(j9:cv aR)(bW:cv V)(x y:Nat)(ai:x<=aR.length)(hy:y<=V.length)(Ge:x<aR.length->0<y->wt V (y-1)<wt aR x)(Gd:0<x->y<V.length->wt aR (x-1)<=wt V y)
  (h1:cv gw)(af:cv kj)(s1:cw (aR.take x++V.take y) gw)(s2:cw (aR.drop x++V.drop y) kj):cv (gw++kj)/\cw (aR++V) (gw++kj):=by
 have bh:∀a∈aR.take x,∀b∈aR.drop x,a.1<=b.1:=λa aV b ak=>by
  obtain⟨i,ay,hl,e⟩:=A0 aV;obtain⟨j,ar,ew,e2⟩:=AY ak;have:=q8 j9 (show i<=j by omega) ew;omega
 have bN:∀a∈V.take y,∀b∈V.drop y,a.1<=b.1:=λa aV b ak=>by
  obtain⟨i,ay,hl,e⟩:=A0 aV;obtain⟨j,ar,ew,e2⟩:=AY ak;have:=q8 bW (show i<=j by omega) ew;omega
 have en:∀a∈aR.take x,∀b∈V.drop y,a.1<=b.1:=λa aV b ak=>by
  obtain⟨i,ay,hl,e⟩:=A0 aV;obtain⟨j,ar,ew,e2⟩:=AY ak;have:=q8 j9 (show i<=x-1 by omega) (by omega);have:=q8 bW ar ew;have:=Gd (by omega) (by omega);omega
 have gn:∀a∈V.take y,∀b∈aR.drop x,a.1<b.1:=λa aV b ak=>by
  obtain⟨i,ay,hl,e⟩:=A0 aV;obtain⟨j,ar,ew,e2⟩:=AY ak;have:=q8 bW (show i<=y-1 by omega) (by omega);have:=q8 j9 ar ew;have:=Ge (by omega) (by omega);omega
 refine⟨Zc h1 af (λa aV b ak=>?_),?_⟩
 .rcases List.mem_append.1 (s1.1.mem_iff.2 aV)with aV|aV<;>rcases List.mem_append.1 (s2.1.mem_iff.2 ak)with ak|ak
  .exact bh a aV b ak
  .exact en a aV b ak
  .exact Nat.le_of_lt (gn a aV b ak)
  .exact bN a aV b ak
 .have e:aR++V=aR.take x++((aR.drop x++V.take y)++V.drop y):=by
   conv=>lhs;rw[<-gq x aR,<-gq y V]
   simp only[df]
  have aq:cw (aR.drop x++V.take y) (V.take y++aR.drop x):=cw.swap (λa aV b ak=>by have:=gn b ak a aV;omega);have aK:cw (aR++V) (aR.take x++((V.take y++aR.drop x)++V.drop y)):=by
   rw[e];exact(cw.refl _).append (aq.append (cw.refl _))
  refine aK.trans ?_;rw[show aR.take x++((V.take y++aR.drop x)++V.drop y)=(aR.take x++V.take y)++(aR.drop x++V.drop y) by simp];exact s1.append s2
end am
open Go.Sort (grow)
theorem zQ{w:ah}{g:Nat}{L:List bu}{post:b1}{i:Nat}{t:bu}(h:cF w g L post)(ay:L[i]?=some t) :
  (∀n os,(grow (w.drewN n) os).cell? ⟨g,i*2,none⟩=some (.int .i64 (t.1:Int)))/\(∀n os,(grow (w.drewN n) os).cell? ⟨g,i*2+1,none⟩=some (.slice (some ⟨t.2.1.1,0,none⟩) t.2.2.length t.2.1.2)):=by
 obtain⟨h1,af⟩:=A8 h ay;exact⟨λn os=>cell_grown (a:=⟨g,i*2,none⟩) h.lt h1 n os,λn os=>cell_grown (a:=⟨g,i*2+1,none⟩) h.lt af n os⟩
theorem ata(g c:Nat)(X V Y:List bu)(z:bu)(post:b1)(w:ah)(hl:(X++(z::(V++Y))).length<=100000)(bW:cv V)(aD:0<V.length)(hw:Light (z::V))(aj:cF w g (X++(z::(V++Y))) post) :
  Calls prog 231 #[.slice (some ⟨g,0,none⟩) (X++(z::(V++Y))).length c,.int .i64 (X.length:Int),.int .i64 ((X.length+1:Nat):Int),.int .i64 ((X.length+1+V.length:Nat):Int),.func (.func 205) #[] #[]] w λe w'=>e=.returned (.tuple #[])/\∃W,cF w' g (X++(W++Y)) post/\cv W/\cw (z::V) W/\w.grownBy w' (some g):=by
 obtain⟨n,aA⟩:∃n,n=(X++(z::(V++Y))).length:=⟨_,rfl⟩;obtain⟨a,aV⟩:∃a,a=X.length:=⟨_,rfl⟩;obtain⟨m,hm⟩:∃m,m=a+1:=⟨_,rfl⟩;obtain⟨b,ak⟩:∃b,b=m+V.length:=⟨_,rfl⟩;rw[<-aV,<-hm,<-ak,<-aA];rw[<-aA]at hl;have oR:b<=n:=by rw[aA,ak,hm,aV];simp;omega
 have L7:m<=b:=by omega
 have Lw:a<=m:=by omega
 have UL:(m:Int)-a=1:=by omega
 have hget:∀k,k<V.length->(X++(z::(V++Y)))[m+k]?=some (V[k]?.getD ha):=λk hk=>by
  rw[iY (by omega),show m+k-X.length=k+1 by omega,dJ,hO hk,bI hk,b7]
 have uW:(X++(z::(V++Y)))[a]?=some z:=by rw[aV];exact KU z X (V++Y)
 have wG:∀k,k<V.length->am.wt V k<=4000000000:=λk hk=>by
  rw[tS hk];exact hw _ (by simp)
 have aQ:z.1<=4000000000:=hw z (by simp);have bj:=I aj;have tZ:=I hget;have I1:=I uW;have I6:=I wG;have ja:=I bW;have b5:=I ak;have cj:=I hm;have iE:=I aV;have mj:=FU;have mixed:prog.follows .mixedOrders=true:=by kernel_rfl
 clear aj hget uW wG bW aA aV hm ak hw;go_enter func231,ntmps231
 go_wp2;go_loopw [10,11] (λbV hB wr=>∃(i j:Nat),bV=.int .i64 i/\hB=.int .i64 j/\m<=i/\i<=j/\j<=b/\Hid ((m<i->am.wt V (i-m-1)<z.1)/\(j<b->z.1<=am.wt V (j-m)))/\Hid (cF wr g (X++(z::(V++Y))) post)/\Hid (w.grownBy wr (some g))) (λbV hB _=>(intOf hB).toNat-(intOf bV).toNat)
 case atStart=>exact⟨m,b,rfl,rfl,by omega,L7,by omega,I ⟨λh=>by omega,λh=>by omega⟩,bj,I (dg _ _)⟩
 case round=>
  obtain⟨i,j,rfl,rfl,Gy,uX,LX,eZ,hrow,aF⟩:=hrel;by_cases au:i<j
  .obtain⟨h,hh⟩:∃h,h=(i+j)/2:=⟨_,rfl⟩;have Db:i<=h:=by omega
   have Uj:h<j:=by omega
   have ny:((i:Int)+j)/2=(h:Int):=by omega
   clear hh;have ai:=tZ.out (h-m) (by have:=b5.out;omega);rw[show m+(h-m)=h by omega]at ai;have qT:=I6.out (h-m) (by have:=b5.out;omega);obtain⟨t,aE⟩:∃t,t=V[h-m]?.getD ha:=⟨_,rfl⟩;have sn:am.wt V (h-m)=t.1:=by rw[aE]
   rw[<-aE]at ai;rw[sn]at qT;obtain⟨m0,m1⟩:=zQ hrow.out ai;obtain⟨m2,m3⟩:=zQ hrow.out I1.out;have gX:=Fx t.1 z.1 t.2.1.1 t.2.2.length t.2.1.2 z.2.1.1 z.2.2.length z.2.1.2 qT aQ wr;have pS:=I gX;have vX:=I sn;have Uk:(h:Int)<n:=by omega
   have avB:(a:Int)<n:=by omega
   clear ai qT aE sn gX;go_wp2_with fail
   by_cases jP:t.1<z.1
   .have aI:decide ((t.1:Int)-(z.1:Int)<0)=true:=cf;go_quiet_grown ((go_at_call 205;exact pS.out _ _))
    have aJ:Below wr.heap.size wr (grow (wr.drewN nq) osq):=wn wr nq osq;have hi:=I (hrow.out.below aJ);have du:=I (aF.out.trans (dj aJ (some g)));have ry:Hid ((m<h+1->am.wt V (h+1-m-1)<z.1)/\(j<b->z.1<=am.wt V (j-m))):=I ⟨λ_=>by rw[show h+1-m-1=h-m by omega,vX.out];exact jP,eZ.out.2⟩;change Exit.then _ _ _ _ (grow (wr.drewN nq) osq);clear aJ m0 m1 m2 m3 hrow aF eZ;generalize grow (wr.drewN nq) osq=aC at *;go_wp2;go_roundw
    case rel=>exact⟨h+1,j,by go_num,rfl,by omega,by omega,LX,ry,hi,du⟩
    case measure=>simp[intOf];omega
   .have aI:decide ((t.1:Int)-(z.1:Int)<0)=false:=aU;go_quiet_grown ((go_at_call 205;exact pS.out _ _))
    have aJ:Below wr.heap.size wr (grow (wr.drewN nq) osq):=wn wr nq osq;have hi:=I (hrow.out.below aJ);have du:=I (aF.out.trans (dj aJ (some g)));have ry:Hid ((m<i->am.wt V (i-m-1)<z.1)/\(h<b->z.1<=am.wt V (h-m))):=I ⟨eZ.out.1,λ_=>by rw[vX.out];omega⟩;change Exit.then _ _ _ _ (grow (wr.drewN nq) osq);clear aJ m0 m1 m2 m3 hrow aF eZ;generalize grow (wr.drewN nq) osq=aC at *;go_wp2;go_roundw
    case rel=>exact⟨i,h,rfl,by go_num,Gy,Db,by omega,ry,hi,du⟩
    case measure=>simp[intOf];omega
  .obtain rfl:i=j:=by omega
   have L0:i-m<=V.length:=by have:=b5.out;omega
   obtain⟨q,hq⟩:∃q,q=i-m:=⟨_,rfl⟩;have hfin:cv (V.take q++z::V.drop q)/\cw ([z]++V) (V.take q++z::V.drop q):=anw ja.out q (by omega) (λh=>by rw[hq];exact eZ.out.1 (by omega)) (λh=>by
    rw[hq];exact eZ.out.2 (by have:=b5.out;omega))
   have fe:=I hfin;have ajT:i=a+1+q:=by omega
   have aks:q<=V.length:=by omega
   have cN:Hid (cF wr g (X++(V.take 0++(z::(V.drop 0++Y)))) post):=I (by simpa using hrow.out);clear hfin hq eZ hrow L0 au;go_wp2;rename ah=>eQ
   have fJ:=I aF.out;clear aF;go_loopw [13] (λiy wr=>∃(t:Nat),iy=.int .i64 ((a:Int)+t)/\t<=q/\Hid (cF wr g (X++(V.take t++(z::(V.drop t++Y)))) post)/\Hid (w.grownBy wr (some g))) (λiy _=>a+q-(intOf iy).toNat)
   case atStart=>exact⟨0,by go_num,by omega,cN,fJ⟩
   case round=>
    obtain⟨t,rfl,awP,hrow,aF⟩:=hrel;by_cases htlt:t<q
    .have n5:swp ha (X++(V.take t++(z::(V.drop t++Y)))) (a+t) (a+t+1)=X++(V.take (t+1)++(z::(V.drop (t+1)++Y))):=by
      have h1:=OY ha z (V[t]'(by omega)) (X++V.take t) (V.drop (t+1)++Y);rw[aY,cr,Nat.min_eq_left (by omega),<-iE.out]at h1;rw[drop_eq_getElem_cons (show t<V.length by omega),fY (show t<V.length by omega)];simp only[df,cons_append,nil_append]at h1 ⊢;exact h1
     have hlen:(X++(V.take t++(z::(V.drop t++Y)))).length=a+1+V.length+Y.length:=by
      simp only[aY,bY,cr,cB];have:=iE.out;omega
     obtain⟨iV,bv,g1,b2,uu,g2,bU,p3,⟨c0,c1⟩,⟨bD,bh⟩,⟨f0,f1,f2,f3⟩,⟨v1,tB⟩,⟨v2,n9⟩,hfin⟩:=Hq hrow.out (a+t) (a+t+1) (by omega) (by omega);rw[n5]at hfin;have IX:=I hfin;have gp:(0:Int)<=a+(t:Int):=by omega
     have fl:(a:Int)+t<n:=by have:=b5.out;have:=cj.out;omega
     have lB:(0:Int)<=a+(t:Int)+1:=by omega
     have vp:(a:Int)+t+1<n:=by have:=b5.out;have:=cj.out;omega
     have t1:((a:Int)+t).toNat=a+t:=by omega
     have t2:((a:Int)+t+1).toNat=a+t+1:=by omega
     have aI:decide ((a:Int)+t<i-1)=true:=cf;clear hfin n5 hlen hrow;go_wp2_with fail
     go_region
     go_wp2;go_roundw
     case rel=>exact⟨t+1,by go_num,by omega,IX,I (aF.out.trans (ns (CK _ _ _ _ _ _ _ _ _ _)))⟩
     case measure=>simp[intOf];omega
    .obtain rfl:t=q:=by omega
     have kp:∃W,cF wr g (X++(W++Y)) post/\cv W/\cw (z::V) W/\w.grownBy wr (some g):=⟨V.take t++z::V.drop t,by simpa using hrow.out,fe.out.1,fe.out.2,aF.out⟩;have br:=I kp;have aI:decide ((a:Int)+t<i-1)=false:=aU;clear kp hrow aF;go_wp2;refine bodyPost_ret (results_none rfl _ _ _) rfl ?_;exact⟨rfl,br⟩
theorem as8(g c:Nat)(X aR Y:List bu)(z:bu)(post:b1)(w:ah)(hl:(X++(aR++(z::Y))).length<=100000)(j9:cv aR)(hu:2<=aR.length)(hw:Light (z::aR))(aj:cF w g (X++(aR++(z::Y))) post) :
  Calls prog 231 #[.slice (some ⟨g,0,none⟩) (X++(aR++(z::Y))).length c,.int .i64 (X.length:Int),.int .i64 ((X.length+aR.length:Nat):Int),.int .i64 ((X.length+aR.length+1:Nat):Int),.func (.func 205) #[] #[]] w λe w'=>e=.returned (.tuple #[])/\∃W,cF w' g (X++(W++Y)) post/\cv W/\cw (aR++[z]) W/\w.grownBy w' (some g):=by
 obtain⟨n,aA⟩:∃n,n=(X++(aR++(z::Y))).length:=⟨_,rfl⟩;obtain⟨a,aV⟩:∃a,a=X.length:=⟨_,rfl⟩;obtain⟨m,hm⟩:∃m,m=a+aR.length:=⟨_,rfl⟩;obtain⟨b,ak⟩:∃b,b=m+1:=⟨_,rfl⟩;rw[<-aV,<-hm,<-ak,<-aA];rw[<-aA]at hl;have oR:b<=n:=by rw[aA,ak,hm,aV];simp;omega
 have Lw:a+2<=m:=by omega
 have UL:((m:Int)-a==1)=false:=cz
 have x6:(b:Int)-m=1:=by omega
 have hget:∀k,k<aR.length->(X++(aR++(z::Y)))[a+k]?=some (aR[k]?.getD ha):=λk hk=>by
  rw[iY (by omega),show a+k-X.length=k by omega,hO hk,bI hk,b7]
 have uW:(X++(aR++(z::Y)))[m]?=some z:=by
  have h1:=KU z (X++aR) Y;rw[aY,<-aV,<-hm,df]at h1;exact h1
 have wG:∀k,k<aR.length->am.wt aR k<=4000000000:=λk hk=>by
  rw[tS hk];exact hw _ (by simp)
 have aQ:z.1<=4000000000:=hw z (by simp);have bj:=I aj;have tZ:=I hget;have I1:=I uW;have I6:=I wG;have nM:=I j9;have b5:=I ak;have cj:=I hm;have iE:=I aV;have mj:=FU;have mixed:prog.follows .mixedOrders=true:=by kernel_rfl
 clear aj hget uW wG j9 aA aV hm ak hw;go_enter func231,ntmps231
 go_wp2;go_loopw [14,15] (λbV hB wr=>∃(i j:Nat),bV=.int .i64 i/\hB=.int .i64 j/\a<=i/\i<=j/\j<=m/\Hid ((a<i->am.wt aR (i-a-1)<=z.1)/\(j<m->z.1<am.wt aR (j-a)))/\Hid (cF wr g (X++(aR++(z::Y))) post)/\Hid (w.grownBy wr (some g))) (λbV hB _=>(intOf hB).toNat-(intOf bV).toNat)
 case atStart=>exact⟨a,m,rfl,rfl,by omega,by omega,by omega,I ⟨λh=>by omega,λh=>by omega⟩,bj,I (dg _ _)⟩
 case round=>
  obtain⟨i,j,rfl,rfl,Gy,uX,LX,eZ,hrow,aF⟩:=hrel;by_cases au:i<j
  .obtain⟨h,hh⟩:∃h,h=(i+j)/2:=⟨_,rfl⟩;have Db:i<=h:=by omega
   have Uj:h<j:=by omega
   have ny:((i:Int)+j)/2=(h:Int):=by omega
   clear hh;have ai:=tZ.out (h-a) (by have:=cj.out;omega);rw[show a+(h-a)=h by omega]at ai;have qT:=I6.out (h-a) (by have:=cj.out;omega);obtain⟨t,aE⟩:∃t,t=aR[h-a]?.getD ha:=⟨_,rfl⟩;have sn:am.wt aR (h-a)=t.1:=by rw[aE]
   rw[<-aE]at ai;rw[sn]at qT;obtain⟨m0,m1⟩:=zQ hrow.out ai;obtain⟨m2,m3⟩:=zQ hrow.out I1.out;have gX:=Fx z.1 t.1 z.2.1.1 z.2.2.length z.2.1.2 t.2.1.1 t.2.2.length t.2.1.2 aQ qT wr;have pS:=I gX;have vX:=I sn;have Uk:(h:Int)<n:=by have:=b5.out;omega
   have tt:(m:Int)<n:=by have:=b5.out;omega
   clear ai qT aE sn gX;go_wp2_with fail
   by_cases jP:z.1<t.1
   .have aI:decide ((z.1:Int)-(t.1:Int)<0)=true:=cf;go_quiet_grown ((go_at_call 205;exact pS.out _ _))
    have aJ:Below wr.heap.size wr (grow (wr.drewN nq) osq):=wn wr nq osq;have hi:=I (hrow.out.below aJ);have du:=I (aF.out.trans (dj aJ (some g)));have ry:Hid ((a<i->am.wt aR (i-a-1)<=z.1)/\(h<m->z.1<am.wt aR (h-a))):=I ⟨eZ.out.1,λ_=>by rw[vX.out];exact jP⟩;change Exit.then _ _ _ _ (grow (wr.drewN nq) osq);clear aJ m0 m1 m2 m3 hrow aF eZ;generalize grow (wr.drewN nq) osq=aC at *;go_wp2;go_roundw
    case rel=>exact⟨i,h,rfl,by go_num,Gy,Db,by omega,ry,hi,du⟩
    case measure=>simp[intOf];omega
   .have aI:decide ((z.1:Int)-(t.1:Int)<0)=false:=aU;go_quiet_grown ((go_at_call 205;exact pS.out _ _))
    have aJ:Below wr.heap.size wr (grow (wr.drewN nq) osq):=wn wr nq osq;have hi:=I (hrow.out.below aJ);have du:=I (aF.out.trans (dj aJ (some g)));have ry:Hid ((a<h+1->am.wt aR (h+1-a-1)<=z.1)/\(j<m->z.1<am.wt aR (j-a))):=I ⟨λ_=>by rw[show h+1-a-1=h-a by omega,vX.out];omega,eZ.out.2⟩;change Exit.then _ _ _ _ (grow (wr.drewN nq) osq);clear aJ m0 m1 m2 m3 hrow aF eZ;generalize grow (wr.drewN nq) osq=aC at *;go_wp2;go_roundw
    case rel=>exact⟨h+1,j,by go_num,rfl,by omega,by omega,LX,ry,hi,du⟩
    case measure=>simp[intOf];omega
  .obtain rfl:i=j:=by omega
   have L0:i-a<=aR.length:=by have:=cj.out;omega
   obtain⟨q,hq⟩:∃q,q=i-a:=⟨_,rfl⟩;have hfin:cv (aR.take q++z::aR.drop q)/\cw (aR++[z]) (aR.take q++z::aR.drop q):=ahE nM.out q (by omega) (λh=>by rw[hq];exact eZ.out.1 (by omega)) (λh=>by
    rw[hq];exact eZ.out.2 (by have:=cj.out;omega))
   have fe:=I hfin;have ajT:i=a+q:=by omega
   have aks:q<=aR.length:=by omega
   have cN:Hid (cF wr g (X++(aR.take aR.length++(z::(aR.drop aR.length++Y)))) post):=I (by simpa using hrow.out);have Gz:m=a+aR.length:=cj.out;clear hfin hq eZ hrow L0 au;go_wp2;rename ah=>eQ
   have fJ:=I aF.out;clear aF;have qe:m<=b:=by have:=b5.out;omega
   go_loopw [17] (λiy wr=>∃(k:Nat),iy=.int .i64 k/\i<=k/\k<=m/\Hid (∃t,k=a+t/\t<=aR.length/\cF wr g (X++(aR.take t++(z::(aR.drop t++Y)))) post)/\Hid (w.grownBy wr (some g))) (λiy _=>(intOf iy).toNat)
   case atStart=>exact⟨m,rfl,by omega,by omega,I ⟨aR.length,Gz,by omega,cN.out⟩,fJ⟩
   case round=>
    obtain⟨k,rfl,LV,r5,hrow,aF⟩:=hrel;by_cases htlt:i<k
    .obtain⟨k,rfl⟩:∃k',k=k'+1:=⟨k-1,by omega⟩;have hfin:∃(iV bv:Int) (g1 b2 uu g2 bU p3:Nat),(wr.cell? ⟨g,(k+1)*2,none⟩=some (.int .i64 iV)/\wr.cell? ⟨g,(k+1)*2+1,none⟩=some (.slice (some ⟨g1,0,none⟩) b2 uu))/\(wr.cell? ⟨g,k*2,none⟩=some (.int .i64 bv)/\wr.cell? ⟨g,k*2+1,none⟩=some (.slice (some ⟨g2,0,none⟩) bU p3)) /\
       (wr.frozen? ⟨g,(k+1)*2,none⟩=false/\wr.frozen? ⟨g,(k+1)*2+1,none⟩=false/\wr.frozen? ⟨g,k*2,none⟩=false/\wr.frozen? ⟨g,k*2+1,none⟩=false) /\
       (∃v1,(wr.setCell ⟨g,(k+1)*2,none⟩ (.int .i64 bv)).cell? ⟨g,k*2,none⟩=some v1)/\(∃v2,((wr.setCell ⟨g,(k+1)*2,none⟩ (.int .i64 bv)).setCell ⟨g,(k+1)*2+1,none⟩ (.slice (some ⟨g2,0,none⟩) bU p3)).cell? ⟨g,k*2+1,none⟩=some v2) /\
       (∃t,k=a+t/\t<=aR.length/\cF ((((wr.setCell ⟨g,(k+1)*2,none⟩ (.int .i64 bv)).setCell ⟨g,(k+1)*2+1,none⟩ (.slice (some ⟨g2,0,none⟩) bU p3)).setCell ⟨g,k*2,none⟩ (.int .i64 iV)).setCell ⟨g,k*2+1,none⟩ (.slice (some ⟨g1,0,none⟩) b2 uu)) g (X++(aR.take t++(z::(aR.drop t++Y)))) post):=by
      obtain⟨t,aE,akH,aj⟩:=hrow.out;obtain⟨s,rfl⟩:∃s,t=s+1:=⟨t-1,by omega⟩;obtain rfl:k=a+s:=by omega
      have hlen:(X++(aR.take (s+1)++(z::(aR.drop (s+1)++Y)))).length=a+aR.length+1+Y.length:=by
       simp only[aY,bY,cr,cB];have:=iE.out;omega
      have n5:swp ha (X++(aR.take (s+1)++(z::(aR.drop (s+1)++Y)))) (a+s+1) (a+s)=X++(aR.take s++(z::(aR.drop s++Y))):=by
       have h1:=OY ha (aR[s]'(by omega)) z (X++aR.take s) (aR.drop (s+1)++Y);rw[aY,cr,Nat.min_eq_left (by omega),<-iE.out]at h1;rw[ZC _ _ _ _ (by omega) (by omega),drop_eq_getElem_cons (show s<aR.length by omega),fY (show s<aR.length by omega)];simp only[df,cons_append,nil_append]at h1 ⊢;exact h1
      obtain⟨iV,bv,g1,b2,uu,g2,bU,p3,aG,e2,e3,e4,e5,aL⟩:=Hq aj (a+s+1) (a+s) (by omega) (by omega);rw[n5]at aL;exact⟨iV,bv,g1,b2,uu,g2,bU,p3,aG,e2,e3,e4,e5,s,rfl,by omega,aL⟩
     obtain⟨iV,bv,g1,b2,uu,g2,bU,p3,⟨c0,c1⟩,⟨bD,bh⟩,⟨f0,f1,f2,f3⟩,⟨v1,tB⟩,⟨v2,n9⟩,aL⟩:=hfin;have IX:=I aL;have fl:(k:Int)+1<n:=by have:=b5.out;omega
     have lB:(k:Int)<n:=by omega
     have gp:(0:Int)<=k+1:=by omega
     have t1:((k:Int)+1).toNat=k+1:=by omega
     have w0:IntKind.i64.wrap (k:Int)=k:=by rw[IntKind.wrap_i64];omega
     have aI:decide ((i:Int)<k+1)=true:=cf;clear aL hrow;go_wp2_with fail
     go_region
     go_wp2;go_roundw
     case rel=>exact⟨k,by go_num,by omega,by omega,IX,I (aF.out.trans (ns (CK _ _ _ _ _ _ _ _ _ _)))⟩
     case measure=>simp[intOf]
    .obtain rfl:k=i:=by omega
     have kp:∃W,cF wr g (X++(W++Y)) post/\cv W/\cw (aR++[z]) W/\w.grownBy wr (some g):=by
      obtain⟨t,aE,akH,aj⟩:=hrow.out;obtain rfl:t=q:=by omega
      exact⟨aR.take t++z::aR.drop t,by simpa using aj,fe.out.1,fe.out.2,aF.out⟩
     have br:=I kp;clear kp hrow aF;go_wp2;refine bodyPost_ret (results_none rfl _ _ _) rfl ?_;exact⟨rfl,br⟩
theorem Pf(g c:Nat)(ux:Value)(X A M B Y:List bu)(post:b1)(w:ah)(rR:B.length=A.length)(hl:(X++(A++(M++(B++Y)))).length<=100000)(aj:cF w g (X++(A++(M++(B++Y)))) post) :
  Calls prog 237 #[.slice (some ⟨g,0,none⟩) (X++(A++(M++(B++Y)))).length c,.int .i64 (X.length:Int),.int .i64 ((X.length+A.length+M.length:Nat):Int),.int .i64 (A.length:Int),ux] w λe w'=>e=.returned (.tuple #[])/\cF w' g (X++(B++(M++(A++Y)))) post/\w.grownBy w' (some g):=by
 obtain⟨n,aA⟩:∃n,n=(X++(A++(M++(B++Y)))).length:=⟨_,rfl⟩;rw[<-aA]at hl ⊢;have hlen:n=X.length+A.length+M.length+B.length+Y.length:=by rw[aA];simp only[aY];omega
 obtain⟨b,ak⟩:∃b,b=X.length+A.length+M.length:=⟨_,rfl⟩;rw[<-ak];have aS:cF w g (X++((B.take 0++A.drop 0)++(M++((A.take 0++B.drop 0)++Y)))) post:=by simpa using aj
 have cN:=I aS;have b5:=I ak;have MS:X.length+A.length<=b:=by omega
 have oR:b+A.length<=n:=by omega
 have Ij:=I rR;clear aj aA hlen aS ak rR;go_enter func237,ntmps237
 go_wp2;go_loopw [10] (λbV wr=>∃k:Nat,k<=A.length/\bV=.int .i64 k/\Hid (cF wr g (X++((B.take k++A.drop k)++(M++((A.take k++B.drop k)++Y)))) post)/\Hid (w.grownBy wr (some g))) (λbV _=>A.length-(intOf bV).toNat)
 case atStart=>exact⟨0,by omega,rfl,cN,I (dg _ _)⟩
 case round=>
  obtain⟨k,hk,rfl,hrow,aF⟩:=hrel;by_cases a8:k<A.length
  .have Uw:(X++((B.take k++A.drop k)++(M++((A.take k++B.drop k)++Y)))).length=X.length+A.length+M.length+A.length+Y.length:=by
    have:=Ij.out;simp only[aY,cr,cB];omega
   have ak:=b5.out;obtain⟨iV,bv,g1,b2,uu,g2,bU,p3,⟨c0,c1⟩,⟨bD,bh⟩,⟨f0,f1,f2,f3⟩,⟨v1,tB⟩,⟨v2,n9⟩,hfin⟩:=Hq hrow.out (X.length+k) (b+k) (by omega) (by omega);have T7:cF ((((wr.setCell ⟨g,(X.length+k)*2,none⟩ (.int .i64 bv)).setCell ⟨g,(X.length+k)*2+1,none⟩ (.slice (some ⟨g2,0,none⟩) bU p3)).setCell ⟨g,(b+k)*2,none⟩ (.int .i64 iV)).setCell ⟨g,(b+k)*2+1,none⟩ (.slice (some ⟨g1,0,none⟩) b2 uu)) g (X++((B.take (k+1)++A.drop (k+1))++(M++((A.take (k+1)++B.drop (k+1))++Y)))) post:=by
    rw[<-ao9 ha X A M B Y k a8 Ij.out,<-ak];exact hfin
   have fe:=I T7;clear hfin T7 Uw hrow ak;have gp:(0:Int)<=(X.length:Int)+k:=by omega
   have fl:(X.length:Int)+k<n:=by omega
   have lB:(0:Int)<=b+(k:Int):=by omega
   have vp:(b:Int)+k<n:=by omega
   have t1:((X.length:Int)+k).toNat=X.length+k:=by omega
   have t2:((b:Int)+k).toNat=b+k:=by omega
   generalize X.length=x at *;generalize auY:A.length=an at *;go_wp2_with fail
   go_region
   go_wp2;go_roundw
   case rel=>exact⟨k+1,by omega,by go_num,fe,I (aF.out.trans (ns (CK _ _ _ _ _ _ _ _ _ _)))⟩
   case measure=>simp[intOf];omega
  .obtain rfl:k=A.length:=by omega
   have hfin:cF wr g (X++(B++(M++(A++Y)))) post:=by
    have h1:=hrow.out;rw[drop_length,take_length,append_nil,<-Ij.out,take_length,drop_length,append_nil]at h1;exact h1
   have br:=I hfin;clear hfin hrow;go_wp2;go_end0
   exact⟨rfl,br,aF⟩
theorem as4(g c:Nat)(ux:Value)(X aR V Y:List bu)(post:b1)(w:ah)(j9:0<aR.length)(bW:0<V.length)(hl:(X++(aR++(V++Y))).length<=100000)(aj:cF w g (X++(aR++(V++Y))) post) :
  Calls prog 236 #[.slice (some ⟨g,0,none⟩) (X++(aR++(V++Y))).length c,.int .i64 (X.length:Int),.int .i64 ((X.length+aR.length:Nat):Int),.int .i64 ((X.length+aR.length+V.length:Nat):Int),ux] w λe w'=>e=.returned (.tuple #[])/\cF w' g (X++(V++(aR++Y))) post/\w.grownBy w' (some g):=by
 obtain⟨n,aA⟩:∃n,n=(X++(aR++(V++Y))).length:=⟨_,rfl⟩;obtain⟨T,cq⟩:∃T,T=X++(V++(aR++Y)):=⟨_,rfl⟩;obtain⟨m,hm⟩:∃m,m=X.length+aR.length:=⟨_,rfl⟩;rw[<-aA]at hl ⊢;rw[<-cq,<-hm];have aS:∃dE fo eB iU:List bu,fo.length=aR.length/\eB.length=V.length/\dE.length+aR.length=m/\dE++(eB++(fo++iU))=T/\n=(dE++(fo++(eB++iU))).length/\cF w g (dE++(fo++(eB++iU))) post:=⟨X,aR,V,Y,rfl,rfl,hm.symm,cq.symm,aA,aj⟩;have cN:=I aS;have Gz:aR.length<=m:=by omega
 have tt:m+V.length<=n:=by rw[aA,hm];simp only[aY];omega
 obtain⟨bF,dc⟩:∃bF,bF=m+V.length:=⟨_,rfl⟩;rw[<-dc];have akV:IntKind.i64.wrap ((m:Int)-(X.length:Int))=(aR.length:Int):=by rw[IntKind.wrap_i64];omega
 have n7:(bF:Int)-m=(V.length:Int):=by omega
 have h8:(m:Int)-(X.length:Int)=(aR.length:Int):=by omega
 clear aA cq aj aS hm dc;generalize aR.length=i0 at *;generalize V.length=aln at *;generalize X.length=x at *;go_enter func236,ntmps236
 go_wp2;go_loopw [10,11] (λbV hB wr=>∃i j:Nat,0<i/\0<j/\i<=m/\m+j<=n/\bV=.int .i64 i/\hB=.int .i64 j/\Hid (∃dE fo eB iU:List bu,fo.length=i/\eB.length=j/\dE.length+i=m/\dE++(eB++(fo++iU))=T/\n=(dE++(fo++(eB++iU))).length/\cF wr g (dE++(fo++(eB++iU))) post)/\Hid (w.grownBy wr (some g))) (λbV hB _=>(intOf bV).toNat+(intOf hB).toNat)
 case atStart=>exact⟨i0,aln,j9,bW,Gz,tt,by go_num,by go_num,cN,I (dg _ _)⟩
 case round=>
  obtain⟨i,j,ay,ar,ajR,uZ,rfl,rfl,aS,aF⟩:=hrel;clear j9 bW Gz tt akV n7 h8;have cN:Hid _:=aS;clear aS;by_cases uX:i=j
  .subst uX;have ap:Calls prog 237 #[.slice (some ⟨g,0,none⟩) n c,.int .i64 ((m:Int)-i),.int .i64 m,.int .i64 i,ux] wr λe w'=>e=.returned (.tuple #[])/\cF w' g T post/\w.grownBy w' (some g):=by
    obtain⟨dE,fo,eB,iU,h1,af,aq,aK,aT,ci⟩:=cN.out;have h:=Pf g c ux dE fo [] eB iU post wr (by omega) (by simp only[nil_append];omega) (by simpa using ci);simp only[nil_append,length_nil,fX]at h;rw[<-aT,h1,show dE.length+i=m by omega,show(dE.length:Int)=m-(i:Int) by omega,aK]at h;exact h.mono λe w' ⟨fL,a2,a3⟩=>⟨fL,a2,aF.out.trans a3⟩
   have ca:=I ap;clear ap;go_wp2_with fail
   refine ca.out.mono ?_;rintro e w' ⟨rfl,h1,af⟩;go_wp2;go_end0
   exact⟨rfl,h1,af⟩
  .by_cases mT:j<i
   .have ap:Calls prog 237 #[.slice (some ⟨g,0,none⟩) n c,.int .i64 ((m:Int)-i),.int .i64 m,.int .i64 j,ux] wr λe w'=>e=.returned (.tuple #[])/\Hid (∃dE fo eB iU:List bu,fo.length=i-j/\eB.length=j/\dE.length+(i-j)=m/\dE++(eB++(fo++iU))=T/\n=(dE++(fo++(eB++iU))).length/\cF w' g (dE++(fo++(eB++iU))) post)/\Hid (w.grownBy w' (some g)):=by
     obtain⟨dE,fo,eB,iU,h1,af,aq,aK,aT,ci⟩:=cN.out;have FQ:fo=fo.take j++fo.drop j:=(gq j fo).symm;have cb:(fo.take j).length=j:=by rw[cr];omega
     have cR:(fo.drop j).length=i-j:=by rw[cB];omega
     rw[FQ,df]at ci;have h:=Pf g c ux dE (fo.take j) (fo.drop j) eB iU post wr (by omega) (by rw[<-df (fo.take j),<-FQ];omega) ci;rw[<-df (fo.take j),<-FQ,<-aT,cb,cR,show dE.length+j+(i-j)=m by omega,show(dE.length:Int)=m-(i:Int) by omega]at h;refine h.mono ?_;rintro e w' ⟨fL,a2,a3⟩;refine⟨fL,I ⟨dE++eB,fo.drop j,fo.take j,iU,cR,cb,by rw[aY];omega,?_,?_,?_⟩,I (aF.out.trans a3)⟩
     .rw[<-aK];conv=>rhs;rw[FQ]
      simp only[df]
     .rw[aT];simp only[aY,cb,cR];omega
     .rw[df];exact a2
    have ca:=I ap;clear ap;have aZ:((i:Int) != (j:Int))=true:=by rw[bne_iff_ne];omega
    go_wp2_with fail
    refine ca.out.mono ?_;rintro e w' ⟨rfl,h1,af⟩;clear aF;go_wp2;go_roundw
    case rel=>exact⟨i-j,j,by omega,ar,by omega,uZ,by go_num,rfl,h1,af⟩
    case measure=>simp[intOf];omega
   .have ap:Calls prog 237 #[.slice (some ⟨g,0,none⟩) n c,.int .i64 ((m:Int)-i),.int .i64 ((m:Int)+j-i),.int .i64 i,ux] wr λe w'=>e=.returned (.tuple #[])/\Hid (∃dE fo eB iU:List bu,fo.length=i/\eB.length=j-i/\dE.length+i=m/\dE++(eB++(fo++iU))=T/\n=(dE++(fo++(eB++iU))).length/\cF w' g (dE++(fo++(eB++iU))) post)/\Hid (w.grownBy w' (some g)):=by
     obtain⟨dE,fo,eB,iU,h1,af,aq,aK,aT,ci⟩:=cN.out;have FR:eB=eB.take (j-i)++eB.drop (j-i):=(gq (j-i) eB).symm;have cb:(eB.take (j-i)).length=j-i:=by rw[cr];omega
     have cR:(eB.drop (j-i)).length=i:=by rw[cB];omega
     rw[FR,df]at ci;have h:=Pf g c ux dE fo (eB.take (j-i)) (eB.drop (j-i)) iU post wr (by omega) (by rw[<-df (eB.take (j-i)),<-FR];omega) ci;rw[<-df (eB.take (j-i)),<-FR,<-aT,h1,cb,show((dE.length+i+(j-i):Nat):Int)=m+(j:Int)-i by omega,show(dE.length:Int)=m-(i:Int) by omega]at h;refine h.mono ?_;rintro e w' ⟨fL,a2,a3⟩;refine⟨fL,I ⟨dE,eB.drop (j-i),eB.take (j-i),fo++iU,cR,cb,by omega,?_,?_,a2⟩,I (aF.out.trans a3)⟩
     .rw[<-aK];conv=>rhs;rw[FR]
      simp only[df]
     .rw[aT];simp only[aY,cb,cR];omega
    have ca:=I ap;clear ap;have aZ:((i:Int) != (j:Int))=true:=by rw[bne_iff_ne];omega
    go_wp2_with fail
    refine ca.out.mono ?_;rintro e w' ⟨rfl,h1,af⟩;clear aF;go_wp2;go_roundw
    case rel=>exact⟨i,j-i,ay,by omega,ajR,by omega,rfl,by go_num,h1,af⟩
    case measure=>simp[intOf];omega
def s6(g c n:Nat)(X aR V Y:List bu)(post:b1)(W:ah):Prop:=
 Calls prog 231 #[.slice (some ⟨g,0,none⟩) n c,.int .i64 (X.length:Int),.int .i64 ((X.length+aR.length:Nat):Int),.int .i64 ((X.length+aR.length+V.length:Nat):Int),.func (.func 205) #[] #[]] W λe w'=>e=.returned (.tuple #[])/\∃R,cF w' g (X++(R++Y)) post/\cv R/\cw (aR++V) R/\W.grownBy w' (some g)
theorem as9(g c n:Nat)(X aR V Y:List bu)(post:b1)(w:ah)(aA:n=(X++(aR++(V++Y))).length)(hl:n<=100000)(j9:cv aR)(bW:cv V)(hu:2<=aR.length)(aD:2<=V.length)(hw:Light (aR++V))(aj:cF w g (X++(aR++(V++Y))) post)
  (QQ:∀(dE fo eB iU:List bu)(W:ah),fo.length+eB.length<aR.length+V.length->0<fo.length->0<eB.length->cv fo->cv eB->Light (fo++eB)->n=(dE++(fo++(eB++iU))).length->cF W g (dE++(fo++(eB++iU))) post->s6 g c n dE fo eB iU post W):s6 g c n X aR V Y post w:=by
 unfold s6;obtain⟨a,aV⟩:∃a,a=X.length:=⟨_,rfl⟩;obtain⟨m,hm⟩:∃m,m=a+aR.length:=⟨_,rfl⟩;obtain⟨b,ak⟩:∃b,b=m+V.length:=⟨_,rfl⟩;obtain⟨md,UN⟩:∃md,md=(a+b)/2:=⟨_,rfl⟩;rw[<-aV,<-hm,<-ak];have oR:b<=n:=by rw[aA,ak,hm,aV];simp;omega
 have UL:((m:Int)-a==1)=false:=cz
 have x6:((b:Int)-m==1)=false:=cz
 have Gy:((a:Int)+b)/2=(md:Int):=by omega
 have Lw:a+2<=m:=by omega
 have L7:m+2<=b:=by omega
 have Ue:∀k,k<aR.length->(X++(aR++(V++Y)))[a+k]?=some (aR[k]?.getD ha):=λk hk=>by
  rw[iY (by omega),show a+k-X.length=k by omega,hO hk,bI hk,b7]
 have Uf:∀k,k<V.length->(X++(aR++(V++Y)))[m+k]?=some (V[k]?.getD ha):=λk hk=>by
  rw[iY (by omega),show m+k-X.length=aR.length+k by omega,iY (by omega),show aR.length+k-aR.length=k by omega,hO hk,bI hk,b7]
 have Uy:∀k,k<aR.length->am.wt aR k<=4000000000:=λk hk=>by
  rw[tS hk];exact hw _ (by simp)
 have Uz:∀k,k<V.length->am.wt V k<=4000000000:=λk hk=>by
  rw[tS hk];exact hw _ (by simp)
 have bj:=I aj;have acx:=I Ue;have acy:=I Uf;have acM:=I Uy;have acN:=I Uz;have nM:=I j9;have ja:=I bW;have fm:=I hw;have QR:=I QQ;have b0:=I aA;have b5:=I ak;have cj:=I hm;have iE:=I aV;have EW:=I UN;have mj:=FU;have mixed:prog.follows .mixedOrders=true:=by kernel_rfl
 clear aj Ue Uf Uy Uz j9 bW hw QQ aA aV hm ak UN;go_enter func231,ntmps231
 go_upto_if 140 with fail
 go_cut [20,21]from 141 to 146 (λaqt aqu eQ=>eQ=w/\∃s0 gK:Nat,aqt=.int .i64 s0/\aqu=.int .i64 gK/\a<=s0/\s0<=gK/\gK<=m/\gK<=md/\md+m<=b+s0/\(s0=a\/md+m=b+s0)/\(gK=m\/gK=md))
 case first=>
  have h1:=EW.out;have af:=cj.out;have aq:=b5.out;by_cases mT:md<m
  .go_wp2;go_meet
   exact⟨rfl,md+m-b,md,by go_num,rfl,by omega,by omega,by omega,by omega,by omega,by omega,.inr rfl⟩
  .go_wp2;go_meet
   exact⟨rfl,a,m,rfl,rfl,by omega,by omega,by omega,by omega,by omega,.inl rfl,.inl rfl⟩
 case rest=>
  obtain⟨MP,s0,gK,rfl,rfl,qh,akB,awD,awE,Mz,gd,bS⟩:=hcut;subst MP;obtain⟨p,ax⟩:∃p,p+1=md+m:=⟨md+m-1,by omega⟩;have U7:(md:Int)+m-1=p:=by omega
  have awm:md<=b:=by have:=EW.out;omega
  have avA:a<=md:=by have:=EW.out;omega
  go_wp2_with fail
  go_loopw [20,21] (λo3 Oq wr=>∃(s r:Nat),o3=.int .i64 s/\Oq=.int .i64 r/\s0<=s/\s<=r/\r<=gK/\Hid ((s0<s->am.wt aR (s-1-a)<=am.wt V (p+1-s-m))/\(r<gK->am.wt V (p-r-m)<am.wt aR (r-a)))/\Hid (cF wr g (X++(aR++(V++Y))) post)/\Hid (wc.grownBy wr (some g))) (λo3 Oq _=>(intOf Oq).toNat-(intOf o3).toNat)
  case atStart=>exact⟨s0,gK,rfl,rfl,by omega,akB,by omega,I ⟨λh=>by omega,λh=>by omega⟩,bj,I (dg _ _)⟩
  case round=>
   obtain⟨s,r,rfl,rfl,sk,awK,eV,eZ,hrow,aF⟩:=hrel;by_cases au:s<r
   .obtain⟨h,hh⟩:∃h,h=(s+r)/2:=⟨_,rfl⟩;have Db:s<=h:=by omega
    have Uj:h<r:=by omega
    have ny:((s:Int)+r)/2=(h:Int):=by omega
    obtain⟨k,hk⟩:∃k,k=p-h:=⟨_,rfl⟩;have At:(p:Int)-h=k:=by omega
    have w0:IntKind.i64.wrap (k:Int)=k:=by rw[IntKind.wrap_i64];omega
    have aw:(k:Int).toNat=k:=by omega
    have qe:m<=k:=by omega
    have pu:k<b:=by omega
    clear hh;have ai:=acx.out (h-a) (by have:=cj.out;omega);rw[show a+(h-a)=h by omega]at ai;have qT:=acM.out (h-a) (by have:=cj.out;omega);have hy:=acy.out (k-m) (by have:=b5.out;omega);rw[show m+(k-m)=k by omega]at hy;have Dh:=acN.out (k-m) (by have:=b5.out;omega);obtain⟨t,aE⟩:∃t,t=aR[h-a]?.getD ha:=⟨_,rfl⟩;obtain⟨v,GJ⟩:∃v,v=V[k-m]?.getD ha:=⟨_,rfl⟩;have sn:am.wt aR (h-a)=t.1:=by rw[aE]
    have Wb:am.wt V (p-h-m)=v.1:=by rw[GJ,hk]
    have Wc:am.wt V (k-m)=v.1:=by rw[GJ]
    rw[<-aE]at ai;rw[<-GJ]at hy;rw[sn]at qT;rw[Wc]at Dh;obtain⟨m0,m1⟩:=zQ hrow.out ai;obtain⟨m2,m3⟩:=zQ hrow.out hy;have gX:=Fx v.1 t.1 v.2.1.1 v.2.2.length v.2.1.2 t.2.1.1 t.2.2.length t.2.1.2 Dh qT wr;have pS:=I gX;have vX:=I sn;have QN:=I Wb;have Uk:(h:Int)<n:=by omega
    have kG:(k:Int)<n:=by omega
    have auc:=I hk;clear ai qT hy Dh aE GJ sn Wb Wc gX hk;go_wp2_with fail
    by_cases jP:v.1<t.1
    .have aI:decide ((v.1:Int)-(t.1:Int)<0)=true:=cf;go_quiet_grown ((go_at_call 205;exact pS.out _ _))
     have aJ:Below wr.heap.size wr (grow (wr.drewN nq) osq):=wn wr nq osq;have hi:=I (hrow.out.below aJ);have du:=I (aF.out.trans (dj aJ (some g)));have ry:Hid ((s0<s->am.wt aR (s-1-a)<=am.wt V (p+1-s-m))/\(h<gK->am.wt V (p-h-m)<am.wt aR (h-a))):=I ⟨eZ.out.1,λ_=>by rw[vX.out,QN.out];exact jP⟩;change Exit.then _ _ _ _ (grow (wr.drewN nq) osq);clear aJ m0 m1 m2 m3 hrow aF eZ;generalize grow (wr.drewN nq) osq=aC at *;go_wp2;go_roundw
     case rel=>exact⟨s,h,rfl,by go_num,sk,Db,by omega,ry,hi,du⟩
     case measure=>simp[intOf];omega
    .have aI:decide ((v.1:Int)-(t.1:Int)<0)=false:=aU;go_quiet_grown ((go_at_call 205;exact pS.out _ _))
     have aJ:Below wr.heap.size wr (grow (wr.drewN nq) osq):=wn wr nq osq;have hi:=I (hrow.out.below aJ);have du:=I (aF.out.trans (dj aJ (some g)));have ry:Hid ((s0<h+1->am.wt aR (h+1-1-a)<=am.wt V (p+1-(h+1)-m))/\(r<gK->am.wt V (p-r-m)<am.wt aR (r-a))):=I ⟨λ_=>by
      rw[show h+1-1-a=h-a by omega,show p+1-(h+1)-m=p-h-m by omega,vX.out,QN.out];omega,eZ.out.2⟩
     change Exit.then _ _ _ _ (grow (wr.drewN nq) osq);clear aJ m0 m1 m2 m3 hrow aF eZ;generalize grow (wr.drewN nq) osq=aC at *;go_wp2;go_roundw
     case rel=>exact⟨h+1,r,by go_num,rfl,by omega,by omega,eV,ry,hi,du⟩
     case measure=>simp[intOf];omega
   .obtain rfl:s=r:=by omega
    obtain⟨e,he⟩:∃e,e+s=md+m:=⟨md+m-s,by omega⟩;have avQ:(md:Int)+m-s=e:=by omega
    clear au;obtain⟨x,ai⟩:∃x,x=s-a:=⟨_,rfl⟩;obtain⟨y,hy⟩:∃y,y=e-m:=⟨_,rfl⟩;have awn:m<=e:=by omega
    have Am:e<=b:=by omega
    have Wm:x<=aR.length:=by have:=cj.out;omega
    have Wp:y<=V.length:=by have:=b5.out;omega
    have Ge:x<aR.length->0<y->am.wt V (y-1)<am.wt aR x:=λh1 af=>by
     have aq:=eZ.out.2 (by have:=cj.out;omega);rw[show p-s-m=y-1 by omega,<-ai]at aq;exact aq
    have Gd:0<x->y<V.length->am.wt aR (x-1)<=am.wt V y:=λh1 af=>by
     have aq:=eZ.out.1 (by have:=b5.out;omega);rw[show s-1-a=x-1 by omega,show p+1-s-m=y by omega]at aq;exact aq
    have PK:=I Ge;have PI:=I Gd;have cb:(aR.take x).length=x:=by rw[cr];omega
    have cR:(aR.drop x).length=m-s:=by rw[cB];have:=cj.out;omega
    have ql:(V.take y).length=y:=by rw[cr];omega
    have WT:(V.drop y).length=b-e:=by rw[cB];have:=b5.out;omega
    have kV:=I cb;have iF:=I cR;have un:=I ql;have Fc:=I WT;have fP:cF wr g ((X++aR.take x)++(aR.drop x++(V.take y++(V.drop y++Y)))) post:=by
     have h1:=hrow.out;rw[<-gq x aR,<-gq y V]at h1;simpa only[df]using h1
    have hlen1:((X++aR.take x)++(aR.drop x++(V.take y++(V.drop y++Y)))).length=n:=by
     rw[b0.out,<-congrArg List.length (show(X++aR.take x)++(aR.drop x++(V.take y++(V.drop y++Y)))=X++(aR++(V++Y)) by
      conv=>rhs;rw[<-gq x aR,<-gq y V]
      simp only[df])]
    have l8:=I fP;have EU:=I hlen1;have cc:=I ai;have rD:=I hy;clear Ge Gd cb cR ql WT fP hlen1 hrow eZ ai hy;go_upto_region 39 with fail
    go_cut [185]from 178 to 185 (λaqr eQ=>aqr=.bool (decide (s<m/\m<e))/\eQ=wr)
    case first=>
     by_cases h1:s<m
     .by_cases af:m<e
      .go_wp2_with fail
       go_meet
       exact⟨by rw[bE (show s<m/\m<e from⟨h1,af⟩)],rfl⟩
      .go_wp2_with fail
       go_meet
       exact⟨by rw[bG (show ¬(s<m/\m<e)from λh=>af h.2)],rfl⟩
     .go_wp2_with fail
      go_meet
      exact⟨by rw[bG (show ¬(s<m/\m<e)from λh=>h1 h.1)],rfl⟩
    case rest=>
    obtain⟨rfl,lw⟩:=hcut;rename ah=>Bk
    subst lw;go_upto_if 185 with fail
    go_cut []from 185 to 191 (λeQ=>cF eQ g (X++(aR.take x++(V.take y++(aR.drop x++(V.drop y++Y))))) post/\wc.grownBy eQ (some g))
    case first=>
     by_cases hc:s<m/\m<e
     .rw[bE hc];have lV:Calls prog 236 #[.slice (some ⟨g,0,none⟩) n c,.int .i64 s,.int .i64 m,.int .i64 e,.func (.func 205) #[] #[]] Bk λe w'=>e=.returned (.tuple #[])/\Hid (cF w' g (X++(aR.take x++(V.take y++(aR.drop x++(V.drop y++Y))))) post/\wc.grownBy w' (some g)):=by
       have h:=as4 g c (.func (.func 205) #[] #[]) (X++aR.take x) (aR.drop x) (V.take y) (V.drop y++Y) post Bk (by rw[iF.out];omega) (by rw[un.out];have:=rD.out;omega) (by rw[EU.out];omega) l8.out;rw[EU.out,iF.out,un.out,aY,kV.out,<-iE.out,show a+x=s by have:=cc.out;omega,show s+(m-s)=m by omega,show m+y=e by have:=rD.out;omega]at h;exact h.mono λe w' ⟨h1,af,aq⟩=>⟨h1,I ⟨by simpa only[df]using af,aF.out.trans aq⟩⟩
      have xE:=I lV;clear lV;go_wp2_with fail
      refine xE.out.mono ?_;rintro e w' ⟨rfl,h1⟩;go_wp2_with fail
      go_meet
      exact h1.out
     .rw[bG hc];have hfin:cF Bk g (X++(aR.take x++(V.take y++(aR.drop x++(V.drop y++Y))))) post/\wc.grownBy Bk (some g):=by
       refine⟨?_,aF⟩;have h1:=l8.out;by_cases af:s<m
       .have aq:V.take y=[]:=lf (by rw[un.out];have:=rD.out;omega);rw[aq]at h1 ⊢;simpa using h1
       .have aq:aR.drop x=[]:=lf (by rw[iF.out];omega);rw[aq]at h1 ⊢;simpa using h1
      have br:=I hfin;clear hfin;go_wp2_with fail
      go_meet
      exact br.out
    case rest=>
    have pU:=I hcut;clear hcut aF;rename ah=>Bk
    go_upto_region 41 with fail
    go_cut [199]from 192 to 199 (λaqs eQ=>aqs=.bool (decide (a<s/\s<md))/\eQ=Bk)
    case first=>
     by_cases h1:a<s
     .by_cases af:s<md
      .go_wp2_with fail
       go_meet
       exact⟨by rw[bE (show a<s/\s<md from⟨h1,af⟩)],rfl⟩
      .go_wp2_with fail
       go_meet
       exact⟨by rw[bG (show ¬(a<s/\s<md)from λh=>af h.2)],rfl⟩
     .go_wp2_with fail
      go_meet
      exact⟨by rw[bG (show ¬(a<s/\s<md)from λh=>h1 h.1)],rfl⟩
    case rest=>
    obtain⟨rfl,lw⟩:=hcut;rename ah=>wp
    subst lw;go_upto_if 199 with fail
    go_cut []from 199 to 205 (λeQ=>∃gw,cF eQ g (X++(gw++(aR.drop x++(V.drop y++Y)))) post/\cv gw/\cw (aR.take x++V.take y) gw/\wc.grownBy eQ (some g))
    case first=>
     by_cases hc:a<s/\s<md
     .rw[bE hc];have lV:Calls prog 231 #[.slice (some ⟨g,0,none⟩) n c,.int .i64 a,.int .i64 s,.int .i64 md,.func (.func 205) #[] #[]] wp λe w'=>e=.returned (.tuple #[])/\Hid (∃gw,cF w' g (X++(gw++(aR.drop x++(V.drop y++Y)))) post/\cv gw/\cw (aR.take x++V.take y) gw/\wc.grownBy w' (some g)):=by
       have hlen:n=(X++(aR.take x++(V.take y++(aR.drop x++(V.drop y++Y))))).length:=by
        rw[<-EU.out];simp only[aY];omega
       have h:=QR.out X (aR.take x) (V.take y) (aR.drop x++(V.drop y++Y)) wp (by rw[kV.out,un.out];have:=rD.out;have:=cc.out;have:=cj.out;have:=b5.out;omega) (by rw[kV.out];have:=cc.out;omega) (by rw[un.out];have:=rD.out;omega) (Ej nM.out x) (Ej ja.out y)
        (λt aE=>fm.out t (by
         rcases List.mem_append.1 aE with aE|aE
         .exact mem_append_left _ (mem_of_mem_take aE)
         .exact mem_append_right _ (mem_of_mem_take aE))) hlen pU.out.1
       unfold s6 at h;rw[kV.out,un.out,<-iE.out,show a+x=s by have:=cc.out;omega,show s+y=md by have:=rD.out;omega]at h;exact h.mono λe w' ⟨h1,R,af,aq,aK,aT⟩=>⟨h1,I ⟨R,af,aq,aK,pU.out.2.trans aT⟩⟩
      have xE:=I lV;clear lV;go_wp2_with fail
      refine xE.out.mono ?_;rintro e w' ⟨rfl,h1⟩;go_wp2_with fail
      go_meet
      exact h1.out
     .rw[bG hc];have hfin:∃gw,cF wp g (X++(gw++(aR.drop x++(V.drop y++Y)))) post/\cv gw/\cw (aR.take x++V.take y) gw/\wc.grownBy wp (some g):=by
       refine⟨aR.take x++V.take y,by simpa only[df]using pU.out.1,?_,cw.refl _,pU.out.2⟩;by_cases af:a<s
       .have aq:V.take y=[]:=lf (by rw[un.out];have:=rD.out;omega);rw[aq,append_nil];exact Ej nM.out x
       .have aq:aR.take x=[]:=lf (by rw[kV.out];have:=cc.out;omega);rw[aq,nil_append];exact Ej ja.out y
      have br:=I hfin;clear hfin;go_wp2_with fail
      go_meet
      exact br.out
    case rest=>
    have ig:=I hcut;clear hcut;rename ah=>sL
    go_upto_region 43 with fail
    go_cut [213]from 206 to 213 (λaqv eQ=>aqv=.bool (decide (md<e/\e<b))/\eQ=sL)
    case first=>
     by_cases h1:md<e
     .by_cases af:e<b
      .go_wp2_with fail
       go_meet
       exact⟨by rw[bE (show md<e/\e<b from⟨h1,af⟩)],rfl⟩
      .go_wp2_with fail
       go_meet
       exact⟨by rw[bG (show ¬(md<e/\e<b)from λh=>af h.2)],rfl⟩
     .go_wp2_with fail
      go_meet
      exact⟨by rw[bG (show ¬(md<e/\e<b)from λh=>h1 h.1)],rfl⟩
    case rest=>
    obtain⟨rfl,lw⟩:=hcut;rename ah=>HY
    subst lw;obtain⟨gw,bh,bN,en,gn⟩:=ig.out;have GU:gw.length=x+y:=by
     have h1:=en.1.length_eq;rw[aY,kV.out,un.out]at h1;omega
    have aer:=I bN;have aes:=I en;by_cases hc:md<e/\e<b
    .rw[bE hc];have lV:Calls prog 231 #[.slice (some ⟨g,0,none⟩) n c,.int .i64 md,.int .i64 e,.int .i64 b,.func (.func 205) #[] #[]] HY λe w'=>e=.returned (.tuple #[])/\Hid (∃kj,cF w' g (X++(gw++(kj++Y))) post/\cv kj/\cw (aR.drop x++V.drop y) kj/\wc.grownBy w' (some g)):=by
      have hlen:n=((X++gw)++(aR.drop x++(V.drop y++Y))).length:=by
       rw[<-EU.out];simp only[aY,GU,kV.out,un.out];omega
      have h:=QR.out (X++gw) (aR.drop x) (V.drop y) Y HY (by rw[iF.out,Fc.out];have:=rD.out;have:=cc.out;have:=cj.out;have:=b5.out;have:=EW.out;omega) (by rw[iF.out];omega) (by rw[Fc.out];omega) (Ei nM.out x) (Ei ja.out y)
       (λt aE=>fm.out t (by
        rcases List.mem_append.1 aE with aE|aE
        .exact mem_append_left _ (mem_of_mem_drop aE)
        .exact mem_append_right _ (mem_of_mem_drop aE))) hlen (by simpa only[df]using bh)
      unfold s6 at h;rw[iF.out,Fc.out,aY,GU,<-iE.out,show a+(x+y)=md by have:=rD.out;have:=cc.out;omega,show md+(m-s)=e by omega,show e+(b-e)=b by omega]at h;exact h.mono λe w' ⟨h1,R,af,aq,aK,aT⟩=>⟨h1,I ⟨R,by simpa only[df]using af,aq,aK,gn.trans aT⟩⟩
     have xE:=I lV;clear lV bh bN en gn GU;go_wp2_with fail
     refine xE.out.mono ?_;rintro e w' ⟨rfl,h1⟩;go_wp2;go_end0
     refine⟨rfl,?_⟩;obtain⟨kj,GN,M8,WG,WH⟩:=h1.out;obtain⟨gh,z2⟩:=Xj nM.out ja.out x y Wm Wp PK.out PI.out aer.out M8 aes.out WG;exact⟨gw++kj,by simpa only[df]using GN,gh,z2,WH⟩
    .rw[bG hc];have Vz:cv (aR.drop x++V.drop y):=by
      by_cases af:md<e
      .have aq:V.drop y=[]:=lf (by rw[Fc.out];omega);rw[aq,append_nil];exact Ei nM.out x
      .have aq:aR.drop x=[]:=lf (by rw[iF.out];omega);rw[aq,nil_append];exact Ei ja.out y
     obtain⟨gh,z2⟩:=Xj nM.out ja.out x y Wm Wp PK.out PI.out bN Vz en (cw.refl _);have hfin:∃R,cF HY g (X++(R++Y)) post/\cv R/\cw (aR++V) R/\wc.grownBy HY (some g):=⟨_,by simpa only[df]using bh,gh,z2,gn⟩;have br:=I hfin;clear hfin Vz gh z2 bh bN en gn GU;go_wp2;go_end0
     exact⟨rfl,br⟩
theorem Z5(g c n:Nat)(post:b1)(hl:n<=100000):∀(N:Nat) (X aR V Y:List bu) (W:ah),aR.length+V.length<=N->0<aR.length->0<V.length->cv aR->cv V->Light (aR++V)->n=(X++(aR++(V++Y))).length->cF W g (X++(aR++(V++Y))) post->s6 g c n X aR V Y post W:=by
 intro N;induction N with
|zero=>intro X aR V Y W h h1;omega
|succ N ih=>
  intro X aR V Y W cU avs wx j9 bW hw aA aj;by_cases h1:aR.length=1
  .obtain⟨z,rfl⟩:=List.length_eq_one_iff.1 h1;have h:=ata g c X V Y z post W (by rw[aA]at hl;simpa using hl) bW wx (λt aE=>hw t (by simpa using aE)) (by simpa using aj);unfold s6;rw[aA];simpa using h
  .by_cases af:V.length=1
   .obtain⟨z,rfl⟩:=List.length_eq_one_iff.1 af;have h:=as8 g c X aR Y z post W (by rw[aA]at hl;simpa using hl) j9 (by omega) (λt aE=>hw t (by
     rcases List.mem_cons.1 aE with rfl|aE
     .simp
     .simp[aE])) (by simpa using aj)
    unfold s6;rw[aA];simpa using h
   .exact as9 g c n X aR V Y post W aA hl j9 bW (by omega) (by omega) hw aj (λdE fo eB iU bb h aq aK aT ci c6 e8 dh=>ih dE fo eB iU bb (by omega) aq aK aT ci c6 e8 dh)
namespace am
def tU(k:Nat)(cm:List (List bu)):Prop:=∀B∈cm,B.length=k/\cv B
def Runs(k:Nat)(L:List bu):Prop:=∃(cm:List (List bu)) (C:List bu),L=cm.flatten++C/\tU k cm/\C.length<=k/\cv C
theorem J7{k:Nat}{cm:List (List bu)}(h:tU k cm):cm.flatten.length=cm.length*k:=by
 induction cm with
|nil=>simp
|cons B cm ih=>
  rw[flatten_cons,aY,(h B (by simp)).1,ih (λC ji=>h C (by simp[ji])),bY,succ_mul];omega
theorem Rh{k:Nat}{cm:List (List bu)}(h:tU k cm){C:List bu}(hl:C.length=k)(ap:cv C):tU k (cm++[C])/\(cm++[C]).flatten=cm.flatten++C:=by
 refine⟨λB bx=>?_,by simp⟩;rcases List.mem_append.1 bx with bx|bx
 .exact h B bx
 .simp only[mem_singleton]at bx;subst bx;exact⟨hl,ap⟩
theorem arm:cv []:=by simp[cv]
theorem aqn{k:Nat}{R:List bu}(hk:0<k)(h:Runs k R)(hl:2*k<=R.length):∃aR V Cj,R=aR++(V++Cj)/\aR.length=k/\V.length=k/\cv aR/\cv V/\Runs k Cj:=by
 obtain⟨cm,C,rfl,bx,ji,ap⟩:=h;have hlen:=J7 bx;rw[aY]at hl;match cm,bx,hlen,hl with
|[],_,_,hl=>simp at hl;omega
|[B],bx,_,hl=>
  have h1:=bx B (by simp);simp only[flatten_cons,flatten_nil,append_nil]at hl ⊢;exact⟨B,C,[],by simp,h1.1,by omega,h1.2,ap,[],[],by simp,λB bx=>by simp at bx,by simp,arm⟩
|B::D::cm,bx,_,_=>
  have h1:=bx B (by simp);have af:=bx D (by simp);exact⟨B,D,cm.flatten++C,by simp,h1.1,af.1,h1.2,af.2,cm,C,rfl,λE fx=>bx E (by simp[fx]),ji,ap⟩
theorem aqm{k:Nat}{R:List bu}(h:Runs k R)(hl:k<R.length)(ew:R.length<2*k):∃aR V,R=aR++V/\aR.length=k/\0<V.length/\cv aR/\cv V:=by
 obtain⟨cm,C,rfl,bx,ji,ap⟩:=h;have hlen:=J7 bx;rw[aY]at hl ew;match cm,bx,hlen,hl,ew with
|[],_,_,hl,_=>simp at hl;omega
|[B],bx,hlen,hl,_=>
  have h1:=bx B (by simp);simp only[length_singleton,Nat.one_mul]at hlen;exact⟨B,C,by simp,h1.1,by omega,h1.2,ap⟩
|B::D::cm,_,hlen,_,ew=>
  rw[bY,bY,succ_mul,succ_mul]at hlen;omega
theorem YG{k:Nat}{R:List bu}(h:Runs k R)(hl:R.length<=k):cv R:=by
 obtain⟨cm,C,rfl,bx,ji,ap⟩:=h;have hlen:=J7 bx;rw[aY]at hl;match cm,bx,hlen,hl with
|[],_,_,_=>simpa using ap
|[B],bx,hlen,hl=>
  simp only[length_singleton,Nat.one_mul]at hlen;obtain rfl:C=[]:=lf (by omega);simpa using (bx B (by simp)).2
|B::D::cm,_,hlen,hl=>
  rw[bY,bY,succ_mul,succ_mul]at hlen;obtain rfl:C=[]:=lf (by omega);have ao:(B::D::cm).flatten=[]:=lf (by omega);rw[ao];simp[cv]
theorem cw.light{A B:List bu}(h:cw A B)(hA:Light A):Light B:=λt aE=>hA t (h.1.mem_iff.2 aE)
end am
theorem as7(g c:Nat)(T:List bu)(post:b1)(w:ah)(hl:T.length<=100000)(hw:Light T)(aj:cF w g T post) :
  Calls prog 220 #[.slice (some ⟨g,0,none⟩) T.length c,.int .i64 (T.length:Int),.func (.func 205) #[] #[]] w λe w'=>e=.returned (.tuple #[])/\∃dv,cF w' g dv post/\cv dv/\cw T dv/\w.grownBy w' (some g):=by
 obtain⟨n,aA⟩:∃n,n=T.length:=⟨_,rfl⟩;rw[<-aA]at hl ⊢;have b0:=I aA;have bj:=I aj;have fm:=I hw;clear aA aj hw;go_enter func220,ntmps220
 go_wp2;go_loopw [7,8] (λiV bv wr=>∃(a:Nat),iV=.int .i64 a/\bv=.int .i64 ((a:Int)+20)/\a<=n/\Hid (∃(gi:List (List bu)) (R:List bu),a=gi.flatten.length/\tU 20 gi/\cw T (gi.flatten++R)/\cF wr g (gi.flatten++R) post)/\Hid (w.grownBy wr (some g))) (λiV _ _=>n+20-(intOf iV).toNat)
 case atStart=>exact⟨0,rfl,by simp,by omega,I ⟨[],T,rfl,λB bx=>by simp at bx,by simpa using cw.refl T,by simpa using bj.out⟩,I (dg _ _)⟩
 case round=>
  obtain⟨a,rfl,rfl,aV,aS,aF⟩:=hrel;by_cases mR:a+20<=n
  .have eZ:Calls prog 230 #[.slice (some ⟨g,0,none⟩) n c,.int .i64 a,.int .i64 ((a:Int)+20),.func (.func 205) #[] #[]] wr λe w'=>e=.returned (.tuple #[])/\Hid (∃(gi:List (List bu)) (R:List bu),a+20=gi.flatten.length/\tU 20 gi/\cw T (gi.flatten++R)/\cF w' g (gi.flatten++R) post)/\Hid (w.grownBy w' (some g)):=by
    obtain⟨gi,R,h1,af,aq,aK⟩:=aS.out;have aT:=aq.1.length_eq;rw[aY,<-b0.out]at aT;have aG:R=R.take 20++R.drop 20:=(gq 20 R).symm;have cb:(R.take 20).length=20:=by rw[cr];omega
    rw[aG]at aK aq;have h:=Z2 g c gi.flatten (R.take 20) (R.drop 20) post wr (by rw[<-aG,aY];omega) (λt aE=>cw.light aq fm.out t (mem_append_right _ (mem_append_left _ aE))) aK;rw[<-aG,aY,<-aT,cb,<-h1,show((a+20:Nat):Int)=a+20 by omega]at h;refine h.mono ?_;rintro e w' ⟨bh,mM,bN,en,gn,qk⟩;have Ng:mM.length=20:=by rw[<-gn.1.length_eq,cb]
    obtain⟨bP,bw⟩:=Rh af Ng en;exact⟨bh,I ⟨gi++[mM],R.drop 20,by rw[bw,aY,Ng,<-h1],bP,by rw[bw,df];exact aq.trans ((cw.refl _).append (gn.append (cw.refl _))),by rw[bw,df];exact bN⟩,I (aF.out.trans qk)⟩
   have j2:=I eZ;clear eZ aS aF;go_wp2_with fail
   refine j2.out.mono ?_;rintro e aC ⟨rfl,jE,bp⟩;go_wp2;go_roundw
   case rel=>exact⟨a+20,by go_num,by go_num,by omega,jE,bp⟩
   case measure=>simp[intOf];omega
  .have eZ:Calls prog 230 #[.slice (some ⟨g,0,none⟩) n c,.int .i64 a,.int .i64 n,.func (.func 205) #[] #[]] wr λe w'=>e=.returned (.tuple #[])/\Hid (∃L,L.length=n/\am.Runs 20 L/\cw T L/\cF w' g L post)/\Hid (w.grownBy w' (some g)):=by
    obtain⟨gi,R,h1,af,aq,aK⟩:=aS.out;have aT:=aq.1.length_eq;rw[aY,<-b0.out]at aT;have h:=Z2 g c gi.flatten R [] post wr (by rw[append_nil,aY];omega) (λt aE=>cw.light aq fm.out t (by simp[aE])) (by simpa using aK);rw[append_nil,aY,<-aT,<-h1]at h;refine h.mono ?_;rintro e w' ⟨bh,mM,bN,en,gn,qk⟩;have Ng:mM.length=R.length:=gn.1.length_eq.symm;exact⟨bh,I ⟨gi.flatten++mM,by rw[aY];omega,⟨gi,mM,rfl,af,by omega,en⟩,aq.trans ((cw.refl _).append gn),by simpa using bN⟩,I (aF.out.trans qk)⟩
   have j2:=I eZ;clear eZ aS aF;go_wp2_with fail
   refine j2.out.mono ?_;rintro e aC ⟨rfl,jE,bp⟩;go_wp2;rename ah=>eQ
   go_loopw [6] (λiy wr=>∃(k:Nat),iy=.int .i64 k/\20<=k/\k<=200020/\Hid (∃L,L.length=n/\am.Runs k L/\cw T L/\cF wr g L post)/\Hid (w.grownBy wr (some g))) (λiy _=>n-(intOf iy).toNat)
   case atStart=>exact⟨20,rfl,by omega,by omega,jE,bp⟩
   case round=>
    obtain⟨k,rfl,gl,ek,aS,aF⟩:=hrel;clear jE bp;by_cases kG:k<n
    .have VN:Hid (∃(gi:List (List bu)) (R:List bu),0=gi.flatten.length/\tU (2*k) gi/\am.Runs k R/\cw T (gi.flatten++R)/\cF wr g (gi.flatten++R) post):=I (by
      obtain⟨L,h1,af,aq,aK⟩:=aS.out;exact⟨[],L,rfl,λB bx=>by simp at bx,af,by simpa using aq,by simpa using aK⟩)
     clear aS;go_wp2;rename ah=>Bl
     go_loopw [7,8] (λiV bv wr=>∃(a:Nat),iV=.int .i64 a/\bv=.int .i64 ((a:Int)+2*k)/\a<=n/\Hid (∃(gi:List (List bu)) (R:List bu),a=gi.flatten.length/\tU (2*k) gi/\am.Runs k R/\cw T (gi.flatten++R)/\cF wr g (gi.flatten++R) post)/\Hid (w.grownBy wr (some g))) (λiV _ _=>n+20-(intOf iV).toNat)
     case atStart=>exact⟨0,rfl,by go_num,by omega,VN,aF⟩
     case round=>
      obtain⟨a,rfl,rfl,aV,aS,aF⟩:=hrel;clear VN;by_cases avy:a+2*k<=n
      .have eZ:Calls prog 231 #[.slice (some ⟨g,0,none⟩) n c,.int .i64 a,.int .i64 ((a:Int)+k),.int .i64 ((a:Int)+2*k),.func (.func 205) #[] #[]] wr λe w'=>e=.returned (.tuple #[])/\Hid (∃(gi:List (List bu)) (R:List bu),a+2*k=gi.flatten.length/\tU (2*k) gi/\am.Runs k R/\cw T (gi.flatten++R)/\cF w' g (gi.flatten++R) post)/\Hid (w.grownBy w' (some g)):=by
        obtain⟨gi,R,h1,af,tf,aq,aK⟩:=aS.out;have aT:=aq.1.length_eq;rw[aY,<-b0.out]at aT;obtain⟨aR,V,Cj,rfl,cb,cR,s1,s2,r'⟩:=aqn (by omega) tf (by omega);have h:=Z5 g c n post hl (aR.length+V.length) gi.flatten aR V Cj wr bl (by omega) (by omega) s1 s2 (λt aE=>cw.light aq fm.out t (by rcases List.mem_append.1 aE with aE|aE<;>simp[aE])) (by rw[aY];omega) aK;unfold s6 at h;rw[cb,cR,<-h1,show((a+k:Nat):Int)=a+(k:Int) by omega,show((a+k+k:Nat):Int)=a+2*(k:Int) by omega]at h;refine h.mono ?_;rintro e w' ⟨bh,W,bN,en,gn,qk⟩;have Nf:W.length=2*k:=by rw[<-gn.1.length_eq,aY];omega
        obtain⟨bP,bw⟩:=Rh af Nf en;exact⟨bh,I ⟨gi++[W],Cj,by rw[bw,aY,Nf,<-h1],bP,r',by
         rw[bw,df];refine aq.trans ((cw.refl _).append ?_);rw[<-df];exact gn.append (cw.refl _),by rw[bw,df];exact bN⟩,I (aF.out.trans qk)⟩
       have j2:=I eZ;clear eZ aS aF;go_wp2_with fail
       refine j2.out.mono ?_;rintro e aC ⟨rfl,jE,bp⟩;go_wp2;go_roundw
       case rel=>exact⟨a+2*k,by go_num,by go_num,by omega,jE,bp⟩
       case measure=>simp[intOf];omega
      .by_cases Lw:a+k<n
       .have eZ:Calls prog 231 #[.slice (some ⟨g,0,none⟩) n c,.int .i64 a,.int .i64 ((a:Int)+k),.int .i64 n,.func (.func 205) #[] #[]] wr λe w'=>e=.returned (.tuple #[])/\Hid (∃L,L.length=n/\am.Runs (2*k) L/\cw T L/\cF w' g L post)/\Hid (w.grownBy w' (some g)):=by
         obtain⟨gi,R,h1,af,tf,aq,aK⟩:=aS.out;have aT:=aq.1.length_eq;rw[aY,<-b0.out]at aT;obtain⟨aR,V,rfl,cb,cR,s1,s2⟩:=aqm tf (by omega) (by omega);rw[aY]at aT;have h:=Z5 g c n post hl (aR.length+V.length) gi.flatten aR V [] wr bl (by omega) (by omega) s1 s2 (λt aE=>cw.light aq fm.out t (by rcases List.mem_append.1 aE with aE|aE<;>simp[aE])) (by simp only[append_nil,aY];omega) (by simpa using aK);unfold s6 at h;rw[cb,<-h1,show((a+k:Nat):Int)=a+(k:Int) by omega,show a+k+V.length=n by omega]at h;refine h.mono ?_;rintro e w' ⟨bh,W,bN,en,gn,qk⟩;have Nf:W.length=k+V.length:=by rw[<-gn.1.length_eq,aY];omega
         exact⟨bh,I ⟨gi.flatten++W,by rw[aY];omega,⟨gi,W,rfl,af,by omega,en⟩,aq.trans ((cw.refl _).append gn),by simpa using bN⟩,I (aF.out.trans qk)⟩
        have j2:=I eZ;clear eZ aS aF;go_wp2_with fail
        refine j2.out.mono ?_;rintro e aC ⟨rfl,jE,bp⟩;go_wp2;go_roundw
        case rel=>exact⟨2*k,by go_num,by omega,by omega,jE,bp⟩
        case measure=>simp[intOf];omega
       .have jE:Hid (∃L,L.length=n/\am.Runs (2*k) L/\cw T L/\cF wr g L post):=I (by
         obtain⟨gi,R,h1,af,tf,aq,aK⟩:=aS.out;have aT:=aq.1.length_eq;rw[aY,<-b0.out]at aT;exact⟨gi.flatten++R,by rw[aY];omega,⟨gi,R,rfl,af,by omega,YG tf (by omega)⟩,aq,aK⟩)
        clear aS;go_wp2;go_roundw
        case rel=>exact⟨2*k,by go_num,by omega,by omega,jE,aF⟩
        case measure=>simp[intOf];omega
    .have hfin:∃dv,cF wr g dv post/\cv dv/\cw T dv/\w.grownBy wr (some g):=by
      obtain⟨L,h1,af,aq,aK⟩:=aS.out;exact⟨L,aK,YG af (by omega),aq,aF.out⟩
     have br:=I hfin;clear hfin aS aF;go_wp2;go_end0
     exact⟨rfl,br⟩
theorem as6(g c:Nat)(T:List bu)(post:b1)(w:ah)(hl:T.length<=100000)(hw:Light T)(aj:cF w g T post) :
  Calls prog 204 #[.slice (some ⟨g,0,none⟩) T.length c,.func (.func 205) #[] #[]] w λe w'=>e=.returned (.tuple #[])/\Hid (∃dv,cF w' g dv post/\cv dv/\cw T dv/\w.grownBy w' (some g)):=by
 have ca:=I (as7 g c T post w hl hw aj);clear hw aj;go_enter func204,ntmps204
 go_wp2_with fail
 refine ca.out.mono ?_;rintro e aw ⟨rfl,hfin⟩;have br:=I hfin;clear hfin;go_wp2;go_end0
 exact⟨rfl,br⟩
theorem Z3(g c:Nat)(T:List bu)(post:b1)(w:ah)(hl:T.length<=100000)(hw:Light T)(aj:cF w g T post) :
  Calls prog 173 #[.slice (some ⟨g,0,none⟩) T.length c] w λe w'=>e=.returned (.slice (some ⟨g,0,none⟩) T.length c)/\∃dv,cF w' g dv post/\cv dv/\cw T dv/\w.grownBy w' (some g):=by
 have ca:=I (as6 g c T post w hl hw aj);clear hw aj;go_enter func173,ntmps173
 go_wp2_with fail
 refine ca.out.mono ?_;rintro e aw ⟨rfl,aL⟩;go_wp2;go_ret;exact⟨rfl,aL⟩
theorem wpList_append_run{ops:Array Oper}{rest:List Oper}{o:Oper}{a:Act}(w:ah){Q:Exit->Act->ah->Prop}(C8:o.guard=none)(s x:Operand)(t tx:TypeId)
  (b9:o.op=.call {callee:=.builtin .append,args:=#[s,x],argTypes:=#[t,tx]})(vs Z8 sJ:Value)(w':ah)(ap:a.eval s=vs)(ai:a.eval x=Z8)(aj:∀ty,(Builtin.append_ #[t,tx] ty #[vs,Z8]).run prog w=.ok sJ w')
  (h:wpList prog ops Q rest (a.put o.dst sJ) w'):wpList prog ops Q (o::rest) a w:=
 wpList_plain C8 λ_ hK=>by
  unfold Oper.wp execOp;simp only[b9,resolve,invoke,builtin,Sem.run_bind,Sem.run_pure,Result.andThen_ok,map_toArray,map_cons,map_nil,ap,ai,aj];exact hK _ _ h
theorem GM:(prog.info? 231).map (λi=>(i.zero,i.size,i.bytes))=some (some (.agg #[.int .i64 0,.slice none 0 0]),2,32):=by kernel_rfl
theorem NY(l:List bu):(cp l).length=l.length*2:=wi l
theorem NW(l m:List bu):cp (l++m)=cp l++cp m:=Kc l m
theorem XX(l:List bu):∀u∈cp l,u.oneCell'=true:=by
 induction l with
|nil=>intro u hu;simp[cp,hG]at hu
|cons x l ih=>
  intro u hu;unfold cp at hu ih;rw[hG]at hu;rcases List.mem_cons.1 hu with rfl|hu
  .rfl
  .rcases List.mem_cons.1 hu with rfl|hu
   .rfl
   .exact ih u hu
theorem Wx(l:ae):∀u∈aM l,u.oneCell'=true:=by
 intro u hu;simp only[aM,mem_map]at hu;obtain⟨_,_,rfl⟩:=hu;rfl
theorem Ww(l:ae):(aM l).length=l.length*1:=by rw[gm,Nat.mul_one]
theorem ak9(l m:ae):aM (l++m)=aM l++aM m:=(DJ l m).symm
theorem asD(n:Nat)(w:ah)(ao:0<n)(aA:n<=100000) :
  Calls prog 222 #[.slice none 0 0,.int .i64 n] w λe w'=>∃G,e=.returned (.slice (some ⟨w.heap.size,0,none⟩) 0 G)/\w'.ownsRow w.heap.size 3 1 (.slice (some ⟨w.heap.size,0,none⟩) 0 G) 0 []/\w.grownBy w' none:=by
 obtain⟨i0,ay,bC,bL,bz⟩:=info_parts oa;obtain⟨G,uJ⟩:∃G,G=grownCap w n 0 3:=⟨_,rfl⟩;have aiD:n<=G:=by rw[uJ];exact grownCap_ge w n 0 3
 have CO:G<=maxLen:=by rw[uJ];exact grownCap_le_maxLen w n 0 3 (by unfold maxLen;omega)
 have aQ:∀k,(Builtin.zeroCells (.int .i64 0:Value).cells k).size=k*1:=λk=>by simp[Builtin.zeroCells,Value.cells]
 have Dv:∀ty,(Builtin.append_ #[112,3] ty #[.slice none 0 0,.int .i64 n]).run prog w=.ok (.slice (some ⟨w.heap.size,0,none⟩) n G) (w.drew.alloc (.cells (#[]++Builtin.zeroCells (.int .i64 0:Value).cells n++Builtin.zeroCells (.int .i64 0:Value).cells (G-n)) 3)):=λty=>by
  have h:=Lib.run_append_grow_zeros (P:=prog) w 112 3 ty 3 i0 (.int .i64 0) .i64 .i64 underlying112 underlying3 ay bC none 0 0 [] (run_firstCells_none w.drew i0.size 0 0 0) n ao (by rw[bL];omega) (by omega) (by omega) (by rw[bz];omega)
   (by rw[ez];exact growslice_fits (by omega) (by rw[bz];omega))
  simp only[ez]at h;rw[<-uJ]at h;exact h
 have hfin:(w.drew.alloc (.cells (#[]++Builtin.zeroCells (.int .i64 0:Value).cells n++Builtin.zeroCells (.int .i64 0:Value).cells (G-n)) 3)).ownsRow w.heap.size 3 1 (.slice (some ⟨w.heap.size,0,none⟩) 0 G) 0 []/\w.grownBy (w.drew.alloc (.cells (#[]++Builtin.zeroCells (.int .i64 0:Value).cells n++Builtin.zeroCells (.int .i64 0:Value).cells (G-n)) 3)) none:=
  ⟨⟨by simp,.inr ⟨w.heap.size,G,_,rfl,Nat.le_refl _,heap_alloc_new w.drew _,by omega,CO,by simp only[Array.size_append,aQ,Array.size_empty];omega,by simp⟩⟩,⟨rfl,rfl,rfl,by simp,λ_ hk _=>Go.heap_alloc_old w.drew _ hk⟩⟩
 have fe:=I hfin;have hG63:G<=9223372036854775807:=by unfold maxLen at CO;omega
 clear hfin uJ aQ;generalize w.drew.alloc (.cells (#[]++Builtin.zeroCells (.int .i64 0:Value).cells n++Builtin.zeroCells (.int .i64 0:Value).cells (G-n)) 3)=aC at *;have Ju:=I Dv;clear Dv ay bC bL bz;go_enter func222,ntmps222
 go_wp2_with (at_builtin;refine wpList_append_run _ rfl _ _ 112 3 rfl (.slice none 0 0) (.int .i64 n) (.slice (some ⟨w.heap.size,0,none⟩) n G) aC rfl rfl Ju.out ?_)
 go_wp2;go_ret;exact⟨G,rfl,fe.out.1,fe.out.2⟩
theorem asA(B g1 b2 c1 g2 bU c2:Nat)(cb cR:ae)(w:ah)(h1:0<b2)(pv:cb.length=b2)(ew:cR.length=bU)(iK:b2<=10000)(k7:bU<=10000)
  (bx:Row w B 112 [.slice (some ⟨g1,0,none⟩) b2 c1,.slice (some ⟨g2,0,none⟩) bU c2])
  (cg:∀W,av w W->∀j u,(aM cb)[j]?=some u->W.cell? ((⟨g1,0,none⟩:Addr).add j)=some u)(bS:∀W,av w W->∀j u,(aM cR)[j]?=some u->W.cell? ((⟨g2,0,none⟩:Addr).add j)=some u) :
  Calls prog 208 #[.slice (some ⟨B,0,none⟩) 2 2] w λe w'=>∃v,e=.returned v/\w'.ownsRow w.heap.size 3 1 v (b2+bU) (aM (cb++cR))/\av w w':=by
 obtain⟨i0,ay,bC,bL,bz⟩:=info_parts oa;have bD:=bx.cell 0;have bh:=bx.cell 1;simp only[dH,dJ]at bD bh;have eb:=I bx;have fw:=I cg;have fg:=I bS;have BL:=I (asD (b2+bU) w (by omega) (by omega));have kV:Hid (cb.length=b2):=I pv;have iF:Hid (cR.length=bU):=I ew;clear bx cg bS pv ew;rw[Int.natCast_add]at BL;go_enter func208,ntmps208
 go_wp2;go_loopw [3,11] (λo3 bV wr=>wr=w/\((o3=.int .i64 0/\bV=.int .i64 0)\/(o3=.int .i64 b2/\bV=.int .i64 1)\/(o3=.int .i64 ((b2:Int)+bU)/\bV=.int .i64 2))) (λ_ bV _=>2-(intOf bV).toNat)
 case atStart=>exact⟨rfl,.inl ⟨rfl,rfl⟩⟩
 case round=>
  obtain⟨rfl,⟨rfl,rfl⟩|⟨rfl,rfl⟩|⟨rfl,rfl⟩⟩:=hrel
  .go_wp2;go_roundw
   case rel=>exact⟨by trivial,.inr (.inl ⟨by go_num,by go_num⟩)⟩
   case measure=>simp[intOf]
  .go_wp2;go_roundw
   case rel=>exact⟨by trivial,.inr (.inr ⟨by go_num,by go_num⟩)⟩
   case measure=>simp[intOf]
  .clear bD bh;rename ah=>dK
   go_wp2_with fail
   refine BL.out.mono ?_;rintro e aw ⟨G,rfl,hown,cP⟩;have aH:=kZ cP;have aS:Hid (∃v,Value.slice (some ⟨dK.heap.size,0,none⟩) 0 G=v/\aw.ownsRow dK.heap.size 3 1 v 0 (aM [])):=I ⟨_,rfl,hown⟩;have aN:=I aH;clear hown cP aH;go_wp2;rename ah=>eQ
   go_loopw [6,27] (λvz bV o6=>Hid (av dK o6)/\((bV=.int .i64 0/\Hid (o6.ownsRow dK.heap.size 3 1 vz 0 (aM [])))\/(bV=.int .i64 1/\Hid (o6.ownsRow dK.heap.size 3 1 vz b2 (aM cb)))\/(bV=.int .i64 2/\Hid (o6.ownsRow dK.heap.size 3 1 vz (b2+bU) (aM (cb++cR)))))) (λ_ bV _=>2-(intOf bV).toNat)
   case atStart=>
    refine⟨aN,.inl ⟨rfl,I ?_⟩⟩;obtain⟨v,aD,h⟩:=aS.out;rw[aD];exact h
   case round=>
    obtain⟨ak,⟨rfl,hown⟩|⟨rfl,hown⟩|⟨rfl,hown⟩⟩:=hrel
    .have j8:=iA eb.out ak.out;have bD:=j8.cell 0;simp only[dH]at bD;have bB:=ak.out.size;have j3:=I (fw.out _ ak);clear j8;go_wp2_with (at_builtin;refine wpList_append_own _ rfl _ _ 112 rfl dK.heap.size 3 i0 (.int .i64 0) 1 8 underlying112 ay bC bL bz rfl (by decide) _ _ _ rfl hown.out ⟨g1,0,none⟩ b2 c1 (aM cb) rfl ?d0 j3.out ?d2 ?d3 ?d4 ?d5 ?_)
     case d0=>rw[Ww,kV.out]
     case d2=>exact Wx cb
     case d3=>unfold maxLen;omega
     case d4=>omega
     case d5=>omega
     intro gN dk de di _;have fW:av dK dk:=ak.out.grown di bB (λq hq=>(hown.out.lt q hq).1);have ic:=I fW;have js:Hid (dk.ownsRow dK.heap.size 3 1 gN b2 (aM cb)):=I de;clear de di fW hown ak bD;go_wp2;go_roundw
     case rel=>exact⟨ic,.inr (.inl ⟨by go_num,js⟩)⟩
     case measure=>simp[intOf]
    .have j8:=iA eb.out ak.out;have bh:=j8.cell 1;simp only[dH,dJ]at bh;have bB:=ak.out.size;have j3:=I (fg.out _ ak);clear j8;go_wp2_with (at_builtin;refine wpList_append_own _ rfl _ _ 112 rfl dK.heap.size 3 i0 (.int .i64 0) 1 8 underlying112 ay bC bL bz rfl (by decide) _ _ _ rfl hown.out ⟨g2,0,none⟩ bU c2 (aM cR) rfl ?e0 j3.out ?e2 ?e3 ?e4 ?e5 ?_)
     case e0=>rw[Ww,iF.out]
     case e2=>exact Wx cR
     case e3=>unfold maxLen;omega
     case e4=>omega
     case e5=>omega
     intro gN dk de di _;have fW:av dK dk:=ak.out.grown di bB (λq hq=>(hown.out.lt q hq).1);have ic:=I fW;have js:Hid (dk.ownsRow dK.heap.size 3 1 gN (b2+bU) (aM (cb++cR))):=I (by rw[ak9];exact de);clear de di fW hown ak bh;go_wp2;go_roundw
     case rel=>exact⟨ic,.inr (.inr ⟨by go_num,js⟩)⟩
     case measure=>simp[intOf]
    .go_wp2;go_ret;exact⟨_,rfl,hown,ak⟩
theorem asE(n:Nat)(w:ah)(ao:0<n)(aA:n<=100000) :
  Calls prog 206 #[.slice none 0 0,.int .i64 n] w λe w'=>∃G,e=.returned (.slice (some ⟨w.heap.size,0,none⟩) 0 G)/\w'.ownsRow w.heap.size 231 2 (.slice (some ⟨w.heap.size,0,none⟩) 0 G) 0 []/\w.grownBy w' none:=by
 obtain⟨i0,ay,bC,bL,bz⟩:=info_parts GM;obtain⟨G,uJ⟩:∃G,G=grownCap w n 0 231:=⟨_,rfl⟩;have aiD:n<=G:=by rw[uJ];exact grownCap_ge w n 0 231
 have CO:G<=maxLen:=by rw[uJ];exact grownCap_le_maxLen w n 0 231 (by unfold maxLen;omega)
 have aQ:∀k,(Builtin.zeroCells (.agg #[.int .i64 0,.slice none 0 0]:Value).cells k).size=k*2:=λk=>by simp[Builtin.zeroCells,Value.cells]
 have Dv:∀ty,(Builtin.append_ #[226,3] ty #[.slice none 0 0,.int .i64 n]).run prog w=.ok (.slice (some ⟨w.heap.size,0,none⟩) n G) (w.drew.alloc (.cells (#[]++Builtin.zeroCells (.agg #[.int .i64 0,.slice none 0 0]:Value).cells n++Builtin.zeroCells (.agg #[.int .i64 0,.slice none 0 0]:Value).cells (G-n)) 231)):=λty=>by
  have h:=Lib.run_append_grow_zeros (P:=prog) w 226 3 ty 231 i0 (.agg #[.int .i64 0,.slice none 0 0]) .i64 .i64 underlying226 underlying3 ay bC none 0 0 [] (run_firstCells_none w.drew i0.size 0 0 0) n ao (by rw[bL];omega) (by omega) (by omega) (by rw[bz];omega)
   (by rw[ez];exact growslice_fits (by omega) (by rw[bz];omega))
  simp only[ez]at h;rw[<-uJ]at h;exact h
 have hfin:(w.drew.alloc (.cells (#[]++Builtin.zeroCells (.agg #[.int .i64 0,.slice none 0 0]:Value).cells n++Builtin.zeroCells (.agg #[.int .i64 0,.slice none 0 0]:Value).cells (G-n)) 231)).ownsRow w.heap.size 231 2 (.slice (some ⟨w.heap.size,0,none⟩) 0 G) 0 []/\w.grownBy (w.drew.alloc (.cells (#[]++Builtin.zeroCells (.agg #[.int .i64 0,.slice none 0 0]:Value).cells n++Builtin.zeroCells (.agg #[.int .i64 0,.slice none 0 0]:Value).cells (G-n)) 231)) none:=
  ⟨⟨by simp,.inr ⟨w.heap.size,G,_,rfl,Nat.le_refl _,heap_alloc_new w.drew _,by omega,CO,by simp only[Array.size_append,aQ,Array.size_empty];omega,by simp⟩⟩,⟨rfl,rfl,rfl,by simp,λ_ hk _=>Go.heap_alloc_old w.drew _ hk⟩⟩
 have fe:=I hfin;have hG63:G<=9223372036854775807:=by unfold maxLen at CO;omega
 clear hfin uJ aQ;generalize w.drew.alloc (.cells (#[]++Builtin.zeroCells (.agg #[.int .i64 0,.slice none 0 0]:Value).cells n++Builtin.zeroCells (.agg #[.int .i64 0,.slice none 0 0]:Value).cells (G-n)) 231)=aC at *;have Ju:=I Dv;clear Dv ay bC bL bz;go_enter func206,ntmps206
 go_wp2_with (at_builtin;refine wpList_append_run _ rfl _ _ 226 3 rfl (.slice none 0 0) (.int .i64 n) (.slice (some ⟨w.heap.size,0,none⟩) n G) aC rfl rfl Ju.out ?_)
 go_wp2;go_ret;exact⟨G,rfl,fe.out.1,fe.out.2⟩
theorem asB(B g1 b2 c1 g2 bU c2:Nat)(cb cR:List bu)(w:ah)(h1:0<b2)(pv:cb.length=b2)(ew:cR.length=bU)(iK:b2<=10000)(k7:bU<=10000)
  (bx:Row w B 226 [.slice (some ⟨g1,0,none⟩) b2 c1,.slice (some ⟨g2,0,none⟩) bU c2])
  (cg:∀W,av w W->∀j u,(cp cb)[j]?=some u->W.cell? ((⟨g1,0,none⟩:Addr).add j)=some u)(bS:∀W,av w W->∀j u,(cp cR)[j]?=some u->W.cell? ((⟨g2,0,none⟩:Addr).add j)=some u) :
  Calls prog 174 #[.slice (some ⟨B,0,none⟩) 2 2] w λe w'=>∃v,e=.returned v/\w'.ownsRow w.heap.size 231 2 v (b2+bU) (cp (cb++cR))/\av w w':=by
 obtain⟨i0,ay,bC,bL,bz⟩:=info_parts GM;have bD:=bx.cell 0;have bh:=bx.cell 1;simp only[dH,dJ]at bD bh;have eb:=I bx;have fw:=I cg;have fg:=I bS;have BL:=I (asE (b2+bU) w (by omega) (by omega));have kV:Hid (cb.length=b2):=I pv;have iF:Hid (cR.length=bU):=I ew;clear bx cg bS pv ew;rw[Int.natCast_add]at BL;go_enter func174,ntmps174
 go_wp2;go_loopw [3,11] (λo3 bV wr=>wr=w/\((o3=.int .i64 0/\bV=.int .i64 0)\/(o3=.int .i64 b2/\bV=.int .i64 1)\/(o3=.int .i64 ((b2:Int)+bU)/\bV=.int .i64 2))) (λ_ bV _=>2-(intOf bV).toNat)
 case atStart=>exact⟨rfl,.inl ⟨rfl,rfl⟩⟩
 case round=>
  obtain⟨rfl,⟨rfl,rfl⟩|⟨rfl,rfl⟩|⟨rfl,rfl⟩⟩:=hrel
  .go_wp2;go_roundw
   case rel=>exact⟨by trivial,.inr (.inl ⟨by go_num,by go_num⟩)⟩
   case measure=>simp[intOf]
  .go_wp2;go_roundw
   case rel=>exact⟨by trivial,.inr (.inr ⟨by go_num,by go_num⟩)⟩
   case measure=>simp[intOf]
  .clear bD bh;rename ah=>dK
   go_wp2_with fail
   refine BL.out.mono ?_;rintro e aw ⟨G,rfl,hown,cP⟩;have aH:=kZ cP;have aS:Hid (∃v,Value.slice (some ⟨dK.heap.size,0,none⟩) 0 G=v/\aw.ownsRow dK.heap.size 231 2 v 0 (cp [])):=I ⟨_,rfl,hown⟩;have aN:=I aH;clear hown cP aH;go_wp2;rename ah=>eQ
   go_loopw [6,27] (λvz bV o6=>Hid (av dK o6)/\((bV=.int .i64 0/\Hid (o6.ownsRow dK.heap.size 231 2 vz 0 (cp [])))\/(bV=.int .i64 1/\Hid (o6.ownsRow dK.heap.size 231 2 vz b2 (cp cb)))\/(bV=.int .i64 2/\Hid (o6.ownsRow dK.heap.size 231 2 vz (b2+bU) (cp (cb++cR)))))) (λ_ bV _=>2-(intOf bV).toNat)
   case atStart=>
    refine⟨aN,.inl ⟨rfl,I ?_⟩⟩;obtain⟨v,aD,h⟩:=aS.out;rw[aD];exact h
   case round=>
    obtain⟨ak,⟨rfl,hown⟩|⟨rfl,hown⟩|⟨rfl,hown⟩⟩:=hrel
    .have j8:=iA eb.out ak.out;have bD:=j8.cell 0;simp only[dH]at bD;have bB:=ak.out.size;have j3:=I (fw.out _ ak);clear j8;go_wp2_with (at_builtin;refine wpList_append_own _ rfl _ _ 226 rfl dK.heap.size 231 i0 (.agg #[.int .i64 0,.slice none 0 0]) 2 32 underlying226 ay bC bL bz rfl (by decide) _ _ _ rfl hown.out ⟨g1,0,none⟩ b2 c1 (cp cb) rfl ?d0 j3.out ?d2 ?d3 ?d4 ?d5 ?_)
     case d0=>rw[NY,kV.out]
     case d2=>exact XX cb
     case d3=>unfold maxLen;omega
     case d4=>omega
     case d5=>omega
     intro gN dk de di _;have fW:av dK dk:=ak.out.grown di bB (λq hq=>(hown.out.lt q hq).1);have ic:=I fW;have js:Hid (dk.ownsRow dK.heap.size 231 2 gN b2 (cp cb)):=I de;clear de di fW hown ak bD;go_wp2;go_roundw
     case rel=>exact⟨ic,.inr (.inl ⟨by go_num,js⟩)⟩
     case measure=>simp[intOf]
    .have j8:=iA eb.out ak.out;have bh:=j8.cell 1;simp only[dH,dJ]at bh;have bB:=ak.out.size;have j3:=I (fg.out _ ak);clear j8;go_wp2_with (at_builtin;refine wpList_append_own _ rfl _ _ 226 rfl dK.heap.size 231 i0 (.agg #[.int .i64 0,.slice none 0 0]) 2 32 underlying226 ay bC bL bz rfl (by decide) _ _ _ rfl hown.out ⟨g2,0,none⟩ bU c2 (cp cR) rfl ?e0 j3.out ?e2 ?e3 ?e4 ?e5 ?_)
     case e0=>rw[NY,iF.out]
     case e2=>exact XX cR
     case e3=>unfold maxLen;omega
     case e4=>omega
     case e5=>omega
     intro gN dk de di _;have fW:av dK dk:=ak.out.grown di bB (λq hq=>(hown.out.lt q hq).1);have ic:=I fW;have js:Hid (dk.ownsRow dK.heap.size 231 2 gN (b2+bU) (cp (cb++cR))):=I (by rw[NW];exact de);clear de di fW hown ak bh;go_wp2;go_roundw
     case rel=>exact⟨ic,.inr (.inr ⟨by go_num,js⟩)⟩
     case measure=>simp[intOf]
    .go_wp2;go_ret;exact⟨_,rfl,hown,ak⟩
namespace am
def dA(L:List bu):ae:=L.flatMap (·.2.2)
def hf(L:List bu):Nat:=(L.map (·.1)).sum
def single(t:bu):Bool:=t.2.2.length==1
theorem y6(A B:List bu):dA (A++B)=dA A++dA B:=by simp[dA]
theorem Pp(A B:List bu):hf (A++B)=hf A+hf B:=by simp[hf]
theorem ZG{A B:List bu}(h:A.Perm B):(dA A).Perm (dA B):=h.flatMap_right _
theorem atC{A B:List bu}(h:A.Perm B):hf A=hf B:=(h.map _).sum_nat
theorem Ze{a:bu}{A:List bu}(h:cv (a::A)):cv A:=(List.pairwise_cons.1 h).2
theorem OL:∀{A B:List bu},cv A->cv B->(∀v,A.filter (λt=>t.1==v)=B.filter (λt=>t.1==v))->A=B
|[],[],_,_,_=>rfl
|[],b::B,_,_,h=>by have:=h b.1;simp at this
|a::A,[],_,_,h=>by have:=h a.1;simp at this
|a::A,b::B,hA,bx,h=>by
  have aV:a∈(b::B).filter (λt=>t.1==a.1):=by rw[<-h a.1];simp
  have ak:b∈(a::A).filter (λt=>t.1==b.1):=by rw[h b.1];simp
  have h1:b.1<=a.1:=by
   rcases List.mem_cons.1 (List.mem_filter.1 aV).1 with e|h1
   .rw[e];exact Nat.le_refl _
   .exact(List.pairwise_cons.1 bx).1 a h1
  have af:a.1<=b.1:=by
   rcases List.mem_cons.1 (List.mem_filter.1 ak).1 with e|h1
   .rw[e];exact Nat.le_refl _
   .exact(List.pairwise_cons.1 hA).1 b h1
  have aG:a.1=b.1:=by omega
  have aq:=h a.1;rw[filter_cons_of_pos (by simp),filter_cons_of_pos (by simp[aG])]at aq;injection aq with e2 e3
  subst e2;congr 1
  refine OL (Ze hA) (Ze bx) (λv=>?_);have aK:=h v;by_cases aD:a.1=v
  .rw[filter_cons_of_pos (by simp[aD]),filter_cons_of_pos (by simp[aD])]at aK;injection aK
  .rw[filter_cons_of_neg (by simp[aD]),filter_cons_of_neg (by simp[aD])]at aK;exact aK
theorem Zd{A:List bu}(h:cv A)(p:bu->Bool):cv (A.filter p):=List.Pairwise.filter p h
structure v6(T P:List bu):Prop where
 len:P.length=T.length/2
 wt:∀x,x<P.length->wt P x=wt T (2*x)+wt T (2*x+1)
 cM:∀x,x<P.length->(P[x]?.getD ha).2.2=(T[2*x]?.getD ha).2.2++(T[2*x+1]?.getD ha).2.2
theorem asc(T:List bu)(q:Nat)(h:2*q+2<=T.length):T.take (2*(q+1))=T.take (2*q)++[T[2*q]?.getD ha,T[2*q+1]?.getD ha]:=by
 rw[show 2*(q+1)=(2*q+1)+1 by omega,fY (by omega),fY (by omega),bI (by omega),bI (by omega),b7,b7,df];rfl
theorem take_one(P:List bu)(q:Nat)(h:q<P.length):P.take (q+1)=P.take q++[P[q]?.getD ha]:=by
 rw[fY h,bI h,b7]
theorem N0{T P:List bu}(h:v6 T P):∀q,q<=P.length->dA (P.take q)=dA (T.take (2*q))/\hf (P.take q)=hf (T.take (2*q))
|0,_=>by simp[dA,hf]
|q+1,hq=>by
  obtain⟨h1,af⟩:=N0 h q (by omega);have hl:=h.len;have aq:=h.wt q (by omega);have aK:=h.cM q (by omega);rw[take_one P q (by omega),asc T q (by omega),y6,y6,Pp,Pp,h1,af];unfold wt at aq;simp only[dA,hf,flatMap_cons,flatMap_nil,append_nil,map_cons,map_nil,sum_cons,sum_nil,fX];rw[aq,aK];exact⟨rfl,rfl⟩
theorem anS{T P:List bu}(h:v6 T P)(cq:cv T):cv P:=by
 unfold cv;rw[pairwise_iff_getElem];intro i j ay ar uX;have hl:=h.len;have h1:=h.wt i ay;have af:=h.wt j ar;rw[tS ay]at h1;rw[tS ar]at af;have:=q8 cq (show 2*i<=2*j by omega) (by omega);have:=q8 cq (show 2*i+1<=2*j+1 by omega) (by omega);omega
structure rJ(ag:ae)(S:List bu):Prop where
 OJ:cv S
 one:∀t∈S,∃i,t.2.2=[i]/\t.1=bX ag i/\0<bX ag i/\i<ag.length
 nodup:(dA S).Nodup
 all:∀i,i<ag.length->0<bX ag i->i∈dA S
inductive s5 (S:List bu):Nat->List bu->Prop
|zero:s5 S 0 S
|succ {t:Nat} {T P dv:List bu}:s5 S t T->v6 T P->cw (S++P) dv->cv dv->s5 S (t+1) dv
def zJ(ag:ae)(t:bu):Prop:=t.1=(t.2.2.map (bX ag)).sum/\0<t.2.2.length/\∀i∈t.2.2,0<bX ag i/\i<ag.length
theorem AZ{T:List bu}{x:Nat}(h:x<T.length):T[x]?.getD ha∈T:=by
 rw[bI h,b7];exact b8 h
theorem X1{ag:ae}{T P:List bu}(h:v6 T P)(cq:∀t∈T,zJ ag t):∀t∈P,zJ ag t/\2<=t.2.2.length:=λt aE=>by
 obtain⟨x,ai,rfl⟩:=List.mem_iff_getElem.1 aE;have hl:=h.len;have h1:=h.wt x ai;have af:=h.cM x ai;unfold wt at h1;rw[bI ai,b7]at h1 af;obtain⟨fL,a2,a3⟩:=cq _ (AZ (show 2*x<T.length by omega));obtain⟨bP,bw,eg⟩:=cq _ (AZ (show 2*x+1<T.length by omega));unfold zJ;rw[af,map_append,sum_append_nat,aY];refine⟨⟨by omega,by omega,λi ay=>?_⟩,by omega⟩;rcases List.mem_append.1 ay with ay|ay
 .exact a3 i ay
 .exact eg i ay
theorem OD{ag:ae}{S:List bu}(h:rJ ag S):∀t∈S,zJ ag t/\single t=true:=λt aE=>by
 obtain⟨i,h1,af,aq,aK⟩:=h.one t aE;unfold zJ single;rw[h1];refine⟨⟨by simp[af],by simp,λk hk=>?_⟩,by simp⟩;simp only[mem_singleton]at hk;subst hk;exact⟨aq,aK⟩
theorem GY{ag:ae}{S:List bu}(h:rJ ag S):∀{t:Nat} {T:List bu},s5 S t T->cv T/\∀u∈T,zJ ag u:=by
 intro t T cq;induction cq with
|zero=>exact⟨h.OJ,λu hu=>(OD h u hu).1⟩
|succ _ ax ap aj ih=>
  refine⟨aj,λu hu=>?_⟩;rcases List.mem_append.1 (ap.1.mem_iff.2 hu)with h1|h1
  .exact(OD h u h1).1
  .exact(X1 ax ih.2 u h1).1
theorem FV(L:List bu)(p q:bu->Bool):(L.filter p).filter q=(L.filter q).filter p:=by
 rw[List.filter_filter,List.filter_filter];congr 1
 funext t
 exact Bool.and_comm _ _
theorem merged{S P dv:List bu}(cD:cv S)(cJ:cv P)(h1:∀t∈S,single t=true)(af:∀t∈P,single t=false)(ap:cw (S++P) dv)(aj:cv dv):dv.filter single=S/\dv.filter (λt=>!single t)=P:=by
 have aG:S.filter single=S:=List.filter_eq_self.2 h1;have e2:P.filter single=[]:=List.filter_eq_nil_iff.2 (λt aE=>by simp[af t aE]);have e3:S.filter (λt=>!single t)=[]:=List.filter_eq_nil_iff.2 (λt aE=>by simp[h1 t aE]);have e4:P.filter (λt=>!single t)=P:=List.filter_eq_self.2 (λt aE=>by simp[af t aE]);refine⟨OL (Zd aj _) cD (λv=>?_),OL (Zd aj _) cJ (λv=>?_)⟩
 .rw[FV,<-ap.2 v,FV,filter_append,aG,e2,append_nil]
 .rw[FV,<-ap.2 v,FV,filter_append,e3,e4,nil_append]
theorem Sw(T:List bu)(p:bu->Bool)(k:Nat):(T.take k).filter p=(T.filter p).take ((T.take k).filter p).length:=
 List.prefix_iff_eq_take.1 ((take_prefix k T).filter p)
theorem ag4{S P dv:List bu}(h1:dv.filter single=S)(af:dv.filter (λt=>!single t)=P)(k:Nat)(hk:k<=dv.length) :
  ∃s q,s+q=k/\s<=S.length/\q<=P.length/\(dv.take k).Perm (S.take s++P.take q)/\(dv.take k).filter single=S.take s/\(dv.take k).filter (λt=>!single t)=P.take q:=by
 have aG:=Sw dv single k;have e2:=Sw dv (λt=>!single t) k;rw[h1]at aG;rw[af]at e2;have ax:=(filter_append_perm single (dv.take k)).symm;have hl:=ax.length_eq;rw[cr,aY]at hl;have cb:((dv.take k).filter single).length<=S.length:=by rw[aG,cr];omega
 have cR:((dv.take k).filter (λt=>!single t)).length<=P.length:=by rw[e2,cr];omega
 refine⟨_,_,?_,cb,cR,?_,aG,e2⟩
 .omega
 .rw[<-aG,<-e2];exact ax
theorem Ko(f:Nat->Nat)(N:Nat):∀(Y:ae),(∀y∈Y,y<N)->((List.range N).map λi=>f i*Y.count i).sum=(Y.map f).sum
|[],_=>by
  have:∀L:ae,(L.map λi=>f i*([]:ae).count i).sum=0:=λL=>by
   induction L with
  |nil=>rfl
  |cons a L ih=>rw[map_cons,sum_cons,ih];simp
  exact this _
|y::Y,h=>by
  have ih:=Ko f N Y (λz aQ=>h z (eo _ aQ));have hy:=h y dU;rw[map_cons,sum_cons,<-ih];have e:f y=((List.range N).map λi=>if i=y then f y else 0).sum:=by rw[y4,aB hy]
  conv=>rhs;rw[e]
  rw[<-w5];congr 1
  apply map_congr_left
  intro i _;rw[count_cons];by_cases ay:i=y
  .subst ay;simp[Nat.mul_add];omega
  .have:(y==i)=false:=by rw[beq_eq_false_iff_ne];exact λh=>ay h.symm
   rw[this,az ay];simp
theorem Ni:∀(k:Nat) (l X Y:ae),l.Pairwise (·<=·)->l.Perm (X++Y)->X.length=k->(l.take k).sum<=X.sum
|0,_,_,_,_,_,_=>by simp
|k+1,[],X,Y,_,ax,hk=>by
  have:=ax.length_eq;rw[aY,hk,length_nil]at this;omega
|k+1,a::l,X,Y,ap,ax,hk=>by
  rw[pairwise_cons]at ap;rw[take_succ_cons,sum_cons];by_cases ck:a∈X
  .obtain⟨A,B,rfl⟩:=append_of_mem ck;have h1:l.Perm ((A++B)++Y):=by
    refine List.Perm.cons_inv (a:=a) (ax.trans ?_);simp only[df,cons_append];exact perm_middle
   have af:=Ni k l (A++B) Y ap.2 h1 (by simp only[aY,bY]at hk ⊢;omega);simp only[sum_append_nat,sum_cons]at af ⊢;omega
  .match X,hk with
  |x::X,hk=>
    have uN:a∈Y:=by
     have h1:a∈(x::X)++Y:=ax.mem_iff.1 (by simp);rcases List.mem_append.1 h1 with h1|h1
     .exact absurd h1 ck
     .exact h1
    obtain⟨A,B,rfl⟩:=append_of_mem uN;have h1:l.Perm (X++(x::(A++B))):=by
     refine List.Perm.cons_inv (a:=a) (ax.trans ?_);have aG:((x::X)++(A++a::B)).Perm (a::((x::X)++(A++B))):=by
      rw[<-df,<-df];exact perm_middle
     refine aG.trans (List.Perm.cons _ ?_);rw[cons_append];exact List.perm_middle.symm
    have af:=Ni k l X (x::(A++B)) ap.2 h1 (by simpa using hk);have aq:a<=x:=by
     rcases List.mem_cons.1 (ax.mem_iff.2 (show x∈(x::X)++(A++a::B) by simp))with e|aq
     .rw[e];exact Nat.le_refl _
     .exact ap.1 x aq
    rw[sum_cons];omega
theorem Xk{S P dv:List bu}(ax:(S++P).Perm dv)(aj:cv dv)(a b:Nat)(aV:a<=S.length)(ak:b<=P.length):hf (dv.take (a+b))<=hf (S.take a)+hf (P.take b):=by
 have h1:(dv.map (·.1)).Pairwise (·<=·):=List.pairwise_map.2 aj;have af:(dv.map (·.1)).Perm (((S.take a++P.take b).map (·.1))++((S.drop a++P.drop b).map (·.1))):=by
  rw[<-map_append];refine(ax.symm.trans ?_).map _;conv=>lhs;rw[<-gq a S,<-gq b P]
  simp only[df];refine List.Perm.append_left _ ?_;rw[<-df,<-df];exact List.Perm.append_right _ perm_append_comm
 have aq:=Ni (a+b) _ _ _ h1 af (by rw[cQ,aY,cr,cr];omega);unfold hf;rw[map_take];rw[map_append,sum_append_nat]at aq;exact aq
end am
end Go.Proofs.YtgiicohbigiapaaGreat
