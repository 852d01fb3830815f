/- Contracts, and what they rest on. Conditions: the theorems' premises. -/
import Derived.Test.YtaebnkeddcbmkaaGreatYam
import Derived.Shelf.SlSortCmp.QuietGrown
import Derived.Lib.AppendZerosOnto
set_option maxHeartbeats 4000000
set_option maxRecDepth 100000
open Go.Lib(hid)
open Go.Proofs.Tryz Go.Proofs.YtaebnkeddcbmkaaGreat.Bm
namespace Go.Proofs.YtaebnkeddcbmkaaGreat
open Go.RowKit Go.Sort
abbrev Pcl:=Nat×(Nat×Nat)×List Nat
def afS(t:Pcl):Value:=.int .i64 (t.1:Int)
def Me(t:Pcl):Value:=.slice (some ⟨t.2.1.1,0,none⟩) t.2.2.length t.2.1.2
def dU:Pcl:=(0,(0,0),[])
def p2(l:List Pcl):List Value:=cc2 afS Me l
theorem fM(w:World)(n:Nat)(os:Array Obj):Below w.heap.size w (grow (w.drewN n) os):=by
 refine⟨rfl,rfl,rfl,?_,fun k hk=>?_⟩
 ·simp[grow]
 ·exact heap_grow_old (w.drewN n) os hk
theorem Kr(a b:Nat)(u v:Value)(ha:a<=4000000000)(hb:b<=4000000000)(w:World) :
  Calls prog 185 #[.agg #[.int .i64 (a:Int),u],.agg #[.int .i64 (b:Int),v]] w fun e w'=>e=.returned (.int .i64 ((a:Int)-(b:Int)))/\∃q os,w'=grow (w.drewN q) os:=by
 go_enter func185,ntmps185
 go_wp2;go_ret;exact⟨rfl,0,#[.cells #[.int .i64 (a:Int),u] 223,.cells #[.int .i64 (b:Int),v] 223],by rw[alloc_eq_grow,alloc_eq_grow,grow_grow];rfl⟩
section
variable {α:Type}
theorem WO(d x y:α)(P Q R:List α):swp d (P++x :: (Q++y :: R)) P.length (P.length+1+Q.length)=P++y :: (Q++x :: R):=by
 unfold swp;have e1:(P++x :: (Q++y :: R))[P.length+1+Q.length]?=some y:=by
  rw[List.getElem?_append_right (by omega),show P.length+1+Q.length-P.length=Q.length+1 by omega,List.getElem?_cons_succ,List.getElem?_append_right (by omega),Nat.sub_self];rfl
 have e2:(P++x :: (Q++y :: R))[P.length]?=some x:=by
  rw[List.getElem?_append_right (by omega),Nat.sub_self];rfl
 rw[e1,e2,Option.getD_some,Option.getD_some,List.set_append_right _ _ (by omega),Nat.sub_self,List.set_cons_zero,List.set_append_right _ _ (by omega),show P.length+1+Q.length-P.length=Q.length+1 by omega,List.set_cons_succ,
  List.set_append_right _ _ (by omega),Nat.sub_self,List.set_cons_zero]
theorem CV(d x y:α)(P R:List α):swp d (P++x :: y :: R) P.length (P.length+1)=P++y :: x :: R:=WO d x y P [] R
theorem MJ(d:α)(l:List α)(i j:Nat)(hi:i<l.length)(hj:j<l.length):swp d l i j=swp d l j i:=by
 apply List.ext_getElem?
 intro k;unfold swp;rw[List.getElem?_set,List.getElem?_set,List.getElem?_set,List.getElem?_set,List.length_set,List.length_set];by_cases h1:j=k
 ·subst h1;by_cases h2:i=j
  ·subst h2;rfl
  ·simp[h2,hj]
 ·by_cases h2:i=k
  ·subst h2;simp[h1,hi]
  ·simp[h1,h2]
end
def dh(w:World)(g:Nat)(L:List Pcl)(post:List Value):Prop:=Row w g 223 (p2 L++post)
theorem dh.below{w w':World}{g:Nat}{L:List Pcl}{post:List Value}(h:dh w g L post)(hb:Below w.heap.size w w'):dh w' g L post:=aL h hb
theorem vP{w:World}{g:Nat}{L:List Pcl}{post:List Value}(hr:dh w g L post)(i j:Nat)(hi:i<L.length)(hj:j<L.length) :
  ∃(a b:Int) (g1 n1 c1 g2 n2 c2:Nat),(w.cell? ⟨g,i*2,none⟩=some (.int .i64 a)/\w.cell? ⟨g,i*2+1,none⟩=some (.slice (some ⟨g1,0,none⟩) n1 c1))/\(w.cell? ⟨g,j*2,none⟩=some (.int .i64 b)/\w.cell? ⟨g,j*2+1,none⟩=some (.slice (some ⟨g2,0,none⟩) n2 c2)) /\
   (w.frozen? ⟨g,i*2,none⟩=false/\w.frozen? ⟨g,i*2+1,none⟩=false/\w.frozen? ⟨g,j*2,none⟩=false/\w.frozen? ⟨g,j*2+1,none⟩=false) /\
   (∃v1,(w.setCell ⟨g,i*2,none⟩ (.int .i64 b)).cell? ⟨g,j*2,none⟩=some v1)/\(∃v2,((w.setCell ⟨g,i*2,none⟩ (.int .i64 b)).setCell ⟨g,i*2+1,none⟩ (.slice (some ⟨g2,0,none⟩) n2 c2)).cell? ⟨g,j*2+1,none⟩=some v2) /\
   dh ((((w.setCell ⟨g,i*2,none⟩ (.int .i64 b)).setCell ⟨g,i*2+1,none⟩ (.slice (some ⟨g2,0,none⟩) n2 c2)).setCell ⟨g,j*2,none⟩ (.int .i64 a)).setCell ⟨g,j*2+1,none⟩ (.slice (some ⟨g1,0,none⟩) n1 c1)) g (swp dU L i j) post:=by
 obtain⟨c0,c1⟩:=gy (f:=afS) (h:=Me) hr i hi;obtain⟨k0,k1⟩:=gy (f:=afS) (h:=Me) hr j hj;obtain⟨v1,hy1⟩:=cell?_setCell_some (w:=w) (p:=⟨g,i*2,none⟩) (x:=.int .i64 (L[j].1:Int)) (q:=⟨g,j*2,none⟩) k0;obtain⟨v2,hy2⟩:=cell?_setCell_some (w:=w) (p:=⟨g,i*2,none⟩) (x:=.int .i64 (L[j].1:Int)) (q:=⟨g,j*2+1,none⟩) k1;obtain⟨v3,hy3⟩:=cell?_setCell_some (w:=w.setCell ⟨g,i*2,none⟩ (.int .i64 (L[j].1:Int))) (p:=⟨g,i*2+1,none⟩) (x:=Me L[j]) (q:=⟨g,j*2+1,none⟩) hy2;exact⟨L[i].1,L[j].1,L[i].2.1.1,L[i].2.2.length,L[i].2.1.2,L[j].2.1.1,L[j].2.2.length,L[j].2.1.2,⟨c0,c1⟩,⟨k0,k1⟩,⟨hr.free _,hr.free _,hr.free _,hr.free _⟩,⟨v1,hy1⟩,⟨v3,hy3⟩,Mq (f:=afS) (h:=Me) (d:=dU) hr i j hi hj⟩
namespace Bm
theorem Pj{α:Type}(d:α)(X A M B Y:List α)(k:Nat)(hk:k<A.length)(hAB:B.length=A.length) :
  swp d (X++((B.take k++A.drop k)++(M++((A.take k++B.drop k)++Y)))) (X.length+k) (X.length+A.length+M.length+k)=X++((B.take (k+1)++A.drop (k+1))++(M++((A.take (k+1)++B.drop (k+1))++Y))):=by
 have h:=WO d A[k] (B[k]'(by omega)) (X++B.take k) (A.drop (k+1)++(M++A.take k)) (B.drop (k+1)++Y);rw[List.length_append,List.length_take,Nat.min_eq_left (by omega)]at h;rw[show X.length+k+1+(A.drop (k+1)++(M++A.take k)).length=X.length+A.length+M.length+k by
  rw[List.length_append,List.length_append,List.length_drop,List.length_take,Nat.min_eq_left (by omega)];omega]at h
 have e1:X++((B.take k++A.drop k)++(M++((A.take k++B.drop k)++Y)))=(X++B.take k)++A[k] :: ((A.drop (k+1)++(M++A.take k))++B[k]'(by omega) :: (B.drop (k+1)++Y)):=by
  rw[List.drop_eq_getElem_cons hk,List.drop_eq_getElem_cons (show k<B.length by omega)];simp only[List.append_assoc,List.cons_append]
 have e2:X++((B.take (k+1)++A.drop (k+1))++(M++((A.take (k+1)++B.drop (k+1))++Y)))=(X++B.take k)++B[k]'(by omega) :: ((A.drop (k+1)++(M++A.take k))++A[k] :: (B.drop (k+1)++Y)):=by
  rw[List.take_succ_eq_append_getElem hk,List.take_succ_eq_append_getElem (show k<B.length by omega)];simp only[List.append_assoc,List.cons_append,List.nil_append]
 rw[e1,h,e2]
def Srt(L:List Pcl):Prop:=L.Pairwise fun a b=>a.1<=b.1
def Stb(A B:List Pcl):Prop:=A.Perm B/\∀v,A.filter (fun t=>t.1 == v)=B.filter (fun t=>t.1 == v)
theorem Stb.refl(A:List Pcl):Stb A A:=⟨List.Perm.refl _,fun _=>rfl⟩
theorem Stb.trans{A B C:List Pcl}(h:Stb A B)(k:Stb B C):Stb A C:=⟨h.1.trans k.1,fun v=>(h.2 v).trans (k.2 v)⟩
theorem Stb.append{A B C D:List Pcl}(h:Stb A B)(k:Stb C D):Stb (A++C) (B++D):=⟨h.1.append k.1,fun v=>by rw[List.filter_append,List.filter_append,h.2 v,k.2 v]⟩
theorem Stb.swap{A B:List Pcl}(h:∀a∈A,∀b∈B,a.1≠b.1):Stb (A++B) (B++A):=⟨List.perm_append_comm,fun v=>by
 rw[List.filter_append,List.filter_append];by_cases hA:∃a∈A,a.1=v
 ·obtain⟨a,ha,rfl⟩:=hA;have:B.filter (fun t=>t.1 == a.1)=[]:=List.filter_eq_nil_iff.2 (fun b hb=>by
   have:=h a ha b hb;simp only[beq_iff_eq];omega)
  rw[this,List.append_nil,List.nil_append]
 ·have:A.filter (fun t=>t.1 == v)=[]:=List.filter_eq_nil_iff.2 (fun a ha=>by
   simp only[beq_iff_eq];exact fun e=>hA ⟨a,ha,e⟩)
  rw[this,List.append_nil,List.nil_append]⟩
theorem Iw{P Q:List Pcl}{x:Pcl}(h:Srt (P++Q))(hQ:∀q∈Q,x.1<q.1)(hP:∀p∈P,p.1<=x.1):Srt (P++x :: Q)/\Stb ((P++Q)++[x]) (P++x :: Q):=by
 unfold Srt at h ⊢;rw[List.pairwise_append]at h;refine⟨?_,?_⟩
 ·rw[List.pairwise_append,List.pairwise_cons];refine⟨h.1,⟨fun q hq=>by have:=hQ q hq;omega,h.2.1⟩,fun p hp y hy=>?_⟩;rcases List.mem_cons.1 hy with rfl | hy
  ·exact hP p hp
  ·exact h.2.2 p hp y hy
 ·rw[List.append_assoc];have h1:Stb (Q++[x]) ([x]++Q):=Stb.swap (fun a ha b hb=>by
   simp only[List.mem_singleton]at hb;subst hb;have:=hQ a ha;omega)
  exact(Stb.refl P).append h1
theorem afl{P:List Pcl}{p x:Pcl}(h:Srt (P++[p]))(hx:p.1<=x.1):∀q∈P++[p],q.1<=x.1:=fun q hq=>by
 unfold Srt at h;rw[List.pairwise_append]at h;rcases List.mem_append.1 hq with hq | hq
 ·have:=h.2.2 q hq p (by simp);omega
 ·simp only[List.mem_singleton]at hq;subst hq;exact hx
end Bm
theorem tO{w:World}{g:Nat}{L:List Pcl}{post:List Value}{i:Nat}{t:Pcl}(h:dh w g L post)(hi:L[i]?=some t):w.cell? ⟨g,i*2,none⟩=some (.int .i64 (t.1:Int))/\w.cell? ⟨g,i*2+1,none⟩=some (Me t):=by
 have hl:i<L.length:=by
  rcases Nat.lt_or_ge i L.length with h1 | h1
  ·exact h1
  ·rw[List.getElem?_eq_none h1]at hi;cases hi
 have h1:=gy (f:=afS) (h:=Me) h i hl;rw[List.getElem?_eq_getElem hl]at hi;injection hi with hi
 rw[hi]at h1;exact h1
theorem Ik{α:Type}(x:α)(A B:List α):(A++x :: B)[A.length]?=some x:=by
 rw[List.getElem?_append_right (by omega),Nat.sub_self];rfl
theorem Zk{α:Type}(x y:α)(A B:List α):(A++x :: y :: B)[A.length+1]?=some y:=by
 rw[List.getElem?_append_right (by omega),show A.length+1-A.length=1 by omega];rfl
def Light(L:List Pcl):Prop:=∀t∈L,t.1<=4000000000
theorem BH(a b:Nat)(g1 n1 c1 g2 n2 c2:Nat)(ha:a<=4000000000)(hb:b<=4000000000)(w:World)(n:Nat)(os:Array Obj) :
  Calls prog 185 #[.agg #[.int .i64 (a:Int),.slice (some ⟨g1,0,none⟩) n1 c1],.agg #[.int .i64 (b:Int),.slice (some ⟨g2,0,none⟩) n2 c2]] (grow (w.drewN n) os) fun e w''=>e=.returned (.int .i64 ((a:Int)-(b:Int)))/\∃p:GrownBy,w''=grow (w.drewN p.n) p.os:=
 Calls.grown_of (Kr a b _ _ ha hb _)
theorem BO:∀args w,(callFunc 185 args).run prog w=.ok (.enter 185 args) w:=enters_of func185 (by kernel_rfl) rfl
theorem yL(g c:Nat)(X Z Y:List Pcl)(post:List Value)(w:World)(hl:(X++(Z++Y)).length<=100000)(hw:Light Z)(hr:dh w g (X++(Z++Y)) post) :
  Calls prog 208 #[.slice (some ⟨g,0,none⟩) (X++(Z++Y)).length c,.int .i64 (X.length:Int),.int .i64 ((X.length+Z.length:Nat):Int),.func (.func 185) #[] #[]] w fun e w'=>e=.returned (.tuple #[])/\∃Z',dh w' g (X++(Z'++Y)) post/\Srt Z'/\Stb Z Z'/\w.grownBy w' (some g):=by
 obtain⟨n,hn⟩:∃n,n=(X++(Z++Y)).length:=⟨_,rfl⟩;obtain⟨b,hb⟩:∃b,b=X.length+Z.length:=⟨_,rfl⟩;rw[<-hn]at hl ⊢;rw[<-hb];have hlen:n=X.length+Z.length+Y.length:=by rw[hn];simp only[List.length_append];omega
 obtain⟨xl,hxl⟩:∃xl,xl=X.length:=⟨_,rfl⟩;rw[<-hxl]at hb hlen ⊢;cases Z with
 | nil=>
  have hf:∃Z',dh w g (X++(Z'++Y)) post/\Srt Z'/\Stb [] Z'/\w.grownBy w (some g):=⟨[],hr,by simp[Srt],Stb.refl _,aj _ _⟩;have Hf:=hid hf;simp only[List.length_nil,Nat.add_zero]at hb;rw[hb];have hx:xl<=100000:=by omega
  clear hf hn hlen hr hw hxl hb;go_enter func208,ntmps208
  go_wp2;go_loopw [8] (fun iv wr=>iv=.int .i64 ((xl:Int)+1)/\wr=w) (fun _ _=>0)
  case atStart=>exact⟨by go_num,rfl⟩
  case round=>
   obtain⟨rfl,rfl⟩:=hrel;go_wp2;go_end0
   exact⟨rfl,Hf.out⟩
 | cons z Z=>
  have hst:∃S1 R,S1.length=1/\Srt S1/\Stb (z :: Z) (S1++R)/\dh w g (X++(S1++(R++Y))) post:=⟨[z],Z,rfl,by simp[Srt],Stb.refl _,hr⟩;have Hst:=hid hst;have Hw:=hid hw;have hbx:xl+1<=b:=by rw[hb,List.length_cons];omega
  have hbn:b<=n:=by omega
  have Hb:=hid hb;have Hxl:=hid hxl;clear hst hr hw hb hn hlen hxl;have ec:=BO;go_enter func208,ntmps208
  go_wp2;go_loopw [8] (fun iv wr=>∃(i:Nat),iv=.int .i64 (i:Int)/\xl+1<=i/\i<=b/\Hid (∃S1 R,xl+S1.length=i/\Srt S1/\Stb (z :: Z) (S1++R)/\dh wr g (X++(S1++(R++Y))) post)/\Hid (w.grownBy wr (some g))) (fun iv _=>b-(intOf iv).toNat)
  case atStart=>
   obtain⟨S1,R,h1,h2,h3,h4⟩:=Hst.out;exact⟨xl+1,by go_num,by omega,hbx,hid ⟨S1,R,by omega,h2,h3,h4⟩,hid (aj _ _)⟩
  case round=>
   obtain⟨i,rfl,hi0,hi1,hst,hg⟩:=hrel;clear Hst;by_cases hib:i<b
   ·obtain⟨x,yX⟩:∃x,Hid (x∈z :: Z/\∃S1 R,xl+S1.length=i/\Srt S1/\Stb (z :: Z) (S1++x :: R)/\dh wr g (X++(S1++(x :: (R++Y)))) post):=by
     obtain⟨S1,R,h1,h2,h3,h4⟩:=hst.out;have h5:=h3.1.length_eq;rw[List.length_append]at h5;have:=Hb.out;cases R with
     | nil=>simp at h5;rw[List.length_cons]at this;omega
     | cons x R=>exact⟨x,hid ⟨h3.1.mem_iff.2 (by simp),S1,R,h1,h2,h3,h4⟩⟩
    have Hxm:=hid yX.out.1;have lT:=hid yX.out.2;clear hst yX;go_wp2;rename World=>wx
    go_loopw [9] (fun jv wr=>∃(j:Nat),jv=.int .i64 (j:Int)/\xl<=j/\j<=i/\Hid (∃P Q R,xl+P.length=j/\xl+P.length+Q.length=i/\Srt (P++Q)/\(∀q∈Q,x.1<q.1)/\Stb (z :: Z) ((P++Q)++x :: R)/\dh wr g (X++(P++x :: (Q++(R++Y)))) post)/\Hid (w.grownBy wr (some g))) (fun jv _=>(intOf jv).toNat)
    case atStart=>
     obtain⟨S1,R,h1,h2,h3,h4⟩:=lT.out;exact⟨i,rfl,by omega,by omega,hid ⟨S1,[],R,h1,by simpa using h1,by simpa using h2,by simp,by simpa using h3,by simpa using h4⟩,hg⟩
    case round=>
     obtain⟨j,rfl,hj0,hj1,hin,hg2⟩:=hrel;clear hg lT;by_cases hxj:xl<j
     ·obtain⟨jp,rfl⟩:∃jp,j=jp+1:=⟨j-1,by omega⟩;obtain⟨p,hin2⟩:∃p,Hid (∃P Q R,xl+P.length=jp/\xl+P.length+1+Q.length=i/\Srt ((P++[p])++Q)/\(∀q∈Q,x.1<q.1)/\Stb (z :: Z) (((P++[p])++Q)++x :: R)/\dh wr g ((X++P)++p :: x :: (Q++(R++Y))) post):=by
       obtain⟨P,Q,R,h1,h2,h3,h4,h5,h6⟩:=hin.out;rcases List.eq_nil_or_concat P with rfl | ⟨P',p,rfl⟩
       ·simp at h1;omega
       ·rw[List.concat_eq_append]at h1 h2 h3 h5 h6;rw[List.length_append,List.length_singleton]at h1 h2;exact⟨p,hid ⟨P',Q,R,by omega,by omega,h3,h4,h5,by simpa using h6⟩⟩
      have aiN:(x.1<=4000000000/\p.1<=4000000000)/\(wr.cell? ⟨g,jp*2,none⟩=some (.int .i64 (p.1:Int))/\wr.cell? ⟨g,jp*2+1,none⟩=some (Me p))/\(wr.cell? ⟨g,(jp+1)*2,none⟩=some (.int .i64 (x.1:Int))/\wr.cell? ⟨g,(jp+1)*2+1,none⟩=some (Me x))/\g<wr.heap.size:=by
       obtain⟨P,Q,R,h1,h2,h3,h4,h5,h6⟩:=hin2.out;have hXP:(X++P).length=jp:=by rw[List.length_append,<-Hxl.out];exact h1
       have e1:=Ik p (X++P) (x :: (Q++(R++Y)));have e2:=Zk p x (X++P) (Q++(R++Y));rw[hXP]at e1 e2;exact⟨⟨Hw.out x Hxm.out,Hw.out p (h5.1.mem_iff.2 (by simp))⟩,tO h6 e1,tO h6 e2,h6.lt⟩
      obtain⟨⟨bx,bp⟩,⟨c0,c1⟩,⟨k0,k1⟩,hgl⟩:=aiN;have m0:=cell_grown (a:=⟨g,jp*2,none⟩) hgl c0;have m1:=cell_grown (a:=⟨g,jp*2+1,none⟩) hgl c1;have m2:=cell_grown (a:=⟨g,(jp+1)*2,none⟩) hgl k0;have m3:=cell_grown (a:=⟨g,(jp+1)*2+1,none⟩) hgl k1;have hcm:=BH x.1 p.1 x.2.1.1 x.2.2.length x.2.1.2 p.2.1.1 p.2.2.length p.2.1.2 bx bp wr;simp only[Me]at m1 m3;have Hcm:=hid hcm;have aqv:decide ((xl:Int)<(jp:Int)+1)=true:=decide_eq_true (by omega);have w0:IntKind.i64.wrap (jp:Int)=(jp:Int):=by rw[IntKind.wrap_i64];omega
      have mixed:prog.follows .mixedOrders=true:=by kernel_rfl
      have q1:(0:Int)<=(jp:Int)+1:=by omega
      have q2:(jp:Int)+1<(n:Int):=by omega
      have q3:(jp:Int)<(n:Int):=by omega
      have t1:((jp:Int)+1).toNat=jp+1:=by omega
      clear c0 c1 k0 k1 hcm hin;by_cases hlt:x.1<p.1
      ·have hd:decide ((x.1:Int)-(p.1:Int)<0)=true:=decide_eq_true (by omega);go_wp2_with fail
       go_quiet_grown ((go_at_call 185;exact Hcm.out _ _))
       have hb2:Below wr.heap.size wr (grow (wr.drewN nq) osq):=fM wr nq osq;have hg3:w.grownBy (grow (wr.drewN nq) osq) (some g):=hg2.out.trans (ak hb2 _);change Exit.then _ _ _ _ (grow (wr.drewN nq) osq);have aqe:∃P Q R,xl+P.length=jp/\xl+P.length+1+Q.length=i/\Srt ((P++[p])++Q)/\(∀q∈Q,x.1<q.1)/\Stb (z :: Z) (((P++[p])++Q)++x :: R)/\dh (grow (wr.drewN nq) osq) g ((X++P)++p :: x :: (Q++(R++Y))) post:=by
        obtain⟨P,Q,R,h1,h2,h3,h4,h5,h6⟩:=hin2.out;exact⟨P,Q,R,h1,h2,h3,h4,h5,h6.below hb2⟩
       clear hb2 Hcm m0 m1 m2 m3 hgl hin2;generalize grow (wr.drewN nq) osq=w2 at *;obtain⟨P,Q,R,h1,h2,h3,h4,h5,h6⟩:=aqe;have hXP:(X++P).length=jp:=by rw[List.length_append,<-Hxl.out];exact h1
       have hle:jp+1<((X++P)++p :: x :: (Q++(R++Y))).length:=by rw[List.length_append,hXP];simp
       obtain⟨av,bv,g1,n1,c1',g2,n2,c2',⟨c0,c1⟩,⟨k0,k1⟩,⟨f0,f1,f2,f3⟩,⟨v1,hy1⟩,⟨v2,hy2⟩,hfin⟩:=vP h6 (jp+1) jp hle (by omega);have hsw:=CV dU p x (X++P) (Q++(R++Y));rw[hXP,MJ _ _ _ _ (by omega) hle]at hsw;rw[hsw]at hfin;have iy:Hid (∃P Q R,xl+P.length=jp/\xl+P.length+Q.length=i/\Srt (P++Q)/\(∀q∈Q,x.1<q.1)/\Stb (z :: Z) ((P++Q)++x :: R)/\dh _ g (X++(P++x :: (Q++(R++Y)))) post):=hid ⟨P,p :: Q,R,h1,by rw[List.length_cons];omega,by simpa using h3,fun q hq=>by
        rcases List.mem_cons.1 hq with rfl | hq
        ·exact hlt
        ·exact h4 q hq,by simpa using h5,by simpa using hfin⟩
       have Hg3:=hid hg3;clear h1 h2 h3 h4 h5 h6 hXP hle hfin hsw hg3 P Q R;go_wp2_with fail
       go_region
       go_wp2;go_roundw
       case rel=>exact⟨jp,by go_num,by omega,by omega,iy,hid (Hg3.out.trans (bf (kC _ _ _ _ _ _ _ _ _ _)))⟩
       case measure=>simp[intOf]
      ·have hd:decide ((x.1:Int)-(p.1:Int)<0)=false:=decide_eq_false (by omega);go_wp2_with fail
       go_quiet_grown ((go_at_call 185;exact Hcm.out _ _))
       have hb2:Below wr.heap.size wr (grow (wr.drewN nq) osq):=fM wr nq osq;have hg3:w.grownBy (grow (wr.drewN nq) osq) (some g):=hg2.out.trans (ak hb2 _);change Exit.then _ _ _ _ (grow (wr.drewN nq) osq);have hout:∃S1 R,xl+S1.length=i+1/\Srt S1/\Stb (z :: Z) (S1++R)/\dh (grow (wr.drewN nq) osq) g (X++(S1++(R++Y))) post:=by
        obtain⟨P,Q,R,h1,h2,h3,h4,h5,h6⟩:=hin2.out;obtain⟨f1,f2⟩:=Iw (P:=P++[p]) (Q:=Q) (x:=x) h3 h4 (afl (by
         unfold Srt at h3 ⊢;exact(List.pairwise_append.1 h3).1) (by omega))
        refine⟨(P++[p])++x :: Q,R,by simp only[List.length_append,List.length_cons,List.length_nil];omega,f1,h5.trans ?_,?_⟩
        ·rw[show P++[p]++Q++x :: R=(P++[p]++Q++[x])++R by simp];exact f2.append (Stb.refl R)
        ·have h7:=h6.below hb2;simpa using h7
       have Gq:=hid hout;have Hg3:=hid hg3;clear hout hb2 Hcm m0 m1 m2 m3 hgl hin2 hg3;generalize grow (wr.drewN nq) osq=w2 at *;go_wp2;go_roundw
       case rel=>exact⟨i+1,by go_num,by omega,by omega,Gq,Hg3⟩
       case measure=>simp[intOf];omega
     ·have hjx:j=xl:=by omega
      have aqv:decide ((xl:Int)<(j:Int))=false:=decide_eq_false (by omega);have mixed:prog.follows .mixedOrders=true:=by kernel_rfl
      have Hjx:=hid hjx;clear hjx;go_wp2_with fail
      go_quiet (fail)
      have hb2:Below wr.heap.size wr (wr.drewN nq):=below_drewN (Below.refl _ _) nq;have hg3:w.grownBy (wr.drewN nq) (some g):=hg2.out.trans (ak hb2 _);have hout:∃S1 R,xl+S1.length=i+1/\Srt S1/\Stb (z :: Z) (S1++R)/\dh (wr.drewN nq) g (X++(S1++(R++Y))) post:=by
       obtain⟨P,Q,R,h1,h2,h3,h4,h5,h6⟩:=hin.out;have hjx:=Hjx.out;obtain rfl:P=[]:=List.eq_nil_of_length_eq_zero (by omega);obtain⟨f1,f2⟩:=Iw (P:=[]) (Q:=Q) (x:=x) h3 h4 (by simp);simp only[List.nil_append,List.length_nil,Nat.add_zero]at f1 f2 h2 h5 h6;refine⟨x :: Q,R,by simp only[List.length_cons];omega,f1,h5.trans ?_,?_⟩
       ·rw[show Q++x :: R=(Q++[x])++R by simp];exact f2.append (Stb.refl R)
       ·have h7:=h6.below hb2;simpa using h7
      have Gq:=hid hout;have Hg3:=hid hg3;clear hout hb2 hin hg3;generalize wr.drewN nq=w2 at *;go_wp2;go_roundw
      case rel=>exact⟨i+1,by go_num,by omega,by omega,Gq,Hg3⟩
      case measure=>simp[intOf];omega
   ·obtain rfl:i=b:=by omega
    have hfin:∃Z',dh wr g (X++(Z'++Y)) post/\Srt Z'/\Stb (z :: Z) Z'/\w.grownBy wr (some g):=by
     obtain⟨S1,R,h1,h2,h3,h4⟩:=hst.out;have h5:=h3.1.length_eq;rw[List.length_append]at h5;have:=Hb.out;obtain rfl:R=[]:=List.eq_nil_of_length_eq_zero (by omega);exact⟨S1,by simpa using h4,h2,by simpa using h3,hg.out⟩
    have Hf:=hid hfin;clear hfin hst hg;go_wp2;go_end0
    exact⟨rfl,Hf.out⟩
end Go.Proofs.YtaebnkeddcbmkaaGreat
namespace Go.Proofs.YtaebnkeddcbmkaaGreat.Bm
abbrev wt(L:List Pcl)(i:Nat):Nat:=(L[i]?.getD dU).1
theorem zq{L:List Pcl}{i:Nat}(h:i<L.length):wt L i=L[i].1:=by unfold wt;rw[List.getElem?_eq_getElem h,Option.getD_some]
theorem iM{L:List Pcl}(h:Srt L){i j:Nat}(hij:i<=j)(hj:j<L.length):wt L i<=wt L j:=by
 rw[zq hj,zq (show i<L.length by omega)];rcases Nat.lt_or_ge i j with h1 | h1
 ·exact List.pairwise_iff_getElem.1 h i j (by omega) hj h1
 ·obtain rfl:i=j:=by omega
  exact Nat.le_refl _
theorem gV{L:List Pcl}{k:Nat}{t:Pcl}(h:t∈L.take k):∃i,i<k/\i<L.length/\t.1=wt L i:=by
 obtain⟨i,hi,rfl⟩:=List.mem_iff_getElem.1 h;rw[List.length_take]at hi;exact⟨i,by omega,by omega,by rw[List.getElem_take,zq (by omega)]⟩
theorem gU{L:List Pcl}{k:Nat}{t:Pcl}(h:t∈L.drop k):∃i,k<=i/\i<L.length/\t.1=wt L i:=by
 obtain⟨i,hi,rfl⟩:=List.mem_iff_getElem.1 h;rw[List.length_drop]at hi;exact⟨k+i,by omega,by omega,by rw[List.getElem_drop,zq (by omega)]⟩
theorem AQ{A B:List Pcl}(hA:Srt A)(hB:Srt B)(h:∀a∈A,∀b∈B,a.1<=b.1):Srt (A++B):=List.pairwise_append.2 ⟨hA,hB,h⟩
theorem rD{A:List Pcl}(h:Srt A)(k:Nat):Srt (A.take k):=List.Pairwise.sublist (List.take_sublist _ _) h
theorem rC{A:List Pcl}(h:Srt A)(k:Nat):Srt (A.drop k):=List.Pairwise.sublist (List.drop_sublist _ _) h
theorem afI{z:Pcl}{V:List Pcl}(hV:Srt V)(k:Nat)(hk:k<=V.length)(h0:0<k->wt V (k-1)<z.1)(h1:k<V.length->z.1<=wt V k):Srt (V.take k++z :: V.drop k)/\Stb ([z]++V) (V.take k++z :: V.drop k):=by
 have hlt:∀t∈V.take k,t.1<z.1:=fun t ht=>by
  obtain⟨i,hi,hl,e⟩:=gV ht;have:=iM hV (show i<=k-1 by omega) (by omega);have:=h0 (by omega);omega
 have hge:∀t∈V.drop k,z.1<=t.1:=fun t ht=>by
  obtain⟨i,hi,hl,e⟩:=gU ht;have:=iM hV hi hl;have:=h1 (by omega);omega
 refine⟨AQ (rD hV k) (List.pairwise_cons.2 ⟨hge,rC hV k⟩) (fun a ha b hb=>?_),?_⟩
 ·have h2:=hlt a ha;rcases List.mem_cons.1 hb with rfl | hb
  ·omega
  ·have:=hge b hb;omega
 ·have e:[z]++V=([z]++V.take k)++V.drop k:=by rw[List.append_assoc,List.take_append_drop]
  rw[e,show V.take k++z :: V.drop k=(V.take k++[z])++V.drop k by simp];refine Stb.append (Stb.swap (fun a ha b hb=>?_)) (Stb.refl _);simp only[List.mem_singleton]at ha;subst ha;have:=hlt b hb;omega
theorem aez{z:Pcl}{U:List Pcl}(hU:Srt U)(k:Nat)(hk:k<=U.length)(h0:0<k->wt U (k-1)<=z.1)(h1:k<U.length->z.1<wt U k):Srt (U.take k++z :: U.drop k)/\Stb (U++[z]) (U.take k++z :: U.drop k):=by
 have e:U.take k++U.drop k=U:=List.take_append_drop k U;have h:=Iw (P:=U.take k) (Q:=U.drop k) (x:=z) (by rw[e];exact hU) (fun q hq=>by
  obtain⟨i,hi,hl,e⟩:=gU hq;have:=iM hU hi hl;have:=h1 (by omega);omega) (fun p hp=>by
  obtain⟨i,hi,hl,e⟩:=gV hp;have:=iM hU (show i<=k-1 by omega) (by omega);have:=h0 (by omega);omega)
 rw[e]at h;exact h
theorem ER{U V W1 W2:List Pcl}(hU:Srt U)(hV:Srt V)(x y:Nat)(hx:x<=U.length)(hy:y<=V.length)(hVU:x<U.length->0<y->wt V (y-1)<wt U x)(hUV:0<x->y<V.length->wt U (x-1)<=wt V y)
  (h1:Srt W1) (h2:Srt W2) (s1:Stb (U.take x++V.take y) W1) (s2:Stb (U.drop x++V.drop y) W2):Srt (W1++W2)/\Stb (U++V) (W1++W2):=by
 have k1:∀a∈U.take x,∀b∈U.drop x,a.1<=b.1:=fun a ha b hb=>by
  obtain⟨i,hi,hl,e⟩:=gV ha;obtain⟨j,hj,hl2,e2⟩:=gU hb;have:=iM hU (show i<=j by omega) hl2;omega
 have k2:∀a∈V.take y,∀b∈V.drop y,a.1<=b.1:=fun a ha b hb=>by
  obtain⟨i,hi,hl,e⟩:=gV ha;obtain⟨j,hj,hl2,e2⟩:=gU hb;have:=iM hV (show i<=j by omega) hl2;omega
 have k3:∀a∈U.take x,∀b∈V.drop y,a.1<=b.1:=fun a ha b hb=>by
  obtain⟨i,hi,hl,e⟩:=gV ha;obtain⟨j,hj,hl2,e2⟩:=gU hb;have:=iM hU (show i<=x-1 by omega) (by omega);have:=iM hV hj hl2;have:=hUV (by omega) (by omega);omega
 have k4:∀a∈V.take y,∀b∈U.drop x,a.1<b.1:=fun a ha b hb=>by
  obtain⟨i,hi,hl,e⟩:=gV ha;obtain⟨j,hj,hl2,e2⟩:=gU hb;have:=iM hV (show i<=y-1 by omega) (by omega);have:=iM hU hj hl2;have:=hVU (by omega) (by omega);omega
 refine⟨AQ h1 h2 (fun a ha b hb=>?_),?_⟩
 ·rcases List.mem_append.1 (s1.1.mem_iff.2 ha)with ha | ha<;>rcases List.mem_append.1 (s2.1.mem_iff.2 hb)with hb | hb
  ·exact k1 a ha b hb
  ·exact k3 a ha b hb
  ·exact Nat.le_of_lt (k4 a ha b hb)
  ·exact k2 a ha b hb
 ·have e:U++V=U.take x++((U.drop x++V.take y)++V.drop y):=by
   conv=>lhs;rw[<-List.take_append_drop x U,<-List.take_append_drop y V]
   simp only[List.append_assoc]
  have h3:Stb (U.drop x++V.take y) (V.take y++U.drop x):=Stb.swap (fun a ha b hb=>by have:=k4 b hb a ha;omega);have h4:Stb (U++V) (U.take x++((V.take y++U.drop x)++V.drop y)):=by
   rw[e];exact(Stb.refl _).append (h3.append (Stb.refl _))
  refine h4.trans ?_;rw[show U.take x++((V.take y++U.drop x)++V.drop y)=(U.take x++V.take y)++(U.drop x++V.drop y) by simp];exact s1.append s2
end Go.Proofs.YtaebnkeddcbmkaaGreat.Bm
namespace Go.Proofs.YtaebnkeddcbmkaaGreat
open Go.RowKit
open Go.Sort (grow)
theorem nK{w:World}{g:Nat}{L:List Pcl}{post:List Value}{i:Nat}{t:Pcl}(h:dh w g L post)(hi:L[i]?=some t) :
  (∀n os,(grow (w.drewN n) os).cell? ⟨g,i*2,none⟩=some (.int .i64 (t.1:Int)))/\(∀n os,(grow (w.drewN n) os).cell? ⟨g,i*2+1,none⟩=some (.slice (some ⟨t.2.1.1,0,none⟩) t.2.2.length t.2.1.2)):=by
 obtain⟨h1,h2⟩:=tO h hi;exact⟨fun n os=>cell_grown (a:=⟨g,i*2,none⟩) h.lt h1 n os,fun n os=>cell_grown (a:=⟨g,i*2+1,none⟩) h.lt h2 n os⟩
theorem abZ(g c:Nat)(X V Y:List Pcl)(z:Pcl)(post:List Value)(w:World)(hl:(X++(z :: (V++Y))).length<=100000)(hV:Srt V)(hv:0<V.length)(hw:Light (z :: V))(hr:dh w g (X++(z :: (V++Y))) post) :
  Calls prog 209 #[.slice (some ⟨g,0,none⟩) (X++(z :: (V++Y))).length c,.int .i64 (X.length:Int),.int .i64 ((X.length+1:Nat):Int),.int .i64 ((X.length+1+V.length:Nat):Int),.func (.func 185) #[] #[]] w fun e w'=>e=.returned (.tuple #[])/\∃W,dh w' g (X++(W++Y)) post/\Srt W/\Stb (z :: V) W/\w.grownBy w' (some g):=by
 obtain⟨n,hn⟩:∃n,n=(X++(z :: (V++Y))).length:=⟨_,rfl⟩;obtain⟨a,ha⟩:∃a,a=X.length:=⟨_,rfl⟩;obtain⟨m,hm⟩:∃m,m=a+1:=⟨_,rfl⟩;obtain⟨b,hb⟩:∃b,b=m+V.length:=⟨_,rfl⟩;rw[<-ha,<-hm,<-hb,<-hn];rw[<-hn]at hl;have hbn:b<=n:=by rw[hn,hb,hm,ha];simp;omega
 have hmb:m<=b:=by omega
 have ham:a<=m:=by omega
 have hma:(m:Int)-(a:Int)=1:=by omega
 have hget:∀k,k<V.length->(X++(z :: (V++Y)))[m+k]?=some (V[k]?.getD dU):=fun k hk=>by
  rw[List.getElem?_append_right (by omega),show m+k-X.length=k+1 by omega,List.getElem?_cons_succ,List.getElem?_append_left hk,List.getElem?_eq_getElem hk,Option.getD_some]
 have hgz:(X++(z :: (V++Y)))[a]?=some z:=by rw[ha];exact Ik z X (V++Y)
 have uM:∀k,k<V.length->Bm.wt V k<=4000000000:=fun k hk=>by
  rw[zq hk];exact hw _ (by simp)
 have hz:z.1<=4000000000:=hw z (by simp);have Hr:=hid hr;have adK:=hid hget;have Hgz:=hid hgz;have Du:=hid uM;have HV:=hid hV;have Hb:=hid hb;have Hm:=hid hm;have Ha:=hid ha;have ec:=BO;have mixed:prog.follows .mixedOrders=true:=by kernel_rfl
 clear hr hget hgz uM hV hn ha hm hb hw;go_enter func209,ntmps209
 go_wp2;go_loopw [10,11] (fun iv jv wr=>∃(i j:Nat),iv=.int .i64 (i:Int)/\jv=.int .i64 (j:Int)/\m<=i/\i<=j/\j<=b/\Hid ((m<i->Bm.wt V (i-m-1)<z.1)/\(j<b->z.1<=Bm.wt V (j-m)))/\Hid (dh wr g (X++(z :: (V++Y))) post)/\Hid (w.grownBy wr (some g))) (fun iv jv _=>(intOf jv).toNat-(intOf iv).toNat)
 case atStart=>exact⟨m,b,rfl,rfl,by omega,hmb,by omega,hid ⟨fun h=>by omega,fun h=>by omega⟩,Hr,hid (aj _ _)⟩
 case round=>
  obtain⟨i,j,rfl,rfl,hmi,hij,hjb,hin,hrow,hg⟩:=hrel;clear Hr;by_cases hlt:i<j
  ·obtain⟨h,hh⟩:∃h,h=(i+j)/2:=⟨_,rfl⟩;have hih:i<=h:=by omega
   have hhj:h<j:=by omega
   have hhi:((i:Int)+(j:Int))/2=(h:Int):=by omega
   clear hh;have hx:=adK.out (h-m) (by have:=Hb.out;omega);rw[show m+(h-m)=h by omega]at hx;have hlx:=Du.out (h-m) (by have:=Hb.out;omega);obtain⟨t,ht⟩:∃t,t=V[h-m]?.getD dU:=⟨_,rfl⟩;have htw:Bm.wt V (h-m)=t.1:=by rw[ht]
   rw[<-ht]at hx;rw[htw]at hlx;obtain⟨m0,m1⟩:=nK hrow.out hx;obtain⟨m2,m3⟩:=nK hrow.out Hgz.out;have hcm:=BH t.1 z.1 t.2.1.1 t.2.2.length t.2.1.2 z.2.1.1 z.2.2.length z.2.1.2 hlx hz wr;have Hcm:=hid hcm;have Htw:=hid htw;have hhn:(h:Int)<(n:Int):=by omega
   have han:(a:Int)<(n:Int):=by omega
   clear hx hlx ht htw hcm;go_wp2_with fail
   by_cases hd0:t.1<z.1
   ·have hd:decide ((t.1:Int)-(z.1:Int)<0)=true:=decide_eq_true (by omega);go_quiet_grown ((go_at_call 185;exact Hcm.out _ _))
    have hb2:Below wr.heap.size wr (grow (wr.drewN nq) osq):=fM wr nq osq;have dL:=hid (hrow.out.below hb2);have Hg2:=hid (hg.out.trans (ak hb2 (some g)));have QX:Hid ((m<h+1->Bm.wt V (h+1-m-1)<z.1)/\(j<b->z.1<=Bm.wt V (j-m))):=hid ⟨fun _=>by rw[show h+1-m-1=h-m by omega,Htw.out];exact hd0,hin.out.2⟩;change Exit.then _ _ _ _ (grow (wr.drewN nq) osq);clear hb2 Hcm m0 m1 m2 m3 hrow hg hin;generalize grow (wr.drewN nq) osq=w2 at *;go_wp2;go_roundw
    case rel=>exact⟨h+1,j,by go_num,rfl,by omega,by omega,hjb,QX,dL,Hg2⟩
    case measure=>simp[intOf];omega
   ·have hd:decide ((t.1:Int)-(z.1:Int)<0)=false:=decide_eq_false (by omega);go_quiet_grown ((go_at_call 185;exact Hcm.out _ _))
    have hb2:Below wr.heap.size wr (grow (wr.drewN nq) osq):=fM wr nq osq;have dL:=hid (hrow.out.below hb2);have Hg2:=hid (hg.out.trans (ak hb2 (some g)));have QX:Hid ((m<i->Bm.wt V (i-m-1)<z.1)/\(h<b->z.1<=Bm.wt V (h-m))):=hid ⟨hin.out.1,fun _=>by rw[Htw.out];omega⟩;change Exit.then _ _ _ _ (grow (wr.drewN nq) osq);clear hb2 Hcm m0 m1 m2 m3 hrow hg hin;generalize grow (wr.drewN nq) osq=w2 at *;go_wp2;go_roundw
    case rel=>exact⟨i,h,rfl,by go_num,hmi,hih,by omega,QX,dL,Hg2⟩
    case measure=>simp[intOf];omega
  ·obtain rfl:i=j:=by omega
   have hkv:i-m<=V.length:=by have:=Hb.out;omega
   obtain⟨q,hq⟩:∃q,q=i-m:=⟨_,rfl⟩;have hfin:Srt (V.take q++z :: V.drop q)/\Stb ([z]++V) (V.take q++z :: V.drop q):=afI HV.out q (by omega) (fun h=>by rw[hq];exact hin.out.1 (by omega)) (fun h=>by
    rw[hq];exact hin.out.2 (by have:=Hb.out;omega))
   have iy:=hid hfin;have hiq:i=a+1+q:=by omega
   have hqv:q<=V.length:=by omega
   have Hst:Hid (dh wr g (X++(V.take 0++(z :: (V.drop 0++Y)))) post):=hid (by simpa using hrow.out);clear hfin hq hin hrow hkv adK Hgz Du hlt;go_wp2;rename World=>wx
   have Hg0:=hid hg.out;clear hg;go_loopw [13] (fun kv wr=>∃(t:Nat),kv=.int .i64 ((a:Int)+(t:Int))/\t<=q/\Hid (dh wr g (X++(V.take t++(z :: (V.drop t++Y)))) post)/\Hid (w.grownBy wr (some g))) (fun kv _=>a+q-(intOf kv).toNat)
   case atStart=>exact⟨0,by go_num,by omega,Hst,Hg0⟩
   case round=>
    obtain⟨t,rfl,htq,hrow,hg⟩:=hrel;clear Hst Hg0;by_cases htlt:t<q
    ·have hsw:swp dU (X++(V.take t++(z :: (V.drop t++Y)))) (a+t) (a+t+1)=X++(V.take (t+1)++(z :: (V.drop (t+1)++Y))):=by
      have h1:=CV dU z (V[t]'(by omega)) (X++V.take t) (V.drop (t+1)++Y);rw[List.length_append,List.length_take,Nat.min_eq_left (by omega),<-Ha.out]at h1;rw[List.drop_eq_getElem_cons (show t<V.length by omega),List.take_succ_eq_append_getElem (show t<V.length by omega)];simp only[List.append_assoc,List.cons_append,List.nil_append]at h1 ⊢;exact h1
     have hlen:(X++(V.take t++(z :: (V.drop t++Y)))).length=a+1+V.length+Y.length:=by
      simp only[List.length_append,List.length_cons,List.length_take,List.length_drop];have:=Ha.out;omega
     obtain⟨av,bv,g1,n1,c1',g2,n2,c2',⟨c0,c1⟩,⟨k0,k1⟩,⟨f0,f1,f2,f3⟩,⟨v1,hy1⟩,⟨v2,hy2⟩,hfin⟩:=vP hrow.out (a+t) (a+t+1) (by omega) (by omega);rw[hsw]at hfin;have Hfn:=hid hfin;have q1:(0:Int)<=(a:Int)+(t:Int):=by omega
     have q2:(a:Int)+(t:Int)<(n:Int):=by have:=Hb.out;have:=Hm.out;omega
     have q3:(0:Int)<=(a:Int)+(t:Int)+1:=by omega
     have q4:(a:Int)+(t:Int)+1<(n:Int):=by have:=Hb.out;have:=Hm.out;omega
     have t1:((a:Int)+(t:Int)).toNat=a+t:=by omega
     have t2:((a:Int)+(t:Int)+1).toNat=a+t+1:=by omega
     have hd:decide ((a:Int)+(t:Int)<(i:Int)-1)=true:=decide_eq_true (by omega);clear hfin hsw hlen hrow;go_wp2_with fail
     go_region
     go_wp2;go_roundw
     case rel=>exact⟨t+1,by go_num,by omega,Hfn,hid (hg.out.trans (bf (kC _ _ _ _ _ _ _ _ _ _)))⟩
     case measure=>simp[intOf];omega
    ·obtain rfl:t=q:=by omega
     have hfn:∃W,dh wr g (X++(W++Y)) post/\Srt W/\Stb (z :: V) W/\w.grownBy wr (some g):=⟨V.take t++z :: V.drop t,by simpa using hrow.out,iy.out.1,iy.out.2,hg.out⟩;have Hf:=hid hfn;have hd:decide ((a:Int)+(t:Int)<(i:Int)-1)=false:=decide_eq_false (by omega);clear hfn hrow hg iy;go_wp2;refine bodyPost_ret (results_none rfl _ _ _) rfl ?_;exact⟨rfl,Hf.out⟩
theorem abX(g c:Nat)(X U Y:List Pcl)(z:Pcl)(post:List Value)(w:World)(hl:(X++(U++(z :: Y))).length<=100000)(hU:Srt U)(hu:2<=U.length)(hw:Light (z :: U))(hr:dh w g (X++(U++(z :: Y))) post) :
  Calls prog 209 #[.slice (some ⟨g,0,none⟩) (X++(U++(z :: Y))).length c,.int .i64 (X.length:Int),.int .i64 ((X.length+U.length:Nat):Int),.int .i64 ((X.length+U.length+1:Nat):Int),.func (.func 185) #[] #[]] w fun e w'=>e=.returned (.tuple #[])/\∃W,dh w' g (X++(W++Y)) post/\Srt W/\Stb (U++[z]) W/\w.grownBy w' (some g):=by
 obtain⟨n,hn⟩:∃n,n=(X++(U++(z :: Y))).length:=⟨_,rfl⟩;obtain⟨a,ha⟩:∃a,a=X.length:=⟨_,rfl⟩;obtain⟨m,hm⟩:∃m,m=a+U.length:=⟨_,rfl⟩;obtain⟨b,hb⟩:∃b,b=m+1:=⟨_,rfl⟩;rw[<-ha,<-hm,<-hb,<-hn];rw[<-hn]at hl;have hbn:b<=n:=by rw[hn,hb,hm,ha];simp;omega
 have ham:a+2<=m:=by omega
 have hma:((m:Int)-(a:Int) == 1)=false:=by rw[beq_eq_false_iff_ne];omega
 have hbm:(b:Int)-(m:Int)=1:=by omega
 have hget:∀k,k<U.length->(X++(U++(z :: Y)))[a+k]?=some (U[k]?.getD dU):=fun k hk=>by
  rw[List.getElem?_append_right (by omega),show a+k-X.length=k by omega,List.getElem?_append_left hk,List.getElem?_eq_getElem hk,Option.getD_some]
 have hgz:(X++(U++(z :: Y)))[m]?=some z:=by
  have h1:=Ik z (X++U) Y;rw[List.length_append,<-ha,<-hm,List.append_assoc]at h1;exact h1
 have uM:∀k,k<U.length->Bm.wt U k<=4000000000:=fun k hk=>by
  rw[zq hk];exact hw _ (by simp)
 have hz:z.1<=4000000000:=hw z (by simp);have Hr:=hid hr;have adK:=hid hget;have Hgz:=hid hgz;have Du:=hid uM;have HU:=hid hU;have Hb:=hid hb;have Hm:=hid hm;have Ha:=hid ha;have ec:=BO;have mixed:prog.follows .mixedOrders=true:=by kernel_rfl
 clear hr hget hgz uM hU hn ha hm hb hw;go_enter func209,ntmps209
 go_wp2;go_loopw [14,15] (fun iv jv wr=>∃(i j:Nat),iv=.int .i64 (i:Int)/\jv=.int .i64 (j:Int)/\a<=i/\i<=j/\j<=m/\Hid ((a<i->Bm.wt U (i-a-1)<=z.1)/\(j<m->z.1<Bm.wt U (j-a)))/\Hid (dh wr g (X++(U++(z :: Y))) post)/\Hid (w.grownBy wr (some g))) (fun iv jv _=>(intOf jv).toNat-(intOf iv).toNat)
 case atStart=>exact⟨a,m,rfl,rfl,by omega,by omega,by omega,hid ⟨fun h=>by omega,fun h=>by omega⟩,Hr,hid (aj _ _)⟩
 case round=>
  obtain⟨i,j,rfl,rfl,hmi,hij,hjb,hin,hrow,hg⟩:=hrel;clear Hr;by_cases hlt:i<j
  ·obtain⟨h,hh⟩:∃h,h=(i+j)/2:=⟨_,rfl⟩;have hih:i<=h:=by omega
   have hhj:h<j:=by omega
   have hhi:((i:Int)+(j:Int))/2=(h:Int):=by omega
   clear hh;have hx:=adK.out (h-a) (by have:=Hm.out;omega);rw[show a+(h-a)=h by omega]at hx;have hlx:=Du.out (h-a) (by have:=Hm.out;omega);obtain⟨t,ht⟩:∃t,t=U[h-a]?.getD dU:=⟨_,rfl⟩;have htw:Bm.wt U (h-a)=t.1:=by rw[ht]
   rw[<-ht]at hx;rw[htw]at hlx;obtain⟨m0,m1⟩:=nK hrow.out hx;obtain⟨m2,m3⟩:=nK hrow.out Hgz.out;have hcm:=BH z.1 t.1 z.2.1.1 z.2.2.length z.2.1.2 t.2.1.1 t.2.2.length t.2.1.2 hz hlx wr;have Hcm:=hid hcm;have Htw:=hid htw;have hhn:(h:Int)<(n:Int):=by have:=Hb.out;omega
   have hmn:(m:Int)<(n:Int):=by have:=Hb.out;omega
   clear hx hlx ht htw hcm;go_wp2_with fail
   by_cases hd0:z.1<t.1
   ·have hd:decide ((z.1:Int)-(t.1:Int)<0)=true:=decide_eq_true (by omega);go_quiet_grown ((go_at_call 185;exact Hcm.out _ _))
    have hb2:Below wr.heap.size wr (grow (wr.drewN nq) osq):=fM wr nq osq;have dL:=hid (hrow.out.below hb2);have Hg2:=hid (hg.out.trans (ak hb2 (some g)));have QX:Hid ((a<i->Bm.wt U (i-a-1)<=z.1)/\(h<m->z.1<Bm.wt U (h-a))):=hid ⟨hin.out.1,fun _=>by rw[Htw.out];exact hd0⟩;change Exit.then _ _ _ _ (grow (wr.drewN nq) osq);clear hb2 Hcm m0 m1 m2 m3 hrow hg hin;generalize grow (wr.drewN nq) osq=w2 at *;go_wp2;go_roundw
    case rel=>exact⟨i,h,rfl,by go_num,hmi,hih,by omega,QX,dL,Hg2⟩
    case measure=>simp[intOf];omega
   ·have hd:decide ((z.1:Int)-(t.1:Int)<0)=false:=decide_eq_false (by omega);go_quiet_grown ((go_at_call 185;exact Hcm.out _ _))
    have hb2:Below wr.heap.size wr (grow (wr.drewN nq) osq):=fM wr nq osq;have dL:=hid (hrow.out.below hb2);have Hg2:=hid (hg.out.trans (ak hb2 (some g)));have QX:Hid ((a<h+1->Bm.wt U (h+1-a-1)<=z.1)/\(j<m->z.1<Bm.wt U (j-a))):=hid ⟨fun _=>by rw[show h+1-a-1=h-a by omega,Htw.out];omega,hin.out.2⟩;change Exit.then _ _ _ _ (grow (wr.drewN nq) osq);clear hb2 Hcm m0 m1 m2 m3 hrow hg hin;generalize grow (wr.drewN nq) osq=w2 at *;go_wp2;go_roundw
    case rel=>exact⟨h+1,j,by go_num,rfl,by omega,by omega,hjb,QX,dL,Hg2⟩
    case measure=>simp[intOf];omega
  ·obtain rfl:i=j:=by omega
   have hkv:i-a<=U.length:=by have:=Hm.out;omega
   obtain⟨q,hq⟩:∃q,q=i-a:=⟨_,rfl⟩;have hfin:Srt (U.take q++z :: U.drop q)/\Stb (U++[z]) (U.take q++z :: U.drop q):=aez HU.out q (by omega) (fun h=>by rw[hq];exact hin.out.1 (by omega)) (fun h=>by
    rw[hq];exact hin.out.2 (by have:=Hm.out;omega))
   have iy:=hid hfin;have hiq:i=a+q:=by omega
   have hqv:q<=U.length:=by omega
   have Hst:Hid (dh wr g (X++(U.take U.length++(z :: (U.drop U.length++Y)))) post):=hid (by simpa using hrow.out);have hmu:m=a+U.length:=Hm.out;clear hfin hq hin hrow hkv adK Hgz Du hlt;go_wp2;rename World=>wx
   have Hg0:=hid hg.out;clear hg;have hmk:m<=b:=by have:=Hb.out;omega
   go_loopw [17] (fun kv wr=>∃(k:Nat),kv=.int .i64 (k:Int)/\i<=k/\k<=m/\Hid (∃t,k=a+t/\t<=U.length/\dh wr g (X++(U.take t++(z :: (U.drop t++Y)))) post)/\Hid (w.grownBy wr (some g))) (fun kv _=>(intOf kv).toNat)
   case atStart=>exact⟨m,rfl,by omega,by omega,hid ⟨U.length,hmu,by omega,Hst.out⟩,Hg0⟩
   case round=>
    obtain⟨k,rfl,hik,hkm,hrow,hg⟩:=hrel;clear Hst Hg0;by_cases htlt:i<k
    ·obtain⟨k,rfl⟩:∃k',k=k'+1:=⟨k-1,by omega⟩;have hfin:∃(av bv:Int) (g1 n1 c1' g2 n2 c2':Nat),(wr.cell? ⟨g,(k+1)*2,none⟩=some (.int .i64 av)/\wr.cell? ⟨g,(k+1)*2+1,none⟩=some (.slice (some ⟨g1,0,none⟩) n1 c1'))/\(wr.cell? ⟨g,k*2,none⟩=some (.int .i64 bv)/\wr.cell? ⟨g,k*2+1,none⟩=some (.slice (some ⟨g2,0,none⟩) n2 c2')) /\
       (wr.frozen? ⟨g,(k+1)*2,none⟩=false/\wr.frozen? ⟨g,(k+1)*2+1,none⟩=false/\wr.frozen? ⟨g,k*2,none⟩=false/\wr.frozen? ⟨g,k*2+1,none⟩=false) /\
       (∃v1,(wr.setCell ⟨g,(k+1)*2,none⟩ (.int .i64 bv)).cell? ⟨g,k*2,none⟩=some v1)/\(∃v2,((wr.setCell ⟨g,(k+1)*2,none⟩ (.int .i64 bv)).setCell ⟨g,(k+1)*2+1,none⟩ (.slice (some ⟨g2,0,none⟩) n2 c2')).cell? ⟨g,k*2+1,none⟩=some v2) /\
       (∃t,k=a+t/\t<=U.length/\dh ((((wr.setCell ⟨g,(k+1)*2,none⟩ (.int .i64 bv)).setCell ⟨g,(k+1)*2+1,none⟩ (.slice (some ⟨g2,0,none⟩) n2 c2')).setCell ⟨g,k*2,none⟩ (.int .i64 av)).setCell ⟨g,k*2+1,none⟩ (.slice (some ⟨g1,0,none⟩) n1 c1')) g (X++(U.take t++(z :: (U.drop t++Y)))) post):=by
      obtain⟨t,ht,htu,hr⟩:=hrow.out;obtain⟨s,rfl⟩:∃s,t=s+1:=⟨t-1,by omega⟩;obtain rfl:k=a+s:=by omega
      have hlen:(X++(U.take (s+1)++(z :: (U.drop (s+1)++Y)))).length=a+U.length+1+Y.length:=by
       simp only[List.length_append,List.length_cons,List.length_take,List.length_drop];have:=Ha.out;omega
      have hsw:swp dU (X++(U.take (s+1)++(z :: (U.drop (s+1)++Y)))) (a+s+1) (a+s)=X++(U.take s++(z :: (U.drop s++Y))):=by
       have h1:=CV dU (U[s]'(by omega)) z (X++U.take s) (U.drop (s+1)++Y);rw[List.length_append,List.length_take,Nat.min_eq_left (by omega),<-Ha.out]at h1;rw[MJ _ _ _ _ (by omega) (by omega),List.drop_eq_getElem_cons (show s<U.length by omega),List.take_succ_eq_append_getElem (show s<U.length by omega)];simp only[List.append_assoc,List.cons_append,List.nil_append]at h1 ⊢;exact h1
      obtain⟨av,bv,g1,n1,c1',g2,n2,c2',e1,e2,e3,e4,e5,hf⟩:=vP hr (a+s+1) (a+s) (by omega) (by omega);rw[hsw]at hf;exact⟨av,bv,g1,n1,c1',g2,n2,c2',e1,e2,e3,e4,e5,s,rfl,by omega,hf⟩
     obtain⟨av,bv,g1,n1,c1',g2,n2,c2',⟨c0,c1⟩,⟨k0,k1⟩,⟨f0,f1,f2,f3⟩,⟨v1,hy1⟩,⟨v2,hy2⟩,hf⟩:=hfin;have Hfn:=hid hf;have q2:(k:Int)+1<(n:Int):=by have:=Hb.out;omega
     have q3:(k:Int)<(n:Int):=by omega
     have q1:(0:Int)<=(k:Int)+1:=by omega
     have t1:((k:Int)+1).toNat=k+1:=by omega
     have w0:IntKind.i64.wrap (k:Int)=(k:Int):=by rw[IntKind.wrap_i64];omega
     have hd:decide ((i:Int)<(k:Int)+1)=true:=decide_eq_true (by omega);clear hf hrow;go_wp2_with fail
     go_region
     go_wp2;go_roundw
     case rel=>exact⟨k,by go_num,by omega,by omega,Hfn,hid (hg.out.trans (bf (kC _ _ _ _ _ _ _ _ _ _)))⟩
     case measure=>simp[intOf]
    ·obtain rfl:k=i:=by omega
     have hfn:∃W,dh wr g (X++(W++Y)) post/\Srt W/\Stb (U++[z]) W/\w.grownBy wr (some g):=by
      obtain⟨t,ht,htu,hr⟩:=hrow.out;obtain rfl:t=q:=by omega
      exact⟨U.take t++z :: U.drop t,by simpa using hr,iy.out.1,iy.out.2,hg.out⟩
     have Hf:=hid hfn;clear hfn hrow hg iy;go_wp2;refine bodyPost_ret (results_none rfl _ _ _) rfl ?_;exact⟨rfl,Hf.out⟩
theorem uo(g c:Nat)(cf:Value)(X A M B Y:List Pcl)(post:List Value)(w:World)(hAB:B.length=A.length)(hl:(X++(A++(M++(B++Y)))).length<=100000)(hr:dh w g (X++(A++(M++(B++Y)))) post) :
  Calls prog 215 #[.slice (some ⟨g,0,none⟩) (X++(A++(M++(B++Y)))).length c,.int .i64 (X.length:Int),.int .i64 ((X.length+A.length+M.length:Nat):Int),.int .i64 (A.length:Int),cf] w fun e w'=>e=.returned (.tuple #[])/\dh w' g (X++(B++(M++(A++Y)))) post/\w.grownBy w' (some g):=by
 obtain⟨n,hn⟩:∃n,n=(X++(A++(M++(B++Y)))).length:=⟨_,rfl⟩;rw[<-hn]at hl ⊢;have hlen:n=X.length+A.length+M.length+B.length+Y.length:=by rw[hn];simp only[List.length_append];omega
 obtain⟨b,hb⟩:∃b,b=X.length+A.length+M.length:=⟨_,rfl⟩;rw[<-hb];have hst:dh w g (X++((B.take 0++A.drop 0)++(M++((A.take 0++B.drop 0)++Y)))) post:=by simpa using hr
 have Hst:=hid hst;have Hb:=hid hb;have hxn:X.length+A.length<=b:=by omega
 have hbn:b+A.length<=n:=by omega
 have HAB:=hid hAB;clear hr hn hlen hst hb hAB;go_enter func215,ntmps215
 go_wp2;go_loopw [10] (fun iv wr=>∃k:Nat,k<=A.length/\iv=.int .i64 (k:Int)/\Hid (dh wr g (X++((B.take k++A.drop k)++(M++((A.take k++B.drop k)++Y)))) post)/\Hid (w.grownBy wr (some g))) (fun iv _=>A.length-(intOf iv).toNat)
 case atStart=>exact⟨0,by omega,rfl,Hst,hid (aj _ _)⟩
 case round=>
  obtain⟨k,hk,rfl,hrow,hg⟩:=hrel;clear Hst;by_cases hkl:k<A.length
  ·have hlL:(X++((B.take k++A.drop k)++(M++((A.take k++B.drop k)++Y)))).length=X.length+A.length+M.length+A.length+Y.length:=by
    have:=HAB.out;simp only[List.length_append,List.length_take,List.length_drop];omega
   have hb:=Hb.out;obtain⟨av,bv,g1,n1,c1',g2,n2,c2',⟨c0,c1⟩,⟨k0,k1⟩,⟨f0,f1,f2,f3⟩,⟨v1,hy1⟩,⟨v2,hy2⟩,hfin⟩:=vP hrow.out (X.length+k) (b+k) (by omega) (by omega);have aiO:dh ((((wr.setCell ⟨g,(X.length+k)*2,none⟩ (.int .i64 bv)).setCell ⟨g,(X.length+k)*2+1,none⟩ (.slice (some ⟨g2,0,none⟩) n2 c2')).setCell ⟨g,(b+k)*2,none⟩ (.int .i64 av)).setCell ⟨g,(b+k)*2+1,none⟩ (.slice (some ⟨g1,0,none⟩) n1 c1')) g (X++((B.take (k+1)++A.drop (k+1))++(M++((A.take (k+1)++B.drop (k+1))++Y)))) post:=by
    rw[<-Pj dU X A M B Y k hkl HAB.out,<-hb];exact hfin
   have iy:=hid aiO;clear hfin aiO hlL hrow hb;have q1:(0:Int)<=(X.length:Int)+(k:Int):=by omega
   have q2:(X.length:Int)+(k:Int)<(n:Int):=by omega
   have q3:(0:Int)<=(b:Int)+(k:Int):=by omega
   have q4:(b:Int)+(k:Int)<(n:Int):=by omega
   have t1:((X.length:Int)+(k:Int)).toNat=X.length+k:=by omega
   have t2:((b:Int)+(k:Int)).toNat=b+k:=by omega
   generalize X.length=x at *;generalize hAl:A.length=an at *;go_wp2_with fail
   go_region
   go_wp2;go_roundw
   case rel=>exact⟨k+1,by omega,by go_num,iy,hid (hg.out.trans (bf (kC _ _ _ _ _ _ _ _ _ _)))⟩
   case measure=>simp[intOf];omega
  ·obtain rfl:k=A.length:=by omega
   have hfin:dh wr g (X++(B++(M++(A++Y)))) post:=by
    have h1:=hrow.out;rw[List.drop_length,List.take_length,List.append_nil,<-HAB.out,List.take_length,List.drop_length,List.append_nil]at h1;exact h1
   have Hf:=hid hfin;clear hfin hrow;go_wp2;go_end0
   exact⟨rfl,Hf.out,hg.out⟩
theorem abW(g c:Nat)(cf:Value)(X U V Y:List Pcl)(post:List Value)(w:World)(hU:0<U.length)(hV:0<V.length)(hl:(X++(U++(V++Y))).length<=100000)(hr:dh w g (X++(U++(V++Y))) post) :
  Calls prog 214 #[.slice (some ⟨g,0,none⟩) (X++(U++(V++Y))).length c,.int .i64 (X.length:Int),.int .i64 ((X.length+U.length:Nat):Int),.int .i64 ((X.length+U.length+V.length:Nat):Int),cf] w fun e w'=>e=.returned (.tuple #[])/\dh w' g (X++(V++(U++Y))) post/\w.grownBy w' (some g):=by
 obtain⟨n,hn⟩:∃n,n=(X++(U++(V++Y))).length:=⟨_,rfl⟩;obtain⟨T,hT⟩:∃T,T=X++(V++(U++Y)):=⟨_,rfl⟩;obtain⟨m,hm⟩:∃m,m=X.length+U.length:=⟨_,rfl⟩;rw[<-hn]at hl ⊢;rw[<-hT,<-hm];have hst:∃X' U' V' Y':List Pcl,U'.length=U.length/\V'.length=V.length/\X'.length+U.length=m/\X'++(V'++(U'++Y'))=T/\n=(X'++(U'++(V'++Y'))).length/\dh w g (X'++(U'++(V'++Y'))) post:=⟨X,U,V,Y,rfl,rfl,hm.symm,hT.symm,hn,hr⟩;have Hst:=hid hst;have hmu:U.length<=m:=by omega
 have hmn:m+V.length<=n:=by rw[hn,hm];simp only[List.length_append];omega
 obtain⟨b0,hb0⟩:∃b0,b0=m+V.length:=⟨_,rfl⟩;rw[<-hb0];have hx1:IntKind.i64.wrap ((m:Int)-(X.length:Int))=(U.length:Int):=by rw[IntKind.wrap_i64];omega
 have hx2:(b0:Int)-(m:Int)=(V.length:Int):=by omega
 have hm0:(m:Int)-(X.length:Int)=(U.length:Int):=by omega
 clear hn hT hr hst hm hb0;generalize U.length=i0 at *;generalize V.length=j0 at *;generalize X.length=x at *;go_enter func214,ntmps214
 go_wp2;go_loopw [10,11] (fun iv jv wr=>∃i j:Nat,0<i/\0<j/\i<=m/\m+j<=n/\iv=.int .i64 (i:Int)/\jv=.int .i64 (j:Int)/\Hid (∃X' U' V' Y':List Pcl,U'.length=i/\V'.length=j/\X'.length+i=m/\X'++(V'++(U'++Y'))=T/\n=(X'++(U'++(V'++Y'))).length/\dh wr g (X'++(U'++(V'++Y'))) post)/\Hid (w.grownBy wr (some g))) (fun iv jv _=>(intOf iv).toNat+(intOf jv).toNat)
 case atStart=>exact⟨i0,j0,hU,hV,hmu,hmn,by go_num,by go_num,Hst,hid (aj _ _)⟩
 case round=>
  obtain⟨i,j,hi,hj,him,hjm,rfl,rfl,hst,hg⟩:=hrel;clear Hst hU hV hmu hmn hx1 hx2 hm0;have Hst:Hid _:=hst;clear hst;by_cases hij:i=j
  ·subst hij;have hs:Calls prog 215 #[.slice (some ⟨g,0,none⟩) n c,.int .i64 ((m:Int)-(i:Int)),.int .i64 (m:Int),.int .i64 (i:Int),cf] wr fun e w'=>e=.returned (.tuple #[])/\dh w' g T post/\w.grownBy w' (some g):=by
    obtain⟨X',U',V',Y',h1,h2,h3,h4,h5,h6⟩:=Hst.out;have h:=uo g c cf X' U' [] V' Y' post wr (by omega) (by simp only[List.nil_append];omega) (by simpa using h6);simp only[List.nil_append,List.length_nil,Nat.add_zero]at h;rw[<-h5,h1,show X'.length+i=m by omega,show(X'.length:Int)=(m:Int)-(i:Int) by omega,h4]at h;exact h.mono fun e w' ⟨a1,a2,a3⟩=>⟨a1,a2,hg.out.trans a3⟩
   have Hs:=hid hs;clear hs Hst;go_wp2_with fail
   refine Hs.out.mono ?_;rintro e w' ⟨rfl,h1,h2⟩;go_wp2;go_end0
   exact⟨rfl,h1,h2⟩
  ·by_cases hgt:j<i
   ·have hs:Calls prog 215 #[.slice (some ⟨g,0,none⟩) n c,.int .i64 ((m:Int)-(i:Int)),.int .i64 (m:Int),.int .i64 (j:Int),cf] wr fun e w'=>e=.returned (.tuple #[])/\Hid (∃X' U' V' Y':List Pcl,U'.length=i-j/\V'.length=j/\X'.length+(i-j)=m/\X'++(V'++(U'++Y'))=T/\n=(X'++(U'++(V'++Y'))).length/\dh w' g (X'++(U'++(V'++Y'))) post)/\Hid (w.grownBy w' (some g)):=by
     obtain⟨X',U',V',Y',h1,h2,h3,h4,h5,h6⟩:=Hst.out;have eU:U'=U'.take j++U'.drop j:=(List.take_append_drop j U').symm;have l1:(U'.take j).length=j:=by rw[List.length_take];omega
     have l2:(U'.drop j).length=i-j:=by rw[List.length_drop];omega
     rw[eU,List.append_assoc]at h6;have h:=uo g c cf X' (U'.take j) (U'.drop j) V' Y' post wr (by omega) (by rw[<-List.append_assoc (U'.take j),<-eU];omega) h6;rw[<-List.append_assoc (U'.take j),<-eU,<-h5,l1,l2,show X'.length+j+(i-j)=m by omega,show(X'.length:Int)=(m:Int)-(i:Int) by omega]at h;refine h.mono ?_;rintro e w' ⟨a1,a2,a3⟩;refine⟨a1,hid ⟨X'++V',U'.drop j,U'.take j,Y',l2,l1,by rw[List.length_append];omega,?_,?_,?_⟩,hid (hg.out.trans a3)⟩
     ·rw[<-h4];conv=>rhs;rw[eU]
      simp only[List.append_assoc]
     ·rw[h5];simp only[List.length_append,l1,l2];omega
     ·rw[List.append_assoc];exact a2
    have Hs:=hid hs;clear hs Hst;have hne:((i:Int) != (j:Int))=true:=by rw[bne_iff_ne];omega
    go_wp2_with fail
    refine Hs.out.mono ?_;rintro e w' ⟨rfl,h1,h2⟩;clear Hs hg;go_wp2;go_roundw
    case rel=>exact⟨i-j,j,by omega,hj,by omega,hjm,by go_num,rfl,h1,h2⟩
    case measure=>simp[intOf];omega
   ·have hs:Calls prog 215 #[.slice (some ⟨g,0,none⟩) n c,.int .i64 ((m:Int)-(i:Int)),.int .i64 ((m:Int)+(j:Int)-(i:Int)),.int .i64 (i:Int),cf] wr fun e w'=>e=.returned (.tuple #[])/\Hid (∃X' U' V' Y':List Pcl,U'.length=i/\V'.length=j-i/\X'.length+i=m/\X'++(V'++(U'++Y'))=T/\n=(X'++(U'++(V'++Y'))).length/\dh w' g (X'++(U'++(V'++Y'))) post)/\Hid (w.grownBy w' (some g)):=by
     obtain⟨X',U',V',Y',h1,h2,h3,h4,h5,h6⟩:=Hst.out;have eV:V'=V'.take (j-i)++V'.drop (j-i):=(List.take_append_drop (j-i) V').symm;have l1:(V'.take (j-i)).length=j-i:=by rw[List.length_take];omega
     have l2:(V'.drop (j-i)).length=i:=by rw[List.length_drop];omega
     rw[eV,List.append_assoc]at h6;have h:=uo g c cf X' U' (V'.take (j-i)) (V'.drop (j-i)) Y' post wr (by omega) (by rw[<-List.append_assoc (V'.take (j-i)),<-eV];omega) h6;rw[<-List.append_assoc (V'.take (j-i)),<-eV,<-h5,h1,l1,show((X'.length+i+(j-i):Nat):Int)=(m:Int)+(j:Int)-(i:Int) by omega,show(X'.length:Int)=(m:Int)-(i:Int) by omega]at h;refine h.mono ?_;rintro e w' ⟨a1,a2,a3⟩;refine⟨a1,hid ⟨X',V'.drop (j-i),V'.take (j-i),U'++Y',l2,l1,by omega,?_,?_,a2⟩,hid (hg.out.trans a3)⟩
     ·rw[<-h4];conv=>rhs;rw[eV]
      simp only[List.append_assoc]
     ·rw[h5];simp only[List.length_append,l1,l2];omega
    have Hs:=hid hs;clear hs Hst;have hne:((i:Int) != (j:Int))=true:=by rw[bne_iff_ne];omega
    go_wp2_with fail
    refine Hs.out.mono ?_;rintro e w' ⟨rfl,h1,h2⟩;clear Hs hg;go_wp2;go_roundw
    case rel=>exact⟨i,j-i,hi,by omega,him,by omega,rfl,by go_num,h1,h2⟩
    case measure=>simp[intOf];omega
def XP(g c n:Nat)(X U V Y:List Pcl)(post:List Value)(W:World):Prop:=
 Calls prog 209 #[.slice (some ⟨g,0,none⟩) n c,.int .i64 (X.length:Int),.int .i64 ((X.length+U.length:Nat):Int),.int .i64 ((X.length+U.length+V.length:Nat):Int),.func (.func 185) #[] #[]] W fun e w'=>e=.returned (.tuple #[])/\∃R,dh w' g (X++(R++Y)) post/\Srt R/\Stb (U++V) R/\W.grownBy w' (some g)
theorem abY(g c n:Nat)(X U V Y:List Pcl)(post:List Value)(w:World)(hn:n=(X++(U++(V++Y))).length)(hl:n<=100000)(hU:Srt U)(hV:Srt V)(hu:2<=U.length)(hv:2<=V.length)(hw:Light (U++V))(hr:dh w g (X++(U++(V++Y))) post)
  (IH:∀(X' U' V' Y':List Pcl) (W:World),U'.length+V'.length<U.length+V.length->0<U'.length->0<V'.length->Srt U'->Srt V'->Light (U'++V')->n=(X'++(U'++(V'++Y'))).length->dh W g (X'++(U'++(V'++Y'))) post->XP g c n X' U' V' Y' post W):XP g c n X U V Y post w:=by
 unfold XP;obtain⟨a,ha⟩:∃a,a=X.length:=⟨_,rfl⟩;obtain⟨m,hm⟩:∃m,m=a+U.length:=⟨_,rfl⟩;obtain⟨b,hb⟩:∃b,b=m+V.length:=⟨_,rfl⟩;obtain⟨md,hmd⟩:∃md,md=(a+b)/2:=⟨_,rfl⟩;rw[<-ha,<-hm,<-hb];have hbn:b<=n:=by rw[hn,hb,hm,ha];simp;omega
 have hma:((m:Int)-(a:Int) == 1)=false:=by rw[beq_eq_false_iff_ne];omega
 have hbm:((b:Int)-(m:Int) == 1)=false:=by rw[beq_eq_false_iff_ne];omega
 have hmi:((a:Int)+(b:Int))/2=(md:Int):=by omega
 have ham:a+2<=m:=by omega
 have hmb:m+2<=b:=by omega
 have aiQ:∀k,k<U.length->(X++(U++(V++Y)))[a+k]?=some (U[k]?.getD dU):=fun k hk=>by
  rw[List.getElem?_append_right (by omega),show a+k-X.length=k by omega,List.getElem?_append_left hk,List.getElem?_eq_getElem hk,Option.getD_some]
 have aiR:∀k,k<V.length->(X++(U++(V++Y)))[m+k]?=some (V[k]?.getD dU):=fun k hk=>by
  rw[List.getElem?_append_right (by omega),show m+k-X.length=U.length+k by omega,List.getElem?_append_right (by omega),show U.length+k-U.length=k by omega,List.getElem?_append_left hk,List.getElem?_eq_getElem hk,Option.getD_some]
 have hlU:∀k,k<U.length->Bm.wt U k<=4000000000:=fun k hk=>by
  rw[zq hk];exact hw _ (by simp)
 have hlV:∀k,k<V.length->Bm.wt V k<=4000000000:=fun k hk=>by
  rw[zq hk];exact hw _ (by simp)
 have Hr:=hid hr;have HgU:=hid aiQ;have HgV:=hid aiR;have HlU:=hid hlU;have HlV:=hid hlV;have HU:=hid hU;have HV:=hid hV;have Hw:=hid hw;have IHh:=hid IH;have Hn:=hid hn;have Hb:=hid hb;have Hm:=hid hm;have Ha:=hid ha;have Hmd:=hid hmd;have ec:=BO;have mixed:prog.follows .mixedOrders=true:=by kernel_rfl
 clear hr aiQ aiR hlU hlV hU hV hw IH hn ha hm hb hmd;go_enter func209,ntmps209
 go_upto_if 140 with fail
 go_cut [20,21]from 141 to 146 (fun s20 s21 wx=>wx=w/\∃s0 r0:Nat,s20=.int .i64 (s0:Int)/\s21=.int .i64 (r0:Int)/\a<=s0/\s0<=r0/\r0<=m/\r0<=md/\md+m<=b+s0/\(s0=a\/md+m=b+s0)/\(r0=m\/r0=md))
 case first=>
  have h1:=Hmd.out;have h2:=Hm.out;have h3:=Hb.out;by_cases hgt:md<m
  ·go_wp2;go_meet
   exact⟨rfl,md+m-b,md,by go_num,rfl,by omega,by omega,by omega,by omega,by omega,by omega,.inr rfl⟩
  ·go_wp2;go_meet
   exact⟨rfl,a,m,rfl,rfl,by omega,by omega,by omega,by omega,by omega,.inl rfl,.inl rfl⟩
 case rest=>
  obtain⟨hwc,s0,r0,rfl,rfl,hs0,hsr,hrm,ars,hsb,hs2,hr2⟩:=hcut;subst hwc;obtain⟨p,hp⟩:∃p,p+1=md+m:=⟨md+m-1,by omega⟩;have hpi:(md:Int)+(m:Int)-1=(p:Int):=by omega
  have arl:md<=b:=by have:=Hmd.out;omega
  have aqQ:a<=md:=by have:=Hmd.out;omega
  go_wp2_with fail
  go_loopw [20,21] (fun sv rv wr=>∃(s r:Nat),sv=.int .i64 (s:Int)/\rv=.int .i64 (r:Int)/\s0<=s/\s<=r/\r<=r0/\Hid ((s0<s->Bm.wt U (s-1-a)<=Bm.wt V (p+1-s-m))/\(r<r0->Bm.wt V (p-r-m)<Bm.wt U (r-a)))/\Hid (dh wr g (X++(U++(V++Y))) post)/\Hid (wc.grownBy wr (some g))) (fun sv rv _=>(intOf rv).toNat-(intOf sv).toNat)
  case atStart=>exact⟨s0,r0,rfl,rfl,by omega,hsr,by omega,hid ⟨fun h=>by omega,fun h=>by omega⟩,Hr,hid (aj _ _)⟩
  case round=>
   obtain⟨s,r,rfl,rfl,hss,arw,hrr,hin,hrow,hg⟩:=hrel;clear Hr;by_cases hlt:s<r
   ·obtain⟨h,hh⟩:∃h,h=(s+r)/2:=⟨_,rfl⟩;have hih:s<=h:=by omega
    have hhj:h<r:=by omega
    have hhi:((s:Int)+(r:Int))/2=(h:Int):=by omega
    obtain⟨k,hk⟩:∃k,k=p-h:=⟨_,rfl⟩;have hki:(p:Int)-(h:Int)=(k:Int):=by omega
    have w0:IntKind.i64.wrap (k:Int)=(k:Int):=by rw[IntKind.wrap_i64];omega
    have w1:(k:Int).toNat=k:=by omega
    have hmk:m<=k:=by omega
    have hkb:k<b:=by omega
    clear hh;have hx:=HgU.out (h-a) (by have:=Hm.out;omega);rw[show a+(h-a)=h by omega]at hx;have hlx:=HlU.out (h-a) (by have:=Hm.out;omega);have hy:=HgV.out (k-m) (by have:=Hb.out;omega);rw[show m+(k-m)=k by omega]at hy;have hly:=HlV.out (k-m) (by have:=Hb.out;omega);obtain⟨t,ht⟩:∃t,t=U[h-a]?.getD dU:=⟨_,rfl⟩;obtain⟨v,hv'⟩:∃v,v=V[k-m]?.getD dU:=⟨_,rfl⟩;have htw:Bm.wt U (h-a)=t.1:=by rw[ht]
    have hvw:Bm.wt V (p-h-m)=v.1:=by rw[hv',hk]
    have aoH:Bm.wt V (k-m)=v.1:=by rw[hv']
    rw[<-ht]at hx;rw[<-hv']at hy;rw[htw]at hlx;rw[aoH]at hly;obtain⟨m0,m1⟩:=nK hrow.out hx;obtain⟨m2,m3⟩:=nK hrow.out hy;have hcm:=BH v.1 t.1 v.2.1.1 v.2.2.length v.2.1.2 t.2.1.1 t.2.2.length t.2.1.2 hly hlx wr;have Hcm:=hid hcm;have Htw:=hid htw;have Hvw:=hid hvw;have hhn:(h:Int)<(n:Int):=by omega
    have hkn:(k:Int)<(n:Int):=by omega
    have Hk:=hid hk;clear hx hlx hy hly ht hv' htw hvw aoH hcm hk;go_wp2_with fail
    by_cases hd0:v.1<t.1
    ·have hd:decide ((v.1:Int)-(t.1:Int)<0)=true:=decide_eq_true (by omega);go_quiet_grown ((go_at_call 185;exact Hcm.out _ _))
     have hb2:Below wr.heap.size wr (grow (wr.drewN nq) osq):=fM wr nq osq;have dL:=hid (hrow.out.below hb2);have Hg2:=hid (hg.out.trans (ak hb2 (some g)));have QX:Hid ((s0<s->Bm.wt U (s-1-a)<=Bm.wt V (p+1-s-m))/\(h<r0->Bm.wt V (p-h-m)<Bm.wt U (h-a))):=hid ⟨hin.out.1,fun _=>by rw[Htw.out,Hvw.out];exact hd0⟩;change Exit.then _ _ _ _ (grow (wr.drewN nq) osq);clear hb2 Hcm m0 m1 m2 m3 hrow hg hin;generalize grow (wr.drewN nq) osq=w2 at *;go_wp2;go_roundw
     case rel=>exact⟨s,h,rfl,by go_num,hss,hih,by omega,QX,dL,Hg2⟩
     case measure=>simp[intOf];omega
    ·have hd:decide ((v.1:Int)-(t.1:Int)<0)=false:=decide_eq_false (by omega);go_quiet_grown ((go_at_call 185;exact Hcm.out _ _))
     have hb2:Below wr.heap.size wr (grow (wr.drewN nq) osq):=fM wr nq osq;have dL:=hid (hrow.out.below hb2);have Hg2:=hid (hg.out.trans (ak hb2 (some g)));have QX:Hid ((s0<h+1->Bm.wt U (h+1-1-a)<=Bm.wt V (p+1-(h+1)-m))/\(r<r0->Bm.wt V (p-r-m)<Bm.wt U (r-a))):=hid ⟨fun _=>by
      rw[show h+1-1-a=h-a by omega,show p+1-(h+1)-m=p-h-m by omega,Htw.out,Hvw.out];omega,hin.out.2⟩
     change Exit.then _ _ _ _ (grow (wr.drewN nq) osq);clear hb2 Hcm m0 m1 m2 m3 hrow hg hin;generalize grow (wr.drewN nq) osq=w2 at *;go_wp2;go_roundw
     case rel=>exact⟨h+1,r,by go_num,rfl,by omega,by omega,hrr,QX,dL,Hg2⟩
     case measure=>simp[intOf];omega
   ·obtain rfl:s=r:=by omega
    obtain⟨e,he⟩:∃e,e+s=md+m:=⟨md+m-s,by omega⟩;have hei:(md:Int)+(m:Int)-(s:Int)=(e:Int):=by omega
    clear hlt;obtain⟨x,hx⟩:∃x,x=s-a:=⟨_,rfl⟩;obtain⟨y,hy⟩:∃y,y=e-m:=⟨_,rfl⟩;have hme:m<=e:=by omega
    have heb:e<=b:=by omega
    have hxu:x<=U.length:=by have:=Hm.out;omega
    have hyv:y<=V.length:=by have:=Hb.out;omega
    have hVU:x<U.length->0<y->Bm.wt V (y-1)<Bm.wt U x:=fun h1 h2=>by
     have h3:=hin.out.2 (by have:=Hm.out;omega);rw[show p-s-m=y-1 by omega,<-hx]at h3;exact h3
    have hUV:0<x->y<V.length->Bm.wt U (x-1)<=Bm.wt V y:=fun h1 h2=>by
     have h3:=hin.out.1 (by have:=Hb.out;omega);rw[show s-1-a=x-1 by omega,show p+1-s-m=y by omega]at h3;exact h3
    have HVU:=hid hVU;have HUV:=hid hUV;have l1:(U.take x).length=x:=by rw[List.length_take];omega
    have l2:(U.drop x).length=m-s:=by rw[List.length_drop];have:=Hm.out;omega
    have l3:(V.take y).length=y:=by rw[List.length_take];omega
    have l4:(V.drop y).length=b-e:=by rw[List.length_drop];have:=Hb.out;omega
    have L1:=hid l1;have L2:=hid l2;have L3:=hid l3;have L4:=hid l4;have bW:dh wr g ((X++U.take x)++(U.drop x++(V.take y++(V.drop y++Y)))) post:=by
     have h1:=hrow.out;rw[<-List.take_append_drop x U,<-List.take_append_drop y V]at h1;simpa only[List.append_assoc]using h1
    have hlen1:((X++U.take x)++(U.drop x++(V.take y++(V.drop y++Y)))).length=n:=by
     rw[Hn.out,<-congrArg List.length (show(X++U.take x)++(U.drop x++(V.take y++(V.drop y++Y)))=X++(U++(V++Y)) by
      conv=>rhs;rw[<-List.take_append_drop x U,<-List.take_append_drop y V]
      simp only[List.append_assoc])]
    have gJ:=hid bW;have Ya:=hid hlen1;have Hx:=hid hx;have Hy:=hid hy;clear hVU hUV l1 l2 l3 l4 bW hlen1 hrow hin hx hy;go_upto_region 39 with fail
    go_cut [185]from 178 to 185 (fun aqC wx=>aqC=.bool (decide (s<m/\m<e))/\wx=wr)
    case first=>
     by_cases h1:s<m
     ·by_cases h2:m<e
      ·go_wp2_with fail
       go_meet
       exact⟨by rw[decide_eq_true (show s<m/\m<e from⟨h1,h2⟩)],rfl⟩
      ·go_wp2_with fail
       go_meet
       exact⟨by rw[decide_eq_false (show ¬(s<m/\m<e)from fun h=>h2 h.2)],rfl⟩
     ·go_wp2_with fail
      go_meet
      exact⟨by rw[decide_eq_false (show ¬(s<m/\m<e)from fun h=>h1 h.1)],rfl⟩
    case rest=>
    obtain⟨rfl,hwr⟩:=hcut;rename World=>wq
    subst hwr;go_upto_if 185 with fail
    go_cut []from 185 to 191 (fun wx=>dh wx g (X++(U.take x++(V.take y++(U.drop x++(V.drop y++Y))))) post/\wc.grownBy wx (some g))
    case first=>
     by_cases hc:s<m/\m<e
     ·rw[decide_eq_true hc];have hro:Calls prog 214 #[.slice (some ⟨g,0,none⟩) n c,.int .i64 (s:Int),.int .i64 (m:Int),.int .i64 (e:Int),.func (.func 185) #[] #[]] wq fun e w'=>e=.returned (.tuple #[])/\Hid (dh w' g (X++(U.take x++(V.take y++(U.drop x++(V.drop y++Y))))) post/\wc.grownBy w' (some g)):=by
       have h:=abW g c (.func (.func 185) #[] #[]) (X++U.take x) (U.drop x) (V.take y) (V.drop y++Y) post wq (by rw[L2.out];omega) (by rw[L3.out];have:=Hy.out;omega) (by rw[Ya.out];omega) gJ.out;rw[Ya.out,L2.out,L3.out,List.length_append,L1.out,<-Ha.out,show a+x=s by have:=Hx.out;omega,show s+(m-s)=m by omega,show m+y=e by have:=Hy.out;omega]at h;exact h.mono fun e w' ⟨h1,h2,h3⟩=>⟨h1,hid ⟨by simpa only[List.append_assoc]using h2,hg.out.trans h3⟩⟩
      have Hro:=hid hro;clear hro;go_wp2_with fail
      refine Hro.out.mono ?_;rintro e w' ⟨rfl,h1⟩;go_wp2_with fail
      go_meet
      exact h1.out
     ·rw[decide_eq_false hc];have hfin:dh wq g (X++(U.take x++(V.take y++(U.drop x++(V.drop y++Y))))) post/\wc.grownBy wq (some g):=by
       refine⟨?_,hg.out⟩;have h1:=gJ.out;by_cases h2:s<m
       ·have h3:V.take y=[]:=List.eq_nil_of_length_eq_zero (by rw[L3.out];have:=Hy.out;omega);rw[h3]at h1 ⊢;simpa using h1
       ·have h3:U.drop x=[]:=List.eq_nil_of_length_eq_zero (by rw[L2.out];omega);rw[h3]at h1 ⊢;simpa using h1
      have Hf:=hid hfin;clear hfin;go_wp2_with fail
      go_meet
      exact Hf.out
    case rest=>
    have XZ:=hid hcut;clear hcut hg gJ;rename World=>wq
    go_upto_region 41 with fail
    go_cut [199]from 192 to 199 (fun aqD wx=>aqD=.bool (decide (a<s/\s<md))/\wx=wq)
    case first=>
     by_cases h1:a<s
     ·by_cases h2:s<md
      ·go_wp2_with fail
       go_meet
       exact⟨by rw[decide_eq_true (show a<s/\s<md from⟨h1,h2⟩)],rfl⟩
      ·go_wp2_with fail
       go_meet
       exact⟨by rw[decide_eq_false (show ¬(a<s/\s<md)from fun h=>h2 h.2)],rfl⟩
     ·go_wp2_with fail
      go_meet
      exact⟨by rw[decide_eq_false (show ¬(a<s/\s<md)from fun h=>h1 h.1)],rfl⟩
    case rest=>
    obtain⟨rfl,hwr⟩:=hcut;rename World=>wp
    subst hwr;go_upto_if 199 with fail
    go_cut []from 199 to 205 (fun wx=>∃W1,dh wx g (X++(W1++(U.drop x++(V.drop y++Y)))) post/\Srt W1/\Stb (U.take x++V.take y) W1/\wc.grownBy wx (some g))
    case first=>
     by_cases hc:a<s/\s<md
     ·rw[decide_eq_true hc];have hro:Calls prog 209 #[.slice (some ⟨g,0,none⟩) n c,.int .i64 (a:Int),.int .i64 (s:Int),.int .i64 (md:Int),.func (.func 185) #[] #[]] wp fun e w'=>e=.returned (.tuple #[])/\Hid (∃W1,dh w' g (X++(W1++(U.drop x++(V.drop y++Y)))) post/\Srt W1/\Stb (U.take x++V.take y) W1/\wc.grownBy w' (some g)):=by
       have hlen:n=(X++(U.take x++(V.take y++(U.drop x++(V.drop y++Y))))).length:=by
        rw[<-Ya.out];simp only[List.length_append];omega
       have h:=IHh.out X (U.take x) (V.take y) (U.drop x++(V.drop y++Y)) wp (by rw[L1.out,L3.out];have:=Hy.out;have:=Hx.out;have:=Hm.out;have:=Hb.out;omega) (by rw[L1.out];have:=Hx.out;omega) (by rw[L3.out];have:=Hy.out;omega) (rD HU.out x) (rD HV.out y)
        (fun t ht=>Hw.out t (by
         rcases List.mem_append.1 ht with ht | ht
         ·exact List.mem_append_left _ (List.mem_of_mem_take ht)
         ·exact List.mem_append_right _ (List.mem_of_mem_take ht))) hlen XZ.out.1
       unfold XP at h;rw[L1.out,L3.out,<-Ha.out,show a+x=s by have:=Hx.out;omega,show s+y=md by have:=Hy.out;omega]at h;exact h.mono fun e w' ⟨h1,R,h2,h3,h4,h5⟩=>⟨h1,hid ⟨R,h2,h3,h4,XZ.out.2.trans h5⟩⟩
      have Hro:=hid hro;clear hro;go_wp2_with fail
      refine Hro.out.mono ?_;rintro e w' ⟨rfl,h1⟩;go_wp2_with fail
      go_meet
      exact h1.out
     ·rw[decide_eq_false hc];have hfin:∃W1,dh wp g (X++(W1++(U.drop x++(V.drop y++Y)))) post/\Srt W1/\Stb (U.take x++V.take y) W1/\wc.grownBy wp (some g):=by
       refine⟨U.take x++V.take y,by simpa only[List.append_assoc]using XZ.out.1,?_,Stb.refl _,XZ.out.2⟩;by_cases h2:a<s
       ·have h3:V.take y=[]:=List.eq_nil_of_length_eq_zero (by rw[L3.out];have:=Hy.out;omega);rw[h3,List.append_nil];exact rD HU.out x
       ·have h3:U.take x=[]:=List.eq_nil_of_length_eq_zero (by rw[L1.out];have:=Hx.out;omega);rw[h3,List.nil_append];exact rD HV.out y
      have Hf:=hid hfin;clear hfin;go_wp2_with fail
      go_meet
      exact Hf.out
    case rest=>
    have Hc2:=hid hcut;clear hcut XZ;rename World=>wo
    go_upto_region 43 with fail
    go_cut [213]from 206 to 213 (fun aqE wx=>aqE=.bool (decide (md<e/\e<b))/\wx=wo)
    case first=>
     by_cases h1:md<e
     ·by_cases h2:e<b
      ·go_wp2_with fail
       go_meet
       exact⟨by rw[decide_eq_true (show md<e/\e<b from⟨h1,h2⟩)],rfl⟩
      ·go_wp2_with fail
       go_meet
       exact⟨by rw[decide_eq_false (show ¬(md<e/\e<b)from fun h=>h2 h.2)],rfl⟩
     ·go_wp2_with fail
      go_meet
      exact⟨by rw[decide_eq_false (show ¬(md<e/\e<b)from fun h=>h1 h.1)],rfl⟩
    case rest=>
    obtain⟨rfl,hwr⟩:=hcut;rename World=>wl
    subst hwr;obtain⟨W1,k1,k2,k3,k4⟩:=Hc2.out;have lW1:W1.length=x+y:=by
     have h1:=k3.1.length_eq;rw[List.length_append,L1.out,L3.out]at h1;omega
    have K2:=hid k2;have K3:=hid k3;by_cases hc:md<e/\e<b
    ·rw[decide_eq_true hc];have hro:Calls prog 209 #[.slice (some ⟨g,0,none⟩) n c,.int .i64 (md:Int),.int .i64 (e:Int),.int .i64 (b:Int),.func (.func 185) #[] #[]] wl fun e w'=>e=.returned (.tuple #[])/\Hid (∃W2,dh w' g (X++(W1++(W2++Y))) post/\Srt W2/\Stb (U.drop x++V.drop y) W2/\wc.grownBy w' (some g)):=by
      have hlen:n=((X++W1)++(U.drop x++(V.drop y++Y))).length:=by
       rw[<-Ya.out];simp only[List.length_append,lW1,L1.out,L3.out];omega
      have h:=IHh.out (X++W1) (U.drop x) (V.drop y) Y wl (by rw[L2.out,L4.out];have:=Hy.out;have:=Hx.out;have:=Hm.out;have:=Hb.out;have:=Hmd.out;omega) (by rw[L2.out];omega) (by rw[L4.out];omega) (rC HU.out x) (rC HV.out y)
       (fun t ht=>Hw.out t (by
        rcases List.mem_append.1 ht with ht | ht
        ·exact List.mem_append_left _ (List.mem_of_mem_drop ht)
        ·exact List.mem_append_right _ (List.mem_of_mem_drop ht))) hlen (by simpa only[List.append_assoc]using k1)
      unfold XP at h;rw[L2.out,L4.out,List.length_append,lW1,<-Ha.out,show a+(x+y)=md by have:=Hy.out;have:=Hx.out;omega,show md+(m-s)=e by omega,show e+(b-e)=b by omega]at h;exact h.mono fun e w' ⟨h1,R,h2,h3,h4,h5⟩=>⟨h1,hid ⟨R,by simpa only[List.append_assoc]using h2,h3,h4,k4.trans h5⟩⟩
     have Hro:=hid hro;clear hro k1 k2 k3 k4 lW1;go_wp2_with fail
     refine Hro.out.mono ?_;rintro e w' ⟨rfl,h1⟩;go_wp2;go_end0
     refine⟨rfl,?_⟩;obtain⟨W2,j1,j2,j3,j4⟩:=h1.out;obtain⟨z1,z2⟩:=ER HU.out HV.out x y hxu hyv HVU.out HUV.out K2.out j2 K3.out j3;exact⟨W1++W2,by simpa only[List.append_assoc]using j1,z1,z2,j4⟩
    ·rw[decide_eq_false hc];have aor:Srt (U.drop x++V.drop y):=by
      by_cases h2:md<e
      ·have h3:V.drop y=[]:=List.eq_nil_of_length_eq_zero (by rw[L4.out];omega);rw[h3,List.append_nil];exact rC HU.out x
      ·have h3:U.drop x=[]:=List.eq_nil_of_length_eq_zero (by rw[L2.out];omega);rw[h3,List.nil_append];exact rC HV.out y
     obtain⟨z1,z2⟩:=ER HU.out HV.out x y hxu hyv HVU.out HUV.out k2 aor k3 (Stb.refl _);have hfin:∃R,dh wl g (X++(R++Y)) post/\Srt R/\Stb (U++V) R/\wc.grownBy wl (some g):=⟨_,by simpa only[List.append_assoc]using k1,z1,z2,k4⟩;have Hf:=hid hfin;clear hfin aor z1 z2 k1 k2 k3 k4 lW1;go_wp2;go_end0
     exact⟨rfl,Hf.out⟩
theorem MS(g c n:Nat)(post:List Value)(hl:n<=100000):∀(N:Nat) (X U V Y:List Pcl) (W:World),U.length+V.length<=N->0<U.length->0<V.length->Srt U->Srt V->Light (U++V)->n=(X++(U++(V++Y))).length->dh W g (X++(U++(V++Y))) post->XP g c n X U V Y post W:=by
 intro N;induction N with
 | zero=>intro X U V Y W h h1;omega
 | succ N ih=>
  intro X U V Y W hN hU0 hV0 hU hV hw hn hr;by_cases h1:U.length=1
  ·obtain⟨z,rfl⟩:=List.length_eq_one_iff.1 h1;have h:=abZ g c X V Y z post W (by rw[hn]at hl;simpa using hl) hV hV0 (fun t ht=>hw t (by simpa using ht)) (by simpa using hr);unfold XP;rw[hn];simpa using h
  ·by_cases h2:V.length=1
   ·obtain⟨z,rfl⟩:=List.length_eq_one_iff.1 h2;have h:=abX g c X U Y z post W (by rw[hn]at hl;simpa using hl) hU (by omega) (fun t ht=>hw t (by
     rcases List.mem_cons.1 ht with rfl | ht
     ·simp
     ·simp[ht])) (by simpa using hr)
    unfold XP;rw[hn];simpa using h
   ·exact abY g c n X U V Y post W hn hl hU hV (by omega) (by omega) hw hr (fun X' U' V' Y' W' h h3 h4 h5 h6 h7 h8 h9=>ih X' U' V' Y' W' (by omega) h3 h4 h5 h6 h7 h8 h9)
namespace Bm
def XV(k:Nat)(Bs:List (List Pcl)):Prop:=∀B∈Bs,B.length=k/\Srt B
def Runs(k:Nat)(L:List Pcl):Prop:=∃(Bs:List (List Pcl)) (C:List Pcl),L=Bs.flatten++C/\XV k Bs/\C.length<=k/\Srt C
theorem Br{k:Nat}{Bs:List (List Pcl)}(h:XV k Bs):Bs.flatten.length=Bs.length*k:=by
 induction Bs with
 | nil=>simp
 | cons B Bs ih=>
  rw[List.flatten_cons,List.length_append,(h B (by simp)).1,ih (fun C hC=>h C (by simp[hC])),List.length_cons,Nat.succ_mul];omega
theorem DT{k:Nat}{Bs:List (List Pcl)}(h:XV k Bs){C:List Pcl}(hl:C.length=k)(hs:Srt C):XV k (Bs++[C])/\(Bs++[C]).flatten=Bs.flatten++C:=by
 refine⟨fun B hB=>?_,by simp⟩;rcases List.mem_append.1 hB with hB | hB
 ·exact h B hB
 ·simp only[List.mem_singleton]at hB;subst hB;exact⟨hl,hs⟩
theorem agu:Srt []:=by simp[Srt]
theorem abh{k:Nat}{R:List Pcl}(hk:0<k)(h:Runs k R)(hl:2*k<=R.length):∃U V R',R=U++(V++R')/\U.length=k/\V.length=k/\Srt U/\Srt V/\Runs k R':=by
 obtain⟨Bs,C,rfl,hB,hC,hs⟩:=h;have hlen:=Br hB;rw[List.length_append]at hl;match Bs,hB,hlen,hl with
 | [],_,_,hl=>simp at hl;omega
 | [B],hB,_,hl=>
  have h1:=hB B (by simp);simp only[List.flatten_cons,List.flatten_nil,List.append_nil]at hl ⊢;exact⟨B,C,[],by simp,h1.1,by omega,h1.2,hs,[],[],by simp,fun B hB=>by simp at hB,by simp,agu⟩
 | B :: D :: Bs,hB,_,_=>
  have h1:=hB B (by simp);have h2:=hB D (by simp);exact⟨B,D,Bs.flatten++C,by simp,h1.1,h2.1,h1.2,h2.2,Bs,C,rfl,fun E hE=>hB E (by simp[hE]),hC,hs⟩
theorem VY{k:Nat}{R:List Pcl}(h:Runs k R)(hl:k<R.length)(hl2:R.length<2*k):∃U V,R=U++V/\U.length=k/\0<V.length/\Srt U/\Srt V:=by
 obtain⟨Bs,C,rfl,hB,hC,hs⟩:=h;have hlen:=Br hB;rw[List.length_append]at hl hl2;match Bs,hB,hlen,hl,hl2 with
 | [],_,_,hl,_=>simp at hl;omega
 | [B],hB,hlen,hl,_=>
  have h1:=hB B (by simp);simp only[List.length_singleton,Nat.one_mul]at hlen;exact⟨B,C,by simp,h1.1,by omega,h1.2,hs⟩
 | B :: D :: Bs,_,hlen,_,hl2=>
  rw[List.length_cons,List.length_cons,Nat.succ_mul,Nat.succ_mul]at hlen;omega
theorem Ms{k:Nat}{R:List Pcl}(h:Runs k R)(hl:R.length<=k):Srt R:=by
 obtain⟨Bs,C,rfl,hB,hC,hs⟩:=h;have hlen:=Br hB;rw[List.length_append]at hl;match Bs,hB,hlen,hl with
 | [],_,_,_=>simpa using hs
 | [B],hB,hlen,hl=>
  simp only[List.length_singleton,Nat.one_mul]at hlen;obtain rfl:C=[]:=List.eq_nil_of_length_eq_zero (by omega);simpa using (hB B (by simp)).2
 | B :: D :: Bs,_,hlen,hl=>
  rw[List.length_cons,List.length_cons,Nat.succ_mul,Nat.succ_mul]at hlen;obtain rfl:C=[]:=List.eq_nil_of_length_eq_zero (by omega);have h0:(B :: D :: Bs).flatten=[]:=List.eq_nil_of_length_eq_zero (by omega);rw[h0];simp[Srt]
theorem Stb.light{A B:List Pcl}(h:Stb A B)(hA:Light A):Light B:=fun t ht=>hA t (h.1.mem_iff.2 ht)
end Bm
theorem Ku(g c:Nat)(T:List Pcl)(post:List Value)(w:World)(hl:T.length<=100000)(hw:Light T)(hr:dh w g T post) :
  Calls prog 198 #[.slice (some ⟨g,0,none⟩) T.length c,.int .i64 (T.length:Int),.func (.func 185) #[] #[]] w fun e w'=>e=.returned (.tuple #[])/\∃T',dh w' g T' post/\Srt T'/\Stb T T'/\w.grownBy w' (some g):=by
 obtain⟨n,hn⟩:∃n,n=T.length:=⟨_,rfl⟩;rw[<-hn]at hl ⊢;have Hn:=hid hn;have Hr:=hid hr;have Hw:=hid hw;clear hn hr hw;go_enter func198,ntmps198
 go_wp2;go_loopw [7,8] (fun av bv wr=>∃(a:Nat),av=.int .i64 (a:Int)/\bv=.int .i64 ((a:Int)+20)/\a<=n/\Hid (∃(Ds:List (List Pcl)) (R:List Pcl),a=Ds.flatten.length/\XV 20 Ds/\Stb T (Ds.flatten++R)/\dh wr g (Ds.flatten++R) post)/\Hid (w.grownBy wr (some g))) (fun av _ _=>n+20-(intOf av).toNat)
 case atStart=>exact⟨0,rfl,by simp,by omega,hid ⟨[],T,rfl,fun B hB=>by simp at hB,by simpa using Stb.refl T,by simpa using Hr.out⟩,hid (aj _ _)⟩
 case round=>
  obtain⟨a,rfl,rfl,ha,hst,hg⟩:=hrel;clear Hr;by_cases hab:a+20<=n
  ·have hin:Calls prog 208 #[.slice (some ⟨g,0,none⟩) n c,.int .i64 (a:Int),.int .i64 ((a:Int)+20),.func (.func 185) #[] #[]] wr fun e w'=>e=.returned (.tuple #[])/\Hid (∃(Ds:List (List Pcl)) (R:List Pcl),a+20=Ds.flatten.length/\XV 20 Ds/\Stb T (Ds.flatten++R)/\dh w' g (Ds.flatten++R) post)/\Hid (w.grownBy w' (some g)):=by
    obtain⟨Ds,R,h1,h2,h3,h4⟩:=hst.out;have h5:=h3.1.length_eq;rw[List.length_append,<-Hn.out]at h5;have e1:R=R.take 20++R.drop 20:=(List.take_append_drop 20 R).symm;have l1:(R.take 20).length=20:=by rw[List.length_take];omega
    rw[e1]at h4 h3;have h:=yL g c Ds.flatten (R.take 20) (R.drop 20) post wr (by rw[<-e1,List.length_append];omega) (fun t ht=>Stb.light h3 Hw.out t (List.mem_append_right _ (List.mem_append_left _ ht))) h4;rw[<-e1,List.length_append,<-h5,l1,<-h1,show((a+20:Nat):Int)=(a:Int)+20 by omega]at h;refine h.mono ?_;rintro e w' ⟨k1,Z',k2,k3,k4,k5⟩;have lZ:Z'.length=20:=by rw[<-k4.1.length_eq,l1]
    obtain⟨b1,b2⟩:=DT h2 lZ k3;exact⟨k1,hid ⟨Ds++[Z'],R.drop 20,by rw[b2,List.length_append,lZ,<-h1],b1,by rw[b2,List.append_assoc];exact h3.trans ((Stb.refl _).append (k4.append (Stb.refl _))),by rw[b2,List.append_assoc];exact k2⟩,hid (hg.out.trans k5)⟩
   have Hin:=hid hin;clear hin hst hg;go_wp2_with fail
   refine Hin.out.mono ?_;rintro e w2 ⟨rfl,yX,hg2⟩;clear Hin;go_wp2;go_roundw
   case rel=>exact⟨a+20,by go_num,by go_num,by omega,yX,hg2⟩
   case measure=>simp[intOf];omega
  ·have hin:Calls prog 208 #[.slice (some ⟨g,0,none⟩) n c,.int .i64 (a:Int),.int .i64 (n:Int),.func (.func 185) #[] #[]] wr fun e w'=>e=.returned (.tuple #[])/\Hid (∃L,L.length=n/\Bm.Runs 20 L/\Stb T L/\dh w' g L post)/\Hid (w.grownBy w' (some g)):=by
    obtain⟨Ds,R,h1,h2,h3,h4⟩:=hst.out;have h5:=h3.1.length_eq;rw[List.length_append,<-Hn.out]at h5;have h:=yL g c Ds.flatten R [] post wr (by rw[List.append_nil,List.length_append];omega) (fun t ht=>Stb.light h3 Hw.out t (by simp[ht])) (by simpa using h4);rw[List.append_nil,List.length_append,<-h5,<-h1]at h;refine h.mono ?_;rintro e w' ⟨k1,Z',k2,k3,k4,k5⟩;have lZ:Z'.length=R.length:=k4.1.length_eq.symm;exact⟨k1,hid ⟨Ds.flatten++Z',by rw[List.length_append];omega,⟨Ds,Z',rfl,h2,by omega,k3⟩,h3.trans ((Stb.refl _).append k4),by simpa using k2⟩,hid (hg.out.trans k5)⟩
   have Hin:=hid hin;clear hin hst hg;go_wp2_with fail
   refine Hin.out.mono ?_;rintro e w2 ⟨rfl,yX,hg2⟩;clear Hin;go_wp2;rename World=>wx
   go_loopw [6] (fun kv wr=>∃(k:Nat),kv=.int .i64 (k:Int)/\20<=k/\k<=200020/\Hid (∃L,L.length=n/\Bm.Runs k L/\Stb T L/\dh wr g L post)/\Hid (w.grownBy wr (some g))) (fun kv _=>n-(intOf kv).toNat)
   case atStart=>exact⟨20,rfl,by omega,by omega,yX,hg2⟩
   case round=>
    obtain⟨k,rfl,hk0,hk1,hst,hg⟩:=hrel;clear yX hg2;by_cases hkn:k<n
    ·have aow:Hid (∃(Ds:List (List Pcl)) (R:List Pcl),0=Ds.flatten.length/\XV (2*k) Ds/\Bm.Runs k R/\Stb T (Ds.flatten++R)/\dh wr g (Ds.flatten++R) post):=hid (by
      obtain⟨L,h1,h2,h3,h4⟩:=hst.out;exact⟨[],L,rfl,fun B hB=>by simp at hB,h2,by simpa using h3,by simpa using h4⟩)
     clear hst;go_wp2;rename World=>wy
     go_loopw [7,8] (fun av bv wr=>∃(a:Nat),av=.int .i64 (a:Int)/\bv=.int .i64 ((a:Int)+2*(k:Int))/\a<=n/\Hid (∃(Ds:List (List Pcl)) (R:List Pcl),a=Ds.flatten.length/\XV (2*k) Ds/\Bm.Runs k R/\Stb T (Ds.flatten++R)/\dh wr g (Ds.flatten++R) post)/\Hid (w.grownBy wr (some g))) (fun av _ _=>n+20-(intOf av).toNat)
     case atStart=>exact⟨0,rfl,by go_num,by omega,aow,hg⟩
     case round=>
      obtain⟨a,rfl,rfl,ha,hst,hg⟩:=hrel;clear aow;by_cases aqP:a+2*k<=n
      ·have hin:Calls prog 209 #[.slice (some ⟨g,0,none⟩) n c,.int .i64 (a:Int),.int .i64 ((a:Int)+(k:Int)),.int .i64 ((a:Int)+2*(k:Int)),.func (.func 185) #[] #[]] wr fun e w'=>e=.returned (.tuple #[])/\Hid (∃(Ds:List (List Pcl)) (R:List Pcl),a+2*k=Ds.flatten.length/\XV (2*k) Ds/\Bm.Runs k R/\Stb T (Ds.flatten++R)/\dh w' g (Ds.flatten++R) post)/\Hid (w.grownBy w' (some g)):=by
        obtain⟨Ds,R,h1,h2,h2',h3,h4⟩:=hst.out;have h5:=h3.1.length_eq;rw[List.length_append,<-Hn.out]at h5;obtain⟨U,V,R',rfl,l1,l2,s1,s2,r'⟩:=abh (by omega) h2' (by omega);have h:=MS g c n post hl (U.length+V.length) Ds.flatten U V R' wr (Nat.le_refl _) (by omega) (by omega) s1 s2 (fun t ht=>Stb.light h3 Hw.out t (by rcases List.mem_append.1 ht with ht | ht<;>simp[ht])) (by rw[List.length_append];omega) h4;unfold XP at h;rw[l1,l2,<-h1,show((a+k:Nat):Int)=(a:Int)+(k:Int) by omega,show((a+k+k:Nat):Int)=(a:Int)+2*(k:Int) by omega]at h;refine h.mono ?_;rintro e w' ⟨k1,W,k2,k3,k4,k5⟩;have lW:W.length=2*k:=by rw[<-k4.1.length_eq,List.length_append];omega
        obtain⟨b1,b2⟩:=DT h2 lW k3;exact⟨k1,hid ⟨Ds++[W],R',by rw[b2,List.length_append,lW,<-h1],b1,r',by
         rw[b2,List.append_assoc];refine h3.trans ((Stb.refl _).append ?_);rw[<-List.append_assoc];exact k4.append (Stb.refl _),by rw[b2,List.append_assoc];exact k2⟩,hid (hg.out.trans k5)⟩
       have Hin:=hid hin;clear hin hst hg;go_wp2_with fail
       refine Hin.out.mono ?_;rintro e w2 ⟨rfl,yX,hg2⟩;clear Hin;go_wp2;go_roundw
       case rel=>exact⟨a+2*k,by go_num,by go_num,by omega,yX,hg2⟩
       case measure=>simp[intOf];omega
      ·by_cases ham:a+k<n
       ·have hin:Calls prog 209 #[.slice (some ⟨g,0,none⟩) n c,.int .i64 (a:Int),.int .i64 ((a:Int)+(k:Int)),.int .i64 (n:Int),.func (.func 185) #[] #[]] wr fun e w'=>e=.returned (.tuple #[])/\Hid (∃L,L.length=n/\Bm.Runs (2*k) L/\Stb T L/\dh w' g L post)/\Hid (w.grownBy w' (some g)):=by
         obtain⟨Ds,R,h1,h2,h2',h3,h4⟩:=hst.out;have h5:=h3.1.length_eq;rw[List.length_append,<-Hn.out]at h5;obtain⟨U,V,rfl,l1,l2,s1,s2⟩:=VY h2' (by omega) (by omega);rw[List.length_append]at h5;have h:=MS g c n post hl (U.length+V.length) Ds.flatten U V [] wr (Nat.le_refl _) (by omega) (by omega) s1 s2 (fun t ht=>Stb.light h3 Hw.out t (by rcases List.mem_append.1 ht with ht | ht<;>simp[ht])) (by simp only[List.append_nil,List.length_append];omega) (by simpa using h4);unfold XP at h;rw[l1,<-h1,show((a+k:Nat):Int)=(a:Int)+(k:Int) by omega,show a+k+V.length=n by omega]at h;refine h.mono ?_;rintro e w' ⟨k1,W,k2,k3,k4,k5⟩;have lW:W.length=k+V.length:=by rw[<-k4.1.length_eq,List.length_append];omega
         exact⟨k1,hid ⟨Ds.flatten++W,by rw[List.length_append];omega,⟨Ds,W,rfl,h2,by omega,k3⟩,h3.trans ((Stb.refl _).append k4),by simpa using k2⟩,hid (hg.out.trans k5)⟩
        have Hin:=hid hin;clear hin hst hg;go_wp2_with fail
        refine Hin.out.mono ?_;rintro e w2 ⟨rfl,yX,hg2⟩;clear Hin;go_wp2;go_roundw
        case rel=>exact⟨2*k,by go_num,by omega,by omega,yX,hg2⟩
        case measure=>simp[intOf];omega
       ·have yX:Hid (∃L,L.length=n/\Bm.Runs (2*k) L/\Stb T L/\dh wr g L post):=hid (by
         obtain⟨Ds,R,h1,h2,h2',h3,h4⟩:=hst.out;have h5:=h3.1.length_eq;rw[List.length_append,<-Hn.out]at h5;exact⟨Ds.flatten++R,by rw[List.length_append];omega,⟨Ds,R,rfl,h2,by omega,Ms h2' (by omega)⟩,h3,h4⟩)
        clear hst;go_wp2;go_roundw
        case rel=>exact⟨2*k,by go_num,by omega,by omega,yX,hg⟩
        case measure=>simp[intOf];omega
    ·have hfin:∃T',dh wr g T' post/\Srt T'/\Stb T T'/\w.grownBy wr (some g):=by
      obtain⟨L,h1,h2,h3,h4⟩:=hst.out;exact⟨L,h4,Ms h2 (by omega),h3,hg.out⟩
     have Hf:=hid hfin;clear hfin hst hg;go_wp2;go_end0
     exact⟨rfl,Hf.out⟩
theorem Kt(g c:Nat)(T:List Pcl)(post:List Value)(w:World)(hl:T.length<=100000)(hw:Light T)(hr:dh w g T post) :
  Calls prog 184 #[.slice (some ⟨g,0,none⟩) T.length c,.func (.func 185) #[] #[]] w fun e w'=>e=.returned (.tuple #[])/\Hid (∃T',dh w' g T' post/\Srt T'/\Stb T T'/\w.grownBy w' (some g)):=by
 have Hs:=hid (Ku g c T post w hl hw hr);clear hw hr;go_enter func184,ntmps184
 go_wp2_with fail
 refine Hs.out.mono ?_;rintro e w1 ⟨rfl,hfin⟩;have Hf:=hid hfin;clear hfin;go_wp2;go_end0
 exact⟨rfl,Hf⟩
theorem uX(g c:Nat)(T:List Pcl)(post:List Value)(w:World)(hl:T.length<=100000)(hw:Light T)(hr:dh w g T post) :
  Calls prog 155 #[.slice (some ⟨g,0,none⟩) T.length c] w fun e w'=>e=.returned (.slice (some ⟨g,0,none⟩) T.length c)/\∃T',dh w' g T' post/\Srt T'/\Stb T T'/\w.grownBy w' (some g):=by
 have Hs:=hid (Kt g c T post w hl hw hr);clear hw hr;go_enter func155,ntmps155
 go_wp2_with fail
 refine Hs.out.mono ?_;rintro e w1 ⟨rfl,hf⟩;go_wp2;go_ret;exact⟨rfl,hf.out⟩
theorem wpList_append_run{ops:Array Oper}{rest:List Oper}{o:Oper}{a:Act}(w:World){Q:Exit->Act->World->Prop}(hgd:o.guard=none)(s x:Operand)(t tx:TypeId)
  (ho:o.op=.call {callee:=.builtin .append,args:=#[s,x],argTypes:=#[t,tx]}) (vs vx v':Value) (w':World) (hs:a.eval s=vs) (hx:a.eval x=vx) (hr:∀ty,(Builtin.append_ #[t,tx] ty #[vs,vx]).run prog w=.ok v' w')
  (h:wpList prog ops Q rest (a.put o.dst v') w'):wpList prog ops Q (o :: rest) a w:=
 wpList_plain hgd fun _ hK=>by
  unfold Oper.wp execOp;simp only[ho,resolve,invoke,builtin,Sem.run_bind,Sem.run_pure,Result.andThen_ok,List.map_toArray,List.map_cons,List.map_nil,hs,hx,hr];exact hK _ _ h
theorem vM:(prog.info? 223).map (fun i=>(i.zero,i.size,i.bytes))=some (some (.agg #[.int .i64 0,.slice none 0 0]),2,32):=by kernel_rfl
theorem xK(l:List Pcl):(p2 l).length=l.length*2:=fJ l
theorem xJ(l m:List Pcl):p2 (l++m)=p2 l++p2 m:=sI l m
theorem adk(l:List Pcl):∀u∈p2 l,u.oneCell'=true:=by
 induction l with
 | nil=>intro u hu;simp[p2,cc2]at hu
 | cons x l ih=>
  intro u hu;unfold p2 at hu ih;rw[cc2]at hu;rcases List.mem_cons.1 hu with rfl | hu
  ·rfl
  ·rcases List.mem_cons.1 hu with rfl | hu
   ·rfl
   ·exact ih u hu
theorem Lg(l:List Nat):∀u∈aM l,u.oneCell'=true:=by
 intro u hu;simp only[aM,List.mem_map]at hu;obtain⟨_,_,rfl⟩:=hu;rfl
theorem EF(l:List Nat):(aM l).length=l.length*1:=by rw[aN,Nat.mul_one]
theorem ZE(l m:List Nat):aM (l++m)=aM l++aM m:=(pI l m).symm
theorem Qj(n:Nat)(w:World)(h0:0<n)(hn:n<=100000) :
  Calls prog 200 #[.slice none 0 0,.int .i64 (n:Int)] w fun e w'=>∃G,e=.returned (.slice (some ⟨w.heap.size,0,none⟩) 0 G)/\w'.ownsRow w.heap.size 3 1 (.slice (some ⟨w.heap.size,0,none⟩) 0 G) 0 []/\w.grownBy w' none:=by
 obtain⟨i0,hi,hz0,hz1,hz2⟩:=info_parts gQ;obtain⟨G,hG⟩:∃G,G=grownCap w n 0 3:=⟨_,rfl⟩;have hGn:n<=G:=by rw[hG];exact grownCap_ge w n 0 3
 have hGm:G<=maxLen:=by rw[hG];exact grownCap_le_maxLen w n 0 3 (by unfold maxLen;omega)
 have hz:∀k,(Builtin.zeroCells (.int .i64 0:Value).cells k).size=k*1:=fun k=>by simp[Builtin.zeroCells,Value.cells]
 have hrz:∀ty,(Builtin.append_ #[115,3] ty #[.slice none 0 0,.int .i64 (n:Int)]).run prog w=.ok (.slice (some ⟨w.heap.size,0,none⟩) n G) (w.drew.alloc (.cells (#[]++Builtin.zeroCells (.int .i64 0:Value).cells n++Builtin.zeroCells (.int .i64 0:Value).cells (G-n)) 3)):=fun ty=>by
  have h:=Lib.run_append_grow_zeros (P:=prog) w 115 3 ty 3 i0 (.int .i64 0) .i64 .i64 underlying115 underlying3 hi hz0 none 0 0 [] (run_firstCells_none w.drew i0.size 0 0 0) n h0 (by rw[hz1];omega) (by omega) (by omega) (by rw[hz2];omega)
   (by rw[Nat.zero_add];exact growslice_fits (by omega) (by rw[hz2];omega))
  simp only[Nat.zero_add]at h;rw[<-hG]at h;exact h
 have hfin:(w.drew.alloc (.cells (#[]++Builtin.zeroCells (.int .i64 0:Value).cells n++Builtin.zeroCells (.int .i64 0:Value).cells (G-n)) 3)).ownsRow w.heap.size 3 1 (.slice (some ⟨w.heap.size,0,none⟩) 0 G) 0 []/\w.grownBy (w.drew.alloc (.cells (#[]++Builtin.zeroCells (.int .i64 0:Value).cells n++Builtin.zeroCells (.int .i64 0:Value).cells (G-n)) 3)) none:=
  ⟨⟨by simp,.inr ⟨w.heap.size,G,_,rfl,Nat.le_refl _,heap_alloc_new w.drew _,by omega,hGm,by simp only[Array.size_append,hz,Array.size_empty];omega,by simp⟩⟩,⟨rfl,rfl,rfl,by simp,fun _ hk _=>Go.heap_alloc_old w.drew _ hk⟩⟩
 have iy:=hid hfin;have hG63:G<=9223372036854775807:=by unfold maxLen at hGm;omega
 clear hfin hG hz;generalize w.drew.alloc (.cells (#[]++Builtin.zeroCells (.int .i64 0:Value).cells n++Builtin.zeroCells (.int .i64 0:Value).cells (G-n)) 3)=w2 at *;have Hrz:=hid hrz;clear hrz hi hz0 hz1 hz2;go_enter func200,ntmps200
 go_wp2_with (at_builtin;refine wpList_append_run _ rfl _ _ 115 3 rfl (.slice none 0 0) (.int .i64 (n:Int)) (.slice (some ⟨w.heap.size,0,none⟩) n G) w2 rfl rfl Hrz.out ?_)
 go_wp2;go_ret;exact⟨G,rfl,iy.out.1,iy.out.2⟩
theorem Xk(B g1 n1 c1 g2 n2 c2:Nat)(l1 l2:List Nat)(w:World)(h1:0<n1)(hl1:l1.length=n1)(hl2:l2.length=n2)(hn1:n1<=10000)(hn2:n2<=10000)
  (hB:Row w B 115 [.slice (some ⟨g1,0,none⟩) n1 c1,.slice (some ⟨g2,0,none⟩) n2 c2])
  (hr1:∀W,Below w.heap.size w W->∀j u,(aM l1)[j]?=some u->W.cell? ((⟨g1,0,none⟩:Addr).add j)=some u) (hr2:∀W,Below w.heap.size w W->∀j u,(aM l2)[j]?=some u->W.cell? ((⟨g2,0,none⟩:Addr).add j)=some u) :
  Calls prog 188 #[.slice (some ⟨B,0,none⟩) 2 2] w fun e w'=>∃v,e=.returned v/\w'.ownsRow w.heap.size 3 1 v (n1+n2) (aM (l1++l2))/\Below w.heap.size w w':=by
 obtain⟨i0,hi,hz0,hz1,hz2⟩:=info_parts gQ;have k0:=hB.cell 0;have k1:=hB.cell 1;simp only[List.getElem?_cons_zero,List.getElem?_cons_succ]at k0 k1;have HB:=hid hB;have Hr1:=hid hr1;have Hr2:=hid hr2;have Gp:=hid (Qj (n1+n2) w (by omega) (by omega));have L1:Hid (l1.length=n1):=hid hl1;have L2:Hid (l2.length=n2):=hid hl2;clear hB hr1 hr2 hl1 hl2;rw[Int.natCast_add]at Gp;go_enter func188,ntmps188
 go_wp2;go_loopw [3,11] (fun sv iv wr=>wr=w/\((sv=.int .i64 0/\iv=.int .i64 0)\/(sv=.int .i64 (n1:Int)/\iv=.int .i64 1)\/(sv=.int .i64 ((n1:Int)+(n2:Int))/\iv=.int .i64 2))) (fun _ iv _=>2-(intOf iv).toNat)
 case atStart=>exact⟨rfl,.inl ⟨rfl,rfl⟩⟩
 case round=>
  obtain⟨rfl,⟨rfl,rfl⟩ | ⟨rfl,rfl⟩ | ⟨rfl,rfl⟩⟩:=hrel
  ·go_wp2;go_roundw
   case rel=>exact⟨by trivial,.inr (.inl ⟨by go_num,by go_num⟩)⟩
   case measure=>simp[intOf]
  ·go_wp2;go_roundw
   case rel=>exact⟨by trivial,.inr (.inr ⟨by go_num,by go_num⟩)⟩
   case measure=>simp[intOf]
  ·clear k0 k1;rename World=>wA
   go_wp2_with fail
   refine Gp.out.mono ?_;rintro e w1 ⟨G,rfl,hown,hgr⟩;have hb1:=aJ hgr;have hst:Hid (∃v,Value.slice (some ⟨wA.heap.size,0,none⟩) 0 G=v/\w1.ownsRow wA.heap.size 3 1 v 0 (aM [])):=hid ⟨_,rfl,hown⟩;have Hb1:=hid hb1;clear hown hgr hb1 Gp;go_wp2;rename World=>wx
   go_loopw [6,27] (fun vv iv wr2=>Hid (Below wA.heap.size wA wr2)/\((iv=.int .i64 0/\Hid (wr2.ownsRow wA.heap.size 3 1 vv 0 (aM [])))\/(iv=.int .i64 1/\Hid (wr2.ownsRow wA.heap.size 3 1 vv n1 (aM l1)))\/(iv=.int .i64 2/\Hid (wr2.ownsRow wA.heap.size 3 1 vv (n1+n2) (aM (l1++l2)))))) (fun _ iv _=>2-(intOf iv).toNat)
   case atStart=>
    refine⟨Hb1,.inl ⟨rfl,hid ?_⟩⟩;obtain⟨v,hv,h⟩:=hst.out;rw[hv];exact h
   case round=>
    obtain⟨hb,⟨rfl,hown⟩ | ⟨rfl,hown⟩ | ⟨rfl,hown⟩⟩:=hrel
    ·have hB2:=aL HB.out hb.out;have k0:=hB2.cell 0;simp only[List.getElem?_cons_zero]at k0;have hsz:=hb.out.size;have dx:=hid (Hr1.out _ hb.out);clear hB2;go_wp2_with (at_builtin;refine wpList_append_own _ rfl _ _ 115 rfl wA.heap.size 3 i0 (.int .i64 0) 1 8 underlying115 hi hz0 hz1 hz2 rfl (by decide) _ _ _ rfl hown.out ⟨g1,0,none⟩ n1 c1 (aM l1) rfl ?d0 dx.out ?d2 ?d3 ?d4 ?d5 ?_)
     case d0=>rw[EF,L1.out]
     case d2=>exact Lg l1
     case d3=>unfold maxLen;omega
     case d4=>omega
     case d5=>omega
     intro u' w7 bM fO _;have hb7:Below wA.heap.size wA w7:=hb.out.grown fO hsz (fun q hq=>(hown.out.lt q hq).1);have Hb7:=hid hb7;have oC:Hid (w7.ownsRow wA.heap.size 3 1 u' n1 (aM l1)):=hid bM;clear bM fO hb7 hown hb dx k0;go_wp2;go_roundw
     case rel=>exact⟨Hb7,.inr (.inl ⟨by go_num,oC⟩)⟩
     case measure=>simp[intOf]
    ·have hB2:=aL HB.out hb.out;have k1:=hB2.cell 1;simp only[List.getElem?_cons_zero,List.getElem?_cons_succ]at k1;have hsz:=hb.out.size;have dx:=hid (Hr2.out _ hb.out);clear hB2;go_wp2_with (at_builtin;refine wpList_append_own _ rfl _ _ 115 rfl wA.heap.size 3 i0 (.int .i64 0) 1 8 underlying115 hi hz0 hz1 hz2 rfl (by decide) _ _ _ rfl hown.out ⟨g2,0,none⟩ n2 c2 (aM l2) rfl ?e0 dx.out ?e2 ?e3 ?e4 ?e5 ?_)
     case e0=>rw[EF,L2.out]
     case e2=>exact Lg l2
     case e3=>unfold maxLen;omega
     case e4=>omega
     case e5=>omega
     intro u' w7 bM fO _;have hb7:Below wA.heap.size wA w7:=hb.out.grown fO hsz (fun q hq=>(hown.out.lt q hq).1);have Hb7:=hid hb7;have oC:Hid (w7.ownsRow wA.heap.size 3 1 u' (n1+n2) (aM (l1++l2))):=hid (by rw[ZE];exact bM);clear bM fO hb7 hown hb dx k1;go_wp2;go_roundw
     case rel=>exact⟨Hb7,.inr (.inr ⟨by go_num,oC⟩)⟩
     case measure=>simp[intOf]
    ·go_wp2;go_ret;exact⟨_,rfl,hown.out,hb.out⟩
theorem Qk(n:Nat)(w:World)(h0:0<n)(hn:n<=100000) :
  Calls prog 186 #[.slice none 0 0,.int .i64 (n:Int)] w fun e w'=>∃G,e=.returned (.slice (some ⟨w.heap.size,0,none⟩) 0 G)/\w'.ownsRow w.heap.size 223 2 (.slice (some ⟨w.heap.size,0,none⟩) 0 G) 0 []/\w.grownBy w' none:=by
 obtain⟨i0,hi,hz0,hz1,hz2⟩:=info_parts vM;obtain⟨G,hG⟩:∃G,G=grownCap w n 0 223:=⟨_,rfl⟩;have hGn:n<=G:=by rw[hG];exact grownCap_ge w n 0 223
 have hGm:G<=maxLen:=by rw[hG];exact grownCap_le_maxLen w n 0 223 (by unfold maxLen;omega)
 have hz:∀k,(Builtin.zeroCells (.agg #[.int .i64 0,.slice none 0 0]:Value).cells k).size=k*2:=fun k=>by simp[Builtin.zeroCells,Value.cells]
 have hrz:∀ty,(Builtin.append_ #[218,3] ty #[.slice none 0 0,.int .i64 (n:Int)]).run prog w=.ok (.slice (some ⟨w.heap.size,0,none⟩) n G) (w.drew.alloc (.cells (#[]++Builtin.zeroCells (.agg #[.int .i64 0,.slice none 0 0]:Value).cells n++Builtin.zeroCells (.agg #[.int .i64 0,.slice none 0 0]:Value).cells (G-n)) 223)):=fun ty=>by
  have h:=Lib.run_append_grow_zeros (P:=prog) w 218 3 ty 223 i0 (.agg #[.int .i64 0,.slice none 0 0]) .i64 .i64 underlying218 underlying3 hi hz0 none 0 0 [] (run_firstCells_none w.drew i0.size 0 0 0) n h0 (by rw[hz1];omega) (by omega) (by omega) (by rw[hz2];omega)
   (by rw[Nat.zero_add];exact growslice_fits (by omega) (by rw[hz2];omega))
  simp only[Nat.zero_add]at h;rw[<-hG]at h;exact h
 have hfin:(w.drew.alloc (.cells (#[]++Builtin.zeroCells (.agg #[.int .i64 0,.slice none 0 0]:Value).cells n++Builtin.zeroCells (.agg #[.int .i64 0,.slice none 0 0]:Value).cells (G-n)) 223)).ownsRow w.heap.size 223 2 (.slice (some ⟨w.heap.size,0,none⟩) 0 G) 0 []/\w.grownBy (w.drew.alloc (.cells (#[]++Builtin.zeroCells (.agg #[.int .i64 0,.slice none 0 0]:Value).cells n++Builtin.zeroCells (.agg #[.int .i64 0,.slice none 0 0]:Value).cells (G-n)) 223)) none:=
  ⟨⟨by simp,.inr ⟨w.heap.size,G,_,rfl,Nat.le_refl _,heap_alloc_new w.drew _,by omega,hGm,by simp only[Array.size_append,hz,Array.size_empty];omega,by simp⟩⟩,⟨rfl,rfl,rfl,by simp,fun _ hk _=>Go.heap_alloc_old w.drew _ hk⟩⟩
 have iy:=hid hfin;have hG63:G<=9223372036854775807:=by unfold maxLen at hGm;omega
 clear hfin hG hz;generalize w.drew.alloc (.cells (#[]++Builtin.zeroCells (.agg #[.int .i64 0,.slice none 0 0]:Value).cells n++Builtin.zeroCells (.agg #[.int .i64 0,.slice none 0 0]:Value).cells (G-n)) 223)=w2 at *;have Hrz:=hid hrz;clear hrz hi hz0 hz1 hz2;go_enter func186,ntmps186
 go_wp2_with (at_builtin;refine wpList_append_run _ rfl _ _ 218 3 rfl (.slice none 0 0) (.int .i64 (n:Int)) (.slice (some ⟨w.heap.size,0,none⟩) n G) w2 rfl rfl Hrz.out ?_)
 go_wp2;go_ret;exact⟨G,rfl,iy.out.1,iy.out.2⟩
theorem Xl(B g1 n1 c1 g2 n2 c2:Nat)(l1 l2:List Pcl)(w:World)(h1:0<n1)(hl1:l1.length=n1)(hl2:l2.length=n2)(hn1:n1<=10000)(hn2:n2<=10000)
  (hB:Row w B 218 [.slice (some ⟨g1,0,none⟩) n1 c1,.slice (some ⟨g2,0,none⟩) n2 c2])
  (hr1:∀W,Below w.heap.size w W->∀j u,(p2 l1)[j]?=some u->W.cell? ((⟨g1,0,none⟩:Addr).add j)=some u) (hr2:∀W,Below w.heap.size w W->∀j u,(p2 l2)[j]?=some u->W.cell? ((⟨g2,0,none⟩:Addr).add j)=some u) :
  Calls prog 156 #[.slice (some ⟨B,0,none⟩) 2 2] w fun e w'=>∃v,e=.returned v/\w'.ownsRow w.heap.size 223 2 v (n1+n2) (p2 (l1++l2))/\Below w.heap.size w w':=by
 obtain⟨i0,hi,hz0,hz1,hz2⟩:=info_parts vM;have k0:=hB.cell 0;have k1:=hB.cell 1;simp only[List.getElem?_cons_zero,List.getElem?_cons_succ]at k0 k1;have HB:=hid hB;have Hr1:=hid hr1;have Hr2:=hid hr2;have Gp:=hid (Qk (n1+n2) w (by omega) (by omega));have L1:Hid (l1.length=n1):=hid hl1;have L2:Hid (l2.length=n2):=hid hl2;clear hB hr1 hr2 hl1 hl2;rw[Int.natCast_add]at Gp;go_enter func156,ntmps156
 go_wp2;go_loopw [3,11] (fun sv iv wr=>wr=w/\((sv=.int .i64 0/\iv=.int .i64 0)\/(sv=.int .i64 (n1:Int)/\iv=.int .i64 1)\/(sv=.int .i64 ((n1:Int)+(n2:Int))/\iv=.int .i64 2))) (fun _ iv _=>2-(intOf iv).toNat)
 case atStart=>exact⟨rfl,.inl ⟨rfl,rfl⟩⟩
 case round=>
  obtain⟨rfl,⟨rfl,rfl⟩ | ⟨rfl,rfl⟩ | ⟨rfl,rfl⟩⟩:=hrel
  ·go_wp2;go_roundw
   case rel=>exact⟨by trivial,.inr (.inl ⟨by go_num,by go_num⟩)⟩
   case measure=>simp[intOf]
  ·go_wp2;go_roundw
   case rel=>exact⟨by trivial,.inr (.inr ⟨by go_num,by go_num⟩)⟩
   case measure=>simp[intOf]
  ·clear k0 k1;rename World=>wA
   go_wp2_with fail
   refine Gp.out.mono ?_;rintro e w1 ⟨G,rfl,hown,hgr⟩;have hb1:=aJ hgr;have hst:Hid (∃v,Value.slice (some ⟨wA.heap.size,0,none⟩) 0 G=v/\w1.ownsRow wA.heap.size 223 2 v 0 (p2 [])):=hid ⟨_,rfl,hown⟩;have Hb1:=hid hb1;clear hown hgr hb1 Gp;go_wp2;rename World=>wx
   go_loopw [6,27] (fun vv iv wr2=>Hid (Below wA.heap.size wA wr2)/\((iv=.int .i64 0/\Hid (wr2.ownsRow wA.heap.size 223 2 vv 0 (p2 [])))\/(iv=.int .i64 1/\Hid (wr2.ownsRow wA.heap.size 223 2 vv n1 (p2 l1)))\/(iv=.int .i64 2/\Hid (wr2.ownsRow wA.heap.size 223 2 vv (n1+n2) (p2 (l1++l2)))))) (fun _ iv _=>2-(intOf iv).toNat)
   case atStart=>
    refine⟨Hb1,.inl ⟨rfl,hid ?_⟩⟩;obtain⟨v,hv,h⟩:=hst.out;rw[hv];exact h
   case round=>
    obtain⟨hb,⟨rfl,hown⟩ | ⟨rfl,hown⟩ | ⟨rfl,hown⟩⟩:=hrel
    ·have hB2:=aL HB.out hb.out;have k0:=hB2.cell 0;simp only[List.getElem?_cons_zero]at k0;have hsz:=hb.out.size;have dx:=hid (Hr1.out _ hb.out);clear hB2;go_wp2_with (at_builtin;refine wpList_append_own _ rfl _ _ 218 rfl wA.heap.size 223 i0 (.agg #[.int .i64 0,.slice none 0 0]) 2 32 underlying218 hi hz0 hz1 hz2 rfl (by decide) _ _ _ rfl hown.out ⟨g1,0,none⟩ n1 c1 (p2 l1) rfl ?d0 dx.out ?d2 ?d3 ?d4 ?d5 ?_)
     case d0=>rw[xK,L1.out]
     case d2=>exact adk l1
     case d3=>unfold maxLen;omega
     case d4=>omega
     case d5=>omega
     intro u' w7 bM fO _;have hb7:Below wA.heap.size wA w7:=hb.out.grown fO hsz (fun q hq=>(hown.out.lt q hq).1);have Hb7:=hid hb7;have oC:Hid (w7.ownsRow wA.heap.size 223 2 u' n1 (p2 l1)):=hid bM;clear bM fO hb7 hown hb dx k0;go_wp2;go_roundw
     case rel=>exact⟨Hb7,.inr (.inl ⟨by go_num,oC⟩)⟩
     case measure=>simp[intOf]
    ·have hB2:=aL HB.out hb.out;have k1:=hB2.cell 1;simp only[List.getElem?_cons_zero,List.getElem?_cons_succ]at k1;have hsz:=hb.out.size;have dx:=hid (Hr2.out _ hb.out);clear hB2;go_wp2_with (at_builtin;refine wpList_append_own _ rfl _ _ 218 rfl wA.heap.size 223 i0 (.agg #[.int .i64 0,.slice none 0 0]) 2 32 underlying218 hi hz0 hz1 hz2 rfl (by decide) _ _ _ rfl hown.out ⟨g2,0,none⟩ n2 c2 (p2 l2) rfl ?e0 dx.out ?e2 ?e3 ?e4 ?e5 ?_)
     case e0=>rw[xK,L2.out]
     case e2=>exact adk l2
     case e3=>unfold maxLen;omega
     case e4=>omega
     case e5=>omega
     intro u' w7 bM fO _;have hb7:Below wA.heap.size wA w7:=hb.out.grown fO hsz (fun q hq=>(hown.out.lt q hq).1);have Hb7:=hid hb7;have oC:Hid (w7.ownsRow wA.heap.size 223 2 u' (n1+n2) (p2 (l1++l2))):=hid (by rw[xJ];exact bM);clear bM fO hb7 hown hb dx k1;go_wp2;go_roundw
     case rel=>exact⟨Hb7,.inr (.inr ⟨by go_num,oC⟩)⟩
     case measure=>simp[intOf]
    ·go_wp2;go_ret;exact⟨_,rfl,hown.out,hb.out⟩
end Go.Proofs.YtaebnkeddcbmkaaGreat
namespace Go.Proofs.YtaebnkeddcbmkaaGreat.Bm
def bq(L:List Pcl):List Nat:=L.flatMap (·.2.2)
def mF(L:List Pcl):Nat:=(L.map (·.1)).sum
def single(t:Pcl):Bool:=t.2.2.length == 1
theorem fI(A B:List Pcl):bq (A++B)=bq A++bq B:=by simp[bq]
theorem qd(A B:List Pcl):mF (A++B)=mF A+mF B:=by simp[mF]
theorem FR{A B:List Pcl}(h:A.Perm B):(bq A).Perm (bq B):=h.flatMap_right _
theorem XA{A B:List Pcl}(h:A.Perm B):mF A=mF B:=(h.map _).sum_nat
theorem MC{a:Pcl}{A:List Pcl}(h:Srt (a :: A)):Srt A:=(List.pairwise_cons.1 h).2
theorem uf:∀{A B:List Pcl},Srt A->Srt B->(∀v,A.filter (fun t=>t.1 == v)=B.filter (fun t=>t.1 == v))->A=B
 | [],[],_,_,_=>rfl
 | [],b :: B,_,_,h=>by have:=h b.1;simp at this
 | a :: A,[],_,_,h=>by have:=h a.1;simp at this
 | a :: A,b :: B,hA,hB,h=>by
  have ha:a∈(b :: B).filter (fun t=>t.1 == a.1):=by rw[<-h a.1];simp
  have hb:b∈(a :: A).filter (fun t=>t.1 == b.1):=by rw[h b.1];simp
  have h1:b.1<=a.1:=by
   rcases List.mem_cons.1 (List.mem_filter.1 ha).1 with e | h1
   ·rw[e];exact Nat.le_refl _
   ·exact(List.pairwise_cons.1 hB).1 a h1
  have h2:a.1<=b.1:=by
   rcases List.mem_cons.1 (List.mem_filter.1 hb).1 with e | h1
   ·rw[e];exact Nat.le_refl _
   ·exact(List.pairwise_cons.1 hA).1 b h1
  have e1:a.1=b.1:=by omega
  have h3:=h a.1;rw[List.filter_cons_of_pos (by simp),List.filter_cons_of_pos (by simp[e1])]at h3;injection h3 with e2 e3
  subst e2;congr 1
  refine uf (MC hA) (MC hB) (fun v=>?_);have h4:=h v;by_cases hv:a.1=v
  ·rw[List.filter_cons_of_pos (by simp[hv]),List.filter_cons_of_pos (by simp[hv])]at h4;injection h4
  ·rw[List.filter_cons_of_neg (by simp[hv]),List.filter_cons_of_neg (by simp[hv])]at h4;exact h4
theorem AR{A:List Pcl}(h:Srt A)(p:Pcl->Bool):Srt (A.filter p):=List.Pairwise.filter p h
structure mQ(T P:List Pcl):Prop where
 len:P.length=T.length/2
 wt:∀x,x<P.length->wt P x=wt T (2*x)+wt T (2*x+1)
 sy:∀x,x<P.length->(P[x]?.getD dU).2.2=(T[2*x]?.getD dU).2.2++(T[2*x+1]?.getD dU).2.2
theorem abL(T:List Pcl)(q:Nat)(h:2*q+2<=T.length):T.take (2*(q+1))=T.take (2*q)++[T[2*q]?.getD dU,T[2*q+1]?.getD dU]:=by
 rw[show 2*(q+1)=(2*q+1)+1 by omega,List.take_succ_eq_append_getElem (by omega),List.take_succ_eq_append_getElem (by omega),List.getElem?_eq_getElem (by omega),List.getElem?_eq_getElem (by omega),Option.getD_some,Option.getD_some,List.append_assoc];rfl
theorem take_one(P:List Pcl)(q:Nat)(h:q<P.length):P.take (q+1)=P.take q++[P[q]?.getD dU]:=by
 rw[List.take_succ_eq_append_getElem h,List.getElem?_eq_getElem h,Option.getD_some]
theorem tJ{T P:List Pcl}(h:mQ T P):∀q,q<=P.length->bq (P.take q)=bq (T.take (2*q))/\mF (P.take q)=mF (T.take (2*q))
 | 0,_=>by simp[bq,mF]
 | q+1,hq=>by
  obtain⟨h1,h2⟩:=tJ h q (by omega);have hl:=h.len;have h3:=h.wt q (by omega);have h4:=h.sy q (by omega);rw[take_one P q (by omega),abL T q (by omega),fI,fI,qd,qd,h1,h2];unfold wt at h3;simp only[bq,mF,List.flatMap_cons,List.flatMap_nil,List.append_nil,List.map_cons,List.map_nil,List.sum_cons,List.sum_nil,Nat.add_zero];rw[h3,h4];exact⟨rfl,rfl⟩
theorem Vb{T P:List Pcl}(h:mQ T P)(hT:Srt T):Srt P:=by
 unfold Srt;rw[List.pairwise_iff_getElem];intro i j hi hj hij;have hl:=h.len;have h1:=h.wt i hi;have h2:=h.wt j hj;rw[zq hi]at h1;rw[zq hj]at h2;have:=iM hT (show 2*i<=2*j by omega) (by omega);have:=iM hT (show 2*i+1<=2*j+1 by omega) (by omega);omega
structure wz(cs:List Nat)(S:List Pcl):Prop where
 srt:Srt S
 one:∀t∈S,∃i,t.2.2=[i]/\t.1=bH cs i/\0<bH cs i/\i<cs.length
 nodup:(bq S).Nodup
 all:∀i,i<cs.length->0<bH cs i->i∈bq S
inductive Lev (S:List Pcl):Nat->List Pcl->Prop
 | zero:Lev S 0 S
 | succ {t:Nat} {T P T':List Pcl}:Lev S t T->mQ T P->Stb (S++P) T'->Srt T'->Lev S (t+1) T'
def Na(cs:List Nat)(t:Pcl):Prop:=t.1=(t.2.2.map (bH cs)).sum/\0<t.2.2.length/\∀i∈t.2.2,0<bH cs i/\i<cs.length
theorem nT{T:List Pcl}{x:Nat}(h:x<T.length):T[x]?.getD dU∈T:=by
 rw[List.getElem?_eq_getElem h,Option.getD_some];exact List.getElem_mem h
theorem Ma{cs:List Nat}{T P:List Pcl}(h:mQ T P)(hT:∀t∈T,Na cs t):∀t∈P,Na cs t/\2<=t.2.2.length:=fun t ht=>by
 obtain⟨x,hx,rfl⟩:=List.mem_iff_getElem.1 ht;have hl:=h.len;have h1:=h.wt x hx;have h2:=h.sy x hx;unfold wt at h1;rw[List.getElem?_eq_getElem hx,Option.getD_some]at h1 h2;obtain⟨a1,a2,a3⟩:=hT _ (nT (show 2*x<T.length by omega));obtain⟨b1,b2,b3⟩:=hT _ (nT (show 2*x+1<T.length by omega));unfold Na;rw[h2,List.map_append,List.sum_append_nat,List.length_append];refine⟨⟨by omega,by omega,fun i hi=>?_⟩,by omega⟩;rcases List.mem_append.1 hi with hi | hi
 ·exact a3 i hi
 ·exact b3 i hi
theorem JN{cs:List Nat}{S:List Pcl}(h:wz cs S):∀t∈S,Na cs t/\single t=true:=fun t ht=>by
 obtain⟨i,h1,h2,h3,h4⟩:=h.one t ht;unfold Na single;rw[h1];refine⟨⟨by simp[h2],by simp,fun k hk=>?_⟩,by simp⟩;simp only[List.mem_singleton]at hk;subst hk;exact⟨h3,h4⟩
theorem LC{cs:List Nat}{S:List Pcl}(h:wz cs S):∀{t:Nat} {T:List Pcl},Lev S t T->Srt T/\∀u∈T,Na cs u:=by
 intro t T hT;induction hT with
 | zero=>exact⟨h.srt,fun u hu=>(JN h u hu).1⟩
 | succ _ hp hs hr ih=>
  refine⟨hr,fun u hu=>?_⟩;rcases List.mem_append.1 (hs.1.mem_iff.2 hu)with h1 | h1
  ·exact(JN h u h1).1
  ·exact(Ma hp ih.2 u h1).1
theorem jM(L:List Pcl)(p q:Pcl->Bool):(L.filter p).filter q=(L.filter q).filter p:=by
 rw[List.filter_filter,List.filter_filter];congr 1
 funext t
 exact Bool.and_comm _ _
theorem merged{S P T':List Pcl}(hS:Srt S)(hP:Srt P)(h1:∀t∈S,single t=true)(h2:∀t∈P,single t=false)(hs:Stb (S++P) T')(hr:Srt T'):T'.filter single=S/\T'.filter (fun t=>!single t)=P:=by
 have e1:S.filter single=S:=List.filter_eq_self.2 h1;have e2:P.filter single=[]:=List.filter_eq_nil_iff.2 (fun t ht=>by simp[h2 t ht]);have e3:S.filter (fun t=>!single t)=[]:=List.filter_eq_nil_iff.2 (fun t ht=>by simp[h1 t ht]);have e4:P.filter (fun t=>!single t)=P:=List.filter_eq_self.2 (fun t ht=>by simp[h2 t ht]);refine⟨uf (AR hr _) hS (fun v=>?_),uf (AR hr _) hP (fun v=>?_)⟩
 ·rw[jM,<-hs.2 v,jM,List.filter_append,e1,e2,List.append_nil]
 ·rw[jM,<-hs.2 v,jM,List.filter_append,e3,e4,List.nil_append]
theorem wV(T:List Pcl)(p:Pcl->Bool)(k:Nat):(T.take k).filter p=(T.filter p).take ((T.take k).filter p).length:=
 List.prefix_iff_eq_take.1 ((List.take_prefix k T).filter p)
theorem aiv{S P T':List Pcl}(h1:T'.filter single=S)(h2:T'.filter (fun t=>!single t)=P)(k:Nat)(hk:k<=T'.length) :
  ∃s q,s+q=k/\s<=S.length/\q<=P.length/\(T'.take k).Perm (S.take s++P.take q)/\(T'.take k).filter single=S.take s/\(T'.take k).filter (fun t=>!single t)=P.take q:=by
 have e1:=wV T' single k;have e2:=wV T' (fun t=>!single t) k;rw[h1]at e1;rw[h2]at e2;have hp:=(List.filter_append_perm single (T'.take k)).symm;have hl:=hp.length_eq;rw[List.length_take,List.length_append]at hl;have l1:((T'.take k).filter single).length<=S.length:=by rw[e1,List.length_take];omega
 have l2:((T'.take k).filter (fun t=>!single t)).length<=P.length:=by rw[e2,List.length_take];omega
 refine⟨_,_,?_,l1,l2,?_,e1,e2⟩
 ·omega
 ·rw[<-e1,<-e2];exact hp
theorem wM(f:Nat->Nat)(N:Nat):∀(Y:List Nat),(∀y∈Y,y<N)->((List.range N).map fun i=>f i*Y.count i).sum=(Y.map f).sum
 | [],_=>by
  have:∀L:List Nat,(L.map fun i=>f i*([]:List Nat).count i).sum=0:=fun L=>by
   induction L with
   | nil=>rfl
   | cons a L ih=>rw[List.map_cons,List.sum_cons,ih];simp
  exact this _
 | y :: Y,h=>by
  have ih:=wM f N Y (fun z hz=>h z (List.mem_cons_of_mem _ hz));have hy:=h y List.mem_cons_self;rw[List.map_cons,List.sum_cons,<-ih];have e:f y=((List.range N).map fun i=>if i=y then f y else 0).sum:=by rw[gX,if_pos hy]
  conv=>rhs;rw[e]
  rw[<-eB];congr 1
  apply List.map_congr_left
  intro i _;rw[List.count_cons];by_cases hi:i=y
  ·subst hi;simp[Nat.mul_add];omega
  ·have:(y == i)=false:=by rw[beq_eq_false_iff_ne];exact fun h=>hi h.symm
   rw[this,if_neg hi];simp
theorem xA:∀(k:Nat) (l X Y:List Nat),l.Pairwise (·<=·)->l.Perm (X++Y)->X.length=k->(l.take k).sum<=X.sum
 | 0,_,_,_,_,_,_=>by simp
 | k+1,[],X,Y,_,hp,hk=>by
  have:=hp.length_eq;rw[List.length_append,hk,List.length_nil]at this;omega
 | k+1,a :: l,X,Y,hs,hp,hk=>by
  rw[List.pairwise_cons]at hs;rw[List.take_succ_cons,List.sum_cons];by_cases hX:a∈X
  ·obtain⟨A,B,rfl⟩:=List.append_of_mem hX;have h1:l.Perm ((A++B)++Y):=by
    refine List.Perm.cons_inv (a:=a) (hp.trans ?_);simp only[List.append_assoc,List.cons_append];exact List.perm_middle
   have h2:=xA k l (A++B) Y hs.2 h1 (by simp only[List.length_append,List.length_cons]at hk ⊢;omega);simp only[List.sum_append_nat,List.sum_cons]at h2 ⊢;omega
  ·match X,hk with
   | x :: X,hk=>
    have hY:a∈Y:=by
     have h1:a∈(x :: X)++Y:=hp.mem_iff.1 (by simp);rcases List.mem_append.1 h1 with h1 | h1
     ·exact absurd h1 hX
     ·exact h1
    obtain⟨A,B,rfl⟩:=List.append_of_mem hY;have h1:l.Perm (X++(x :: (A++B))):=by
     refine List.Perm.cons_inv (a:=a) (hp.trans ?_);have e1:((x :: X)++(A++a :: B)).Perm (a :: ((x :: X)++(A++B))):=by
      rw[<-List.append_assoc,<-List.append_assoc];exact List.perm_middle
     refine e1.trans (List.Perm.cons _ ?_);rw[List.cons_append];exact List.perm_middle.symm
    have h2:=xA k l X (x :: (A++B)) hs.2 h1 (by simpa using hk);have h3:a<=x:=by
     rcases List.mem_cons.1 (hp.mem_iff.2 (show x∈(x :: X)++(A++a :: B) by simp))with e | h3
     ·rw[e];exact Nat.le_refl _
     ·exact hs.1 x h3
    rw[List.sum_cons];omega
theorem uP{S P T':List Pcl}(hp:(S++P).Perm T')(hr:Srt T')(a b:Nat)(ha:a<=S.length)(hb:b<=P.length):mF (T'.take (a+b))<=mF (S.take a)+mF (P.take b):=by
 have h1:(T'.map (·.1)).Pairwise (·<=·):=List.pairwise_map.2 hr;have h2:(T'.map (·.1)).Perm (((S.take a++P.take b).map (·.1))++((S.drop a++P.drop b).map (·.1))):=by
  rw[<-List.map_append];refine(hp.symm.trans ?_).map _;conv=>lhs;rw[<-List.take_append_drop a S,<-List.take_append_drop b P]
  simp only[List.append_assoc];refine List.Perm.append_left _ ?_;rw[<-List.append_assoc,<-List.append_assoc];exact List.Perm.append_right _ List.perm_append_comm
 have h3:=xA (a+b) _ _ _ h1 h2 (by rw[List.length_map,List.length_append,List.length_take,List.length_take];omega);unfold mF;rw[List.map_take];rw[List.map_append,List.sum_append_nat]at h3;exact h3
end Go.Proofs.YtaebnkeddcbmkaaGreat.Bm
