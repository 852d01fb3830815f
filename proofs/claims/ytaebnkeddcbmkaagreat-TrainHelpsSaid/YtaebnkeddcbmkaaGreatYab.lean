/- Contracts, and what they rest on. Conditions: the theorems' premises. -/
import Derived.Test.YtaebnkeddcbmkaaGreatYaa
import Derived.Test.YtaebnkeddcbmkaaGreatRows
import Derived.WalkSpells
import Derived.WalkLawsBesides
set_option maxHeartbeats 4000000
set_option maxRecDepth 100000
open Go.Proofs.YtaebnkeddcbmkaaGreat.Bm
namespace Go.Proofs.YtaebnkeddcbmkaaGreat
open Go.RowKit
def Row(w:World)(g:Nat)(t:TypeId)(cs:List Value):Prop:=w.heap[g]?=some (.cells cs.toArray t (0,0))
def yR(w:World)(g:Nat)(t:TypeId):Prop:=∃cs u fz,w.heap[g]?=some (.cells cs u fz)/\u≠t
section
variable {w w':World} {g:Nat} {t:TypeId} {cs:List Value}
theorem Row.lt(h:Row w g t cs):g<w.heap.size:=by
 rcases Nat.lt_or_ge g w.heap.size with h1 | h1
 ·exact h1
 ·unfold Row at h;rw[Array.getElem?_eq_none h1]at h;cases h
theorem Row.cell(h:Row w g t cs)(i:Nat):w.cell? ⟨g,i,none⟩=cs[i]?:=by
 rw[cell_of_row w g i cs.toArray t (0,0) h];simp
theorem Row.free(h:Row w g t cs)(i:Nat):w.frozen? ⟨g,i,none⟩=false:=by
 unfold Row at h;simp[World.frozen?,h]
theorem Row.new(w:World)(t:TypeId)(cs:List Value):Row (w.alloc (.cells cs.toArray t)) w.heap.size t cs:=heap_alloc_new w _
theorem Row.UG{u:TypeId}(h:Row w g t cs)(hne:t≠u):yR w g u:=⟨_,_,_,h,hne⟩
theorem yR.ne{g':Nat}(h:yR w g t)(h':Row w g' t cs):g'≠g:=by
 rintro rfl;obtain⟨a,b,c,h1,h2⟩:=h;unfold Row at h';rw[h1]at h';injection h' with h'
 injection h' with _ h3
 exact h2 h3
theorem yR.lt(h:yR w g t):g<w.heap.size:=by
 obtain⟨a,b,c,h1,_⟩:=h;rcases Nat.lt_or_ge g w.heap.size with h2 | h2
 ·exact h2
 ·rw[Array.getElem?_eq_none h2]at h1;cases h1
theorem Row.keep(h:Row w g t cs)(hb:w'.heap[g]?=w.heap[g]?):Row w' g t cs:=hb.trans h
theorem yR.keep(h:yR w g t)(hb:w'.heap[g]?=w.heap[g]?):yR w' g t:=by
 obtain⟨a,b,c,h1,h2⟩:=h;exact⟨a,b,c,hb.trans h1,h2⟩
theorem Row.alloc(h:Row w g t cs)(o:Obj):Row (w.alloc o) g t cs:=h.keep (Below.heap_alloc w o g h.lt)
theorem Row.far(h:Row w g t cs){p:Addr}(hp:g≠p.block)(u:Value):Row (w.setCell p u) g t cs:=h.keep (Below.heap_setCell w p u g hp)
theorem Row.aT(h:Row w g t cs)(i:Nat)(u:Value):Row (w.setCell ⟨g,i,none⟩ u) g t (cs.set i u):=by
 unfold Row at h ⊢;simp[World.setCell,Array.getElem?_modify,h]
theorem yR.setCell(h:yR w g t)(p:Addr)(u:Value):yR (w.setCell p u) g t:=by
 by_cases hp:g=p.block
 ·obtain⟨a,b,c,h1,h2⟩:=h;by_cases hs:p.spot.isSome=true
  ·exact⟨a,b,c,by simp[World.setCell,Array.getElem?_modify,<-hp,h1,hs],h2⟩
  ·exact⟨a.setIfInBounds p.off u,b,c,by simp[World.setCell,Array.getElem?_modify,<-hp,h1,hs],h2⟩
 ·exact h.keep (Below.heap_setCell w p u g hp)
theorem yR.alloc(h:yR w g t)(o:Obj):yR (w.alloc o) g t:=h.keep (Below.heap_alloc w o g h.lt)
end
section
variable {w w' w'':World} {row:Option Nat}
theorem ak(h:Below w.heap.size w w')(row:Option Nat):w.grownBy w' row:=⟨h.os,h.tape,h.output,h.size,fun i hi _=>h.block i hi⟩
theorem aj(w:World)(row:Option Nat):w.grownBy w row:=⟨rfl,rfl,rfl,Nat.le_refl _,fun _ _ _=>rfl⟩
theorem bL(h:w.grownBy w' row)(k:Nat):w.grownBy (w'.drewN k) row:=⟨h.os,h.tape,h.output,h.size,h.block⟩
theorem bf(h:w.grownBy w' row):w.grownBy w'.drew row:=⟨h.os,h.tape,h.output,h.size,h.block⟩
theorem aF(h:w.grownBy w' row)(o:Obj):w.grownBy (w'.alloc o) row:=
 ⟨h.os,h.tape,h.output,Nat.le_trans h.size (by simp),fun i hi hn=>(Below.heap_alloc w' o i (Nat.lt_of_lt_of_le hi h.size)).trans (h.block i hi hn)⟩
theorem aB{b:Nat}(h:w.grownBy w' (some b))(i:Nat)(u:Value):w.grownBy (w'.setCell ⟨b,i,none⟩ u) (some b):=
 ⟨h.os,h.tape,h.output,by simpa [World.setCell]using h.size,fun k hk hn=>(Below.heap_setCell w' ⟨b,i,none⟩ u k (fun e=>hn (by rw[e]))).trans (h.block k hk hn)⟩
theorem below_grown{B b:Nat}(h:w.grownBy w' (some b))(hb:B<=b)(hB:B<=w.heap.size):Below B w w':=
 ⟨h.os,h.tape,h.output,h.size,fun k hk=>h.block k (by omega) (fun e=>by injection e with e;omega)⟩
end
def strOf(bs:List Nat):ByteArray:=⟨(bs.map UInt8.ofNat).toArray⟩
theorem aA(bs:List Nat):(strOf bs).size=bs.length:=by simp[strOf,ByteArray.size]
def u8s(l:List Nat):List Value:=l.map fun b:Nat=>.int .u8 (b:Int)
def aM(l:List Nat):List Value:=l.map fun b:Nat=>.int .i64 (b:Int)
theorem aO(l:List Nat):(u8s l).length=l.length:=by simp[u8s]
theorem aN(l:List Nat):(aM l).length=l.length:=by simp[aM]
theorem bD(l:List Nat)(i:Nat)(h:i<l.length):(u8s l)[i]?=some (.int .u8 (l[i]:Int)):=by simp[u8s,h]
theorem bK(l:List Nat)(i:Nat)(h:i<l.length):(aM l)[i]?=some (.int .i64 (l[i]:Int)):=by simp[aM,h]
theorem yK(l:List Nat)(i b:Nat):(u8s l).set i (.int .u8 (b:Int))=u8s (l.set i b):=by simp[u8s,List.map_set]
theorem pI(l m:List Nat):aM l++aM m=aM (l++m):=by simp[aM]
def Reads(w:World)(A:Option Addr)(xs:List Value):Prop:=xs≠[]->∃g off,A=some ⟨g,off,none⟩/\∀j,j<xs.length->w.cell? ⟨g,off+j,none⟩=xs[j]?
def Chain(w:World):Option Addr->List Nat->Prop
 | p,[]=>p=none
 | p,u :: us=>∃g q,p=some ⟨g,0,none⟩/\Row w g 188 [.pointer q,.int .u64 (u:Int)]/\Chain w q us
theorem Chain.keep{w w':World}(hk:∀g cs,Row w g 188 cs->Row w' g 188 cs):∀(us:List Nat) (p:Option Addr),Chain w p us->Chain w' p us
 | [],_,h=>h
 | _ :: us,_,⟨g,q,hp,hr,hc⟩=>⟨g,q,hp,hk _ _ hr,Chain.keep hk us q hc⟩
theorem qb{w w':World}{row:Option Nat}(hg:w.grownBy w' row)(hr:∀g,row=some g->yR w g 188):∀g cs,Row w g 188 cs->Row w' g 188 cs:=
 fun g _ h=>h.keep (hg.block g h.lt (fun e=>(hr g e.symm).ne h rfl))
def WS(w:World)(b off N n:Nat):Prop:=∃(p:Option Addr) (rest:Nat) (us:List Nat),
 w.cell? ⟨b,off,none⟩=some (.pointer p)/\w.cell? ⟨b,off+1,none⟩=some (.int .u64 (rest:Int))/\w.cell? ⟨b,off+2,none⟩=some (.int .i64 (n:Int)) /\
 w.frozen? ⟨b,off,none⟩=false/\w.frozen? ⟨b,off+1,none⟩=false/\w.frozen? ⟨b,off+2,none⟩=false/\yR w b 188/\Chain w p us/\WOk N n rest us
theorem WS.keep{w w':World}{b off N n:Nat}{row:Option Nat}(h:WS w b off N n)(hg:w.grownBy w' row)(hb:row≠some b)(hr:∀g,row=some g->yR w g 188):WS w' b off N n:=by
 obtain⟨p,rest,us,h0,h1,h2,f0,f1,f2,hn,hc,hw⟩:=h;have hl:=hg.block b hn.lt (fun e=>hb e.symm);exact⟨p,rest,us,(World.cell?_of_block hl).trans h0,(World.cell?_of_block hl).trans h1,(World.cell?_of_block hl).trans h2,(World.frozen?_of_block hl).trans f0,(World.frozen?_of_block hl).trans f1,
  (World.frozen?_of_block hl).trans f2,hn.keep hl,hc.keep (qb hg hr),hw⟩
theorem WS.drew{w:World}{b off N n:Nat}(h:WS w b off N n):WS w.drew b off N n:=h.keep (row:=none) (bf (aj _ _)) (by simp) (by simp)
theorem WS.new(w:World)(t:TypeId)(ht:t≠188):WS (w.alloc (.cells #[.pointer none,.int .u64 0,.int .i64 0] t)) w.heap.size 0 0 0:=by
 have h:Row (w.alloc (.cells #[.pointer none,.int .u64 0,.int .i64 0] t)) w.heap.size t [.pointer none,.int .u64 0,.int .i64 0]:=Row.new w t _;exact⟨none,0,[],h.cell 0,h.cell 1,h.cell 2,h.free 0,h.free 1,h.free 2,h.UG ht,rfl,WOk.zero⟩
def RS(w:World)(b off:Nat)(bs:List Nat)(pos:Nat):Prop:=
 w.cell? ⟨b,off,none⟩=some (.string (strOf bs))/\w.cell? ⟨b,off+1,none⟩=some (.int .i64 (pos:Int))/\w.frozen? ⟨b,off+1,none⟩=false/\b<w.heap.size
theorem RS.keep{w w':World}{b off pos:Nat}{bs:List Nat}{row:Option Nat}(h:RS w b off bs pos)(hg:w.grownBy w' row)(hb:row≠some b):RS w' b off bs pos:=by
 obtain⟨h0,h1,h2,h3⟩:=h;have hl:=hg.block b h3 (fun e=>hb e.symm);exact⟨(World.cell?_of_block hl).trans h0,(World.cell?_of_block hl).trans h1,(World.frozen?_of_block hl).trans h2,Nat.lt_of_lt_of_le h3 hg.size⟩
theorem RS.drewN{w:World}{b off pos:Nat}{bs:List Nat}(h:RS w b off bs pos)(k:Nat):RS (w.drewN k) b off bs pos:=h.keep (row:=none) (bL (aj _ _) k) (by simp)
end Go.Proofs.YtaebnkeddcbmkaaGreat
namespace Go.Proofs.YtaebnkeddcbmkaaGreat.Bm
def tX:List Nat->List Nat->Nat
 | a :: x,b :: y=>if a=b then 1+tX x y else 0
 | _,_=>0
def dI(T:List Nat)(a b:Nat):Nat:=tX (T.drop a) (T.drop b)
theorem nY(T:List Nat)(a b:Nat)(ha:a<T.length)(hb:b<T.length):dI T a b=if T[a]=T[b]then 1+dI T (a+1) (b+1)else 0:=by
 unfold dI;rw[List.drop_eq_getElem_cons ha,List.drop_eq_getElem_cons hb,tX]
theorem FC(T:List Nat)(a b:Nat)(h:T.length<=a\/T.length<=b):dI T a b=0:=by
 unfold dI;rcases h with h | h
 ·rw[List.drop_of_length_le h];rfl
 ·rw[List.drop_of_length_le h];cases T.drop a<;>rfl
theorem Mt:∀x y:List Nat,tX x y<=x.length/\tX x y<=y.length
 | [],y=>by simp[tX]
 | _ :: _,[]=>by simp[tX]
 | a :: x,b :: y=>by
  have h:=Mt x y;unfold tX;split
  ·simp only[List.length_cons];omega
  ·simp
theorem CG(T:List Nat)(a b:Nat):dI T a b<=T.length-a/\dI T a b<=T.length-b:=by
 have h:=Mt (T.drop a) (T.drop b);rw[List.length_drop,List.length_drop]at h;exact h
def Pz(T:List Nat)(a b:Int):Nat:=if 0<=a/\0<=b/\a<=T.length/\b<=T.length then dI T a.toNat b.toNat else 0
def rz(T:List Nat)(a:Int):Bool:=decide (0<=a/\a+3<=T.length)
def Ji(T:List Nat)(P:List Nat)(a:Int):Bool:=rz T a && !P.any (fun p=>decide ((p:Int)=a))
def jU(T:List Nat)(P:List Nat)(a:Int):List Nat:=if Ji T P a then P++[a.toNat]else P
def three(T:List Nat)(p:Nat):List Nat:=(T.take (p+3)).drop p
def vo(T:List Nat)(a:Nat)(depth:Int):List Nat->Nat->Nat->Nat->Nat×Nat
 | [],o,n,_=>(o,n)
 | p :: ps,o,n,s=>
  if three T p≠three T a then vo T a depth ps o n s
  else if depth<((s+1:Nat):Int)\/1000<s+1 then(o,n)
  else if a<=p then vo T a depth ps o n (s+1)
  else if n<dI T p a\/(dI T p a=n/\a-p<o)then vo T a depth ps (a-p) (dI T p a) (s+1)
  else vo T a depth ps o n (s+1)
def dO(T:List Nat)(P:List Nat)(a depth:Int):Nat×Nat:=if rz T a then vo T a.toNat depth P.reverse 0 0 0 else(0,0)
def Places(T:List Nat)(P:List Nat):Prop:=∀p∈P,p+3<=T.length
theorem lF(T P:List Nat)(a:Int)(h:Places T P):Places T (jU T P a):=by
 unfold jU;split
 ·next hn=>
  intro p hp;rcases List.mem_append.1 hp with hp | hp
  ·exact h p hp
  ·rw[List.mem_singleton.1 hp];unfold Ji rz at hn;simp only[Bool.and_eq_true,decide_eq_true_eq]at hn;omega
 ·exact h
theorem Da(T:List Nat)(p:Nat)(h:p+3<=T.length):three T p=[T[p],T[p+1],T[p+2]]:=by
 unfold three;rw[List.drop_take,List.drop_eq_getElem_cons (by omega),List.drop_eq_getElem_cons (by omega:p+1<T.length),List.drop_eq_getElem_cons (by omega:p+1+1<T.length),show p+3-p=3 by omega];rfl
theorem FX(T:List Nat)(p k:Nat)(hp:p+3<=T.length)(hk:k+3<=T.length):three T p=three T k↔3<=dI T p k:=by
 rw[Da T p hp,Da T k hk,nY T p k (by omega) (by omega)];by_cases h0:T[p]=T[k]
 ·rw[if_pos h0,nY T (p+1) (k+1) (by omega) (by omega)];by_cases h1:T[p+1]=T[k+1]
  ·rw[if_pos h1,nY T (p+1+1) (k+1+1) (by omega) (by omega)];by_cases h2:T[p+1+1]=T[k+1+1]
   ·rw[if_pos h2];constructor
    ·intro _;omega
    ·intro _;rw[h0,h1];have:T[p+2]=T[k+2]:=h2;rw[this]
   ·rw[if_neg h2];constructor
    ·intro e;simp only[List.cons.injEq]at e;exact absurd e.2.2.1 h2
    ·intro h;omega
  ·rw[if_neg h1];constructor
   ·intro e;simp only[List.cons.injEq]at e;exact absurd e.2.1 h1
   ·intro h;omega
 ·rw[if_neg h0];constructor
  ·intro e;simp only[List.cons.injEq]at e;exact absurd e.1 h0
  ·intro h;omega
theorem Aw:∀x y:List Nat,x.take (tX x y)=y.take (tX x y)
 | [],y=>by simp[tX]
 | _ :: _,[]=>by simp[tX]
 | a :: x,b :: y=>by
  unfold tX;by_cases h:a=b
  ·rw[if_pos h,Nat.add_comm,List.take_succ_cons,List.take_succ_cons,h,Aw x y]
  ·rw[if_neg h];rfl
theorem VZ(T:List Nat)(a b n:Nat)(h:dI T a b=n):(T.take (a+n)).drop a=(T.take (b+n)).drop b:=by
 rw[List.drop_take,List.drop_take,Nat.add_sub_cancel_left,Nat.add_sub_cancel_left,<-h];exact Aw _ _
def OkS(T:List Nat):Nat->List Stp->Prop
 | a,[]=>a<=T.length
 | a,s :: l=>3<=s.2.1/\1<=s.2.2/\s.2.2<=a+s.1/\a+s.1+s.2.1<=T.length/\(T.take (a+s.1-s.2.2+s.2.1)).drop (a+s.1-s.2.2)=(T.take (a+s.1+s.2.1)).drop (a+s.1)/\OkS T (a+s.1+s.2.1) l
def yU:Nat->List Stp->Nat
 | a,[]=>a
 | a,s :: l=>yU (a+s.1+s.2.1) l
theorem Ic:∀(l:List Stp) (a:Nat),a<=yU a l
 | [],a=>Nat.le_refl a
 | s :: l,a=>by
  have:=Ic l (a+s.1+s.2.1);rw[yU];omega
theorem vJ:∀(l:List Stp) (d a:Nat),yU (d+a) l=d+yU a l
 | [],_,_=>rfl
 | s :: l,d,a=>by
  rw[yU,yU,<-vJ l d,show d+a+s.1+s.2.1=d+(a+s.1+s.2.1) by omega]
theorem UO(T:List Nat):∀(l:List Stp) (a:Nat),OkS T a l->yU a l<=T.length
 | [],_,h=>h
 | _ :: l,_,h=>UO T l _ h.2.2.2.2.2
def oG(T:List Nat):Nat->List Stp->List Nat
 | a,[]=>T.drop a
 | a,s :: l=>(T.take (a+s.1)).drop a++oG T (a+s.1+s.2.1) l
def akw:List Stp->Nat
 | []=>0
 | s :: l=>s.2.1+akw l
theorem lC(T:List Nat):∀(l:List Stp) (a:Nat),yU a l<=T.length->a+(oG T a l).length+akw l=T.length
 | [],a,h=>by
  rw[yU]at h;rw[oG,akw,List.length_drop];omega
 | s :: l,a,h=>by
  rw[yU]at h;have h1:=Ic l (a+s.1+s.2.1);have h2:=lC T l (a+s.1+s.2.1) h;rw[oG,akw,List.length_append,List.length_drop,List.length_take];omega
theorem Cg(T:List Nat):∀(l:List Stp) (a d:Nat),oG T (d+a) l=oG (T.drop d) a l
 | [],a,d=>by rw[oG,oG,List.drop_drop]
 | s :: l,a,d=>by
  rw[oG,oG,<-Cg T l (a+s.1+s.2.1) d,show d+a+s.1+s.2.1=d+(a+s.1+s.2.1) by omega];refine congrArg (·++_) ?_;rw[List.take_drop,List.drop_drop,Nat.add_assoc]
theorem IQ{T:List Nat}(hT:∀x∈T,x<256):∀(l:List Stp) (a:Nat),∀x∈oG T a l,x<256
 | [],_,x,hx=>hT x (List.mem_of_mem_drop hx)
 | _ :: l,_,x,hx=>(List.mem_append.1 hx).elim (fun h=>hT x (List.mem_of_mem_take (List.mem_of_mem_drop h))) (IQ hT l _ x)
def iE(T:List Nat):List Nat->Nat->Nat->List Nat
 | P,_,0=>P
 | P,a,n+1=>iE T (jU T P (a:Int)) (a+1) n
theorem ny(T:List Nat):∀(n:Nat) (P:List Nat) (a:Nat),Places T P->Places T (iE T P a n)
 | 0,_,_,h=>h
 | n+1,P,_,h=>ny T n _ _ (lF T P _ h)
def fQ(T:List Nat)(D:Int):Nat->Nat->List Nat->Nat->List Stp
 | 0,_,_,_=>[]
 | k+1,a,P,n=>
  if T.length<=a then []else
  if (dO T P (a:Int) D).2=0\/(dO T P (a:Int) D).2<(dO T (jU T P (a:Int)) ((a:Int)+1) D).2 then fQ T D k (a+1) (jU T P (a:Int)) (n+1)
  else(n,(dO T P (a:Int) D).2,(dO T P (a:Int) D).1) :: fQ T D k (a+(dO T P (a:Int) D).2) (iE T (jU T P (a:Int)) (a+1) ((dO T P (a:Int) D).2-1)) 0
theorem JW(T:List Nat)(D:Int)(k a:Nat)(P:List Nat)(n:Nat):fQ T D (k+1) a P n=if T.length<=a then []else
  if (dO T P (a:Int) D).2=0\/(dO T P (a:Int) D).2<(dO T (jU T P (a:Int)) ((a:Int)+1) D).2 then fQ T D k (a+1) (jU T P (a:Int)) (n+1)
  else(n,(dO T P (a:Int) D).2,(dO T P (a:Int) D).1) :: fQ T D k (a+(dO T P (a:Int) D).2) (iE T (jU T P (a:Int)) (a+1) ((dO T P (a:Int) D).2-1)) 0:=rfl
theorem nQ(T:List Nat)(k:Nat)(D:Int)(hk:k+3<=T.length):∀(ps:List Nat) (o n s:Nat),Places T ps ->
  vo T k D ps o n s=(o,n)\/∃p,p<k/\vo T k D ps o n s=(k-p,dI T p k)/\3<=dI T p k
 | [],_,_,_,_=>.inl rfl
 | p :: ps,o,n,s,hP=>by
  have hP2:Places T ps:=fun x hx=>hP x (List.mem_cons_of_mem _ hx)
  rw[vo];by_cases hA:three T p=three T k
  ·rw[if_neg (fun h=>h hA)];have hA3:=(FX T p k (hP p List.mem_cons_self) hk).1 hA;split
   ·exact .inl rfl
   ·split
    ·exact nQ T k D hk ps o n (s+1) hP2
    ·next hlt=>
     split
     ·rcases nQ T k D hk ps (k-p) (dI T p k) (s+1) hP2 with h | h
      ·exact .inr ⟨p,by omega,h,hA3⟩
      ·exact .inr h
     ·exact nQ T k D hk ps o n (s+1) hP2
  ·rw[if_pos hA];exact nQ T k D hk ps o n s hP2
theorem find_ok(T P:List Nat)(a:Nat)(D:Int)(hP:Places T P)(h:(dO T P (a:Int) D).2≠0) :
  3<=(dO T P (a:Int) D).2/\1<=(dO T P (a:Int) D).1/\(dO T P (a:Int) D).1<=a/\a+(dO T P (a:Int) D).2<=T.length /\
  (T.take (a-(dO T P (a:Int) D).1+(dO T P (a:Int) D).2)).drop (a-(dO T P (a:Int) D).1)=(T.take (a+(dO T P (a:Int) D).2)).drop a:=by
 rw[dO,rz]at h ⊢;by_cases hr:a+3<=T.length
 ·rw[if_pos (by simp;omega),Int.toNat_natCast]at h ⊢;rcases nQ T a D hr P.reverse 0 0 0 (fun p hp=>hP p (List.mem_reverse.1 hp))with e | ⟨p,hp,e,h3⟩
  ·rw[e]at h;exact absurd rfl h
  ·rw[e];have h2:=(CG T p a).2;refine⟨h3,by show 1<=a-p;omega,by show a-p<=a;omega,by show a+dI T p a<=T.length;omega,?_⟩;show(T.take (a-(a-p)+dI T p a)).drop (a-(a-p))=_;rw[show a-(a-p)=p by omega];exact VZ T p a _ rfl
 ·rw[if_neg (by simp;omega)]at h;exact absurd rfl h
theorem aeF(T P:List Nat)(a:Nat)(D:Int)(hP:Places T P):(dO T P (a:Int) D).1<=a/\(dO T P (a:Int) D).2<=T.length:=by
 rw[dO,rz];by_cases hr:a+3<=T.length
 ·rw[if_pos (by simp;omega),Int.toNat_natCast];rcases nQ T a D hr P.reverse 0 0 0 (fun p hp=>hP p (List.mem_reverse.1 hp))with e | ⟨p,hp,e,h3⟩
  ·rw[e];exact⟨Nat.zero_le _,Nat.zero_le _⟩
  ·rw[e];have h2:=(CG T p a).2;exact⟨by show a-p<=a;omega,by show dI T p a<=T.length;omega⟩
 ·rw[if_neg (by simp;omega)];exact⟨Nat.zero_le _,Nat.zero_le _⟩
theorem CU(T:List Nat)(D:Int):∀(k a:Nat) (P:List Nat) (n:Nat),Places T P->a+n<=T.length->OkS T a (fQ T D k (a+n) P n)
 | 0,a,P,n,_,h=>by rw[fQ];show a<=T.length;omega
 | k+1,a,P,n,hP,h=>by
  rw[fQ];split
  ·show a<=T.length;omega
  ·next hlt=>
   split
   ·have h1:=CU T D k a (jU T P ((a+n:Nat):Int)) (n+1) (lF T P _ hP) (by omega);exact h1
   ·next hf=>
    obtain⟨h1,h2,h3,h4,h5⟩:=find_ok T P (a+n) D hP (fun e=>hf (.inl e));refine⟨h1,h2,h3,h4,h5,?_⟩;have h6:=CU T D k (a+n+(dO T P ((a+n:Nat):Int) D).2) (iE T (jU T P ((a+n:Nat):Int)) (a+n+1) ((dO T P ((a+n:Nat):Int) D).2-1)) 0 (ny T _ _ _ (lF T P _ hP)) (by omega);exact h6
theorem nE(T:List Nat)(D:Int):∀(k a:Nat) (P:List Nat) (n:Nat),(fQ T D k a P n).length<=k
 | 0,_,_,_=>by rw[fQ];exact Nat.le_refl _
 | k+1,a,P,n=>by
  rw[fQ];split
  ·exact Nat.zero_le _
  ·split
   ·exact Nat.le_succ_of_le (nE T D k _ _ _)
   ·rw[List.length_cons];exact Nat.succ_le_succ (nE T D k _ _ _)
def BM(v:Int):Nat:=if v<=0 then 0 else if v=1 then 4 else if v=2 then 16 else 64
def mh(D X:List Nat)(v:Int):List Stp:=
 if BM v=0 then []else fQ (D.drop (D.length-600)++X.take 600) (BM v:Int) (X.take 600).length (D.drop (D.length-600)).length (iE (D.drop (D.length-600)++X.take 600) [] 0 (D.drop (D.length-600)).length) 0
theorem WE(D X:List Nat)(v:Int):OkS (D.drop (D.length-600)++X.take 600) (D.drop (D.length-600)).length (mh D X v):=by
 unfold mh;split
 ·show(D.drop (D.length-600)).length<=_;rw[List.length_append];omega
 ·generalize D.drop (D.length-600)=D';generalize X.take 600=X';have h:=CU (D'++X') (BM v:Int) X'.length D'.length (iE (D'++X') [] 0 D'.length) 0 (ny _ _ _ _ (fun p hp=>by simp at hp)) (by rw[List.length_append];omega);rw[Nat.add_zero]at h;exact h
theorem rE(D X:List Nat)(v:Int):(mh D X v).length<=600:=by
 rw[mh];split
 ·rw[List.length_nil];omega
 ·refine Nat.le_trans (nE _ _ _ _ _ _) ?_;rw[List.length_take];omega
theorem JV(D X:List Nat)(v:Int)(hv:v<=0):mh D X v=[]:=by
 have h:BM v=0:=by unfold BM;rw[if_pos hv]
 rw[mh,if_pos h]
theorem getD_at{l:List Nat}{i:Nat}(h:i<l.length):l.getD i 0=l[i]:=by simp[List.getD,h]
theorem Zj{l:List Nat}{i:Nat}(h:l.length<=i):l.getD i 0=0:=by simp[List.getD,h]
def sJ(o:Nat):Nat->List Nat->List Nat
 | 0,A=>A
 | m+1,A=>sJ o m (A++[A.getD (A.length-o) 0])
theorem uH(o:Nat):∀(m:Nat) (A:List Nat),(sJ o m A).length=A.length+m
 | 0,_=>rfl
 | m+1,A=>by rw[sJ,uH o m,List.length_append,List.length_singleton];omega
theorem KO(o:Nat):∀(m:Nat) (A:List Nat),(∀x∈A,x<256)->∀x∈sJ o m A,x<256
 | 0,_,h=>h
 | m+1,A,h=>by
  rw[sJ];refine KO o m _ (fun x hx=>?_);rcases List.mem_append.1 hx with hx | hx
  ·exact h x hx
  ·rw[List.mem_singleton.1 hx];rcases Nat.lt_or_ge (A.length-o) A.length with h1 | h1
   ·rw[getD_at h1];exact h _ (List.getElem_mem h1)
   ·rw[Zj h1];omega
def mI(a lim:Nat):Nat->Nat->List StZ->Nat×Nat
 | n,L,[]=>if lim<n+L then(0,5)else(n+L,0)
 | n,L,s :: l=>
  if s.1<0\/(L:Int)<s.1 then(0,3)else
  if lim<n+s.1.toNat then(0,5)else
  if s.2.1<3\/s.2.2<1\/((a+n+s.1.toNat:Nat):Int)<s.2.2 then(0,3)else
  if lim<n+s.1.toNat+s.2.1.toNat then(0,5)else
  mI a lim (n+s.1.toNat+s.2.1.toNat) (L-s.1.toNat) l
def rO:List Nat->List Nat->List StZ->List Nat
 | A,L,[]=>A++L
 | A,L,s :: l=>rO (sJ s.2.2.toNat s.2.1.toNat (A++L.take s.1.toNat)) (L.drop s.1.toNat) l
def vC(D L:List Nat)(l:List StZ)(lim:Nat):List Nat×Nat:=
 if (mI D.length lim 0 L.length l).2=0 then((rO D L l).drop D.length,0)else([],(mI D.length lim 0 L.length l).2)
theorem qL(a lim n L:Nat)(x m o:Int)(l:List StZ):mI a lim n L ((x,m,o) :: l) =
  if x<0\/(L:Int)<x then(0,3)else
  if lim<n+x.toNat then(0,5)else
  if m<3\/o<1\/((a+n+x.toNat:Nat):Int)<o then(0,3)else
  if lim<n+x.toNat+m.toNat then(0,5)else
  mI a lim (n+x.toNat+m.toNat) (L-x.toNat) l:=rfl
theorem ou(A L:List Nat)(x m o:Int)(l:List StZ):rO A L ((x,m,o) :: l)=rO (sJ o.toNat m.toNat (A++L.take x.toNat)) (L.drop x.toNat) l:=rfl
theorem Cv{a lim n L N:Nat}{s:StZ}{l:List StZ}(h:mI a lim n L (s :: l)=(N,0)):∃x m o:Nat,s=((x:Int),(m:Int),(o:Int))/\x<=L/\3<=m/\1<=o/\o<=a+n+x/\n+x+m<=lim/\mI a lim (n+x+m) (L-x) l=(N,0):=by
 obtain⟨x,m,o⟩:=s;rw[qL]at h;split at h
 ·simp at h
 ·next h1=>
  split at h
  ·simp at h
  ·next h2=>
   split at h
   ·simp at h
   ·next h3=>
    split at h
    ·simp at h
    ·next h4=>
     obtain⟨x,rfl⟩:=Int.eq_ofNat_of_zero_le (by omega:0<=x);obtain⟨m,rfl⟩:=Int.eq_ofNat_of_zero_le (by omega:0<=m);obtain⟨o,rfl⟩:=Int.eq_ofNat_of_zero_le (by omega:0<=o);simp only[Int.toNat_natCast]at h h1 h2 h3 h4;exact⟨x,m,o,rfl,by omega,by omega,by omega,by omega,by omega,h⟩
theorem xB{a lim N:Nat}:∀{l:List StZ} {n L:Nat},mI a lim n L l=(N,0)->n+L<=N/\N<=lim
 | [],n,L,h=>by
  rw[mI]at h;split at h
  ·simp at h
  ·injection h with h;omega
 | s :: l,n,L,h=>by
  obtain⟨x,m,o,_,h1,h2,h3,h4,h5,h6⟩:=Cv h;have:=xB h6;omega
theorem Ce{a lim:Nat}:∀(l:List StZ) (n L:Nat),(mI a lim n L l).2=0\/mI a lim n L l=(0,3)\/mI a lim n L l=(0,5)
 | [],n,L=>by
  rw[mI];split
  ·exact .inr (.inr rfl)
  ·exact .inl rfl
 | (x,m,o) :: l,n,L=>by
  rw[qL];split
  ·exact .inr (.inl rfl)
  ·split
   ·exact .inr (.inr rfl)
   ·split
    ·exact .inr (.inl rfl)
    ·split
     ·exact .inr (.inr rfl)
     ·exact Ce l _ _
theorem LA{a lim n L:Nat}{l:List StZ}(h:(mI a lim n L l).2=0):mI a lim n L l=((mI a lim n L l).1,0):=by
 rw[<-h]
theorem nH{a lim N:Nat}:∀{l:List StZ} {n:Nat} {A L:List Nat},mI a lim n L.length l=(N,0)->A.length=a+n->(rO A L l).length=a+N
 | [],n,A,L,h,hA=>by
  rw[mI]at h;split at h
  ·simp at h
  ·injection h with h
   rw[rO,List.length_append];omega
 | s :: l,n,A,L,h,hA=>by
  obtain⟨x,m,o,rfl,h1,h2,h3,h4,h5,h6⟩:=Cv h;rw[ou,Int.toNat_natCast,Int.toNat_natCast,Int.toNat_natCast];refine nH (n:=n+x+m) (by rw[List.length_drop];exact h6) ?_;rw[uH,List.length_append,List.length_take];omega
theorem CZ:∀(l:List StZ) (A L:List Nat),(∀x∈A,x<256)->(∀x∈L,x<256)->∀x∈rO A L l,x<256
 | [],A,L,hA,hL=>fun x hx=>(List.mem_append.1 hx).elim (hA x) (hL x)
 | (x,m,o) :: l,A,L,hA,hL=>by
  rw[ou];exact CZ l _ _ (KO _ _ _ (fun z hz=>(List.mem_append.1 hz).elim (hA z) (fun h=>hL z (List.mem_of_mem_take h)))) (fun z hz=>hL z (List.mem_of_mem_drop hz))
theorem Ab(T:List Nat)(d lim:Nat):∀(l:List Stp) (n:Nat),OkS T (d+n) l->mI d lim n (oG T (d+n) l).length (l.map sw)=if d+lim<T.length then(0,5)else(T.length-d,0)
 | [],n,h=>by
  have h1:d+n<=T.length:=h;rw[List.map_nil,oG,mI,List.length_drop];by_cases h2:d+lim<T.length
  ·rw[if_pos h2,if_pos (by omega)]
  ·rw[if_neg h2,if_neg (by omega),show n+(T.length-(d+n))=T.length-d by omega]
 | (x,m,o) :: l,n,h=>by
  obtain⟨e1,e2,e3,e4,e5,e6⟩:=h;simp only at e1 e2 e3 e4 e5 e6;have ih:=Ab T d lim l (n+x+m) (by rw[show d+(n+x+m)=d+n+x+m by omega];exact e6);rw[show d+(n+x+m)=d+n+x+m by omega]at ih;have hl:(oG T (d+n) ((x,m,o) :: l)).length=x+(oG T (d+n+x+m) l).length:=by
   rw[oG,List.length_append,List.length_drop,List.length_take];simp only;omega
  rw[List.map_cons,sw,qL,hl];simp only[Int.toNat_natCast];rw[if_neg (by omega)];by_cases h2:d+lim<T.length
  ·by_cases h3:lim<n+x
   ·rw[if_pos h3,if_pos h2]
   ·rw[if_neg h3,if_neg (by omega)];by_cases h4:lim<n+x+m
    ·rw[if_pos h4,if_pos h2]
    ·rw[if_neg h4,Nat.add_sub_cancel_left];exact ih
  ·rw[if_neg (by omega),if_neg (by omega),if_neg (by omega),Nat.add_sub_cancel_left];exact ih
theorem abk{T:List Nat}{a b m:Nat}(h:(T.take (a+m)).drop a=(T.take (b+m)).drop b)(j:Nat)(hj:j<m):T[a+j]?=T[b+j]?:=by
 have e:=congrArg (fun l:List Nat=>l[j]?) h;simp only[List.getElem?_drop]at e;rw[List.getElem?_take_of_lt (by omega),List.getElem?_take_of_lt (by omega)]at e;exact e
theorem zL{T:List Nat}{o:Nat}(ho:1<=o):∀(m b:Nat),b+m<=T.length->o<=b->(∀j,j<m->T[b-o+j]?=T[b+j]?)->sJ o m (T.take b)=T.take (b+m)
 | 0,_,_,_,_=>rfl
 | m+1,b,hb,hob,hj=>by
  have hl:(T.take b).length=b:=by rw[List.length_take];omega
  have e:(T.take b).getD ((T.take b).length-o) 0=T[b]'(by omega):=by
   rw[hl,getD_at (by omega),List.getElem_take];have h0:=hj 0 (by omega);rw[Nat.add_zero,Nat.add_zero,List.getElem?_eq_getElem (by omega),List.getElem?_eq_getElem (by omega)]at h0;injection h0
  rw[sJ,e,<-List.take_succ_eq_append_getElem (by omega:b<T.length),zL ho m (b+1) (by omega) (by omega) (fun j h=>by
   have:=hj (j+1) (by omega);rw[show b+1-o+j=b-o+(j+1) by omega,show b+1+j=b+(j+1) by omega];exact this),show b+1+m=b+(m+1) by omega]
theorem yE(T:List Nat):∀(l:List Stp) (a:Nat),OkS T a l->rO (T.take a) (oG T a l) (l.map sw)=T
 | [],a,_=>by rw[List.map_nil,oG,rO,List.take_append_drop]
 | (x,m,o) :: l,a,h=>by
  obtain⟨e1,e2,e3,e4,e5,e6⟩:=h;simp only at e1 e2 e3 e4 e5 e6;have hx:((T.take (a+x)).drop a).length=x:=by rw[List.length_drop,List.length_take];omega
  have ht:T.take a++(T.take (a+x)).drop a=T.take (a+x):=by
   have h1:=List.take_append_drop a (T.take (a+x));rw[List.take_take,Nat.min_eq_left (by omega)]at h1;exact h1
  rw[List.map_cons,sw,ou];simp only[Int.toNat_natCast];rw[oG];simp only;rw[List.take_left' hx,List.drop_left' hx,ht,zL e2 m (a+x) (by omega) (by omega) (fun j hj=>abk e5 j hj)];exact yE T l (a+x+m) e6
theorem Lx{a lim n L:Nat}{l:List StZ}{k:Nat}(hk:k<l.length):mI a lim n L (l.drop k)=mI a lim n L (l[k] :: l.drop (k+1)):=by
 rw[List.drop_eq_getElem_cons hk]
theorem Rt(D X:List Nat)(l:List Stp)(lim:Nat)(h:OkS (D++X) D.length l):vC D (oG X 0 l) (l.map sw) lim=if lim<X.length then([],5)else(X,0):=by
 have hl:oG (D++X) D.length l=oG X 0 l:=by
  have e:=Cg (D++X) l 0 D.length;rwa [Nat.add_zero,List.drop_left]at e
 have h1:=Ab (D++X) D.length lim l 0 (by rw[Nat.add_zero];exact h);rw[Nat.add_zero,hl,List.length_append]at h1;have h2:=yE (D++X) l D.length h;rw[List.take_left,hl]at h2;rw[vC,h1,h2,List.drop_left];by_cases h3:lim<X.length
 ·rw[if_pos h3,if_pos (show D.length+lim<D.length+X.length by omega),if_neg (by decide)]
 ·rw[if_neg h3,if_neg (show ¬D.length+lim<D.length+X.length by omega),if_pos rfl]
theorem LW(T:List Nat):∀(l:List Stp) (a:Nat),OkS T a l->∀s∈l,s.1<=T.length/\s.2.1<=T.length/\s.2.2<=T.length
 | [],_,_,s,hs=>by simp at hs
 | t :: l,a,h,s,hs=>by
  obtain⟨e1,e2,e3,e4,_,e6⟩:=h;rcases List.mem_cons.1 hs with rfl | hs
  ·omega
  ·exact LW T l _ e6 s hs
end Go.Proofs.YtaebnkeddcbmkaaGreat.Bm
namespace Go.Proofs.YtaebnkeddcbmkaaGreat
open Go.RowKit
theorem Row.below{w w':World}{b:Nat}{t:TypeId}{cs:List Value}(h:Row w b t cs)(hb:Below w.heap.size w w'):Row w' b t cs:=h.keep (hb.block b h.lt)
theorem gB{w:World}{b:Nat}{t:TypeId}{x y z:Value}(h:Row w b t [x,y,z]):w.cell? ⟨b,0,none⟩=some x/\w.cell? ⟨b,1,none⟩=some y/\w.cell? ⟨b,2,none⟩=some z:=by
 have h0:=h.cell 0;have h1:=h.cell 1;have h2:=h.cell 2;simp only[List.getElem?_cons_zero,List.getElem?_cons_succ]at h0 h1 h2;exact⟨h0,h1,h2⟩
end Go.Proofs.YtaebnkeddcbmkaaGreat
namespace Go.Proofs.YtaebnkeddcbmkaaGreat.Bm
def yV(T:List Nat)(p:Nat):Nat:=(three T p).foldl (fun a c=>a*256+c) 0%2003
theorem TM(T:List Nat)(p:Nat):yV T p<2003:=Nat.mod_lt _ (by decide)
theorem afd{T:List Nat}{p q:Nat}(h:three T p=three T q):yV T p=yV T q:=by unfold yV;rw[h]
def GI(T P:List Nat)(c:Nat):List Nat:=(P.filter fun p=>yV T p == c).reverse
theorem aeo(T P:List Nat)(a:Nat):GI T (P++[a]) (yV T a)=a :: GI T P (yV T a):=by
 unfold GI;rw[List.filter_append,List.reverse_append,List.filter_cons_of_pos (by simp)];simp
theorem YH(T P:List Nat)(a c:Nat)(h:yV T a≠c):GI T (P++[a]) c=GI T P c:=by
 unfold GI;rw[List.filter_append,List.filter_cons_of_neg (by simpa using h)];simp
theorem BF{T P:List Nat}{c p:Nat}(h:p∈GI T P c):p∈P:=by
 unfold GI at h;rw[List.mem_reverse]at h;exact(List.mem_filter.1 h).1
theorem GJ(T P:List Nat)(c:Nat):(GI T P c).length<=P.length:=by
 unfold GI;rw[List.length_reverse];exact List.length_filter_le _ _
def Lnk(A:Nat->Nat):Nat->List Nat->Prop
 | v,[]=>v=0
 | v,p :: ps=>v=p+1/\Lnk A (A p) ps
theorem Lnk.congr{A B:Nat->Nat}:∀{ps:List Nat} {v:Nat},Lnk A v ps->(∀p∈ps,B p=A p)->Lnk B v ps
 | [],_,h,_=>h
 | p :: ps,_,h,hb=>⟨h.1,by rw[hb p List.mem_cons_self];exact Lnk.congr h.2 (fun q hq=>hb q (List.mem_cons_of_mem _ hq))⟩
def ZW(A:Nat->Nat):Nat->Nat->Nat
 | 0,_=>0
 | f+1,v=>if v=0 then 0 else 1+ZW A f (A (v-1))
theorem IV{A:Nat->Nat}:∀(f:Nat) (v:Nat) (ps:List Nat),Lnk A v ps->ps.length<=f->ZW A f v=ps.length
 | 0,v,[],_,_=>rfl
 | 0,v,p :: ps,_,hl=>by simp at hl
 | f+1,v,[],h,_=>by
  rw[ZW,if_pos (show v=0 from h)];rfl
 | f+1,v,p :: ps,h,hl=>by
  have hv:v=p+1:=h.1;subst hv;rw[ZW,if_neg (by omega),Nat.add_sub_cancel,IV f (A p) ps h.2 (by simpa using hl),List.length_cons];omega
def Gm(T P:List Nat)(L A:Nat->Nat):Prop:=∀c,c<2003->Lnk A (L c) (GI T P c)
theorem Gm.zero(T:List Nat):Gm T [] (fun _=>0) (fun _=>0):=fun _ _=>rfl
theorem Gm.note{T P:List Nat}{L A:Nat->Nat}(h:Gm T P L A)(a:Nat)(ha:a ∉ P) :
  Gm T (P++[a]) (fun c=>if c=yV T a then a+1 else L c) (fun p=>if p=a then L (yV T a)else A p):=by
 intro c hc;have hold:∀v ps,Lnk A v ps->(∀p∈ps,p∈P)->Lnk (fun p=>if p=a then L (yV T a)else A p) v ps:=fun v ps h1 h2=>
  h1.congr fun p hp=>if_neg (fun e=>ha (by have h3:=h2 p hp;rwa [show p=a from e]at h3))
 by_cases hca:c=yV T a
 ·subst hca;rw[aeo];refine⟨if_pos rfl,?_⟩;simp only[if_true];exact hold _ _ (h _ hc) fun p hp=>BF hp
 ·rw[YH T P a c (fun e=>hca e.symm)];simp only[if_neg hca];exact hold _ _ (h _ hc) fun p hp=>BF hp
theorem adf{A:Nat->Nat}{v:Nat}{ps:List Nat}{n:Nat}(h:Lnk A v ps)(hp:∀p∈ps,p<n):v<=n:=by
 cases ps with
 | nil=>have:v=0:=h;omega
 | cons p ps=>have h1:v=p+1:=h.1;have:=hp p List.mem_cons_self;omega
def mo(T:List Nat)(a:Nat):List Nat->Nat->Nat->Nat->Nat×Nat
 | [],o,n,_=>(o,n)
 | p :: ps,o,n,l=>
  if l=0 then(o,n)
  else if dI T p a<3 then mo T a ps o n l
  else if p<a/\(n<dI T p a\/(dI T p a=n/\a-p<o))then mo T a ps (a-p) (dI T p a) (l-1)
  else mo T a ps o n (l-1)
theorem zR(T:List Nat)(a:Nat)(ps:List Nat)(o n:Nat):mo T a ps o n 0=(o,n):=by
 cases ps with
 | nil=>rfl
 | cons p ps=>rw[mo,if_pos rfl]
theorem zS(T:List Nat)(a:Nat)(depth:Int):∀(ps:List Nat) (o n s:Nat),(depth<((s+1:Nat):Int)\/1000<s+1)->vo T a depth ps o n s=(o,n)
 | [],_,_,_,_=>rfl
 | p :: ps,o,n,s,h=>by
  rw[vo];by_cases h3:three T p≠three T a
  ·rw[if_pos h3];exact zS T a depth ps o n s h
  ·rw[if_neg h3,if_pos h]
theorem sO(T:List Nat)(a:Nat)(depth:Int)(ha:a+3<=T.length):∀(ps:List Nat) (o n s:Nat),(∀p∈ps,p+3<=T.length) ->
  vo T a depth ps o n s=mo T a (ps.filter fun p=>yV T p == yV T a) o n (min depth 1000-s).toNat
 | [],_,_,_,_=>rfl
 | p :: ps,o,n,s,hp=>by
  have hp1:=hp p List.mem_cons_self;have hp2:∀q∈ps,q+3<=T.length:=fun q hq=>hp q (List.mem_cons_of_mem _ hq)
  have h3:=FX T p a hp1 ha;by_cases hs:depth<((s+1:Nat):Int)\/1000<s+1
  ·rw[zS T a depth _ o n s hs,show(min depth 1000-(s:Int)).toNat=0 by omega,zR]
  ·have hl0:¬(min depth 1000-(s:Int)).toNat=0:=by omega
   have hl:(min depth 1000-(s:Int)).toNat-1=(min depth 1000-((s+1:Nat):Int)).toNat:=by omega
   rw[vo];by_cases hA:three T p=three T a
   ·have hA3:¬dI T p a<3:=by have:=h3.1 hA;omega
    rw[if_neg (fun h=>h hA),if_neg hs,List.filter_cons_of_pos (by simpa using afd hA),mo,if_neg hl0,if_neg hA3,hl];by_cases hB:a<=p
    ·have hB2:¬(p<a/\(n<dI T p a\/(dI T p a=n/\a-p<o))):=fun h=>by omega
     rw[if_pos hB,if_neg hB2];exact sO T a depth ha ps o n (s+1) hp2
    ·rw[if_neg hB];by_cases hC:n<dI T p a\/(dI T p a=n/\a-p<o)
     ·have hC2:p<a/\(n<dI T p a\/(dI T p a=n/\a-p<o)):=⟨by omega,hC⟩;rw[if_pos hC,if_pos hC2];exact sO T a depth ha ps _ _ (s+1) hp2
     ·have hC2:¬(p<a/\(n<dI T p a\/(dI T p a=n/\a-p<o))):=fun h=>hC h.2
      rw[if_neg hC,if_neg hC2];exact sO T a depth ha ps _ _ (s+1) hp2
   ·have hA3:dI T p a<3:=by
     rcases Nat.lt_or_ge (dI T p a) 3 with h | h
     ·exact h
     ·exact absurd (h3.2 h) hA
    rw[if_pos hA];by_cases hh:yV T p=yV T a
    ·rw[List.filter_cons_of_pos (by simpa using hh),mo,if_neg hl0,if_pos hA3];exact sO T a depth ha ps o n s hp2
    ·rw[List.filter_cons_of_neg (by simpa using hh)];exact sO T a depth ha ps o n s hp2
theorem aeE(T P:List Nat)(a:Nat)(depth:Int)(ha:a+3<=T.length)(hP:Places T P) :
  dO T P (a:Int) depth=mo T a (GI T P (yV T a)) 0 0 (min depth 1000).toNat:=by
 rw[dO,rz,if_pos (by simp;omega),Int.toNat_natCast,sO T a depth ha P.reverse 0 0 0 (fun p hp=>hP p (by simpa using hp)),GI,List.filter_reverse];simp
end Go.Proofs.YtaebnkeddcbmkaaGreat.Bm
