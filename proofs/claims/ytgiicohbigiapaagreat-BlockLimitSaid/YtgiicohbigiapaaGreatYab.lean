/- Contracts, and what they rest on. Conditions: the theorems' premises. -/
import Derived.Test.YtgiicohbigiapaaGreatYaa
import Derived.Test.YtgiicohbigiapaaGreatRows
import Derived.WalkSpells
import Derived.WalkLawsBesides
set_option maxHeartbeats 4000000
set_option maxRecDepth 100000
open Go.Proofs.YtgiicohbigiapaaGreat.Bm
namespace Go.Proofs.YtgiicohbigiapaaGreat
open Go.RowKit
def Row(w:World)(g:Nat)(t:TypeId)(cs:List Value):Prop:=w.heap[g]?=some (.cells cs.toArray t (0,0))
def uL(w:World)(g:Nat)(t:TypeId):Prop:=∃cs u fz,w.heap[g]?=some (.cells cs u fz)∧u≠t
section
variable {w w':World} {g:Nat} {t:TypeId} {cs:List Value}
theorem Row.lt(h:Row w g t cs):g<w.heap.size:=by
 rcases Nat.lt_or_ge g w.heap.size with h1 | h1
 ·exact h1
 ·unfold Row at h;rw[Array.getElem?_eq_none h1]at h;cases h
theorem Row.cell(h:Row w g t cs)(i:Nat):w.cell? ⟨g,i,none⟩=cs[i]?:=by
 rw[cell_of_row w g i cs.toArray t (0,0) h];simp
theorem Row.free(h:Row w g t cs)(i:Nat):w.frozen? ⟨g,i,none⟩=false:=by
 unfold Row at h;simp[World.frozen?,h]
theorem Row.new(w:World)(t:TypeId)(cs:List Value):Row (w.alloc (.cells cs.toArray t)) w.heap.size t cs:=heap_alloc_new w _
theorem Row.Jh{u:TypeId}(h:Row w g t cs)(hne:t≠u):uL w g u:=⟨_,_,_,h,hne⟩
theorem uL.ne{g':Nat}(h:uL w g t)(h':Row w g' t cs):g'≠g:=by
 rintro rfl;obtain⟨a,b,c,h1,h2⟩:=h;unfold Row at h';rw[h1]at h';injection h' with h'
 injection h' with _ h3
 exact h2 h3
theorem uL.lt(h:uL w g t):g<w.heap.size:=by
 obtain⟨a,b,c,h1,_⟩:=h;rcases Nat.lt_or_ge g w.heap.size with h2 | h2
 ·exact h2
 ·rw[Array.getElem?_eq_none h2]at h1;cases h1
theorem Row.keep(h:Row w g t cs)(hb:w'.heap[g]?=w.heap[g]?):Row w' g t cs:=hb.trans h
theorem uL.keep(h:uL w g t)(hb:w'.heap[g]?=w.heap[g]?):uL w' g t:=by
 obtain⟨a,b,c,h1,h2⟩:=h;exact⟨a,b,c,hb.trans h1,h2⟩
theorem Row.alloc(h:Row w g t cs)(o:Obj):Row (w.alloc o) g t cs:=h.keep (Below.heap_alloc w o g h.lt)
theorem Row.far(h:Row w g t cs){p:Addr}(hp:g≠p.block)(u:Value):Row (w.setCell p u) g t cs:=h.keep (Below.heap_setCell w p u g hp)
theorem Row.aY(h:Row w g t cs)(i:Nat)(u:Value):Row (w.setCell ⟨g,i,none⟩ u) g t (cs.set i u):=by
 unfold Row at h ⊢;simp[World.setCell,Array.getElem?_modify,h]
theorem uL.setCell(h:uL w g t)(p:Addr)(u:Value):uL (w.setCell p u) g t:=by
 by_cases hp:g=p.block
 ·obtain⟨a,b,c,h1,h2⟩:=h;by_cases hs:p.spot.isSome=true
  ·exact⟨a,b,c,by simp[World.setCell,Array.getElem?_modify,←hp,h1,hs],h2⟩
  ·exact⟨a.setIfInBounds p.off u,b,c,by simp[World.setCell,Array.getElem?_modify,←hp,h1,hs],h2⟩
 ·exact h.keep (Below.heap_setCell w p u g hp)
theorem uL.alloc(h:uL w g t)(o:Obj):uL (w.alloc o) g t:=h.keep (Below.heap_alloc w o g h.lt)
end
section
variable {w w' w'':World} {row:Option Nat}
theorem aj(h:Below w.heap.size w w')(row:Option Nat):w.grownBy w' row:=⟨h.os,h.tape,h.output,h.size,fun i hi _=>h.block i hi⟩
theorem ak(w:World)(row:Option Nat):w.grownBy w row:=⟨rfl,rfl,rfl,Nat.le_refl _,fun _ _ _=>rfl⟩
theorem bg(h:w.grownBy w' row)(k:Nat):w.grownBy (w'.drewN k) row:=⟨h.os,h.tape,h.output,h.size,h.block⟩
theorem bA(h:w.grownBy w' row):w.grownBy w'.drew row:=⟨h.os,h.tape,h.output,h.size,h.block⟩
theorem aD(h:w.grownBy w' row)(o:Obj):w.grownBy (w'.alloc o) row:=
 ⟨h.os,h.tape,h.output,Nat.le_trans h.size (by simp),fun i hi hn=>(Below.heap_alloc w' o i (Nat.lt_of_lt_of_le hi h.size)).trans (h.block i hi hn)⟩
theorem aH{b:Nat}(h:w.grownBy w' (some b))(i:Nat)(u:Value):w.grownBy (w'.setCell ⟨b,i,none⟩ u) (some b):=
 ⟨h.os,h.tape,h.output,by simpa [World.setCell]using h.size,fun k hk hn=>(Below.heap_setCell w' ⟨b,i,none⟩ u k (fun e=>hn (by rw[e]))).trans (h.block k hk hn)⟩
theorem below_grown{B b:Nat}(h:w.grownBy w' (some b))(hb:B≤b)(hB:B≤w.heap.size):Below B w w':=
 ⟨h.os,h.tape,h.output,h.size,fun k hk=>h.block k (by omega) (fun e=>by injection e with e;omega)⟩
end
def strOf(bs:List Nat):ByteArray:=⟨(bs.map UInt8.ofNat).toArray⟩
theorem aA(bs:List Nat):(strOf bs).size=bs.length:=by simp[strOf,ByteArray.size]
def u8s(l:List Nat):List Value:=l.map fun b:Nat=>.int .u8 (b:Int)
def aL(l:List Nat):List Value:=l.map fun b:Nat=>.int .i64 (b:Int)
theorem aO(l:List Nat):(u8s l).length=l.length:=by simp[u8s]
theorem aM(l:List Nat):(aL l).length=l.length:=by simp[aL]
theorem bD(l:List Nat)(i:Nat)(h:i<l.length):(u8s l)[i]?=some (.int .u8 (l[i]:Int)):=by simp[u8s,h]
theorem bK(l:List Nat)(i:Nat)(h:i<l.length):(aL l)[i]?=some (.int .i64 (l[i]:Int)):=by simp[aL,h]
theorem wU(l:List Nat)(i b:Nat):(u8s l).set i (.int .u8 (b:Int))=u8s (l.set i b):=by simp[u8s,List.map_set]
theorem ou(l m:List Nat):aL l++aL m=aL (l++m):=by simp[aL]
def Reads(w:World)(A:Option Addr)(xs:List Value):Prop:=xs≠[]→∃g off,A=some ⟨g,off,none⟩∧∀j,j<xs.length→w.cell? ⟨g,off+j,none⟩=xs[j]?
def Chain(w:World):Option Addr→List Nat→Prop
 | p,[]=>p=none
 | p,u :: us=>∃g q,p=some ⟨g,0,none⟩∧Row w g 192 [.pointer q,.int .u64 (u:Int)]∧Chain w q us
theorem Chain.keep{w w':World}(hk:∀g cs,Row w g 192 cs→Row w' g 192 cs):∀(us:List Nat) (p:Option Addr),Chain w p us→Chain w' p us
 | [],_,h=>h
 | _ :: us,_,⟨g,q,hp,hr,hc⟩=>⟨g,q,hp,hk _ _ hr,Chain.keep hk us q hc⟩
theorem oL{w w':World}{row:Option Nat}(hg:w.grownBy w' row)(hr:∀g,row=some g→uL w g 192):∀g cs,Row w g 192 cs→Row w' g 192 cs:=
 fun g _ h=>h.keep (hg.block g h.lt (fun e=>(hr g e.symm).ne h rfl))
def WS(w:World)(b off N n:Nat):Prop:=∃(p:Option Addr) (rest:Nat) (us:List Nat),
 w.cell? ⟨b,off,none⟩=some (.pointer p)∧w.cell? ⟨b,off+1,none⟩=some (.int .u64 (rest:Int))∧w.cell? ⟨b,off+2,none⟩=some (.int .i64 (n:Int)) ∧
 w.frozen? ⟨b,off,none⟩=false∧w.frozen? ⟨b,off+1,none⟩=false∧w.frozen? ⟨b,off+2,none⟩=false∧uL w b 192∧Chain w p us∧WOk N n rest us
theorem WS.keep{w w':World}{b off N n:Nat}{row:Option Nat}(h:WS w b off N n)(hg:w.grownBy w' row)(hb:row≠some b)(hr:∀g,row=some g→uL w g 192):WS w' b off N n:=by
 obtain⟨p,rest,us,h0,h1,h2,f0,f1,f2,hn,hc,hw⟩:=h;have hl:=hg.block b hn.lt (fun e=>hb e.symm);exact⟨p,rest,us,(World.cell?_of_block hl).trans h0,(World.cell?_of_block hl).trans h1,(World.cell?_of_block hl).trans h2,(World.frozen?_of_block hl).trans f0,(World.frozen?_of_block hl).trans f1,
  (World.frozen?_of_block hl).trans f2,hn.keep hl,hc.keep (oL hg hr),hw⟩
theorem WS.drewN{w:World}{b off N n:Nat}(h:WS w b off N n)(k:Nat):WS (w.drewN k) b off N n:=h.keep (row:=none) (bg (ak _ _) k) (by simp) (by simp)
theorem WS.drew{w:World}{b off N n:Nat}(h:WS w b off N n):WS w.drew b off N n:=h.keep (row:=none) (bA (ak _ _)) (by simp) (by simp)
theorem WS.new(w:World)(t:TypeId)(ht:t≠192):WS (w.alloc (.cells #[.pointer none,.int .u64 0,.int .i64 0] t)) w.heap.size 0 0 0:=by
 have h:Row (w.alloc (.cells #[.pointer none,.int .u64 0,.int .i64 0] t)) w.heap.size t [.pointer none,.int .u64 0,.int .i64 0]:=Row.new w t _;exact⟨none,0,[],h.cell 0,h.cell 1,h.cell 2,h.free 0,h.free 1,h.free 2,h.Jh ht,rfl,WOk.zero⟩
def RS(w:World)(b off:Nat)(bs:List Nat)(pos:Nat):Prop:=
 w.cell? ⟨b,off,none⟩=some (.string (strOf bs))∧w.cell? ⟨b,off+1,none⟩=some (.int .i64 (pos:Int))∧w.frozen? ⟨b,off+1,none⟩=false∧b<w.heap.size
theorem RS.keep{w w':World}{b off pos:Nat}{bs:List Nat}{row:Option Nat}(h:RS w b off bs pos)(hg:w.grownBy w' row)(hb:row≠some b):RS w' b off bs pos:=by
 obtain⟨h0,h1,h2,h3⟩:=h;have hl:=hg.block b h3 (fun e=>hb e.symm);exact⟨(World.cell?_of_block hl).trans h0,(World.cell?_of_block hl).trans h1,(World.frozen?_of_block hl).trans h2,Nat.lt_of_lt_of_le h3 hg.size⟩
theorem RS.drewN{w:World}{b off pos:Nat}{bs:List Nat}(h:RS w b off bs pos)(k:Nat):RS (w.drewN k) b off bs pos:=h.keep (row:=none) (bg (ak _ _) k) (by simp)
end Go.Proofs.YtgiicohbigiapaaGreat
namespace Go.Proofs.YtgiicohbigiapaaGreat.Bm
def rH:List Nat→List Nat→Nat
 | a :: x,b :: y=>if a=b then 1+rH x y else 0
 | _,_=>0
def dF(T:List Nat)(a b:Nat):Nat:=rH (T.drop a) (T.drop b)
theorem ny(T:List Nat)(a b:Nat)(ha:a<T.length)(hb:b<T.length):dF T a b=if T[a]=T[b]then 1+dF T (a+1) (b+1)else 0:=by
 unfold dF;rw[List.drop_eq_getElem_cons ha,List.drop_eq_getElem_cons hb,rH]
theorem Dy(T:List Nat)(a b:Nat)(h:T.length≤a∨T.length≤b):dF T a b=0:=by
 unfold dF;rcases h with h | h
 ·rw[List.drop_of_length_le h];rfl
 ·rw[List.drop_of_length_le h];cases T.drop a<;>rfl
theorem JC:∀x y:List Nat,rH x y≤x.length∧rH x y≤y.length
 | [],y=>by simp[rH]
 | _ :: _,[]=>by simp[rH]
 | a :: x,b :: y=>by
  have h:=JC x y;unfold rH;split
  ·simp only[List.length_cons];omega
  ·simp
theorem AJ(T:List Nat)(a b:Nat):dF T a b≤T.length-a∧dF T a b≤T.length-b:=by
 have h:=JC (T.drop a) (T.drop b);rw[List.length_drop,List.length_drop]at h;exact h
def Mg(T:List Nat)(a b:Int):Nat:=if 0≤a∧0≤b∧a≤T.length∧b≤T.length then dF T a.toNat b.toNat else 0
def qb(T:List Nat)(a:Int):Bool:=decide (0≤a∧a+3≤T.length)
def FH(T:List Nat)(P:List Nat)(a:Int):Bool:=qb T a && !P.any (fun p=>decide ((p:Int)=a))
def jF(T:List Nat)(P:List Nat)(a:Int):List Nat:=if FH T P a then P++[a.toNat]else P
def three(T:List Nat)(p:Nat):List Nat:=(T.take (p+3)).drop p
def tF(T:List Nat)(a:Nat)(depth:Int):List Nat→Nat→Nat→Nat→Nat×Nat
 | [],o,n,_=>(o,n)
 | p :: ps,o,n,s=>
  if three T p≠three T a then tF T a depth ps o n s
  else if depth<((s+1:Nat):Int)∨1000<s+1 then(o,n)
  else if a≤p then tF T a depth ps o n (s+1)
  else if n<dF T p a∨(dF T p a=n∧a-p<o)then tF T a depth ps (a-p) (dF T p a) (s+1)
  else tF T a depth ps o n (s+1)
def dK(T:List Nat)(P:List Nat)(a depth:Int):Nat×Nat:=if qb T a then tF T a.toNat depth P.reverse 0 0 0 else(0,0)
def Places(T:List Nat)(P:List Nat):Prop:=∀p∈P,p+3≤T.length
theorem kK(T P:List Nat)(a:Int)(h:Places T P):Places T (jF T P a):=by
 unfold jF;split
 ·next hn=>
  intro p hp;rcases List.mem_append.1 hp with hp | hp
  ·exact h p hp
  ·rw[List.mem_singleton.1 hp];unfold FH qb at hn;simp only[Bool.and_eq_true,decide_eq_true_eq]at hn;omega
 ·exact h
theorem AY(T:List Nat)(p:Nat)(h:p+3≤T.length):three T p=[T[p],T[p+1],T[p+2]]:=by
 unfold three;rw[List.drop_take,List.drop_eq_getElem_cons (by omega),List.drop_eq_getElem_cons (by omega:p+1<T.length),List.drop_eq_getElem_cons (by omega:p+1+1<T.length),show p+3-p=3 by omega];rfl
theorem DX(T:List Nat)(p k:Nat)(hp:p+3≤T.length)(hk:k+3≤T.length):three T p=three T k↔3≤dF T p k:=by
 rw[AY T p hp,AY T k hk,ny T p k (by omega) (by omega)];by_cases h0:T[p]=T[k]
 ·rw[if_pos h0,ny T (p+1) (k+1) (by omega) (by omega)];by_cases h1:T[p+1]=T[k+1]
  ·rw[if_pos h1,ny T (p+1+1) (k+1+1) (by omega) (by omega)];by_cases h2:T[p+1+1]=T[k+1+1]
   ·rw[if_pos h2];constructor
    ·intro _;omega
    ·intro _;rw[h0,h1];have:T[p+2]=T[k+2]:=h2;rw[this]
   ·rw[if_neg h2];constructor
    ·intro e;simp only[List.cons.injEq]at e;exact absurd e.2.2.1 h2
    ·intro h;omega
  ·rw[if_neg h1];constructor
   ·intro e;simp only[List.cons.injEq]at e;exact absurd e.2.1 h1
   ·intro h;omega
 ·rw[if_neg h0];constructor
  ·intro e;simp only[List.cons.injEq]at e;exact absurd e.1 h0
  ·intro h;omega
theorem ze:∀x y:List Nat,x.take (rH x y)=y.take (rH x y)
 | [],y=>by simp[rH]
 | _ :: _,[]=>by simp[rH]
 | a :: x,b :: y=>by
  unfold rH;by_cases h:a=b
  ·rw[if_pos h,Nat.add_comm,List.take_succ_cons,List.take_succ_cons,h,ze x y]
  ·rw[if_neg h];rfl
theorem RY(T:List Nat)(a b n:Nat)(h:dF T a b=n):(T.take (a+n)).drop a=(T.take (b+n)).drop b:=by
 rw[List.drop_take,List.drop_take,Nat.add_sub_cancel_left,Nat.add_sub_cancel_left,←h];exact ze _ _
def OkS(T:List Nat):Nat→List Stp→Prop
 | a,[]=>a≤T.length
 | a,s :: l=>3≤s.2.1∧1≤s.2.2∧s.2.2≤a+s.1∧a+s.1+s.2.1≤T.length∧(T.take (a+s.1-s.2.2+s.2.1)).drop (a+s.1-s.2.2)=(T.take (a+s.1+s.2.1)).drop (a+s.1)∧OkS T (a+s.1+s.2.1) l
def xu:Nat→List Stp→Nat
 | a,[]=>a
 | a,s :: l=>xu (a+s.1+s.2.1) l
theorem EL:∀(l:List Stp) (a:Nat),a≤xu a l
 | [],a=>Nat.le_refl a
 | s :: l,a=>by
  have:=EL l (a+s.1+s.2.1);rw[xu];omega
theorem tY:∀(l:List Stp) (d a:Nat),xu (d+a) l=d+xu a l
 | [],_,_=>rfl
 | s :: l,d,a=>by
  rw[xu,xu,←tY l d,show d+a+s.1+s.2.1=d+(a+s.1+s.2.1) by omega]
theorem QM(T:List Nat):∀(l:List Stp) (a:Nat),OkS T a l→xu a l≤T.length
 | [],_,h=>h
 | _ :: l,_,h=>QM T l _ h.2.2.2.2.2
def nK(T:List Nat):Nat→List Stp→List Nat
 | a,[]=>T.drop a
 | a,s :: l=>(T.take (a+s.1)).drop a++nK T (a+s.1+s.2.1) l
def afJ:List Stp→Nat
 | []=>0
 | s :: l=>s.2.1+afJ l
theorem kJ(T:List Nat):∀(l:List Stp) (a:Nat),xu a l≤T.length→a+(nK T a l).length+afJ l=T.length
 | [],a,h=>by
  rw[xu]at h;rw[nK,afJ,List.length_drop];omega
 | s :: l,a,h=>by
  rw[xu]at h;have h1:=EL l (a+s.1+s.2.1);have h2:=kJ T l (a+s.1+s.2.1) h;rw[nK,afJ,List.length_append,List.length_drop,List.length_take];omega
theorem Af(T:List Nat):∀(l:List Stp) (a d:Nat),nK T (d+a) l=nK (T.drop d) a l
 | [],a,d=>by rw[nK,nK,List.drop_drop]
 | s :: l,a,d=>by
  rw[nK,nK,←Af T l (a+s.1+s.2.1) d,show d+a+s.1+s.2.1=d+(a+s.1+s.2.1) by omega];refine congrArg (·++_) ?_;rw[List.take_drop,List.drop_drop,Nat.add_assoc]
theorem Fp{T:List Nat}(hT:∀x∈T,x<256):∀(l:List Stp) (a:Nat),∀x∈nK T a l,x<256
 | [],_,x,hx=>hT x (List.mem_of_mem_drop hx)
 | _ :: l,_,x,hx=>(List.mem_append.1 hx).elim (fun h=>hT x (List.mem_of_mem_take (List.mem_of_mem_drop h))) (Fp hT l _ x)
def iq(T:List Nat):List Nat→Nat→Nat→List Nat
 | P,_,0=>P
 | P,a,n+1=>iq T (jF T P (a:Int)) (a+1) n
theorem mE(T:List Nat):∀(n:Nat) (P:List Nat) (a:Nat),Places T P→Places T (iq T P a n)
 | 0,_,_,h=>h
 | n+1,P,_,h=>mE T n _ _ (kK T P _ h)
def fH(T:List Nat)(D:Int):Nat→Nat→List Nat→Nat→List Stp
 | 0,_,_,_=>[]
 | k+1,a,P,n=>
  if T.length≤a then []else
  if (dK T P (a:Int) D).2=0∨(dK T P (a:Int) D).2<(dK T (jF T P (a:Int)) ((a:Int)+1) D).2 then fH T D k (a+1) (jF T P (a:Int)) (n+1)
  else(n,(dK T P (a:Int) D).2,(dK T P (a:Int) D).1) :: fH T D k (a+(dK T P (a:Int) D).2) (iq T (jF T P (a:Int)) (a+1) ((dK T P (a:Int) D).2-1)) 0
theorem Gp(T:List Nat)(D:Int)(k a:Nat)(P:List Nat)(n:Nat):fH T D (k+1) a P n=if T.length≤a then []else
  if (dK T P (a:Int) D).2=0∨(dK T P (a:Int) D).2<(dK T (jF T P (a:Int)) ((a:Int)+1) D).2 then fH T D k (a+1) (jF T P (a:Int)) (n+1)
  else(n,(dK T P (a:Int) D).2,(dK T P (a:Int) D).1) :: fH T D k (a+(dK T P (a:Int) D).2) (iq T (jF T P (a:Int)) (a+1) ((dK T P (a:Int) D).2-1)) 0:=rfl
theorem mV(T:List Nat)(k:Nat)(D:Int)(hk:k+3≤T.length):∀(ps:List Nat) (o n s:Nat),Places T ps →
  tF T k D ps o n s=(o,n)∨∃p,p<k∧tF T k D ps o n s=(k-p,dF T p k)∧3≤dF T p k
 | [],_,_,_,_=>.inl rfl
 | p :: ps,o,n,s,hP=>by
  have hP2:Places T ps:=fun x hx=>hP x (List.mem_cons_of_mem _ hx)
  rw[tF];by_cases hA:three T p=three T k
  ·rw[if_neg (fun h=>h hA)];have hA3:=(DX T p k (hP p List.mem_cons_self) hk).1 hA;split
   ·exact .inl rfl
   ·split
    ·exact mV T k D hk ps o n (s+1) hP2
    ·next hlt=>
     split
     ·rcases mV T k D hk ps (k-p) (dF T p k) (s+1) hP2 with h | h
      ·exact .inr ⟨p,by omega,h,hA3⟩
      ·exact .inr h
     ·exact mV T k D hk ps o n (s+1) hP2
  ·rw[if_pos hA];exact mV T k D hk ps o n s hP2
theorem find_ok(T P:List Nat)(a:Nat)(D:Int)(hP:Places T P)(h:(dK T P (a:Int) D).2≠0) :
  3≤(dK T P (a:Int) D).2∧1≤(dK T P (a:Int) D).1∧(dK T P (a:Int) D).1≤a∧a+(dK T P (a:Int) D).2≤T.length ∧
  (T.take (a-(dK T P (a:Int) D).1+(dK T P (a:Int) D).2)).drop (a-(dK T P (a:Int) D).1)=(T.take (a+(dK T P (a:Int) D).2)).drop a:=by
 rw[dK,qb]at h ⊢;by_cases hr:a+3≤T.length
 ·rw[if_pos (by simp;omega),Int.toNat_natCast]at h ⊢;rcases mV T a D hr P.reverse 0 0 0 (fun p hp=>hP p (List.mem_reverse.1 hp))with e | ⟨p,hp,e,h3⟩
  ·rw[e]at h;exact absurd rfl h
  ·rw[e];have h2:=(AJ T p a).2;refine⟨h3,by show 1≤a-p;omega,by show a-p≤a;omega,by show a+dF T p a≤T.length;omega,?_⟩;show(T.take (a-(a-p)+dF T p a)).drop (a-(a-p))=_;rw[show a-(a-p)=p by omega];exact RY T p a _ rfl
 ·rw[if_neg (by simp;omega)]at h;exact absurd rfl h
theorem aam(T P:List Nat)(a:Nat)(D:Int)(hP:Places T P):(dK T P (a:Int) D).1≤a∧(dK T P (a:Int) D).2≤T.length:=by
 rw[dK,qb];by_cases hr:a+3≤T.length
 ·rw[if_pos (by simp;omega),Int.toNat_natCast];rcases mV T a D hr P.reverse 0 0 0 (fun p hp=>hP p (List.mem_reverse.1 hp))with e | ⟨p,hp,e,h3⟩
  ·rw[e];exact⟨Nat.zero_le _,Nat.zero_le _⟩
  ·rw[e];have h2:=(AJ T p a).2;exact⟨by show a-p≤a;omega,by show dF T p a≤T.length;omega⟩
 ·rw[if_neg (by simp;omega)];exact⟨Nat.zero_le _,Nat.zero_le _⟩
theorem AR(T:List Nat)(D:Int):∀(k a:Nat) (P:List Nat) (n:Nat),Places T P→a+n≤T.length→OkS T a (fH T D k (a+n) P n)
 | 0,a,P,n,_,h=>by rw[fH];show a≤T.length;omega
 | k+1,a,P,n,hP,h=>by
  rw[fH];split
  ·show a≤T.length;omega
  ·next hlt=>
   split
   ·have h1:=AR T D k a (jF T P ((a+n:Nat):Int)) (n+1) (kK T P _ hP) (by omega);exact h1
   ·next hf=>
    obtain⟨h1,h2,h3,h4,h5⟩:=find_ok T P (a+n) D hP (fun e=>hf (.inl e));refine⟨h1,h2,h3,h4,h5,?_⟩;have h6:=AR T D k (a+n+(dK T P ((a+n:Nat):Int) D).2) (iq T (jF T P ((a+n:Nat):Int)) (a+n+1) ((dK T P ((a+n:Nat):Int) D).2-1)) 0 (mE T _ _ _ (kK T P _ hP)) (by omega);exact h6
theorem mH(T:List Nat)(D:Int):∀(k a:Nat) (P:List Nat) (n:Nat),(fH T D k a P n).length≤k
 | 0,_,_,_=>by rw[fH];exact Nat.le_refl _
 | k+1,a,P,n=>by
  rw[fH];split
  ·exact Nat.zero_le _
  ·split
   ·exact Nat.le_succ_of_le (mH T D k _ _ _)
   ·rw[List.length_cons];exact Nat.succ_le_succ (mH T D k _ _ _)
def zV(v:Int):Nat:=if v≤0 then 0 else if v=1 then 4 else if v=2 then 16 else 64
def lC(D X:List Nat)(v:Int):List Stp:=
 if zV v=0 then []else fH (D.drop (D.length-600)++X.take 600) (zV v:Int) (X.take 600).length (D.drop (D.length-600)).length (iq (D.drop (D.length-600)++X.take 600) [] 0 (D.drop (D.length-600)).length) 0
theorem SA(D X:List Nat)(v:Int):OkS (D.drop (D.length-600)++X.take 600) (D.drop (D.length-600)).length (lC D X v):=by
 unfold lC;split
 ·show(D.drop (D.length-600)).length≤_;rw[List.length_append];omega
 ·generalize D.drop (D.length-600)=D';generalize X.take 600=X';have h:=AR (D'++X') (zV v:Int) X'.length D'.length (iq (D'++X') [] 0 D'.length) 0 (mE _ _ _ _ (fun p hp=>by simp at hp)) (by rw[List.length_append];omega);rw[Nat.add_zero]at h;exact h
theorem qj(D X:List Nat)(v:Int):(lC D X v).length≤600:=by
 rw[lC];split
 ·rw[List.length_nil];omega
 ·refine Nat.le_trans (mH _ _ _ _ _ _) ?_;rw[List.length_take];omega
theorem Gn(D X:List Nat)(v:Int)(hv:v≤0):lC D X v=[]:=by
 have h:zV v=0:=by unfold zV;rw[if_pos hv]
 rw[lC,if_pos h]
theorem getD_at{l:List Nat}{i:Nat}(h:i<l.length):l.getD i 0=l[i]:=by simp[List.getD,h]
theorem Vi{l:List Nat}{i:Nat}(h:l.length≤i):l.getD i 0=0:=by simp[List.getD,h]
def qL(o:Nat):Nat→List Nat→List Nat
 | 0,A=>A
 | m+1,A=>qL o m (A++[A.getD (A.length-o) 0])
theorem su(o:Nat):∀(m:Nat) (A:List Nat),(qL o m A).length=A.length+m
 | 0,_=>rfl
 | m+1,A=>by rw[qL,su o m,List.length_append,List.length_singleton];omega
theorem Il(o:Nat):∀(m:Nat) (A:List Nat),(∀x∈A,x<256)→∀x∈qL o m A,x<256
 | 0,_,h=>h
 | m+1,A,h=>by
  rw[qL];refine Il o m _ (fun x hx=>?_);rcases List.mem_append.1 hx with hx | hx
  ·exact h x hx
  ·rw[List.mem_singleton.1 hx];rcases Nat.lt_or_ge (A.length-o) A.length with h1 | h1
   ·rw[getD_at h1];exact h _ (List.getElem_mem h1)
   ·rw[Vi h1];omega
def lJ(a lim:Nat):Nat→Nat→List StZ→Nat×Nat
 | n,L,[]=>if lim<n+L then(0,5)else(n+L,0)
 | n,L,s :: l=>
  if s.1<0∨(L:Int)<s.1 then(0,3)else
  if lim<n+s.1.toNat then(0,5)else
  if s.2.1<3∨s.2.2<1∨((a+n+s.1.toNat:Nat):Int)<s.2.2 then(0,3)else
  if lim<n+s.1.toNat+s.2.1.toNat then(0,5)else
  lJ a lim (n+s.1.toNat+s.2.1.toNat) (L-s.1.toNat) l
def qx:List Nat→List Nat→List StZ→List Nat
 | A,L,[]=>A++L
 | A,L,s :: l=>qx (qL s.2.2.toNat s.2.1.toNat (A++L.take s.1.toNat)) (L.drop s.1.toNat) l
def tK(D L:List Nat)(l:List StZ)(lim:Nat):List Nat×Nat:=
 if (lJ D.length lim 0 L.length l).2=0 then((qx D L l).drop D.length,0)else([],(lJ D.length lim 0 L.length l).2)
theorem pJ(a lim n L:Nat)(x m o:Int)(l:List StZ):lJ a lim n L ((x,m,o) :: l) =
  if x<0∨(L:Int)<x then(0,3)else
  if lim<n+x.toNat then(0,5)else
  if m<3∨o<1∨((a+n+x.toNat:Nat):Int)<o then(0,3)else
  if lim<n+x.toNat+m.toNat then(0,5)else
  lJ a lim (n+x.toNat+m.toNat) (L-x.toNat) l:=rfl
theorem nD(A L:List Nat)(x m o:Int)(l:List StZ):qx A L ((x,m,o) :: l)=qx (qL o.toNat m.toNat (A++L.take x.toNat)) (L.drop x.toNat) l:=rfl
theorem Au{a lim n L N:Nat}{s:StZ}{l:List StZ}(h:lJ a lim n L (s :: l)=(N,0)):∃x m o:Nat,s=((x:Int),(m:Int),(o:Int))∧x≤L∧3≤m∧1≤o∧o≤a+n+x∧n+x+m≤lim∧lJ a lim (n+x+m) (L-x) l=(N,0):=by
 obtain⟨x,m,o⟩:=s;rw[pJ]at h;split at h
 ·simp at h
 ·next h1=>
  split at h
  ·simp at h
  ·next h2=>
   split at h
   ·simp at h
   ·next h3=>
    split at h
    ·simp at h
    ·next h4=>
     obtain⟨x,rfl⟩:=Int.eq_ofNat_of_zero_le (by omega:0≤x);obtain⟨m,rfl⟩:=Int.eq_ofNat_of_zero_le (by omega:0≤m);obtain⟨o,rfl⟩:=Int.eq_ofNat_of_zero_le (by omega:0≤o);simp only[Int.toNat_natCast]at h h1 h2 h3 h4;exact⟨x,m,o,rfl,by omega,by omega,by omega,by omega,by omega,h⟩
theorem vG{a lim N:Nat}:∀{l:List StZ} {n L:Nat},lJ a lim n L l=(N,0)→n+L≤N∧N≤lim
 | [],n,L,h=>by
  rw[lJ]at h;split at h
  ·simp at h
  ·injection h with h;omega
 | s :: l,n,L,h=>by
  obtain⟨x,m,o,_,h1,h2,h3,h4,h5,h6⟩:=Au h;have:=vG h6;omega
theorem Ae{a lim:Nat}:∀(l:List StZ) (n L:Nat),(lJ a lim n L l).2=0∨lJ a lim n L l=(0,3)∨lJ a lim n L l=(0,5)
 | [],n,L=>by
  rw[lJ];split
  ·exact .inr (.inr rfl)
  ·exact .inl rfl
 | (x,m,o) :: l,n,L=>by
  rw[pJ];split
  ·exact .inr (.inl rfl)
  ·split
   ·exact .inr (.inr rfl)
   ·split
    ·exact .inr (.inl rfl)
    ·split
     ·exact .inr (.inr rfl)
     ·exact Ae l _ _
theorem IX{a lim n L:Nat}{l:List StZ}(h:(lJ a lim n L l).2=0):lJ a lim n L l=((lJ a lim n L l).1,0):=by
 rw[←h]
theorem mJ{a lim N:Nat}:∀{l:List StZ} {n:Nat} {A L:List Nat},lJ a lim n L.length l=(N,0)→A.length=a+n→(qx A L l).length=a+N
 | [],n,A,L,h,hA=>by
  rw[lJ]at h;split at h
  ·simp at h
  ·injection h with h
   rw[qx,List.length_append];omega
 | s :: l,n,A,L,h,hA=>by
  obtain⟨x,m,o,rfl,h1,h2,h3,h4,h5,h6⟩:=Au h;rw[nD,Int.toNat_natCast,Int.toNat_natCast,Int.toNat_natCast];refine mJ (n:=n+x+m) (by rw[List.length_drop];exact h6) ?_;rw[su,List.length_append,List.length_take];omega
theorem AX:∀(l:List StZ) (A L:List Nat),(∀x∈A,x<256)→(∀x∈L,x<256)→∀x∈qx A L l,x<256
 | [],A,L,hA,hL=>fun x hx=>(List.mem_append.1 hx).elim (hA x) (hL x)
 | (x,m,o) :: l,A,L,hA,hL=>by
  rw[nD];exact AX l _ _ (Il _ _ _ (fun z hz=>(List.mem_append.1 hz).elim (hA z) (fun h=>hL z (List.mem_of_mem_take h)))) (fun z hz=>hL z (List.mem_of_mem_drop hz))
theorem yK(T:List Nat)(d lim:Nat):∀(l:List Stp) (n:Nat),OkS T (d+n) l→lJ d lim n (nK T (d+n) l).length (l.map qH)=if d+lim<T.length then(0,5)else(T.length-d,0)
 | [],n,h=>by
  have h1:d+n≤T.length:=h;rw[List.map_nil,nK,lJ,List.length_drop];by_cases h2:d+lim<T.length
  ·rw[if_pos h2,if_pos (by omega)]
  ·rw[if_neg h2,if_neg (by omega),show n+(T.length-(d+n))=T.length-d by omega]
 | (x,m,o) :: l,n,h=>by
  obtain⟨e1,e2,e3,e4,e5,e6⟩:=h;simp only at e1 e2 e3 e4 e5 e6;have ih:=yK T d lim l (n+x+m) (by rw[show d+(n+x+m)=d+n+x+m by omega];exact e6);rw[show d+(n+x+m)=d+n+x+m by omega]at ih;have hl:(nK T (d+n) ((x,m,o) :: l)).length=x+(nK T (d+n+x+m) l).length:=by
   rw[nK,List.length_append,List.length_drop,List.length_take];simp only;omega
  rw[List.map_cons,qH,pJ,hl];simp only[Int.toNat_natCast];rw[if_neg (by omega)];by_cases h2:d+lim<T.length
  ·by_cases h3:lim<n+x
   ·rw[if_pos h3,if_pos h2]
   ·rw[if_neg h3,if_neg (by omega)];by_cases h4:lim<n+x+m
    ·rw[if_pos h4,if_pos h2]
    ·rw[if_neg h4,Nat.add_sub_cancel_left];exact ih
  ·rw[if_neg (by omega),if_neg (by omega),if_neg (by omega),Nat.add_sub_cancel_left];exact ih
theorem Xg{T:List Nat}{a b m:Nat}(h:(T.take (a+m)).drop a=(T.take (b+m)).drop b)(j:Nat)(hj:j<m):T[a+j]?=T[b+j]?:=by
 have e:=congrArg (fun l:List Nat=>l[j]?) h;simp only[List.getElem?_drop]at e;rw[List.getElem?_take_of_lt (by omega),List.getElem?_take_of_lt (by omega)]at e;exact e
theorem yt{T:List Nat}{o:Nat}(ho:1≤o):∀(m b:Nat),b+m≤T.length→o≤b→(∀j,j<m→T[b-o+j]?=T[b+j]?)→qL o m (T.take b)=T.take (b+m)
 | 0,_,_,_,_=>rfl
 | m+1,b,hb,hob,hj=>by
  have hl:(T.take b).length=b:=by rw[List.length_take];omega
  have e:(T.take b).getD ((T.take b).length-o) 0=T[b]'(by omega):=by
   rw[hl,getD_at (by omega),List.getElem_take];have h0:=hj 0 (by omega);rw[Nat.add_zero,Nat.add_zero,List.getElem?_eq_getElem (by omega),List.getElem?_eq_getElem (by omega)]at h0;injection h0
  rw[qL,e,←List.take_succ_eq_append_getElem (by omega:b<T.length),yt ho m (b+1) (by omega) (by omega) (fun j h=>by
   have:=hj (j+1) (by omega);rw[show b+1-o+j=b-o+(j+1) by omega,show b+1+j=b+(j+1) by omega];exact this),show b+1+m=b+(m+1) by omega]
theorem wQ(T:List Nat):∀(l:List Stp) (a:Nat),OkS T a l→qx (T.take a) (nK T a l) (l.map qH)=T
 | [],a,_=>by rw[List.map_nil,nK,qx,List.take_append_drop]
 | (x,m,o) :: l,a,h=>by
  obtain⟨e1,e2,e3,e4,e5,e6⟩:=h;simp only at e1 e2 e3 e4 e5 e6;have hx:((T.take (a+x)).drop a).length=x:=by rw[List.length_drop,List.length_take];omega
  have ht:T.take a++(T.take (a+x)).drop a=T.take (a+x):=by
   have h1:=List.take_append_drop a (T.take (a+x));rw[List.take_take,Nat.min_eq_left (by omega)]at h1;exact h1
  rw[List.map_cons,qH,nD];simp only[Int.toNat_natCast];rw[nK];simp only;rw[List.take_left' hx,List.drop_left' hx,ht,yt e2 m (a+x) (by omega) (by omega) (fun j hj=>Xg e5 j hj)];exact wQ T l (a+x+m) e6
theorem IW{a lim n L:Nat}{l:List StZ}{k:Nat}(hk:k<l.length):lJ a lim n L (l.drop k)=lJ a lim n L (l[k] :: l.drop (k+1)):=by
 rw[List.drop_eq_getElem_cons hk]
theorem NQ(D X:List Nat)(l:List Stp)(lim:Nat)(h:OkS (D++X) D.length l):tK D (nK X 0 l) (l.map qH) lim=if lim<X.length then([],5)else(X,0):=by
 have hl:nK (D++X) D.length l=nK X 0 l:=by
  have e:=Af (D++X) l 0 D.length;rwa [Nat.add_zero,List.drop_left]at e
 have h1:=yK (D++X) D.length lim l 0 (by rw[Nat.add_zero];exact h);rw[Nat.add_zero,hl,List.length_append]at h1;have h2:=wQ (D++X) l D.length h;rw[List.take_left,hl]at h2;rw[tK,h1,h2,List.drop_left];by_cases h3:lim<X.length
 ·rw[if_pos h3,if_pos (show D.length+lim<D.length+X.length by omega),if_neg (by decide)]
 ·rw[if_neg h3,if_neg (show ¬D.length+lim<D.length+X.length by omega),if_pos rfl]
theorem Jl(T:List Nat):∀(l:List Stp) (a:Nat),OkS T a l→∀s∈l,s.1≤T.length∧s.2.1≤T.length∧s.2.2≤T.length
 | [],_,_,s,hs=>by simp at hs
 | t :: l,a,h,s,hs=>by
  obtain⟨e1,e2,e3,e4,_,e6⟩:=h;rcases List.mem_cons.1 hs with rfl | hs
  ·omega
  ·exact Jl T l _ e6 s hs
end Go.Proofs.YtgiicohbigiapaaGreat.Bm
namespace Go.Proofs.YtgiicohbigiapaaGreat
open Go.RowKit
theorem Row.below{w w':World}{b:Nat}{t:TypeId}{cs:List Value}(h:Row w b t cs)(hb:Below w.heap.size w w'):Row w' b t cs:=h.keep (hb.block b h.lt)
theorem fQ{w:World}{b:Nat}{t:TypeId}{x y z:Value}(h:Row w b t [x,y,z]):w.cell? ⟨b,0,none⟩=some x∧w.cell? ⟨b,1,none⟩=some y∧w.cell? ⟨b,2,none⟩=some z:=by
 have h0:=h.cell 0;have h1:=h.cell 1;have h2:=h.cell 2;simp only[List.getElem?_cons_zero,List.getElem?_cons_succ]at h0 h1 h2;exact⟨h0,h1,h2⟩
end Go.Proofs.YtgiicohbigiapaaGreat
namespace Go.Proofs.YtgiicohbigiapaaGreat.Bm
def xw(T:List Nat)(p:Nat):Nat:=(three T p).foldl (fun a c=>a*256+c) 0%2003
theorem PS(T:List Nat)(p:Nat):xw T p<2003:=Nat.mod_lt _ (by decide)
theorem aaJ{T:List Nat}{p q:Nat}(h:three T p=three T q):xw T p=xw T q:=by unfold xw;rw[h]
def Ez(T P:List Nat)(c:Nat):List Nat:=(P.filter fun p=>xw T p == c).reverse
theorem ZV(T P:List Nat)(a:Nat):Ez T (P++[a]) (xw T a)=a :: Ez T P (xw T a):=by
 unfold Ez;rw[List.filter_append,List.reverse_append,List.filter_cons_of_pos (by simp)];simp
theorem UF(T P:List Nat)(a c:Nat)(h:xw T a≠c):Ez T (P++[a]) c=Ez T P c:=by
 unfold Ez;rw[List.filter_append,List.filter_cons_of_neg (by simpa using h)];simp
theorem zP{T P:List Nat}{c p:Nat}(h:p∈Ez T P c):p∈P:=by
 unfold Ez at h;rw[List.mem_reverse]at h;exact(List.mem_filter.1 h).1
theorem EA(T P:List Nat)(c:Nat):(Ez T P c).length≤P.length:=by
 unfold Ez;rw[List.length_reverse];exact List.length_filter_le _ _
def Lnk(A:Nat→Nat):Nat→List Nat→Prop
 | v,[]=>v=0
 | v,p :: ps=>v=p+1∧Lnk A (A p) ps
theorem Lnk.congr{A B:Nat→Nat}:∀{ps:List Nat} {v:Nat},Lnk A v ps→(∀p∈ps,B p=A p)→Lnk B v ps
 | [],_,h,_=>h
 | p :: ps,_,h,hb=>⟨h.1,by rw[hb p List.mem_cons_self];exact Lnk.congr h.2 (fun q hq=>hb q (List.mem_cons_of_mem _ hq))⟩
def VP(A:Nat→Nat):Nat→Nat→Nat
 | 0,_=>0
 | f+1,v=>if v=0 then 0 else 1+VP A f (A (v-1))
theorem Fu{A:Nat→Nat}:∀(f:Nat) (v:Nat) (ps:List Nat),Lnk A v ps→ps.length≤f→VP A f v=ps.length
 | 0,v,[],_,_=>rfl
 | 0,v,p :: ps,_,hl=>by simp at hl
 | f+1,v,[],h,_=>by
  rw[VP,if_pos (show v=0 from h)];rfl
 | f+1,v,p :: ps,h,hl=>by
  have hv:v=p+1:=h.1;subst hv;rw[VP,if_neg (by omega),Nat.add_sub_cancel,Fu f (A p) ps h.2 (by simpa using hl),List.length_cons];omega
def Ef(T P:List Nat)(L A:Nat→Nat):Prop:=∀c,c<2003→Lnk A (L c) (Ez T P c)
theorem Ef.zero(T:List Nat):Ef T [] (fun _=>0) (fun _=>0):=fun _ _=>rfl
theorem Ef.note{T P:List Nat}{L A:Nat→Nat}(h:Ef T P L A)(a:Nat)(ha:a ∉ P) :
  Ef T (P++[a]) (fun c=>if c=xw T a then a+1 else L c) (fun p=>if p=a then L (xw T a)else A p):=by
 intro c hc;have hold:∀v ps,Lnk A v ps→(∀p∈ps,p∈P)→Lnk (fun p=>if p=a then L (xw T a)else A p) v ps:=fun v ps h1 h2=>
  h1.congr fun p hp=>if_neg (fun e=>ha (by have h3:=h2 p hp;rwa [show p=a from e]at h3))
 by_cases hca:c=xw T a
 ·subst hca;rw[ZV];refine⟨if_pos rfl,?_⟩;simp only[if_true];exact hold _ _ (h _ hc) fun p hp=>zP hp
 ·rw[UF T P a c (fun e=>hca e.symm)];simp only[if_neg hca];exact hold _ _ (h _ hc) fun p hp=>zP hp
theorem YR{A:Nat→Nat}{v:Nat}{ps:List Nat}{n:Nat}(h:Lnk A v ps)(hp:∀p∈ps,p<n):v≤n:=by
 cases ps with
 | nil=>have:v=0:=h;omega
 | cons p ps=>have h1:v=p+1:=h.1;have:=hp p List.mem_cons_self;omega
def lD(T:List Nat)(a:Nat):List Nat→Nat→Nat→Nat→Nat×Nat
 | [],o,n,_=>(o,n)
 | p :: ps,o,n,l=>
  if l=0 then(o,n)
  else if dF T p a<3 then lD T a ps o n l
  else if p<a∧(n<dF T p a∨(dF T p a=n∧a-p<o))then lD T a ps (a-p) (dF T p a) (l-1)
  else lD T a ps o n (l-1)
theorem yC(T:List Nat)(a:Nat)(ps:List Nat)(o n:Nat):lD T a ps o n 0=(o,n):=by
 cases ps with
 | nil=>rfl
 | cons p ps=>rw[lD,if_pos rfl]
theorem yD(T:List Nat)(a:Nat)(depth:Int):∀(ps:List Nat) (o n s:Nat),(depth<((s+1:Nat):Int)∨1000<s+1)→tF T a depth ps o n s=(o,n)
 | [],_,_,_,_=>rfl
 | p :: ps,o,n,s,h=>by
  rw[tF];by_cases h3:three T p≠three T a
  ·rw[if_pos h3];exact yD T a depth ps o n s h
  ·rw[if_neg h3,if_pos h]
theorem qN(T:List Nat)(a:Nat)(depth:Int)(ha:a+3≤T.length):∀(ps:List Nat) (o n s:Nat),(∀p∈ps,p+3≤T.length) →
  tF T a depth ps o n s=lD T a (ps.filter fun p=>xw T p == xw T a) o n (min depth 1000-s).toNat
 | [],_,_,_,_=>rfl
 | p :: ps,o,n,s,hp=>by
  have hp1:=hp p List.mem_cons_self;have hp2:∀q∈ps,q+3≤T.length:=fun q hq=>hp q (List.mem_cons_of_mem _ hq)
  have h3:=DX T p a hp1 ha;by_cases hs:depth<((s+1:Nat):Int)∨1000<s+1
  ·rw[yD T a depth _ o n s hs,show(min depth 1000-(s:Int)).toNat=0 by omega,yC]
  ·have hl0:¬(min depth 1000-(s:Int)).toNat=0:=by omega
   have hl:(min depth 1000-(s:Int)).toNat-1=(min depth 1000-((s+1:Nat):Int)).toNat:=by omega
   rw[tF];by_cases hA:three T p=three T a
   ·have hA3:¬dF T p a<3:=by have:=h3.1 hA;omega
    rw[if_neg (fun h=>h hA),if_neg hs,List.filter_cons_of_pos (by simpa using aaJ hA),lD,if_neg hl0,if_neg hA3,hl];by_cases hB:a≤p
    ·have hB2:¬(p<a∧(n<dF T p a∨(dF T p a=n∧a-p<o))):=fun h=>by omega
     rw[if_pos hB,if_neg hB2];exact qN T a depth ha ps o n (s+1) hp2
    ·rw[if_neg hB];by_cases hC:n<dF T p a∨(dF T p a=n∧a-p<o)
     ·have hC2:p<a∧(n<dF T p a∨(dF T p a=n∧a-p<o)):=⟨by omega,hC⟩;rw[if_pos hC,if_pos hC2];exact qN T a depth ha ps _ _ (s+1) hp2
     ·have hC2:¬(p<a∧(n<dF T p a∨(dF T p a=n∧a-p<o))):=fun h=>hC h.2
      rw[if_neg hC,if_neg hC2];exact qN T a depth ha ps _ _ (s+1) hp2
   ·have hA3:dF T p a<3:=by
     rcases Nat.lt_or_ge (dF T p a) 3 with h | h
     ·exact h
     ·exact absurd (h3.2 h) hA
    rw[if_pos hA];by_cases hh:xw T p=xw T a
    ·rw[List.filter_cons_of_pos (by simpa using hh),lD,if_neg hl0,if_pos hA3];exact qN T a depth ha ps o n s hp2
    ·rw[List.filter_cons_of_neg (by simpa using hh)];exact qN T a depth ha ps o n s hp2
theorem aal(T P:List Nat)(a:Nat)(depth:Int)(ha:a+3≤T.length)(hP:Places T P) :
  dK T P (a:Int) depth=lD T a (Ez T P (xw T a)) 0 0 (min depth 1000).toNat:=by
 rw[dK,qb,if_pos (by simp;omega),Int.toNat_natCast,qN T a depth ha P.reverse 0 0 0 (fun p hp=>hP p (by simpa using hp)),Ez,List.filter_reverse];simp
end Go.Proofs.YtgiicohbigiapaaGreat.Bm
