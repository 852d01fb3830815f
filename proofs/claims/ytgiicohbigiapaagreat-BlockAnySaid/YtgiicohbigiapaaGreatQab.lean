/- Contracts. -/
import Derived.Test.YtgiicohbigiapaaGreatQaa
import Derived.Test.YtgiicohbigiapaaGreatRows
import Derived.WalkSpells
import Derived.WalkLawsBesides
import Derived.Test.YtgiicohbigiapaaGreatQz1
import Derived.Test.YtgiicohbigiapaaGreatQz0
set_option maxHeartbeats 4000000
set_option maxRecDepth 100000
open Go.Proofs.Tryz Go.Proofs.YtgiicohbigiapaaGreat.ao List Nat Option
namespace Go.Proofs.YtgiicohbigiapaaGreat
open Go.RowKit
def Row(w:ai)(g:Nat)(t:TypeId)(ag:b3):Prop:=w.heap[g]?=some (.cells ag.toArray t (0,0))
def k5(w:ai)(g:Nat)(t:TypeId):Prop:=∃ag u q9,w.heap[g]?=some (.cells ag u q9)/\u≠t
section
variable {w w':ai} {g:Nat} {t:TypeId} {ag:b3}
theorem Row.lt(h:Row w g t ag):g<w.heap.size:=by
 rcases eP g w.heap.size with h1 | h1
 .exact h1
 .unfold Row at h;rw[Array.getElem?_eq_none h1]at h;cases h
theorem Row.cell(h:Row w g t ag)(i:Nat):w.cell? ⟨g,i,none⟩=ag[i]?:=by
 rw[cell_of_row w g i ag.toArray t (0,0) h];simp
theorem Row.free(h:Row w g t ag)(i:Nat):w.frozen? ⟨g,i,none⟩=false:=by
 unfold Row at h;simp[World.frozen?,h]
theorem Row.new(w:ai)(t:TypeId)(ag:b3):Row (w.alloc (.cells ag.toArray t)) w.heap.size t ag:=heap_alloc_new w _
theorem Row.s7{u:TypeId}(h:Row w g t ag)(aX:t≠u):k5 w g u:=⟨_,_,_,h,aX⟩
theorem k5.ne{fd:Nat}(h:k5 w g t)(kg:Row w fd t ag):fd≠g:=by
 rintro rfl;obtain⟨a,b,c,h1,af⟩:=h;unfold Row at kg;rw[h1]at kg;injection kg with kg
 injection kg with _ aq
 exact af aq
theorem k5.lt(h:k5 w g t):g<w.heap.size:=by
 obtain⟨a,b,c,h1,_⟩:=h;rcases eP g w.heap.size with af | af
 .exact af
 .rw[Array.getElem?_eq_none af]at h1;cases h1
theorem Row.keep(h:Row w g t ag)(ak:w'.heap[g]?=w.heap[g]?):Row w' g t ag:=ak.trans h
theorem k5.keep(h:k5 w g t)(ak:w'.heap[g]?=w.heap[g]?):k5 w' g t:=by
 obtain⟨a,b,c,h1,af⟩:=h;exact⟨a,b,c,ak.trans h1,af⟩
theorem Row.alloc(h:Row w g t ag)(o:Obj):Row (w.alloc o) g t ag:=h.keep (Below.heap_alloc w o g h.lt)
theorem Row.cG(h:Row w g t ag){p:Addr}(aw:g≠p.block)(u:Value):Row (w.setCell p u) g t ag:=h.keep (Below.heap_setCell w p u g aw)
theorem Row.bm(h:Row w g t ag)(i:Nat)(u:Value):Row (w.setCell ⟨g,i,none⟩ u) g t (ag.set i u):=by
 unfold Row at h ⊢;simp[World.setCell,Array.getElem?_modify,h]
theorem k5.setCell(h:k5 w g t)(p:Addr)(u:Value):k5 (w.setCell p u) g t:=by
 by_cases aw:g=p.block
 .obtain⟨a,b,c,h1,af⟩:=h;by_cases ap:p.spot.isSome=true
  .exact⟨a,b,c,by simp[World.setCell,Array.getElem?_modify,<-aw,h1,ap],af⟩
  .exact⟨a.setIfInBounds p.off u,b,c,by simp[World.setCell,Array.getElem?_modify,<-aw,h1,ap],af⟩
 .exact h.keep (Below.heap_setCell w p u g aw)
theorem k5.alloc(h:k5 w g t)(o:Obj):k5 (w.alloc o) g t:=h.keep (Below.heap_alloc w o g h.lt)
end
section
variable {w w' pq:ai} {row:Option Nat}
theorem dr(h:Below w.heap.size w w')(row:Option Nat):w.grownBy w' row:=⟨h.os,h.tape,h.output,h.size,λi ax _=>h.block i ax⟩
theorem dl(w:ai)(row:Option Nat):w.grownBy w row:=⟨rfl,rfl,rfl,Nat.le_refl _,λ_ _ _=>rfl⟩
theorem qq(h:w.grownBy w' row)(k:Nat):w.grownBy (w'.drewN k) row:=⟨h.os,h.tape,h.output,h.size,h.block⟩
theorem nR(h:w.grownBy w' row):w.grownBy w'.drew row:=⟨h.os,h.tape,h.output,h.size,h.block⟩
theorem iD(h:w.grownBy w' row)(o:Obj):w.grownBy (w'.alloc o) row:=
 ⟨h.os,h.tape,h.output,du h.size (by simp),λi ax az=>(Below.heap_alloc w' o i (gV ax h.size)).trans (h.block i ax az)⟩
theorem hz{b:Nat}(h:w.grownBy w' (some b))(i:Nat)(u:Value):w.grownBy (w'.setCell ⟨b,i,none⟩ u) (some b):=
 ⟨h.os,h.tape,h.output,by simpa [World.setCell]using h.size,λk hk az=>(Below.heap_setCell w' ⟨b,i,none⟩ u k (λe=>az (by rw[e]))).trans (h.block k hk az)⟩
theorem below_grown{B b:Nat}(h:w.grownBy w' (some b))(ak:B<=b)(bu:B<=w.heap.size):Below B w w':=
 ⟨h.os,h.tape,h.output,h.size,λk hk=>h.block k (by omega) (λe=>by injection e with e;omega)⟩
end
def strOf(bs:ae):ByteArray:=⟨(bs.map UInt8.ofNat).toArray⟩
theorem cZ(bs:ae):(strOf bs).size=bs.length:=by simp[strOf,ByteArray.size]
def aN(l:ae):b3:=l.map λb:Nat=>.int .u8 b
def aM(l:ae):b3:=l.map λb:Nat=>.int .i64 b
theorem jn(l:ae):(aN l).length=l.length:=by simp[aN]
theorem gw(l:ae):(aM l).length=l.length:=by simp[aM]
theorem jF(l:ae)(i:Nat)(h:i<l.length):(aN l)[i]?=some (.int .u8 (l[i]:Int)):=by simp[aN,h]
theorem ja(l:ae)(i:Nat)(h:i<l.length):(aM l)[i]?=some (.int .i64 (l[i]:Int)):=by simp[aM,h]
theorem B9(l:ae)(i b:Nat):(aN l).set i (.int .u8 b)=aN (l.set i b):=by simp[aN,map_set]
theorem EC(l m:ae):aM l++aM m=aM (l++m):=by simp[aM]
def Reads(w:ai)(A:a7)(xs:b3):Prop:=xs≠[]->∃g off,A=some ⟨g,off,none⟩/\∀j,j<xs.length->w.cell? ⟨g,off+j,none⟩=xs[j]?
def Chain(w:ai):a7->ae->Prop
 | p,[]=>p=none
 | p,u :: us=>∃g q,p=some ⟨g,0,none⟩/\Row w g 192 [.pointer q,.int .u64 u]/\Chain w q us
theorem Chain.keep{w w':ai}(hk:∀g ag,Row w g 192 ag->Row w' g 192 ag):∀(us:ae) (p:a7),Chain w p us->Chain w' p us
 | [],_,h=>h
 | _ :: us,_,⟨g,q,aw,aj,hc⟩=>⟨g,q,aw,hk _ _ aj,Chain.keep hk us q hc⟩
theorem Qk{w w':ai}{row:Option Nat}(aD:w.grownBy w' row)(aj:∀g,row=some g->k5 w g 192):∀g ag,Row w g 192 ag->Row w' g 192 ag:=
 λg _ h=>h.keep (aD.block g h.lt (λe=>(aj g e.symm).ne h rfl))
def dP(w:ai)(b off N n:Nat):Prop:=∃(p:a7) (rest:Nat) (us:ae),
 w.cell? ⟨b,off,none⟩=some (.pointer p)/\w.cell? ⟨b,off+1,none⟩=some (.int .u64 rest)/\w.cell? ⟨b,off+2,none⟩=some (.int .i64 n) /\
 w.frozen? ⟨b,off,none⟩=false/\w.frozen? ⟨b,off+1,none⟩=false/\w.frozen? ⟨b,off+2,none⟩=false/\k5 w b 192/\Chain w p us/\nf N n rest us
theorem dP.keep{w w':ai}{b off N n:Nat}{row:Option Nat}(h:dP w b off N n)(aD:w.grownBy w' row)(ak:row≠some b)(aj:∀g,row=some g->k5 w g 192):dP w' b off N n:=by
 obtain⟨p,rest,us,am,h1,af,f0,f1,f2,az,hc,hw⟩:=h;have hl:=aD.block b az.lt (λe=>ak e.symm);exact⟨p,rest,us,(World.cell?_of_block hl).trans am,(World.cell?_of_block hl).trans h1,(World.cell?_of_block hl).trans af,(World.frozen?_of_block hl).trans f0,(World.frozen?_of_block hl).trans f1,
  (World.frozen?_of_block hl).trans f2,az.keep hl,hc.keep (Qk aD aj),hw⟩
theorem dP.drew{w:ai}{b off N n:Nat}(h:dP w b off N n):dP w.drew b off N n:=h.keep (row:=none) (nR (dl _ _)) (by simp) (by simp)
theorem dP.new(w:ai)(t:TypeId)(aC:t≠192):dP (w.alloc (.cells #[.pointer none,.int .u64 0,.int .i64 0] t)) w.heap.size 0 0 0:=by
 have h:Row (w.alloc (.cells #[.pointer none,.int .u64 0,.int .i64 0] t)) w.heap.size t [.pointer none,.int .u64 0,.int .i64 0]:=Row.new w t _;exact⟨none,0,[],h.cell 0,h.cell 1,h.cell 2,h.free 0,h.free 1,h.free 2,h.s7 aC,rfl,nf.zero⟩
def eB(w:ai)(b off:Nat)(bs:ae)(pos:Nat):Prop:=
 w.cell? ⟨b,off,none⟩=some (.string (strOf bs))/\w.cell? ⟨b,off+1,none⟩=some (.int .i64 pos)/\w.frozen? ⟨b,off+1,none⟩=false/\b<w.heap.size
theorem eB.keep{w w':ai}{b off pos:Nat}{bs:ae}{row:Option Nat}(h:eB w b off bs pos)(aD:w.grownBy w' row)(ak:row≠some b):eB w' b off bs pos:=by
 obtain⟨am,h1,af,aq⟩:=h;have hl:=aD.block b aq (λe=>ak e.symm);exact⟨(World.cell?_of_block hl).trans am,(World.cell?_of_block hl).trans h1,(World.frozen?_of_block hl).trans af,gV aq aD.size⟩
theorem eB.drewN{w:ai}{b off pos:Nat}{bs:ae}(h:eB w b off bs pos)(k:Nat):eB (w.drewN k) b off bs pos:=h.keep (row:=none) (qq (dl _ _) k) (by simp)
namespace ao
def qH:ae->ae->Nat
 | a :: x,b :: y=>if a=b then 1+qH x y else 0
 | _,_=>0
def gX(T:ae)(a b:Nat):Nat:=qH (T.drop a) (T.drop b)
theorem IL(T:ae)(a b:Nat)(aS:a<T.length)(ak:b<T.length):gX T a b=if T[a]=T[b]then 1+gX T (a+1) (b+1)else 0:=by
 unfold gX;rw[drop_eq_getElem_cons aS,drop_eq_getElem_cons ak,qH]
theorem aaG(T:ae)(a b:Nat)(h:T.length<=a\/T.length<=b):gX T a b=0:=by
 unfold gX;rcases h with h | h
 .rw[drop_of_length_le h];rfl
 .rw[drop_of_length_le h];cases T.drop a<;>rfl
theorem aaE:∀x y:ae,qH x y<=x.length/\qH x y<=y.length
 | [],y=>by simp[qH]
 | _ :: _,[]=>by simp[qH]
 | a :: x,b :: y=>by
  have h:=aaE x y;unfold qH;split
  .simp only[b1];omega
  .simp
theorem Py(T:ae)(a b:Nat):gX T a b<=T.length-a/\gX T a b<=T.length-b:=by
 have h:=aaE (T.drop a) (T.drop b);rw[cC,cC]at h;exact h
def B6(T:ae)(a b:Int):Nat:=if 0<=a/\0<=b/\a<=T.length/\b<=T.length then gX T a.toNat b.toNat else 0
def wh(T:ae)(a:Int):Bool:=decide (0<=a/\a+3<=T.length)
def zL(T:ae)(P:ae)(a:Int):Bool:=wh T a && !P.any (λp=>decide ((p:Int)=a))
def lR(T:ae)(P:ae)(a:Int):ae:=if zL T P a then P++[a.toNat]else P
def three(T:ae)(p:Nat):ae:=(T.take (p+3)).drop p
def q8(T:ae)(a:Nat)(depth:Int):ae->Nat->Nat->Nat->Nat×Nat
 | [],o,n,_=>(o,n)
 | p :: ps,o,n,s=>
  if three T p≠three T a then q8 T a depth ps o n s
  else if depth<((s+1:Nat):Int)\/1000<s+1 then(o,n)
  else if a<=p then q8 T a depth ps o n (s+1)
  else if n<gX T p a\/(gX T p a=n/\a-p<o)then q8 T a depth ps (a-p) (gX T p a) (s+1)
  else q8 T a depth ps o n (s+1)
def ha(T:ae)(P:ae)(a depth:Int):Nat×Nat:=if wh T a then q8 T a.toNat depth P.reverse 0 0 0 else(0,0)
def Places(T:ae)(P:ae):Prop:=∀p∈P,p+3<=T.length
theorem Iv(T P:ae)(a:Int)(h:Places T P):Places T (lR T P a):=by
 unfold lR;split
 .next az=>
  intro p aw;rcases List.mem_append.1 aw with aw | aw
  .exact h p aw
  .rw[List.mem_singleton.1 aw];unfold zL wh at az;simp only[Bool.and_eq_true,decide_eq_true_eq]at az;omega
 .exact h
theorem P0(T:ae)(p:Nat)(h:p+3<=T.length):three T p=[T[p],T[p+1],T[p+2]]:=by
 unfold three;rw[drop_take,drop_eq_getElem_cons (by omega),drop_eq_getElem_cons (by omega:p+1<T.length),drop_eq_getElem_cons (by omega:p+1+1<T.length),show p+3-p=3 by omega];rfl
theorem abP(T:ae)(p k:Nat)(aw:p+3<=T.length)(hk:k+3<=T.length):three T p=three T k↔3<=gX T p k:=by
 rw[P0 T p aw,P0 T k hk,IL T p k (by omega) (by omega)];by_cases am:T[p]=T[k]
 .rw[aA am,IL T (p+1) (k+1) (by omega) (by omega)];by_cases h1:T[p+1]=T[k+1]
  .rw[aA h1,IL T (p+1+1) (k+1+1) (by omega) (by omega)];by_cases af:T[p+1+1]=T[k+1+1]
   .rw[aA af];constructor
    .intro _;omega
    .intro _;rw[am,h1];have:T[p+2]=T[k+2]:=af;rw[this]
   .rw[ay af];constructor
    .intro e;simp only[List.cons.injEq]at e;exact absurd e.2.2.1 af
    .intro h;omega
  .rw[ay h1];constructor
   .intro e;simp only[List.cons.injEq]at e;exact absurd e.2.1 h1
   .intro h;omega
 .rw[ay am];constructor
  .intro e;simp only[List.cons.injEq]at e;exact absurd e.1 am
  .intro h;omega
theorem aaF:∀x y:ae,x.take (qH x y)=y.take (qH x y)
 | [],y=>by simp[qH]
 | _ :: _,[]=>by simp[qH]
 | a :: x,b :: y=>by
  unfold qH;by_cases h:a=b
  .rw[aA h,Nat.add_comm,take_succ_cons,take_succ_cons,h,aaF x y]
  .rw[ay h];rfl
theorem aqd(T:ae)(a b n:Nat)(h:gX T a b=n):(T.take (a+n)).drop a=(T.take (b+n)).drop b:=by
 rw[drop_take,drop_take,Nat.add_sub_cancel_left,Nat.add_sub_cancel_left,<-h];exact aaF _ _
def pB(T:ae):Nat->List dC->Prop
 | a,[]=>a<=T.length
 | a,s :: l=>3<=s.2.1/\1<=s.2.2/\s.2.2<=a+s.1/\a+s.1+s.2.1<=T.length/\(T.take (a+s.1-s.2.2+s.2.1)).drop (a+s.1-s.2.2)=(T.take (a+s.1+s.2.1)).drop (a+s.1)/\pB T (a+s.1+s.2.1) l
def k9:Nat->List dC->Nat
 | a,[]=>a
 | a,s :: l=>k9 (a+s.1+s.2.1) l
theorem LB:∀(l:List dC) (a:Nat),a<=k9 a l
 | [],a=>Nat.le_refl a
 | s :: l,a=>by
  have:=LB l (a+s.1+s.2.1);rw[k9];omega
theorem G7:∀(l:List dC) (d a:Nat),k9 (d+a) l=d+k9 a l
 | [],_,_=>rfl
 | s :: l,d,a=>by
  rw[k9,k9,<-G7 l d,show d+a+s.1+s.2.1=d+(a+s.1+s.2.1) by omega]
theorem OT(T:ae):∀(l:List dC) (a:Nat),pB T a l->k9 a l<=T.length
 | [],_,h=>h
 | _ :: l,_,h=>OT T l _ h.2.2.2.2.2
def ia(T:ae):Nat->List dC->ae
 | a,[]=>T.drop a
 | a,s :: l=>(T.take (a+s.1)).drop a++ia T (a+s.1+s.2.1) l
def IX:List dC->Nat
 | []=>0
 | s :: l=>s.2.1+IX l
theorem H5(T:ae):∀(l:List dC) (a:Nat),k9 a l<=T.length->a+(ia T a l).length+IX l=T.length
 | [],a,h=>by
  rw[k9]at h;rw[ia,IX,cC];omega
 | s :: l,a,h=>by
  rw[k9]at h;have h1:=LB l (a+s.1+s.2.1);have af:=H5 T l (a+s.1+s.2.1) h;rw[ia,IX,aY,cC,cq];omega
theorem Om(T:ae):∀(l:List dC) (a d:Nat),ia T (d+a) l=ia (T.drop d) a l
 | [],a,d=>by rw[ia,ia,drop_drop]
 | s :: l,a,d=>by
  rw[ia,ia,<-Om T l (a+s.1+s.2.1) d,show d+a+s.1+s.2.1=d+(a+s.1+s.2.1) by omega];refine congrArg (·++_) ?_;rw[take_drop,drop_drop,jb]
theorem On{T:ae}(cp:∀x∈T,x<256):∀(l:List dC) (a:Nat),∀x∈ia T a l,x<256
 | [],_,x,ah=>cp x (mem_of_mem_drop ah)
 | _ :: l,_,x,ah=>(List.mem_append.1 ah).elim (λh=>cp x (mem_of_mem_take (mem_of_mem_drop h))) (On cp l _ x)
def n3(T:ae):ae->Nat->Nat->ae
 | P,_,0=>P
 | P,a,n+1=>n3 T (lR T P (a:Int)) (a+1) n
theorem O4(T:ae):∀(n:Nat) (P:ae) (a:Nat),Places T P->Places T (n3 T P a n)
 | 0,_,_,h=>h
 | n+1,P,_,h=>O4 T n _ _ (Iv T P _ h)
def mq(T:ae)(D:Int):Nat->Nat->ae->Nat->List dC
 | 0,_,_,_=>[]
 | k+1,a,P,n=>
  if T.length<=a then []else
  if (ha T P (a:Int) D).2=0\/(ha T P (a:Int) D).2<(ha T (lR T P (a:Int)) ((a:Int)+1) D).2 then mq T D k (a+1) (lR T P (a:Int)) (n+1)
  else(n,(ha T P (a:Int) D).2,(ha T P (a:Int) D).1) :: mq T D k (a+(ha T P (a:Int) D).2) (n3 T (lR T P (a:Int)) (a+1) ((ha T P (a:Int) D).2-1)) 0
theorem ard(T:ae)(D:Int)(k a:Nat)(P:ae)(n:Nat):mq T D (k+1) a P n=if T.length<=a then []else
  if (ha T P (a:Int) D).2=0\/(ha T P (a:Int) D).2<(ha T (lR T P (a:Int)) ((a:Int)+1) D).2 then mq T D k (a+1) (lR T P (a:Int)) (n+1)
  else(n,(ha T P (a:Int) D).2,(ha T P (a:Int) D).1) :: mq T D k (a+(ha T P (a:Int) D).2) (n3 T (lR T P (a:Int)) (a+1) ((ha T P (a:Int) D).2-1)) 0:=rfl
theorem A5(T:ae)(k:Nat)(D:Int)(hk:k+3<=T.length):∀(ps:ae) (o n s:Nat),Places T ps ->
  q8 T k D ps o n s=(o,n)\/∃p,p<k/\q8 T k D ps o n s=(k-p,gX T p k)/\3<=gX T p k
 | [],_,_,_,_=>.inl rfl
 | p :: ps,o,n,s,cJ=>by
  have Ba:Places T ps:=λx ah=>cJ x (ew _ ah)
  rw[q8];by_cases hA:three T p=three T k
  .rw[ay (λh=>h hA)];have xn:=(abP T p k (cJ p ea) hk).1 hA;split
   .exact .inl rfl
   .split
    .exact A5 T k D hk ps o n (s+1) Ba
    .next av=>
     split
     .rcases A5 T k D hk ps (k-p) (gX T p k) (s+1) Ba with h | h
      .exact .inr ⟨p,by omega,h,xn⟩
      .exact .inr h
     .exact A5 T k D hk ps o n (s+1) Ba
  .rw[aA hA];exact A5 T k D hk ps o n s Ba
theorem find_ok(T P:ae)(a:Nat)(D:Int)(cJ:Places T P)(h:(ha T P (a:Int) D).2≠0) :
  3<=(ha T P (a:Int) D).2/\1<=(ha T P (a:Int) D).1/\(ha T P (a:Int) D).1<=a/\a+(ha T P (a:Int) D).2<=T.length /\
  (T.take (a-(ha T P (a:Int) D).1+(ha T P (a:Int) D).2)).drop (a-(ha T P (a:Int) D).1)=(T.take (a+(ha T P (a:Int) D).2)).drop a:=by
 rw[ha,wh]at h ⊢;by_cases aj:a+3<=T.length
 .rw[aA (by simp;omega),cY]at h ⊢;rcases A5 T a D aj P.reverse 0 0 0 (λp aw=>cJ p (List.mem_reverse.1 aw))with e | ⟨p,aw,e,aq⟩
  .rw[e]at h;exact absurd rfl h
  .rw[e];have af:=(Py T p a).2;refine⟨aq,by show 1<=a-p;omega,by show a-p<=a;omega,by show a+gX T p a<=T.length;omega,?_⟩;show(T.take (a-(a-p)+gX T p a)).drop (a-(a-p))=_;rw[show a-(a-p)=p by omega];exact aqd T p a _ rfl
 .rw[ay (by simp;omega)]at h;exact absurd rfl h
theorem ahH(T P:ae)(a:Nat)(D:Int)(cJ:Places T P):(ha T P (a:Int) D).1<=a/\(ha T P (a:Int) D).2<=T.length:=by
 rw[ha,wh];by_cases aj:a+3<=T.length
 .rw[aA (by simp;omega),cY];rcases A5 T a D aj P.reverse 0 0 0 (λp aw=>cJ p (List.mem_reverse.1 aw))with e | ⟨p,aw,e,aq⟩
  .rw[e];exact⟨zero_le _,zero_le _⟩
  .rw[e];have af:=(Py T p a).2;exact⟨by show a-p<=a;omega,by show gX T p a<=T.length;omega⟩
 .rw[ay (by simp;omega)];exact⟨zero_le _,zero_le _⟩
theorem PQ(T:ae)(D:Int):∀(k a:Nat) (P:ae) (n:Nat),Places T P->a+n<=T.length->pB T a (mq T D k (a+n) P n)
 | 0,a,P,n,_,h=>by rw[mq];show a<=T.length;omega
 | k+1,a,P,n,cJ,h=>by
  rw[mq];split
  .show a<=T.length;omega
  .next av=>
   split
   .have h1:=PQ T D k a (lR T P ((a+n:Nat):Int)) (n+1) (Iv T P _ cJ) (by omega);exact h1
   .next aL=>
    obtain⟨h1,af,aq,aJ,aR⟩:=find_ok T P (a+n) D cJ (λe=>aL (.inl e));refine⟨h1,af,aq,aJ,aR,?_⟩;have cg:=PQ T D k (a+n+(ha T P ((a+n:Nat):Int) D).2) (n3 T (lR T P ((a+n:Nat):Int)) (a+n+1) ((ha T P ((a+n:Nat):Int) D).2-1)) 0 (O4 T _ _ _ (Iv T P _ cJ)) (by omega);exact cg
theorem PP(T:ae)(D:Int):∀(k a:Nat) (P:ae) (n:Nat),(mq T D k a P n).length<=k
 | 0,_,_,_=>by rw[mq];exact Nat.le_refl _
 | k+1,a,P,n=>by
  rw[mq];split
  .exact zero_le _
  .split
   .exact le_succ_of_le (PP T D k _ _ _)
   .rw[b1];exact succ_le_succ (PP T D k _ _ _)
def mI(v:Int):Nat:=if v<=0 then 0 else if v=1 then 4 else if v=2 then 16 else 64
def rI(D X:ae)(v:Int):List dC:=
 if mI v=0 then []else mq (D.drop (D.length-600)++X.take 600) (mI v:Int) (X.take 600).length (D.drop (D.length-600)).length (n3 (D.drop (D.length-600)++X.take 600) [] 0 (D.drop (D.length-600)).length) 0
theorem arc(D X:ae)(v:Int):pB (D.drop (D.length-600)++X.take 600) (D.drop (D.length-600)).length (rI D X v):=by
 unfold rI;split
 .show(D.drop (D.length-600)).length<=_;rw[aY];omega
 .generalize D.drop (D.length-600)=fN;generalize X.take 600=dJ;have h:=PQ (fN++dJ) (mI v:Int) dJ.length fN.length (n3 (fN++dJ) [] 0 fN.length) 0 (O4 _ _ _ _ (λp aw=>by simp at aw)) (by rw[aY];omega);rw[ga]at h;exact h
theorem abb(D X:ae)(v:Int):(rI D X v).length<=600:=by
 rw[rI];split
 .rw[length_nil];omega
 .refine du (PP _ _ _ _ _ _) ?_;rw[cq];omega
theorem arb(D X:ae)(v:Int)(aE:v<=0):rI D X v=[]:=by
 have h:mI v=0:=by unfold mI;rw[aA aE]
 rw[rI,aA h]
theorem getD_at{l:ae}{i:Nat}(h:i<l.length):l.getD i 0=l[i]:=by simp[List.getD,h]
theorem ahS{l:ae}{i:Nat}(h:l.length<=i):l.getD i 0=0:=by simp[List.getD,h]
def nP(o:Nat):Nat->ae->ae
 | 0,A=>A
 | m+1,A=>nP o m (A++[A.getD (A.length-o) 0])
theorem TM(o:Nat):∀(m:Nat) (A:ae),(nP o m A).length=A.length+m
 | 0,_=>rfl
 | m+1,A=>by rw[nP,TM o m,aY,length_singleton];omega
theorem TN(o:Nat):∀(m:Nat) (A:ae),(∀x∈A,x<256)->∀x∈nP o m A,x<256
 | 0,_,h=>h
 | m+1,A,h=>by
  rw[nP];refine TN o m _ (λx ah=>?_);rcases List.mem_append.1 ah with ah | ah
  .exact h x ah
  .rw[List.mem_singleton.1 ah];rcases eP (A.length-o) A.length with h1 | h1
   .rw[getD_at h1];exact h _ (b7 h1)
   .rw[ahS h1];omega
def gM(a lim:Nat):Nat->Nat->List fc->Nat×Nat
 | n,L,[]=>if lim<n+L then(0,5)else(n+L,0)
 | n,L,s :: l=>
  if s.1<0\/(L:Int)<s.1 then(0,3)else
  if lim<n+s.1.toNat then(0,5)else
  if s.2.1<3\/s.2.2<1\/((a+n+s.1.toNat:Nat):Int)<s.2.2 then(0,3)else
  if lim<n+s.1.toNat+s.2.1.toNat then(0,5)else
  gM a lim (n+s.1.toNat+s.2.1.toNat) (L-s.1.toNat) l
def nC:ae->ae->List fc->ae
 | A,L,[]=>A++L
 | A,L,s :: l=>nC (nP s.2.2.toNat s.2.1.toNat (A++L.take s.1.toNat)) (L.drop s.1.toNat) l
def iV(D L:ae)(l:List fc)(lim:Nat):ae×Nat:=
 if (gM D.length lim 0 L.length l).2=0 then((nC D L l).drop D.length,0)else([],(gM D.length lim 0 L.length l).2)
theorem EJ(a lim n L:Nat)(x m o:Int)(l:List fc):gM a lim n L ((x,m,o) :: l) =
  if x<0\/(L:Int)<x then(0,3)else
  if lim<n+x.toNat then(0,5)else
  if m<3\/o<1\/((a+n+x.toNat:Nat):Int)<o then(0,3)else
  if lim<n+x.toNat+m.toNat then(0,5)else
  gM a lim (n+x.toNat+m.toNat) (L-x.toNat) l:=rfl
theorem Fo(A L:ae)(x m o:Int)(l:List fc):nC A L ((x,m,o) :: l)=nC (nP o.toNat m.toNat (A++L.take x.toNat)) (L.drop x.toNat) l:=rfl
theorem OS{a lim n L N:Nat}{s:fc}{l:List fc}(h:gM a lim n L (s :: l)=(N,0)):∃x m o:Nat,s=((x:Int),(m:Int),(o:Int))/\x<=L/\3<=m/\1<=o/\o<=a+n+x/\n+x+m<=lim/\gM a lim (n+x+m) (L-x) l=(N,0):=by
 obtain⟨x,m,o⟩:=s;rw[EJ]at h;split at h
 .simp at h
 .next h1=>
  split at h
  .simp at h
  .next af=>
   split at h
   .simp at h
   .next aq=>
    split at h
    .simp at h
    .next aJ=>
     obtain⟨x,rfl⟩:=Int.eq_ofNat_of_zero_le (by omega:0<=x);obtain⟨m,rfl⟩:=Int.eq_ofNat_of_zero_le (by omega:0<=m);obtain⟨o,rfl⟩:=Int.eq_ofNat_of_zero_le (by omega:0<=o);simp only[cY]at h h1 af aq aJ;exact⟨x,m,o,rfl,by omega,by omega,by omega,by omega,by omega,h⟩
theorem EK{a lim N:Nat}:∀{l:List fc} {n L:Nat},gM a lim n L l=(N,0)->n+L<=N/\N<=lim
 | [],n,L,h=>by
  rw[gM]at h;split at h
  .simp at h
  .injection h with h;omega
 | s :: l,n,L,h=>by
  obtain⟨x,m,o,_,h1,af,aq,aJ,aR,cg⟩:=OS h;have:=EK cg;omega
theorem Oj{a lim:Nat}:∀(l:List fc) (n L:Nat),(gM a lim n L l).2=0\/gM a lim n L l=(0,3)\/gM a lim n L l=(0,5)
 | [],n,L=>by
  rw[gM];split
  .exact .inr (.inr rfl)
  .exact .inl rfl
 | (x,m,o) :: l,n,L=>by
  rw[EJ];split
  .exact .inr (.inl rfl)
  .split
   .exact .inr (.inr rfl)
   .split
    .exact .inr (.inl rfl)
    .split
     .exact .inr (.inr rfl)
     .exact Oj l _ _
theorem YW{a lim n L:Nat}{l:List fc}(h:(gM a lim n L l).2=0):gM a lim n L l=((gM a lim n L l).1,0):=by
 rw[<-h]
theorem PY{a lim N:Nat}:∀{l:List fc} {n:Nat} {A L:ae},gM a lim n L.length l=(N,0)->A.length=a+n->(nC A L l).length=a+N
 | [],n,A,L,h,hA=>by
  rw[gM]at h;split at h
  .simp at h
  .injection h with h
   rw[nC,aY];omega
 | s :: l,n,A,L,h,hA=>by
  obtain⟨x,m,o,rfl,h1,af,aq,aJ,aR,cg⟩:=OS h;rw[Fo,cY,cY,cY];refine PY (n:=n+x+m) (by rw[cC];exact cg) ?_;rw[TM,aY,cq];omega
theorem PZ:∀(l:List fc) (A L:ae),(∀x∈A,x<256)->(∀x∈L,x<256)->∀x∈nC A L l,x<256
 | [],A,L,hA,bR=>λx ah=>(List.mem_append.1 ah).elim (hA x) (bR x)
 | (x,m,o) :: l,A,L,hA,bR=>by
  rw[Fo];exact PZ l _ _ (TN _ _ _ (λz aO=>(List.mem_append.1 aO).elim (hA z) (λh=>bR z (mem_of_mem_take h)))) (λz aO=>bR z (mem_of_mem_drop aO))
theorem YV(T:ae)(d lim:Nat):∀(l:List dC) (n:Nat),pB T (d+n) l->gM d lim n (ia T (d+n) l).length (l.map iu)=if d+lim<T.length then(0,5)else(T.length-d,0)
 | [],n,h=>by
  have h1:d+n<=T.length:=h;rw[map_nil,ia,gM,cC];by_cases af:d+lim<T.length
  .rw[aA af,aA (by omega)]
  .rw[ay af,ay (by omega),show n+(T.length-(d+n))=T.length-d by omega]
 | (x,m,o) :: l,n,h=>by
  obtain⟨aF,e2,e3,e4,e5,gR⟩:=h;simp only at aF e2 e3 e4 e5 gR;have ih:=YV T d lim l (n+x+m) (by rw[show d+(n+x+m)=d+n+x+m by omega];exact gR);rw[show d+(n+x+m)=d+n+x+m by omega]at ih;have hl:(ia T (d+n) ((x,m,o) :: l)).length=x+(ia T (d+n+x+m) l).length:=by
   rw[ia,aY,cC,cq];simp only;omega
  rw[map_cons,iu,EJ,hl];simp only[cY];rw[ay (by omega)];by_cases af:d+lim<T.length
  .by_cases aq:lim<n+x
   .rw[aA aq,aA af]
   .rw[ay aq,ay (by omega)];by_cases aJ:lim<n+x+m
    .rw[aA aJ,aA af]
    .rw[ay aJ,Nat.add_sub_cancel_left];exact ih
  .rw[ay (by omega),ay (by omega),ay (by omega),Nat.add_sub_cancel_left];exact ih
theorem aqe{T:ae}{a b m:Nat}(h:(T.take (a+m)).drop a=(T.take (b+m)).drop b)(j:Nat)(ar:j<m):T[a+j]?=T[b+j]?:=by
 have e:=congrArg (λl:ae=>l[j]?) h;simp only[getElem?_drop]at e;rw[getElem?_take_of_lt (by omega),getElem?_take_of_lt (by omega)]at e;exact e
theorem TP{T:ae}{o:Nat}(b8:1<=o):∀(m b:Nat),b+m<=T.length->o<=b->(∀j,j<m->T[b-o+j]?=T[b+j]?)->nP o m (T.take b)=T.take (b+m)
 | 0,_,_,_,_=>rfl
 | m+1,b,ak,av6,ar=>by
  have hl:(T.take b).length=b:=by rw[cq];omega
  have e:(T.take b).getD ((T.take b).length-o) 0=T[b]'(by omega):=by
   rw[hl,getD_at (by omega),getElem_take];have am:=ar 0 (by omega);rw[ga,ga,bH (by omega),bH (by omega)]at am;injection am
  rw[nP,e,<-gb (by omega:b<T.length),TP b8 m (b+1) (by omega) (by omega) (λj h=>by
   have:=ar (j+1) (by omega);rw[show b+1-o+j=b-o+(j+1) by omega,show b+1+j=b+(j+1) by omega];exact this),show b+1+m=b+(m+1) by omega]
theorem abO(T:ae):∀(l:List dC) (a:Nat),pB T a l->nC (T.take a) (ia T a l) (l.map iu)=T
 | [],a,_=>by rw[map_nil,ia,nC,gA]
 | (x,m,o) :: l,a,h=>by
  obtain⟨aF,e2,e3,e4,e5,gR⟩:=h;simp only at aF e2 e3 e4 e5 gR;have ah:((T.take (a+x)).drop a).length=x:=by rw[cC,cq];omega
  have aC:T.take a++(T.take (a+x)).drop a=T.take (a+x):=by
   have h1:=gA a (T.take (a+x));rw[take_take,Nat.min_eq_left (by omega)]at h1;exact h1
  rw[map_cons,iu,Fo];simp only[cY];rw[ia];simp only;rw[take_left' ah,drop_left' ah,aC,TP e2 m (a+x) (by omega) (by omega) (λj ar=>aqe e5 j ar)];exact abO T l (a+x+m) gR
theorem Ok{a lim n L:Nat}{l:List fc}{k:Nat}(hk:k<l.length):gM a lim n L (l.drop k)=gM a lim n L (l[k] :: l.drop (k+1)):=by
 rw[drop_eq_getElem_cons hk]
theorem aeP(D X:ae)(l:List dC)(lim:Nat)(h:pB (D++X) D.length l):iV D (ia X 0 l) (l.map iu) lim=if lim<X.length then([],5)else(X,0):=by
 have hl:ia (D++X) D.length l=ia X 0 l:=by
  have e:=Om (D++X) l 0 D.length;rwa [ga,drop_left]at e
 have h1:=YV (D++X) D.length lim l 0 (by rw[ga];exact h);rw[ga,hl,aY]at h1;have af:=abO (D++X) l D.length h;rw[take_left,hl]at af;rw[iV,h1,af,drop_left];by_cases aq:lim<X.length
 .rw[aA aq,aA (show D.length+lim<D.length+X.length by omega),ay (by decide)]
 .rw[ay aq,ay (show ¬D.length+lim<D.length+X.length by omega),aA rfl]
theorem ZI(T:ae):∀(l:List dC) (a:Nat),pB T a l->∀s∈l,s.1<=T.length/\s.2.1<=T.length/\s.2.2<=T.length
 | [],_,_,s,ap=>by simp at ap
 | t :: l,a,h,s,ap=>by
  obtain⟨aF,e2,e3,e4,_,gR⟩:=h;rcases List.mem_cons.1 ap with rfl | ap
  .omega
  .exact ZI T l _ gR s ap
end ao
theorem Row.below{w w':ai}{b:Nat}{t:TypeId}{ag:b3}(h:Row w b t ag)(ak:Below w.heap.size w w'):Row w' b t ag:=h.keep (ak.block b h.lt)
theorem dE{w:ai}{b:Nat}{t:TypeId}{x y z:Value}(h:Row w b t [x,y,z]):w.cell? ⟨b,0,none⟩=some x/\w.cell? ⟨b,1,none⟩=some y/\w.cell? ⟨b,2,none⟩=some z:=by
 have am:=h.cell 0;have h1:=h.cell 1;have af:=h.cell 2;simp only[dR,dU]at am h1 af;exact⟨am,h1,af⟩
namespace ao
def ll(T:ae)(p:Nat):Nat:=(three T p).foldl (λa c=>a*256+c) 0%2003
theorem XE(T:ae)(p:Nat):ll T p<2003:=mod_lt _ (by decide)
theorem akc{T:ae}{p q:Nat}(h:three T p=three T q):ll T p=ll T q:=by unfold ll;rw[h]
def o2(T P:ae)(c:Nat):ae:=(P.filter λp=>ll T p == c).reverse
theorem age(T P:ae)(a:Nat):o2 T (P++[a]) (ll T a)=a :: o2 T P (ll T a):=by
 unfold o2;rw[filter_append,reverse_append,filter_cons_of_pos (by simp)];simp
theorem agh(T P:ae)(a c:Nat)(h:ll T a≠c):o2 T (P++[a]) c=o2 T P c:=by
 unfold o2;rw[filter_append,filter_cons_of_neg (by simpa using h)];simp
theorem Le{T P:ae}{c p:Nat}(h:p∈o2 T P c):p∈P:=by
 unfold o2 at h;rw[mem_reverse]at h;exact(List.mem_filter.1 h).1
theorem agf(T P:ae)(c:Nat):(o2 T P c).length<=P.length:=by
 unfold o2;rw[length_reverse];exact length_filter_le _ _
def sc(A:Nat->Nat):Nat->ae->Prop
 | v,[]=>v=0
 | v,p :: ps=>v=p+1/\sc A (A p) ps
theorem sc.congr{A B:Nat->Nat}:∀{ps:ae} {v:Nat},sc A v ps->(∀p∈ps,B p=A p)->sc B v ps
 | [],_,h,_=>h
 | p :: ps,_,h,ak=>⟨h.1,by rw[ak p ea];exact sc.congr h.2 (λq hq=>ak q (ew _ hq))⟩
def vV(A:Nat->Nat):Nat->Nat->Nat
 | 0,_=>0
 | f+1,v=>if v=0 then 0 else 1+vV A f (A (v-1))
theorem Oo{A:Nat->Nat}:∀(f:Nat) (v:Nat) (ps:ae),sc A v ps->ps.length<=f->vV A f v=ps.length
 | 0,v,[],_,_=>rfl
 | 0,v,p :: ps,_,hl=>by simp at hl
 | f+1,v,[],h,_=>by
  rw[vV,aA (show v=0 from h)];rfl
 | f+1,v,p :: ps,h,hl=>by
  have aE:v=p+1:=h.1;subst aE;rw[vV,ay (by omega),Nat.add_sub_cancel,Oo f (A p) ps h.2 (by simpa using hl),b1];omega
def yb(T P:ae)(L A:Nat->Nat):Prop:=∀c,c<2003->sc A (L c) (o2 T P c)
theorem yb.zero(T:ae):yb T [] (λ_=>0) (λ_=>0):=λ_ _=>rfl
theorem yb.note{T P:ae}{L A:Nat->Nat}(h:yb T P L A)(a:Nat)(aS:a ∉ P) :
  yb T (P++[a]) (λc=>if c=ll T a then a+1 else L c) (λp=>if p=a then L (ll T a)else A p):=by
 intro c hc;have hold:∀v ps,sc A v ps->(∀p∈ps,p∈P)->sc (λp=>if p=a then L (ll T a)else A p) v ps:=λv ps h1 af=>
  h1.congr λp aw=>ay (λe=>aS (by have aq:=af p aw;rwa [show p=a from e]at aq))
 by_cases y1:c=ll T a
 .subst y1;rw[age];refine⟨aA rfl,?_⟩;simp only[if_true];exact hold _ _ (h _ hc) λp aw=>Le aw
 .rw[agh T P a c (λe=>y1 e.symm)];simp only[ay y1];exact hold _ _ (h _ hc) λp aw=>Le aw
theorem Y0{A:Nat->Nat}{v:Nat}{ps:ae}{n:Nat}(h:sc A v ps)(aw:∀p∈ps,p<n):v<=n:=by
 cases ps with
 | nil=>have:v=0:=h;omega
 | cons p ps=>have h1:v=p+1:=h.1;have:=aw p ea;omega
def nj(T:ae)(a:Nat):ae->Nat->Nat->Nat->Nat×Nat
 | [],o,n,_=>(o,n)
 | p :: ps,o,n,l=>
  if l=0 then(o,n)
  else if gX T p a<3 then nj T a ps o n l
  else if p<a/\(n<gX T p a\/(gX T p a=n/\a-p<o))then nj T a ps (a-p) (gX T p a) (l-1)
  else nj T a ps o n (l-1)
theorem Ux(T:ae)(a:Nat)(ps:ae)(o n:Nat):nj T a ps o n 0=(o,n):=by
 cases ps with
 | nil=>rfl
 | cons p ps=>rw[nj,aA rfl]
theorem Uy(T:ae)(a:Nat)(depth:Int):∀(ps:ae) (o n s:Nat),(depth<((s+1:Nat):Int)\/1000<s+1)->q8 T a depth ps o n s=(o,n)
 | [],_,_,_,_=>rfl
 | p :: ps,o,n,s,h=>by
  rw[q8];by_cases aq:three T p≠three T a
  .rw[aA aq];exact Uy T a depth ps o n s h
  .rw[ay aq,aA h]
theorem A4(T:ae)(a:Nat)(depth:Int)(aS:a+3<=T.length):∀(ps:ae) (o n s:Nat),(∀p∈ps,p+3<=T.length) ->
  q8 T a depth ps o n s=nj T a (ps.filter λp=>ll T p == ll T a) o n (min depth 1000-s).toNat
 | [],_,_,_,_=>rfl
 | p :: ps,o,n,s,aw=>by
  have i6:=aw p ea;have kC:∀q∈ps,q+3<=T.length:=λq hq=>aw q (ew _ hq)
  have aq:=abP T p a i6 aS;by_cases ap:depth<((s+1:Nat):Int)\/1000<s+1
  .rw[Uy T a depth _ o n s ap,show(min depth 1000-(s:Int)).toNat=0 by omega,Ux]
  .have vK:¬(min depth 1000-(s:Int)).toNat=0:=by omega
   have hl:(min depth 1000-(s:Int)).toNat-1=(min depth 1000-((s+1:Nat):Int)).toNat:=by omega
   rw[q8];by_cases hA:three T p=three T a
   .have xn:¬gX T p a<3:=by have:=aq.1 hA;omega
    rw[ay (λh=>h hA),ay ap,filter_cons_of_pos (by simpa using akc hA),nj,ay vK,ay xn,hl];by_cases bu:a<=p
    .have kh:¬(p<a/\(n<gX T p a\/(gX T p a=n/\a-p<o))):=λh=>by omega
     rw[aA bu,ay kh];exact A4 T a depth aS ps o n (s+1) kC
    .rw[ay bu];by_cases j1:n<gX T p a\/(gX T p a=n/\a-p<o)
     .have L0:p<a/\(n<gX T p a\/(gX T p a=n/\a-p<o)):=⟨by omega,j1⟩;rw[aA j1,aA L0];exact A4 T a depth aS ps _ _ (s+1) kC
     .have L0:¬(p<a/\(n<gX T p a\/(gX T p a=n/\a-p<o))):=λh=>j1 h.2
      rw[ay j1,ay L0];exact A4 T a depth aS ps _ _ (s+1) kC
   .have xn:gX T p a<3:=by
     rcases eP (gX T p a) 3 with h | h
     .exact h
     .exact absurd (aq.2 h) hA
    rw[aA hA];by_cases hh:ll T p=ll T a
    .rw[filter_cons_of_pos (by simpa using hh),nj,ay vK,aA xn];exact A4 T a depth aS ps o n s kC
    .rw[filter_cons_of_neg (by simpa using hh)];exact A4 T a depth aS ps o n s kC
theorem ahG(T P:ae)(a:Nat)(depth:Int)(aS:a+3<=T.length)(cJ:Places T P) :
  ha T P (a:Int) depth=nj T a (o2 T P (ll T a)) 0 0 (min depth 1000).toNat:=by
 rw[ha,wh,aA (by simp;omega),cY,A4 T a depth aS P.reverse 0 0 0 (λp aw=>cJ p (by simpa using aw)),o2,filter_reverse];simp
end ao
end Go.Proofs.YtgiicohbigiapaaGreat
