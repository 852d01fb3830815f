/- Contracts. -/
import Derived.Test.YtgiicohbigiapaaGreatOaa
import Derived.Test.YtgiicohbigiapaaGreatRows
import Derived.WalkSpells
import Derived.WalkLawsBesides
import Derived.Test.YtgiicohbigiapaaGreatOz1
import Derived.Test.YtgiicohbigiapaaGreatOz0
set_option maxHeartbeats 4000000
set_option maxRecDepth 100000
open Go.Proofs.Tryz Go.Proofs.YtgiicohbigiapaaGreat.am List Nat Option
namespace Go.Proofs.YtgiicohbigiapaaGreat
open Go.RowKit
def Row(w:ah)(g:Nat)(t:TypeId)(ag:b1):Prop:=w.heap[g]?=some (.cells ag.toArray t (0,0))
def kW(w:ah)(g:Nat)(t:TypeId):Prop:=∃ag u qI,w.heap[g]?=some (.cells ag u qI)/\u≠t
section
variable {w w':ah} {g:Nat} {t:TypeId} {ag:b1}
theorem Row.lt(h:Row w g t ag):g<w.heap.size:=by
 rcases eF g w.heap.size with h1|h1
 .exact h1
 .unfold Row at h;rw[Array.getElem?_eq_none h1]at h;cases h
theorem Row.cell(h:Row w g t ag)(i:Nat):w.cell? ⟨g,i,none⟩=ag[i]?:=by
 rw[cell_of_row w g i ag.toArray t (0,0) h];simp
theorem Row.free(h:Row w g t ag)(i:Nat):w.frozen? ⟨g,i,none⟩=false:=by
 unfold Row at h;simp[World.frozen?,h]
theorem Row.new(w:ah)(t:TypeId)(ag:b1):Row (w.alloc (.cells ag.toArray t)) w.heap.size t ag:=heap_alloc_new w _
theorem Row.sx{u:TypeId}(h:Row w g t ag)(aZ:t≠u):kW w g u:=⟨_,_,_,h,aZ⟩
theorem kW.ne{eT:Nat}(h:kW w g t)(j7:Row w eT t ag):eT≠g:=by
 rintro rfl;obtain⟨a,b,c,h1,af⟩:=h;unfold Row at j7;rw[h1]at j7;injection j7 with j7
 injection j7 with _ aq
 exact af aq
theorem kW.lt(h:kW w g t):g<w.heap.size:=by
 obtain⟨a,b,c,h1,_⟩:=h;rcases eF g w.heap.size with af|af
 .exact af
 .rw[Array.getElem?_eq_none af]at h1;cases h1
theorem Row.keep(h:Row w g t ag)(ak:w'.heap[g]?=w.heap[g]?):Row w' g t ag:=ak.trans h
theorem kW.keep(h:kW w g t)(ak:w'.heap[g]?=w.heap[g]?):kW w' g t:=by
 obtain⟨a,b,c,h1,af⟩:=h;exact⟨a,b,c,ak.trans h1,af⟩
theorem Row.alloc(h:Row w g t ag)(o:Obj):Row (w.alloc o) g t ag:=h.keep (Below.heap_alloc w o g h.lt)
theorem Row.cG(h:Row w g t ag){p:Addr}(ax:g≠p.block)(u:Value):Row (w.setCell p u) g t ag:=h.keep (Below.heap_setCell w p u g ax)
theorem Row.bq(h:Row w g t ag)(i:Nat)(u:Value):Row (w.setCell ⟨g,i,none⟩ u) g t (ag.set i u):=by
 unfold Row at h ⊢;simp[World.setCell,Array.getElem?_modify,h]
theorem kW.setCell(h:kW w g t)(p:Addr)(u:Value):kW (w.setCell p u) g t:=by
 by_cases ax:g=p.block
 .obtain⟨a,b,c,h1,af⟩:=h;by_cases ap:p.spot.isSome=true
  .exact⟨a,b,c,by simp[World.setCell,Array.getElem?_modify,<-ax,h1,ap],af⟩
  .exact⟨a.setIfInBounds p.off u,b,c,by simp[World.setCell,Array.getElem?_modify,<-ax,h1,ap],af⟩
 .exact h.keep (Below.heap_setCell w p u g ax)
theorem kW.alloc(h:kW w g t)(o:Obj):kW (w.alloc o) g t:=h.keep (Below.heap_alloc w o g h.lt)
end
section
variable {w w' o5:ah} {row:Option Nat}
theorem dj(h:av w w')(row:Option Nat):w.grownBy w' row:=⟨h.os,h.tape,h.output,h.size,λi ay _=>h.block i ay⟩
theorem dg(w:ah)(row:Option Nat):w.grownBy w row:=⟨rfl,rfl,rfl,Nat.le_refl _,λ_ _ _=>rfl⟩
theorem qa(h:w.grownBy w' row)(k:Nat):w.grownBy (w'.drewN k) row:=⟨h.os,h.tape,h.output,h.size,h.block⟩
theorem ns(h:w.grownBy w' row):w.grownBy w'.drew row:=⟨h.os,h.tape,h.output,h.size,h.block⟩
theorem im(h:w.grownBy w' row)(o:Obj):w.grownBy (w'.alloc o) row:=
 ⟨h.os,h.tape,h.output,dl h.size (by simp),λi ay aA=>(Below.heap_alloc w' o i (gJ ay h.size)).trans (h.block i ay aA)⟩
theorem ho{b:Nat}(h:w.grownBy w' (some b))(i:Nat)(u:Value):w.grownBy (w'.setCell ⟨b,i,none⟩ u) (some b):=
 ⟨h.os,h.tape,h.output,by simpa [World.setCell]using h.size,λk hk aA=>(Below.heap_setCell w' ⟨b,i,none⟩ u k (λe=>aA (by rw[e]))).trans (h.block k hk aA)⟩
theorem below_grown{B b:Nat}(h:w.grownBy w' (some b))(ak:B<=b)(bx:B<=w.heap.size):Below B w w':=
 ⟨h.os,h.tape,h.output,h.size,λk hk=>h.block k (by omega) (λe=>by injection e with e;omega)⟩
end
def strOf(bs:ae):ByteArray:=⟨(bs.map UInt8.ofNat).toArray⟩
theorem cy(bs:ae):(strOf bs).size=bs.length:=by simp[strOf,ByteArray.size]
def aO(l:ae):b1:=l.map λb:Nat=>.int .u8 b
def aM(l:ae):b1:=l.map λb:Nat=>.int .i64 b
theorem i7(l:ae):(aO l).length=l.length:=by simp[aO]
theorem gm(l:ae):(aM l).length=l.length:=by simp[aM]
theorem jq(l:ae)(i:Nat)(h:i<l.length):(aO l)[i]?=some (.int .u8 (l[i]:Int)):=by simp[aO,h]
theorem iN(l:ae)(i:Nat)(h:i<l.length):(aM l)[i]?=some (.int .i64 (l[i]:Int)):=by simp[aM,h]
theorem Bg(l:ae)(i b:Nat):(aO l).set i (.int .u8 b)=aO (l.set i b):=by simp[aO,map_set]
theorem DJ(l m:ae):aM l++aM m=aM (l++m):=by simp[aM]
def Reads(w:ah)(A:a7)(xs:b1):Prop:=xs≠[]->∃g off,A=some ⟨g,off,none⟩/\∀j,j<xs.length->w.cell? ⟨g,off+j,none⟩=xs[j]?
def Chain(w:ah):a7->ae->Prop
|p,[]=>p=none
|p,u::us=>∃g q,p=some ⟨g,0,none⟩/\Row w g 192 [.pointer q,.int .u64 u]/\Chain w q us
theorem Chain.keep{w w':ah}(hk:∀g ag,Row w g 192 ag->Row w' g 192 ag):∀(us:ae) (p:a7),Chain w p us->Chain w' p us
|[],_,h=>h
|_::us,_,⟨g,q,ax,aj,hc⟩=>⟨g,q,ax,hk _ _ aj,Chain.keep hk us q hc⟩
theorem Pn{w w':ah}{row:Option Nat}(aF:w.grownBy w' row)(aj:∀g,row=some g->kW w g 192):∀g ag,Row w g 192 ag->Row w' g 192 ag:=
 λg _ h=>h.keep (aF.block g h.lt (λe=>(aj g e.symm).ne h rfl))
def dL(w:ah)(b off N n:Nat):Prop:=∃(p:a7) (rest:Nat) (us:ae),
 w.cell? ⟨b,off,none⟩=some (.pointer p)/\w.cell? ⟨b,off+1,none⟩=some (.int .u64 rest)/\w.cell? ⟨b,off+2,none⟩=some (.int .i64 n) /\
 w.frozen? ⟨b,off,none⟩=false/\w.frozen? ⟨b,off+1,none⟩=false/\w.frozen? ⟨b,off+2,none⟩=false/\kW w b 192/\Chain w p us/\mL N n rest us
theorem dL.keep{w w':ah}{b off N n:Nat}{row:Option Nat}(h:dL w b off N n)(aF:w.grownBy w' row)(ak:row≠some b)(aj:∀g,row=some g->kW w g 192):dL w' b off N n:=by
 obtain⟨p,rest,us,ao,h1,af,f0,f1,f2,aA,hc,hw⟩:=h;have hl:=aF.block b aA.lt (λe=>ak e.symm);exact⟨p,rest,us,(World.cell?_of_block hl).trans ao,(World.cell?_of_block hl).trans h1,(World.cell?_of_block hl).trans af,(World.frozen?_of_block hl).trans f0,(World.frozen?_of_block hl).trans f1,
  (World.frozen?_of_block hl).trans f2,aA.keep hl,hc.keep (Pn aF aj),hw⟩
theorem dL.drew{w:ah}{b off N n:Nat}(h:dL w b off N n):dL w.drew b off N n:=h.keep (row:=none) (ns (dg _ _)) (by simp) (by simp)
theorem dL.new(w:ah)(t:TypeId)(aE:t≠192):dL (w.alloc (.cells #[.pointer none,.int .u64 0,.int .i64 0] t)) w.heap.size 0 0 0:=by
 have h:Row (w.alloc (.cells #[.pointer none,.int .u64 0,.int .i64 0] t)) w.heap.size t [.pointer none,.int .u64 0,.int .i64 0]:=Row.new w t _;exact⟨none,0,[],h.cell 0,h.cell 1,h.cell 2,h.free 0,h.free 1,h.free 2,h.sx aE,rfl,mL.zero⟩
def er(w:ah)(b off:Nat)(bs:ae)(pos:Nat):Prop:=
 w.cell? ⟨b,off,none⟩=some (.string (strOf bs))/\w.cell? ⟨b,off+1,none⟩=some (.int .i64 pos)/\w.frozen? ⟨b,off+1,none⟩=false/\b<w.heap.size
theorem er.keep{w w':ah}{b off pos:Nat}{bs:ae}{row:Option Nat}(h:er w b off bs pos)(aF:w.grownBy w' row)(ak:row≠some b):er w' b off bs pos:=by
 obtain⟨ao,h1,af,aq⟩:=h;have hl:=aF.block b aq (λe=>ak e.symm);exact⟨(World.cell?_of_block hl).trans ao,(World.cell?_of_block hl).trans h1,(World.frozen?_of_block hl).trans af,gJ aq aF.size⟩
theorem er.drewN{w:ah}{b off pos:Nat}{bs:ae}(h:er w b off bs pos)(k:Nat):er (w.drewN k) b off bs pos:=h.keep (row:=none) (qa (dg _ _) k) (by simp)
namespace am
def qr:ae->ae->Nat
|a::x,b::y=>if a=b then 1+qr x y else 0
|_,_=>0
def gL(T:ae)(a b:Nat):Nat:=qr (T.drop a) (T.drop b)
theorem HC(T:ae)(a b:Nat)(aV:a<T.length)(ak:b<T.length):gL T a b=if T[a]=T[b]then 1+gL T (a+1) (b+1)else 0:=by
 unfold gL;rw[drop_eq_getElem_cons aV,drop_eq_getElem_cons ak,qr]
theorem YP(T:ae)(a b:Nat)(h:T.length<=a\/T.length<=b):gL T a b=0:=by
 unfold gL;rcases h with h|h
 .rw[drop_of_length_le h];rfl
 .rw[drop_of_length_le h];cases T.drop a<;>rfl
theorem YN:∀x y:ae,qr x y<=x.length/\qr x y<=y.length
|[],y=>by simp[qr]
|_::_,[]=>by simp[qr]
|a::x,b::y=>by
  have h:=YN x y;unfold qr;split
  .simp only[bY];omega
  .simp
theorem Ox(T:ae)(a b:Nat):gL T a b<=T.length-a/\gL T a b<=T.length-b:=by
 have h:=YN (T.drop a) (T.drop b);rw[cB,cB]at h;exact h
def Bd(T:ae)(a b:Int):Nat:=if 0<=a/\0<=b/\a<=T.length/\b<=T.length then gL T a.toNat b.toNat else 0
def vr(T:ae)(a:Int):Bool:=decide (0<=a/\a+3<=T.length)
def yT(T:ae)(P:ae)(a:Int):Bool:=vr T a && !P.any (λp=>decide ((p:Int)=a))
def ly(T:ae)(P:ae)(a:Int):ae:=if yT T P a then P++[a.toNat]else P
def three(T:ae)(p:Nat):ae:=(T.take (p+3)).drop p
def qH(T:ae)(a:Nat)(depth:Int):ae->Nat->Nat->Nat->Nat×Nat
|[],o,n,_=>(o,n)
|p::ps,o,n,s=>
  if three T p≠three T a then qH T a depth ps o n s
  else if depth<((s+1:Nat):Int)\/1000<s+1 then(o,n)
  else if a<=p then qH T a depth ps o n (s+1)
  else if n<gL T p a\/(gL T p a=n/\a-p<o)then qH T a depth ps (a-p) (gL T p a) (s+1)
  else qH T a depth ps o n (s+1)
def gS(T:ae)(P:ae)(a depth:Int):Nat×Nat:=if vr T a then qH T a.toNat depth P.reverse 0 0 0 else(0,0)
def Places(T:ae)(P:ae):Prop:=∀p∈P,p+3<=T.length
theorem Hn(T P:ae)(a:Int)(h:Places T P):Places T (ly T P a):=by
 unfold ly;split
 .next aA=>
  intro p ax;rcases List.mem_append.1 ax with ax|ax
  .exact h p ax
  .rw[List.mem_singleton.1 ax];unfold yT vr at aA;simp only[Bool.and_eq_true,decide_eq_true_eq]at aA;omega
 .exact h
theorem O2(T:ae)(p:Nat)(h:p+3<=T.length):three T p=[T[p],T[p+1],T[p+2]]:=by
 unfold three;rw[drop_take,drop_eq_getElem_cons (by omega),drop_eq_getElem_cons (by omega:p+1<T.length),drop_eq_getElem_cons (by omega:p+1+1<T.length),show p+3-p=3 by omega];rfl
theorem ZV(T:ae)(p k:Nat)(ax:p+3<=T.length)(hk:k+3<=T.length):three T p=three T k↔3<=gL T p k:=by
 rw[O2 T p ax,O2 T k hk,HC T p k (by omega) (by omega)];by_cases ao:T[p]=T[k]
 .rw[aB ao,HC T (p+1) (k+1) (by omega) (by omega)];by_cases h1:T[p+1]=T[k+1]
  .rw[aB h1,HC T (p+1+1) (k+1+1) (by omega) (by omega)];by_cases af:T[p+1+1]=T[k+1+1]
   .rw[aB af];constructor
    .intro _;omega
    .intro _;rw[ao,h1];have:T[p+2]=T[k+2]:=af;rw[this]
   .rw[az af];constructor
    .intro e;simp only[List.cons.injEq]at e;exact absurd e.2.2.1 af
    .intro h;omega
  .rw[az h1];constructor
   .intro e;simp only[List.cons.injEq]at e;exact absurd e.2.1 h1
   .intro h;omega
 .rw[az ao];constructor
  .intro e;simp only[List.cons.injEq]at e;exact absurd e.1 ao
  .intro h;omega
theorem YO:∀x y:ae,x.take (qr x y)=y.take (qr x y)
|[],y=>by simp[qr]
|_::_,[]=>by simp[qr]
|a::x,b::y=>by
  unfold qr;by_cases h:a=b
  .rw[aB h,Nat.add_comm,take_succ_cons,take_succ_cons,h,YO x y]
  .rw[az h];rfl
theorem aqy(T:ae)(a b n:Nat)(h:gL T a b=n):(T.take (a+n)).drop a=(T.take (b+n)).drop b:=by
 rw[drop_take,drop_take,Nat.add_sub_cancel_left,Nat.add_sub_cancel_left,<-h];exact YO _ _
def pi(T:ae):Nat->List dx->Prop
|a,[]=>a<=T.length
|a,s::l=>3<=s.2.1/\1<=s.2.2/\s.2.2<=a+s.1/\a+s.1+s.2.1<=T.length/\(T.take (a+s.1-s.2.2+s.2.1)).drop (a+s.1-s.2.2)=(T.take (a+s.1+s.2.1)).drop (a+s.1)/\pi T (a+s.1+s.2.1) l
def k0:Nat->List dx->Nat
|a,[]=>a
|a,s::l=>k0 (a+s.1+s.2.1) l
theorem KF:∀(l:List dx) (a:Nat),a<=k0 a l
|[],a=>Nat.le_refl a
|s::l,a=>by
  have:=KF l (a+s.1+s.2.1);rw[k0];omega
theorem FT:∀(l:List dx) (d a:Nat),k0 (d+a) l=d+k0 a l
|[],_,_=>rfl
|s::l,d,a=>by
  rw[k0,k0,<-FT l d,show d+a+s.1+s.2.1=d+(a+s.1+s.2.1) by omega]
theorem NP(T:ae):∀(l:List dx) (a:Nat),pi T a l->k0 a l<=T.length
|[],_,h=>h
|_::l,_,h=>NP T l _ h.2.2.2.2.2
def hZ(T:ae):Nat->List dx->ae
|a,[]=>T.drop a
|a,s::l=>(T.take (a+s.1)).drop a++hZ T (a+s.1+s.2.1) l
def HJ:List dx->Nat
|[]=>0
|s::l=>s.2.1+HJ l
theorem G0(T:ae):∀(l:List dx) (a:Nat),k0 a l<=T.length->a+(hZ T a l).length+HJ l=T.length
|[],a,h=>by
  rw[k0]at h;rw[hZ,HJ,cB];omega
|s::l,a,h=>by
  rw[k0]at h;have h1:=KF l (a+s.1+s.2.1);have af:=G0 T l (a+s.1+s.2.1) h;rw[hZ,HJ,aY,cB,cr];omega
theorem Nn(T:ae):∀(l:List dx) (a d:Nat),hZ T (d+a) l=hZ (T.drop d) a l
|[],a,d=>by rw[hZ,hZ,drop_drop]
|s::l,a,d=>by
  rw[hZ,hZ,<-Nn T l (a+s.1+s.2.1) d,show d+a+s.1+s.2.1=d+(a+s.1+s.2.1) by omega];refine congrArg (·++_) ?_;rw[take_drop,drop_drop,iO]
theorem Np{T:ae}(cq:∀x∈T,x<256):∀(l:List dx) (a:Nat),∀x∈hZ T a l,x<256
|[],_,x,ai=>cq x (mem_of_mem_drop ai)
|_::l,_,x,ai=>(List.mem_append.1 ai).elim (λh=>cq x (mem_of_mem_take (mem_of_mem_drop h))) (Np cq l _ x)
def nD(T:ae):ae->Nat->Nat->ae
|P,_,0=>P
|P,a,n+1=>nD T (ly T P (a:Int)) (a+1) n
theorem N1(T:ae):∀(n:Nat) (P:ae) (a:Nat),Places T P->Places T (nD T P a n)
|0,_,_,h=>h
|n+1,P,_,h=>N1 T n _ _ (Hn T P _ h)
def l2(T:ae)(D:Int):Nat->Nat->ae->Nat->List dx
|0,_,_,_=>[]
|k+1,a,P,n=>
  if T.length<=a then []else
  if (gS T P (a:Int) D).2=0\/(gS T P (a:Int) D).2<(gS T (ly T P (a:Int)) ((a:Int)+1) D).2 then l2 T D k (a+1) (ly T P (a:Int)) (n+1)
  else(n,(gS T P (a:Int) D).2,(gS T P (a:Int) D).1)::l2 T D k (a+(gS T P (a:Int) D).2) (nD T (ly T P (a:Int)) (a+1) ((gS T P (a:Int) D).2-1)) 0
theorem arA(T:ae)(D:Int)(k a:Nat)(P:ae)(n:Nat):l2 T D (k+1) a P n=if T.length<=a then []else
  if (gS T P (a:Int) D).2=0\/(gS T P (a:Int) D).2<(gS T (ly T P (a:Int)) ((a:Int)+1) D).2 then l2 T D k (a+1) (ly T P (a:Int)) (n+1)
  else(n,(gS T P (a:Int) D).2,(gS T P (a:Int) D).1)::l2 T D k (a+(gS T P (a:Int) D).2) (nD T (ly T P (a:Int)) (a+1) ((gS T P (a:Int) D).2-1)) 0:=rfl
theorem Aa(T:ae)(k:Nat)(D:Int)(hk:k+3<=T.length):∀(ps:ae) (o n s:Nat),Places T ps ->
  qH T k D ps o n s=(o,n)\/∃p,p<k/\qH T k D ps o n s=(k-p,gL T p k)/\3<=gL T p k
|[],_,_,_,_=>.inl rfl
|p::ps,o,n,s,cJ=>by
  have Af:Places T ps:=λx ai=>cJ x (eo _ ai)
  rw[qH];by_cases hA:three T p=three T k
  .rw[az (λh=>h hA)];have wv:=(ZV T p k (cJ p dU) hk).1 hA;split
   .exact .inl rfl
   .split
    .exact Aa T k D hk ps o n (s+1) Af
    .next au=>
     split
     .rcases Aa T k D hk ps (k-p) (gL T p k) (s+1) Af with h|h
      .exact .inr ⟨p,by omega,h,wv⟩
      .exact .inr h
     .exact Aa T k D hk ps o n (s+1) Af
  .rw[aB hA];exact Aa T k D hk ps o n s Af
theorem find_ok(T P:ae)(a:Nat)(D:Int)(cJ:Places T P)(h:(gS T P (a:Int) D).2≠0) :
  3<=(gS T P (a:Int) D).2/\1<=(gS T P (a:Int) D).1/\(gS T P (a:Int) D).1<=a/\a+(gS T P (a:Int) D).2<=T.length /\
  (T.take (a-(gS T P (a:Int) D).1+(gS T P (a:Int) D).2)).drop (a-(gS T P (a:Int) D).1)=(T.take (a+(gS T P (a:Int) D).2)).drop a:=by
 rw[gS,vr]at h ⊢;by_cases aj:a+3<=T.length
 .rw[aB (by simp;omega),cX]at h ⊢;rcases Aa T a D aj P.reverse 0 0 0 (λp ax=>cJ p (List.mem_reverse.1 ax))with e|⟨p,ax,e,aq⟩
  .rw[e]at h;exact absurd rfl h
  .rw[e];have af:=(Ox T p a).2;refine⟨aq,by show 1<=a-p;omega,by show a-p<=a;omega,by show a+gL T p a<=T.length;omega,?_⟩;show(T.take (a-(a-p)+gL T p a)).drop (a-(a-p))=_;rw[show a-(a-p)=p by omega];exact aqy T p a _ rfl
 .rw[az (by simp;omega)]at h;exact absurd rfl h
theorem ah0(T P:ae)(a:Nat)(D:Int)(cJ:Places T P):(gS T P (a:Int) D).1<=a/\(gS T P (a:Int) D).2<=T.length:=by
 rw[gS,vr];by_cases aj:a+3<=T.length
 .rw[aB (by simp;omega),cX];rcases Aa T a D aj P.reverse 0 0 0 (λp ax=>cJ p (List.mem_reverse.1 ax))with e|⟨p,ax,e,aq⟩
  .rw[e];exact⟨zero_le _,zero_le _⟩
  .rw[e];have af:=(Ox T p a).2;exact⟨by show a-p<=a;omega,by show gL T p a<=T.length;omega⟩
 .rw[az (by simp;omega)];exact⟨zero_le _,zero_le _⟩
theorem OQ(T:ae)(D:Int):∀(k a:Nat) (P:ae) (n:Nat),Places T P->a+n<=T.length->pi T a (l2 T D k (a+n) P n)
|0,a,P,n,_,h=>by rw[l2];show a<=T.length;omega
|k+1,a,P,n,cJ,h=>by
  rw[l2];split
  .show a<=T.length;omega
  .next au=>
   split
   .have h1:=OQ T D k a (ly T P ((a+n:Nat):Int)) (n+1) (Hn T P _ cJ) (by omega);exact h1
   .next aL=>
    obtain⟨h1,af,aq,aK,aT⟩:=find_ok T P (a+n) D cJ (λe=>aL (.inl e));refine⟨h1,af,aq,aK,aT,?_⟩;have ci:=OQ T D k (a+n+(gS T P ((a+n:Nat):Int) D).2) (nD T (ly T P ((a+n:Nat):Int)) (a+n+1) ((gS T P ((a+n:Nat):Int) D).2-1)) 0 (N1 T _ _ _ (Hn T P _ cJ)) (by omega);exact ci
theorem OP(T:ae)(D:Int):∀(k a:Nat) (P:ae) (n:Nat),(l2 T D k a P n).length<=k
|0,_,_,_=>by rw[l2];exact Nat.le_refl _
|k+1,a,P,n=>by
  rw[l2];split
  .exact zero_le _
  .split
   .exact le_succ_of_le (OP T D k _ _ _)
   .rw[bY];exact succ_le_succ (OP T D k _ _ _)
def mh(v:Int):Nat:=if v<=0 then 0 else if v=1 then 4 else if v=2 then 16 else 64
def q9(D X:ae)(v:Int):List dx:=
 if mh v=0 then []else l2 (D.drop (D.length-600)++X.take 600) (mh v:Int) (X.take 600).length (D.drop (D.length-600)).length (nD (D.drop (D.length-600)++X.take 600) [] 0 (D.drop (D.length-600)).length) 0
theorem arz(D X:ae)(v:Int):pi (D.drop (D.length-600)++X.take 600) (D.drop (D.length-600)).length (q9 D X v):=by
 unfold q9;split
 .show(D.drop (D.length-600)).length<=_;rw[aY];omega
 .generalize D.drop (D.length-600)=fI;generalize X.take 600=dE;have h:=OQ (fI++dE) (mh v:Int) dE.length fI.length (nD (fI++dE) [] 0 fI.length) 0 (N1 _ _ _ _ (λp ax=>by simp at ax)) (by rw[aY];omega);rw[fX]at h;exact h
theorem Zj(D X:ae)(v:Int):(q9 D X v).length<=600:=by
 rw[q9];split
 .rw[length_nil];omega
 .refine dl (OP _ _ _ _ _ _) ?_;rw[cr];omega
theorem ary(D X:ae)(v:Int)(aD:v<=0):q9 D X v=[]:=by
 have h:mh v=0:=by unfold mh;rw[aB aD]
 rw[q9,aB h]
theorem getD_at{l:ae}{i:Nat}(h:i<l.length):l.getD i 0=l[i]:=by simp[List.getD,h]
theorem aie{l:ae}{i:Nat}(h:l.length<=i):l.getD i 0=0:=by simp[List.getD,h]
def np(o:Nat):Nat->ae->ae
|0,A=>A
|m+1,A=>np o m (A++[A.getD (A.length-o) 0])
theorem RM(o:Nat):∀(m:Nat) (A:ae),(np o m A).length=A.length+m
|0,_=>rfl
|m+1,A=>by rw[np,RM o m,aY,length_singleton];omega
theorem RN(o:Nat):∀(m:Nat) (A:ae),(∀x∈A,x<256)->∀x∈np o m A,x<256
|0,_,h=>h
|m+1,A,h=>by
  rw[np];refine RN o m _ (λx ai=>?_);rcases List.mem_append.1 ai with ai|ai
  .exact h x ai
  .rw[List.mem_singleton.1 ai];rcases eF (A.length-o) A.length with h1|h1
   .rw[getD_at h1];exact h _ (b8 h1)
   .rw[aie h1];omega
def gC(a lim:Nat):Nat->Nat->List eS->Nat×Nat
|n,L,[]=>if lim<n+L then(0,5)else(n+L,0)
|n,L,s::l=>
  if s.1<0\/(L:Int)<s.1 then(0,3)else
  if lim<n+s.1.toNat then(0,5)else
  if s.2.1<3\/s.2.2<1\/((a+n+s.1.toNat:Nat):Int)<s.2.2 then(0,3)else
  if lim<n+s.1.toNat+s.2.1.toNat then(0,5)else
  gC a lim (n+s.1.toNat+s.2.1.toNat) (L-s.1.toNat) l
def na:ae->ae->List eS->ae
|A,L,[]=>A++L
|A,L,s::l=>na (np s.2.2.toNat s.2.1.toNat (A++L.take s.1.toNat)) (L.drop s.1.toNat) l
def iG(D L:ae)(l:List eS)(lim:Nat):ae×Nat:=
 if (gC D.length lim 0 L.length l).2=0 then((na D L l).drop D.length,0)else([],(gC D.length lim 0 L.length l).2)
theorem DR(a lim n L:Nat)(x m o:Int)(l:List eS):gC a lim n L ((x,m,o)::l) =
  if x<0\/(L:Int)<x then(0,3)else
  if lim<n+x.toNat then(0,5)else
  if m<3\/o<1\/((a+n+x.toNat:Nat):Int)<o then(0,3)else
  if lim<n+x.toNat+m.toNat then(0,5)else
  gC a lim (n+x.toNat+m.toNat) (L-x.toNat) l:=rfl
theorem Ev(A L:ae)(x m o:Int)(l:List eS):na A L ((x,m,o)::l)=na (np o.toNat m.toNat (A++L.take x.toNat)) (L.drop x.toNat) l:=rfl
theorem NN{a lim n L N:Nat}{s:eS}{l:List eS}(h:gC a lim n L (s::l)=(N,0)):∃x m o:Nat,s=((x:Int),(m:Int),(o:Int))/\x<=L/\3<=m/\1<=o/\o<=a+n+x/\n+x+m<=lim/\gC a lim (n+x+m) (L-x) l=(N,0):=by
 obtain⟨x,m,o⟩:=s;rw[DR]at h;split at h
 .simp at h
 .next h1=>
  split at h
  .simp at h
  .next af=>
   split at h
   .simp at h
   .next aq=>
    split at h
    .simp at h
    .next aK=>
     obtain⟨x,rfl⟩:=Int.eq_ofNat_of_zero_le (by omega:0<=x);obtain⟨m,rfl⟩:=Int.eq_ofNat_of_zero_le (by omega:0<=m);obtain⟨o,rfl⟩:=Int.eq_ofNat_of_zero_le (by omega:0<=o);simp only[cX]at h h1 af aq aK;exact⟨x,m,o,rfl,by omega,by omega,by omega,by omega,by omega,h⟩
theorem DS{a lim N:Nat}:∀{l:List eS} {n L:Nat},gC a lim n L l=(N,0)->n+L<=N/\N<=lim
|[],n,L,h=>by
  rw[gC]at h;split at h
  .simp at h
  .injection h with h;omega
|s::l,n,L,h=>by
  obtain⟨x,m,o,_,h1,af,aq,aK,aT,ci⟩:=NN h;have:=DS ci;omega
theorem Nj{a lim:Nat}:∀(l:List eS) (n L:Nat),(gC a lim n L l).2=0\/gC a lim n L l=(0,3)\/gC a lim n L l=(0,5)
|[],n,L=>by
  rw[gC];split
  .exact .inr (.inr rfl)
  .exact .inl rfl
|(x,m,o)::l,n,L=>by
  rw[DR];split
  .exact .inr (.inl rfl)
  .split
   .exact .inr (.inr rfl)
   .split
    .exact .inr (.inl rfl)
    .split
     .exact .inr (.inr rfl)
     .exact Nj l _ _
theorem W4{a lim n L:Nat}{l:List eS}(h:(gC a lim n L l).2=0):gC a lim n L l=((gC a lim n L l).1,0):=by
 rw[<-h]
theorem O0{a lim N:Nat}:∀{l:List eS} {n:Nat} {A L:ae},gC a lim n L.length l=(N,0)->A.length=a+n->(na A L l).length=a+N
|[],n,A,L,h,hA=>by
  rw[gC]at h;split at h
  .simp at h
  .injection h with h
   rw[na,aY];omega
|s::l,n,A,L,h,hA=>by
  obtain⟨x,m,o,rfl,h1,af,aq,aK,aT,ci⟩:=NN h;rw[Ev,cX,cX,cX];refine O0 (n:=n+x+m) (by rw[cB];exact ci) ?_;rw[RM,aY,cr];omega
theorem O1:∀(l:List eS) (A L:ae),(∀x∈A,x<256)->(∀x∈L,x<256)->∀x∈na A L l,x<256
|[],A,L,hA,bR=>λx ai=>(List.mem_append.1 ai).elim (hA x) (bR x)
|(x,m,o)::l,A,L,hA,bR=>by
  rw[Ev];exact O1 l _ _ (RN _ _ _ (λz aQ=>(List.mem_append.1 aQ).elim (hA z) (λh=>bR z (mem_of_mem_take h)))) (λz aQ=>bR z (mem_of_mem_drop aQ))
theorem W3(T:ae)(d lim:Nat):∀(l:List dx) (n:Nat),pi T (d+n) l->gC d lim n (hZ T (d+n) l).length (l.map h9)=if d+lim<T.length then(0,5)else(T.length-d,0)
|[],n,h=>by
  have h1:d+n<=T.length:=h;rw[map_nil,hZ,gC,cB];by_cases af:d+lim<T.length
  .rw[aB af,aB (by omega)]
  .rw[az af,az (by omega),show n+(T.length-(d+n))=T.length-d by omega]
|(x,m,o)::l,n,h=>by
  obtain⟨aG,e2,e3,e4,e5,gG⟩:=h;simp only at aG e2 e3 e4 e5 gG;have ih:=W3 T d lim l (n+x+m) (by rw[show d+(n+x+m)=d+n+x+m by omega];exact gG);rw[show d+(n+x+m)=d+n+x+m by omega]at ih;have hl:(hZ T (d+n) ((x,m,o)::l)).length=x+(hZ T (d+n+x+m) l).length:=by
   rw[hZ,aY,cB,cr];simp only;omega
  rw[map_cons,h9,DR,hl];simp only[cX];rw[az (by omega)];by_cases af:d+lim<T.length
  .by_cases aq:lim<n+x
   .rw[aB aq,aB af]
   .rw[az aq,az (by omega)];by_cases aK:lim<n+x+m
    .rw[aB aK,aB af]
    .rw[az aK,Nat.add_sub_cancel_left];exact ih
  .rw[az (by omega),az (by omega),az (by omega),Nat.add_sub_cancel_left];exact ih
theorem aqz{T:ae}{a b m:Nat}(h:(T.take (a+m)).drop a=(T.take (b+m)).drop b)(j:Nat)(ar:j<m):T[a+j]?=T[b+j]?:=by
 have e:=congrArg (λl:ae=>l[j]?) h;simp only[getElem?_drop]at e;rw[getElem?_take_of_lt (by omega),getElem?_take_of_lt (by omega)]at e;exact e
theorem RO{T:ae}{o:Nat}(b9:1<=o):∀(m b:Nat),b+m<=T.length->o<=b->(∀j,j<m->T[b-o+j]?=T[b+j]?)->np o m (T.take b)=T.take (b+m)
|0,_,_,_,_=>rfl
|m+1,b,ak,aws,ar=>by
  have hl:(T.take b).length=b:=by rw[cr];omega
  have e:(T.take b).getD ((T.take b).length-o) 0=T[b]'(by omega):=by
   rw[hl,getD_at (by omega),getElem_take];have ao:=ar 0 (by omega);rw[fX,fX,bI (by omega),bI (by omega)]at ao;injection ao
  rw[np,e,<-fY (by omega:b<T.length),RO b9 m (b+1) (by omega) (by omega) (λj h=>by
   have:=ar (j+1) (by omega);rw[show b+1-o+j=b-o+(j+1) by omega,show b+1+j=b+(j+1) by omega];exact this),show b+1+m=b+(m+1) by omega]
theorem ZU(T:ae):∀(l:List dx) (a:Nat),pi T a l->na (T.take a) (hZ T a l) (l.map h9)=T
|[],a,_=>by rw[map_nil,hZ,na,gq]
|(x,m,o)::l,a,h=>by
  obtain⟨aG,e2,e3,e4,e5,gG⟩:=h;simp only at aG e2 e3 e4 e5 gG;have ai:((T.take (a+x)).drop a).length=x:=by rw[cB,cr];omega
  have aE:T.take a++(T.take (a+x)).drop a=T.take (a+x):=by
   have h1:=gq a (T.take (a+x));rw[take_take,Nat.min_eq_left (by omega)]at h1;exact h1
  rw[map_cons,h9,Ev];simp only[cX];rw[hZ];simp only;rw[take_left' ai,drop_left' ai,aE,RO e2 m (a+x) (by omega) (by omega) (λj ar=>aqz e5 j ar)];exact ZU T l (a+x+m) gG
theorem Nk{a lim n L:Nat}{l:List eS}{k:Nat}(hk:k<l.length):gC a lim n L (l.drop k)=gC a lim n L (l[k]::l.drop (k+1)):=by
 rw[drop_eq_getElem_cons hk]
theorem ae1(D X:ae)(l:List dx)(lim:Nat)(h:pi (D++X) D.length l):iG D (hZ X 0 l) (l.map h9) lim=if lim<X.length then([],5)else(X,0):=by
 have hl:hZ (D++X) D.length l=hZ X 0 l:=by
  have e:=Nn (D++X) l 0 D.length;rwa [fX,drop_left]at e
 have h1:=W3 (D++X) D.length lim l 0 (by rw[fX];exact h);rw[fX,hl,aY]at h1;have af:=ZU (D++X) l D.length h;rw[take_left,hl]at af;rw[iG,h1,af,drop_left];by_cases aq:lim<X.length
 .rw[aB aq,aB (show D.length+lim<D.length+X.length by omega),az (by decide)]
 .rw[az aq,az (show ¬D.length+lim<D.length+X.length by omega),aB rfl]
theorem XR(T:ae):∀(l:List dx) (a:Nat),pi T a l->∀s∈l,s.1<=T.length/\s.2.1<=T.length/\s.2.2<=T.length
|[],_,_,s,ap=>by simp at ap
|t::l,a,h,s,ap=>by
  obtain⟨aG,e2,e3,e4,_,gG⟩:=h;rcases List.mem_cons.1 ap with rfl|ap
  .omega
  .exact XR T l _ gG s ap
end am
theorem Row.below{w w':ah}{b:Nat}{t:TypeId}{ag:b1}(h:Row w b t ag)(ak:av w w'):Row w' b t ag:=h.keep (ak.block b h.lt)
theorem dz{w:ah}{b:Nat}{t:TypeId}{x y z:Value}(h:Row w b t [x,y,z]):w.cell? ⟨b,0,none⟩=some x/\w.cell? ⟨b,1,none⟩=some y/\w.cell? ⟨b,2,none⟩=some z:=by
 have ao:=h.cell 0;have h1:=h.cell 1;have af:=h.cell 2;simp only[dH,dJ]at ao h1 af;exact⟨ao,h1,af⟩
namespace am
def k8(T:ae)(p:Nat):Nat:=(three T p).foldl (λa c=>a*256+c) 0%2003
theorem VK(T:ae)(p:Nat):k8 T p<2003:=mod_lt _ (by decide)
theorem akz{T:ae}{p q:Nat}(h:three T p=three T q):k8 T p=k8 T q:=by unfold k8;rw[h]
def oK(T P:ae)(c:Nat):ae:=(P.filter λp=>k8 T p==c).reverse
theorem agx(T P:ae)(a:Nat):oK T (P++[a]) (k8 T a)=a::oK T P (k8 T a):=by
 unfold oK;rw[filter_append,reverse_append,filter_cons_of_pos (by simp)];simp
theorem agz(T P:ae)(a c:Nat)(h:k8 T a≠c):oK T (P++[a]) c=oK T P c:=by
 unfold oK;rw[filter_append,filter_cons_of_neg (by simpa using h)];simp
theorem Ki{T P:ae}{c p:Nat}(h:p∈oK T P c):p∈P:=by
 unfold oK at h;rw[mem_reverse]at h;exact(List.mem_filter.1 h).1
theorem agy(T P:ae)(c:Nat):(oK T P c).length<=P.length:=by
 unfold oK;rw[length_reverse];exact length_filter_le _ _
def rE(A:Nat->Nat):Nat->ae->Prop
|v,[]=>v=0
|v,p::ps=>v=p+1/\rE A (A p) ps
theorem rE.congr{A B:Nat->Nat}:∀{ps:ae} {v:Nat},rE A v ps->(∀p∈ps,B p=A p)->rE B v ps
|[],_,h,_=>h
|p::ps,_,h,ak=>⟨h.1,by rw[ak p dU];exact rE.congr h.2 (λq hq=>ak q (eo _ hq))⟩
def vi(A:Nat->Nat):Nat->Nat->Nat
|0,_=>0
|f+1,v=>if v=0 then 0 else 1+vi A f (A (v-1))
theorem Nq{A:Nat->Nat}:∀(f:Nat) (v:Nat) (ps:ae),rE A v ps->ps.length<=f->vi A f v=ps.length
|0,v,[],_,_=>rfl
|0,v,p::ps,_,hl=>by simp at hl
|f+1,v,[],h,_=>by
  rw[vi,aB (show v=0 from h)];rfl
|f+1,v,p::ps,h,hl=>by
  have aD:v=p+1:=h.1;subst aD;rw[vi,az (by omega),Nat.add_sub_cancel,Nq f (A p) ps h.2 (by simpa using hl),bY];omega
def xg(T P:ae)(L A:Nat->Nat):Prop:=∀c,c<2003->rE A (L c) (oK T P c)
theorem xg.zero(T:ae):xg T [] (λ_=>0) (λ_=>0):=λ_ _=>rfl
theorem xg.note{T P:ae}{L A:Nat->Nat}(h:xg T P L A)(a:Nat)(aV:a ∉ P) :
  xg T (P++[a]) (λc=>if c=k8 T a then a+1 else L c) (λp=>if p=a then L (k8 T a)else A p):=by
 intro c hc;have hold:∀v ps,rE A v ps->(∀p∈ps,p∈P)->rE (λp=>if p=a then L (k8 T a)else A p) v ps:=λv ps h1 af=>
  h1.congr λp ax=>az (λe=>aV (by have aq:=af p ax;rwa [show p=a from e]at aq))
 by_cases x7:c=k8 T a
 .subst x7;rw[agx];refine⟨aB rfl,?_⟩;simp only[if_true];exact hold _ _ (h _ hc) λp ax=>Ki ax
 .rw[agz T P a c (λe=>x7 e.symm)];simp only[az x7];exact hold _ _ (h _ hc) λp ax=>Ki ax
theorem W8{A:Nat->Nat}{v:Nat}{ps:ae}{n:Nat}(h:rE A v ps)(ax:∀p∈ps,p<n):v<=n:=by
 cases ps with
|nil=>have:v=0:=h;omega
|cons p ps=>have h1:v=p+1:=h.1;have:=ax p dU;omega
def mP(T:ae)(a:Nat):ae->Nat->Nat->Nat->Nat×Nat
|[],o,n,_=>(o,n)
|p::ps,o,n,l=>
  if l=0 then(o,n)
  else if gL T p a<3 then mP T a ps o n l
  else if p<a/\(n<gL T p a\/(gL T p a=n/\a-p<o))then mP T a ps (a-p) (gL T p a) (l-1)
  else mP T a ps o n (l-1)
theorem Sx(T:ae)(a:Nat)(ps:ae)(o n:Nat):mP T a ps o n 0=(o,n):=by
 cases ps with
|nil=>rfl
|cons p ps=>rw[mP,aB rfl]
theorem Sy(T:ae)(a:Nat)(depth:Int):∀(ps:ae) (o n s:Nat),(depth<((s+1:Nat):Int)\/1000<s+1)->qH T a depth ps o n s=(o,n)
|[],_,_,_,_=>rfl
|p::ps,o,n,s,h=>by
  rw[qH];by_cases aq:three T p≠three T a
  .rw[aB aq];exact Sy T a depth ps o n s h
  .rw[az aq,aB h]
theorem z8(T:ae)(a:Nat)(depth:Int)(aV:a+3<=T.length):∀(ps:ae) (o n s:Nat),(∀p∈ps,p+3<=T.length) ->
  qH T a depth ps o n s=mP T a (ps.filter λp=>k8 T p==k8 T a) o n (min depth 1000-s).toNat
|[],_,_,_,_=>rfl
|p::ps,o,n,s,ax=>by
  have iL:=ax p dU;have kr:∀q∈ps,q+3<=T.length:=λq hq=>ax q (eo _ hq)
  have aq:=ZV T p a iL aV;by_cases ap:depth<((s+1:Nat):Int)\/1000<s+1
  .rw[Sy T a depth _ o n s ap,show(min depth 1000-(s:Int)).toNat=0 by omega,Sx]
  .have u5:¬(min depth 1000-(s:Int)).toNat=0:=by omega
   have hl:(min depth 1000-(s:Int)).toNat-1=(min depth 1000-((s+1:Nat):Int)).toNat:=by omega
   rw[qH];by_cases hA:three T p=three T a
   .have wv:¬gL T p a<3:=by have:=aq.1 hA;omega
    rw[az (λh=>h hA),az ap,filter_cons_of_pos (by simpa using akz hA),mP,az u5,az wv,hl];by_cases bx:a<=p
    .have j8:¬(p<a/\(n<gL T p a\/(gL T p a=n/\a-p<o))):=λh=>by omega
     rw[aB bx,az j8];exact z8 T a depth aV ps o n (s+1) kr
    .rw[az bx];by_cases ji:n<gL T p a\/(gL T p a=n/\a-p<o)
     .have K4:p<a/\(n<gL T p a\/(gL T p a=n/\a-p<o)):=⟨by omega,ji⟩;rw[aB ji,aB K4];exact z8 T a depth aV ps _ _ (s+1) kr
     .have K4:¬(p<a/\(n<gL T p a\/(gL T p a=n/\a-p<o))):=λh=>ji h.2
      rw[az ji,az K4];exact z8 T a depth aV ps _ _ (s+1) kr
   .have wv:gL T p a<3:=by
     rcases eF (gL T p a) 3 with h|h
     .exact h
     .exact absurd (aq.2 h) hA
    rw[aB hA];by_cases hh:k8 T p=k8 T a
    .rw[filter_cons_of_pos (by simpa using hh),mP,az u5,aB wv];exact z8 T a depth aV ps o n s kr
    .rw[filter_cons_of_neg (by simpa using hh)];exact z8 T a depth aV ps o n s kr
theorem ahZ(T P:ae)(a:Nat)(depth:Int)(aV:a+3<=T.length)(cJ:Places T P) :
  gS T P (a:Int) depth=mP T a (oK T P (k8 T a)) 0 0 (min depth 1000).toNat:=by
 rw[gS,vr,aB (by simp;omega),cX,z8 T a depth aV P.reverse 0 0 0 (λp ax=>cJ p (by simpa using ax)),oK,filter_reverse];simp
end am
end Go.Proofs.YtgiicohbigiapaaGreat
