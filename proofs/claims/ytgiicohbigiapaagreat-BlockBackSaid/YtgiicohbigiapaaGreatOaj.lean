/- Contracts. -/
import Derived.Test.YtgiicohbigiapaaGreatOai
import Derived.Test.YtgiicohbigiapaaGreatOac
import Derived.Lib.OwnKind
import Derived.Deep.AppendLies
import Derived.Deep.RegionHeld3
import Derived.Test.YtgiicohbigiapaaGreatOz1
import Derived.Test.YtgiicohbigiapaaGreatOz0
set_option maxHeartbeats 4000000
set_option maxRecDepth 100000
open Go.Proofs.Tryz Go.Proofs.YtgiicohbigiapaaGreat.am List Nat Option
namespace Go.Proofs.YtgiicohbigiapaaGreat
namespace am
def ht(bs:ae):Option (ae×Nat):=
 if 0<(aX bs).2/\(aX bs).1<=4096/\(aX bs).1<=bs.length-(aX bs).2 then some ((bs.drop (aX bs).2).take (aX bs).1,(aX bs).2+(aX bs).1)else none
def qq(V len left:Nat):Bool:=decide (left<8/\V/2^(len-left)=0)
def headD(aI:ae):Option (ae×Nat):=
 match takeA (bd aI) (8*aI.length)with
|none=>none
|some t=>if qq (bd aI) (8*aI.length) t.2.2=true then some (t.1,t.2.1)else none
def lh(t:ae)(n:Nat):Option (ae×Nat):=
 match ht t with
|none=>none
|some p=>match ht (t.drop p.2)with
 |none=>none
 |some q=>match headD p.1 with
  |none=>none
  |some h=>(iI h.1 h.2 q.1 (n:Int)).map λc=>(c,p.2+q.2)
def nG(bs:ae)(n:Nat):Option (ae×Nat):=
 match bs with
|[]=>none
|k::t=>if k=0 then(if n<=t.length then some (t.take n,1+n)else none)
  else if k=1 then(if 0<t.length then some (List.replicate n (t[0]?.getD 0),2)else none)
  else if k=2 then(lh t n).map λr=>(r.1,1+r.2)else none
theorem yX(t:ae)(n:Nat):nG (0::t) n=if n<=t.length then some (t.take n,1+n)else none:=rfl
theorem yY(t:ae)(n:Nat):nG (1::t) n=if 0<t.length then some (List.replicate n (t[0]?.getD 0),2)else none:=rfl
theorem yZ(t:ae)(n:Nat):nG (2::t) n=(lh t n).map λr=>(r.1,1+r.2):=rfl
theorem Bb(k:Nat)(t:ae)(n:Nat)(h:2<k):nG (k::t) n=none:=by
 show(if k=0 then _ else if k=1 then _ else if k=2 then _ else none)=none;rw[az (by omega),az (by omega),az (by omega)]
def lC(bs:ae)(n:Nat):Option (ae×Nat):=
 match nG bs n with
|none=>none
|some r=>if ∀x∈r.1,x<28 then some r else none
def hs:Nat->ae->Nat->Option (List (ae)×Nat)
|0,_,_=>some ([],0)
|k+1,bs,n=>match lC bs n with
 |none=>none
 |some r=>(hs k (bs.drop r.2) n).map λq=>(r.1::q.1,r.2+q.2)
def fV(c:Nat):Nat:=if c<16 then 0 else c-12
def nE(c V:Nat):Nat:=if c<16 then c else 2^(c-12)+V%2^(c-12)
def la:ae->Nat->Nat->Option (ae×Nat×Nat)
|[],V,L=>some ([],V,L)
|c::ag,V,L=>if fV c<=L then(la ag (V/2^fV c) (L-fV c)).map λr=>(nE c V::r.1,r.2)else none
def jZ:List (ae)->Nat->Nat->Int×Int×Int->Option (List dx×Nat×Nat)
|[],V,L,_=>some ([],V,L)
|ag::l,V,L,r=>match la ag V L with
 |none=>none
 |some t=>match jW r.1 r.2.1 r.2.2 ((t.1[2]?.getD 0:Nat):Int)with
  |none=>none
  |some x=>(jZ l t.2.1 t.2.2 (hn r.1 r.2.1 r.2.2 x)).map λq=>((t.1[0]?.getD 0,t.1[1]?.getD 0+3,x.toNat)::q.1,q.2)
def jx(ag:List (ae))(i:Nat):ae:=ag.map λl=>l[i]?.getD 0
def jo(ag:List (ae))(n:Nat):List (ae):=(List.range n).map (jx ag)
def rO:Option (List dx×Nat×Nat)->Option (List dx)
|none=>none
|some t=>if t.2.2<8/\t.2.1=0 then some t.1 else none
def ol(ag:List (ae))(n:Nat)(bQ:ae):Option (List dx):=rO (jZ (jo ag n) (bd bQ) (8*bQ.length) (1,2,4))
def iC(bs:ae)(most:Int):Option (List dx×Nat):=
 if 0<(aX bs).2/\((aX bs).1:Int)<=most/\(aX bs).1<=1000 then
  (if (aX bs).1=0 then some ([],(aX bs).2)else
   match hs 3 (bs.drop (aX bs).2) (aX bs).1 with
  |none=>none
  |some p=>match ht ((bs.drop (aX bs).2).drop p.2)with
   |none=>none
   |some q=>(ol p.1 (aX bs).1 q.1).map λl=>(l,(aX bs).2+p.2+q.2))
 else none
theorem YW(t:ae)(n:Nat)(l:ae)(k:Nat)(au:∀x∈t,x<256)(h:lh t n=some (l,k)):l.length=n/\∀x∈l,x<256:=by
 unfold lh at h;split at h
 .cases h
 .next p ax=>
  split at h
  .cases h
  .next q hq=>
   split at h
   .cases h
   .next u hu=>
    cases aI:iI u.1 u.2 q.1 (n:Int)with
   |none=>rw[aI]at h;cases h
   |some c=>
     rw[aI,map_some]at h;injection h with h
     injection h with h1 af
     subst h1;have aL:dW u.1 u.2:=by
      unfold headD at hu;split at hu
      .cases hu
      .next v aD=>
       split at hu
       .injection hu with hu
        subst hu;exact(HO _ _ v.1 v.2.1 v.2.2 aD).1
       .cases hu
     have ak:∀x∈q.1,x<256:=by
      unfold ht at hq;split at hq
      .injection hq with hq
       subst hq;exact λx ai=>au x (mem_of_mem_drop (mem_of_mem_drop (mem_of_mem_take ai)))
      .cases hq
     obtain⟨_,bN,_,gn⟩:=ahC u.1 u.2 aL q.1 c n ak aI;exact⟨by omega,gn⟩
theorem Yo(bs:ae)(n:Nat)(au:∀x∈bs,x<256)(l:ae)(k:Nat)(h:nG bs n=some (l,k)):l.length=n/\∀x∈l,x<256:=by
 cases bs with
|nil=>cases h
|cons y t=>
  have lX:∀x∈t,x<256:=λx ai=>au x (eo _ ai)
  by_cases ao:y=0
  .subst ao;rw[yX]at h;split at h
   .injection h with h
    injection h with h1 _
    subst h1;exact⟨by rw[cr];omega,λx ai=>lX x (mem_of_mem_take ai)⟩
   .cases h
  .by_cases h1:y=1
   .subst h1;rw[yY]at h;split at h
    .next ax=>
     injection h with h
     injection h with h1 _
     subst h1;refine⟨iZ,λx ai=>?_⟩;rw[mem_replicate]at ai;rw[ai.2,bI ax,b7];exact lX _ (b8 ax)
    .cases h
   .by_cases af:y=2
    .subst af;rw[yZ]at h;cases ap:lh t n with
    |none=>rw[ap]at h;cases h
    |some r=>
      rw[ap,map_some]at h;injection h with h
      injection h with h1 _
      subst h1;exact YW t n r.1 r.2 lX ap
    .rw[Bb y t n (by omega)]at h;cases h
theorem Zq(bs:ae)(n:Nat)(au:∀x∈bs,x<256)(l:ae)(k:Nat)(h:lC bs n=some (l,k)):l.length=n/\∀x∈l,x<28:=by
 unfold lC at h;split at h
 .cases h
 .next r aj=>
  split at h
  .next ej=>
   injection h with h
   subst h;exact⟨(Yo bs n au l k aj).1,ej⟩
  .cases h
theorem Pc(t u:ae)(h:t.length<=4096):ht (bg t.length++(t++u))=some (t,(bg t.length).length+t.length)/\(bg t.length++(t++u)).drop ((bg t.length).length+t.length)=u:=by
 have ax:=xX t.length (by omega);have aI:(bg t.length++(t++u)).drop (bg t.length).length=t++u:=drop_left;constructor
 .unfold ht;rw[wm t.length (t++u) (by omega)];dsimp only;rw[aB ⟨ax,h,by rw[aY,aY];omega⟩,aI,take_left]
 .rw[<-drop_drop,aI,drop_left]
structure uq(c S:ae):Prop where
 read:∀u,lC (S++u) c.length=some (c,S.length)
 lt:∀x∈S,x<256
structure uo(c S:ae):Prop where
 q:uq c S
 len:S.length<=c.length+1
 first:S.length=c.length+1->S=0::c
theorem asv(l:ae)(t:ae×Nat)(h:ht l=some t):0<t.2:=by
 unfold ht at h;split at h
 .injection h with h
  subst h;dsimp only;omega
 .cases h
theorem apD(bs:ae)(n:Nat)(aA:1<=n)(r:ae×Nat)(h:nG bs n=some r):2<=r.2:=by
 cases bs with
|nil=>cases h
|cons k t=>
  by_cases ao:k=0
  .subst ao;rw[yX]at h;split at h
   .injection h with h
    subst h;dsimp only;omega
   .cases h
  .by_cases h1:k=1
   .subst h1;rw[yY]at h;split at h
    .injection h with h
     subst h;exact Nat.le_refl _
    .cases h
   .by_cases af:k=2
    .subst af;rw[yZ]at h;cases aI:lh t n with
    |none=>rw[aI]at h;cases h
    |some x=>
      rw[aI,map_some]at h;injection h with h
      subst h;unfold lh at aI;split at aI
      .cases aI
      .next p ax=>
       have lz:=asv _ p ax;split at aI
       .cases aI
       .next q hq=>
        split at aI
        .cases aI
        .next u hu=>
         cases he:iI u.1 u.2 q.1 (n:Int)with
        |none=>rw[he]at aI;cases aI
        |some c=>
          rw[he,map_some]at aI;injection aI with aI
          subst aI;dsimp only;omega
    .rw[Bb k t n (by omega)]at h;cases h
theorem NR(c S:ae)(h:uo c S)(h1:c.length=1):S=0::c:=by
 apply h.first
 have aj:=h.q.read [];rw[append_nil,h1]at aj;unfold lC at aj;split at aj
 .cases aj
 .next r bS=>
  split at aj
  .injection aj with aj
   have af:=apD S 1 (by omega) r bS;have hl:=h.len;rw[aj]at af;dsimp only at af;omega
  .cases aj
theorem OS(bs:ae)(n:Nat)(c:ae)(k:Nat)(h:nG bs n=some (c,k))(ej:∀x∈c,x<28):lC bs n=some (c,k):=by
 unfold lC;rw[h];dsimp only;rw[aB ej]
def kK(c:ae):ae:=0::c
def pk(c:ae):ae:=1::c.take 1
def uz(aI bQ:ae):ae:=2::(bg aI.length++(aI++(bg bQ.length++bQ)))
theorem arM(c:ae)(ej:∀x∈c,x<28):uq c (kK c):=by
 refine⟨λu=>OS _ _ _ _ ?_ ej,λx ai=>?_⟩
 .show nG (0::(c++u)) c.length=_;rw[yX,aB (by rw[aY];omega),take_left];simp[kK];omega
 .rcases List.mem_cons.1 ai with rfl|ai
  .omega
  .have:=ej x ai;omega
theorem arH(c:ae)(ej:∀x∈c,x<28)(h:gv (ei c)=1):uq c (pk c):=by
 obtain⟨x,e,ao⟩:=NQ c h;have aG:c.take 1=[x]:=by
  rw[e];obtain⟨n,aA⟩:∃n,c.length=n+1:=⟨c.length-1,by omega⟩;rw[aA];rfl
 have ai:x<28:=ej x (by rw[e,mem_replicate];exact⟨by omega,rfl⟩);refine⟨λu=>OS _ _ _ _ ?_ ej,λy hy=>?_⟩
 .unfold pk;rw[aG];show nG (1::x::u) c.length=_;rw[yY,aB (by simp)];simp only[dH,b7,bY,length_nil];rw[<-e]
 .unfold pk at hy;rw[aG]at hy;simp at hy;omega
theorem Xi:∀(l:ae) (x:Nat),x∈l->x<=l.sum
|[],_,h=>by cases h
|y::l,x,h=>by
  rw[sum_cons];rcases List.mem_cons.1 h with rfl|h
  .omega
  .have:=Xi l x h;omega
theorem Y2:∀(l:ae),(∀h:l≠[],0<l.getLast h)->cA l=l
|[],_=>rfl
|n::l,h=>by
  have h1:=h (by simp);unfold cA;cases l with
 |nil=>
   simp at h1;rw[az (by simp;omega)];rfl
 |cons m r=>
   have af:0<(m::r).getLast (by simp):=by rw[getLast_cons (by simp)]at h1;exact h1
   have aq:(m::r).getLast (by simp)<=(m::r).sum:=Xi _ _ (getLast_mem _);rw[az (by omega),Y2 (m::r) (λ_=>af)]
theorem ajz(U:ae)(bT:Nat)(aL:dW U bT)(ap:cA U=U):headD (bytesOf (fy U bT).1 (((fy U bT).2+7)/8))=some (U,bT):=by
 have au:=ajq U bT aL;obtain⟨e,he⟩:∃e,8*(((fy U bT).2+7)/8)=(fy U bT).2+e:=⟨8*(((fy U bT).2+7)/8)-(fy U bT).2,by omega⟩;have aE:=ar9 U bT 0 e aL;rw[Nat.zero_mul,fX,ap]at aE;have aD:bd (bytesOf (fy U bT).1 (((fy U bT).2+7)/8))=(fy U bT).1:=by
  rw[Ez,h0];exact mod_eq_of_lt (gJ au (dy (by omega) (by omega)))
 unfold headD;rw[aD,bytesOf_length,he,aE];dsimp only;have aju:e<8:=by omega
 have hend:qq (fy U bT).1 ((fy U bT).2+e) e=true:=by
  unfold qq;rw[Nat.add_sub_cancel];exact bE ⟨aju,div_eq_of_lt au⟩
 rw[aB hend]
theorem arI(c U bQ:ae)(bT:Nat)(ej:∀x∈c,x<28)(aL:dW U bT)(ap:cA U=U)(he:uF U bT c=some bQ)(mS:bQ.length<=4096)(hb256:∀x∈bQ,x<256)(hz:c.length<=10000):uq c (uz (bytesOf (fy U bT).1 (((fy U bT).2+7)/8)) bQ):=by
 have oT:=ajz U bT aL ap;have bA:=(T1 U bT aL).2;have aI:=ahd U bT aL c bQ (by omega) he;have hl:(bytesOf (fy U bT).1 (((fy U bT).2+7)/8)).length<=4096:=by rw[bytesOf_length];omega
 have au:∀x∈bytesOf (fy U bT).1 (((fy U bT).2+7)/8),x<256:=ut _ _;generalize bytesOf (fy U bT).1 (((fy U bT).2+7)/8)=x8 at *;refine⟨λu=>OS _ _ _ _ ?_ ej,λx ai=>?_⟩
 .show nG (2::((bg x8.length++(x8++(bg bQ.length++bQ)))++u)) c.length=_;have aG:(bg x8.length++(x8++(bg bQ.length++bQ)))++u=bg x8.length++(x8++(bg bQ.length++(bQ++u))):=by simp only[df]
  rw[aG];obtain⟨t1,t2⟩:=Pc x8 (bg bQ.length++(bQ++u)) hl;obtain⟨t3,t4⟩:=Pc bQ u mS;rw[yZ];unfold lh;rw[t1];dsimp only;rw[t2,t3];dsimp only;rw[oT];dsimp only;rw[aI];simp[uz];omega
 .unfold uz at ai;rcases List.mem_cons.1 ai with rfl|ai
  .omega
  rcases List.mem_append.1 ai with ai|ai
  .exact qb _ (by omega) x ai
  rcases List.mem_append.1 ai with ai|ai
  .exact au x ai
  rcases List.mem_append.1 ai with ai|ai
  .exact qb _ (by omega) x ai
  .exact hb256 x ai
def nS(s:eS):Prop:=0<=s.1/\s.1<=65535/\3<=s.2.1/\s.2.1<=65538/\1<=s.2.2/\s.2.2<=65533
instance (s:eS):Decidable (nS s):=by unfold nS;infer_instance
def wZ(s:eS):dx:=(s.1.toNat,s.2.1.toNat,s.2.2.toNat)
def qv(r:Int×Int×Int)(s:eS):ae:=[s.1.toNat,(s.2.1-3).toNat,(hb r.1 r.2.1 r.2.2 s.2.2).toNat]
def cE:(Int×Int×Int)->List eS->List (ae)
|_,[]=>[]
|r,s::l=>qv r s::cE (hn r.1 r.2.1 r.2.2 s.2.2) l
def mB:(Int×Int×Int)->List eS->Int×Int×Int
|r,[]=>r
|r,s::l=>mB (hn r.1 r.2.1 r.2.2 s.2.2) l
theorem XI:∀(l:List eS) (r:Int×Int×Int) (s:eS),cE r (l++[s])=cE r l++[qv (mB r l) s]
|[],_,_=>rfl
|t::l,r,s=>by
  rw[cons_append,cE,cE,mB,XI l,cons_append]
theorem Yt:∀(l:List eS) (r:Int×Int×Int) (s:eS),mB r (l++[s])=hn (mB r l).1 (mB r l).2.1 (mB r l).2.2 s.2.2
|[],_,_=>rfl
|t::l,r,s=>by rw[cons_append,mB,mB,Yt l]
theorem A2:∀(l:List eS) (r:Int×Int×Int),(cE r l).length=l.length
|[],_=>rfl
|t::l,r=>by rw[cE,bY,bY,A2 l]
def dP:ae->Nat×Nat
|[]=>(0,0)
|v::l=>(l0 v+(dP l).1*2^jf v,jf v+(dP l).2)
theorem Rd:∀(l:ae) (v:Nat),dP (l++[v])=((dP l).1+l0 v*2^(dP l).2,(dP l).2+jf v)
|[],v=>by simp[dP]
|x::l,v=>by
  rw[cons_append,dP,Rd l v,dP];dsimp only;rw[dI,Nat.add_mul,iO,Nat.mul_assoc,eG (2^(dP l).2) (2^jf x),iO]
theorem NB(v:Nat):l0 v<2^jf v:=by
 unfold l0 jf;split
 .simp
 .exact mod_lt _ (Nat.pow_pos (by omega))
theorem Rc:∀l:ae,(dP l).1<2^(dP l).2
|[]=>by simp[dP]
|v::l=>by
  have h:=Rc l;have hm:=NB v;show l0 v+(dP l).1*2^jf v<2^(jf v+(dP l).2);rw[dI,eG (2^jf v)];have aT:((dP l).1+1)*2^jf v<=2^(dP l).2*2^jf v:=mul_le_mul_right _ h;rw[Nat.add_mul,Nat.one_mul]at aT;omega
theorem Fl(l:ae)(h:∀v∈l,v<=65535):(dP l).2<=15*l.length:=by
 induction l with
|nil=>simp[dP]
|cons v l ih=>
  have h1:=(Cu v (h v dU)).2.2.1;have af:=ih (λx ai=>h x (eo _ ai));rw[dP,bY];dsimp only;omega
theorem KH(v:Nat)(h:v<=65535):fV (mg v)=jf v/\mg v<28:=by
 obtain⟨h1,_,aq,_⟩:=Cu v h;refine⟨?_,by omega⟩;unfold fV mg jf;by_cases eI:v<16
 .rw[aB eI,aB eI,aB eI]
 .obtain⟨k,u4,_,_,_,hw⟩:=Pm v (by omega) h;rw[az eI,az eI,hw,az (by omega)];omega
theorem ann(v V:Nat)(h:v<=65535)(bW:V%2^jf v=l0 v):nE (mg v) V=v:=by
 have ap:=(Cu v h).2.2.2;obtain⟨he,ej⟩:=KH v h;unfold nE;unfold nI at ap;unfold fV at he;by_cases eI:mg v<16
 .rw[aB eI]at ap ⊢;split at ap
  .injection ap
  .cases ap
 .rw[az eI]at ap he ⊢;rw[az (by omega)]at ap;split at ap
  .injection ap with ap
   rw[he,bW,<-he];exact ap
  .cases ap
theorem XJ(l:ae)(m:Nat):∀vs:ae,(∀v∈vs,v<=65535)->la (vs.map mg) (dP (vs++l)).1 ((dP (vs++l)).2+m)=some (vs,(dP l).1,(dP l).2+m)
|[],_=>rfl
|v::vs,h=>by
  have aD:=h v dU;have ih:=XJ l m vs (λx ai=>h x (eo _ ai));obtain⟨he,ej⟩:=KH v aD;have hm:=NB v;rw[map_cons,cons_append,dP,la,he];dsimp only;have aG:(l0 v+(dP (vs++l)).1*2^jf v)/2^jf v=(dP (vs++l)).1:=by
   rw[add_mul_div_right _ _ (Nat.pow_pos (by omega)),div_eq_of_lt hm,ez]
  have e2:(l0 v+(dP (vs++l)).1*2^jf v)%2^jf v=l0 v:=by
   rw[add_mul_mod_self_right,mod_eq_of_lt hm]
  rw[aB (by omega),aG,show jf v+(dP (vs++l)).2+m-jf v=(dP (vs++l)).2+m by omega,ih,ann v _ aD e2];rfl
theorem Hd(a b c x:Int)(h1:1<=x)(af:x<=65533):0<=hb a b c x/\hb a b c x<=65535:=by
 unfold hb;rw[az (by omega)];split
 .omega
 .split
  .omega
  .split<;>omega
theorem ZW(r:Int×Int×Int)(s:eS)(h:nS s):∀v∈qv r s,v<=65535:=by
 obtain⟨ao,h1,af,aq,aK,aT⟩:=h;have aA:=Hd r.1 r.2.1 r.2.2 s.2.2 aK aT;intro v aD;simp only[qv,mem_cons,not_mem_nil,or_false]at aD;rcases aD with rfl|rfl|rfl<;>omega
theorem A3:∀(l:List eS) (r:Int×Int×Int),(∀s∈l,nS s)->∀v∈(cE r l).flatten,v<=65535
|[],_,_,v,aD=>by simp[cE]at aD
|s::l,r,h,v,aD=>by
  rw[cE,flatten_cons]at aD;rcases List.mem_append.1 aD with aD|aD
  .exact ZW r s (h s dU) v aD
  .exact A3 l _ (λx ai=>h x (eo _ ai)) v aD
theorem CI:∀(l:List eS) (r:Int×Int×Int),(cE r l).flatten.length=3*l.length
|[],_=>rfl
|s::l,r=>by
  rw[cE,flatten_cons,aY,CI l,bY];simp[qv];omega
theorem Zk(m:Nat):∀(l:List eS) (r:Int×Int×Int),(∀s∈l,nS s) ->
  jZ ((cE r l).map (List.map mg)) (dP (cE r l).flatten).1 ((dP (cE r l).flatten).2+m) r=some (l.map wZ,0,m)
|[],r,_=>by simp[cE,jZ,dP]
|s::l,r,h=>by
  have ap:=h s dU;have ih:=Zk m l (hn r.1 r.2.1 r.2.2 s.2.2) (λx ai=>h x (eo _ ai));obtain⟨ao,h1,af,aq,aK,aT⟩:=id ap;have aA:=Hd r.1 r.2.1 r.2.2 s.2.2 aK aT;have b9:=anu r.1 r.2.1 r.2.2 s.2.2 aA.1;rw[cE,map_cons,flatten_cons,jZ,XJ _ m (qv r s) (ZW r s ap)];dsimp only;have e2:(((qv r s)[2]?.getD 0:Nat):Int)=hb r.1 r.2.1 r.2.2 s.2.2:=by
   simp only[qv,dJ,dH,b7];omega
  rw[e2,b9];dsimp only;rw[ih,map_some,map_cons];have e3:((qv r s)[0]?.getD 0,(qv r s)[1]?.getD 0+3,s.2.2.toNat)=wZ s:=by
   simp only[qv,dJ,dH,b7,wZ];rw[show(s.2.1-3).toNat+3=s.2.1.toNat by omega]
  rw[e3]
def gg(j:Nat)(N:List (ae)):ae:=N.map λvs=>mg (vs[j]?.getD 0)
def FA(N:List (ae)):List (ae):=[gg 0 N,gg 1 N,gg 2 N]
theorem aqf(l:List eS)(r:Int×Int×Int):jo (FA (cE r l)) l.length=(cE r l).map (List.map mg):=by
 have hl:=A2 l r;have aq:∀vs∈cE r l,vs.length=3:=by
  clear hl;induction l generalizing r with
 |nil=>intro vs h;simp[cE]at h
 |cons s l ih=>
   intro vs h;rw[cE]at h;rcases List.mem_cons.1 h with rfl|h
   .rfl
   .exact ih _ vs h
 generalize cE r l=N at *;apply ext_getElem
 .simp[jo,hl]
 .intro i h1 af;have ay:i<N.length:=by simpa using af
  have aD:=aq N[i] (b8 ay);simp only[jo,getElem_map,getElem_range,jx,FA,gg,map_cons,map_nil,getElem?_map,bI ay,map_some,b7];generalize N[i]=vs at *;match vs,aD with
 |[a,b,c],_=>rfl
def j6(N:List (ae)):ae:=bytesOf (dP N.flatten).1 (((dP N.flatten).2+7)/8)
def pJ(n:Nat)(dY cZ fU bQ:ae):ae:=bg n++(dY++(cZ++(fU++(bg bQ.length++bQ))))
structure Cl(l:List eS)(S:ae):Prop where
 read:∀u,iC (S++u) (l.length:Int)=some (l.map wZ,S.length)
 lt:∀x∈S,x<256
 len:S.length<=10000
 one:l.length=1->S=pJ 1 (0::gg 0 (cE (1,2,4) l)) (0::gg 1 (cE (1,2,4) l)) (0::gg 2 (cE (1,2,4) l)) (j6 (cE (1,2,4) l))
theorem aqQ(l:List eS)(ao:0<l.length)(hl:l.length<=700)(hm:∀s∈l,nS s)(dY cZ fU:ae)(h1:uo (gg 0 (cE (1,2,4) l)) dY)(af:uo (gg 1 (cE (1,2,4) l)) cZ)(aq:uo (gg 2 (cE (1,2,4) l)) fU) :
  Cl l (pJ l.length dY cZ fU (j6 (cE (1,2,4) l))):=by
 have ax:∀j,(gg j (cE (1,2,4) l)).length=l.length:=λj=>by rw[gg,cQ,A2]
 have gE:=h1.q.read;have c9:=af.q.read;have hr:=aq.q.read;have g1:=h1.len;have g2:=af.len;have g3:=aq.len;rw[ax]at gE c9 hr g1 g2 g3;have eu:(j6 (cE (1,2,4) l)).length<=4096:=by
  have fL:=Fl _ (A3 l (1,2,4) hm);have a2:=CI l (1,2,4);rw[j6,bytesOf_length];omega
 have hb256:∀x∈j6 (cE (1,2,4) l),x<256:=ut _ _;have ajP:=xX l.length (by omega);have aS:ol (FA (cE (1,2,4) l)) l.length (j6 (cE (1,2,4) l))=some (l.map wZ):=by
  obtain⟨e,he⟩:∃e,8*(((dP (cE (1,2,4) l).flatten).2+7)/8)=(dP (cE (1,2,4) l).flatten).2+e:=⟨8*(((dP (cE (1,2,4) l).flatten).2+7)/8)-(dP (cE (1,2,4) l).flatten).2,by omega⟩;have aD:bd (j6 (cE (1,2,4) l))=(dP (cE (1,2,4) l).flatten).1:=by
   rw[j6,Ez,h0];exact mod_eq_of_lt (gJ (Rc _) (dy (by omega) (by omega)))
  have yp:8*(j6 (cE (1,2,4) l)).length=(dP (cE (1,2,4) l).flatten).2+e:=by rw[j6,bytesOf_length,he]
  unfold ol;rw[aqf,aD,yp,Zk e l (1,2,4) hm];unfold rO;dsimp only;rw[aB ⟨by omega,rfl⟩]
 have hone:l.length=1->pJ l.length dY cZ fU (j6 (cE (1,2,4) l))=pJ 1 (0::gg 0 (cE (1,2,4) l)) (0::gg 1 (cE (1,2,4) l)) (0::gg 2 (cE (1,2,4) l)) (j6 (cE (1,2,4) l)):=λh=>by
  rw[NR _ _ h1 (by rw[ax,h]),NR _ _ af (by rw[ax,h]),NR _ _ aq (by rw[ax,h]),h]
 generalize mS:j6 (cE (1,2,4) l)=bQ at *;refine⟨λu=>?_,λx ai=>?_,?_,λh=>by rw[mS];exact hone h⟩
 .have aG:pJ l.length dY cZ fU bQ++u=bg l.length++(dY++(cZ++(fU++(bg bQ.length++(bQ++u))))):=by simp only[pJ,df]
  have aI:(bg l.length++(dY++(cZ++(fU++(bg bQ.length++(bQ++u)))))).drop (bg l.length).length=dY++(cZ++(fU++(bg bQ.length++(bQ++u)))):=drop_left;unfold iC;rw[aG,wm l.length _ (by omega)];dsimp only;rw[aB ⟨ajP,Int.le_refl _,by omega⟩,az (by omega),aI];have si:hs 3 (dY++(cZ++(fU++(bg bQ.length++(bQ++u))))) l.length=some (FA (cE (1,2,4) l),dY.length+(cZ.length+(fU.length+0))):=by
   rw[hs,gE];dsimp only;rw[drop_left,hs,c9];dsimp only;rw[drop_left,hs,hr];rfl
  rw[si];dsimp only;have r1:(dY++(cZ++(fU++(bg bQ.length++(bQ++u))))).drop (dY.length+(cZ.length+(fU.length+0)))=bg bQ.length++(bQ++u):=by
   rw[<-drop_drop,drop_left,<-drop_drop,drop_left,fX,drop_left]
  rw[r1,(Pc bQ u eu).1];dsimp only;rw[aS];simp only[map_some,pJ,aY];congr 2
  omega
 .unfold pJ at ai;rcases List.mem_append.1 ai with ai|ai
  .exact qb _ (by omega) x ai
  rcases List.mem_append.1 ai with ai|ai
  .exact h1.q.lt x ai
  rcases List.mem_append.1 ai with ai|ai
  .exact af.q.lt x ai
  rcases List.mem_append.1 ai with ai|ai
  .exact aq.q.lt x ai
  rcases List.mem_append.1 ai with ai|ai
  .exact qb _ (by omega) x ai
  .exact hb256 x ai
 .have t1:=lP l.length (by omega);have t2:=lP bQ.length (by omega);simp only[pJ,aY];omega
theorem aqN(l:List eS)(h:l=[]):Cl l [0]:=by
 subst h;refine⟨λu=>?_,λx ai=>by simp at ai;omega,by simp,λh=>by simp at h⟩;have e:aX ([0]++u)=(0,1):=by
  have h1:=wm 0 u (by omega);have af:bg 0=[0]:=tc 0 (by omega);rw[af]at h1;exact h1
 unfold iC;rw[e];simp
theorem y9(l:ae)(t:ae×Nat)(h:ht l=some t):0<t.2/\t.2<=l.length/\t.1.length<=4096/\∀x∈t.1,x∈l:=by
 unfold ht at h;split at h
 .next hc=>
  injection h with h
  subst h;have hk:=(rP l _ _ hc.1 rfl).2.2;exact⟨by dsimp only;omega,by dsimp only;omega,by rw[cr];omega,λx ai=>mem_of_mem_drop (mem_of_mem_take ai)⟩
 .cases h
theorem w3:∀l:ae,∃m,l=cA l++List.replicate m 0
|[]=>⟨0,rfl⟩
|n::l=>by
  unfold cA;split
  .next h=>
   obtain⟨m,hm⟩:=w3 l;have ap:cA l=[]:=by
    cases l with
   |nil=>rfl
   |cons a WS=>unfold cA;rw[aB (by rw[sum_cons]at h;omega)]
   rw[ap,nil_append]at hm;refine⟨m+1,?_⟩;rw[nil_append,replicate_succ,<-hm,show n=0 by omega]
  .obtain⟨m,hm⟩:=w3 l;exact⟨m,by rw[cons_append,<-hm]⟩
theorem short_zero(l:ae)(h:cA l=[]):∀x∈l,x=0:=by
 obtain⟨m,hm⟩:=w3 l;rw[h,nil_append]at hm;intro x ai;rw[hm]at ai;exact(List.mem_replicate.1 ai).2
theorem Y3:∀l:ae,cA (cA l)=cA l
|[]=>rfl
|n::l=>by
  by_cases h:n+l.sum=0
  .rw[cA,aB h];rfl
  .rw[cA,az h,cA];obtain⟨m,hm⟩:=w3 l;have ap:(cA l).sum=l.sum:=by
    have:=congrArg List.sum hm;rw[sum_append_nat,sum_replicate_nat,Nat.mul_zero,fX]at this;exact this.symm
   rw[ap,az h,Y3 l]
theorem alV(l:ae)(m:Nat):fz (l++List.replicate m 0)=fz l/\i6 (l++List.replicate m 0)=i6 l:=by
 constructor
 .unfold fz;rw[map_append,sum_append_nat,map_replicate,sum_replicate_nat];simp[fa]
 .unfold i6;rw[countP_append,countP_replicate];simp
theorem HX(l:ae)(h:fq l):fq (cA l)/\0<(cA l).length:=by
 obtain⟨m,hm⟩:=w3 l;obtain⟨h1,af,aq⟩:=h;have e:=alV (cA l) m;rw[<-hm]at e;refine⟨⟨?_,λx ai=>af x (by rw[hm];exact mem_append_left _ ai),?_⟩,?_⟩
 .have:=congrArg List.length hm;rw[aY]at this;omega
 .rw[<-e.1,<-e.2];exact aq
 .rcases eq_zero_or_pos (cA l).length with ao|ao
  .have aK:=lf ao;have aT:fz l=0:=by rw[e.1,aK];rfl
   omega
  .exact ao
def lA(l:ae)(k:Nat):Nat:=l[2*k]?.getD 0+16*l[2*k+1]?.getD 0
def gM(l:ae):ae:=(l.length-1)::(List.range ((l.length+1)/2)).map (lA l)
theorem w7(l:ae):(gM l).length=1+(l.length+1)/2:=by simp[gM];omega
theorem CJ{l:ae}{b:Nat}(h:∀x∈l,x<=b)(i:Nat):l[i]?.getD 0<=b:=by
 cases e:l[i]? with
|none=>simp
|some x=>exact h x (mem_of_getElem? e)
theorem X0{l:ae}(h:∀x∈l,x<=11)(k:Nat):lA l k<=187:=by
 have h1:=CJ h (2*k);have af:=CJ h (2*k+1);unfold lA;omega
theorem Et(l:ae)(h:∀x∈l,x<=11)(hl:l.length<=256):∀x∈gM l,x<256:=by
 intro x ai;unfold gM at ai;rcases List.mem_cons.1 ai with rfl|ai
 .omega
 .obtain⟨k,_,rfl⟩:=List.mem_map.1 ai;have:=X0 h k;omega
def oc(bs:ae)(i:Nat):Nat:=if i%2=1 then bs[1+i/2]?.getD 0/16%16 else bs[1+i/2]?.getD 0%16
def fB(bs:ae)(n:Nat):ae:=(List.range n).map (oc bs)
theorem yS(bs:ae)(n:Nat):(fB bs n).length=n:=by simp[fB]
theorem Xy(bs:ae)(n:Nat):fB bs (n+1)=fB bs n++[oc bs n]:=by simp[fB,range_succ]
def iP(bs:ae):Option (ae×Nat):=
 if bs=[]then none else
 if bs.length<1+(bs[0]?.getD 0+2)/2 then none else
 if fq (fB bs (bs[0]?.getD 0+1))/\gM (cA (fB bs (bs[0]?.getD 0+1)))=bs.take (1+(bs[0]?.getD 0+2)/2)then some (fB bs (bs[0]?.getD 0+1),1+(bs[0]?.getD 0+2)/2)else none
theorem Oj(bs l:ae)(n:Nat)(h:iP bs=some (l,n)):n<=bs.length/\0<n/\l.length<=bs[0]?.getD 0+1:=by
 unfold iP at h;split at h
 .cases h
 .split at h
  .cases h
  .split at h
   .injection h with h
    injection h with h1 af
    subst h1 af;rw[yS];omega
   .cases h
theorem ane(l rest:ae)(h:∀x∈l,x<=11):fB (gM l++rest) l.length=l:=by
 apply ext_getElem
 .rw[yS]
 .intro i h1 af;rw[yS]at h1;have hk:i/2<(l.length+1)/2:=by omega
  have e:(gM l++rest)[1+i/2]?.getD 0=lA l (i/2):=by
   rw[hO (by rw[w7];omega),Nat.add_comm,gM,dJ,getElem?_map,getElem?_range hk];rfl
  have g1:=CJ h (2*(i/2));have g2:=CJ h (2*(i/2)+1);have e2:l[i]=l[i]?.getD 0:=by rw[bI af,b7]
  simp only[fB,getElem_map,getElem_range];rw[oc,e,e2];unfold lA;split
  .next b9=>
   rw[show 2*(i/2)+1=i by omega]at g2 ⊢;omega
  .next b9=>
   rw[show 2*(i/2)=i by omega]at g1 g2 ⊢;omega
theorem apC(l rest:ae)(h:fq l):iP (gM (cA l)++rest)=some (cA l,(gM (cA l)).length):=by
 obtain⟨h1,af⟩:=HX l h;have e0:(gM (cA l)++rest)[0]?.getD 0=(cA l).length-1:=by
  rw[hO (by rw[w7];omega)];rfl
 have aA:=ane (cA l) rest h1.2.1;have hl:(gM (cA l)).length=1+((cA l).length+1)/2:=w7 _;have aG:(cA l).length-1+1=(cA l).length:=by omega
 have e2:1+((cA l).length-1+2)/2=(gM (cA l)).length:=by rw[hl];omega
 unfold iP;rw[e0,aG,e2,aA,Y3,take_left,az (by intro e;have:=congrArg List.length e;rw[aY,length_nil]at this;omega),az (by rw[aY];omega),aB ⟨h1,rfl⟩]
def nl(U t:ae)(n:Nat):Option (ae×Nat):=
 if 0<(aX t).2/\(aX t).1<=t.length-(aX t).2 then(nX U ((t.drop (aX t).2).take (aX t).1) n).map λb=>(b,(aX t).2+(aX t).1)else none
def fr(k n:Nat)(t:ae):Option (ae×Nat):=
 if k=0 then(if n<=t.length then some (t.take n,n)else none)
 else if k=1 then(if 0<t.length then some (List.replicate n (t[0]?.getD 0),1)else none)
 else if k=2 then(match iP t with
 |none=>none
 |some p=>(nl p.1 (t.drop p.2) n).map λq=>(q.1,p.2+q.2))
 else none
def jg(bs:ae)(most:Int):Option (ae×Nat):=
 match bs with
|[]=>none
|k::r=>if 0<(aX r).2/\((aX r).1:Int)<=most/\(aX r).1<=1048576 then(fr k (aX r).1 (r.drop (aX r).2)).map λq=>(q.1,1+(aX r).2+q.2)else none
theorem wl(p q:ae)(h:0<(aX p).2):aX (p++q)=aX p/\(aX p).2<=p.length:=by
 obtain⟨v,k,e⟩:∃v k,aX p=(v,k):=⟨_,_,rfl⟩;rw[e]at h ⊢;obtain⟨h1,af,aq⟩:=rP p v k h e;refine⟨?_,aq⟩;have e2:p++q=bg v++(p.drop k++q):=by rw[<-df,<-af,gq]
 rw[e2,wm v _ h1,<-af,cr,Nat.min_eq_left aq]
theorem am9(p q:ae)(i:Nat)(h:1+i/2<p.length):oc (p++q) i=oc p i:=by
 unfold oc;rw[hO h]
theorem apx(p q:ae)(t:ae×Nat)(h:iP p=some t):iP (p++q)=some t:=by
 unfold iP at h ⊢;split at h
 .cases h
 .next h1=>
  split at h
  .cases h
  .next af=>
   have ao:0<p.length:=List.length_pos_iff.2 h1;have e0:(p++q)[0]?.getD 0=p[0]?.getD 0:=by rw[hO ao]
   have CC:fB (p++q) (p[0]?.getD 0+1)=fB p (p[0]?.getD 0+1):=by
    refine map_congr_left λi ay=>am9 p q i ?_
    have:=List.mem_range.1 ay;omega
   have ahO:(p++q).take (1+(p[0]?.getD 0+2)/2)=p.take (1+(p[0]?.getD 0+2)/2):=take_append_of_le_length (by omega);rw[az (by simp[h1]),e0,az (by rw[aY];omega),CC,ahO];exact h
theorem agF(U t u:ae)(n:Nat)(r:ae×Nat)(h:nl U t n=some r):nl U (t++u) n=some r/\r.2<=t.length:=by
 unfold nl at h ⊢;split at h
 .next hc=>
  obtain⟨e,hle⟩:=wl t u hc.1;rw[e,aB ⟨hc.1,by rw[aY];omega⟩,drop_append_of_le_length hle,take_append_of_le_length (by rw[cB];exact hc.2)];refine⟨h,?_⟩;cases aI:nX U ((t.drop (aX t).2).take (aX t).1) n with
 |none=>rw[aI]at h;cases h
 |some b=>
   rw[aI]at h;injection h with h
   subst h;show(aX t).2+(aX t).1<=t.length;omega
 .cases h
theorem afM(k n:Nat)(t u:ae)(r:ae×Nat)(h:fr k n t=some r):fr k n (t++u)=some r/\r.2<=t.length:=by
 unfold fr at h ⊢;by_cases ao:k=0
 .rw[aB ao]at h ⊢;by_cases aA:n<=t.length
  .rw[aB aA]at h;rw[aB (by rw[aY];omega),take_append_of_le_length aA];injection h with h
   subst h;exact⟨rfl,aA⟩
  .rw[az aA]at h;cases h
 .rw[az ao]at h ⊢;by_cases h1:k=1
  .rw[aB h1]at h ⊢;by_cases aA:0<t.length
   .rw[aB aA]at h;rw[aB (by rw[aY];omega),hO aA];injection h with h
    subst h;exact⟨rfl,aA⟩
   .rw[az aA]at h;cases h
  .rw[az h1]at h ⊢;by_cases af:k=2
   .rw[aB af]at h ⊢;cases aj:iP t with
   |none=>rw[aj]at h;cases h
   |some p=>
     rw[aj]at h;dsimp only at h;have ax:=(Oj t p.1 p.2 aj).1;cases hc:nl p.1 (t.drop p.2) n with
    |none=>rw[hc]at h;cases h
    |some q=>
      rw[hc]at h;injection h with h
      subst h;obtain⟨aG,e2⟩:=agF p.1 (t.drop p.2) u n q hc;rw[apx t u p aj];dsimp only;rw[drop_append_of_le_length ax,aG];rw[cB]at e2;refine⟨rfl,?_⟩;show p.2+q.2<=t.length;omega
   .rw[az af]at h;cases h
theorem Kt(p u:ae)(m:Int)(r:ae×Nat)(h:jg p m=some r):jg (p++u) m=some r/\r.2<=p.length:=by
 cases p with
|nil=>cases h
|cons k t=>
  rw[cons_append];unfold jg at h ⊢;dsimp only at h ⊢;split at h
  .next hc=>
   obtain⟨e,hle⟩:=wl t u hc.1;rw[e,aB hc,drop_append_of_le_length hle];cases ak:fr k (aX t).1 (t.drop (aX t).2)with
  |none=>rw[ak]at h;cases h
  |some q=>
    rw[ak]at h;injection h with h
    subst h;obtain⟨aG,e2⟩:=afM k _ _ u q ak;rw[aG];rw[cB]at e2;refine⟨rfl,?_⟩;rw[bY];show 1+(aX t).2+q.2<=_;omega
  .cases h
theorem ahb(E:ae)(m:Int)(x:ae)(h:jg E m=some (x,E.length))(j:Nat)(ar:j<E.length):jg (E.take j) m=none:=by
 cases hc:jg (E.take j) m with
|none=>rfl
|some r=>
  obtain⟨h1,af⟩:=Kt (E.take j) (E.drop j) m r hc;rw[gq,h]at h1;injection h1 with h1
  subst h1;rw[cr]at af;dsimp only at af;omega
theorem Ku(k n:Nat)(t x:ae)(aA:n<=1048576)(ak:fr k n t=some (x,t.length)):jg (k::(bg n++t)) (n:Int)=some (x,(k::(bg n++t)).length):=by
 unfold jg;dsimp only;rw[wm n t (by omega)];dsimp only;rw[aB ⟨xX n (by omega),Int.le_refl _,aA⟩,drop_left,ak,map_some,bY,aY];dsimp only;rw[show 1+(bg n).length+t.length=(bg n).length+t.length+1 by omega]
theorem afQ(s:ae):fr 0 s.length s=some (s,s.length):=by
 unfold fr;rw[aB rfl,aB bl,take_length]
theorem afO(x n:Nat):fr 1 n [x]=some (List.replicate n x,1):=by
 unfold fr;rw[az (by decide),aB rfl,aB (show 0<[x].length by simp)];rfl
theorem afP(U c s:ae)(bk:fq U)(ap:cA U=U)(he:qG U s=some c)(hc:c.length<2^64) :
  fr 2 s.length (gM U++(bg c.length++c))=some (s,(gM U++(bg c.length++c)).length):=by
 have h1:=apC U (bg c.length++c) bk;rw[ap]at h1;unfold fr;rw[az (by decide),az (by decide),aB rfl,h1];dsimp only;rw[drop_left];unfold nl;rw[wm _ _ hc];dsimp only;rw[aB ⟨xX _ hc,by rw[aY];omega⟩,drop_left,take_length,ahe U s c bk he,map_some,map_some];simp only[aY]
def xO(s E:ae):Prop:=(∃k t,E=k::(bg s.length++t))/\(∀x∈E,x<256)/\E.length<=1+(bg s.length).length+s.length/\jg E (s.length:Int)=some (s,E.length)
def q4(s:ae):ae:=0::(bg s.length++s)
def Co(s:ae):ae:=1::(bg s.length++s.take 1)
theorem Yl(s:ae):(q4 s).length=1+(bg s.length).length+s.length:=by rw[q4,bY,aY];omega
theorem Be(k n:Nat)(t:ae)(hk:k<256)(aA:n<2^64)(aE:∀x∈t,x<256):∀x∈k::(bg n++t),x<256:=by
 intro x ai;rcases List.mem_cons.1 ai with rfl|ai
 .exact hk
 .rcases List.mem_append.1 ai with ai|ai
  .exact qb n aA x ai
  .exact aE x ai
theorem aqO(s:ae)(au:∀x∈s,x<256)(aA:s.length<=1048576):xO s (q4 s):=
 ⟨⟨0,s,rfl⟩,Be 0 _ s (by decide) (by omega) au,by rw[Yl];exact Nat.le_refl _,Ku 0 s.length s s aA (afQ s)⟩
theorem aqI(s:ae)(au:∀x∈s,x<256)(aA:s.length<=1048576)(h:gv (ei s)=1):xO s (Co s):=by
 obtain⟨x,e,ao⟩:=NQ s h;have aG:s.take 1=[x]:=by
  rw[e,take_replicate,Nat.min_eq_left (by omega)];rfl
 have ai:x<256:=au x (by rw[e];exact List.mem_replicate.2 ⟨by omega,rfl⟩);refine⟨⟨1,s.take 1,rfl⟩,Be 1 _ _ (by decide) (by omega) (λy hy=>au y (mem_of_mem_take hy)),?_,?_⟩
 .rw[Co,aG,bY,aY,bY,length_nil];omega
 .have ak:=afO x s.length;rw[<-e,<-aG]at ak;refine Ku 1 s.length (s.take 1) s aA ?_;rw[ak,aG];rfl
def mO(U c s:ae):ae:=2::(bg s.length++(gM U++(bg c.length++c)))
theorem aqJ(U c s:ae)(aA:s.length<=1048576)(bk:fq U)(ap:cA U=U)(he:qG U s=some c)(hc:c.length<=1000000000)(hc256:∀x∈c,x<256)(hle:(mO U c s).length<(q4 s).length):xO s (mO U c s):=by
 refine⟨⟨2,_,rfl⟩,Be 2 _ _ (by decide) (by omega) (λx ai=>?_),?_,Ku 2 s.length _ s aA (afP U c s bk ap he (by omega))⟩
 .rcases List.mem_append.1 ai with ai|ai
  .exact Et U bk.2.1 bk.1 x ai
  .rcases List.mem_append.1 ai with ai|ai
   .exact qb _ (by omega) x ai
   .exact hc256 x ai
 .rw[Yl]at hle;omega
theorem Ok(bs:ae)(t:ae×Nat)(h:iP bs=some t):fq t.1:=by
 unfold iP at h;split at h
 .cases h
 .split at h
  .cases h
  .split at h
   .next hc=>
    injection h with h
    subst h;exact hc.1
   .cases h
end am
namespace am
theorem O8(p u:ae)(r:ae×Nat)(h:ht p=some r):ht (p++u)=some r/\r.2<=p.length:=by
 refine⟨?_,(y9 p r h).2.1⟩;unfold ht at h ⊢;split at h
 .next hc=>
  obtain⟨e,hl⟩:=wl p u hc.1;rw[e,aB ⟨hc.1,hc.2.1,by rw[aY];omega⟩,<-h];generalize (aX p).1=n at *;generalize (aX p).2=k at *;rw[drop_append_of_le_length hl,take_append_of_le_length (by rw[cB];omega)]
 .cases h
theorem zY(p u:ae)(k:Nat)(h:k<=p.length):(p++u).drop k=p.drop k++u:=drop_append_of_le_length h
theorem aqX(p u:ae)(n:Nat)(r:ae×Nat)(h:lh p n=some r):lh (p++u) n=some r/\r.2<=p.length:=by
 unfold lh at h ⊢;cases h1:ht p with
|none=>rw[h1]at h;cases h
|some a=>
  obtain⟨aG,cb⟩:=O8 p u a h1;rw[h1]at h;rw[aG];dsimp only at h ⊢;rw[zY p u a.2 cb];cases af:ht (p.drop a.2)with
 |none=>rw[af]at h;cases h
 |some b=>
   obtain⟨e2,cR⟩:=O8 (p.drop a.2) u b af;rw[af]at h;rw[e2];dsimp only at h ⊢;refine⟨h,?_⟩;rw[cB]at cR;split at h
   .cases h
   .next aI _=>
    cases aq:iI aI.1 aI.2 b.1 (n:Int)with
   |none=>rw[aq]at h;cases h
   |some c=>
     rw[aq]at h;injection h with h
     subst h;show a.2+b.2<=_;omega
theorem Zo(p u:ae)(n:Nat)(r:ae×Nat)(h:lC p n=some r):lC (p++u) n=some r/\r.2<=p.length:=by
 have key:∀r,nG p n=some r->nG (p++u) n=some r/\r.2<=p.length:=by
  intro r h;cases p with
 |nil=>cases h
 |cons k t=>
   rw[cons_append];rcases eF 2 k with aq|aq
   .rw[Bb k t n aq]at h;cases h
   .rcases(by omega:k=0\/k=1\/k=2)with rfl|rfl|rfl
    .rw[yX]at h ⊢;split at h
     .next hc=>
      injection h with h
      subst h;rw[aB (by rw[aY];omega),take_append_of_le_length hc];exact⟨rfl,by show 1+n<=_;rw[bY];omega⟩
     .cases h
    .rw[yY]at h ⊢;split at h
     .next hc=>
      injection h with h
      subst h;rw[aB (by rw[aY];omega),hO hc];exact⟨rfl,by show 2<=_;rw[bY];omega⟩
     .cases h
    .rw[yZ]at h ⊢;cases ap:lh t n with
    |none=>rw[ap]at h;cases h
    |some q=>
      obtain⟨e,l⟩:=aqX t u n q ap;rw[ap]at h;injection h with h
      subst h;rw[e];exact⟨rfl,by show 1+q.2<=_;rw[bY];omega⟩
 unfold lC at h ⊢;cases aj:nG p n with
|none=>rw[aj]at h;cases h
|some q=>
  obtain⟨e,l⟩:=key q aj;rw[aj]at h;rw[e];dsimp only at h ⊢;refine⟨h,?_⟩;split at h
  .injection h with h
   subst h;exact l
  .cases h
theorem Zu(u:ae)(n:Nat):∀(k:Nat) (p:ae) (r:List (ae)×Nat),hs k p n=some r->hs k (p++u) n=some r
|0,_,_,h=>h
|k+1,p,r,h=>by
  unfold hs at h ⊢;cases ap:lC p n with
 |none=>rw[ap]at h;cases h
 |some q=>
   obtain⟨e,l⟩:=Zo p u n q ap;rw[ap]at h;rw[e];dsimp only at h ⊢;rw[zY p u q.2 l];cases hq:hs k (p.drop q.2) n with
  |none=>rw[hq]at h;cases h
  |some t=>
    rw[hq]at h;rw[Zu u n k (p.drop q.2) t hq];exact h
theorem OT(n:Nat):∀(k:Nat) (bs:ae) (r:List (ae)×Nat),hs k bs n=some r->r.2<=bs.length
|0,bs,r,h=>by
  injection h with h
  subst h;exact zero_le _
|k+1,bs,r,h=>by
  unfold hs at h;cases ap:lC bs n with
 |none=>rw[ap]at h;cases h
 |some q=>
   rw[ap]at h;dsimp only at h;cases hq:hs k (bs.drop q.2) n with
  |none=>rw[hq]at h;cases h
  |some p=>
    rw[hq]at h;injection h with h
    subst h;have h1:=(Zo bs [] n q ap).2;have af:=OT n k _ p hq;rw[cB]at af;show q.2+p.2<=bs.length;omega
theorem Zm:∀(l:List (ae)) (V L:Nat) (r:Int×Int×Int) (q:List dx×Nat×Nat),jZ l V L r=some q->q.1.length=l.length
|[],V,L,r,q,h=>by
  injection h with h
  subst h;rfl
|c::l,V,L,r,q,h=>by
  unfold jZ at h;cases ap:la c V L with
 |none=>rw[ap]at h;cases h
 |some t=>
   rw[ap]at h;dsimp only at h;cases b9:jW r.1 r.2.1 r.2.2 ((t.1[2]?.getD 0:Nat):Int)with
  |none=>rw[b9]at h;cases h
  |some x=>
    rw[b9]at h;dsimp only at h;cases hq:jZ l t.2.1 t.2.2 (hn r.1 r.2.1 r.2.2 x)with
   |none=>rw[hq]at h;cases h
   |some p=>
     rw[hq]at h;injection h with h
     subst h;have:=Zm l _ _ _ p hq;simp[this]
theorem Oz(bs:ae)(most:Int)(t:List dx×Nat)(h:iC bs most=some t):0<t.2/\t.2<=bs.length/\t.1.length<=1000:=by
 unfold iC at h;split at h
 .next hc=>
  have hk:(aX bs).2<=bs.length:=(rP bs _ _ hc.1 rfl).2.2;generalize (aX bs).1=n at *;generalize (aX bs).2=k at *;split at h
  .injection h with h
   subst h;exact⟨hc.1,hk,zero_le _⟩
  .next aA=>
   cases ap:hs 3 (bs.drop k) n with
  |none=>rw[ap]at h;cases h
  |some p=>
    rw[ap]at h;dsimp only at h;cases ai:ht ((bs.drop k).drop p.2)with
   |none=>rw[ai]at h;cases h
   |some q=>
     rw[ai]at h;dsimp only at h;cases hl:ol p.1 n q.1 with
    |none=>rw[hl]at h;cases h
    |some l=>
      rw[hl]at h;injection h with h
      subst h;have h1:=OT n 3 _ p ap;have af:=(y9 _ q ai).2.1;rw[cB]at h1 af;rw[cB]at af;have aq:l.length=n:=by
       unfold ol rO at hl;split at hl
       .cases hl
       .next z aQ=>
        have aK:=Zm _ _ _ _ _ aQ;split at hl
        .injection hl with hl
         rw[<-hl,aK];simp[jo]
        .cases hl
      refine⟨?_,?_,?_⟩
      .show 0<k+p.2+q.2;omega
      .show k+p.2+q.2<=bs.length;omega
      .show l.length<=1000;omega
 .cases h
theorem YT(p u:ae)(m:Int)(r:List dx×Nat)(h:iC p m=some r):iC (p++u) m=some r:=by
 unfold iC at h ⊢;split at h
 .next hc=>
  obtain⟨e,hk⟩:=wl p u hc.1;rw[e,aB hc,zY p u _ hk];generalize (aX p).1=n at *;generalize (aX p).2=k at *;split at h
  .next aA=>rw[aB aA];exact h
  .next aA=>
   rw[az aA];cases ap:hs 3 (p.drop k) n with
  |none=>rw[ap]at h;cases h
  |some q=>
    have hl:=OT n 3 _ q ap;rw[ap]at h;rw[Zu u n 3 _ q ap];dsimp only at h ⊢;rw[zY _ u q.2 hl];cases ai:ht ((p.drop k).drop q.2)with
   |none=>rw[ai]at h;cases h
   |some x=>
     rw[ai]at h;rw[(O8 _ u x ai).1];exact h
 .cases h
theorem aqK(S:ae)(m:Int)(l:List dx)(h:iC S m=some (l,S.length))(j:Nat)(ar:j<S.length):iC (S.take j) m=none:=by
 cases hc:iC (S.take j) m with
|none=>rfl
|some r=>
  have h1:=YT (S.take j) (S.drop j) m r hc;have af:=(Oz (S.take j) m r hc).2.1;rw[gq,h]at h1;injection h1 with h1
  subst h1;rw[cr]at af;dsimp only at af;omega
theorem aqP(S:ae)(m n:Int)(tt:m<=n)(r:List dx×Nat)(h:iC S m=some r):iC S n=some r:=by
 unfold iC at h ⊢;split at h
 .next hc=>rw[aB ⟨hc.1,Int.le_trans hc.2.1 tt,hc.2.2⟩];exact h
 .cases h
theorem anp(c V:Nat)(h:c<28):nE c V<=65535:=by
 unfold nE;split
 .omega
 .have h1:2^(c-12)<=2^15:=dy (by omega) (by omega);have af:V%2^(c-12)<2^(c-12):=mod_lt _ (Nat.pow_pos (by omega));omega
theorem XK:∀(ag:ae) (V L:Nat) (t:ae×Nat×Nat),(∀x∈ag,x<28)->la ag V L=some t->∀v∈t.1,v<=65535
|[],V,L,t,_,h=>by
  injection h with h
  subst h;intro v aD;cases aD
|c::ag,V,L,t,hc,h=>by
  unfold la at h;split at h
  .cases hq:la ag (V/2^fV c) (L-fV c)with
  |none=>rw[hq]at h;cases h
  |some q=>
    rw[hq]at h;injection h with h
    subst h;intro v aD;rcases List.mem_cons.1 aD with rfl|aD
    .exact anp c V (hc c dU)
    .exact XK ag _ _ q (λx ai=>hc x (eo _ ai)) hq v aD
  .cases h
theorem KT(l:ae)(i:Nat)(h:∀v∈l,v<=65535):l[i]?.getD 0<=65535:=by
 rcases eF i l.length with h1|h1
 .rw[bI h1];exact h _ (b8 h1)
 .rw[getElem?_eq_none h1];exact zero_le _
theorem Zn:∀(l:List (ae)) (V L:Nat) (r:Int×Int×Int) (q:List dx×Nat×Nat),(∀c∈l,∀x∈c,x<28)->r.1<=65535->r.2.1<=65535->r.2.2<=65535->jZ l V L r=some q->∀s∈q.1,s.1<=65538/\s.2.1<=65538/\s.2.2<=65538
|[],V,L,r,q,_,_,_,_,h=>by
  injection h with h
  subst h;intro s ap;cases ap
|c::l,V,L,r,q,hc,ao,h1,af,h=>by
  unfold jZ at h;cases ap:la c V L with
 |none=>rw[ap]at h;cases h
 |some t=>
   have aE:=XK c V L t (hc c dU) ap;rw[ap]at h;dsimp only at h;cases b9:jW r.1 r.2.1 r.2.2 ((t.1[2]?.getD 0:Nat):Int)with
  |none=>rw[b9]at h;cases h
  |some x=>
    have ai:x<=65535:=by
     have aq:=KT t.1 2 aE;unfold jW at b9;split at b9
     .cases b9
     .split at b9
      .injection b9 with b9
       rw[<-b9];unfold kd;split
       .omega
       .split
        .exact ao
        .split
         .exact h1
         .exact af
      .cases b9
    rw[b9]at h;dsimp only at h;cases hq:jZ l t.2.1 t.2.2 (hn r.1 r.2.1 r.2.2 x)with
   |none=>rw[hq]at h;cases h
   |some p=>
     have ak:(hn r.1 r.2.1 r.2.2 x).1<=65535/\(hn r.1 r.2.1 r.2.2 x).2.1<=65535/\(hn r.1 r.2.1 r.2.2 x).2.2<=65535:=by
      unfold hn;split
      .exact⟨ai,h1,af⟩
      .split
       .exact⟨ai,ao,af⟩
       .exact⟨ai,ao,h1⟩
     rw[hq]at h;injection h with h
     subst h;intro s ap;rcases List.mem_cons.1 ap with rfl|ap
     .have aq:=KT t.1 0 aE;have aK:=KT t.1 1 aE;refine⟨?_,?_,?_⟩
      .dsimp only;omega
      .dsimp only;omega
      .dsimp only;omega
     .exact Zn l _ _ _ p (λc qL=>hc c (eo _ qL)) ak.1 ak.2.1 ak.2.2 hq s ap
theorem Zv(n:Nat):∀(k:Nat) (bs:ae) (r:List (ae)×Nat),hs k bs n=some r->∀c∈r.1,∀x∈c,x<28
|0,bs,r,h=>by
  injection h with h
  subst h;intro c hc;cases hc
|k+1,bs,r,h=>by
  unfold hs at h;cases ap:lC bs n with
 |none=>rw[ap]at h;cases h
 |some q=>
   rw[ap]at h;dsimp only at h;cases hq:hs k (bs.drop q.2) n with
  |none=>rw[hq]at h;cases h
  |some p=>
    rw[hq]at h;injection h with h
    subst h;intro c hc;rcases List.mem_cons.1 hc with rfl|hc
    .unfold lC at ap;split at ap
     .cases ap
     .split at ap
      .next ej=>injection ap with ap;subst ap;exact ej
      .cases ap
    .exact Zv n k _ p hq c hc
theorem YU(bs:ae)(m:Int)(r:List dx×Nat)(h:iC bs m=some r):∀s∈r.1,s.1<=65538/\s.2.1<=65538/\s.2.2<=65538:=by
 unfold iC at h;split at h
 .split at h
  .injection h with h
   subst h;intro s ap;cases ap
  .cases ap:hs 3 (bs.drop (aX bs).2) (aX bs).1 with
  |none=>rw[ap]at h;cases h
  |some p=>
    have ej:=Zv _ 3 _ p ap;rw[ap]at h;dsimp only at h;split at h
    .cases h
    .next q _=>
     cases hl:ol p.1 (aX bs).1 q.1 with
    |none=>rw[hl]at h;cases h
    |some l=>
      rw[hl]at h;injection h with h
      subst h;unfold ol rO at hl;split at hl
      .cases hl
      .next z aQ=>
       have aK:=Zn _ _ _ _ z (λc hc x ai=>by
        unfold jo at hc;obtain⟨i,_,rfl⟩:=List.mem_map.1 hc;unfold jx at ai;obtain⟨l,hl,rfl⟩:=List.mem_map.1 ai;rcases eF i l.length with h1|h1
        .rw[bI h1];exact ej l hl _ (b8 h1)
        .rw[getElem?_eq_none h1];exact zero_lt_succ _) (by decide) (by decide) (by decide) aQ
       split at hl
       .injection hl with hl
        rw[<-hl];exact aK
       .cases hl
 .cases h
end am
namespace am
abbrev eb:=Nat×Nat×Nat×Nat×Nat
def qu(r:ae):Option (Nat×Nat×Nat×Nat):=
 if 0<(aX r).2/\(aX r).1<=1073741824 then
  (if 0<(aX (r.drop (aX r).2)).2/\(aX (r.drop (aX r).2)).1<=1099511627776/\(aX r).2+(aX (r.drop (aX r).2)).2+8<=r.length then
   some ((aX r).1,(aX (r.drop (aX r).2)).1,bd ((r.drop ((aX r).2+(aX (r.drop (aX r).2)).2)).take 8),(aX r).2+(aX (r.drop (aX r).2)).2+8)
  else none)
 else none
def ip(bs:ae):Option eb:=
 match bs with
|[]=>none
|k::r=>if 2<k then none else(qu r).map λt=>(k,t.1,t.2.1,t.2.2.1,1+t.2.2.2)
def gx(D:ae)(k n:Nat)(bs:ae):Option (ae):=
 if k=0 then(if bs.length=n then some bs else none)
 else if k=1 then(if bs.length=1 then some (List.replicate n (bs[0]?.getD 0))else none)
 else match jg bs (n:Int)with
 |none=>none
 |some t=>match iC (bs.drop t.2) (n:Int)with
  |none=>none
  |some q=>if t.2+q.2=bs.length/\(iG D t.1 (q.1.map h9) n).2=0/\(iG D t.1 (q.1.map h9) n).1.length=n then some (iG D t.1 (q.1.map h9) n).1 else none
def j5(D bs:ae)(lim:Int):ae×Nat:=
 match ip bs with
|none=>([],3)
|some h=>if lim<(h.2.2.1:Int)\/512<h.2.2.1 then([],5)else
  match gx D h.1 h.2.2.1 (bs.drop h.2.2.2.2)with
 |none=>([],3)
 |some x=>if sumOf x=h.2.2.2.1 then(x,0)else([],4)
def fF(k aP:Nat)(X:ae):ae:=k::(bg aP++(bg X.length++bytesOf (sumOf X) 8))
structure rk(D X:ae)(k:Nat)(T:ae):Prop where
 kind:k<=2
 lt:∀x∈T,x<256
 len:T.length<=X.length
 yes:gx D k X.length T=some X
 cut:∀j,j<T.length->gx D k X.length (T.take j)=none
 more:∀x,gx D k X.length (T++[x])=none
theorem x9(k aP:Nat)(X:ae):(fF k aP X).length=1+(bg aP).length+(bg X.length).length+8:=by
 rw[fF,bY,aY,aY,bytesOf_length];omega
theorem ajk(k aP:Nat)(X:ae)(ev:aP<=1073741824)(ck:X.length<=512):(fF k aP X).length<=16:=by
 have h1:=(F2 aP (by omega) 5 (by decide)).2 (by omega);have af:=(F2 X.length (by omega) 2 (by decide)).2 (by omega);rw[x9];omega
theorem ar4(aP n s:Nat)(T:ae)(ev:aP<=1073741824)(aA:n<=1099511627776)(ap:s<2^64):qu (bg aP++(bg n++bytesOf s 8)++T)=some (aP,n,s,(bg aP).length+(bg n).length+8):=by
 have h1:aX (bg aP++(bg n++bytesOf s 8)++T)=(aP,(bg aP).length):=by
  rw[df];exact wm aP _ (by omega)
 have af:(bg aP++(bg n++bytesOf s 8)++T).drop (bg aP).length=bg n++(bytesOf s 8++T):=by
  rw[df,drop_left,df]
 have aq:aX (bg n++(bytesOf s 8++T))=(n,(bg n).length):=wm n _ (by omega);have aK:=xX aP (by omega);have aT:=xX n (by omega);unfold qu;rw[h1];dsimp only;rw[af,aq];dsimp only;rw[aB ⟨aK,ev⟩,aB ⟨aT,aA,by simp only[aY,bytesOf_length];omega⟩,<-drop_drop,af,drop_left,take_left' (bytesOf_length s 8),Ez s 8,mod_eq_of_lt (by omega)]
theorem ZM(p u:ae)(t:Nat×Nat×Nat×Nat)(h:qu p=some t):qu (p++u)=some t/\t.2.2.2<=p.length:=by
 unfold qu at h ⊢;split at h
 .next ao=>
  obtain⟨e0,k9⟩:=wl p u ao.1;rw[e0,aB ao,zY p u _ k9];split at h
  .next h1=>
   obtain⟨aG,cb⟩:=wl (p.drop (aX p).2) u h1.1;rw[aG,aB ⟨h1.1,h1.2.1,by rw[aY];omega⟩,<-h];generalize aX (p.drop (aX p).2)=z at *;generalize aX p=y at *;injection h with h
   subst h;refine⟨?_,h1.2.2⟩;rw[zY p u _ (by omega),take_append_of_le_length (by rw[cB];omega)]
  .cases h
 .cases h
theorem ya(k aP:Nat)(X T:ae)(hk:k<=2)(ev:aP<=1073741824)(ck:X.length<=512):ip (fF k aP X++T)=some (k,aP,X.length,sumOf X,(fF k aP X).length):=by
 rw[x9];unfold fF;rw[cons_append];unfold ip;dsimp only;rw[az (by omega),ar4 aP X.length (sumOf X) T ev (by omega) (OV X),map_some];dsimp only;rw[show 1+((bg aP).length+(bg X.length).length+8)=1+(bg aP).length+(bg X.length).length+8 by omega]
theorem ajw(k aP:Nat)(X:ae)(hk:k<=2)(ev:aP<=1073741824)(ck:X.length<=512)(j:Nat)(ar:j<(fF k aP X).length):ip ((fF k aP X).take j)=none:=by
 have hy:=ya k aP X [] hk ev ck;rw[append_nil,x9]at hy;rw[x9]at ar;unfold fF at hy ⊢;cases j with
|zero=>rfl
|succ j=>
  rw[take_succ_cons];unfold ip at hy ⊢;dsimp only at hy ⊢;rw[az (by omega)]at hy ⊢;cases aE:qu ((bg aP++(bg X.length++bytesOf (sumOf X) 8)).take j)with
 |none=>rfl
 |some t=>
   obtain⟨e,l⟩:=ZM _ ((bg aP++(bg X.length++bytesOf (sumOf X) 8)).drop j) t aE;rw[gq]at e;rw[e]at hy;injection hy with hy
   rw[cr]at l;have h1:1+t.2.2.2=1+(bg aP).length+(bg X.length).length+8:=congrArg (λz:eb=>z.2.2.2.2) hy;omega
theorem afJ{D X T:ae}{k aP:Nat}(h:rk D X k T)(ev:aP<=1073741824)(ck:X.length<=512)(lim:Int)(hl:(X.length:Int)<=lim):j5 D (fF k aP X++T) lim=(X,0):=by
 unfold j5;rw[ya k aP X T h.kind ev ck];dsimp only;rw[az (by omega),drop_left,h.yes];dsimp only;rw[aB rfl]
theorem afF{D X T:ae}{k aP:Nat}(hk:k<=2)(ev:aP<=1073741824)(ck:X.length<=512)(lim:Int)(hl:lim<(X.length:Int)):j5 D (fF k aP X++T) lim=([],5):=by
 unfold j5;rw[ya k aP X T hk ev ck];dsimp only;rw[aB (.inl hl)]
theorem afD{D X T:ae}{k aP:Nat}(h:rk D X k T)(ev:aP<=1073741824)(ck:X.length<=512)(j:Nat)(ar:j<(fF k aP X++T).length):j5 D ((fF k aP X++T).take j) (X.length:Int)=([],3):=by
 rw[aY]at ar;unfold j5;rcases eF j (fF k aP X).length with h1|h1
 .rw[take_append_of_le_length (Nat.le_of_lt h1),ajw k aP X h.kind ev ck j h1]
 .rw[take_append,take_of_length_le h1,ya k aP X _ h.kind ev ck];dsimp only;rw[az (by omega),drop_left,h.cut (j-(fF k aP X).length) (by omega)]
theorem afG{D X T:ae}{k aP:Nat}(h:rk D X k T)(ev:aP<=1073741824)(ck:X.length<=512)(x:Nat):j5 D (fF k aP X++T++[x]) (X.length:Int)=([],3):=by
 unfold j5;rw[df,ya k aP X _ h.kind ev ck];dsimp only;rw[az (by omega),drop_left,h.more x]
theorem afI{D X T Y:ae}{k aP:Nat}(hk:k<=2)(ev:aP<=1073741824)(ck:X.length<=512)(lim:Int)(h:j5 D (fF k aP X++T) lim=(Y,0)):sumOf Y=sumOf X:=by
 unfold j5 at h;rw[ya k aP X T hk ev ck]at h;dsimp only at h;split at h
 .cases h
 .split at h
  .cases h
  .next x _=>
   split at h
   .next ap=>
    have h1:x=Y:=congrArg Prod.fst h;rw[<-h1];exact ap
   .cases h
theorem Q9{D bs X:ae}{k n:Nat}(h:gx D k n bs=some X):X.length=n:=by
 unfold gx at h;split at h
 .split at h
  .injection h with h;subst h;assumption
  .cases h
 .split at h
  .split at h
   .injection h with h;subst h;rw[iZ]
   .cases h
  .split at h
   .cases h
   .split at h
    .cases h
    .split at h
     .next hc=>injection h with h;rw[<-h];exact hc.2.2
     .cases h
theorem afj(D X:ae)(ck:∀x∈X,x<256):rk D X 0 X:=by
 refine⟨by omega,ck,Nat.le_refl _,?_,λj ar=>?_,λx=>?_⟩
 .unfold gx;rw[aB rfl,aB rfl]
 .unfold gx;rw[aB rfl,az (by rw[cr];omega)]
 .unfold gx;rw[aB rfl,az (by rw[aY,length_singleton];omega)]
theorem afi(D X:ae)(c:Nat)(hc:c<256)(ao:0<X.length)(h:X=List.replicate X.length c):rk D X 1 [c]:=by
 refine⟨by omega,λx ai=>by rw[List.mem_singleton.1 ai];exact hc,ao,?_,λj ar=>?_,λx=>?_⟩
 .show some (List.replicate X.length c)=some X;exact congrArg some h.symm
 .rw[length_singleton]at ar;obtain rfl:j=0:=by omega
  rfl
 .rfl
theorem afk(D X E S:ae)(l:List dx)(L:ae)(fx:jg E (X.length:Int)=some (L,E.length))(cD:iC S (X.length:Int)=some (l,S.length))(ao:iG D L (l.map h9) X.length=(X,0))
  (F7:∀x∈E,x<256)(Ll:∀x∈S,x<256)(hlen:(E++S).length<X.length):rk D X 2 (E++S):=by
 have ak:∀u,gx D 2 X.length (E++u)=match iC u (X.length:Int)with
  |none=>none
  |some q=>if E.length+q.2=E.length+u.length/\(iG D L (q.1.map h9) X.length).2=0/\(iG D L (q.1.map h9) X.length).1.length=X.length then some (iG D L (q.1.map h9) X.length).1 else none:=λu=>by
  unfold gx;rw[az (by decide),az (by decide),(Kt E u _ _ fx).1];dsimp only;rw[drop_left,aY]
 refine⟨by omega,λx ai=>(List.mem_append.1 ai).elim (F7 x) (Ll x),Nat.le_of_lt hlen,?_,λj ar=>?_,λx=>?_⟩
 .rw[ak,cD];dsimp only;rw[ao,aB ⟨rfl,rfl,rfl⟩]
 .rcases eF j E.length with h1|h1
  .rw[take_append_of_le_length (Nat.le_of_lt h1)];unfold gx;rw[az (by decide),az (by decide),ahb E _ _ fx j h1]
  .rw[take_append,take_of_length_le h1,ak];rw[aY]at ar;rw[aqK S _ l cD (j-E.length) (by omega)]
 .rw[df,ak,YT S [x] _ _ cD];dsimp only;rw[az (by rw[aY,length_singleton];omega)]
end am
theorem R3(bs:ae)(m:Int)(t:ae×Nat)(au:∀x∈bs,x<256)(h:jg bs m=some t):(t.1.length:Int)<=m/\0<t.2/\t.2<=bs.length:=by
 have hle:=(Kt bs [] m t h).2;cases bs with
|nil=>cases h
|cons k r=>
  unfold jg at h;dsimp only at h;split at h
  .next hc=>
   have lv:∀x∈r.drop (aX r).2,x<256:=λx ai=>au x (eo _ (mem_of_mem_drop ai))
   cases ak:fr k (aX r).1 (r.drop (aX r).2)with
  |none=>rw[ak]at h;cases h
  |some q=>
    rw[ak]at h;injection h with h
    have hq:q.1.length=(aX r).1:=by
     unfold fr at ak;generalize (aX r).1=n at *;generalize r.drop (aX r).2=u at *;split at ak
     .split at ak
      .next aA=>injection ak with ak;rw[<-ak];dsimp only;rw[cr];omega
      .cases ak
     .split at ak
      .split at ak
       .injection ak with ak;rw[<-ak];simp
       .cases ak
      .split at ak
       .cases aj:iP u with
       |none=>rw[aj]at ak;cases ak
       |some p=>
         rw[aj]at ak;dsimp only at ak;cases fh:nl p.1 (u.drop p.2) n with
        |none=>rw[fh]at ak;cases ak
        |some fl=>
          rw[fh]at ak;injection ak with ak
          unfold nl at fh;split at fh
          .cases aI:nX p.1 (((u.drop p.2).drop (aX (u.drop p.2)).2).take (aX (u.drop p.2)).1) n with
          |none=>rw[aI]at fh;cases fh
          |some d=>
            rw[aI]at fh;injection fh with fh
            have:=(FS p.1 _ d n (λx ai=>lv x (mem_of_mem_drop (mem_of_mem_drop (mem_of_mem_take ai)))) aI).2.1;rw[<-ak,<-fh];exact this
          .cases fh
       .cases ak
    subst h;refine⟨?_,?_,hle⟩
    .show((q.1.length:Nat):Int)<=m;rw[hq];exact hc.2.1
    .show 0<1+(aX r).2+q.2;omega
  .cases h
theorem R4(bs:ae)(m:Int)(t:ae×Nat)(au:∀x∈bs,x<256)(h:jg bs m=some t):∀x∈t.1,x<256:=by
 cases bs with
|nil=>cases h
|cons k r=>
  unfold jg at h;dsimp only at h;split at h
  .have lv:∀x∈r.drop (aX r).2,x<256:=λx ai=>au x (eo _ (mem_of_mem_drop ai))
   generalize (aX r).1=n at *;generalize r.drop (aX r).2=u at *;cases ak:fr k n u with
  |none=>rw[ak]at h;cases h
  |some q=>
    rw[ak]at h;injection h with h
    subst h;show ∀x∈q.1,x<256;unfold fr at ak;split at ak
    .split at ak
     .injection ak with ak;rw[<-ak];exact λx ai=>lv x (mem_of_mem_take ai)
     .cases ak
    .split at ak
     .split at ak
      .next ao=>
       injection ak with ak
       rw[<-ak];intro x ai;rw[(List.mem_replicate.1 ai).2,bI ao];exact lv _ (b8 ao)
      .cases ak
     .split at ak
      .cases aj:iP u with
      |none=>rw[aj]at ak;cases ak
      |some p=>
        have bk:=(Ok u p aj).1;rw[aj]at ak;dsimp only at ak;cases fh:nl p.1 (u.drop p.2) n with
       |none=>rw[fh]at ak;cases ak
       |some fl=>
         rw[fh]at ak;injection ak with ak
         unfold nl at fh;split at fh
         .cases aI:nX p.1 (((u.drop p.2).drop (aX (u.drop p.2)).2).take (aX (u.drop p.2)).1) n with
         |none=>rw[aI]at fh;cases fh
         |some d=>
           rw[aI]at fh;injection fh with fh
           have:=(FS p.1 _ d n (λx ai=>lv x (mem_of_mem_drop (mem_of_mem_drop (mem_of_mem_take ai)))) aI).2.2;rw[<-ak,<-fh];exact λx ai=>gJ (this x ai) bk
         .cases fh
      .cases ak
  .cases h
namespace am
theorem RL(U:ae)(i:Nat)(h:i<U.length):(lm U)[i]'(by simpa [lm]using h)=gW U i:=by simp[lm]
theorem FB(U:ae):(lm U).length=U.length:=by simp[lm]
def hI(F:List (Int×Int))(a b:Nat):Int:=if b=0 then(F[a]?.getD (0,0)).1 else(F[a]?.getD (0,0)).2
def pK(F:List (Int×Int))(a b:Nat)(z:Int):List (Int×Int):=F.set a (if b=0 then(z,(F[a]?.getD (0,0)).2)else((F[a]?.getD (0,0)).1,z))
theorem tM(F:List (Int×Int))(a b:Nat)(z:Int):(pK F a b z).length=F.length:=by simp[pK]
theorem KG(F:List (Int×Int))(a b:Nat)(z:Int)(aV:a<F.length):hI (pK F a b z) a b=z:=by
 unfold hI pK;rw[getElem?_set_self aV,b7];split<;>rfl
theorem Sn(F:List (Int×Int))(a b a' kk:Nat)(z:Int)(ak:b<2)(hV:kk<2)(h:¬(a'=a/\kk=b)):hI (pK F a b z) a' kk=hI F a' kk:=by
 unfold hI pK;by_cases aV:a'=a
 .subst aV;have aZ:kk≠b:=λe=>h ⟨rfl,e⟩
  rcases eF a' F.length with hl|hl
  .rw[getElem?_set_self hl,b7];by_cases ao:b=0
   .rw[aB ao,az (show ¬kk=0 by omega),az (show ¬kk=0 by omega)]
   .rw[az ao,aB (show kk=0 by omega),aB (show kk=0 by omega)]
  .rw[set_eq_of_length_le hl]
 .rw[getElem?_set_ne (λe=>aV e.symm)]
theorem Sl(F:List (Int×Int))(a b:Nat)(t:Int×Int)(aV:a<F.length):hI (F++[t]) a b=hI F a b:=by
 unfold hI;rw[hO aV]
theorem ahI(F:List (Int×Int))(b:Nat):hI (F++[(0,0)]) F.length b=0:=by
 unfold hI;rw[iY bl,Nat.sub_self];simp
def aau(U:ae)(q:Nat)(P:List (ae))(z:Int)(p:ae):Prop:=
 (0<z->P[z.toNat]?=some p)/\(z=0->p ∉ P/\∀k,k<q->0<U[k]?.getD 0->cT U k≠p)/\(z<0->∃k:Nat,k<q/\z=-1-(k:Int)/\0<U[k]?.getD 0/\cT U k=p)
structure je(U:ae)(q:Nat)(P:List (ae))(F:List (Int×Int)):Prop where
 len:F.length=P.length
 root:P[0]?=some []
 nodup:P.Nodup
 zW:∀p b,p++[b]∈P->p∈P
 pre:∀p∈P,p≠[]->∃k,k<=q/\0<U[k]?.getD 0/\p <+: cT U k/\p.length<U[k]?.getD 0
 all:∀k,k<q->0<U[k]?.getD 0->∀i,i<U[k]?.getD 0->(cT U k).take i∈P
 tb:∀a p,P[a]?=some p->∀b,b<2->aau U q P (hI F a b) (p++[b])
theorem je.start(U:ae):je U 0 [[]] [(0,0)] where
 len:=rfl
 root:=rfl
 nodup:=by simp
 zW:=λp b h=>by simp at h
 pre:=λp ax ao=>by simp at ax;exact absurd ax ao
 all:=λk hk=>by omega
 tb:=λa p aV b ak=>by
  rcases a with _|a
  .simp at aV;subst aV;have e:hI [(0,0)] 0 b=0:=by unfold hI;simp
   rw[e];exact⟨by omega,λ_=>⟨by simp,λk hk=>by omega⟩,by omega⟩
  .simp at aV
theorem je.skip{U:ae}{q:Nat}{P:List (ae)}{F:List (Int×Int)}(h:je U q P F)(ao:U[q]?.getD 0=0):je U (q+1) P F where
 len:=h.len
 root:=h.root
 nodup:=h.nodup
 zW:=h.zW
 pre:=λp ax aZ=>by
  obtain⟨k,h1,af⟩:=h.pre p ax aZ;exact⟨k,by omega,af⟩
 all:=λk hk gl=>by
  by_cases e:k=q
  .subst e;omega
  .exact h.all k (by omega) gl
 tb:=λa p aV b ak=>by
  obtain⟨h1,af,aq⟩:=h.tb a p aV b ak;refine⟨h1,λaQ=>⟨(af aQ).1,λk hk gl=>?_⟩,λaQ=>?_⟩
  .by_cases e:k=q
   .subst e;omega
   .exact(af aQ).2 k (by omega) gl
  .obtain⟨k,g1,g2⟩:=aq aQ;exact⟨k,by omega,g2⟩
theorem HP(l:ae)(j:Nat)(h:j<l.length):l.take (j+1)=l.take j++[l[j]]:=fY h
theorem G4{P:List (ae)}{a:Nat}{p:ae}(h:P[a]?=some p):p∈P:=mem_of_getElem? h
theorem xQ{P:List (ae)}{a:Nat}{p:ae}(h:P[a]?=some p):a<P.length:=(List.getElem?_eq_some_iff.1 h).1
theorem at_one{P:List (ae)}(aA:P.Nodup){a a':Nat}{p:ae}(h:P[a]?=some p)(j7:P[a']?=some p):a=a':=by
 have h1:=xQ h;exact(getElem?_inj h1 aA).1 (h.trans j7.symm)
theorem OG{p r:ae}{b c:Nat}(h:p++[b]=r++[c]):p=r/\b=c:=by
 have:=append_inj' h rfl;exact⟨this.1,by simpa using this.2⟩
section
variable {U:ae} {q:Nat} {P:List (ae)} {F:List (Int×Int)}
theorem je.on(h:je U q P F){a b:Nat}{p:ae}(aV:P[a]?=some p)(ak:b<2)(aQ:0<hI F a b):P[(hI F a b).toNat]?=some (p++[b]):=(h.tb a p aV b ak).1 aQ
theorem je.pos(h:je U q P F)(bk:fq U)(hq:q<U.length){a j:Nat}(ar:j<(cT U q).length)(aV:P[a]?=some ((cT U q).take j)):0<=hI F a (cT U q)[j]:=by
 have ak:=xV U q _ (b8 ar);rcases Int.lt_or_le (hI F a (cT U q)[j]) 0 with aQ|aQ
 .exfalso
  obtain⟨k,h1,_,aq,aK⟩:=(h.tb a _ aV _ ak).2.2 aQ;rw[<-HP _ j ar]at aK;have hl:=ll U q;have:=N9 U k q (by omega) hq bk aq (by omega) (cT U q) (by rw[aK];exact take_prefix _ _) (prefix_refl _);omega
 .exact aQ
theorem je.grow(h:je U q P F){a j:Nat}(ar:j+1<(cT U q).length)(aV:P[a]?=some ((cT U q).take j))(aQ:hI F a ((cT U q)[j]'(by omega))=0) :
  je U q (P++[(cT U q).take (j+1)]) (pK F a ((cT U q)[j]'(by omega)) (P.length:Int)++[(0,0)]):=by
 have ak:=xV U q _ (b8 (show j<(cT U q).length by omega));have gH:=HP (cT U q) j (by omega);have hl:=ll U q;obtain⟨GB,qf⟩:=(h.tb a _ aV _ ak).2.1 aQ;rw[<-gH]at GB qf;have dw:=xQ aV;have cn:((cT U q).take (j+1)).length=j+1:=by rw[cr];omega
 have ai2:=G4 aV;generalize (cT U q)[j]'(by omega)=iH at *;generalize ax:(cT U q).take (j+1)=p at *;have nz:p <+: cT U q:=by rw[<-ax];exact take_prefix _ _
 generalize aj:(cT U q).take j=r at *;have uK:0<P.length:=by omega
 refine⟨by rw[aY,aY,tM,h.len];rfl,by rw[hO uK];exact h.root,?_,?_,?_,?_,?_⟩
 .rw[nodup_append];exact⟨h.nodup,by simp,λx ai y hy=>by simp at hy;subst hy;exact λe=>GB (e▸ai)⟩
 .intro p' kk hm;rcases List.mem_append.1 hm with hm|hm
  .exact mem_append_left _ (h.zW p' kk hm)
  .have e:=List.mem_singleton.1 hm;rw[gH]at e;rw[(OG e).1];exact mem_append_left _ ai2
 .intro p' hm aZ;rcases List.mem_append.1 hm with hm|hm
  .exact h.pre p' hm aZ
  .have e:=List.mem_singleton.1 hm;rw[e];exact⟨q,Nat.le_refl _,by omega,nz,by omega⟩
 .intro k hk gl i ay;exact mem_append_left _ (h.all k hk gl i ay)
 .intro a' p' mo kk hV;rcases eF a' P.length with Gx|Gx
  .rw[hO Gx]at mo;rw[Sl _ _ _ _ (by rw[tM,h.len];exact Gx)];by_cases he:a'=a/\kk=iH
   .obtain⟨aG,e2⟩:=he;subst aG e2;rw[KG _ _ _ _ (by rw[h.len];exact Gx)];have e:p'=r:=by rw[aV]at mo;injection mo with mo;exact mo.symm
    refine⟨λ_=>?_,λe=>by omega,λe=>by omega⟩;rw[cX,iY bl,Nat.sub_self,e,<-gH];rfl
   .rw[Sn _ _ _ _ _ _ ak hV he];obtain⟨h1,af,aq⟩:=h.tb a' p' mo kk hV;refine⟨λaQ=>?_,λaQ=>⟨λhm=>?_,(af aQ).2⟩,aq⟩
    .have:=h1 aQ;rw[hO (xQ this)];exact this
    .rcases List.mem_append.1 hm with hm|hm
     .exact(af aQ).1 hm
     .have e:=List.mem_singleton.1 hm;rw[gH]at e;obtain⟨aG,e2⟩:=OG e;rw[aG]at mo;exact he ⟨at_one h.nodup mo aV,e2⟩
  .have e:a'=P.length:=by
    have:=xQ mo;rw[aY,length_singleton]at this;omega
   subst e;rw[iY bl,Nat.sub_self]at mo;have e:p=p':=by simpa using mo
   subst e;have e2:hI (pK F a iH (P.length:Int)++[(0,0)]) P.length kk=0:=by
    have:=ahI (pK F a iH (P.length:Int)) kk;rwa [tM,h.len]at this
   rw[e2];refine⟨λe=>by omega,λ_=>⟨λhm=>?_,λk hk gl e=>?_⟩,λe=>by omega⟩
   .rcases List.mem_append.1 hm with hm|hm
    .exact GB (h.zW p kk hm)
    .have:=congrArg List.length (List.mem_singleton.1 hm);rw[aY,length_singleton]at this;omega
   .have a8:=ll U k;have h1:=congrArg List.length e;rw[aY,length_singleton]at h1;have af:=h.all k hk gl p.length (by omega);rw[e,take_left]at af;exact GB af
theorem je.leaf(h:je U q P F){a n:Nat}(aA:n+1=(cT U q).length)(aV:P[a]?=some ((cT U q).take n))(hall:∀i,i<=n->(cT U q).take i∈P) :
  je U (q+1) P (pK F a ((cT U q)[n]'(by omega)) (-1-(q:Int))):=by
 have ak:=xV U q _ (b8 (show n<(cT U q).length by omega));have gH:=HP (cT U q) n (by omega);rw[aA,take_length]at gH;have hl:=ll U q;have dw:=xQ aV;generalize (cT U q)[n]'(by omega)=iH at *;refine⟨by rw[tM,h.len],h.root,h.nodup,h.zW,?_,?_,?_⟩
 .intro p ax aZ;obtain⟨k,h1,af⟩:=h.pre p ax aZ;exact⟨k,by omega,af⟩
 .intro k hk gl i ay;by_cases e:k=q
  .subst e;exact hall i (by omega)
  .exact h.all k (by omega) gl i ay
 .intro a' p' mo kk hV;by_cases he:a'=a/\kk=iH
  .obtain⟨aG,e2⟩:=he;subst aG e2;rw[KG _ _ _ _ (by rw[h.len];exact dw)];have e:p'=(cT U q).take n:=by rw[aV]at mo;injection mo with mo;exact mo.symm
   exact⟨λe=>by omega,λe=>by omega,λ_=>⟨q,by omega,rfl,by omega,by rw[e];exact gH⟩⟩
  .rw[Sn _ _ _ _ _ _ ak hV he];obtain⟨h1,af,aq⟩:=h.tb a' p' mo kk hV;refine⟨h1,λaQ=>⟨(af aQ).1,λk hk gl e=>?_⟩,λaQ=>?_⟩
   .by_cases KD:k=q
    .subst KD;rw[gH]at e;obtain⟨aG,e2⟩:=OG e;rw[<-aG]at mo;exact he ⟨at_one h.nodup mo aV,e2.symm⟩
    .exact(af aQ).2 k (by omega) gl e
   .obtain⟨k,g1,g2⟩:=aq aQ;exact⟨k,by omega,g2⟩
end
theorem Xn(U l:ae)(h:∀k,0<U[k]?.getD 0->¬cT U k <+: l):m7 U l=none:=by
 have:∀q,q2 U l q=none:=λq=>by
  induction q with
 |zero=>rfl
 |succ q ih=>
   unfold q2;rw[az (λhc=>h q hc.1 hc.2),ih]
 exact this _
section
variable {U:ae} {P:List (ae)} {F:List (Int×Int)}
theorem je.inner(h:je U U.length P F)(bk:fq U){r:ae}(aj:r∈P)(k:Nat)(hk:0<U[k]?.getD 0):¬cT U k <+: r:=by
 intro ax;have a8:=ll U k;by_cases he:r=[]
 .subst he;have:=ax.length_le;rw[length_nil]at this;omega
 .obtain⟨k',_,af,aq,aK⟩:=h.pre r aj he;have:=N9 U k k' (DM U k hk) (DM U k' af) bk hk af (cT U k') (ax.trans aq) (prefix_refl _);subst this;have:=ax.length_le;omega
theorem je.apA(h:je U U.length P F)(bk:fq U){r:ae}(aj:r∈P):m7 U r=none:=Xn U r (λk hk=>h.inner bk aj k hk)
theorem je.apB(h:je U U.length P F)(bk:fq U){a b:Nat}{r:ae}(aV:P[a]?=some r)(ak:b<2)(aQ:hI F a b<0)(rest:ae) :
  ∃k:Nat,k<U.length/\hI F a b=-1-(k:Int)/\U[k]?.getD 0=r.length+1/\m7 U (r++b::rest)=some k:=by
 obtain⟨k,h1,af,aq,aK⟩:=(h.tb a r aV b ak).2.2 aQ;refine⟨k,h1,af,by rw[<-ll,aK,aY];rfl,Xl U _ k bk h1 aq ?_⟩;rw[aK];exact⟨rest,by simp⟩
theorem je.apE(h:je U U.length P F)(bk:fq U){a b:Nat}{r:ae}(aV:P[a]?=some r)(ak:b<2)(aQ:hI F a b=0)(rest:ae):m7 U (r++b::rest)=none:=by
 obtain⟨h1,af⟩:=(h.tb a r aV b ak).2.1 aQ;refine Xn U _ (λk hk ax=>?_);have a8:=ll U k;rcases eF r.length (U[k]?.getD 0)with hl|hl
 .have e:(cT U k).take (r.length+1)=r++[b]:=by
   obtain⟨t,aE⟩:=ax;have:=congrArg (List.take (r.length+1)) aE;rw[take_append_of_le_length (by omega)]at this;rw[this,take_append,take_of_length_le (by omega)];simp
  by_cases he:U[k]?.getD 0=r.length+1
  .exact af k (DM U k hk) hk (by rw[<-e,take_of_length_le (by omega)])
  .exact h1 (by rw[<-e];exact h.all k (DM U k hk) hk _ (by omega))
 .exact h.inner bk (G4 aV) k hk (prefix_of_prefix_length_le ax (prefix_append r (b::rest)) (by omega))
end
def ins(x:Nat):ae->ae
|[]=>[x]
|y::l=>if x<=y then x::y::l else y::ins x l
def mZ:ae->ae
|[]=>[]
|x::l=>ins x (mZ l)
theorem q0{x y:Nat}{l:ae}(h:x<=y):ins x (y::l)=x::y::l:=by rw[ins,aB h]
theorem pF{x y:Nat}{l:ae}(h:¬x<=y):ins x (y::l)=y::ins x l:=by rw[ins,az h]
theorem WC(x y:Nat):∀l,ins x (ins y l)=ins y (ins x l)
|[]=>by
  show ins x [y]=ins y [x];by_cases h1:x<=y
  .by_cases af:y<=x
   .obtain rfl:x=y:=by omega
    rfl
   .rw[q0 h1,pF af];rfl
  .rw[pF h1,q0 (by omega)];rfl
|z::l=>by
  by_cases h1:x<=z<;>by_cases af:y<=z
  .rw[q0 h1,q0 af];by_cases aq:x<=y
   .by_cases aK:y<=x
    .obtain rfl:x=y:=by omega
     rfl
    .rw[q0 aq,pF aK,q0 af]
   .rw[pF aq,q0 (show y<=x by omega),q0 h1]
  .rw[pF af,q0 h1,q0 h1,pF (show ¬y<=x by omega),pF af]
  .rw[pF h1,q0 af,q0 af,pF (show ¬x<=y by omega),pF h1]
  .rw[pF h1,pF af,pF h1,pF af,WC x y l]
theorem WF{a b:ae}(h:a.Perm b):mZ a=mZ b:=by
 induction h with
|nil=>rfl
|cons x _ ih=>simp only[mZ,ih]
|swap x y l=>simp only[mZ];exact WC y x (mZ l)
|trans _ _ DK DL=>exact DK.trans DL
theorem WD(x:Nat):∀l,(ins x l).Perm (x::l)
|[]=>List.Perm.refl _
|y::l=>by
  unfold ins;split
  .exact List.Perm.refl _
  .exact((WD x l).cons y).trans (List.Perm.swap x y l)
theorem M7:∀l,(mZ l).Perm l
|[]=>List.Perm.refl _
|x::l=>(WD x (mZ l)).trans ((M7 l).cons x)
theorem M5(x:Nat)(l:ae)(h:∀y∈l,x<=y):ins x l=x::l:=by
 cases l with
|nil=>rfl
|cons y l=>unfold ins;rw[aB (h y dU)]
def LC:Nat->ae->Nat
|0,_=>0
|f+1,a::b::l=>(a+b)+LC f (ins (a+b) l)
|_+1,_=>0
def n1(l:ae):Nat:=LC l.length (mZ l)
theorem C3{a b:ae}(h:a.Perm b):n1 a=n1 b:=by
 unfold n1;rw[WF h,h.length_eq]
theorem ai8(a b:Nat)(l:ae)(aV:a<=b)(ak:∀x∈l,b<=x):n1 (a::b::l)=(a+b)+n1 (l++[a+b]):=by
 have ap:mZ (a::b::l)=a::b::mZ l:=by
  simp only[mZ];rw[M5 b (mZ l) (λy hy=>ak y ((M7 l).mem_iff.1 hy))];exact M5 a _ (λy hy=>by
   rcases List.mem_cons.1 hy with rfl|hy
   .exact aV
   .have:=ak y ((M7 l).mem_iff.1 hy);omega)
 have af:n1 (l++[a+b])=LC (l.length+1) (ins (a+b) (mZ l)):=by
  rw[C3 (perm_append_comm (l₁:=l) (l₂:=[a+b]))];rfl
 rw[af];unfold n1;rw[ap];rfl
theorem ai7(l:ae)(h:l.length<=1):n1 l=0:=by
 rcases l with _|⟨a,_|⟨b,l⟩⟩
 .rfl
 .rfl
 .simp at h
end am
open Go.RowKit
namespace am
def fu:ae->ae
|[]=>[]
|c::ag=>if 0<c then c::fu ag else fu ag
def Fk(ag:ae):Nat:=if (fu ag).length=1 then(fu ag).sum else n1 (fu ag)
def SB(ag:ae):Nat:=if (fu ag).length=1 then(fu ag).sum else
 (fu ag).sum*wid ((fu ag).length-1)-((mZ (fu ag)).reverse.take (2^wid ((fu ag).length-1)-(fu ag).length)).sum
structure tV(ag U:ae):Prop where
 len:U.length=ag.length
 whole:fq U
 just:∀i,i<ag.length->(0<U[i]?.getD 0↔0<ag[i]?.getD 0)
 cost:zX ag U<=max (SB ag) (Fk ag)
theorem tV.fit{ag U:ae}(h:tV ag U):If ag U:=λi ay ao=>(h.just i ay).2 ao
instance (ag U:ae):Decidable (If ag U):=by unfold If;exact inferInstance
end am
def aaK:Prop:=∀(w:ah) (A:a7) (c:Nat) (l:List Int),l.length<=1000000000->(∀x∈l,ec x)->Reads w A (gB l)->am.Right l ->
 Calls prog 106 #[.slice A l.length c] w λe w'=>∃B d U,e=.returned (.tuple #[.slice B l.length d,.bool true])/\l.length<=d/\Reads w' B (aM U)/\tV (l.map Int.toNat) U/\av w w'
namespace am
theorem aqM(bs:ae)(most:Int)(h:¬(0<(aX bs).2/\((aX bs).1:Int)<=min most 1000)):iC bs most=none:=by
 unfold iC;rw[az (by omega)]
theorem aqR(bs:ae)(most:Int)(h:0<(aX bs).2/\((aX bs).1:Int)<=min most 1000)(ao:(aX bs).1=0):iC bs most=some ([],(aX bs).2):=by
 unfold iC;rw[aB (by omega),aB ao]
theorem aqL(bs:ae)(most:Int)(h:0<(aX bs).2/\((aX bs).1:Int)<=min most 1000)(ao:(aX bs).1≠0):iC bs most =
  match hs 3 (bs.drop (aX bs).2) (aX bs).1 with
 |none=>none
 |some p=>match ht ((bs.drop (aX bs).2).drop p.2)with
  |none=>none
  |some q=>(ol p.1 (aX bs).1 q.1).map λl=>(l,(aX bs).2+p.2+q.2):=by
 unfold iC;exact(aB (by omega)).trans (az ao)
end am
theorem dL.below{w w':ah}{b off N n:Nat}(h:dL w b off N n)(ak:av w w'):dL w' b off N n:=h.keep (row:=none) (dj ak none) (by simp) (by simp)
theorem er.below{w w':ah}{b off pos:Nat}{bs:ae}(h:er w b off bs pos)(ak:av w w'):er w' b off bs pos:=h.keep (row:=none) (dj ak none) (by simp)
structure nK(w:ah)(base:Nat)(vs:b1)(L:Nat->ae):Prop where
 own:∀(s:Nat) (v:Value),vs[s]?=some v->w.ownsRow base 3 1 v (L s).length (aM (L s))
 apart:∀(s t:Nat) (v u:Value) (g:Nat),s≠t->vs[s]?=some v->vs[t]?=some u->v.ownBlock=some g->u.ownBlock≠some g
section
variable {w w':ah} {base:Nat} {vs:b1} {L L':Nat->ae}
theorem nK.NH(w:ah)(base n:Nat)(bR:∀s,L s=[]):nK w base (List.replicate n (.slice none 0 0)) L where
 own:=λs v aD=>by
  rw[getElem?_replicate]at aD;split at aD
  .injection aD with aD
   subst aD;rw[bR s];exact World.ownsRow_nil _ _ _ _
  .cases aD
 apart:=λs t v u g _ aD _ aF=>by
  rw[getElem?_replicate]at aD;split at aD
  .injection aD with aD
   subst aD;simp[Value.ownBlock]at aF
  .cases aD
theorem nK.below(h:nK w base vs L)(ak:av w w'):nK w' base vs L:=⟨λs v aD=>own_below (h.own s v aD) ak,h.apart⟩
theorem nK.sx(h:nK w base vs L){b:Nat}{t:TypeId}{ag:b1}(aj:Row w b t ag)(aZ:t≠3):∀(s:Nat) (v:Value),vs[s]?=some v->v.ownBlock≠some b:=by
 intro s v aD ak;obtain⟨c,qI,hk⟩:=Lib.ownsRow_kind (h.own s v aD) b ak;unfold Row at aj;rw[aj]at hk;injection hk with hk
 injection hk with _ hk
 exact aZ hk
theorem nK.cG(h:nK w base vs L){p:Addr}(ax:∀(s:Nat) (v:Value),vs[s]?=some v->v.ownBlock≠some p.block)(u:Value):nK (w.setCell p u) base vs L:=⟨λs v aD=>ownsRow_setCell_other (h.own s v aD) (ax s v aD) u,h.apart⟩
theorem nK.push(h:nK w base vs L){s:Nat}{v:Value}(aD:vs[s]?=some v){g n cap:Nat}(aF:w.grownBy w' v.ownBlock)(et:v.ownBlock=some g\/g=w.heap.size)
  (hown:w'.ownsRow base 3 1 (.slice (some ⟨g,0,none⟩) n cap) n (aM (L' s)))(aA:(L' s).length=n)(bR:∀t,t≠s->L' t=L t):nK w' base (vs.set s (.slice (some ⟨g,0,none⟩) n cap)) L' where
 own:=λt u hu=>by
  by_cases e:s=t
  .subst e;have hl:s<vs.length:=(List.getElem?_eq_some_iff.1 aD).1;rw[getElem?_set_self hl]at hu;injection hu with hu
   subst hu;rw[aA];exact hown
  .rw[getElem?_set_ne e]at hu;rw[bR t (Ne.symm e)];refine(h.own t u hu).kept aF ?_;rcases hq:u.ownBlock with _|q
   .exact .inl rfl
   .exact .inr (λhh=>h.apart t s u v q (Ne.symm e) hu aD hq hh.symm)
 apart:=λa b x y q mR ai hy hq=>by
  have hl:s<vs.length:=(List.getElem?_eq_some_iff.1 aD).1;have key:∀t u,t≠s->vs[t]?=some u->u.ownBlock≠some g:=λt u aE hu he=>by
   rcases et with h1|h1
   .exact h.apart t s u v g aE hu aD he h1
   .have:=((h.own t u hu).lt g he).2;omega
  by_cases oO:s=a
  .subst oO;rw[getElem?_set_self hl]at ai;rw[getElem?_set_ne mR]at hy;injection ai with ai
   subst ai;simp only[Value.ownBlock,Option.some.injEq]at hq;subst hq;exact key b y (Ne.symm mR) hy
  .rw[getElem?_set_ne oO]at ai;by_cases p7:s=b
   .subst p7;rw[getElem?_set_self hl]at hy;injection hy with hy
    subst hy;intro he;simp only[Value.ownBlock,Option.some.injEq]at he;subst he;exact key a x (Ne.symm oO) ai hq
   .rw[getElem?_set_ne p7]at hy;exact h.apart a b x y q mR ai hy hq
end
def Ek(t:am.dx):b1:=[.int .i64 (t.1:Int),.int .i64 (t.2.1:Int),.int .i64 (t.2.2:Int)]
def gF:List am.dx->b1
|[]=>[]
|t::l=>Ek t++gF l
theorem Za(l:List am.dx):(gF l).length=l.length*3:=by
 induction l with
|nil=>rfl
|cons t l ih=>rw[gF,aY,ih,bY];simp[Ek];omega
theorem Y9(l m:List am.dx):gF (l++m)=gF l++gF m:=by
 induction l with
|nil=>rfl
|cons t l ih=>rw[cons_append,gF,ih,gF,df]
theorem HE(l:List am.dx)(i:Nat)(h:i<l.length):(gF l)[i*3]?=some (.int .i64 (l[i].1:Int))/\(gF l)[i*3+1]?=some (.int .i64 (l[i].2.1:Int))/\(gF l)[i*3+2]?=some (.int .i64 (l[i].2.2:Int)):=by
 induction l generalizing i with
|nil=>simp at h
|cons t l ih=>
  cases i with
 |zero=>exact⟨rfl,rfl,rfl⟩
 |succ i=>
   have h1:=ih i (by simpa using h);rw[gF];have e:∀j,(Ek t++gF l)[(i+1)*3+j]?=(gF l)[i*3+j]?:=λj=>by
    rw[iY (by simp[Ek];omega)];congr 1
    simp[Ek];omega
   have e0:=e 0;rw[fX,fX]at e0;rw[e0,e 1,e 2];exact h1
def lL(w:ah)(A:a7)(l:List am.dx):Prop:=0<l.length->∃g off,A=some ⟨g,off,none⟩/\g<w.heap.size/\∀j (h:j<l.length),w.cell? ⟨g,off+j*3,none⟩=some (.int .i64 (l[j].1:Int))/\w.cell? ⟨g,off+j*3+1,none⟩=some (.int .i64 (l[j].2.1:Int))/\w.cell? ⟨g,off+j*3+2,none⟩=some (.int .i64 (l[j].2.2:Int))
theorem lL.below{w w':ah}{A:a7}{l:List am.dx}(h:lL w A l)(ak:av w w'):lL w' A l:=λao=>by
 obtain⟨g,off,e,aF,hc⟩:=h ao;refine⟨g,off,e,gJ aF ak.size,λj ar=>?_⟩;obtain⟨c0,c1,c2⟩:=hc j ar;exact⟨(ak.cell (p:=⟨g,_,none⟩) aF).trans c0,(ak.cell (p:=⟨g,_,none⟩) aF).trans c1,(ak.cell (p:=⟨g,_,none⟩) aF).trans c2⟩
theorem lL.nil(w:ah)(A:a7):lL w A []:=λh=>absurd h (by simp)
theorem Zl{w:ah}{base:Nat}{v:Value}{l:List am.dx}(h:w.ownsRow base 118 3 v l.length (gF l)):∃A c,v=.slice A l.length c/\lL w A l/\c<=maxLen/\l.length<=c:=by
 rcases h.2 with⟨rfl,ao⟩|⟨g,cap,eW,rfl,ak,aF,qf,gX,hcs,aE⟩
 .refine⟨none,0,by rw[ao],λh1=>by omega,by unfold maxLen;omega,by omega⟩
 .have aj:Row w g 118 (gF l++eW.toList.drop (l.length*3)):=by
   unfold Row;rw[<-aE,gq,Array.toArray_toList];exact aF
  refine⟨_,cap,rfl,λh1=>⟨g,0,rfl,aj.lt,λj ar=>?_⟩,gX,qf⟩;obtain⟨c0,c1,c2⟩:=HE l j ar;have hl:=Za l;rw[ez,aj.cell,aj.cell,aj.cell,hO (by omega),hO (by omega),hO (by omega)];exact⟨c0,c1,c2⟩
theorem M3:(prog.info? 118).map (λi=>(i.zero,i.size,i.bytes))=some (some (.agg #[.int .i64 0,.int .i64 0,.int .i64 0]),3,24):=by kernel_rfl
theorem F0{a b c:ah}{row:Option Nat}(h:a.grownBy b row)(k:b.grownBy c row):a.grownBy c row:=
 ⟨k.os.trans h.os,k.tape.trans h.tape,k.output.trans h.output,dl h.size k.size,λi ay aA=>(k.block i (gJ ay h.size) aA).trans (h.block i ay aA)⟩
theorem KW{a b c:ah}{row:Option Nat}(h:a.grownBy b row)(k:av b c):a.grownBy c row:=F0 h (dj k row)
def rL(w:ah)(A:a7)(l:List eS):Prop:=0<l.length->∃g off,A=some ⟨g,off,none⟩/\g<w.heap.size/\∀j (h:j<l.length),w.cell? ⟨g,off+j*3,none⟩=some (.int .i64 l[j].1)/\w.cell? ⟨g,off+j*3+1,none⟩=some (.int .i64 l[j].2.1)/\w.cell? ⟨g,off+j*3+2,none⟩=some (.int .i64 l[j].2.2)
def wa(l:List eS):Prop:=∀s∈l,ec s.1/\ec s.2.1/\ec s.2.2
theorem rL.below{w w':ah}{A:a7}{l:List eS}(h:rL w A l)(ak:av w w'):rL w' A l:=λao=>by
 obtain⟨g,off,e,aF,hc⟩:=h ao;refine⟨g,off,e,gJ aF ak.size,λj ar=>?_⟩;obtain⟨c0,c1,c2⟩:=hc j ar;exact⟨(ak.cell (p:=⟨g,_,none⟩) aF).trans c0,(ak.cell (p:=⟨g,_,none⟩) aF).trans c1,(ak.cell (p:=⟨g,_,none⟩) aF).trans c2⟩
theorem OU{w:ah}{A:a7}{l:List am.dx}(h:lL w A l):rL w A (l.map h9):=λao=>by
 obtain⟨g,off,e,aF,hc⟩:=h (by simpa using ao);refine⟨g,off,e,aF,λj ar=>?_⟩;have h1:=hc j (by simpa using ar);rw[getElem_map];exact h1
theorem Zr(l:ae)(i j:Nat)(h:i<=j)(af:j<=l.length)(W:ah):(Instr.slice 9 (.string (strOf l)) (some (.int .i64 i)) (some (.int .i64 j)) none).run prog W=.ok (.string (strOf ((l.take j).drop i))) W:=by
 rw[run_slice_string W 9 _ .i64 .i64 i j underlying9 (by omega) (by omega) (by rw[cy];omega),cX,cX,Em]
structure l3(w:ah)(base:Nat)(vs:b1)(L:Nat->ae):Prop where
 own:∀(s:Nat) (v:Value),vs[s]?=some v->w.ownsRow base 5 1 v (L s).length (aO (L s))
 apart:∀(s t:Nat) (v u:Value) (g:Nat),s≠t->vs[s]?=some v->vs[t]?=some u->v.ownBlock=some g->u.ownBlock≠some g
section
variable {w w':ah} {base:Nat} {vs:b1} {L L':Nat->ae}
theorem l3.NH(w:ah)(base n:Nat)(bR:∀s,L s=[]):l3 w base (List.replicate n (.slice none 0 0)) L where
 own:=λs v aD=>by
  rw[getElem?_replicate]at aD;split at aD
  .injection aD with aD
   subst aD;rw[bR s];exact World.ownsRow_nil _ _ _ _
  .cases aD
 apart:=λs t v u g _ aD _ aF=>by
  rw[getElem?_replicate]at aD;split at aD
  .injection aD with aD
   subst aD;simp[Value.ownBlock]at aF
  .cases aD
theorem l3.below(h:l3 w base vs L)(ak:av w w'):l3 w' base vs L:=⟨λs v aD=>own_below (h.own s v aD) ak,h.apart⟩
theorem l3.cG(h:l3 w base vs L){p:Addr}(ax:∀(s:Nat) (v:Value),vs[s]?=some v->v.ownBlock≠some p.block)(u:Value):l3 (w.setCell p u) base vs L:=⟨λs v aD=>ownsRow_setCell_other (h.own s v aD) (ax s v aD) u,h.apart⟩
theorem l3.push(h:l3 w base vs L){s:Nat}{v:Value}(aD:vs[s]?=some v){g n cap:Nat}(aF:w.grownBy w' v.ownBlock)(et:v.ownBlock=some g\/g=w.heap.size)
  (hown:w'.ownsRow base 5 1 (.slice (some ⟨g,0,none⟩) n cap) n (aO (L' s)))(aA:(L' s).length=n)(bR:∀t,t≠s->L' t=L t):l3 w' base (vs.set s (.slice (some ⟨g,0,none⟩) n cap)) L' where
 own:=λt u hu=>by
  by_cases e:s=t
  .subst e;have hl:s<vs.length:=(List.getElem?_eq_some_iff.1 aD).1;rw[getElem?_set_self hl]at hu;injection hu with hu
   subst hu;rw[aA];exact hown
  .rw[getElem?_set_ne e]at hu;rw[bR t (Ne.symm e)];refine(h.own t u hu).kept aF ?_;rcases hq:u.ownBlock with _|q
   .exact .inl rfl
   .exact .inr (λhh=>h.apart t s u v q (Ne.symm e) hu aD hq hh.symm)
 apart:=λa b x y q mR ai hy hq=>by
  have hl:s<vs.length:=(List.getElem?_eq_some_iff.1 aD).1;have key:∀t u,t≠s->vs[t]?=some u->u.ownBlock≠some g:=λt u aE hu he=>by
   rcases et with h1|h1
   .exact h.apart t s u v g aE hu aD he h1
   .have:=((h.own t u hu).lt g he).2;omega
  by_cases oO:s=a
  .subst oO;rw[getElem?_set_self hl]at ai;rw[getElem?_set_ne mR]at hy;injection ai with ai
   subst ai;simp only[Value.ownBlock,Option.some.injEq]at hq;subst hq;exact key b y (Ne.symm mR) hy
  .rw[getElem?_set_ne oO]at ai;by_cases p7:s=b
   .subst p7;rw[getElem?_set_self hl]at hy;injection hy with hy
    subst hy;intro he;simp only[Value.ownBlock,Option.some.injEq]at he;subst he;exact key a x (Ne.symm oO) ai hq
   .rw[getElem?_set_ne p7]at hy;exact h.apart a b x y q mR ai hy hq
end
theorem alY(c:Nat)(w:ah)(hc:c<256):Calls prog 81 #[.int .i64 c] w λe w'=>e=.returned (.int .i64 (hT c))/\w=w':=by
 obtain⟨r,aj⟩:∃r,r=hT c:=⟨_,rfl⟩;have bS:=aj;rw[<-aj];unfold hT at bS;clear aj;go_enter func81,ntmps81
 by_cases h1:c<16
 .rw[aB h1]at bS;subst bS;have d1:decide (c<16)=true:=bE h1;go_wp2;go_ret;exact⟨rfl,rfl⟩
 .rw[az h1]at bS;have d1:decide (c<16)=false:=bG h1;by_cases af:27<c
  .rw[aB af]at bS;subst bS;have d2:decide (27<c)=true:=bE af;go_wp2;go_ret;exact⟨rfl,rfl⟩
  .rw[az af]at bS;have d2:decide (27<c)=false:=bG af;have ap:(c:Int)-12=r:=by omega
   clear bS;go_wp2;go_ret;exact⟨rfl,rfl⟩
end Go.Proofs.YtgiicohbigiapaaGreat
