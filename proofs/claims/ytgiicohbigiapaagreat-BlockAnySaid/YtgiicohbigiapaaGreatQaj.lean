/- Contracts. -/
import Derived.Test.YtgiicohbigiapaaGreatQai
import Derived.Test.YtgiicohbigiapaaGreatQac
import Derived.Lib.OwnKind
import Derived.Deep.AppendLies
import Derived.Deep.RegionHeld3
import Derived.Test.YtgiicohbigiapaaGreatQz1
import Derived.Test.YtgiicohbigiapaaGreatQz0
set_option maxHeartbeats 4000000
set_option maxRecDepth 100000
open Go.Proofs.Tryz Go.Proofs.YtgiicohbigiapaaGreat.ao List Nat Option
namespace Go.Proofs.YtgiicohbigiapaaGreat
namespace ao
def hG(bs:ae):Option (ae×Nat):=
 if 0<(aW bs).2/\(aW bs).1<=4096/\(aW bs).1<=bs.length-(aW bs).2 then some ((bs.drop (aW bs).2).take (aW bs).1,(aW bs).2+(aW bs).1)else none
def qG(V len left:Nat):Bool:=decide (left<8/\V/2^(len-left)=0)
def headD(aG:ae):Option (ae×Nat):=
 match takeA (bd aG) (8*aG.length)with
 | none=>none
 | some t=>if qG (bd aG) (8*aG.length) t.2.2=true then some (t.1,t.2.1)else none
def ls(t:ae)(n:Nat):Option (ae×Nat):=
 match hG t with
 | none=>none
 | some p=>match hG (t.drop p.2)with
  | none=>none
  | some q=>match headD p.1 with
   | none=>none
   | some h=>(iX h.1 h.2 q.1 (n:Int)).map λc=>(c,p.2+q.2)
def n6(bs:ae)(n:Nat):Option (ae×Nat):=
 match bs with
 | []=>none
 | k :: t=>if k=0 then(if n<=t.length then some (t.take n,1+n)else none)
  else if k=1 then(if 0<t.length then some (List.replicate n (t[0]?.getD 0),2)else none)
  else if k=2 then(ls t n).map λr=>(r.1,1+r.2)else none
theorem zP(t:ae)(n:Nat):n6 (0 :: t) n=if n<=t.length then some (t.take n,1+n)else none:=rfl
theorem zQ(t:ae)(n:Nat):n6 (1 :: t) n=if 0<t.length then some (List.replicate n (t[0]?.getD 0),2)else none:=rfl
theorem zR(t:ae)(n:Nat):n6 (2 :: t) n=(ls t n).map λr=>(r.1,1+r.2):=rfl
theorem B4(k:Nat)(t:ae)(n:Nat)(h:2<k):n6 (k :: t) n=none:=by
 show(if k=0 then _ else if k=1 then _ else if k=2 then _ else none)=none;rw[ay (by omega),ay (by omega),ay (by omega)]
def lU(bs:ae)(n:Nat):Option (ae×Nat):=
 match n6 bs n with
 | none=>none
 | some r=>if ∀x∈r.1,x<28 then some r else none
def hE:Nat->ae->Nat->Option (List (ae)×Nat)
 | 0,_,_=>some ([],0)
 | k+1,bs,n=>match lU bs n with
  | none=>none
  | some r=>(hE k (bs.drop r.2) n).map λq=>(r.1 :: q.1,r.2+q.2)
def fY(c:Nat):Nat:=if c<16 then 0 else c-12
def n4(c V:Nat):Nat:=if c<16 then c else 2^(c-12)+V%2^(c-12)
def ln:ae->Nat->Nat->Option (ae×Nat×Nat)
 | [],V,L=>some ([],V,L)
 | c :: ag,V,L=>if fY c<=L then(ln ag (V/2^fY c) (L-fY c)).map λr=>(n4 c V :: r.1,r.2)else none
def kb:List (ae)->Nat->Nat->Int×Int×Int->Option (List dC×Nat×Nat)
 | [],V,L,_=>some ([],V,L)
 | ag :: l,V,L,r=>match ln ag V L with
  | none=>none
  | some t=>match ka r.1 r.2.1 r.2.2 ((t.1[2]?.getD 0:Nat):Int)with
   | none=>none
   | some x=>(kb l t.2.1 t.2.2 (hx r.1 r.2.1 r.2.2 x)).map λq=>((t.1[0]?.getD 0,t.1[1]?.getD 0+3,x.toNat) :: q.1,q.2)
def jM(ag:List (ae))(i:Nat):ae:=ag.map λl=>l[i]?.getD 0
def jD(ag:List (ae))(n:Nat):List (ae):=(List.range n).map (jM ag)
def sm:Option (List dC×Nat×Nat)->Option (List dC)
 | none=>none
 | some t=>if t.2.2<8/\t.2.1=0 then some t.1 else none
def oO(ag:List (ae))(n:Nat)(bQ:ae):Option (List dC):=sm (kb (jD ag n) (bd bQ) (8*bQ.length) (1,2,4))
def iM(bs:ae)(most:Int):Option (List dC×Nat):=
 if 0<(aW bs).2/\((aW bs).1:Int)<=most/\(aW bs).1<=1000 then
  (if (aW bs).1=0 then some ([],(aW bs).2)else
   match hE 3 (bs.drop (aW bs).2) (aW bs).1 with
   | none=>none
   | some p=>match hG ((bs.drop (aW bs).2).drop p.2)with
    | none=>none
    | some q=>(oO p.1 (aW bs).1 q.1).map λl=>(l,(aW bs).2+p.2+q.2))
 else none
theorem aaN(t:ae)(n:Nat)(l:ae)(k:Nat)(av:∀x∈t,x<256)(h:ls t n=some (l,k)):l.length=n/\∀x∈l,x<256:=by
 unfold ls at h;split at h
 .cases h
 .next p aw=>
  split at h
  .cases h
  .next q hq=>
   split at h
   .cases h
   .next u hu=>
    cases aG:iX u.1 u.2 q.1 (n:Int)with
    | none=>rw[aG]at h;cases h
    | some c=>
     rw[aG,map_some]at h;injection h with h
     injection h with h1 af
     subst h1;have aL:ec u.1 u.2:=by
      unfold headD at hu;split at hu
      .cases hu
      .next v aE=>
       split at hu
       .injection hu with hu
        subst hu;exact(I2 _ _ v.1 v.2.1 v.2.2 aE).1
       .cases hu
     have ak:∀x∈q.1,x<256:=by
      unfold hG at hq;split at hq
      .injection hq with hq
       subst hq;exact λx ah=>av x (mem_of_mem_drop (mem_of_mem_drop (mem_of_mem_take ah)))
      .cases hq
     obtain⟨_,bM,_,gx⟩:=ahj u.1 u.2 aL q.1 c n ak aG;exact⟨by omega,gx⟩
theorem aag(bs:ae)(n:Nat)(av:∀x∈bs,x<256)(l:ae)(k:Nat)(h:n6 bs n=some (l,k)):l.length=n/\∀x∈l,x<256:=by
 cases bs with
 | nil=>cases h
 | cons y t=>
  have mf:∀x∈t,x<256:=λx ah=>av x (ew _ ah)
  by_cases am:y=0
  .subst am;rw[zP]at h;split at h
   .injection h with h
    injection h with h1 _
    subst h1;exact⟨by rw[cq];omega,λx ah=>mf x (mem_of_mem_take ah)⟩
   .cases h
  .by_cases h1:y=1
   .subst h1;rw[zQ]at h;split at h
    .next aw=>
     injection h with h
     injection h with h1 _
     subst h1;refine⟨jl,λx ah=>?_⟩;rw[mem_replicate]at ah;rw[ah.2,bH aw,b6];exact mf _ (b7 aw)
    .cases h
   .by_cases af:y=2
    .subst af;rw[zR]at h;cases ap:ls t n with
     | none=>rw[ap]at h;cases h
     | some r=>
      rw[ap,map_some]at h;injection h with h
      injection h with h1 _
      subst h1;exact aaN t n r.1 r.2 mf ap
    .rw[B4 y t n (by omega)]at h;cases h
theorem abk(bs:ae)(n:Nat)(av:∀x∈bs,x<256)(l:ae)(k:Nat)(h:lU bs n=some (l,k)):l.length=n/\∀x∈l,x<28:=by
 unfold lU at h;split at h
 .cases h
 .next r aj=>
  split at h
  .next et=>
   injection h with h
   subst h;exact⟨(aag bs n av l k aj).1,et⟩
  .cases h
theorem Qa(t u:ae)(h:t.length<=4096):hG (br t.length++(t++u))=some (t,(br t.length).length+t.length)/\(br t.length++(t++u)).drop ((br t.length).length+t.length)=u:=by
 have aw:=yS t.length (by omega);have aG:(br t.length++(t++u)).drop (br t.length).length=t++u:=drop_left;constructor
 .unfold hG;rw[xi t.length (t++u) (by omega)];dsimp only;rw[aA ⟨aw,h,by rw[aY,aY];omega⟩,aG,take_left]
 .rw[<-drop_drop,aG,drop_left]
structure u6(c S:ae):Prop where
 read:∀u,lU (S++u) c.length=some (c,S.length)
 lt:∀x∈S,x<256
structure u5(c S:ae):Prop where
 q:u6 c S
 len:S.length<=c.length+1
 first:S.length=c.length+1->S=0 :: c
theorem asa(l:ae)(t:ae×Nat)(h:hG l=some t):0<t.2:=by
 unfold hG at h;split at h
 .injection h with h
  subst h;dsimp only;omega
 .cases h
theorem apf(bs:ae)(n:Nat)(az:1<=n)(r:ae×Nat)(h:n6 bs n=some r):2<=r.2:=by
 cases bs with
 | nil=>cases h
 | cons k t=>
  by_cases am:k=0
  .subst am;rw[zP]at h;split at h
   .injection h with h
    subst h;dsimp only;omega
   .cases h
  .by_cases h1:k=1
   .subst h1;rw[zQ]at h;split at h
    .injection h with h
     subst h;exact Nat.le_refl _
    .cases h
   .by_cases af:k=2
    .subst af;rw[zR]at h;cases aG:ls t n with
     | none=>rw[aG]at h;cases h
     | some x=>
      rw[aG,map_some]at h;injection h with h
      subst h;unfold ls at aG;split at aG
      .cases aG
      .next p aw=>
       have ml:=asa _ p aw;split at aG
       .cases aG
       .next q hq=>
        split at aG
        .cases aG
        .next u hu=>
         cases he:iX u.1 u.2 q.1 (n:Int)with
         | none=>rw[he]at aG;cases aG
         | some c=>
          rw[he,map_some]at aG;injection aG with aG
          subst aG;dsimp only;omega
    .rw[B4 k t n (by omega)]at h;cases h
theorem OV(c S:ae)(h:u5 c S)(h1:c.length=1):S=0 :: c:=by
 apply h.first
 have aj:=h.q.read [];rw[append_nil,h1]at aj;unfold lU at aj;split at aj
 .cases aj
 .next r bS=>
  split at aj
  .injection aj with aj
   have af:=apf S 1 (by omega) r bS;have hl:=h.len;rw[aj]at af;dsimp only at af;omega
  .cases aj
theorem PR(bs:ae)(n:Nat)(c:ae)(k:Nat)(h:n6 bs n=some (c,k))(et:∀x∈c,x<28):lU bs n=some (c,k):=by
 unfold lU;rw[h];dsimp only;rw[aA et]
def kV(c:ae):ae:=0 :: c
def pD(c:ae):ae:=1 :: c.take 1
def vg(aG bQ:ae):ae:=2 :: (br aG.length++(aG++(br bQ.length++bQ)))
theorem ars(c:ae)(et:∀x∈c,x<28):u6 c (kV c):=by
 refine⟨λu=>PR _ _ _ _ ?_ et,λx ah=>?_⟩
 .show n6 (0 :: (c++u)) c.length=_;rw[zP,aA (by rw[aY];omega),take_left];simp[kV];omega
 .rcases List.mem_cons.1 ah with rfl | ah
  .omega
  .have:=et x ah;omega
theorem arm(c:ae)(et:∀x∈c,x<28)(h:gC (er c)=1):u6 c (pD c):=by
 obtain⟨x,e,am⟩:=OU c h;have aF:c.take 1=[x]:=by
  rw[e];obtain⟨n,az⟩:∃n,c.length=n+1:=⟨c.length-1,by omega⟩;rw[az];rfl
 have ah:x<28:=et x (by rw[e,mem_replicate];exact⟨by omega,rfl⟩);refine⟨λu=>PR _ _ _ _ ?_ et,λy hy=>?_⟩
 .unfold pD;rw[aF];show n6 (1 :: x :: u) c.length=_;rw[zQ,aA (by simp)];simp only[dR,b6,b1,length_nil];rw[<-e]
 .unfold pD at hy;rw[aF]at hy;simp at hy;omega
theorem Za:∀(l:ae) (x:Nat),x∈l->x<=l.sum
 | [],_,h=>by cases h
 | y :: l,x,h=>by
  rw[sum_cons];rcases List.mem_cons.1 h with rfl | h
  .omega
  .have:=Za l x h;omega
theorem aaT:∀(l:ae),(∀h:l≠[],0<l.getLast h)->cB l=l
 | [],_=>rfl
 | n :: l,h=>by
  have h1:=h (by simp);unfold cB;cases l with
  | nil=>
   simp at h1;rw[ay (by simp;omega)];rfl
  | cons m r=>
   have af:0<(m :: r).getLast (by simp):=by rw[getLast_cons (by simp)]at h1;exact h1
   have aq:(m :: r).getLast (by simp)<=(m :: r).sum:=Za _ _ (getLast_mem _);rw[ay (by omega),aaT (m :: r) (λ_=>af)]
theorem ajc(U:ae)(bW:Nat)(aL:ec U bW)(ap:cB U=U):headD (bytesOf (fE U bW).1 (((fE U bW).2+7)/8))=some (U,bW):=by
 have av:=ai4 U bW aL;obtain⟨e,he⟩:∃e,8*(((fE U bW).2+7)/8)=(fE U bW).2+e:=⟨8*(((fE U bW).2+7)/8)-(fE U bW).2,by omega⟩;have aC:=arP U bW 0 e aL;rw[Nat.zero_mul,ga,ap]at aC;have aE:bd (bytesOf (fE U bW).1 (((fE U bW).2+7)/8))=(fE U bW).1:=by
  rw[Fu,ib];exact mod_eq_of_lt (gV av (dD (by omega) (by omega)))
 unfold headD;rw[aE,bytesOf_length,he,aC];dsimp only;have ai8:e<8:=by omega
 have hend:qG (fE U bW).1 ((fE U bW).2+e) e=true:=by
  unfold qG;rw[Nat.add_sub_cancel];exact bG ⟨ai8,div_eq_of_lt av⟩
 rw[aA hend]
theorem arn(c U bQ:ae)(bW:Nat)(et:∀x∈c,x<28)(aL:ec U bW)(ap:cB U=U)(he:vm U bW c=some bQ)(np:bQ.length<=4096)(hb256:∀x∈bQ,x<256)(hL:c.length<=10000):u6 c (vg (bytesOf (fE U bW).1 (((fE U bW).2+7)/8)) bQ):=by
 have pd:=ajc U bW aL ap;have bz:=(VU U bW aL).2;have aG:=agU U bW aL c bQ (by omega) he;have hl:(bytesOf (fE U bW).1 (((fE U bW).2+7)/8)).length<=4096:=by rw[bytesOf_length];omega
 have av:∀x∈bytesOf (fE U bW).1 (((fE U bW).2+7)/8),x<256:=u9 _ _;generalize bytesOf (fE U bW).1 (((fE U bW).2+7)/8)=y2 at *;refine⟨λu=>PR _ _ _ _ ?_ et,λx ah=>?_⟩
 .show n6 (2 :: ((br y2.length++(y2++(br bQ.length++bQ)))++u)) c.length=_;have aF:(br y2.length++(y2++(br bQ.length++bQ)))++u=br y2.length++(y2++(br bQ.length++(bQ++u))):=by simp only[dj]
  rw[aF];obtain⟨t1,t2⟩:=Qa y2 (br bQ.length++(bQ++u)) hl;obtain⟨t3,t4⟩:=Qa bQ u np;rw[zR];unfold ls;rw[t1];dsimp only;rw[t2,t3];dsimp only;rw[pd];dsimp only;rw[aG];simp[vg];omega
 .unfold vg at ah;rcases List.mem_cons.1 ah with rfl | ah
  .omega
  rcases List.mem_append.1 ah with ah | ah
  .exact qr _ (by omega) x ah
  rcases List.mem_append.1 ah with ah | ah
  .exact av x ah
  rcases List.mem_append.1 ah with ah | ah
  .exact qr _ (by omega) x ah
  .exact hb256 x ah
def oi(s:fc):Prop:=0<=s.1/\s.1<=65535/\3<=s.2.1/\s.2.1<=65538/\1<=s.2.2/\s.2.2<=65533
instance (s:fc):Decidable (oi s):=by unfold oi;infer_instance
def xT(s:fc):dC:=(s.1.toNat,s.2.1.toNat,s.2.2.toNat)
def qL(r:Int×Int×Int)(s:fc):ae:=[s.1.toNat,(s.2.1-3).toNat,(ht r.1 r.2.1 r.2.2 s.2.2).toNat]
def cE:(Int×Int×Int)->List fc->List (ae)
 | _,[]=>[]
 | r,s :: l=>qL r s :: cE (hx r.1 r.2.1 r.2.2 s.2.2) l
def mT:(Int×Int×Int)->List fc->Int×Int×Int
 | r,[]=>r
 | r,s :: l=>mT (hx r.1 r.2.1 r.2.2 s.2.2) l
theorem ZA:∀(l:List fc) (r:Int×Int×Int) (s:fc),cE r (l++[s])=cE r l++[qL (mT r l) s]
 | [],_,_=>rfl
 | t :: l,r,s=>by
  rw[cons_append,cE,cE,mT,ZA l,cons_append]
theorem aal:∀(l:List fc) (r:Int×Int×Int) (s:fc),mT r (l++[s])=hx (mT r l).1 (mT r l).2.1 (mT r l).2.2 s.2.2
 | [],_,_=>rfl
 | t :: l,r,s=>by rw[cons_append,mT,mT,aal l]
theorem BV:∀(l:List fc) (r:Int×Int×Int),(cE r l).length=l.length
 | [],_=>rfl
 | t :: l,r=>by rw[cE,b1,b1,BV l]
def dT:ae->Nat×Nat
 | []=>(0,0)
 | v :: l=>(mj v+(dT l).1*2^ju v,ju v+(dT l).2)
theorem S9:∀(l:ae) (v:Nat),dT (l++[v])=((dT l).1+mj v*2^(dT l).2,(dT l).2+ju v)
 | [],v=>by simp[dT]
 | x :: l,v=>by
  rw[cons_append,dT,S9 l v,dT];dsimp only;rw[dM,Nat.add_mul,jb,Nat.mul_assoc,eQ (2^(dT l).2) (2^ju x),jb]
theorem OC(v:Nat):mj v<2^ju v:=by
 unfold mj ju;split
 .simp
 .exact mod_lt _ (Nat.pow_pos (by omega))
theorem S8:∀l:ae,(dT l).1<2^(dT l).2
 | []=>by simp[dT]
 | v :: l=>by
  have h:=S8 l;have hm:=OC v;show mj v+(dT l).1*2^ju v<2^(ju v+(dT l).2);rw[dM,eQ (2^ju v)];have aR:((dT l).1+1)*2^ju v<=2^(dT l).2*2^ju v:=mul_le_mul_right _ h;rw[Nat.add_mul,Nat.one_mul]at aR;omega
theorem Gt(l:ae)(h:∀v∈l,v<=65535):(dT l).2<=15*l.length:=by
 induction l with
 | nil=>simp[dT]
 | cons v l ih=>
  have h1:=(Dm v (h v ea)).2.2.1;have af:=ih (λx ah=>h x (ew _ ah));rw[dT,b1];dsimp only;omega
theorem LD(v:Nat)(h:v<=65535):fY (mH v)=ju v/\mH v<28:=by
 obtain⟨h1,_,aq,_⟩:=Dm v h;refine⟨?_,by omega⟩;unfold fY mH ju;by_cases eU:v<16
 .rw[aA eU,aA eU,aA eU]
 .obtain⟨k,vJ,_,_,_,hw⟩:=Qj v (by omega) h;rw[ay eU,ay eU,hw,ay (by omega)];omega
theorem amZ(v V:Nat)(h:v<=65535)(bY:V%2^ju v=mj v):n4 (mH v) V=v:=by
 have ap:=(Dm v h).2.2.2;obtain⟨he,et⟩:=LD v h;unfold n4;unfold n8 at ap;unfold fY at he;by_cases eU:mH v<16
 .rw[aA eU]at ap ⊢;split at ap
  .injection ap
  .cases ap
 .rw[ay eU]at ap he ⊢;rw[ay (by omega)]at ap;split at ap
  .injection ap with ap
   rw[he,bY,<-he];exact ap
  .cases ap
theorem ZB(l:ae)(m:Nat):∀vs:ae,(∀v∈vs,v<=65535)->ln (vs.map mH) (dT (vs++l)).1 ((dT (vs++l)).2+m)=some (vs,(dT l).1,(dT l).2+m)
 | [],_=>rfl
 | v :: vs,h=>by
  have aE:=h v ea;have ih:=ZB l m vs (λx ah=>h x (ew _ ah));obtain⟨he,et⟩:=LD v aE;have hm:=OC v;rw[map_cons,cons_append,dT,ln,he];dsimp only;have aF:(mj v+(dT (vs++l)).1*2^ju v)/2^ju v=(dT (vs++l)).1:=by
   rw[add_mul_div_right _ _ (Nat.pow_pos (by omega)),div_eq_of_lt hm,eH]
  have e2:(mj v+(dT (vs++l)).1*2^ju v)%2^ju v=mj v:=by
   rw[add_mul_mod_self_right,mod_eq_of_lt hm]
  rw[aA (by omega),aF,show ju v+(dT (vs++l)).2+m-ju v=(dT (vs++l)).2+m by omega,ih,amZ v _ aE e2];rfl
theorem Ij(a b c x:Int)(h1:1<=x)(af:x<=65533):0<=ht a b c x/\ht a b c x<=65535:=by
 unfold ht;rw[ay (by omega)];split
 .omega
 .split
  .omega
  .split<;>omega
theorem abQ(r:Int×Int×Int)(s:fc)(h:oi s):∀v∈qL r s,v<=65535:=by
 obtain⟨am,h1,af,aq,aJ,aR⟩:=h;have az:=Ij r.1 r.2.1 r.2.2 s.2.2 aJ aR;intro v aE;simp only[qL,mem_cons,not_mem_nil,or_false]at aE;rcases aE with rfl | rfl | rfl<;>omega
theorem BW:∀(l:List fc) (r:Int×Int×Int),(∀s∈l,oi s)->∀v∈(cE r l).flatten,v<=65535
 | [],_,_,v,aE=>by simp[cE]at aE
 | s :: l,r,h,v,aE=>by
  rw[cE,flatten_cons]at aE;rcases List.mem_append.1 aE with aE | aE
  .exact abQ r s (h s ea) v aE
  .exact BW l _ (λx ah=>h x (ew _ ah)) v aE
theorem Dy:∀(l:List fc) (r:Int×Int×Int),(cE r l).flatten.length=3*l.length
 | [],_=>rfl
 | s :: l,r=>by
  rw[cE,flatten_cons,aY,Dy l,b1];simp[qL];omega
theorem abd(m:Nat):∀(l:List fc) (r:Int×Int×Int),(∀s∈l,oi s) ->
  kb ((cE r l).map (List.map mH)) (dT (cE r l).flatten).1 ((dT (cE r l).flatten).2+m) r=some (l.map xT,0,m)
 | [],r,_=>by simp[cE,kb,dT]
 | s :: l,r,h=>by
  have ap:=h s ea;have ih:=abd m l (hx r.1 r.2.1 r.2.2 s.2.2) (λx ah=>h x (ew _ ah));obtain⟨am,h1,af,aq,aJ,aR⟩:=id ap;have az:=Ij r.1 r.2.1 r.2.2 s.2.2 aJ aR;have b8:=am6 r.1 r.2.1 r.2.2 s.2.2 az.1;rw[cE,map_cons,flatten_cons,kb,ZB _ m (qL r s) (abQ r s ap)];dsimp only;have e2:(((qL r s)[2]?.getD 0:Nat):Int)=ht r.1 r.2.1 r.2.2 s.2.2:=by
   simp only[qL,dU,dR,b6];omega
  rw[e2,b8];dsimp only;rw[ih,map_some,map_cons];have e3:((qL r s)[0]?.getD 0,(qL r s)[1]?.getD 0+3,s.2.2.toNat)=xT s:=by
   simp only[qL,dU,dR,b6,xT];rw[show(s.2.1-3).toNat+3=s.2.1.toNat by omega]
  rw[e3]
def gk(j:Nat)(N:List (ae)):ae:=N.map λvs=>mH (vs[j]?.getD 0)
def GJ(N:List (ae)):List (ae):=[gk 0 N,gk 1 N,gk 2 N]
theorem apT(l:List fc)(r:Int×Int×Int):jD (GJ (cE r l)) l.length=(cE r l).map (List.map mH):=by
 have hl:=BV l r;have aq:∀vs∈cE r l,vs.length=3:=by
  clear hl;induction l generalizing r with
  | nil=>intro vs h;simp[cE]at h
  | cons s l ih=>
   intro vs h;rw[cE]at h;rcases List.mem_cons.1 h with rfl | h
   .rfl
   .exact ih _ vs h
 generalize cE r l=N at *;apply ext_getElem
 .simp[jD,hl]
 .intro i h1 af;have ax:i<N.length:=by simpa using af
  have aE:=aq N[i] (b7 ax);simp only[jD,getElem_map,getElem_range,jM,GJ,gk,map_cons,map_nil,getElem?_map,bH ax,map_some,b6];generalize N[i]=vs at *;match vs,aE with
  | [a,b,c],_=>rfl
def kf(N:List (ae)):ae:=bytesOf (dT N.flatten).1 (((dT N.flatten).2+7)/8)
def pZ(n:Nat)(eg c6 fX bQ:ae):ae:=br n++(eg++(c6++(fX++(br bQ.length++bQ))))
structure De(l:List fc)(S:ae):Prop where
 read:∀u,iM (S++u) (l.length:Int)=some (l.map xT,S.length)
 lt:∀x∈S,x<256
 len:S.length<=10000
 one:l.length=1->S=pZ 1 (0 :: gk 0 (cE (1,2,4) l)) (0 :: gk 1 (cE (1,2,4) l)) (0 :: gk 2 (cE (1,2,4) l)) (kf (cE (1,2,4) l))
theorem aqv(l:List fc)(am:0<l.length)(hl:l.length<=700)(hm:∀s∈l,oi s)(eg c6 fX:ae)(h1:u5 (gk 0 (cE (1,2,4) l)) eg)(af:u5 (gk 1 (cE (1,2,4) l)) c6)(aq:u5 (gk 2 (cE (1,2,4) l)) fX) :
  De l (pZ l.length eg c6 fX (kf (cE (1,2,4) l))):=by
 have aw:∀j,(gk j (cE (1,2,4) l)).length=l.length:=λj=>by rw[gk,cQ,BV]
 have gO:=h1.q.read;have dc:=af.q.read;have hD:=aq.q.read;have g1:=h1.len;have g2:=af.len;have g3:=aq.len;rw[aw]at gO dc hD g1 g2 g3;have dY:(kf (cE (1,2,4) l)).length<=4096:=by
  have ie:=Gt _ (BW l (1,2,4) hm);have a2:=Dy l (1,2,4);rw[kf,bytesOf_length];omega
 have hb256:∀x∈kf (cE (1,2,4) l),x<256:=u9 _ _;have ajs:=yS l.length (by omega);have aQ:oO (GJ (cE (1,2,4) l)) l.length (kf (cE (1,2,4) l))=some (l.map xT):=by
  obtain⟨e,he⟩:∃e,8*(((dT (cE (1,2,4) l).flatten).2+7)/8)=(dT (cE (1,2,4) l).flatten).2+e:=⟨8*(((dT (cE (1,2,4) l).flatten).2+7)/8)-(dT (cE (1,2,4) l).flatten).2,by omega⟩;have aE:bd (kf (cE (1,2,4) l))=(dT (cE (1,2,4) l).flatten).1:=by
   rw[kf,Fu,ib];exact mod_eq_of_lt (gV (S8 _) (dD (by omega) (by omega)))
  have zj:8*(kf (cE (1,2,4) l)).length=(dT (cE (1,2,4) l).flatten).2+e:=by rw[kf,bytesOf_length,he]
  unfold oO;rw[apT,aE,zj,abd e l (1,2,4) hm];unfold sm;dsimp only;rw[aA ⟨by omega,rfl⟩]
 have hone:l.length=1->pZ l.length eg c6 fX (kf (cE (1,2,4) l))=pZ 1 (0 :: gk 0 (cE (1,2,4) l)) (0 :: gk 1 (cE (1,2,4) l)) (0 :: gk 2 (cE (1,2,4) l)) (kf (cE (1,2,4) l)):=λh=>by
  rw[OV _ _ h1 (by rw[aw,h]),OV _ _ af (by rw[aw,h]),OV _ _ aq (by rw[aw,h]),h]
 generalize np:kf (cE (1,2,4) l)=bQ at *;refine⟨λu=>?_,λx ah=>?_,?_,λh=>by rw[np];exact hone h⟩
 .have aF:pZ l.length eg c6 fX bQ++u=br l.length++(eg++(c6++(fX++(br bQ.length++(bQ++u))))):=by simp only[pZ,dj]
  have aG:(br l.length++(eg++(c6++(fX++(br bQ.length++(bQ++u)))))).drop (br l.length).length=eg++(c6++(fX++(br bQ.length++(bQ++u)))):=drop_left;unfold iM;rw[aF,xi l.length _ (by omega)];dsimp only;rw[aA ⟨ajs,Int.le_refl _,by omega⟩,ay (by omega),aG];have sT:hE 3 (eg++(c6++(fX++(br bQ.length++(bQ++u))))) l.length=some (GJ (cE (1,2,4) l),eg.length+(c6.length+(fX.length+0))):=by
   rw[hE,gO];dsimp only;rw[drop_left,hE,dc];dsimp only;rw[drop_left,hE,hD];rfl
  rw[sT];dsimp only;have sC:(eg++(c6++(fX++(br bQ.length++(bQ++u))))).drop (eg.length+(c6.length+(fX.length+0)))=br bQ.length++(bQ++u):=by
   rw[<-drop_drop,drop_left,<-drop_drop,drop_left,ga,drop_left]
  rw[sC,(Qa bQ u dY).1];dsimp only;rw[aQ];simp only[map_some,pZ,aY];congr 2
  omega
 .unfold pZ at ah;rcases List.mem_append.1 ah with ah | ah
  .exact qr _ (by omega) x ah
  rcases List.mem_append.1 ah with ah | ah
  .exact h1.q.lt x ah
  rcases List.mem_append.1 ah with ah | ah
  .exact af.q.lt x ah
  rcases List.mem_append.1 ah with ah | ah
  .exact aq.q.lt x ah
  rcases List.mem_append.1 ah with ah | ah
  .exact qr _ (by omega) x ah
  .exact hb256 x ah
 .have t1:=nS l.length (by omega);have t2:=nS bQ.length (by omega);simp only[pZ,aY];omega
theorem aqs(l:List fc)(h:l=[]):De l [0]:=by
 subst h;refine⟨λu=>?_,λx ah=>by simp at ah;omega,by simp,λh=>by simp at h⟩;have e:aW ([0]++u)=(0,1):=by
  have h1:=xi 0 u (by omega);have af:br 0=[0]:=tQ 0 (by omega);rw[af]at h1;exact h1
 unfold iM;rw[e];simp
theorem z6(l:ae)(t:ae×Nat)(h:hG l=some t):0<t.2/\t.2<=l.length/\t.1.length<=4096/\∀x∈t.1,x∈l:=by
 unfold hG at h;split at h
 .next hc=>
  injection h with h
  subst h;have hk:=(sn l _ _ hc.1 rfl).2.2;exact⟨by dsimp only;omega,by dsimp only;omega,by rw[cq];omega,λx ah=>mem_of_mem_drop (mem_of_mem_take ah)⟩
 .cases h
theorem xW:∀l:ae,∃m,l=cB l++List.replicate m 0
 | []=>⟨0,rfl⟩
 | n :: l=>by
  unfold cB;split
  .next h=>
   obtain⟨m,hm⟩:=xW l;have ap:cB l=[]:=by
    cases l with
    | nil=>rfl
    | cons a YL=>unfold cB;rw[aA (by rw[sum_cons]at h;omega)]
   rw[ap,nil_append]at hm;refine⟨m+1,?_⟩;rw[nil_append,replicate_succ,<-hm,show n=0 by omega]
  .obtain⟨m,hm⟩:=xW l;exact⟨m,by rw[cons_append,<-hm]⟩
theorem short_zero(l:ae)(h:cB l=[]):∀x∈l,x=0:=by
 obtain⟨m,hm⟩:=xW l;rw[h,nil_append]at hm;intro x ah;rw[hm]at ah;exact(List.mem_replicate.1 ah).2
theorem aaU:∀l:ae,cB (cB l)=cB l
 | []=>rfl
 | n :: l=>by
  by_cases h:n+l.sum=0
  .rw[cB,aA h];rfl
  .rw[cB,ay h,cB];obtain⟨m,hm⟩:=xW l;have ap:(cB l).sum=l.sum:=by
    have:=congrArg List.sum hm;rw[sum_append_nat,sum_replicate_nat,Nat.mul_zero,ga]at this;exact this.symm
   rw[ap,ay h,aaU l]
theorem aly(l:ae)(m:Nat):fF (l++List.replicate m 0)=fF l/\jm (l++List.replicate m 0)=jm l:=by
 constructor
 .unfold fF;rw[map_append,sum_append_nat,map_replicate,sum_replicate_nat];simp[fl]
 .unfold jm;rw[countP_append,countP_replicate];simp
theorem Jb(l:ae)(h:fw l):fw (cB l)/\0<(cB l).length:=by
 obtain⟨m,hm⟩:=xW l;obtain⟨h1,af,aq⟩:=h;have e:=aly (cB l) m;rw[<-hm]at e;refine⟨⟨?_,λx ah=>af x (by rw[hm];exact mem_append_left _ ah),?_⟩,?_⟩
 .have:=congrArg List.length hm;rw[aY]at this;omega
 .rw[<-e.1,<-e.2];exact aq
 .rcases eq_zero_or_pos (cB l).length with am | am
  .have aJ:=lq am;have aR:fF l=0:=by rw[e.1,aJ];rfl
   omega
  .exact am
def lS(l:ae)(k:Nat):Nat:=l[2*k]?.getD 0+16*l[2*k+1]?.getD 0
def gY(l:ae):ae:=(l.length-1) :: (List.range ((l.length+1)/2)).map (lS l)
theorem x1(l:ae):(gY l).length=1+(l.length+1)/2:=by simp[gY];omega
theorem Dz{l:ae}{b:Nat}(h:∀x∈l,x<=b)(i:Nat):l[i]?.getD 0<=b:=by
 cases e:l[i]? with
 | none=>simp
 | some x=>exact h x (mem_of_getElem? e)
theorem ZR{l:ae}(h:∀x∈l,x<=11)(k:Nat):lS l k<=187:=by
 have h1:=Dz h (2*k);have af:=Dz h (2*k+1);unfold lS;omega
theorem Fl(l:ae)(h:∀x∈l,x<=11)(hl:l.length<=256):∀x∈gY l,x<256:=by
 intro x ah;unfold gY at ah;rcases List.mem_cons.1 ah with rfl | ah
 .omega
 .obtain⟨k,_,rfl⟩:=List.mem_map.1 ah;have:=ZR h k;omega
def oH(bs:ae)(i:Nat):Nat:=if i%2=1 then bs[1+i/2]?.getD 0/16%16 else bs[1+i/2]?.getD 0%16
def fH(bs:ae)(n:Nat):ae:=(List.range n).map (oH bs)
theorem zK(bs:ae)(n:Nat):(fH bs n).length=n:=by simp[fH]
theorem Zq(bs:ae)(n:Nat):fH bs (n+1)=fH bs n++[oH bs n]:=by simp[fH,range_succ]
def jc(bs:ae):Option (ae×Nat):=
 if bs=[]then none else
 if bs.length<1+(bs[0]?.getD 0+2)/2 then none else
 if fw (fH bs (bs[0]?.getD 0+1))/\gY (cB (fH bs (bs[0]?.getD 0+1)))=bs.take (1+(bs[0]?.getD 0+2)/2)then some (fH bs (bs[0]?.getD 0+1),1+(bs[0]?.getD 0+2)/2)else none
theorem Pm(bs l:ae)(n:Nat)(h:jc bs=some (l,n)):n<=bs.length/\0<n/\l.length<=bs[0]?.getD 0+1:=by
 unfold jc at h;split at h
 .cases h
 .split at h
  .cases h
  .split at h
   .injection h with h
    injection h with h1 af
    subst h1 af;rw[zK];omega
   .cases h
theorem amQ(l rest:ae)(h:∀x∈l,x<=11):fH (gY l++rest) l.length=l:=by
 apply ext_getElem
 .rw[zK]
 .intro i h1 af;rw[zK]at h1;have hk:i/2<(l.length+1)/2:=by omega
  have e:(gY l++rest)[1+i/2]?.getD 0=lS l (i/2):=by
   rw[hZ (by rw[x1];omega),Nat.add_comm,gY,dU,getElem?_map,getElem?_range hk];rfl
  have g1:=Dz h (2*(i/2));have g2:=Dz h (2*(i/2)+1);have e2:l[i]=l[i]?.getD 0:=by rw[bH af,b6]
  simp only[fH,getElem_map,getElem_range];rw[oH,e,e2];unfold lS;split
  .next b8=>
   rw[show 2*(i/2)+1=i by omega]at g2 ⊢;omega
  .next b8=>
   rw[show 2*(i/2)=i by omega]at g1 g2 ⊢;omega
theorem ape(l rest:ae)(h:fw l):jc (gY (cB l)++rest)=some (cB l,(gY (cB l)).length):=by
 obtain⟨h1,af⟩:=Jb l h;have e0:(gY (cB l)++rest)[0]?.getD 0=(cB l).length-1:=by
  rw[hZ (by rw[x1];omega)];rfl
 have az:=amQ (cB l) rest h1.2.1;have hl:(gY (cB l)).length=1+((cB l).length+1)/2:=x1 _;have aF:(cB l).length-1+1=(cB l).length:=by omega
 have e2:1+((cB l).length-1+2)/2=(gY (cB l)).length:=by rw[hl];omega
 unfold jc;rw[e0,aF,e2,az,aaU,take_left,ay (by intro e;have:=congrArg List.length e;rw[aY,length_nil]at this;omega),ay (by rw[aY];omega),aA ⟨h1,rfl⟩]
def nN(U t:ae)(n:Nat):Option (ae×Nat):=
 if 0<(aW t).2/\(aW t).1<=t.length-(aW t).2 then(oq U ((t.drop (aW t).2).take (aW t).1) n).map λb=>(b,(aW t).2+(aW t).1)else none
def fx(k n:Nat)(t:ae):Option (ae×Nat):=
 if k=0 then(if n<=t.length then some (t.take n,n)else none)
 else if k=1 then(if 0<t.length then some (List.replicate n (t[0]?.getD 0),1)else none)
 else if k=2 then(match jc t with
  | none=>none
  | some p=>(nN p.1 (t.drop p.2) n).map λq=>(q.1,p.2+q.2))
 else none
def jv(bs:ae)(most:Int):Option (ae×Nat):=
 match bs with
 | []=>none
 | k :: r=>if 0<(aW r).2/\((aW r).1:Int)<=most/\(aW r).1<=1048576 then(fx k (aW r).1 (r.drop (aW r).2)).map λq=>(q.1,1+(aW r).2+q.2)else none
theorem xh(p q:ae)(h:0<(aW p).2):aW (p++q)=aW p/\(aW p).2<=p.length:=by
 obtain⟨v,k,e⟩:∃v k,aW p=(v,k):=⟨_,_,rfl⟩;rw[e]at h ⊢;obtain⟨h1,af,aq⟩:=sn p v k h e;refine⟨?_,aq⟩;have e2:p++q=br v++(p.drop k++q):=by rw[<-dj,<-af,gA]
 rw[e2,xi v _ h1,<-af,cq,Nat.min_eq_left aq]
theorem amM(p q:ae)(i:Nat)(h:1+i/2<p.length):oH (p++q) i=oH p i:=by
 unfold oH;rw[hZ h]
theorem ao9(p q:ae)(t:ae×Nat)(h:jc p=some t):jc (p++q)=some t:=by
 unfold jc at h ⊢;split at h
 .cases h
 .next h1=>
  split at h
  .cases h
  .next af=>
   have am:0<p.length:=List.length_pos_iff.2 h1;have e0:(p++q)[0]?.getD 0=p[0]?.getD 0:=by rw[hZ am]
   have Dt:fH (p++q) (p[0]?.getD 0+1)=fH p (p[0]?.getD 0+1):=by
    refine map_congr_left λi ax=>amM p q i ?_
    have:=List.mem_range.1 ax;omega
   have ahv:(p++q).take (1+(p[0]?.getD 0+2)/2)=p.take (1+(p[0]?.getD 0+2)/2):=take_append_of_le_length (by omega);rw[ay (by simp[h1]),e0,ay (by rw[aY];omega),Dt,ahv];exact h
theorem agm(U t u:ae)(n:Nat)(r:ae×Nat)(h:nN U t n=some r):nN U (t++u) n=some r/\r.2<=t.length:=by
 unfold nN at h ⊢;split at h
 .next hc=>
  obtain⟨e,hle⟩:=xh t u hc.1;rw[e,aA ⟨hc.1,by rw[aY];omega⟩,drop_append_of_le_length hle,take_append_of_le_length (by rw[cC];exact hc.2)];refine⟨h,?_⟩;cases aG:oq U ((t.drop (aW t).2).take (aW t).1) n with
  | none=>rw[aG]at h;cases h
  | some b=>
   rw[aG]at h;injection h with h
   subst h;show(aW t).2+(aW t).1<=t.length;omega
 .cases h
theorem afw(k n:Nat)(t u:ae)(r:ae×Nat)(h:fx k n t=some r):fx k n (t++u)=some r/\r.2<=t.length:=by
 unfold fx at h ⊢;by_cases am:k=0
 .rw[aA am]at h ⊢;by_cases az:n<=t.length
  .rw[aA az]at h;rw[aA (by rw[aY];omega),take_append_of_le_length az];injection h with h
   subst h;exact⟨rfl,az⟩
  .rw[ay az]at h;cases h
 .rw[ay am]at h ⊢;by_cases h1:k=1
  .rw[aA h1]at h ⊢;by_cases az:0<t.length
   .rw[aA az]at h;rw[aA (by rw[aY];omega),hZ az];injection h with h
    subst h;exact⟨rfl,az⟩
   .rw[ay az]at h;cases h
  .rw[ay h1]at h ⊢;by_cases af:k=2
   .rw[aA af]at h ⊢;cases aj:jc t with
    | none=>rw[aj]at h;cases h
    | some p=>
     rw[aj]at h;dsimp only at h;have aw:=(Pm t p.1 p.2 aj).1;cases hc:nN p.1 (t.drop p.2) n with
     | none=>rw[hc]at h;cases h
     | some q=>
      rw[hc]at h;injection h with h
      subst h;obtain⟨aF,e2⟩:=agm p.1 (t.drop p.2) u n q hc;rw[ao9 t u p aj];dsimp only;rw[drop_append_of_le_length aw,aF];rw[cC]at e2;refine⟨rfl,?_⟩;show p.2+q.2<=t.length;omega
   .rw[ay af]at h;cases h
theorem Lp(p u:ae)(m:Int)(r:ae×Nat)(h:jv p m=some r):jv (p++u) m=some r/\r.2<=p.length:=by
 cases p with
 | nil=>cases h
 | cons k t=>
  rw[cons_append];unfold jv at h ⊢;dsimp only at h ⊢;split at h
  .next hc=>
   obtain⟨e,hle⟩:=xh t u hc.1;rw[e,aA hc,drop_append_of_le_length hle];cases ak:fx k (aW t).1 (t.drop (aW t).2)with
   | none=>rw[ak]at h;cases h
   | some q=>
    rw[ak]at h;injection h with h
    subst h;obtain⟨aF,e2⟩:=afw k _ _ u q ak;rw[aF];rw[cC]at e2;refine⟨rfl,?_⟩;rw[b1];show 1+(aW t).2+q.2<=_;omega
  .cases h
theorem agS(E:ae)(m:Int)(x:ae)(h:jv E m=some (x,E.length))(j:Nat)(ar:j<E.length):jv (E.take j) m=none:=by
 cases hc:jv (E.take j) m with
 | none=>rfl
 | some r=>
  obtain⟨h1,af⟩:=Lp (E.take j) (E.drop j) m r hc;rw[gA,h]at h1;injection h1 with h1
  subst h1;rw[cq]at af;dsimp only at af;omega
theorem Lq(k n:Nat)(t x:ae)(az:n<=1048576)(ak:fx k n t=some (x,t.length)):jv (k :: (br n++t)) (n:Int)=some (x,(k :: (br n++t)).length):=by
 unfold jv;dsimp only;rw[xi n t (by omega)];dsimp only;rw[aA ⟨yS n (by omega),Int.le_refl _,az⟩,drop_left,ak,map_some,b1,aY];dsimp only;rw[show 1+(br n).length+t.length=(br n).length+t.length+1 by omega]
theorem afA(s:ae):fx 0 s.length s=some (s,s.length):=by
 unfold fx;rw[aA rfl,aA bh,take_length]
theorem afy(x n:Nat):fx 1 n [x]=some (List.replicate n x,1):=by
 unfold fx;rw[ay (by decide),aA rfl,aA (show 0<[x].length by simp)];rfl
theorem afz(U c s:ae)(bg:fw U)(ap:cB U=U)(he:q7 U s=some c)(hc:c.length<2^64) :
  fx 2 s.length (gY U++(br c.length++c))=some (s,(gY U++(br c.length++c)).length):=by
 have h1:=ape U (br c.length++c) bg;rw[ap]at h1;unfold fx;rw[ay (by decide),ay (by decide),aA rfl,h1];dsimp only;rw[drop_left];unfold nN;rw[xi _ _ hc];dsimp only;rw[aA ⟨yS _ hc,by rw[aY];omega⟩,drop_left,take_length,agV U s c bg he,map_some,map_some];simp only[aY]
def yK(s E:ae):Prop:=(∃k t,E=k :: (br s.length++t))/\(∀x∈E,x<256)/\E.length<=1+(br s.length).length+s.length/\jv E (s.length:Int)=some (s,E.length)
def rC(s:ae):ae:=0 :: (br s.length++s)
def Dh(s:ae):ae:=1 :: (br s.length++s.take 1)
theorem aad(s:ae):(rC s).length=1+(br s.length).length+s.length:=by rw[rC,b1,aY];omega
theorem B7(k n:Nat)(t:ae)(hk:k<256)(az:n<2^64)(aC:∀x∈t,x<256):∀x∈k :: (br n++t),x<256:=by
 intro x ah;rcases List.mem_cons.1 ah with rfl | ah
 .exact hk
 .rcases List.mem_append.1 ah with ah | ah
  .exact qr n az x ah
  .exact aC x ah
theorem aqt(s:ae)(av:∀x∈s,x<256)(az:s.length<=1048576):yK s (rC s):=
 ⟨⟨0,s,rfl⟩,B7 0 _ s (by decide) (by omega) av,by rw[aad];exact Nat.le_refl _,Lq 0 s.length s s az (afA s)⟩
theorem aqn(s:ae)(av:∀x∈s,x<256)(az:s.length<=1048576)(h:gC (er s)=1):yK s (Dh s):=by
 obtain⟨x,e,am⟩:=OU s h;have aF:s.take 1=[x]:=by
  rw[e,take_replicate,Nat.min_eq_left (by omega)];rfl
 have ah:x<256:=av x (by rw[e];exact List.mem_replicate.2 ⟨by omega,rfl⟩);refine⟨⟨1,s.take 1,rfl⟩,B7 1 _ _ (by decide) (by omega) (λy hy=>av y (mem_of_mem_take hy)),?_,?_⟩
 .rw[Dh,aF,b1,aY,b1,length_nil];omega
 .have ak:=afy x s.length;rw[<-e,<-aF]at ak;refine Lq 1 s.length (s.take 1) s az ?_;rw[ak,aF];rfl
def ni(U c s:ae):ae:=2 :: (br s.length++(gY U++(br c.length++c)))
theorem aqo(U c s:ae)(az:s.length<=1048576)(bg:fw U)(ap:cB U=U)(he:q7 U s=some c)(hc:c.length<=1000000000)(hc256:∀x∈c,x<256)(hle:(ni U c s).length<(rC s).length):yK s (ni U c s):=by
 refine⟨⟨2,_,rfl⟩,B7 2 _ _ (by decide) (by omega) (λx ah=>?_),?_,Lq 2 s.length _ s az (afz U c s bg ap he (by omega))⟩
 .rcases List.mem_append.1 ah with ah | ah
  .exact Fl U bg.2.1 bg.1 x ah
  .rcases List.mem_append.1 ah with ah | ah
   .exact qr _ (by omega) x ah
   .exact hc256 x ah
 .rw[aad]at hle;omega
theorem Pn(bs:ae)(t:ae×Nat)(h:jc bs=some t):fw t.1:=by
 unfold jc at h;split at h
 .cases h
 .split at h
  .cases h
  .split at h
   .next hc=>
    injection h with h
    subst h;exact hc.1
   .cases h
end ao
namespace ao
theorem P6(p u:ae)(r:ae×Nat)(h:hG p=some r):hG (p++u)=some r/\r.2<=p.length:=by
 refine⟨?_,(z6 p r h).2.1⟩;unfold hG at h ⊢;split at h
 .next hc=>
  obtain⟨e,hl⟩:=xh p u hc.1;rw[e,aA ⟨hc.1,hc.2.1,by rw[aY];omega⟩,<-h];generalize (aW p).1=n at *;generalize (aW p).2=k at *;rw[drop_append_of_le_length hl,take_append_of_le_length (by rw[cC];omega)]
 .cases h
theorem AZ(p u:ae)(k:Nat)(h:k<=p.length):(p++u).drop k=p.drop k++u:=drop_append_of_le_length h
theorem aqC(p u:ae)(n:Nat)(r:ae×Nat)(h:ls p n=some r):ls (p++u) n=some r/\r.2<=p.length:=by
 unfold ls at h ⊢;cases h1:hG p with
 | none=>rw[h1]at h;cases h
 | some a=>
  obtain⟨aF,ca⟩:=P6 p u a h1;rw[h1]at h;rw[aF];dsimp only at h ⊢;rw[AZ p u a.2 ca];cases af:hG (p.drop a.2)with
  | none=>rw[af]at h;cases h
  | some b=>
   obtain⟨e2,cT⟩:=P6 (p.drop a.2) u b af;rw[af]at h;rw[e2];dsimp only at h ⊢;refine⟨h,?_⟩;rw[cC]at cT;split at h
   .cases h
   .next aG _=>
    cases aq:iX aG.1 aG.2 b.1 (n:Int)with
    | none=>rw[aq]at h;cases h
    | some c=>
     rw[aq]at h;injection h with h
     subst h;show a.2+b.2<=_;omega
theorem abh(p u:ae)(n:Nat)(r:ae×Nat)(h:lU p n=some r):lU (p++u) n=some r/\r.2<=p.length:=by
 have key:∀r,n6 p n=some r->n6 (p++u) n=some r/\r.2<=p.length:=by
  intro r h;cases p with
  | nil=>cases h
  | cons k t=>
   rw[cons_append];rcases eP 2 k with aq | aq
   .rw[B4 k t n aq]at h;cases h
   .rcases(by omega:k=0\/k=1\/k=2)with rfl | rfl | rfl
    .rw[zP]at h ⊢;split at h
     .next hc=>
      injection h with h
      subst h;rw[aA (by rw[aY];omega),take_append_of_le_length hc];exact⟨rfl,by show 1+n<=_;rw[b1];omega⟩
     .cases h
    .rw[zQ]at h ⊢;split at h
     .next hc=>
      injection h with h
      subst h;rw[aA (by rw[aY];omega),hZ hc];exact⟨rfl,by show 2<=_;rw[b1];omega⟩
     .cases h
    .rw[zR]at h ⊢;cases ap:ls t n with
     | none=>rw[ap]at h;cases h
     | some q=>
      obtain⟨e,l⟩:=aqC t u n q ap;rw[ap]at h;injection h with h
      subst h;rw[e];exact⟨rfl,by show 1+q.2<=_;rw[b1];omega⟩
 unfold lU at h ⊢;cases aj:n6 p n with
 | none=>rw[aj]at h;cases h
 | some q=>
  obtain⟨e,l⟩:=key q aj;rw[aj]at h;rw[e];dsimp only at h ⊢;refine⟨h,?_⟩;split at h
  .injection h with h
   subst h;exact l
  .cases h
theorem abn(u:ae)(n:Nat):∀(k:Nat) (p:ae) (r:List (ae)×Nat),hE k p n=some r->hE k (p++u) n=some r
 | 0,_,_,h=>h
 | k+1,p,r,h=>by
  unfold hE at h ⊢;cases ap:lU p n with
  | none=>rw[ap]at h;cases h
  | some q=>
   obtain⟨e,l⟩:=abh p u n q ap;rw[ap]at h;rw[e];dsimp only at h ⊢;rw[AZ p u q.2 l];cases hq:hE k (p.drop q.2) n with
   | none=>rw[hq]at h;cases h
   | some t=>
    rw[hq]at h;rw[abn u n k (p.drop q.2) t hq];exact h
theorem PS(n:Nat):∀(k:Nat) (bs:ae) (r:List (ae)×Nat),hE k bs n=some r->r.2<=bs.length
 | 0,bs,r,h=>by
  injection h with h
  subst h;exact zero_le _
 | k+1,bs,r,h=>by
  unfold hE at h;cases ap:lU bs n with
  | none=>rw[ap]at h;cases h
  | some q=>
   rw[ap]at h;dsimp only at h;cases hq:hE k (bs.drop q.2) n with
   | none=>rw[hq]at h;cases h
   | some p=>
    rw[hq]at h;injection h with h
    subst h;have h1:=(abh bs [] n q ap).2;have af:=PS n k _ p hq;rw[cC]at af;show q.2+p.2<=bs.length;omega
theorem abf:∀(l:List (ae)) (V L:Nat) (r:Int×Int×Int) (q:List dC×Nat×Nat),kb l V L r=some q->q.1.length=l.length
 | [],V,L,r,q,h=>by
  injection h with h
  subst h;rfl
 | c :: l,V,L,r,q,h=>by
  unfold kb at h;cases ap:ln c V L with
  | none=>rw[ap]at h;cases h
  | some t=>
   rw[ap]at h;dsimp only at h;cases b8:ka r.1 r.2.1 r.2.2 ((t.1[2]?.getD 0:Nat):Int)with
   | none=>rw[b8]at h;cases h
   | some x=>
    rw[b8]at h;dsimp only at h;cases hq:kb l t.2.1 t.2.2 (hx r.1 r.2.1 r.2.2 x)with
    | none=>rw[hq]at h;cases h
    | some p=>
     rw[hq]at h;injection h with h
     subst h;have:=abf l _ _ _ p hq;simp[this]
theorem PA(bs:ae)(most:Int)(t:List dC×Nat)(h:iM bs most=some t):0<t.2/\t.2<=bs.length/\t.1.length<=1000:=by
 unfold iM at h;split at h
 .next hc=>
  have hk:(aW bs).2<=bs.length:=(sn bs _ _ hc.1 rfl).2.2;generalize (aW bs).1=n at *;generalize (aW bs).2=k at *;split at h
  .injection h with h
   subst h;exact⟨hc.1,hk,zero_le _⟩
  .next az=>
   cases ap:hE 3 (bs.drop k) n with
   | none=>rw[ap]at h;cases h
   | some p=>
    rw[ap]at h;dsimp only at h;cases ah:hG ((bs.drop k).drop p.2)with
    | none=>rw[ah]at h;cases h
    | some q=>
     rw[ah]at h;dsimp only at h;cases hl:oO p.1 n q.1 with
     | none=>rw[hl]at h;cases h
     | some l=>
      rw[hl]at h;injection h with h
      subst h;have h1:=PS n 3 _ p ap;have af:=(z6 _ q ah).2.1;rw[cC]at h1 af;rw[cC]at af;have aq:l.length=n:=by
       unfold oO sm at hl;split at hl
       .cases hl
       .next z aO=>
        have aJ:=abf _ _ _ _ _ aO;split at hl
        .injection hl with hl
         rw[<-hl,aJ];simp[jD]
        .cases hl
      refine⟨?_,?_,?_⟩
      .show 0<k+p.2+q.2;omega
      .show k+p.2+q.2<=bs.length;omega
      .show l.length<=1000;omega
 .cases h
theorem aaK(p u:ae)(m:Int)(r:List dC×Nat)(h:iM p m=some r):iM (p++u) m=some r:=by
 unfold iM at h ⊢;split at h
 .next hc=>
  obtain⟨e,hk⟩:=xh p u hc.1;rw[e,aA hc,AZ p u _ hk];generalize (aW p).1=n at *;generalize (aW p).2=k at *;split at h
  .next az=>rw[aA az];exact h
  .next az=>
   rw[ay az];cases ap:hE 3 (p.drop k) n with
   | none=>rw[ap]at h;cases h
   | some q=>
    have hl:=PS n 3 _ q ap;rw[ap]at h;rw[abn u n 3 _ q ap];dsimp only at h ⊢;rw[AZ _ u q.2 hl];cases ah:hG ((p.drop k).drop q.2)with
    | none=>rw[ah]at h;cases h
    | some x=>
     rw[ah]at h;rw[(P6 _ u x ah).1];exact h
 .cases h
theorem aqp(S:ae)(m:Int)(l:List dC)(h:iM S m=some (l,S.length))(j:Nat)(ar:j<S.length):iM (S.take j) m=none:=by
 cases hc:iM (S.take j) m with
 | none=>rfl
 | some r=>
  have h1:=aaK (S.take j) (S.drop j) m r hc;have af:=(PA (S.take j) m r hc).2.1;rw[gA,h]at h1;injection h1 with h1
  subst h1;rw[cq]at af;dsimp only at af;omega
theorem aqu(S:ae)(m n:Int)(ue:m<=n)(r:List dC×Nat)(h:iM S m=some r):iM S n=some r:=by
 unfold iM at h ⊢;split at h
 .next hc=>rw[aA ⟨hc.1,Int.le_trans hc.2.1 ue,hc.2.2⟩];exact h
 .cases h
theorem am1(c V:Nat)(h:c<28):n4 c V<=65535:=by
 unfold n4;split
 .omega
 .have h1:2^(c-12)<=2^15:=dD (by omega) (by omega);have af:V%2^(c-12)<2^(c-12):=mod_lt _ (Nat.pow_pos (by omega));omega
theorem ZC:∀(ag:ae) (V L:Nat) (t:ae×Nat×Nat),(∀x∈ag,x<28)->ln ag V L=some t->∀v∈t.1,v<=65535
 | [],V,L,t,_,h=>by
  injection h with h
  subst h;intro v aE;cases aE
 | c :: ag,V,L,t,hc,h=>by
  unfold ln at h;split at h
  .cases hq:ln ag (V/2^fY c) (L-fY c)with
   | none=>rw[hq]at h;cases h
   | some q=>
    rw[hq]at h;injection h with h
    subst h;intro v aE;rcases List.mem_cons.1 aE with rfl | aE
    .exact am1 c V (hc c ea)
    .exact ZC ag _ _ q (λx ah=>hc x (ew _ ah)) hq v aE
  .cases h
theorem LO(l:ae)(i:Nat)(h:∀v∈l,v<=65535):l[i]?.getD 0<=65535:=by
 rcases eP i l.length with h1 | h1
 .rw[bH h1];exact h _ (b7 h1)
 .rw[getElem?_eq_none h1];exact zero_le _
theorem abg:∀(l:List (ae)) (V L:Nat) (r:Int×Int×Int) (q:List dC×Nat×Nat),(∀c∈l,∀x∈c,x<28)->r.1<=65535->r.2.1<=65535->r.2.2<=65535->kb l V L r=some q->∀s∈q.1,s.1<=65538/\s.2.1<=65538/\s.2.2<=65538
 | [],V,L,r,q,_,_,_,_,h=>by
  injection h with h
  subst h;intro s ap;cases ap
 | c :: l,V,L,r,q,hc,am,h1,af,h=>by
  unfold kb at h;cases ap:ln c V L with
  | none=>rw[ap]at h;cases h
  | some t=>
   have aC:=ZC c V L t (hc c ea) ap;rw[ap]at h;dsimp only at h;cases b8:ka r.1 r.2.1 r.2.2 ((t.1[2]?.getD 0:Nat):Int)with
   | none=>rw[b8]at h;cases h
   | some x=>
    have ah:x<=65535:=by
     have aq:=LO t.1 2 aC;unfold ka at b8;split at b8
     .cases b8
     .split at b8
      .injection b8 with b8
       rw[<-b8];unfold kl;split
       .omega
       .split
        .exact am
        .split
         .exact h1
         .exact af
      .cases b8
    rw[b8]at h;dsimp only at h;cases hq:kb l t.2.1 t.2.2 (hx r.1 r.2.1 r.2.2 x)with
    | none=>rw[hq]at h;cases h
    | some p=>
     have ak:(hx r.1 r.2.1 r.2.2 x).1<=65535/\(hx r.1 r.2.1 r.2.2 x).2.1<=65535/\(hx r.1 r.2.1 r.2.2 x).2.2<=65535:=by
      unfold hx;split
      .exact⟨ah,h1,af⟩
      .split
       .exact⟨ah,am,af⟩
       .exact⟨ah,am,h1⟩
     rw[hq]at h;injection h with h
     subst h;intro s ap;rcases List.mem_cons.1 ap with rfl | ap
     .have aq:=LO t.1 0 aC;have aJ:=LO t.1 1 aC;refine⟨?_,?_,?_⟩
      .dsimp only;omega
      .dsimp only;omega
      .dsimp only;omega
     .exact abg l _ _ _ p (λc re=>hc c (ew _ re)) ak.1 ak.2.1 ak.2.2 hq s ap
theorem abo(n:Nat):∀(k:Nat) (bs:ae) (r:List (ae)×Nat),hE k bs n=some r->∀c∈r.1,∀x∈c,x<28
 | 0,bs,r,h=>by
  injection h with h
  subst h;intro c hc;cases hc
 | k+1,bs,r,h=>by
  unfold hE at h;cases ap:lU bs n with
  | none=>rw[ap]at h;cases h
  | some q=>
   rw[ap]at h;dsimp only at h;cases hq:hE k (bs.drop q.2) n with
   | none=>rw[hq]at h;cases h
   | some p=>
    rw[hq]at h;injection h with h
    subst h;intro c hc;rcases List.mem_cons.1 hc with rfl | hc
    .unfold lU at ap;split at ap
     .cases ap
     .split at ap
      .next et=>injection ap with ap;subst ap;exact et
      .cases ap
    .exact abo n k _ p hq c hc
theorem aaL(bs:ae)(m:Int)(r:List dC×Nat)(h:iM bs m=some r):∀s∈r.1,s.1<=65538/\s.2.1<=65538/\s.2.2<=65538:=by
 unfold iM at h;split at h
 .split at h
  .injection h with h
   subst h;intro s ap;cases ap
  .cases ap:hE 3 (bs.drop (aW bs).2) (aW bs).1 with
   | none=>rw[ap]at h;cases h
   | some p=>
    have et:=abo _ 3 _ p ap;rw[ap]at h;dsimp only at h;split at h
    .cases h
    .next q _=>
     cases hl:oO p.1 (aW bs).1 q.1 with
     | none=>rw[hl]at h;cases h
     | some l=>
      rw[hl]at h;injection h with h
      subst h;unfold oO sm at hl;split at hl
      .cases hl
      .next z aO=>
       have aJ:=abg _ _ _ _ z (λc hc x ah=>by
        unfold jD at hc;obtain⟨i,_,rfl⟩:=List.mem_map.1 hc;unfold jM at ah;obtain⟨l,hl,rfl⟩:=List.mem_map.1 ah;rcases eP i l.length with h1 | h1
        .rw[bH h1];exact et l hl _ (b7 h1)
        .rw[getElem?_eq_none h1];exact zero_lt_succ _) (by decide) (by decide) (by decide) aO
       split at hl
       .injection hl with hl
        rw[<-hl];exact aJ
       .cases hl
 .cases h
end ao
namespace ao
abbrev dN:=Nat×Nat×Nat×Nat×Nat
def qK(r:ae):Option (Nat×Nat×Nat×Nat):=
 if 0<(aW r).2/\(aW r).1<=1073741824 then
  (if 0<(aW (r.drop (aW r).2)).2/\(aW (r.drop (aW r).2)).1<=1099511627776/\(aW r).2+(aW (r.drop (aW r).2)).2+8<=r.length then
   some ((aW r).1,(aW (r.drop (aW r).2)).1,bd ((r.drop ((aW r).2+(aW (r.drop (aW r).2)).2)).take 8),(aW r).2+(aW (r.drop (aW r).2)).2+8)
  else none)
 else none
def im(bs:ae):Option dN:=
 match bs with
 | []=>none
 | k :: r=>if 2<k then none else(qK r).map λt=>(k,t.1,t.2.1,t.2.2.1,1+t.2.2.2)
def gJ(D:ae)(k n:Nat)(bs:ae):Option (ae):=
 if k=0 then(if bs.length=n then some bs else none)
 else if k=1 then(if bs.length=1 then some (List.replicate n (bs[0]?.getD 0))else none)
 else match jv bs (n:Int)with
  | none=>none
  | some t=>match iM (bs.drop t.2) (n:Int)with
   | none=>none
   | some q=>if t.2+q.2=bs.length/\(iV D t.1 (q.1.map iu) n).2=0/\(iV D t.1 (q.1.map iu) n).1.length=n then some (iV D t.1 (q.1.map iu) n).1 else none
def ii(D bs:ae)(lim:Int):ae×Nat:=
 match im bs with
 | none=>([],3)
 | some h=>if lim<(h.2.2.1:Int)\/512<h.2.2.1 then([],5)else
  match gJ D h.1 h.2.2.1 (bs.drop h.2.2.2.2)with
  | none=>([],3)
  | some x=>if sumOf x=h.2.2.2.1 then(x,0)else([],4)
def hB(k a6:Nat)(X:ae):ae:=k :: (br a6++(br X.length++bytesOf (sumOf X) 8))
structure rO(D X:ae)(k:Nat)(T:ae):Prop where
 kind:k<=2
 lt:∀x∈T,x<256
 len:T.length<=X.length
 yes:gJ D k X.length T=some X
 cut:∀j,j<T.length->gJ D k X.length (T.take j)=none
 more:∀x,gJ D k X.length (T++[x])=none
theorem y3(k a6:Nat)(X:ae):(hB k a6 X).length=1+(br a6).length+(br X.length).length+8:=by
 rw[hB,b1,aY,aY,bytesOf_length];omega
theorem aiY(k a6:Nat)(X:ae)(eE:a6<=1073741824)(cK:X.length<=512):(hB k a6 X).length<=16:=by
 have h1:=(Hg a6 (by omega) 5 (by decide)).2 (by omega);have af:=(Hg X.length (by omega) 2 (by decide)).2 (by omega);rw[y3];omega
theorem arK(a6 n s:Nat)(T:ae)(eE:a6<=1073741824)(az:n<=1099511627776)(ap:s<2^64):qK (br a6++(br n++bytesOf s 8)++T)=some (a6,n,s,(br a6).length+(br n).length+8):=by
 have h1:aW (br a6++(br n++bytesOf s 8)++T)=(a6,(br a6).length):=by
  rw[dj];exact xi a6 _ (by omega)
 have af:(br a6++(br n++bytesOf s 8)++T).drop (br a6).length=br n++(bytesOf s 8++T):=by
  rw[dj,drop_left,dj]
 have aq:aW (br n++(bytesOf s 8++T))=(n,(br n).length):=xi n _ (by omega);have aJ:=yS a6 (by omega);have aR:=yS n (by omega);unfold qK;rw[h1];dsimp only;rw[af,aq];dsimp only;rw[aA ⟨aJ,eE⟩,aA ⟨aR,az,by simp only[aY,bytesOf_length];omega⟩,<-drop_drop,af,drop_left,take_left' (bytesOf_length s 8),Fu s 8,mod_eq_of_lt (by omega)]
theorem abG(p u:ae)(t:Nat×Nat×Nat×Nat)(h:qK p=some t):qK (p++u)=some t/\t.2.2.2<=p.length:=by
 unfold qK at h ⊢;split at h
 .next am=>
  obtain⟨e0,lm⟩:=xh p u am.1;rw[e0,aA am,AZ p u _ lm];split at h
  .next h1=>
   obtain⟨aF,ca⟩:=xh (p.drop (aW p).2) u h1.1;rw[aF,aA ⟨h1.1,h1.2.1,by rw[aY];omega⟩,<-h];generalize aW (p.drop (aW p).2)=z at *;generalize aW p=y at *;injection h with h
   subst h;refine⟨?_,h1.2.2⟩;rw[AZ p u _ (by omega),take_append_of_le_length (by rw[cC];omega)]
  .cases h
 .cases h
theorem y4(k a6:Nat)(X T:ae)(hk:k<=2)(eE:a6<=1073741824)(cK:X.length<=512):im (hB k a6 X++T)=some (k,a6,X.length,sumOf X,(hB k a6 X).length):=by
 rw[y3];unfold hB;rw[cons_append];unfold im;dsimp only;rw[ay (by omega),arK a6 X.length (sumOf X) T eE (by omega) (abp X),map_some];dsimp only;rw[show 1+((br a6).length+(br X.length).length+8)=1+(br a6).length+(br X.length).length+8 by omega]
theorem aja(k a6:Nat)(X:ae)(hk:k<=2)(eE:a6<=1073741824)(cK:X.length<=512)(j:Nat)(ar:j<(hB k a6 X).length):im ((hB k a6 X).take j)=none:=by
 have hy:=y4 k a6 X [] hk eE cK;rw[append_nil,y3]at hy;rw[y3]at ar;unfold hB at hy ⊢;cases j with
 | zero=>rfl
 | succ j=>
  rw[take_succ_cons];unfold im at hy ⊢;dsimp only at hy ⊢;rw[ay (by omega)]at hy ⊢;cases aC:qK ((br a6++(br X.length++bytesOf (sumOf X) 8)).take j)with
  | none=>rfl
  | some t=>
   obtain⟨e,l⟩:=abG _ ((br a6++(br X.length++bytesOf (sumOf X) 8)).drop j) t aC;rw[gA]at e;rw[e]at hy;injection hy with hy
   rw[cq]at l;have h1:1+t.2.2.2=1+(br a6).length+(br X.length).length+8:=congrArg (λz:dN=>z.2.2.2.2) hy;omega
theorem aft{D X T:ae}{k a6:Nat}(h:rO D X k T)(eE:a6<=1073741824)(cK:X.length<=512)(lim:Int)(hl:(X.length:Int)<=lim):ii D (hB k a6 X++T) lim=(X,0):=by
 unfold ii;rw[y4 k a6 X T h.kind eE cK];dsimp only;rw[ay (by omega),drop_left,h.yes];dsimp only;rw[aA rfl]
theorem afo{D X T:ae}{k a6:Nat}(hk:k<=2)(eE:a6<=1073741824)(cK:X.length<=512)(lim:Int)(hl:lim<(X.length:Int)):ii D (hB k a6 X++T) lim=([],5):=by
 unfold ii;rw[y4 k a6 X T hk eE cK];dsimp only;rw[aA (.inl hl)]
theorem afm{D X T:ae}{k a6:Nat}(h:rO D X k T)(eE:a6<=1073741824)(cK:X.length<=512)(j:Nat)(ar:j<(hB k a6 X++T).length):ii D ((hB k a6 X++T).take j) (X.length:Int)=([],3):=by
 rw[aY]at ar;unfold ii;rcases eP j (hB k a6 X).length with h1 | h1
 .rw[take_append_of_le_length (Nat.le_of_lt h1),aja k a6 X h.kind eE cK j h1]
 .rw[take_append,take_of_length_le h1,y4 k a6 X _ h.kind eE cK];dsimp only;rw[ay (by omega),drop_left,h.cut (j-(hB k a6 X).length) (by omega)]
theorem afq{D X T:ae}{k a6:Nat}(h:rO D X k T)(eE:a6<=1073741824)(cK:X.length<=512)(x:Nat):ii D (hB k a6 X++T++[x]) (X.length:Int)=([],3):=by
 unfold ii;rw[dj,y4 k a6 X _ h.kind eE cK];dsimp only;rw[ay (by omega),drop_left,h.more x]
theorem afs{D X T Y:ae}{k a6:Nat}(hk:k<=2)(eE:a6<=1073741824)(cK:X.length<=512)(lim:Int)(h:ii D (hB k a6 X++T) lim=(Y,0)):sumOf Y=sumOf X:=by
 unfold ii at h;rw[y4 k a6 X T hk eE cK]at h;dsimp only at h;split at h
 .cases h
 .split at h
  .cases h
  .next x _=>
   split at h
   .next ap=>
    have h1:x=Y:=congrArg Prod.fst h;rw[<-h1];exact ap
   .cases h
theorem KW{D bs X:ae}{k n:Nat}(h:gJ D k n bs=some X):X.length=n:=by
 unfold gJ at h;split at h
 .split at h
  .injection h with h;subst h;assumption
  .cases h
 .split at h
  .split at h
   .injection h with h;subst h;rw[jl]
   .cases h
  .split at h
   .cases h
   .split at h
    .cases h
    .split at h
     .next hc=>injection h with h;rw[<-h];exact hc.2.2
     .cases h
theorem afp(D bs:ae)(lim:Int):((ii D bs lim).2≠0->(ii D bs lim).1=[])/\((ii D bs lim).1.length:Int)<=max lim 0/\(ii D bs lim).1.length<=512/\(ii D bs lim).2<=5:=by
 unfold ii;split
 .exact⟨λ_=>rfl,by simp;omega,by simp,by simp⟩
 .split
  .exact⟨λ_=>rfl,by simp;omega,by simp,by simp⟩
  .next hc=>
   split
   .exact⟨λ_=>rfl,by simp;omega,by simp,by simp⟩
   .next x ah=>
    have:=KW ah;split
    .refine⟨λh=>absurd rfl h,?_,?_,zero_le _⟩
     .dsimp only;omega
     .dsimp only;omega
    .exact⟨λ_=>rfl,by simp;omega,by simp,by simp⟩
theorem ae5(D X:ae)(cK:∀x∈X,x<256):rO D X 0 X:=by
 refine⟨by omega,cK,Nat.le_refl _,?_,λj ar=>?_,λx=>?_⟩
 .unfold gJ;rw[aA rfl,aA rfl]
 .unfold gJ;rw[aA rfl,ay (by rw[cq];omega)]
 .unfold gJ;rw[aA rfl,ay (by rw[aY,length_singleton];omega)]
theorem ae4(D X:ae)(c:Nat)(hc:c<256)(am:0<X.length)(h:X=List.replicate X.length c):rO D X 1 [c]:=by
 refine⟨by omega,λx ah=>by rw[List.mem_singleton.1 ah];exact hc,am,?_,λj ar=>?_,λx=>?_⟩
 .show some (List.replicate X.length c)=some X;exact congrArg some h.symm
 .rw[length_singleton]at ar;obtain rfl:j=0:=by omega
  rfl
 .rfl
theorem ae6(D X E S:ae)(l:List dC)(L:ae)(fD:jv E (X.length:Int)=some (L,E.length))(cu:iM S (X.length:Int)=some (l,S.length))(am:iV D L (l.map iu) X.length=(X,0))
  (Hl:∀x∈E,x<256) (Mh:∀x∈S,x<256) (hlen:(E++S).length<X.length):rO D X 2 (E++S):=by
 have ak:∀u,gJ D 2 X.length (E++u)=match iM u (X.length:Int)with
   | none=>none
   | some q=>if E.length+q.2=E.length+u.length/\(iV D L (q.1.map iu) X.length).2=0/\(iV D L (q.1.map iu) X.length).1.length=X.length then some (iV D L (q.1.map iu) X.length).1 else none:=λu=>by
  unfold gJ;rw[ay (by decide),ay (by decide),(Lp E u _ _ fD).1];dsimp only;rw[drop_left,aY]
 refine⟨by omega,λx ah=>(List.mem_append.1 ah).elim (Hl x) (Mh x),Nat.le_of_lt hlen,?_,λj ar=>?_,λx=>?_⟩
 .rw[ak,cu];dsimp only;rw[am,aA ⟨rfl,rfl,rfl⟩]
 .rcases eP j E.length with h1 | h1
  .rw[take_append_of_le_length (Nat.le_of_lt h1)];unfold gJ;rw[ay (by decide),ay (by decide),agS E _ _ fD j h1]
  .rw[take_append,take_of_length_le h1,ak];rw[aY]at ar;rw[aqp S _ l cu (j-E.length) (by omega)]
 .rw[dj,ak,aaK S [x] _ _ cu];dsimp only;rw[ay (by rw[aY,length_singleton];omega)]
end ao
theorem T5(bs:ae)(m:Int)(t:ae×Nat)(av:∀x∈bs,x<256)(h:jv bs m=some t):(t.1.length:Int)<=m/\0<t.2/\t.2<=bs.length:=by
 have hle:=(Lp bs [] m t h).2;cases bs with
 | nil=>cases h
 | cons k r=>
  unfold jv at h;dsimp only at h;split at h
  .next hc=>
   have lO:∀x∈r.drop (aW r).2,x<256:=λx ah=>av x (ew _ (mem_of_mem_drop ah))
   cases ak:fx k (aW r).1 (r.drop (aW r).2)with
   | none=>rw[ak]at h;cases h
   | some q=>
    rw[ak]at h;injection h with h
    have hq:q.1.length=(aW r).1:=by
     unfold fx at ak;generalize (aW r).1=n at *;generalize r.drop (aW r).2=u at *;split at ak
     .split at ak
      .next az=>injection ak with ak;rw[<-ak];dsimp only;rw[cq];omega
      .cases ak
     .split at ak
      .split at ak
       .injection ak with ak;rw[<-ak];simp
       .cases ak
      .split at ak
       .cases aj:jc u with
        | none=>rw[aj]at ak;cases ak
        | some p=>
         rw[aj]at ak;dsimp only at ak;cases fo:nN p.1 (u.drop p.2) n with
         | none=>rw[fo]at ak;cases ak
         | some ft=>
          rw[fo]at ak;injection ak with ak
          unfold nN at fo;split at fo
          .cases aG:oq p.1 (((u.drop p.2).drop (aW (u.drop p.2)).2).take (aW (u.drop p.2)).1) n with
           | none=>rw[aG]at fo;cases fo
           | some d=>
            rw[aG]at fo;injection fo with fo
            have:=(G6 p.1 _ d n (λx ah=>lO x (mem_of_mem_drop (mem_of_mem_drop (mem_of_mem_take ah)))) aG).2.1;rw[<-ak,<-fo];exact this
          .cases fo
       .cases ak
    subst h;refine⟨?_,?_,hle⟩
    .show((q.1.length:Nat):Int)<=m;rw[hq];exact hc.2.1
    .show 0<1+(aW r).2+q.2;omega
  .cases h
theorem T6(bs:ae)(m:Int)(t:ae×Nat)(av:∀x∈bs,x<256)(h:jv bs m=some t):∀x∈t.1,x<256:=by
 cases bs with
 | nil=>cases h
 | cons k r=>
  unfold jv at h;dsimp only at h;split at h
  .have lO:∀x∈r.drop (aW r).2,x<256:=λx ah=>av x (ew _ (mem_of_mem_drop ah))
   generalize (aW r).1=n at *;generalize r.drop (aW r).2=u at *;cases ak:fx k n u with
   | none=>rw[ak]at h;cases h
   | some q=>
    rw[ak]at h;injection h with h
    subst h;show ∀x∈q.1,x<256;unfold fx at ak;split at ak
    .split at ak
     .injection ak with ak;rw[<-ak];exact λx ah=>lO x (mem_of_mem_take ah)
     .cases ak
    .split at ak
     .split at ak
      .next am=>
       injection ak with ak
       rw[<-ak];intro x ah;rw[(List.mem_replicate.1 ah).2,bH am];exact lO _ (b7 am)
      .cases ak
     .split at ak
      .cases aj:jc u with
       | none=>rw[aj]at ak;cases ak
       | some p=>
        have bg:=(Pn u p aj).1;rw[aj]at ak;dsimp only at ak;cases fo:nN p.1 (u.drop p.2) n with
        | none=>rw[fo]at ak;cases ak
        | some ft=>
         rw[fo]at ak;injection ak with ak
         unfold nN at fo;split at fo
         .cases aG:oq p.1 (((u.drop p.2).drop (aW (u.drop p.2)).2).take (aW (u.drop p.2)).1) n with
          | none=>rw[aG]at fo;cases fo
          | some d=>
           rw[aG]at fo;injection fo with fo
           have:=(G6 p.1 _ d n (λx ah=>lO x (mem_of_mem_drop (mem_of_mem_drop (mem_of_mem_take ah)))) aG).2.2;rw[<-ak,<-fo];exact λx ah=>gV (this x ah) bg
         .cases fo
      .cases ak
  .cases h
namespace ao
theorem TK(U:ae)(i:Nat)(h:i<U.length):(lH U)[i]'(by simpa [lH]using h)=hg U i:=by simp[lH]
theorem GK(U:ae):(lH U).length=U.length:=by simp[lH]
def hV(F:List (Int×Int))(a b:Nat):Int:=if b=0 then(F[a]?.getD (0,0)).1 else(F[a]?.getD (0,0)).2
def p0(F:List (Int×Int))(a b:Nat)(z:Int):List (Int×Int):=F.set a (if b=0 then(z,(F[a]?.getD (0,0)).2)else((F[a]?.getD (0,0)).1,z))
theorem uv(F:List (Int×Int))(a b:Nat)(z:Int):(p0 F a b z).length=F.length:=by simp[p0]
theorem LC(F:List (Int×Int))(a b:Nat)(z:Int)(aS:a<F.length):hV (p0 F a b z) a b=z:=by
 unfold hV p0;rw[getElem?_set_self aS,b6];split<;>rfl
theorem Uo(F:List (Int×Int))(a b a' ku:Nat)(z:Int)(ak:b<2)(h6:ku<2)(h:¬(a'=a/\ku=b)):hV (p0 F a b z) a' ku=hV F a' ku:=by
 unfold hV p0;by_cases aS:a'=a
 .subst aS;have aX:ku≠b:=λe=>h ⟨rfl,e⟩
  rcases eP a' F.length with hl | hl
  .rw[getElem?_set_self hl,b6];by_cases am:b=0
   .rw[aA am,ay (show ¬ku=0 by omega),ay (show ¬ku=0 by omega)]
   .rw[ay am,aA (show ku=0 by omega),aA (show ku=0 by omega)]
  .rw[set_eq_of_length_le hl]
 .rw[getElem?_set_ne (λe=>aS e.symm)]
theorem Um(F:List (Int×Int))(a b:Nat)(t:Int×Int)(aS:a<F.length):hV (F++[t]) a b=hV F a b:=by
 unfold hV;rw[hZ aS]
theorem ahp(F:List (Int×Int))(b:Nat):hV (F++[(0,0)]) F.length b=0:=by
 unfold hV;rw[jk bh,Nat.sub_self];simp
def acn(U:ae)(q:Nat)(P:List (ae))(z:Int)(p:ae):Prop:=
 (0<z->P[z.toNat]?=some p)/\(z=0->p ∉ P/\∀k,k<q->0<U[k]?.getD 0->cU U k≠p)/\(z<0->∃k:Nat,k<q/\z=-1-(k:Int)/\0<U[k]?.getD 0/\cU U k=p)
structure jt(U:ae)(q:Nat)(P:List (ae))(F:List (Int×Int)):Prop where
 len:F.length=P.length
 root:P[0]?=some []
 nodup:P.Nodup
 AW:∀p b,p++[b]∈P->p∈P
 pre:∀p∈P,p≠[]->∃k,k<=q/\0<U[k]?.getD 0/\p <+: cU U k/\p.length<U[k]?.getD 0
 all:∀k,k<q->0<U[k]?.getD 0->∀i,i<U[k]?.getD 0->(cU U k).take i∈P
 tP:∀a p,P[a]?=some p->∀b,b<2->acn U q P (hV F a b) (p++[b])
theorem jt.start(U:ae):jt U 0 [[]] [(0,0)] where
 len:=rfl
 root:=rfl
 nodup:=by simp
 AW:=λp b h=>by simp at h
 pre:=λp aw am=>by simp at aw;exact absurd aw am
 all:=λk hk=>by omega
 tP:=λa p aS b ak=>by
  rcases a with _ | a
  .simp at aS;subst aS;have e:hV [(0,0)] 0 b=0:=by unfold hV;simp
   rw[e];exact⟨by omega,λ_=>⟨by simp,λk hk=>by omega⟩,by omega⟩
  .simp at aS
theorem jt.skip{U:ae}{q:Nat}{P:List (ae)}{F:List (Int×Int)}(h:jt U q P F)(am:U[q]?.getD 0=0):jt U (q+1) P F where
 len:=h.len
 root:=h.root
 nodup:=h.nodup
 AW:=h.AW
 pre:=λp aw aX=>by
  obtain⟨k,h1,af⟩:=h.pre p aw aX;exact⟨k,by omega,af⟩
 all:=λk hk gv=>by
  by_cases e:k=q
  .subst e;omega
  .exact h.all k (by omega) gv
 tP:=λa p aS b ak=>by
  obtain⟨h1,af,aq⟩:=h.tP a p aS b ak;refine⟨h1,λaO=>⟨(af aO).1,λk hk gv=>?_⟩,λaO=>?_⟩
  .by_cases e:k=q
   .subst e;omega
   .exact(af aO).2 k (by omega) gv
  .obtain⟨k,g1,g2⟩:=aq aO;exact⟨k,by omega,g2⟩
theorem I3(l:ae)(j:Nat)(h:j<l.length):l.take (j+1)=l.take j++[l[j]]:=gb h
theorem H9{P:List (ae)}{a:Nat}{p:ae}(h:P[a]?=some p):p∈P:=mem_of_getElem? h
theorem yM{P:List (ae)}{a:Nat}{p:ae}(h:P[a]?=some p):a<P.length:=(List.getElem?_eq_some_iff.1 h).1
theorem at_one{P:List (ae)}(az:P.Nodup){a a':Nat}{p:ae}(h:P[a]?=some p)(kg:P[a']?=some p):a=a':=by
 have h1:=yM h;exact(getElem?_inj h1 az).1 (h.trans kg.symm)
theorem PH{p r:ae}{b c:Nat}(h:p++[b]=r++[c]):p=r/\b=c:=by
 have:=append_inj' h rfl;exact⟨this.1,by simpa using this.2⟩
section
variable {U:ae} {q:Nat} {P:List (ae)} {F:List (Int×Int)}
theorem jt.on(h:jt U q P F){a b:Nat}{p:ae}(aS:P[a]?=some p)(ak:b<2)(aO:0<hV F a b):P[(hV F a b).toNat]?=some (p++[b]):=(h.tP a p aS b ak).1 aO
theorem jt.pos(h:jt U q P F)(bg:fw U)(hq:q<U.length){a j:Nat}(ar:j<(cU U q).length)(aS:P[a]?=some ((cU U q).take j)):0<=hV F a (cU U q)[j]:=by
 have ak:=yR U q _ (b7 ar);rcases Int.lt_or_le (hV F a (cU U q)[j]) 0 with aO | aO
 .exfalso
  obtain⟨k,h1,_,aq,aJ⟩:=(h.tP a _ aS _ ak).2.2 aO;rw[<-I3 _ j ar]at aJ;have hl:=lG U q;have:=Pc U k q (by omega) hq bg aq (by omega) (cU U q) (by rw[aJ];exact take_prefix _ _) (prefix_refl _);omega
 .exact aO
theorem jt.grow(h:jt U q P F){a j:Nat}(ar:j+1<(cU U q).length)(aS:P[a]?=some ((cU U q).take j))(aO:hV F a ((cU U q)[j]'(by omega))=0) :
  jt U q (P++[(cU U q).take (j+1)]) (p0 F a ((cU U q)[j]'(by omega)) (P.length:Int)++[(0,0)]):=by
 have ak:=yR U q _ (b7 (show j<(cU U q).length by omega));have gS:=I3 (cU U q) j (by omega);have hl:=lG U q;obtain⟨HN,qv⟩:=(h.tP a _ aS _ ak).2.1 aO;rw[<-gS]at HN qv;have dA:=yM aS;have cm:((cU U q).take (j+1)).length=j+1:=by rw[cq];omega
 have aiG:=H9 aS;generalize (cU U q)[j]'(by omega)=iW at *;generalize aw:(cU U q).take (j+1)=p at *;have nZ:p <+: cU U q:=by rw[<-aw];exact take_prefix _ _
 generalize aj:(cU U q).take j=r at *;have vt:0<P.length:=by omega
 refine⟨by rw[aY,aY,uv,h.len];rfl,by rw[hZ vt];exact h.root,?_,?_,?_,?_,?_⟩
 .rw[nodup_append];exact⟨h.nodup,by simp,λx ah y hy=>by simp at hy;subst hy;exact λe=>HN (e▸ah)⟩
 .intro p' ku hm;rcases List.mem_append.1 hm with hm | hm
  .exact mem_append_left _ (h.AW p' ku hm)
  .have e:=List.mem_singleton.1 hm;rw[gS]at e;rw[(PH e).1];exact mem_append_left _ aiG
 .intro p' hm aX;rcases List.mem_append.1 hm with hm | hm
  .exact h.pre p' hm aX
  .have e:=List.mem_singleton.1 hm;rw[e];exact⟨q,Nat.le_refl _,by omega,nZ,by omega⟩
 .intro k hk gv i ax;exact mem_append_left _ (h.all k hk gv i ax)
 .intro a' p' mL ku h6;rcases eP a' P.length with HJ | HJ
  .rw[hZ HJ]at mL;rw[Um _ _ _ _ (by rw[uv,h.len];exact HJ)];by_cases he:a'=a/\ku=iW
   .obtain⟨aF,e2⟩:=he;subst aF e2;rw[LC _ _ _ _ (by rw[h.len];exact HJ)];have e:p'=r:=by rw[aS]at mL;injection mL with mL;exact mL.symm
    refine⟨λ_=>?_,λe=>by omega,λe=>by omega⟩;rw[cY,jk bh,Nat.sub_self,e,<-gS];rfl
   .rw[Uo _ _ _ _ _ _ ak h6 he];obtain⟨h1,af,aq⟩:=h.tP a' p' mL ku h6;refine⟨λaO=>?_,λaO=>⟨λhm=>?_,(af aO).2⟩,aq⟩
    .have:=h1 aO;rw[hZ (yM this)];exact this
    .rcases List.mem_append.1 hm with hm | hm
     .exact(af aO).1 hm
     .have e:=List.mem_singleton.1 hm;rw[gS]at e;obtain⟨aF,e2⟩:=PH e;rw[aF]at mL;exact he ⟨at_one h.nodup mL aS,e2⟩
  .have e:a'=P.length:=by
    have:=yM mL;rw[aY,length_singleton]at this;omega
   subst e;rw[jk bh,Nat.sub_self]at mL;have e:p=p':=by simpa using mL
   subst e;have e2:hV (p0 F a iW (P.length:Int)++[(0,0)]) P.length ku=0:=by
    have:=ahp (p0 F a iW (P.length:Int)) ku;rwa [uv,h.len]at this
   rw[e2];refine⟨λe=>by omega,λ_=>⟨λhm=>?_,λk hk gv e=>?_⟩,λe=>by omega⟩
   .rcases List.mem_append.1 hm with hm | hm
    .exact HN (h.AW p ku hm)
    .have:=congrArg List.length (List.mem_singleton.1 hm);rw[aY,length_singleton]at this;omega
   .have bb:=lG U k;have h1:=congrArg List.length e;rw[aY,length_singleton]at h1;have af:=h.all k hk gv p.length (by omega);rw[e,take_left]at af;exact HN af
theorem jt.leaf(h:jt U q P F){a n:Nat}(az:n+1=(cU U q).length)(aS:P[a]?=some ((cU U q).take n))(hall:∀i,i<=n->(cU U q).take i∈P) :
  jt U (q+1) P (p0 F a ((cU U q)[n]'(by omega)) (-1-(q:Int))):=by
 have ak:=yR U q _ (b7 (show n<(cU U q).length by omega));have gS:=I3 (cU U q) n (by omega);rw[az,take_length]at gS;have hl:=lG U q;have dA:=yM aS;generalize (cU U q)[n]'(by omega)=iW at *;refine⟨by rw[uv,h.len],h.root,h.nodup,h.AW,?_,?_,?_⟩
 .intro p aw aX;obtain⟨k,h1,af⟩:=h.pre p aw aX;exact⟨k,by omega,af⟩
 .intro k hk gv i ax;by_cases e:k=q
  .subst e;exact hall i (by omega)
  .exact h.all k (by omega) gv i ax
 .intro a' p' mL ku h6;by_cases he:a'=a/\ku=iW
  .obtain⟨aF,e2⟩:=he;subst aF e2;rw[LC _ _ _ _ (by rw[h.len];exact dA)];have e:p'=(cU U q).take n:=by rw[aS]at mL;injection mL with mL;exact mL.symm
   exact⟨λe=>by omega,λe=>by omega,λ_=>⟨q,by omega,rfl,by omega,by rw[e];exact gS⟩⟩
  .rw[Uo _ _ _ _ _ _ ak h6 he];obtain⟨h1,af,aq⟩:=h.tP a' p' mL ku h6;refine⟨h1,λaO=>⟨(af aO).1,λk hk gv e=>?_⟩,λaO=>?_⟩
   .by_cases Lz:k=q
    .subst Lz;rw[gS]at e;obtain⟨aF,e2⟩:=PH e;rw[<-aF]at mL;exact he ⟨at_one h.nodup mL aS,e2.symm⟩
    .exact(af aO).2 k (by omega) gv e
   .obtain⟨k,g1,g2⟩:=aq aO;exact⟨k,by omega,g2⟩
end
theorem Zf(U l:ae)(h:∀k,0<U[k]?.getD 0->¬cU U k <+: l):ny U l=none:=by
 have:∀q,rA U l q=none:=λq=>by
  induction q with
  | zero=>rfl
  | succ q ih=>
   unfold rA;rw[ay (λhc=>h q hc.1 hc.2),ih]
 exact this _
section
variable {U:ae} {P:List (ae)} {F:List (Int×Int)}
theorem jt.inner(h:jt U U.length P F)(bg:fw U){r:ae}(aj:r∈P)(k:Nat)(hk:0<U[k]?.getD 0):¬cU U k <+: r:=by
 intro aw;have bb:=lG U k;by_cases he:r=[]
 .subst he;have:=aw.length_le;rw[length_nil]at this;omega
 .obtain⟨k',_,af,aq,aJ⟩:=h.pre r aj he;have:=Pc U k k' (EF U k hk) (EF U k' af) bg hk af (cU U k') (aw.trans aq) (prefix_refl _);subst this;have:=aw.length_le;omega
theorem jt.apc(h:jt U U.length P F)(bg:fw U){r:ae}(aj:r∈P):ny U r=none:=Zf U r (λk hk=>h.inner bg aj k hk)
theorem jt.apd(h:jt U U.length P F)(bg:fw U){a b:Nat}{r:ae}(aS:P[a]?=some r)(ak:b<2)(aO:hV F a b<0)(rest:ae) :
  ∃k:Nat,k<U.length/\hV F a b=-1-(k:Int)/\U[k]?.getD 0=r.length+1/\ny U (r++b :: rest)=some k:=by
 obtain⟨k,h1,af,aq,aJ⟩:=(h.tP a r aS b ak).2.2 aO;refine⟨k,h1,af,by rw[<-lG,aJ,aY];rfl,Zd U _ k bg h1 aq ?_⟩;rw[aJ];exact⟨rest,by simp⟩
theorem jt.apg(h:jt U U.length P F)(bg:fw U){a b:Nat}{r:ae}(aS:P[a]?=some r)(ak:b<2)(aO:hV F a b=0)(rest:ae):ny U (r++b :: rest)=none:=by
 obtain⟨h1,af⟩:=(h.tP a r aS b ak).2.1 aO;refine Zf U _ (λk hk aw=>?_);have bb:=lG U k;rcases eP r.length (U[k]?.getD 0)with hl | hl
 .have e:(cU U k).take (r.length+1)=r++[b]:=by
   obtain⟨t,aC⟩:=aw;have:=congrArg (List.take (r.length+1)) aC;rw[take_append_of_le_length (by omega)]at this;rw[this,take_append,take_of_length_le (by omega)];simp
  by_cases he:U[k]?.getD 0=r.length+1
  .exact af k (EF U k hk) hk (by rw[<-e,take_of_length_le (by omega)])
  .exact h1 (by rw[<-e];exact h.all k (EF U k hk) hk _ (by omega))
 .exact h.inner bg (H9 aS) k hk (prefix_of_prefix_length_le aw (prefix_append r (b :: rest)) (by omega))
end
def ins(x:Nat):ae->ae
 | []=>[x]
 | y :: l=>if x<=y then x :: y :: l else y :: ins x l
def nx:ae->ae
 | []=>[]
 | x :: l=>ins x (nx l)
theorem ry{x y:Nat}{l:ae}(h:x<=y):ins x (y :: l)=x :: y :: l:=by rw[ins,aA h]
theorem pU{x y:Nat}{l:ae}(h:¬x<=y):ins x (y :: l)=y :: ins x l:=by rw[ins,ay h]
theorem Yv(x y:Nat):∀l,ins x (ins y l)=ins y (ins x l)
 | []=>by
  show ins x [y]=ins y [x];by_cases h1:x<=y
  .by_cases af:y<=x
   .obtain rfl:x=y:=by omega
    rfl
   .rw[ry h1,pU af];rfl
  .rw[pU h1,ry (by omega)];rfl
 | z :: l=>by
  by_cases h1:x<=z<;>by_cases af:y<=z
  .rw[ry h1,ry af];by_cases aq:x<=y
   .by_cases aJ:y<=x
    .obtain rfl:x=y:=by omega
     rfl
    .rw[ry aq,pU aJ,ry af]
   .rw[pU aq,ry (show y<=x by omega),ry h1]
  .rw[pU af,ry h1,ry h1,pU (show ¬y<=x by omega),pU af]
  .rw[pU h1,ry af,ry af,pU (show ¬x<=y by omega),pU h1]
  .rw[pU h1,pU af,pU h1,pU af,Yv x y l]
theorem Yy{a b:ae}(h:a.Perm b):nx a=nx b:=by
 induction h with
 | nil=>rfl
 | cons x _ ih=>simp only[nx,ih]
 | swap x y l=>simp only[nx];exact Yv y x (nx l)
 | trans _ _ ED EE=>exact ED.trans EE
theorem Yw(x:Nat):∀l,(ins x l).Perm (x :: l)
 | []=>List.Perm.refl _
 | y :: l=>by
  unfold ins;split
  .exact List.Perm.refl _
  .exact((Yw x l).cons y).trans (List.Perm.swap x y l)
theorem N7:∀l,(nx l).Perm l
 | []=>List.Perm.refl _
 | x :: l=>(Yw x (nx l)).trans ((N7 l).cons x)
theorem N5(x:Nat)(l:ae)(h:∀y∈l,x<=y):ins x l=x :: l:=by
 cases l with
 | nil=>rfl
 | cons y l=>unfold ins;rw[aA (h y ea)]
def Mz:Nat->ae->Nat
 | 0,_=>0
 | f+1,a :: b :: l=>(a+b)+Mz f (ins (a+b) l)
 | _+1,_=>0
def ow(l:ae):Nat:=Mz l.length (nx l)
theorem DV{a b:ae}(h:a.Perm b):ow a=ow b:=by
 unfold ow;rw[Yy h,h.length_eq]
theorem aiM(a b:Nat)(l:ae)(aS:a<=b)(ak:∀x∈l,b<=x):ow (a :: b :: l)=(a+b)+ow (l++[a+b]):=by
 have ap:nx (a :: b :: l)=a :: b :: nx l:=by
  simp only[nx];rw[N5 b (nx l) (λy hy=>ak y ((N7 l).mem_iff.1 hy))];exact N5 a _ (λy hy=>by
   rcases List.mem_cons.1 hy with rfl | hy
   .exact aS
   .have:=ak y ((N7 l).mem_iff.1 hy);omega)
 have af:ow (l++[a+b])=Mz (l.length+1) (ins (a+b) (nx l)):=by
  rw[DV (perm_append_comm (l₁:=l) (l₂:=[a+b]))];rfl
 rw[af];unfold ow;rw[ap];rfl
theorem aiL(l:ae)(h:l.length<=1):ow l=0:=by
 rcases l with _ | ⟨a,_ | ⟨b,l⟩⟩
 .rfl
 .rfl
 .simp at h
end ao
open Go.RowKit
namespace ao
def fz:ae->ae
 | []=>[]
 | c :: ag=>if 0<c then c :: fz ag else fz ag
def Gs(ag:ae):Nat:=if (fz ag).length=1 then(fz ag).sum else ow (fz ag)
def UB(ag:ae):Nat:=if (fz ag).length=1 then(fz ag).sum else
 (fz ag).sum*wid ((fz ag).length-1)-((nx (fz ag)).reverse.take (2^wid ((fz ag).length-1)-(fz ag).length)).sum
structure uE(ag U:ae):Prop where
 len:U.length=ag.length
 whole:fw U
 just:∀i,i<ag.length->(0<U[i]?.getD 0↔0<ag[i]?.getD 0)
 cost:AX ag U<=max (UB ag) (Gs ag)
theorem uE.fit{ag U:ae}(h:uE ag U):Jr ag U:=λi ax am=>(h.just i ax).2 am
instance (ag U:ae):Decidable (Jr ag U):=by unfold Jr;exact inferInstance
end ao
def acw:Prop:=∀(w:ai) (A:a7) (c:Nat) (l:List Int),l.length<=1000000000->(∀x∈l,en x)->Reads w A (gL l)->ao.Right l ->
 Calls prog 106 #[.slice A l.length c] w λe w'=>∃B d U,e=.returned (.tuple #[.slice B l.length d,.bool true])/\l.length<=d/\Reads w' B (aM U)/\uE (l.map Int.toNat) U/\Below w.heap.size w w'
namespace ao
theorem aqr(bs:ae)(most:Int)(h:¬(0<(aW bs).2/\((aW bs).1:Int)<=min most 1000)):iM bs most=none:=by
 unfold iM;rw[ay (by omega)]
theorem aqw(bs:ae)(most:Int)(h:0<(aW bs).2/\((aW bs).1:Int)<=min most 1000)(am:(aW bs).1=0):iM bs most=some ([],(aW bs).2):=by
 unfold iM;rw[aA (by omega),aA am]
theorem aqq(bs:ae)(most:Int)(h:0<(aW bs).2/\((aW bs).1:Int)<=min most 1000)(am:(aW bs).1≠0):iM bs most =
  match hE 3 (bs.drop (aW bs).2) (aW bs).1 with
  | none=>none
  | some p=>match hG ((bs.drop (aW bs).2).drop p.2)with
   | none=>none
   | some q=>(oO p.1 (aW bs).1 q.1).map λl=>(l,(aW bs).2+p.2+q.2):=by
 unfold iM;exact(aA (by omega)).trans (ay am)
end ao
theorem dP.below{w w':ai}{b off N n:Nat}(h:dP w b off N n)(ak:Below w.heap.size w w'):dP w' b off N n:=h.keep (row:=none) (dr ak none) (by simp) (by simp)
theorem eB.below{w w':ai}{b off pos:Nat}{bs:ae}(h:eB w b off bs pos)(ak:Below w.heap.size w w'):eB w' b off bs pos:=h.keep (row:=none) (dr ak none) (by simp)
structure oa(w:ai)(base:Nat)(vs:b3)(L:Nat->ae):Prop where
 own:∀(s:Nat) (v:Value),vs[s]?=some v->w.ownsRow base 3 1 v (L s).length (aM (L s))
 apart:∀(s t:Nat) (v u:Value) (g:Nat),s≠t->vs[s]?=some v->vs[t]?=some u->v.ownBlock=some g->u.ownBlock≠some g
section
variable {w w':ai} {base:Nat} {vs:b3} {L L':Nat->ae}
theorem oa.OJ(w:ai)(base n:Nat)(bR:∀s,L s=[]):oa w base (List.replicate n (.slice none 0 0)) L where
 own:=λs v aE=>by
  rw[getElem?_replicate]at aE;split at aE
  .injection aE with aE
   subst aE;rw[bR s];exact World.ownsRow_nil _ _ _ _
  .cases aE
 apart:=λs t v u g _ aE _ aD=>by
  rw[getElem?_replicate]at aE;split at aE
  .injection aE with aE
   subst aE;simp[Value.ownBlock]at aD
  .cases aE
theorem oa.below(h:oa w base vs L)(ak:Below w.heap.size w w'):oa w' base vs L:=⟨λs v aE=>own_below (h.own s v aE) ak,h.apart⟩
theorem oa.s7(h:oa w base vs L){b:Nat}{t:TypeId}{ag:b3}(aj:Row w b t ag)(aX:t≠3):∀(s:Nat) (v:Value),vs[s]?=some v->v.ownBlock≠some b:=by
 intro s v aE ak;obtain⟨c,q9,hk⟩:=Lib.ownsRow_kind (h.own s v aE) b ak;unfold Row at aj;rw[aj]at hk;injection hk with hk
 injection hk with _ hk
 exact aX hk
theorem oa.cG(h:oa w base vs L){p:Addr}(aw:∀(s:Nat) (v:Value),vs[s]?=some v->v.ownBlock≠some p.block)(u:Value):oa (w.setCell p u) base vs L:=⟨λs v aE=>ownsRow_setCell_other (h.own s v aE) (aw s v aE) u,h.apart⟩
theorem oa.push(h:oa w base vs L){s:Nat}{v:Value}(aE:vs[s]?=some v){g n cap:Nat}(aD:w.grownBy w' v.ownBlock)(eC:v.ownBlock=some g\/g=w.heap.size)
  (hown:w'.ownsRow base 3 1 (.slice (some ⟨g,0,none⟩) n cap) n (aM (L' s))) (az:(L' s).length=n) (bR:∀t,t≠s->L' t=L t):oa w' base (vs.set s (.slice (some ⟨g,0,none⟩) n cap)) L' where
 own:=λt u hu=>by
  by_cases e:s=t
  .subst e;have hl:s<vs.length:=(List.getElem?_eq_some_iff.1 aE).1;rw[getElem?_set_self hl]at hu;injection hu with hu
   subst hu;rw[az];exact hown
  .rw[getElem?_set_ne e]at hu;rw[bR t (Ne.symm e)];refine(h.own t u hu).kept aD ?_;rcases hq:u.ownBlock with _ | q
   .exact .inl rfl
   .exact .inr (λhh=>h.apart t s u v q (Ne.symm e) hu aE hq hh.symm)
 apart:=λa b x y q nl ah hy hq=>by
  have hl:s<vs.length:=(List.getElem?_eq_some_iff.1 aE).1;have key:∀t u,t≠s->vs[t]?=some u->u.ownBlock≠some g:=λt u aC hu he=>by
   rcases eC with h1 | h1
   .exact h.apart t s u v g aC hu aE he h1
   .have:=((h.own t u hu).lt g he).2;omega
  by_cases o6:s=a
  .subst o6;rw[getElem?_set_self hl]at ah;rw[getElem?_set_ne nl]at hy;injection ah with ah
   subst ah;simp only[Value.ownBlock,Option.some.injEq]at hq;subst hq;exact key b y (Ne.symm nl) hy
  .rw[getElem?_set_ne o6]at ah;by_cases qn:s=b
   .subst qn;rw[getElem?_set_self hl]at hy;injection hy with hy
    subst hy;intro he;simp only[Value.ownBlock,Option.some.injEq]at he;subst he;exact key a x (Ne.symm o6) ah hq
   .rw[getElem?_set_ne qn]at hy;exact h.apart a b x y q nl ah hy hq
end
def Fc(t:ao.dC):b3:=[.int .i64 (t.1:Int),.int .i64 (t.2.1:Int),.int .i64 (t.2.2:Int)]
def gP:List ao.dC->b3
 | []=>[]
 | t :: l=>Fc t++gP l
theorem aa1(l:List ao.dC):(gP l).length=l.length*3:=by
 induction l with
 | nil=>rfl
 | cons t l ih=>rw[gP,aY,ih,b1];simp[Fc];omega
theorem aa0(l m:List ao.dC):gP (l++m)=gP l++gP m:=by
 induction l with
 | nil=>rfl
 | cons t l ih=>rw[cons_append,gP,ih,gP,dj]
theorem IQ(l:List ao.dC)(i:Nat)(h:i<l.length):(gP l)[i*3]?=some (.int .i64 (l[i].1:Int))/\(gP l)[i*3+1]?=some (.int .i64 (l[i].2.1:Int))/\(gP l)[i*3+2]?=some (.int .i64 (l[i].2.2:Int)):=by
 induction l generalizing i with
 | nil=>simp at h
 | cons t l ih=>
  cases i with
  | zero=>exact⟨rfl,rfl,rfl⟩
  | succ i=>
   have h1:=ih i (by simpa using h);rw[gP];have e:∀j,(Fc t++gP l)[(i+1)*3+j]?=(gP l)[i*3+j]?:=λj=>by
    rw[jk (by simp[Fc];omega)];congr 1
    simp[Fc];omega
   have e0:=e 0;rw[ga,ga]at e0;rw[e0,e 1,e 2];exact h1
def l2(w:ai)(A:a7)(l:List ao.dC):Prop:=0<l.length->∃g off,A=some ⟨g,off,none⟩/\g<w.heap.size/\∀j (h:j<l.length),w.cell? ⟨g,off+j*3,none⟩=some (.int .i64 (l[j].1:Int))/\w.cell? ⟨g,off+j*3+1,none⟩=some (.int .i64 (l[j].2.1:Int))/\w.cell? ⟨g,off+j*3+2,none⟩=some (.int .i64 (l[j].2.2:Int))
theorem l2.below{w w':ai}{A:a7}{l:List ao.dC}(h:l2 w A l)(ak:Below w.heap.size w w'):l2 w' A l:=λam=>by
 obtain⟨g,off,e,aD,hc⟩:=h am;refine⟨g,off,e,gV aD ak.size,λj ar=>?_⟩;obtain⟨c0,c1,c2⟩:=hc j ar;exact⟨(ak.cell (p:=⟨g,_,none⟩) aD).trans c0,(ak.cell (p:=⟨g,_,none⟩) aD).trans c1,(ak.cell (p:=⟨g,_,none⟩) aD).trans c2⟩
theorem l2.nil(w:ai)(A:a7):l2 w A []:=λh=>absurd h (by simp)
theorem abe{w:ai}{base:Nat}{v:Value}{l:List ao.dC}(h:w.ownsRow base 118 3 v l.length (gP l)):∃A c,v=.slice A l.length c/\l2 w A l/\c<=maxLen/\l.length<=c:=by
 rcases h.2 with⟨rfl,am⟩ | ⟨g,cap,fg,rfl,ak,aD,qv,hj,hcs,aC⟩
 .refine⟨none,0,by rw[am],λh1=>by omega,by unfold maxLen;omega,by omega⟩
 .have aj:Row w g 118 (gP l++fg.toList.drop (l.length*3)):=by
   unfold Row;rw[<-aC,gA,Array.toArray_toList];exact aD
  refine⟨_,cap,rfl,λh1=>⟨g,0,rfl,aj.lt,λj ar=>?_⟩,hj,qv⟩;obtain⟨c0,c1,c2⟩:=IQ l j ar;have hl:=aa1 l;rw[eH,aj.cell,aj.cell,aj.cell,hZ (by omega),hZ (by omega),hZ (by omega)];exact⟨c0,c1,c2⟩
theorem N3:(prog.info? 118).map (λi=>(i.zero,i.size,i.bytes))=some (some (.agg #[.int .i64 0,.int .i64 0,.int .i64 0]),3,24):=by kernel_rfl
theorem He{a b c:ai}{row:Option Nat}(h:a.grownBy b row)(k:b.grownBy c row):a.grownBy c row:=
 ⟨k.os.trans h.os,k.tape.trans h.tape,k.output.trans h.output,du h.size k.size,λi ax az=>(k.block i (gV ax h.size) az).trans (h.block i ax az)⟩
theorem LR{a b c:ai}{row:Option Nat}(h:a.grownBy b row)(k:Below b.heap.size b c):a.grownBy c row:=He h (dr k row)
def sj(w:ai)(A:a7)(l:List fc):Prop:=0<l.length->∃g off,A=some ⟨g,off,none⟩/\g<w.heap.size/\∀j (h:j<l.length),w.cell? ⟨g,off+j*3,none⟩=some (.int .i64 l[j].1)/\w.cell? ⟨g,off+j*3+1,none⟩=some (.int .i64 l[j].2.1)/\w.cell? ⟨g,off+j*3+2,none⟩=some (.int .i64 l[j].2.2)
def xa(l:List fc):Prop:=∀s∈l,en s.1/\en s.2.1/\en s.2.2
theorem sj.below{w w':ai}{A:a7}{l:List fc}(h:sj w A l)(ak:Below w.heap.size w w'):sj w' A l:=λam=>by
 obtain⟨g,off,e,aD,hc⟩:=h am;refine⟨g,off,e,gV aD ak.size,λj ar=>?_⟩;obtain⟨c0,c1,c2⟩:=hc j ar;exact⟨(ak.cell (p:=⟨g,_,none⟩) aD).trans c0,(ak.cell (p:=⟨g,_,none⟩) aD).trans c1,(ak.cell (p:=⟨g,_,none⟩) aD).trans c2⟩
theorem PT{w:ai}{A:a7}{l:List ao.dC}(h:l2 w A l):sj w A (l.map iu):=λam=>by
 obtain⟨g,off,e,aD,hc⟩:=h (by simpa using am);refine⟨g,off,e,aD,λj ar=>?_⟩;have h1:=hc j (by simpa using ar);rw[getElem_map];exact h1
theorem abl(l:ae)(i j:Nat)(h:i<=j)(af:j<=l.length)(W:ai):(Instr.slice 9 (.string (strOf l)) (some (.int .i64 i)) (some (.int .i64 j)) none).run prog W=.ok (.string (strOf ((l.take j).drop i))) W:=by
 rw[run_slice_string W 9 _ .i64 .i64 i j underlying9 (by omega) (by omega) (by rw[cZ];omega),cY,cY,Ff]
structure mr(w:ai)(base:Nat)(vs:b3)(L:Nat->ae):Prop where
 own:∀(s:Nat) (v:Value),vs[s]?=some v->w.ownsRow base 5 1 v (L s).length (aN (L s))
 apart:∀(s t:Nat) (v u:Value) (g:Nat),s≠t->vs[s]?=some v->vs[t]?=some u->v.ownBlock=some g->u.ownBlock≠some g
section
variable {w w':ai} {base:Nat} {vs:b3} {L L':Nat->ae}
theorem mr.OJ(w:ai)(base n:Nat)(bR:∀s,L s=[]):mr w base (List.replicate n (.slice none 0 0)) L where
 own:=λs v aE=>by
  rw[getElem?_replicate]at aE;split at aE
  .injection aE with aE
   subst aE;rw[bR s];exact World.ownsRow_nil _ _ _ _
  .cases aE
 apart:=λs t v u g _ aE _ aD=>by
  rw[getElem?_replicate]at aE;split at aE
  .injection aE with aE
   subst aE;simp[Value.ownBlock]at aD
  .cases aE
theorem mr.below(h:mr w base vs L)(ak:Below w.heap.size w w'):mr w' base vs L:=⟨λs v aE=>own_below (h.own s v aE) ak,h.apart⟩
theorem mr.cG(h:mr w base vs L){p:Addr}(aw:∀(s:Nat) (v:Value),vs[s]?=some v->v.ownBlock≠some p.block)(u:Value):mr (w.setCell p u) base vs L:=⟨λs v aE=>ownsRow_setCell_other (h.own s v aE) (aw s v aE) u,h.apart⟩
theorem mr.push(h:mr w base vs L){s:Nat}{v:Value}(aE:vs[s]?=some v){g n cap:Nat}(aD:w.grownBy w' v.ownBlock)(eC:v.ownBlock=some g\/g=w.heap.size)
  (hown:w'.ownsRow base 5 1 (.slice (some ⟨g,0,none⟩) n cap) n (aN (L' s))) (az:(L' s).length=n) (bR:∀t,t≠s->L' t=L t):mr w' base (vs.set s (.slice (some ⟨g,0,none⟩) n cap)) L' where
 own:=λt u hu=>by
  by_cases e:s=t
  .subst e;have hl:s<vs.length:=(List.getElem?_eq_some_iff.1 aE).1;rw[getElem?_set_self hl]at hu;injection hu with hu
   subst hu;rw[az];exact hown
  .rw[getElem?_set_ne e]at hu;rw[bR t (Ne.symm e)];refine(h.own t u hu).kept aD ?_;rcases hq:u.ownBlock with _ | q
   .exact .inl rfl
   .exact .inr (λhh=>h.apart t s u v q (Ne.symm e) hu aE hq hh.symm)
 apart:=λa b x y q nl ah hy hq=>by
  have hl:s<vs.length:=(List.getElem?_eq_some_iff.1 aE).1;have key:∀t u,t≠s->vs[t]?=some u->u.ownBlock≠some g:=λt u aC hu he=>by
   rcases eC with h1 | h1
   .exact h.apart t s u v g aC hu aE he h1
   .have:=((h.own t u hu).lt g he).2;omega
  by_cases o6:s=a
  .subst o6;rw[getElem?_set_self hl]at ah;rw[getElem?_set_ne nl]at hy;injection ah with ah
   subst ah;simp only[Value.ownBlock,Option.some.injEq]at hq;subst hq;exact key b y (Ne.symm nl) hy
  .rw[getElem?_set_ne o6]at ah;by_cases qn:s=b
   .subst qn;rw[getElem?_set_self hl]at hy;injection hy with hy
    subst hy;intro he;simp only[Value.ownBlock,Option.some.injEq]at he;subst he;exact key a x (Ne.symm o6) ah hq
   .rw[getElem?_set_ne qn]at hy;exact h.apart a b x y q nl ah hy hq
end
theorem alB(c:Nat)(w:ai)(hc:c<256):Calls prog 81 #[.int .i64 c] w λe w'=>e=.returned (.int .i64 (h4 c))/\w=w':=by
 obtain⟨r,aj⟩:∃r,r=h4 c:=⟨_,rfl⟩;have bS:=aj;rw[<-aj];unfold h4 at bS;clear aj;go_enter func81,ntmps81
 by_cases h1:c<16
 .rw[aA h1]at bS;subst bS;have d1:decide (c<16)=true:=bG h1;go_wp2;go_ret;exact⟨rfl,rfl⟩
 .rw[ay h1]at bS;have d1:decide (c<16)=false:=bF h1;by_cases af:27<c
  .rw[aA af]at bS;subst bS;have d2:decide (27<c)=true:=bG af;go_wp2;go_ret;exact⟨rfl,rfl⟩
  .rw[ay af]at bS;have d2:decide (27<c)=false:=bF af;have ap:(c:Int)-12=r:=by omega
   clear bS;go_wp2;go_ret;exact⟨rfl,rfl⟩
end Go.Proofs.YtgiicohbigiapaaGreat
