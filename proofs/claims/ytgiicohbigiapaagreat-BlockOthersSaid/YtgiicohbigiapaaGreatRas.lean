/- Contracts, and what they rest on. Conditions: the theorems' premises. -/
import Derived.Test.YtgiicohbigiapaaGreatRap
import Derived.Deep.DeepCutAuto
set_option maxHeartbeats 4000000
set_option maxRecDepth 100000
open Go.Proofs.YtgiicohbigiapaaGreat.Bm
namespace Go.Proofs.YtgiicohbigiapaaGreat
open Go.RowKit
namespace Bm
def adp(ls:List Nat)(log:Nat)(ok:Bool)(M L:Nat)(n:Int):Option (List Nat):=
 if ok=true∧0≤n∧n≤1048576∧log≤L then yN ls log n.toNat (M%2^(L-log)) (L-log) (M/2^(L-log))else none
theorem Bw(V k:Nat)(h:Top V k):V.log2=k:=by
 obtain⟨h1,h2⟩:=Bv.1 h;have h0:0<V:=by have:=Nat.two_pow_pos k;omega
 have h3:=zQ V k h1 (by rw[Nat.pow_succ];omega);rw[xK V h0]at h3;omega
def rM(bs:List Nat):Option (Nat×Nat):=if bs.getLast?.getD 0=0 then none else some (aS bs%2^(aS bs).log2,(aS bs).log2)
def jg(N n:Nat):List Nat:=bytesOf (N+2^n) (n/8+1)
theorem tN(N n:Nat):(jg N n).length=n/8+1:=by simp[jg,bytesOf_length]
theorem XJ(N n:Nat):∀x∈jg N n,x<256:=eF _ _
theorem KL(V m:Nat):(bytesOf V (m+1)).getLast?=some (V/256^m%256):=by
 rw[iw,List.getLast?_append,List.getLast?_singleton];rfl
theorem Ru(N n:Nat)(h:N<2^n):rM (jg N n)=some (N,n):=by
 have ht:=acT N n h;have hv:aS (jg N n)=N+2^n:=Uh N n h;have hd:(N+2^n)/256^(n/8)%256≠0:=by
  have h1:=(Bv.1 ht).1;have h2:=tO N n h;rw[Nat.pow_succ]at h2;have hp:0<256^(n/8):=Nat.pow_pos (by omega);have h3:(N+2^n)/256^(n/8)<256:=(Nat.div_lt_iff_lt_mul hp).2 (by rw[Nat.mul_comm];exact h2);have h4:256^(n/8)≤N+2^n:=by
   refine Nat.le_trans ?_ h1;rw[rO];exact Nat.pow_le_pow_right (by omega) (by omega)
  have h5:1≤(N+2^n)/256^(n/8):=(Nat.le_div_iff_mul_le hp).2 (by omega);omega
 unfold rM;rw[hv,Bw _ _ ht,if_neg]
 ·have:=ht.sum;congr 2
  omega
 ·unfold jg;rw[KL,Option.getD_some];exact hd
theorem DZ(bs:List Nat)(N n:Nat)(hb:∀x∈bs,x<256)(h:rM bs=some (N,n)):N<2^n∧bs=jg N n∧n<8*bs.length:=by
 unfold rM at h;split at h
 ·cases h
 ·next hl=>
  injection h with h
  injection h with h1 h2
  obtain⟨front,b,rfl⟩:∃front b,bs=front++[b]:=by
   rcases List.eq_nil_or_concat bs with rfl | ⟨f,b,rfl⟩
   ·simp at hl
   ·exact⟨f,b,List.concat_eq_append⟩
  rw[List.getLast?_append,List.getLast?_singleton]at hl;have hb0:b≠0:=by simpa using hl
  obtain⟨l1,l8,ht⟩:=Km front b (fun x hx=>hb x (List.mem_append_left _ hx)) (hb b (by simp)) hb0;have hlg:=Bw _ _ ht;rw[hlg]at h1 h2;have hs:=ht.sum;rw[h1,h2]at hs;have hN:N<2^n:=by rw[←h1,←h2];exact Nat.mod_lt _ (Nat.two_pow_pos _)
  refine⟨hN,?_,by rw[List.length_append,List.length_singleton];omega⟩;unfold jg;rw[←hs];have hlen:n/8+1=(front++[b]).length:=by rw[List.length_append,List.length_singleton];omega
  rw[hlen];exact(mq _ hb).symm
def tX(ls:List Nat)(log:Nat)(syms:List Nat):Option (Nat×Nat):=(encR ls log syms).map fun t=>(t.1+t.2.2*2^t.2.1,t.2.1+log)
def VB(ls:List Nat)(log:Nat)(syms:List Nat):Option (List Nat):=(tX ls log syms).map fun t=>jg t.1 t.2
def Ak(ls:List Nat)(log:Nat)(bs:List Nat)(n:Int):Option (List Nat):=(rM bs).bind fun t=>adp ls log true t.1 t.2 n
theorem ET(ls:List Nat)(log:Nat)(h:bL ls log)(syms:List Nat)(N n:Nat)(e:tX ls log syms=some (N,n)):N<2^n∧n≤log*(syms.length+1)∧log≤n:=by
 unfold tX at e;cases hr:encR ls log syms with
 | none=>rw[hr]at e;cases e
 | some t=>
  obtain⟨N0,n0,st⟩:=t;rw[hr,Option.map_some]at e;injection e with e
  injection e with e1 e2
  subst e1 e2;obtain⟨h1,h2,h3,_⟩:=yO ls log h syms N0 n0 st hr;dsimp only;refine⟨?_,by rw[Nat.mul_add,Nat.mul_one];omega,by omega⟩;rw[Nat.pow_add,Nat.mul_comm (2^n0)];have h5:(st+1)*2^n0≤2^log*2^n0:=Nat.mul_le_mul_right _ h2;rw[Nat.add_mul,Nat.one_mul]at h5;generalize st*2^n0=A at h5 ⊢;generalize 2^log*2^n0=B at h5 ⊢;omega
theorem aaH(ls:List Nat)(log:Nat)(h:bL ls log)(syms bs:List Nat)(hl:syms.length≤1048576)(e:VB ls log syms=some bs):Ak ls log bs (syms.length:Int)=some syms:=by
 unfold VB at e;cases hc:tX ls log syms with
 | none=>rw[hc]at e;cases e
 | some t=>
  obtain⟨N,n⟩:=t;rw[hc,Option.map_some]at e;injection e with e
  subst e;obtain⟨hN,_,hln⟩:=ET ls log h syms N n hc;unfold Ak;dsimp only;rw[Ru N n hN,Option.bind_some];unfold tX at hc;cases hr:encR ls log syms with
  | none=>rw[hr]at hc;cases hc
  | some t=>
   obtain⟨N0,n0,st⟩:=t;rw[hr,Option.map_some]at hc;injection hc with hc
   injection hc with e1 e2
   subst e1 e2;obtain⟨h1,h2,h3,h4⟩:=yO ls log h syms N0 n0 st hr;obtain⟨s1,s2⟩:=KS N0 n0 st h1;dsimp only;unfold adp;rw[if_pos ⟨rfl,by omega,by omega,by omega⟩,Int.toNat_natCast,Nat.add_sub_cancel,s1,s2];exact h4
theorem aaK(ls:List Nat)(log:Nat)(h:bL ls log)(bs syms:List Nat)(n:Int)(hb:∀x∈bs,x<256)(e:Ak ls log bs n=some syms):VB ls log syms=some bs∧(syms.length:Int)=n∧n≤1048576∧∀s∈syms,s<256:=by
 unfold Ak at e;cases ho:rM bs with
 | none=>rw[ho]at e;cases e
 | some t=>
  obtain⟨N,L⟩:=t;rw[ho,Option.bind_some]at e;obtain⟨hN,hbs,_⟩:=DZ bs N L hb ho;dsimp only at e;unfold adp at e;split at e
  ·next hc=>
   obtain⟨_,h0,hn,hlL⟩:=hc;obtain⟨q,rfl⟩:∃q,L=q+log:=⟨L-log,by omega⟩;rw[Nat.add_sub_cancel]at e;have hst:N/2^q<2^log:=by
    rw[Nat.pow_add,Nat.mul_comm]at hN;exact(Nat.div_lt_iff_lt_mul (Nat.pow_pos (by omega))).2 hN
   have hmod:N%2^q<2^q:=Nat.mod_lt _ (Nat.two_pow_pos _);obtain⟨h1,h2⟩:=Zf ls log h n.toNat _ q _ syms hmod hst e;refine⟨?_,by omega,hn,?_⟩
   ·unfold VB tX;rw[h1];simp only[Option.map_some];congr 1
    rw[hbs];congr 1
    have:=Nat.div_add_mod N (2^q);rw[Nat.mul_comm]at this;omega
   ·intro s hs;have hp:0<ls[s]?.getD 0:=by
     rcases Nat.eq_zero_or_pos (ls[s]?.getD 0)with h3 | h3
     ·rw[IK ls log h s h3 syms hs]at h1;cases h1
     ·exact h3
    have hlen:=h.len;rcases Nat.lt_or_ge s ls.length with h4 | h4
    ·omega
    ·rw[List.getElem?_eq_none h4]at hp;simp at hp
  ·cases e
end Bm
def uP(w':World)(e:Ending):Option (List Nat)→Prop
 | none=>∃A c,e=.returned (.tuple #[.slice A 0 c,.bool false])
 | some bs=>∃A c,e=.returned (.tuple #[.slice A bs.length c,.bool true])∧Reads w' A (u8s bs)
def dR:Option (Nat×Nat)→Value
 | none=>.tuple #[.int .i64 0,.bool false]
 | some t=>.tuple #[.int .i64 (t.2:Int),.bool true]
end Go.Proofs.YtgiicohbigiapaaGreat
namespace Go.Proofs.YtgiicohbigiapaaGreat.Bm
theorem Tw(cs:List Nat):(cs.map (fun n:Nat=>(n:Int))).sum=((cs.sum:Nat):Int):=by
 induction cs with
 | nil=>simp
 | cons a l ih=>rw[List.map_cons,List.sum_cons,ih,List.sum_cons];omega
theorem vU(l:List Nat)(x:Nat)(h:x∈l):x≤l.sum:=by
 induction l with
 | nil=>cases h
 | cons a l ih=>
  rw[List.sum_cons];rcases List.mem_cons.1 h with rfl | h1
  ·omega
  ·have:=ih h1;omega
theorem RL(cs:List Nat):xU cs=kH (cs.map (fun n:Nat=>(n:Int))):=by
 unfold xU kH;rw[List.countP_map];apply List.countP_congr
 intro x _;simp
theorem Gx(bs:List Nat)(hlt:∀x∈bs,x<256)(hl:bs.length≤1048576)(h0:0<bs.length) :
  ∃ls:List Nat,jh (aF bs) (iL (aF bs):Int)=ls.map (fun n:Nat=>(n:Int))∧Fair (jh (aF bs) (iL (aF bs):Int)) (iL (aF bs):Int)∧(∀b∈bs,0<ls[b]?.getD 0)∧ls.length≤256:=by
 have hso:=(kP bs hlt hl).2 h0;obtain⟨hr,h5,h9,hs⟩:=hso;have hsA:jh (aF bs) (iL (aF bs):Int)=(qx ((aF bs).map Int.toNat) (2^iL (aF bs))).map (fun n:Nat=>(n:Int)):=by
  unfold jh;rw[if_pos ⟨hr,h5,h9,hs⟩,Int.toNat_natCast]
 have hcs:(aF bs).map Int.toNat=aR bs:=by
  unfold aF;rw[List.map_map];conv=>rhs;rw[←List.map_id (aR bs)]
  apply List.map_congr_left
  intro x _;rfl
 rw[hcs]at hsA;rw[Int.toNat_natCast]at hs;have hlen:(aR bs).length=iD bs:=by simp[aR]
 have ht:=jO bs hlt;obtain⟨b0,hb0⟩:∃b,b∈bs:=by
  cases bs with
  | nil=>simp at h0
  | cons b bs=>exact⟨b,List.mem_cons_self⟩
 have hget:∀b∈bs,(aR bs)[b]?=some (bs.count b):=fun b hb=>by
  unfold aR;rw[List.getElem?_map,List.getElem?_range (jG bs b hb)];rfl
 have hsum:0<(aR bs).sum:=by
  have h1:=List.mem_of_getElem? (hget b0 hb0);have h2:=vU _ _ h1;have h3:=List.count_pos_iff.2 hb0;omega
 have hsp:=rY (aR bs) (2^iL (aF bs)) hsum (by rw[RL];exact hs);have hP:=Nat.pow_le_pow_right (n:=2) (j:=9) (by omega) (show iL (aF bs)≤9 by omega);refine⟨_,hsA,?_,?_,by rw[hsp.2.1,hlen];exact ht⟩
 ·rw[hsA];refine⟨h5,h9,by rw[List.length_map,hsp.2.1,hlen];exact ht,?_,by rw[Tw,hsp.1,Int.toNat_natCast]⟩;intro x hx;obtain⟨y,hy,rfl⟩:=List.mem_map.1 hx;have:=vU _ _ hy;rw[hsp.1]at this;omega
 ·intro b hb;have h1:=hsp.2.2 b;rw[hget b hb,Option.getD_some]at h1;exact h1.2 (List.count_pos_iff.2 hb)
def qH(bs:List Nat):Option (List Nat×Nat):=
 if 0<(aj bs).2∧(aj bs).1≤4096∧(aj bs).1≤bs.length-(aj bs).2 then some ((bs.drop (aj bs).2).take (aj bs).1,(aj bs).2+(aj bs).1)else none
def Mw(V len left:Nat):Bool:=decide (left<8∧V/2^(len-left)=0)
def headD(hd:List Nat):Option (List Nat×Nat):=
 match takeA (aS hd) (8*hd.length)with
 | none=>none
 | some t=>if Mw (aS hd) (8*hd.length) t.2.2=true then some (t.1,t.2.1)else none
def fD(t:List Nat)(n:Nat):Option (List Nat×Nat):=
 match qH t with
 | none=>none
 | some p=>match qH (t.drop p.2)with
  | none=>none
  | some q=>match headD p.1 with
   | none=>none
   | some h=>(Ak h.1 h.2 q.1 (n:Int)).map fun c=>(c,p.2+q.2)
def nV(bs:List Nat)(n:Nat):Option (List Nat×Nat):=
 match bs with
 | []=>none
 | k :: t=>if k=0 then(if n≤t.length then some (t.take n,1+n)else none)
  else if k=1 then(if 0<t.length then some (List.replicate n (t[0]?.getD 0),2)else none)
  else if k=2 then(fD t n).map fun r=>(r.1,1+r.2)else none
theorem DL(t:List Nat)(n:Nat):nV (0 :: t) n=if n≤t.length then some (t.take n,1+n)else none:=rfl
theorem DN(t:List Nat)(n:Nat):nV (1 :: t) n=if 0<t.length then some (List.replicate n (t[0]?.getD 0),2)else none:=rfl
theorem DR(t:List Nat)(n:Nat):nV (2 :: t) n=(fD t n).map fun r=>(r.1,1+r.2):=rfl
theorem JM(k:Nat)(t:List Nat)(n:Nat)(h:2<k):nV (k :: t) n=none:=by
 show(if k=0 then _ else if k=1 then _ else if k=2 then _ else none)=none;rw[if_neg (by omega),if_neg (by omega),if_neg (by omega)]
def Ed(bs:List Nat)(n:Nat):Option (List Nat×Nat):=
 match nV bs n with
 | none=>none
 | some r=>if ∀x∈r.1,x<28 then some r else none
def gB:Nat→List Nat→Nat→Option (List (List Nat)×Nat)
 | 0,_,_=>some ([],0)
 | k+1,bs,n=>match Ed bs n with
  | none=>none
  | some r=>(gB k (bs.drop r.2) n).map fun q=>(r.1 :: q.1,r.2+q.2)
def exK(c:Nat):Nat:=if c<16 then 0 else c-12
def NI(c V:Nat):Nat:=if c<16 then c else 2^(c-12)+V%2^(c-12)
def oM:List Nat→Nat→Nat→Option (List Nat×Nat×Nat)
 | [],V,L=>some ([],V,L)
 | c :: cs,V,L=>if exK c≤L then(oM cs (V/2^exK c) (L-exK c)).map fun r=>(NI c V :: r.1,r.2)else none
def lM:List (List Nat)→Nat→Nat→Int×Int×Int→Option (List Stp×Nat×Nat)
 | [],V,L,_=>some ([],V,L)
 | cs :: l,V,L,r=>match oM cs V L with
  | none=>none
  | some t=>match xR r.1 r.2.1 r.2.2 ((t.1[2]?.getD 0:Nat):Int)with
   | none=>none
   | some x=>(lM l t.2.1 t.2.2 (oz r.1 r.2.1 r.2.2 x)).map fun q=>((t.1[0]?.getD 0,t.1[1]?.getD 0+3,x.toNat) :: q.1,q.2)
def atD(cs:List (List Nat))(i:Nat):List Nat:=cs.map fun l=>l[i]?.getD 0
def kU(cs:List (List Nat))(n:Nat):List (List Nat):=(List.range n).map (atD cs)
def aaP:Option (List Stp×Nat×Nat)→Option (List Stp)
 | none=>none
 | some t=>if t.2.2<8∧t.2.1=0 then some t.1 else none
def kF(cs:List (List Nat))(n:Nat)(bd:List Nat):Option (List Stp):=aaP (lM (kU cs n) (aS bd) (8*bd.length) (1,2,4))
def qO(bs:List Nat)(most:Int):Option (List Stp×Nat):=
 if 0<(aj bs).2∧((aj bs).1:Int)≤most∧(aj bs).1≤1000 then
  (if (aj bs).1=0 then some ([],(aj bs).2)else
   match gB 3 (bs.drop (aj bs).2) (aj bs).1 with
   | none=>none
   | some p=>match qH ((bs.drop (aj bs).2).drop p.2)with
    | none=>none
    | some q=>(kF p.1 (aj bs).1 q.1).map fun l=>(l,(aj bs).2+p.2+q.2))
 else none
theorem MO(t:List Nat)(n:Nat)(l:List Nat)(k:Nat)(hlt:∀x∈t,x<256)(h:fD t n=some (l,k)):l.length=n∧∀x∈l,x<256:=by
 unfold fD at h;split at h
 ·cases h
 ·next p hp=>
  split at h
  ·cases h
  ·next q hq=>
   split at h
   ·cases h
   ·next u hu=>
    cases hd:Ak u.1 u.2 q.1 (n:Int)with
    | none=>rw[hd]at h;cases h
    | some c=>
     rw[hd,Option.map_some]at h;injection h with h
     injection h with h1 h2
     subst h1;have hf:bL u.1 u.2:=by
      unfold headD at hu;split at hu
      ·cases hu
      ·next v hv=>
       split at hu
       ·injection hu with hu
        subst hu;exact(sw _ _ v.1 v.2.1 v.2.2 hv).1
       ·cases hu
     have hb:∀x∈q.1,x<256:=by
      unfold qH at hq;split at hq
      ·injection hq with hq
       subst hq;exact fun x hx=>hlt x (List.mem_of_mem_drop (List.mem_of_mem_drop (List.mem_of_mem_take hx)))
      ·cases hq
     obtain⟨_,k2,_,k4⟩:=aaK u.1 u.2 hf q.1 c n hb hd;exact⟨by omega,k4⟩
theorem JN(bs:List Nat)(n:Nat)(hlt:∀x∈bs,x<256)(l:List Nat)(k:Nat)(h:nV bs n=some (l,k)):l.length=n∧∀x∈l,x<256:=by
 cases bs with
 | nil=>cases h
 | cons y t=>
  have htt:∀x∈t,x<256:=fun x hx=>hlt x (List.mem_cons_of_mem _ hx)
  by_cases h0:y=0
  ·subst h0;rw[DL]at h;split at h
   ·injection h with h
    injection h with h1 _
    subst h1;exact⟨by rw[List.length_take];omega,fun x hx=>htt x (List.mem_of_mem_take hx)⟩
   ·cases h
  ·by_cases h1:y=1
   ·subst h1;rw[DN]at h;split at h
    ·next hp=>
     injection h with h
     injection h with h1 _
     subst h1;refine⟨List.length_replicate,fun x hx=>?_⟩;rw[List.mem_replicate]at hx;rw[hx.2,List.getElem?_eq_getElem hp,Option.getD_some];exact htt _ (List.getElem_mem hp)
    ·cases h
   ·by_cases h2:y=2
    ·subst h2;rw[DR]at h;cases hs:fD t n with
     | none=>rw[hs]at h;cases h
     | some r=>
      rw[hs,Option.map_some]at h;injection h with h
      injection h with h1 _
      subst h1;exact MO t n r.1 r.2 htt hs
    ·rw[JM y t n (by omega)]at h;cases h
theorem acN(bs:List Nat)(n:Nat)(hlt:∀x∈bs,x<256)(l:List Nat)(k:Nat)(h:Ed bs n=some (l,k)):l.length=n∧∀x∈l,x<28:=by
 unfold Ed at h;split at h
 ·cases h
 ·next r hr=>
  split at h
  ·next h28=>
   injection h with h
   subst h;exact⟨(JN bs n hlt l k hr).1,h28⟩
  ·cases h
theorem Ib(t u:List Nat)(h:t.length≤4096):qH (grp t.length++(t++u))=some (t,(grp t.length).length+t.length)∧(grp t.length++(t++u)).drop ((grp t.length).length+t.length)=u:=by
 have hp:=oJ t.length (by omega);have hd:(grp t.length++(t++u)).drop (grp t.length).length=t++u:=List.drop_left;constructor
 ·unfold qH;rw[fH t.length (t++u) (by omega)];dsimp only;rw[if_pos ⟨hp,h,by rw[List.length_append,List.length_append];omega⟩,hd,List.take_left]
 ·rw[←List.drop_drop,hd,List.drop_left]
structure UW(c S:List Nat):Prop where
 read:∀u,Ed (S++u) c.length=some (c,S.length)
 lt:∀x∈S,x<256
structure UU(c S:List Nat):Prop where
 q:UW c S
 len:S.length≤c.length+1
 first:S.length=c.length+1→S=0 :: c
theorem acU(l:List Nat)(t:List Nat×Nat)(h:qH l=some t):0<t.2:=by
 unfold qH at h;split at h
 ·injection h with h
  subst h;dsimp only;omega
 ·cases h
theorem XA(bs:List Nat)(n:Nat)(hn:1≤n)(r:List Nat×Nat)(h:nV bs n=some r):2≤r.2:=by
 cases bs with
 | nil=>cases h
 | cons k t=>
  by_cases h0:k=0
  ·subst h0;rw[DL]at h;split at h
   ·injection h with h
    subst h;dsimp only;omega
   ·cases h
  ·by_cases h1:k=1
   ·subst h1;rw[DN]at h;split at h
    ·injection h with h
     subst h;exact Nat.le_refl _
    ·cases h
   ·by_cases h2:k=2
    ·subst h2;rw[DR]at h;cases hd:fD t n with
     | none=>rw[hd]at h;cases h
     | some x=>
      rw[hd,Option.map_some]at h;injection h with h
      subst h;unfold fD at hd;split at hd
      ·cases hd
      ·next p hp=>
       have p0:=acU _ p hp;split at hd
       ·cases hd
       ·next q hq=>
        split at hd
        ·cases hd
        ·next u hu=>
         cases he:Ak u.1 u.2 q.1 (n:Int)with
         | none=>rw[he]at hd;cases hd
         | some c=>
          rw[he,Option.map_some]at hd;injection hd with hd
          subst hd;dsimp only;omega
    ·rw[JM k t n (by omega)]at h;cases h
theorem wm(c S:List Nat)(h:UU c S)(h1:c.length=1):S=0 :: c:=by
 apply h.first
 have hr:=h.q.read [];rw[List.append_nil,h1]at hr;unfold Ed at hr;split at hr
 ·cases hr
 ·next r hr2=>
  split at hr
  ·injection hr with hr
   have h2:=XA S 1 (by omega) r hr2;have hl:=h.len;rw[hr]at h2;dsimp only at h2;omega
  ·cases hr
theorem oV(bs:List Nat)(n:Nat)(c:List Nat)(k:Nat)(h:nV bs n=some (c,k))(h28:∀x∈c,x<28):Ed bs n=some (c,k):=by
 unfold Ed;rw[h];dsimp only;rw[if_pos h28]
def dY(c:List Nat):List Nat:=0 :: c
def jy(c:List Nat):List Nat:=1 :: c.take 1
def pF(hd bd:List Nat):List Nat:=2 :: (grp hd.length++(hd++(grp bd.length++bd)))
theorem Tv(c:List Nat)(h28:∀x∈c,x<28):UW c (dY c):=by
 refine⟨fun u=>oV _ _ _ _ ?_ h28,fun x hx=>?_⟩
 ·show nV (0 :: (c++u)) c.length=_;rw[DL,if_pos (by rw[List.length_append];omega),List.take_left];simp[dY];omega
 ·rcases List.mem_cons.1 hx with rfl | hx
  ·omega
  ·have:=h28 x hx;omega
theorem Tn(c:List Nat)(h28:∀x∈c,x<28)(h:kH (aF c)=1):UW c (jy c):=by
 obtain⟨x,e,h0⟩:=vZ c h;have e1:c.take 1=[x]:=by
  rw[e];obtain⟨n,hn⟩:∃n,c.length=n+1:=⟨c.length-1,by omega⟩;rw[hn];rfl
 have hx:x<28:=h28 x (by rw[e,List.mem_replicate];exact⟨by omega,rfl⟩);refine⟨fun u=>oV _ _ _ _ ?_ h28,fun y hy=>?_⟩
 ·unfold jy;rw[e1];show nV (1 :: x :: u) c.length=_;rw[DN,if_pos (by simp)];simp only[List.getElem?_cons_zero,Option.getD_some,List.length_cons,List.length_nil];rw[←e]
 ·unfold jy at hy;rw[e1]at hy;simp at hy;omega
theorem Ra:∀(l:List Nat) (x:Nat),x∈l→x≤l.sum
 | [],_,h=>by cases h
 | y :: l,x,h=>by
  rw[List.sum_cons];rcases List.mem_cons.1 h with rfl | h
  ·omega
  ·have:=Ra l x h;omega
theorem wV:∀(l:List Nat),(∀h:l≠[],0<l.getLast h)→aI l=l
 | [],_=>rfl
 | n :: l,h=>by
  have h1:=h (by simp);unfold aI;cases l with
  | nil=>
   simp at h1;rw[if_neg (by simp;omega)];rfl
  | cons m r=>
   have h2:0<(m :: r).getLast (by simp):=by rw[List.getLast_cons (by simp)]at h1;exact h1
   have h3:(m :: r).getLast (by simp)≤(m :: r).sum:=Ra _ _ (List.getLast_mem _);rw[if_neg (by omega),wV (m :: r) (fun _=>h2)]
theorem VZ(ls:List Nat)(lg:Nat)(hf:bL ls lg)(hs:aI ls=ls):headD (bytesOf (jl ls lg).1 (((jl ls lg).2+7)/8))=some (ls,lg):=by
 have hlt:=abb ls lg hf;obtain⟨e,he⟩:∃e,8*(((jl ls lg).2+7)/8)=(jl ls lg).2+e:=⟨8*(((jl ls lg).2+7)/8)-(jl ls lg).2,by omega⟩;have ht:=TL ls lg 0 e hf;rw[Nat.zero_mul,Nat.add_zero,hs]at ht;have hv:aS (bytesOf (jl ls lg).1 (((jl ls lg).2+7)/8))=(jl ls lg).1:=by
  rw[iE,rO];exact Nat.mod_eq_of_lt (Nat.lt_of_lt_of_le hlt (Nat.pow_le_pow_right (by omega) (by omega)))
 unfold headD;rw[hv,bytesOf_length,he,ht];dsimp only;have he8:e<8:=by omega
 have hend:Mw (jl ls lg).1 ((jl ls lg).2+e) e=true:=by
  unfold Mw;rw[Nat.add_sub_cancel];exact decide_eq_true ⟨he8,Nat.div_eq_of_lt hlt⟩
 rw[if_pos hend]
theorem Tq(c ls bd:List Nat)(lg:Nat)(h28:∀x∈c,x<28)(hf:bL ls lg)(hs:aI ls=ls)(he:VB ls lg c=some bd)(hbd:bd.length≤4096)(hb256:∀x∈bd,x<256)(hcl:c.length≤10000):UW c (pF (bytesOf (jl ls lg).1 (((jl ls lg).2+7)/8)) bd):=by
 have hhd:=VZ ls lg hf hs;have hb3:=(CX ls lg hf).2;have hd:=aaH ls lg hf c bd (by omega) he;have hl:(bytesOf (jl ls lg).1 (((jl ls lg).2+7)/8)).length≤4096:=by rw[bytesOf_length];omega
 have hlt:∀x∈bytesOf (jl ls lg).1 (((jl ls lg).2+7)/8),x<256:=eF _ _;generalize bytesOf (jl ls lg).1 (((jl ls lg).2+7)/8)=hd' at *;refine⟨fun u=>oV _ _ _ _ ?_ h28,fun x hx=>?_⟩
 ·show nV (2 :: ((grp hd'.length++(hd'++(grp bd.length++bd)))++u)) c.length=_;have e1:(grp hd'.length++(hd'++(grp bd.length++bd)))++u=grp hd'.length++(hd'++(grp bd.length++(bd++u))):=by simp only[List.append_assoc]
  rw[e1];obtain⟨t1,t2⟩:=Ib hd' (grp bd.length++(bd++u)) hl;obtain⟨t3,t4⟩:=Ib bd u hbd;rw[DR];unfold fD;rw[t1];dsimp only;rw[t2,t3];dsimp only;rw[hhd];dsimp only;rw[hd];simp[pF];omega
 ·unfold pF at hx;rcases List.mem_cons.1 hx with rfl | hx
  ·omega
  rcases List.mem_append.1 hx with hx | hx
  ·exact jX _ (by omega) x hx
  rcases List.mem_append.1 hx with hx | hx
  ·exact hlt x hx
  rcases List.mem_append.1 hx with hx | hx
  ·exact jX _ (by omega) x hx
  ·exact hb256 x hx
def Ew(s:StZ):Prop:=0≤s.1∧s.1≤65535∧3≤s.2.1∧s.2.1≤65538∧1≤s.2.2∧s.2.2≤65533
instance (s:StZ):Decidable (Ew s):=by unfold Ew;infer_instance
def Zx(s:StZ):Stp:=(s.1.toNat,s.2.1.toNat,s.2.2.toNat)
def kJ(r:Int×Int×Int)(s:StZ):List Nat:=[s.1.toNat,(s.2.1-3).toNat,(nU r.1 r.2.1 r.2.2 s.2.2).toNat]
def aP:(Int×Int×Int)→List StZ→List (List Nat)
 | _,[]=>[]
 | r,s :: l=>kJ r s :: aP (oz r.1 r.2.1 r.2.2 s.2.2) l
def Bf:(Int×Int×Int)→List StZ→Int×Int×Int
 | r,[]=>r
 | r,s :: l=>Bf (oz r.1 r.2.1 r.2.2 s.2.2) l
theorem zn:∀(l:List StZ) (r:Int×Int×Int) (s:StZ),aP r (l++[s])=aP r l++[kJ (Bf r l) s]
 | [],_,_=>rfl
 | t :: l,r,s=>by
  rw[List.cons_append,aP,aP,Bf,zn l,List.cons_append]
theorem DV:∀(l:List StZ) (r:Int×Int×Int) (s:StZ),Bf r (l++[s])=oz (Bf r l).1 (Bf r l).2.1 (Bf r l).2.2 s.2.2
 | [],_,_=>rfl
 | t :: l,r,s=>by rw[List.cons_append,Bf,Bf,DV l]
theorem fK:∀(l:List StZ) (r:Int×Int×Int),(aP r l).length=l.length
 | [],_=>rfl
 | t :: l,r=>by rw[aP,List.length_cons,List.length_cons,fK l]
def bG:List Nat→Nat×Nat
 | []=>(0,0)
 | v :: l=>(kr v+(bG l).1*2^gu v,gu v+(bG l).2)
theorem yF:∀(l:List Nat) (v:Nat),bG (l++[v])=((bG l).1+kr v*2^(bG l).2,(bG l).2+gu v)
 | [],v=>by simp[bG]
 | x :: l,v=>by
  rw[List.cons_append,bG,yF l v,bG];dsimp only;rw[Nat.pow_add,Nat.add_mul,Nat.add_assoc,Nat.mul_assoc,Nat.mul_comm (2^(bG l).2) (2^gu x),Nat.add_assoc]
theorem FV(v:Nat):kr v<2^gu v:=by
 unfold kr gu;split
 ·simp
 ·exact Nat.mod_lt _ (Nat.pow_pos (by omega))
theorem Ir:∀l:List Nat,(bG l).1<2^(bG l).2
 | []=>by simp[bG]
 | v :: l=>by
  have h:=Ir l;have hm:=FV v;show kr v+(bG l).1*2^gu v<2^(gu v+(bG l).2);rw[Nat.pow_add,Nat.mul_comm (2^gu v)];have h5:((bG l).1+1)*2^gu v≤2^(bG l).2*2^gu v:=Nat.mul_le_mul_right _ h;rw[Nat.add_mul,Nat.one_mul]at h5;omega
theorem uq(l:List Nat)(h:∀v∈l,v≤65535):(bG l).2≤15*l.length:=by
 induction l with
 | nil=>simp[bG]
 | cons v l ih=>
  have h1:=(mD v (h v List.mem_cons_self)).2.2.1;have h2:=ih (fun x hx=>h x (List.mem_cons_of_mem _ hx));rw[bG,List.length_cons];dsimp only;omega
theorem Fg(v:Nat)(h:v≤65535):exK (kM v)=gu v∧kM v<28:=by
 obtain⟨h1,_,h3,_⟩:=mD v h;refine⟨?_,by omega⟩;unfold exK kM gu;by_cases h16:v<16
 ·rw[if_pos h16,if_pos h16,if_pos h16]
 ·obtain⟨k,hk4,_,_,_,hw⟩:=Il v (by omega) h;rw[if_neg h16,if_neg h16,hw,if_neg (by omega)];omega
theorem WU(v V:Nat)(h:v≤65535)(hV:V%2^gu v=kr v):NI (kM v) V=v:=by
 have hs:=(mD v h).2.2.2;obtain⟨he,h28⟩:=Fg v h;unfold NI;unfold iF at hs;unfold exK at he;by_cases h16:kM v<16
 ·rw[if_pos h16]at hs ⊢;split at hs
  ·injection hs
  ·cases hs
 ·rw[if_neg h16]at hs he ⊢;rw[if_neg (by omega)]at hs;split at hs
  ·injection hs with hs
   rw[he,hV,←he];exact hs
  ·cases hs
theorem zo(l:List Nat)(m:Nat):∀vs:List Nat,(∀v∈vs,v≤65535)→oM (vs.map kM) (bG (vs++l)).1 ((bG (vs++l)).2+m)=some (vs,(bG l).1,(bG l).2+m)
 | [],_=>rfl
 | v :: vs,h=>by
  have hv:=h v List.mem_cons_self;have ih:=zo l m vs (fun x hx=>h x (List.mem_cons_of_mem _ hx));obtain⟨he,h28⟩:=Fg v hv;have hm:=FV v;rw[List.map_cons,List.cons_append,bG,oM,he];dsimp only;have e1:(kr v+(bG (vs++l)).1*2^gu v)/2^gu v=(bG (vs++l)).1:=by
   rw[Nat.add_mul_div_right _ _ (Nat.pow_pos (by omega)),Nat.div_eq_of_lt hm,Nat.zero_add]
  have e2:(kr v+(bG (vs++l)).1*2^gu v)%2^gu v=kr v:=by
   rw[Nat.add_mul_mod_self_right,Nat.mod_eq_of_lt hm]
  rw[if_pos (by omega),e1,show gu v+(bG (vs++l)).2+m-gu v=(bG (vs++l)).2+m by omega,ih,WU v _ hv e2];rfl
theorem AV(a b c x:Int)(h1:1≤x)(h2:x≤65533):0≤nU a b c x∧nU a b c x≤65535:=by
 unfold nU;rw[if_neg (by omega)];split
 ·omega
 ·split
  ·omega
  ·split<;>omega
theorem Kl(r:Int×Int×Int)(s:StZ)(h:Ew s):∀v∈kJ r s,v≤65535:=by
 obtain⟨h0,h1,h2,h3,h4,h5⟩:=h;have hn:=AV r.1 r.2.1 r.2.2 s.2.2 h4 h5;intro v hv;simp only[kJ,List.mem_cons,List.not_mem_nil,or_false]at hv;rcases hv with rfl | rfl | rfl<;>omega
theorem rJ:∀(l:List StZ) (r:Int×Int×Int),(∀s∈l,Ew s)→∀v∈(aP r l).flatten,v≤65535
 | [],_,_,v,hv=>by simp[aP]at hv
 | s :: l,r,h,v,hv=>by
  rw[aP,List.flatten_cons]at hv;rcases List.mem_append.1 hv with hv | hv
  ·exact Kl r s (h s List.mem_cons_self) v hv
  ·exact rJ l _ (fun x hx=>h x (List.mem_cons_of_mem _ hx)) v hv
theorem iY:∀(l:List StZ) (r:Int×Int×Int),(aP r l).flatten.length=3*l.length
 | [],_=>rfl
 | s :: l,r=>by
  rw[aP,List.flatten_cons,List.length_append,iY l,List.length_cons];simp[kJ];omega
theorem xk(m:Nat):∀(l:List StZ) (r:Int×Int×Int),(∀s∈l,Ew s) →
  lM ((aP r l).map (List.map kM)) (bG (aP r l).flatten).1 ((bG (aP r l).flatten).2+m) r=some (l.map Zx,0,m)
 | [],r,_=>by simp[aP,lM,bG]
 | s :: l,r,h=>by
  have hs:=h s List.mem_cons_self;have ih:=xk m l (oz r.1 r.2.1 r.2.2 s.2.2) (fun x hx=>h x (List.mem_cons_of_mem _ hx));obtain⟨h0,h1,h2,h3,h4,h5⟩:=id hs;have hn:=AV r.1 r.2.1 r.2.2 s.2.2 h4 h5;have ho:=abW r.1 r.2.1 r.2.2 s.2.2 hn.1;rw[aP,List.map_cons,List.flatten_cons,lM,zo _ m (kJ r s) (Kl r s hs)];dsimp only;have e2:(((kJ r s)[2]?.getD 0:Nat):Int)=nU r.1 r.2.1 r.2.2 s.2.2:=by
   simp only[kJ,List.getElem?_cons_succ,List.getElem?_cons_zero,Option.getD_some];omega
  rw[e2,ho];dsimp only;rw[ih,Option.map_some,List.map_cons];have e3:((kJ r s)[0]?.getD 0,(kJ r s)[1]?.getD 0+3,s.2.2.toNat)=Zx s:=by
   simp only[kJ,List.getElem?_cons_succ,List.getElem?_cons_zero,Option.getD_some,Zx];rw[show(s.2.1-3).toNat+3=s.2.1.toNat by omega]
  rw[e3]
def cZ(j:Nat)(N:List (List Nat)):List Nat:=N.map fun vs=>kM (vs[j]?.getD 0)
def IB(N:List (List Nat)):List (List Nat):=[cZ 0 N,cZ 1 N,cZ 2 N]
theorem MG(l:List StZ)(r:Int×Int×Int):kU (IB (aP r l)) l.length=(aP r l).map (List.map kM):=by
 have hl:=fK l r;have h3:∀vs∈aP r l,vs.length=3:=by
  clear hl;induction l generalizing r with
  | nil=>intro vs h;simp[aP]at h
  | cons s l ih=>
   intro vs h;rw[aP]at h;rcases List.mem_cons.1 h with rfl | h
   ·rfl
   ·exact ih _ vs h
 generalize aP r l=N at *;apply List.ext_getElem
 ·simp[kU,hl]
 ·intro i h1 h2;have hi:i<N.length:=by simpa using h2
  have hv:=h3 N[i] (List.getElem_mem hi);simp only[kU,List.getElem_map,List.getElem_range,atD,IB,cZ,List.map_cons,List.map_nil,List.getElem?_map,List.getElem?_eq_getElem hi,Option.map_some,Option.getD_some];generalize N[i]=vs at *;match vs,hv with
  | [a,b,c],_=>rfl
def dK(N:List (List Nat)):List Nat:=bytesOf (bG N.flatten).1 (((bG N.flatten).2+7)/8)
def JW(n:Nat)(S0 S1 S2 bd:List Nat):List Nat:=grp n++(S0++(S1++(S2++(grp bd.length++bd))))
structure aev(l:List StZ)(S:List Nat):Prop where
 read:∀u,qO (S++u) (l.length:Int)=some (l.map Zx,S.length)
 lt:∀x∈S,x<256
 len:S.length≤10000
 one:l.length=1→S=JW 1 (0 :: cZ 0 (aP (1,2,4) l)) (0 :: cZ 1 (aP (1,2,4) l)) (0 :: cZ 2 (aP (1,2,4) l)) (dK (aP (1,2,4) l))
theorem acD(l:List StZ)(h0:0<l.length)(hl:l.length≤700)(hm:∀s∈l,Ew s)(S0 S1 S2:List Nat)(h1:UU (cZ 0 (aP (1,2,4) l)) S0)(h2:UU (cZ 1 (aP (1,2,4) l)) S1)(h3:UU (cZ 2 (aP (1,2,4) l)) S2) :
  aev l (JW l.length S0 S1 S2 (dK (aP (1,2,4) l))):=by
 have hp:∀j,(cZ j (aP (1,2,4) l)).length=l.length:=fun j=>by rw[cZ,List.length_map,fK]
 have r1:=h1.q.read;have r2:=h2.q.read;have r3:=h3.q.read;have g1:=h1.len;have g2:=h2.len;have g3:=h3.len;rw[hp]at r1 r2 r3 g1 g2 g3;have hbl:(dK (aP (1,2,4) l)).length≤4096:=by
  have a1:=uq _ (rJ l (1,2,4) hm);have a2:=iY l (1,2,4);rw[dK,bytesOf_length];omega
 have hb256:∀x∈dK (aP (1,2,4) l),x<256:=eF _ _;have hgp:=oJ l.length (by omega);have hst:kF (IB (aP (1,2,4) l)) l.length (dK (aP (1,2,4) l))=some (l.map Zx):=by
  obtain⟨e,he⟩:∃e,8*(((bG (aP (1,2,4) l).flatten).2+7)/8)=(bG (aP (1,2,4) l).flatten).2+e:=⟨8*(((bG (aP (1,2,4) l).flatten).2+7)/8)-(bG (aP (1,2,4) l).flatten).2,by omega⟩;have hv:aS (dK (aP (1,2,4) l))=(bG (aP (1,2,4) l).flatten).1:=by
   rw[dK,iE,rO];exact Nat.mod_eq_of_lt (Nat.lt_of_lt_of_le (Ir _) (Nat.pow_le_pow_right (by omega) (by omega)))
  have hl8:8*(dK (aP (1,2,4) l)).length=(bG (aP (1,2,4) l).flatten).2+e:=by rw[dK,bytesOf_length,he]
  unfold kF;rw[MG,hv,hl8,xk e l (1,2,4) hm];unfold aaP;dsimp only;rw[if_pos ⟨by omega,rfl⟩]
 have hone:l.length=1→JW l.length S0 S1 S2 (dK (aP (1,2,4) l))=JW 1 (0 :: cZ 0 (aP (1,2,4) l)) (0 :: cZ 1 (aP (1,2,4) l)) (0 :: cZ 2 (aP (1,2,4) l)) (dK (aP (1,2,4) l)):=fun h=>by
  rw[wm _ _ h1 (by rw[hp,h]),wm _ _ h2 (by rw[hp,h]),wm _ _ h3 (by rw[hp,h]),h]
 generalize hbd:dK (aP (1,2,4) l)=bd at *;refine⟨fun u=>?_,fun x hx=>?_,?_,fun h=>by rw[hbd];exact hone h⟩
 ·have e1:JW l.length S0 S1 S2 bd++u=grp l.length++(S0++(S1++(S2++(grp bd.length++(bd++u))))):=by simp only[JW,List.append_assoc]
  have hd:(grp l.length++(S0++(S1++(S2++(grp bd.length++(bd++u)))))).drop (grp l.length).length=S0++(S1++(S2++(grp bd.length++(bd++u)))):=List.drop_left;unfold qO;rw[e1,fH l.length _ (by omega)];dsimp only;rw[if_pos ⟨hgp,Int.le_refl _,by omega⟩,if_neg (by omega),hd];have hs3:gB 3 (S0++(S1++(S2++(grp bd.length++(bd++u))))) l.length=some (IB (aP (1,2,4) l),S0.length+(S1.length+(S2.length+0))):=by
   rw[gB,r1];dsimp only;rw[List.drop_left,gB,r2];dsimp only;rw[List.drop_left,gB,r3];rfl
  rw[hs3];dsimp only;have hd2:(S0++(S1++(S2++(grp bd.length++(bd++u))))).drop (S0.length+(S1.length+(S2.length+0)))=grp bd.length++(bd++u):=by
   rw[←List.drop_drop,List.drop_left,←List.drop_drop,List.drop_left,Nat.add_zero,List.drop_left]
  rw[hd2,(Ib bd u hbl).1];dsimp only;rw[hst];simp only[Option.map_some,JW,List.length_append];congr 2
  omega
 ·unfold JW at hx;rcases List.mem_append.1 hx with hx | hx
  ·exact jX _ (by omega) x hx
  rcases List.mem_append.1 hx with hx | hx
  ·exact h1.q.lt x hx
  rcases List.mem_append.1 hx with hx | hx
  ·exact h2.q.lt x hx
  rcases List.mem_append.1 hx with hx | hx
  ·exact h3.q.lt x hx
  rcases List.mem_append.1 hx with hx | hx
  ·exact jX _ (by omega) x hx
  ·exact hb256 x hx
 ·have t1:=dx l.length (by omega);have t2:=dx bd.length (by omega);simp only[JW,List.length_append];omega
theorem XM(l:List StZ)(h:l=[]):aev l [0]:=by
 subst h;refine⟨fun u=>?_,fun x hx=>by simp at hx;omega,by simp,fun h=>by simp at h⟩;have e:aj ([0]++u)=(0,1):=by
  have h1:=fH 0 u (by omega);have h2:grp 0=[0]:=fq 0 (by omega);rw[h2]at h1;exact h1
 unfold qO;rw[e];simp
theorem ZL(l:List Nat)(t:List Nat×Nat)(h:qH l=some t):0<t.2∧t.2≤l.length∧t.1.length≤4096∧∀x∈t.1,x∈l:=by
 unfold qH at h;split at h
 ·next hc=>
  injection h with h
  subst h;have hk:=(dW l _ _ hc.1 rfl).2.2;exact⟨by dsimp only;omega,by dsimp only;omega,by rw[List.length_take];omega,fun x hx=>List.mem_of_mem_drop (List.mem_of_mem_take hx)⟩
 ·cases h
end Go.Proofs.YtgiicohbigiapaaGreat.Bm
namespace Go.Proofs.YtgiicohbigiapaaGreat
namespace Bm
theorem GZ(p u:List Nat)(r:List Nat×Nat)(h:qH p=some r):qH (p++u)=some r∧r.2≤p.length:=by
 refine⟨?_,(ZL p r h).2.1⟩;unfold qH at h ⊢;split at h
 ·next hc=>
  obtain⟨e,hl⟩:=eH p u hc.1;rw[e,if_pos ⟨hc.1,hc.2.1,by rw[List.length_append];omega⟩,←h];generalize (aj p).1=n at *;generalize (aj p).2=k at *;rw[List.drop_append_of_le_length hl,List.take_append_of_le_length (by rw[List.length_drop];omega)]
 ·cases h
theorem ni(p u:List Nat)(k:Nat)(h:k≤p.length):(p++u).drop k=p.drop k++u:=List.drop_append_of_le_length h
theorem MN(p u:List Nat)(n:Nat)(r:List Nat×Nat)(h:fD p n=some r):fD (p++u) n=some r∧r.2≤p.length:=by
 unfold fD at h ⊢;cases h1:qH p with
 | none=>rw[h1]at h;cases h
 | some a=>
  obtain⟨e1,l1⟩:=GZ p u a h1;rw[h1]at h;rw[e1];dsimp only at h ⊢;rw[ni p u a.2 l1];cases h2:qH (p.drop a.2)with
  | none=>rw[h2]at h;cases h
  | some b=>
   obtain⟨e2,l2⟩:=GZ (p.drop a.2) u b h2;rw[h2]at h;rw[e2];dsimp only at h ⊢;refine⟨h,?_⟩;rw[List.length_drop]at l2;split at h
   ·cases h
   ·next hd _=>
    cases h3:Ak hd.1 hd.2 b.1 (n:Int)with
    | none=>rw[h3]at h;cases h
    | some c=>
     rw[h3]at h;injection h with h
     subst h;show a.2+b.2≤_;omega
theorem Tp(p u:List Nat)(n:Nat)(r:List Nat×Nat)(h:Ed p n=some r):Ed (p++u) n=some r∧r.2≤p.length:=by
 have key:∀r,nV p n=some r→nV (p++u) n=some r∧r.2≤p.length:=by
  intro r h;cases p with
  | nil=>cases h
  | cons k t=>
   rw[List.cons_append];rcases Nat.lt_or_ge 2 k with h3 | h3
   ·rw[JM k t n h3]at h;cases h
   ·rcases(by omega:k=0∨k=1∨k=2)with rfl | rfl | rfl
    ·rw[DL]at h ⊢;split at h
     ·next hc=>
      injection h with h
      subst h;rw[if_pos (by rw[List.length_append];omega),List.take_append_of_le_length hc];exact⟨rfl,by show 1+n≤_;rw[List.length_cons];omega⟩
     ·cases h
    ·rw[DN]at h ⊢;split at h
     ·next hc=>
      injection h with h
      subst h;rw[if_pos (by rw[List.length_append];omega),List.getElem?_append_left hc];exact⟨rfl,by show 2≤_;rw[List.length_cons];omega⟩
     ·cases h
    ·rw[DR]at h ⊢;cases hs:fD t n with
     | none=>rw[hs]at h;cases h
     | some q=>
      obtain⟨e,l⟩:=MN t u n q hs;rw[hs]at h;injection h with h
      subst h;rw[e];exact⟨rfl,by show 1+q.2≤_;rw[List.length_cons];omega⟩
 unfold Ed at h ⊢;cases hr:nV p n with
 | none=>rw[hr]at h;cases h
 | some q=>
  obtain⟨e,l⟩:=key q hr;rw[hr]at h;rw[e];dsimp only at h ⊢;refine⟨h,?_⟩;split at h
  ·injection h with h
   subst h;exact l
  ·cases h
theorem Ke(u:List Nat)(n:Nat):∀(k:Nat) (p:List Nat) (r:List (List Nat)×Nat),gB k p n=some r→gB k (p++u) n=some r
 | 0,_,_,h=>h
 | k+1,p,r,h=>by
  unfold gB at h ⊢;cases hs:Ed p n with
  | none=>rw[hs]at h;cases h
  | some q=>
   obtain⟨e,l⟩:=Tp p u n q hs;rw[hs]at h;rw[e];dsimp only at h ⊢;rw[ni p u q.2 l];cases hq:gB k (p.drop q.2) n with
   | none=>rw[hq]at h;cases h
   | some t=>
    rw[hq]at h;rw[Ke u n k (p.drop q.2) t hq];exact h
theorem GK(n:Nat):∀(k:Nat) (bs:List Nat) (r:List (List Nat)×Nat),gB k bs n=some r→r.2≤bs.length
 | 0,bs,r,h=>by
  injection h with h
  subst h;exact Nat.zero_le _
 | k+1,bs,r,h=>by
  unfold gB at h;cases hs:Ed bs n with
  | none=>rw[hs]at h;cases h
  | some q=>
   rw[hs]at h;dsimp only at h;cases hq:gB k (bs.drop q.2) n with
   | none=>rw[hq]at h;cases h
   | some p=>
    rw[hq]at h;injection h with h
    subst h;have h1:=(Tp bs [] n q hs).2;have h2:=GK n k _ p hq;rw[List.length_drop]at h2;show q.2+p.2≤bs.length;omega
theorem Ka:∀(l:List (List Nat)) (V L:Nat) (r:Int×Int×Int) (q:List Stp×Nat×Nat),lM l V L r=some q→q.1.length=l.length
 | [],V,L,r,q,h=>by
  injection h with h
  subst h;rfl
 | c :: l,V,L,r,q,h=>by
  unfold lM at h;cases hs:oM c V L with
  | none=>rw[hs]at h;cases h
  | some t=>
   rw[hs]at h;dsimp only at h;cases ho:xR r.1 r.2.1 r.2.2 ((t.1[2]?.getD 0:Nat):Int)with
   | none=>rw[ho]at h;cases h
   | some x=>
    rw[ho]at h;dsimp only at h;cases hq:lM l t.2.1 t.2.2 (oz r.1 r.2.1 r.2.2 x)with
    | none=>rw[hq]at h;cases h
    | some p=>
     rw[hq]at h;injection h with h
     subst h;have:=Ka l _ _ _ p hq;simp[this]
theorem ZG(bs:List Nat)(most:Int)(t:List Stp×Nat)(h:qO bs most=some t):0<t.2∧t.2≤bs.length∧t.1.length≤1000:=by
 unfold qO at h;split at h
 ·next hc=>
  have hk:(aj bs).2≤bs.length:=(dW bs _ _ hc.1 rfl).2.2;generalize (aj bs).1=n at *;generalize (aj bs).2=k at *;split at h
  ·injection h with h
   subst h;exact⟨hc.1,hk,Nat.zero_le _⟩
  ·next hn=>
   cases hs:gB 3 (bs.drop k) n with
   | none=>rw[hs]at h;cases h
   | some p=>
    rw[hs]at h;dsimp only at h;cases hx:qH ((bs.drop k).drop p.2)with
    | none=>rw[hx]at h;cases h
    | some q=>
     rw[hx]at h;dsimp only at h;cases hl:kF p.1 n q.1 with
     | none=>rw[hl]at h;cases h
     | some l=>
      rw[hl]at h;injection h with h
      subst h;have h1:=GK n 3 _ p hs;have h2:=(ZL _ q hx).2.1;rw[List.length_drop]at h1 h2;rw[List.length_drop]at h2;have h3:l.length=n:=by
       unfold kF aaP at hl;split at hl
       ·cases hl
       ·next z hz=>
        have h4:=Ka _ _ _ _ _ hz;split at hl
        ·injection hl with hl
         rw[←hl,h4];simp[kU]
        ·cases hl
      refine⟨?_,?_,?_⟩
      ·show 0<k+p.2+q.2;omega
      ·show k+p.2+q.2≤bs.length;omega
      ·show l.length≤1000;omega
 ·cases h
theorem SN(p u:List Nat)(m:Int)(r:List Stp×Nat)(h:qO p m=some r):qO (p++u) m=some r:=by
 unfold qO at h ⊢;split at h
 ·next hc=>
  obtain⟨e,hk⟩:=eH p u hc.1;rw[e,if_pos hc,ni p u _ hk];generalize (aj p).1=n at *;generalize (aj p).2=k at *;split at h
  ·next hn=>rw[if_pos hn];exact h
  ·next hn=>
   rw[if_neg hn];cases hs:gB 3 (p.drop k) n with
   | none=>rw[hs]at h;cases h
   | some q=>
    have hl:=GK n 3 _ q hs;rw[hs]at h;rw[Ke u n 3 _ q hs];dsimp only at h ⊢;rw[ni _ u q.2 hl];cases hx:qH ((p.drop k).drop q.2)with
    | none=>rw[hx]at h;cases h
    | some x=>
     rw[hx]at h;rw[(GZ _ u x hx).1];exact h
 ·cases h
theorem acB(S:List Nat)(m:Int)(l:List Stp)(h:qO S m=some (l,S.length))(j:Nat)(hj:j<S.length):qO (S.take j) m=none:=by
 cases hc:qO (S.take j) m with
 | none=>rfl
 | some r=>
  have h1:=SN (S.take j) (S.drop j) m r hc;have h2:=(ZG (S.take j) m r hc).2.1;rw[List.take_append_drop,h]at h1;injection h1 with h1
  subst h1;rw[List.length_take]at h2;dsimp only at h2;omega
theorem XO(S:List Nat)(m n:Int)(hmn:m≤n)(r:List Stp×Nat)(h:qO S m=some r):qO S n=some r:=by
 unfold qO at h ⊢;split at h
 ·next hc=>rw[if_pos ⟨hc.1,Int.le_trans hc.2.1 hmn,hc.2.2⟩];exact h
 ·cases h
theorem Ro(c V:Nat)(h:c<28):NI c V≤65535:=by
 unfold NI;split
 ·omega
 ·have h1:2^(c-12)≤2^15:=Nat.pow_le_pow_right (by omega) (by omega);have h2:V%2^(c-12)<2^(c-12):=Nat.mod_lt _ (Nat.pow_pos (by omega));omega
theorem zq:∀(cs:List Nat) (V L:Nat) (t:List Nat×Nat×Nat),(∀x∈cs,x<28)→oM cs V L=some t→∀v∈t.1,v≤65535
 | [],V,L,t,_,h=>by
  injection h with h
  subst h;intro v hv;cases hv
 | c :: cs,V,L,t,hc,h=>by
  unfold oM at h;split at h
  ·cases hq:oM cs (V/2^exK c) (L-exK c)with
   | none=>rw[hq]at h;cases h
   | some q=>
    rw[hq]at h;injection h with h
    subst h;intro v hv;rcases List.mem_cons.1 hv with rfl | hv
    ·exact Ro c V (hc c List.mem_cons_self)
    ·exact zq cs _ _ q (fun x hx=>hc x (List.mem_cons_of_mem _ hx)) hq v hv
  ·cases h
theorem rA(l:List Nat)(i:Nat)(h:∀v∈l,v≤65535):l[i]?.getD 0≤65535:=by
 rcases Nat.lt_or_ge i l.length with h1 | h1
 ·rw[List.getElem?_eq_getElem h1];exact h _ (List.getElem_mem h1)
 ·rw[List.getElem?_eq_none h1];exact Nat.zero_le _
theorem zL:∀(l:List (List Nat)) (V L:Nat) (r:Int×Int×Int) (q:List Stp×Nat×Nat),(∀c∈l,∀x∈c,x<28)→r.1≤65535→r.2.1≤65535→r.2.2≤65535→lM l V L r=some q→∀s∈q.1,s.1≤65538∧s.2.1≤65538∧s.2.2≤65538
 | [],V,L,r,q,_,_,_,_,h=>by
  injection h with h
  subst h;intro s hs;cases hs
 | c :: l,V,L,r,q,hc,h0,h1,h2,h=>by
  unfold lM at h;cases hs:oM c V L with
  | none=>rw[hs]at h;cases h
  | some t=>
   have ht:=zq c V L t (hc c List.mem_cons_self) hs;rw[hs]at h;dsimp only at h;cases ho:xR r.1 r.2.1 r.2.2 ((t.1[2]?.getD 0:Nat):Int)with
   | none=>rw[ho]at h;cases h
   | some x=>
    have hx:x≤65535:=by
     have h3:=rA t.1 2 ht;unfold xR at ho;split at ho
     ·cases ho
     ·split at ho
      ·injection ho with ho
       rw[←ho];unfold xS;split
       ·omega
       ·split
        ·exact h0
        ·split
         ·exact h1
         ·exact h2
      ·cases ho
    rw[ho]at h;dsimp only at h;cases hq:lM l t.2.1 t.2.2 (oz r.1 r.2.1 r.2.2 x)with
    | none=>rw[hq]at h;cases h
    | some p=>
     have hb:(oz r.1 r.2.1 r.2.2 x).1≤65535∧(oz r.1 r.2.1 r.2.2 x).2.1≤65535∧(oz r.1 r.2.1 r.2.2 x).2.2≤65535:=by
      unfold oz;split
      ·exact⟨hx,h1,h2⟩
      ·split
       ·exact⟨hx,h0,h2⟩
       ·exact⟨hx,h0,h1⟩
     rw[hq]at h;injection h with h
     subst h;intro s hs;rcases List.mem_cons.1 hs with rfl | hs
     ·have h3:=rA t.1 0 ht;have h4:=rA t.1 1 ht;refine⟨?_,?_,?_⟩
      ·dsimp only;omega
      ·dsimp only;omega
      ·dsimp only;omega
     ·exact zL l _ _ _ p (fun c hc'=>hc c (List.mem_cons_of_mem _ hc')) hb.1 hb.2.1 hb.2.2 hq s hs
theorem zM(n:Nat):∀(k:Nat) (bs:List Nat) (r:List (List Nat)×Nat),gB k bs n=some r→∀c∈r.1,∀x∈c,x<28
 | 0,bs,r,h=>by
  injection h with h
  subst h;intro c hc;cases hc
 | k+1,bs,r,h=>by
  unfold gB at h;cases hs:Ed bs n with
  | none=>rw[hs]at h;cases h
  | some q=>
   rw[hs]at h;dsimp only at h;cases hq:gB k (bs.drop q.2) n with
   | none=>rw[hq]at h;cases h
   | some p=>
    rw[hq]at h;injection h with h
    subst h;intro c hc;rcases List.mem_cons.1 hc with rfl | hc
    ·unfold Ed at hs;split at hs
     ·cases hs
     ·split at hs
      ·next h28=>injection hs with hs;subst hs;exact h28
      ·cases hs
    ·exact zM n k _ p hq c hc
theorem SS(bs:List Nat)(m:Int)(r:List Stp×Nat)(h:qO bs m=some r):∀s∈r.1,s.1≤65538∧s.2.1≤65538∧s.2.2≤65538:=by
 unfold qO at h;split at h
 ·split at h
  ·injection h with h
   subst h;intro s hs;cases hs
  ·cases hs:gB 3 (bs.drop (aj bs).2) (aj bs).1 with
   | none=>rw[hs]at h;cases h
   | some p=>
    have h28:=zM _ 3 _ p hs;rw[hs]at h;dsimp only at h;split at h
    ·cases h
    ·next q _=>
     cases hl:kF p.1 (aj bs).1 q.1 with
     | none=>rw[hl]at h;cases h
     | some l=>
      rw[hl]at h;injection h with h
      subst h;unfold kF aaP at hl;split at hl
      ·cases hl
      ·next z hz=>
       have h4:=zL _ _ _ _ z (fun c hc x hx=>by
        unfold kU at hc;obtain⟨i,_,rfl⟩:=List.mem_map.1 hc;unfold atD at hx;obtain⟨l,hl,rfl⟩:=List.mem_map.1 hx;rcases Nat.lt_or_ge i l.length with h1 | h1
        ·rw[List.getElem?_eq_getElem h1];exact h28 l hl _ (List.getElem_mem h1)
        ·rw[List.getElem?_eq_none h1];exact Nat.zero_lt_succ _) (by decide) (by decide) (by decide) hz
       split at hl
       ·injection hl with hl
        rw[←hl];exact h4
       ·cases hl
 ·cases h
end Bm
end Go.Proofs.YtgiicohbigiapaaGreat
namespace Go.Proofs.YtgiicohbigiapaaGreat.Bm
abbrev HB:=Nat×Nat×Nat×Nat×Nat
def uh(r:List Nat):Option (Nat×Nat×Nat×Nat):=
 if 0<(aj r).2∧(aj r).1≤1073741824 then
  (if 0<(aj (r.drop (aj r).2)).2∧(aj (r.drop (aj r).2)).1≤1099511627776∧(aj r).2+(aj (r.drop (aj r).2)).2+8≤r.length then
   some ((aj r).1,(aj (r.drop (aj r).2)).1,aS ((r.drop ((aj r).2+(aj (r.drop (aj r).2)).2)).take 8),(aj r).2+(aj (r.drop (aj r).2)).2+8)
  else none)
 else none
def gy(bs:List Nat):Option HB:=
 match bs with
 | []=>none
 | k :: r=>if 2<k then none else(uh r).map fun t=>(k,t.1,t.2.1,t.2.2.1,1+t.2.2.2)
def iq(D:List Nat)(k n:Nat)(bs:List Nat):Option (List Nat):=
 if k=0 then(if bs.length=n then some bs else none)
 else if k=1 then(if bs.length=1 then some (List.replicate n (bs[0]?.getD 0))else none)
 else match tY bs (n:Int)with
  | none=>none
  | some t=>match qO (bs.drop t.2) (n:Int)with
   | none=>none
   | some q=>if t.2+q.2=bs.length∧(uj D t.1 (q.1.map qP) n).2=0∧(uj D t.1 (q.1.map qP) n).1.length=n then some (uj D t.1 (q.1.map qP) n).1 else none
def oD(D bs:List Nat)(lim:Int):List Nat×Nat:=
 match gy bs with
 | none=>([],3)
 | some h=>if lim<(h.2.2.1:Int)∨512<h.2.2.1 then([],5)else
  match iq D h.1 h.2.2.1 (bs.drop h.2.2.2.2)with
  | none=>([],3)
  | some x=>if sumOf x=h.2.2.2.1 then(x,0)else([],4)
def hdB(k ep:Nat)(X:List Nat):List Nat:=k :: (grp ep++(grp X.length++bytesOf (sumOf X) 8))
structure uO(D X:List Nat)(k:Nat)(T:List Nat):Prop where
 kind:k≤2
 lt:∀x∈T,x<256
 len:T.length≤X.length
 yes:iq D k X.length T=some X
 cut:∀j,j<T.length→iq D k X.length (T.take j)=none
 more:∀x,iq D k X.length (T++[x])=none
theorem iZ(k ep:Nat)(X:List Nat):(hdB k ep X).length=1+(grp ep).length+(grp X.length).length+8:=by
 rw[hdB,List.length_cons,List.length_append,List.length_append,bytesOf_length];omega
theorem aeS(k ep:Nat)(X:List Nat)(hep:ep≤1073741824)(hX:X.length≤512):(hdB k ep X).length≤16:=by
 have h1:=(Au ep (by omega) 5 (by decide)).2 (by omega);have h2:=(Au X.length (by omega) 2 (by decide)).2 (by omega);rw[iZ];omega
theorem Yj(ep n s:Nat)(T:List Nat)(hep:ep≤1073741824)(hn:n≤1099511627776)(hs:s<2^64):uh (grp ep++(grp n++bytesOf s 8)++T)=some (ep,n,s,(grp ep).length+(grp n).length+8):=by
 have h1:aj (grp ep++(grp n++bytesOf s 8)++T)=(ep,(grp ep).length):=by
  rw[List.append_assoc];exact fH ep _ (by omega)
 have h2:(grp ep++(grp n++bytesOf s 8)++T).drop (grp ep).length=grp n++(bytesOf s 8++T):=by
  rw[List.append_assoc,List.drop_left,List.append_assoc]
 have h3:aj (grp n++(bytesOf s 8++T))=(n,(grp n).length):=fH n _ (by omega);have h4:=oJ ep (by omega);have h5:=oJ n (by omega);unfold uh;rw[h1];dsimp only;rw[h2,h3];dsimp only;rw[if_pos ⟨h4,hep⟩,if_pos ⟨h5,hn,by simp only[List.length_append,bytesOf_length];omega⟩,←List.drop_drop,h2,List.drop_left,List.take_left' (bytesOf_length s 8),iE s 8,Nat.mod_eq_of_lt (by omega)]
theorem Yi(p u:List Nat)(t:Nat×Nat×Nat×Nat)(h:uh p=some t):uh (p++u)=some t∧t.2.2.2≤p.length:=by
 unfold uh at h ⊢;split at h
 ·next h0=>
  obtain⟨e0,l0⟩:=eH p u h0.1;rw[e0,if_pos h0,ni p u _ l0];split at h
  ·next h1=>
   obtain⟨e1,l1⟩:=eH (p.drop (aj p).2) u h1.1;rw[e1,if_pos ⟨h1.1,h1.2.1,by rw[List.length_append];omega⟩,←h];generalize aj (p.drop (aj p).2)=z at *;generalize aj p=y at *;injection h with h
   subst h;refine⟨?_,h1.2.2⟩;rw[ni p u _ (by omega),List.take_append_of_le_length (by rw[List.length_drop];omega)]
  ·cases h
 ·cases h
theorem fJ(k ep:Nat)(X T:List Nat)(hk:k≤2)(hep:ep≤1073741824)(hX:X.length≤512):gy (hdB k ep X++T)=some (k,ep,X.length,sumOf X,(hdB k ep X).length):=by
 rw[iZ];unfold hdB;rw[List.cons_append];unfold gy;dsimp only;rw[if_neg (by omega),Yj ep X.length (sumOf X) T hep (by omega) (Bp X),Option.map_some];dsimp only;rw[show 1+((grp ep).length+(grp X.length).length+8)=1+(grp ep).length+(grp X.length).length+8 by omega]
theorem VY(k ep:Nat)(X:List Nat)(hk:k≤2)(hep:ep≤1073741824)(hX:X.length≤512)(j:Nat)(hj:j<(hdB k ep X).length):gy ((hdB k ep X).take j)=none:=by
 have hy:=fJ k ep X [] hk hep hX;rw[List.append_nil,iZ]at hy;rw[iZ]at hj;unfold hdB at hy ⊢;cases j with
 | zero=>rfl
 | succ j=>
  rw[List.take_succ_cons];unfold gy at hy ⊢;dsimp only at hy ⊢;rw[if_neg (by omega)]at hy ⊢;cases ht:uh ((grp ep++(grp X.length++bytesOf (sumOf X) 8)).take j)with
  | none=>rfl
  | some t=>
   obtain⟨e,l⟩:=Yi _ ((grp ep++(grp X.length++bytesOf (sumOf X) 8)).drop j) t ht;rw[List.take_append_drop]at e;rw[e]at hy;injection hy with hy
   rw[List.length_take]at l;have h1:1+t.2.2.2=1+(grp ep).length+(grp X.length).length+8:=congrArg (fun z:HB=>z.2.2.2.2) hy;omega
theorem aaA{D X T:List Nat}{k ep:Nat}(h:uO D X k T)(hep:ep≤1073741824)(hX:X.length≤512)(lim:Int)(hl:(X.length:Int)≤lim):oD D (hdB k ep X++T) lim=(X,0):=by
 unfold oD;rw[fJ k ep X T h.kind hep hX];dsimp only;rw[if_neg (by omega),List.drop_left,h.yes];dsimp only;rw[if_pos rfl]
theorem aay{D X T:List Nat}{k ep:Nat}(hk:k≤2)(hep:ep≤1073741824)(hX:X.length≤512)(lim:Int)(hl:lim<(X.length:Int)):oD D (hdB k ep X++T) lim=([],5):=by
 unfold oD;rw[fJ k ep X T hk hep hX];dsimp only;rw[if_pos (.inl hl)]
theorem aax{D X T:List Nat}{k ep:Nat}(h:uO D X k T)(hep:ep≤1073741824)(hX:X.length≤512)(j:Nat)(hj:j<(hdB k ep X++T).length):oD D ((hdB k ep X++T).take j) (X.length:Int)=([],3):=by
 rw[List.length_append]at hj;unfold oD;rcases Nat.lt_or_ge j (hdB k ep X).length with h1 | h1
 ·rw[List.take_append_of_le_length (Nat.le_of_lt h1),VY k ep X h.kind hep hX j h1]
 ·rw[List.take_append,List.take_of_length_le h1,fJ k ep X _ h.kind hep hX];dsimp only;rw[if_neg (by omega),List.drop_left,h.cut (j-(hdB k ep X).length) (by omega)]
theorem Vh{D X T:List Nat}{k ep:Nat}(h:uO D X k T)(hep:ep≤1073741824)(hX:X.length≤512)(x:Nat):oD D (hdB k ep X++T++[x]) (X.length:Int)=([],3):=by
 unfold oD;rw[List.append_assoc,fJ k ep X _ h.kind hep hX];dsimp only;rw[if_neg (by omega),List.drop_left,h.more x]
theorem OI{D X T Y:List Nat}{k ep:Nat}(hk:k≤2)(hep:ep≤1073741824)(hX:X.length≤512)(lim:Int)(h:oD D (hdB k ep X++T) lim=(Y,0)):sumOf Y=sumOf X:=by
 unfold oD at h;rw[fJ k ep X T hk hep hX]at h;dsimp only at h;split at h
 ·cases h
 ·split at h
  ·cases h
  ·next x _=>
   split at h
   ·next hs=>
    have h1:x=Y:=congrArg Prod.fst h;rw[←h1];exact hs
   ·cases h
theorem Oz{D bs X:List Nat}{k n:Nat}(h:iq D k n bs=some X):X.length=n:=by
 unfold iq at h;split at h
 ·split at h
  ·injection h with h;subst h;assumption
  ·cases h
 ·split at h
  ·split at h
   ·injection h with h;subst h;rw[List.length_replicate]
   ·cases h
  ·split at h
   ·cases h
   ·split at h
    ·cases h
    ·split at h
     ·next hc=>injection h with h;rw[←h];exact hc.2.2
     ·cases h
theorem aaz(D bs:List Nat)(lim:Int):((oD D bs lim).2≠0→(oD D bs lim).1=[])∧((oD D bs lim).1.length:Int)≤max lim 0∧(oD D bs lim).1.length≤512∧(oD D bs lim).2≤5:=by
 unfold oD;split
 ·exact⟨fun _=>rfl,by simp;omega,by simp,by simp⟩
 ·split
  ·exact⟨fun _=>rfl,by simp;omega,by simp,by simp⟩
  ·next hc=>
   split
   ·exact⟨fun _=>rfl,by simp;omega,by simp,by simp⟩
   ·next x hx=>
    have:=Oz hx;split
    ·refine⟨fun h=>absurd rfl h,?_,?_,Nat.zero_le _⟩
     ·dsimp only;omega
     ·dsimp only;omega
    ·exact⟨fun _=>rfl,by simp;omega,by simp,by simp⟩
theorem OA(D X:List Nat)(hX:∀x∈X,x<256):uO D X 0 X:=by
 refine⟨by omega,hX,Nat.le_refl _,?_,fun j hj=>?_,fun x=>?_⟩
 ·unfold iq;rw[if_pos rfl,if_pos rfl]
 ·unfold iq;rw[if_pos rfl,if_neg (by rw[List.length_take];omega)]
 ·unfold iq;rw[if_pos rfl,if_neg (by rw[List.length_append,List.length_singleton];omega)]
theorem Oy(D X:List Nat)(c:Nat)(hc:c<256)(h0:0<X.length)(h:X=List.replicate X.length c):uO D X 1 [c]:=by
 refine⟨by omega,fun x hx=>by rw[List.mem_singleton.1 hx];exact hc,h0,?_,fun j hj=>?_,fun x=>?_⟩
 ·show some (List.replicate X.length c)=some X;exact congrArg some h.symm
 ·rw[List.length_singleton]at hj;obtain rfl:j=0:=by omega
  rfl
 ·rfl
theorem OB(D X E S:List Nat)(l:List Stp)(L:List Nat)(hE:tY E (X.length:Int)=some (L,E.length))(hS:qO S (X.length:Int)=some (l,S.length))(h0:uj D L (l.map qP) X.length=(X,0))
  (hE2:∀x∈E,x<256) (hS2:∀x∈S,x<256) (hlen:(E++S).length<X.length):uO D X 2 (E++S):=by
 have hb:∀u,iq D 2 X.length (E++u)=match qO u (X.length:Int)with
   | none=>none
   | some q=>if E.length+q.2=E.length+u.length∧(uj D L (q.1.map qP) X.length).2=0∧(uj D L (q.1.map qP) X.length).1.length=X.length then some (uj D L (q.1.map qP) X.length).1 else none:=fun u=>by
  unfold iq;rw[if_neg (by decide),if_neg (by decide),(oH E u _ _ hE).1];dsimp only;rw[List.drop_left,List.length_append]
 refine⟨by omega,fun x hx=>(List.mem_append.1 hx).elim (hE2 x) (hS2 x),Nat.le_of_lt hlen,?_,fun j hj=>?_,fun x=>?_⟩
 ·rw[hb,hS];dsimp only;rw[h0,if_pos ⟨rfl,rfl,rfl⟩]
 ·rcases Nat.lt_or_ge j E.length with h1 | h1
  ·rw[List.take_append_of_le_length (Nat.le_of_lt h1)];unfold iq;rw[if_neg (by decide),if_neg (by decide),Vu E _ _ hE j h1]
  ·rw[List.take_append,List.take_of_length_le h1,hb];rw[List.length_append]at hj;rw[acB S _ l hS (j-E.length) (by omega)]
 ·rw[List.append_assoc,hb,SN S [x] _ _ hS];dsimp only;rw[if_neg (by rw[List.length_append,List.length_singleton];omega)]
end Go.Proofs.YtgiicohbigiapaaGreat.Bm
namespace Go.Proofs.YtgiicohbigiapaaGreat
open Go.RowKit
def adB(w':World)(e:Ending):Option (List Nat)→Prop
 | none=>∃A c,e=.returned (.tuple #[.slice A 0 c,.bool false])
 | some bs=>∃A c,e=.returned (.tuple #[.slice A bs.length c,.bool true])∧bs.length≤c∧Reads w' A (u8s bs)
def Ko(W:World)(g:Nat)(ls:List Nat)(q:Nat):Prop:=∃vs:List Value,Row W g 178 vs∧vs.length=256 ∧
 ∀j,j<q→0<ls[j]?.getD 0→∃A c,vs[j]?=some (.slice A (ls[j]?.getD 0) c)∧(∀a,A=some a→g<a.block)∧Reads W A (aM (aX ls j))
theorem Ko.below{W W':World}{g q:Nat}{ls:List Nat}(h:Ko W g ls q)(hb:Below W.heap.size W W'):Ko W' g ls q:=by
 obtain⟨vs,h1,h2,h3⟩:=h;refine⟨vs,h1.keep (hb.block g h1.lt),h2,fun j hj h0=>?_⟩;obtain⟨A,c,e,ha,hr⟩:=h3 j hj h0;exact⟨A,c,e,ha,aC hr hb⟩
theorem Ko.skip{W:World}{g q:Nat}{ls:List Nat}(h:Ko W g ls q)(h0:ls[q]?.getD 0=0):Ko W g ls (q+1):=by
 obtain⟨vs,h1,h2,h3⟩:=h;refine⟨vs,h1,h2,fun j hj hp=>?_⟩;rcases Nat.lt_or_ge j q with e | e
 ·exact h3 j e hp
 ·obtain rfl:j=q:=by omega
  omega
theorem Ko.set{W:World}{g q c:Nat}{ls:List Nat}{A:Option Addr}(h:Ko W g ls q)(hq:q<256)(hA:∀a,A=some a→g<a.block)(hr:Reads W A (aM (aX ls q))) :
  Ko (W.setCell ⟨g,q,none⟩ (.slice A (ls[q]?.getD 0) c)) g ls (q+1):=by
 obtain⟨vs,h1,h2,h3⟩:=h;refine⟨vs.set q (.slice A (ls[q]?.getD 0) c),h1.aW q _,by rw[List.length_set,h2],fun j hj hp=>?_⟩;by_cases e:j=q
 ·subst e;exact⟨A,c,by rw[List.getElem?_set_self (by omega)],hA,DT hr (fun a e=>by have:=hA a e;show a.block≠g;omega)⟩
 ·obtain⟨A',c',e',ha,hr'⟩:=h3 j (by omega) hp;exact⟨A',c',by rw[List.getElem?_set_ne (by omega)];exact e',ha,DT hr' (fun a e=>by have:=ha a e;show a.block≠g;omega)⟩
theorem Ko.cell{W:World}{g q j:Nat}{ls:List Nat}(h:Ko W g ls q)(hj:j<q)(h0:0<ls[j]?.getD 0):∃A c,W.cell? ⟨g,j,none⟩=some (.slice A (ls[j]?.getD 0) c)∧Reads W A (aM (aX ls j)):=by
 obtain⟨vs,h1,h2,h3⟩:=h;obtain⟨A,c,e,_,hr⟩:=h3 j hj h0;exact⟨A,c,(h1.cell j).trans e,hr⟩
theorem Ko.any{W:World}{g q:Nat}{ls:List Nat}(h:Ko W g ls q)(hq:q<256):(∃v,W.cell? ⟨g,q,none⟩=some v)∧W.frozen? ⟨g,q,none⟩=false∧g<W.heap.size:=by
 obtain⟨vs,h1,h2,_⟩:=h;exact⟨⟨vs[q]'(by omega),by rw[h1.cell q,List.getElem?_eq_getElem (by omega)]⟩,h1.free q,h1.lt⟩
end Go.Proofs.YtgiicohbigiapaaGreat
namespace Go.Proofs.YtgiicohbigiapaaGreat.Bm
theorem afH(bs:List Nat)(most:Int)(h:¬(0<(aj bs).2∧((aj bs).1:Int)≤min most 1000)):qO bs most=none:=by
 unfold qO;rw[if_neg (by omega)]
theorem XP(bs:List Nat)(most:Int)(h:0<(aj bs).2∧((aj bs).1:Int)≤min most 1000)(h0:(aj bs).1=0):qO bs most=some ([],(aj bs).2):=by
 unfold qO;rw[if_pos (by omega),if_pos h0]
theorem XL(bs:List Nat)(most:Int)(h:0<(aj bs).2∧((aj bs).1:Int)≤min most 1000)(h0:(aj bs).1≠0):qO bs most =
  match gB 3 (bs.drop (aj bs).2) (aj bs).1 with
  | none=>none
  | some p=>match qH ((bs.drop (aj bs).2).drop p.2)with
   | none=>none
   | some q=>(kF p.1 (aj bs).1 q.1).map fun l=>(l,(aj bs).2+p.2+q.2):=by
 unfold qO;exact(if_pos (by omega)).trans (if_neg h0)
end Go.Proofs.YtgiicohbigiapaaGreat.Bm
