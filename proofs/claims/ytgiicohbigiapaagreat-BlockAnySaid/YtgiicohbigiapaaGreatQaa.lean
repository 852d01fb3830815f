/- Contracts. -/
import Derived.Shelf.Small.Bits
import Derived.Test.YtgiicohbigiapaaGreatProg
import Derived.Test.YtgiicohbigiapaaGreatQz0
set_option maxHeartbeats 4000000
set_option maxRecDepth 100000
open Go.Proofs.Tryz List Nat Option
namespace Go.Proofs.YtgiicohbigiapaaGreat
namespace ao
def bitsOf(N n:Nat):ae:=(List.range n).map λi=>N/2^i%2
def bytesOf(N L:Nat):ae:=(List.range L).map λi=>N/256^i%256
def bd:ae->Nat
 | []=>0
 | b :: bs=>b+256*bd bs
def qm:ae->Nat
 | []=>0
 | u :: us=>u*2^(64*us.length)+qm us
theorem ib(k:Nat):256^k=2^(8*k):=by
 rw[Nat.pow_mul]
theorem hf(N n:Nat):(bitsOf N n).length=n:=by simp[bitsOf]
theorem bytesOf_length(N L:Nat):(bytesOf N L).length=L:=by simp[bytesOf]
theorem l3(N n i:Nat)(h:i<(bitsOf N n).length):(bitsOf N n)[i]=N/2^i%2:=by simp[bitsOf]
theorem yO(N L i:Nat)(h:i<(bytesOf N L).length):(bytesOf N L)[i]=N/256^i%256:=by simp[bytesOf]
theorem afc(N n i:Nat)(h:i<n):(bitsOf N n)[i]?=some (N/2^i%2):=by simp[bitsOf,h]
theorem afU(N L i:Nat)(h:i<L):(bytesOf N L)[i]?=some (N/256^i%256):=by simp[bytesOf,h]
theorem u9(N L:Nat):∀b∈bytesOf N L,b<256:=by
 intro b ak;simp only[bytesOf,mem_map]at ak;obtain⟨i,_,rfl⟩:=ak;exact mod_lt _ (by omega)
theorem afe(N n:Nat):bitsOf N (n+1)=bitsOf N n++[N/2^n%2]:=by simp[bitsOf,range_succ]
theorem GA(N n:Nat):bytesOf N (n+1)=bytesOf N n++[N/256^n%256]:=by simp[bytesOf,range_succ]
theorem zH(M x n i d:Nat)(ax:i+d<=n):(M+x*2^n)/2^i%2^d=M/2^i%2^d:=by
 obtain⟨t,rfl⟩:∃t,n=i+d+t:=⟨n-(i+d),by omega⟩;have e:M+x*2^(i+d+t)=M+2^i*(2^d*(x*2^t)):=by
  rw[dM,dM];ac_rfl
 rw[e,add_mul_div_left _ _ (eW i),add_mul_mod_self_left]
theorem Wh(M x n i:Nat)(la:M<2^n):(M+x*2^n)/2^(n+i)=x/2^i:=by
 rw[dM,<-km,add_mul_div_right _ _ (eW n),div_eq_of_lt la,eH]
theorem Ib(v m i:Nat)(ax:i<m):v%2^m/2^i%2=v/2^i%2:=by
 have h:=zH (v%2^m) (v/2^m) m i 1 (by omega);rw[mod_add_div']at h;rw[Nat.pow_one]at h;exact h.symm
theorem amG(v m i:Nat)(ax:i+8<=m):v%2^m/2^i%256=v/2^i%256:=by
 have h:=zH (v%2^m) (v/2^m) m i 8 ax;rw[mod_add_div']at h;exact h.symm
theorem afd(v m:Nat):bitsOf (v%2^m) m=bitsOf v m:=by
 apply map_congr_left
 intro i ax;exact Ib v m i (by simpa using ax)
theorem Ta(N n v m:Nat)(cV:N<2^n):bitsOf N n++bitsOf v m=bitsOf (N+v%2^m*2^n) (n+m):=by
 apply ext_getElem
 .simp[hf]
 .intro i h1 af;simp only[aY,hf]at h1;rw[l3];by_cases ax:i<n
  .rw[getElem_append_left (by rw[hf];exact ax),l3];have h:=zH N (v%2^m) n i 1 (by omega);rw[Nat.pow_one]at h;exact h.symm
  .rw[getElem_append_right (by rw[hf];omega),l3,hf];obtain⟨j,rfl⟩:∃j,i=n+j:=⟨i-n,by omega⟩;rw[Wh _ _ _ _ cV,Ib _ _ _ (by omega),Nat.add_sub_cancel_left]
theorem sum_lt(N n v m:Nat)(cV:N<2^n):N+v%2^m*2^n<2^(n+m):=by
 have h:v%2^m+1<=2^m:=mod_lt _ (eW m);have af:=mul_le_mul_right (2^n) h;rw[Nat.add_mul,Nat.one_mul]at af;rw[dM,eQ (2^n)];omega
theorem Tb(N n m:Nat):(bitsOf N n).drop m=bitsOf (N/2^m) (n-m):=by
 apply ext_getElem
 .simp[hf]
 .intro i h1 af;rw[getElem_drop,l3,l3,km,<-dM]
theorem bytesOf_take(N n m:Nat)(h:m<=n):(bytesOf N n).take m=bytesOf N m:=by
 unfold bytesOf;rw[<-map_take,take_range,Nat.min_eq_left h]
theorem bytesOf_drop(N n m:Nat):(bytesOf N n).drop m=bytesOf (N/256^m) (n-m):=by
 apply ext_getElem
 .simp[bytesOf_length]
 .intro i h1 af;rw[getElem_drop,yO,yO,km,<-dM]
theorem afW(N m t:Nat):bytesOf N (m+t)=bytesOf N m++bytesOf (N/256^m) t:=by
 have h:=gA m (bytesOf N (m+t));rw[bytesOf_take _ _ _ (by omega),bytesOf_drop,Nat.add_sub_cancel_left]at h;exact h.symm
theorem afV(v m L:Nat)(h:8*L<=m):bytesOf (v%2^m) L=bytesOf v L:=by
 apply map_congr_left
 intro i ax;rw[ib];exact amG v m (8*i) (by
   have:i<L:=by simpa using ax
   omega)
theorem afT(M q r:Nat)(aj:r<8)(la:M<2^(8*q+r)):(bytesOf M (q+1)).set q (M/256^q%256+2^r)=bytesOf (M+2^(8*q+r)) (q+1):=by
 have hlow:∀i,i<q->(M+2^(8*q+r))/256^i%256=M/256^i%256:=by
  intro i ax;have h:=zH M 1 (8*q+r) (8*i) 8 (by omega);rw[Nat.one_mul]at h;rw[ib];exact h
 have htop:(M+2^(8*q+r))/256^q%256=M/256^q%256+2^r:=by
  rw[ib,dM,add_mul_div_left _ _ (eW _)];have h1:M/2^(8*q)<2^r:=by
   rw[div_lt_iff_lt_mul (eW _),<-dM,Nat.add_comm r];exact la
  have af:2^r<=2^7:=dD (by omega) (by omega);have aq:(2:Nat)^7=128:=by decide
  generalize M/2^(8*q)=x at h1 ⊢;generalize 2^r=y at h1 af ⊢;omega
 apply ext_getElem
 .simp[bytesOf_length]
 .intro i h1 af;simp only[length_set,bytesOf_length]at h1;rw[getElem_set,yO,yO];by_cases ax:q=i
  .subst ax;rw[aA rfl,htop]
  .rw[ay ax,hlow i (by omega)]
theorem Fv(xs:ae)(b:Nat):bd (xs++[b])=bd xs+b*256^xs.length:=by
 induction xs with
 | nil=>simp[bd]
 | cons x xs ih=>
  simp only[cons_append,bd,ih,b1,ej];rw[Nat.mul_add,jb,eQ (256^xs.length) 256,Nat.mul_left_comm]
theorem po(xs:ae)(h:∀b∈xs,b<256):bd xs<256^xs.length:=by
 induction xs with
 | nil=>simp[bd]
 | cons x xs ih=>
  have h1:=ih (λb ak=>h b (ew _ ak));have af:=h x ea;simp only[bd,b1,ej];omega
theorem ab1(xs:ae)(k:Nat)(h:∀b∈xs,b<256):bd (xs.drop k)=bd xs/256^k:=by
 induction k generalizing xs with
 | zero=>simp
 | succ k ih=>
  cases xs with
  | nil=>simp[bd]
  | cons x xs=>
   have af:=h x ea;rw[drop_succ_cons,ih xs (λb ak=>h b (ew _ ak)),bd,ej,eQ (256^k),<-km];congr 1
   omega
theorem as0(xs:ae)(k:Nat)(h:∀b∈xs,b<256):bd (xs.take k)=bd xs%256^k:=by
 induction k generalizing xs with
 | zero=>simp[bd,mod_one]
 | succ k ih=>
  cases xs with
  | nil=>simp[bd]
  | cons x xs=>
   have af:=h x ea;rw[take_succ_cons,bd,bd,ih xs (λb ak=>h b (ew _ ak)),ej,eQ (256^k),mod_mul];have aF:(x+256*bd xs)%256=x:=by omega
   have e2:(x+256*bd xs)/256=bd xs:=by omega
   rw[aF,e2]
theorem K5(xs:ae)(h:∀b∈xs,b<256):bytesOf (bd xs) xs.length=xs:=by
 apply ext_getElem
 .simp[bytesOf_length]
 .intro i h1 af;have aq:=h xs[i] (b7 af);rw[yO,<-ab1 xs i h,drop_eq_getElem_cons af,bd];omega
theorem Fu(N L:Nat):bd (bytesOf N L)=N%256^L:=by
 induction L with
 | zero=>simp[bytesOf,bd,mod_one]
 | succ L ih=>rw[GA,Fv,ih,bytesOf_length,ej,mod_mul,eQ (256^L)]
theorem afh(xs:ae)(b:Nat)(h:∀x∈xs,x<256)(ak:b<256):bitsOf (bd xs) (8*xs.length)++bitsOf b 8=bitsOf (bd (xs++[b])) (8*xs.length+8):=by
 have h1:=po xs h;rw[ib]at h1;rw[Ta _ _ _ _ h1,Fv,ib,mod_eq_of_lt (show b<2^8 from ak)]
theorem abI(xs:ae)(h:∀b∈xs,b<256)(pos n m:Nat)(az:n<=32)(hl:pos+n<=8*xs.length)(hm:m=min 5 (xs.length-pos/8)) :
  bd ((xs.drop (pos/8)).take m)/2^(pos%8)%2^n=bd xs/2^pos%2^n:=by
 have aG:∀b∈xs.drop (pos/8),b<256:=λb ak=>h b (mem_of_mem_drop ak)
 rw[as0 _ _ aG];have e:bd xs/2^pos=bd (xs.drop (pos/8))/2^(pos%8):=by
  rw[ab1 _ _ h,ib,km,<-dM,div_add_mod]
 rw[e];by_cases aR:xs.length-pos/8<=5
 .have av:=po _ aG;rw[cC]at av;rw[show m=xs.length-pos/8 by omega,mod_eq_of_lt av]
 .rw[show m=5 by omega];have hh:=zH (bd (xs.drop (pos/8))%256^5) (bd (xs.drop (pos/8))/256^5) 40 (pos%8) n (by omega);rw[show(256:Nat)^5=2^40 from ib 5]at hh ⊢;rw[mod_add_div']at hh;exact hh.symm
theorem Ld(us:ae)(h:∀u∈us,u<2^64):qm us<2^(64*us.length):=by
 induction us with
 | nil=>simp[qm]
 | cons u us ih=>
  have h1:=ih (λb ak=>h b (ew _ ak));have af:u+1<=2^64:=h u ea;have aq:=mul_le_mul_right (2^(64*us.length)) af;rw[Nat.add_mul,Nat.one_mul]at aq;simp only[qm,b1];rw[Nat.mul_add,Nat.mul_one,dM,eQ (2^(64*us.length))];omega
def nf(N n rest:Nat)(us:ae):Prop:=us.length=n/64/\rest<2^(n%64)/\(∀u∈us,u<2^64)/\N=rest*2^(64*us.length)+qm us
theorem nf.zero:nf 0 0 0 []:=⟨rfl,by decide,by simp,by simp[qm]⟩
theorem nf.aaq{N n rest:Nat}{us:ae}(h:nf N n rest us):rest<2^64:=
 gV h.2.1 (dD (by omega) (by omega))
theorem zN(a r x:Nat)(aj:r<2^a):r ||| x*2^a=r+x*2^a:=by
 rw[Nat.or_comm,eQ x,<-two_pow_add_eq_or_of_lt aj,Nat.add_comm]
theorem aaP(x a:Nat)(aS:a<=64):x*2^a%2^64=x%2^(64-a)*2^a:=by
 have e:(2:Nat)^64=2^(64-a)*2^a:=by rw[<-dM];congr 1;omega
 rw[e,mul_mod_mul_right]
theorem nf.Pf{N n rest:Nat}{us:ae}(h:nf N n rest us)(v m:Nat)(hm:n%64+m<64) :
  nf (N+v%2^m*2^n) (n+m) (rest ||| v%2^m*2^(n%64)%2^64) us:=by
 obtain⟨h1,af,aq,aJ⟩:=h;have hlow:v%2^m<2^(64-n%64):=gV (mod_lt _ (eW m)) (dD (by omega) (by omega));have aF:v%2^m*2^(n%64)%2^64=v%2^m*2^(n%64):=by rw[aaP _ _ (by omega),mod_eq_of_lt hlow]
 rw[aF,zN _ _ _ af];have Dt:2^n=2^(n%64)*2^(64*us.length):=by rw[<-dM];congr 1;omega
 refine⟨by omega,?_,aq,?_⟩
 .rw[show(n+m)%64=n%64+m by omega];exact sum_lt _ _ _ _ af
 .rw[aJ,Dt,Nat.add_mul];ac_rfl
theorem nf.Pe{N n rest:Nat}{us:ae}(h:nf N n rest us)(v m:Nat)(hm:m<=32)(fq:64<=n%64+m) :
  nf (N+v%2^m*2^n) (n+m) (v%2^m/2^(64-n%64)) ((rest ||| v%2^m*2^(n%64)%2^64) :: us):=by
 obtain⟨h1,af,aq,aJ⟩:=h;have Dt:2^n=2^(n%64)*2^(64*us.length):=by rw[<-dM];congr 1;omega
 have ah:v%2^m<2^m:=mod_lt _ (eW m);generalize v%2^m=x at ah ⊢;rw[aaP _ _ (by omega),zN _ _ _ af];refine⟨by simp only[b1];omega,?_,?_,?_⟩
 .rw[div_lt_iff_lt_mul (eW _),<-dM,show(n+m)%64+(64-n%64)=m by omega];exact ah
 .intro u hu;rcases List.mem_cons.1 hu with rfl | hu
  .have aR:x%2^(64-n%64)+1<=2^(64-n%64):=mod_lt _ (eW _);have cg:=mul_le_mul_right (2^(n%64)) aR;rw[Nat.add_mul,Nat.one_mul,<-dM,show 64-n%64+n%64=64 by omega]at cg;omega
  .exact aq u hu
 .have ag7:2^(64*(us.length+1))=2^(64-n%64)*(2^(n%64)*2^(64*us.length)):=by
   rw[<-dM,<-dM];congr 1;omega
  have ME:=div_add_mod x (2^(64-n%64));simp only[qm,b1];rw[aJ,Dt,ag7];generalize x%2^(64-n%64)=ab6 at ME ⊢;generalize x/2^(64-n%64)=ab5 at ME ⊢;rw[<-ME];simp only[Nat.add_mul];generalize 2^(64-n%64)=A;generalize 2^(n%64)=B;generalize 2^(64*us.length)=C;rw[show A*ab5*(B*C)=ab5*(A*(B*C)) by ac_rfl,show ab6*(B*C)=ab6*B*C by ac_rfl];omega
def ik(ag:ae)(off m v:Nat):ae:=ag.take off++bytesOf v m++ag.drop (off+m)
theorem Us(ag:ae)(off m v:Nat)(h:off+m<=ag.length):(ik ag off m v).length=ag.length:=by
 simp[ik,bytesOf_length];omega
theorem Uu(ag:ae)(off v:Nat):ik ag off 0 v=ag:=by
 simp[ik,bytesOf]
theorem Ut(ag:ae)(off i v:Nat)(h:off+i<ag.length):(ik ag off i v).set (off+i) (v/256^i%256)=ik ag off (i+1) v:=by
 unfold ik;have h1:(ag.take off++bytesOf v i).length=off+i:=by simp[bytesOf_length];omega
 rw[set_append_right _ _ (by omega),h1,Nat.sub_self,drop_eq_getElem_cons (by omega),set_cons_zero,GA];simp[jb]
theorem afY(N n rest:Nat)(us:ae)(h:nf N n rest us) :
  ik (List.replicate ((n+7)/8) 0) (8*us.length) (min ((n+7)/8-8*us.length) 8) rest=List.replicate (8*us.length) 0++(bytesOf N ((n+7)/8)).drop (8*us.length):=by
 obtain⟨h1,af,aq,aJ⟩:=h;have hc:=Ld us aq;have e:N/256^(8*us.length)=rest:=by
  rw[ib,show 8*(8*us.length)=64*us.length by omega,aJ,Nat.add_comm,add_mul_div_right _ _ (eW _),div_eq_of_lt hc,eH]
 rw[bytesOf_drop,e];unfold ik;rw[show min ((n+7)/8-8*us.length) 8=(n+7)/8-8*us.length by omega,take_replicate,drop_replicate,
  show min (8*us.length) ((n+7)/8)=8*us.length by omega,show(n+7)/8-(8*us.length+((n+7)/8-8*us.length))=0 by omega]
 simp
theorem af0(N L j:Nat)(bR:8*(j+1)<=L) :
  ik (List.replicate (8*(j+1)) 0++(bytesOf N L).drop (8*(j+1))) (8*j) 8 (N/2^(64*j)%2^64)=List.replicate (8*j) 0++(bytesOf N L).drop (8*j):=by
 have aF:bytesOf (N/2^(64*j)%2^64) 8=bytesOf (N/256^(8*j)) 8:=by
  rw[afV _ _ _ (by omega),ib,show 8*(8*j)=64*j by omega]
 obtain⟨t,rfl⟩:∃t,L=8*j+(8+t):=⟨L-8*(j+1),by omega⟩;unfold ik;rw[aF,bytesOf_drop N _ (8*j),Nat.add_sub_cancel_left,afW (N/256^(8*j)) 8 t,km,<-dM,bytesOf_drop,
  show 8*j+(8+t)-8*(j+1)=t by omega,show 8*(j+1)=8*j+8 by omega]
 rw[take_append_of_le_length (by simp),take_replicate,show min (8*j) (8*j+8)=8*j by omega,dj,drop_append_of_le_length (by simp),drop_replicate,Nat.sub_self];simp
theorem agd(N u:Nat)(us:ae)(aq:∀x∈us,x<2^64)(h:qm (u :: us)=N%2^(64*(us.length+1))) :
  u=N/2^(64*us.length)%2^64/\qm us=N%2^(64*us.length):=by
 have hc:=Ld us aq;have e:N%2^(64*(us.length+1))=N%2^(64*us.length)+2^(64*us.length)*(N/2^(64*us.length)%2^64):=by
  rw[Nat.mul_add,Nat.mul_one,dM,mod_mul]
 rw[e]at h;simp only[qm]at h;have hm:N%2^(64*us.length)<2^(64*us.length):=mod_lt _ (eW _);generalize N/2^(64*us.length)%2^64=q at h ⊢;generalize N%2^(64*us.length)=r at h hm ⊢;generalize 2^(64*us.length)=A at h hc hm ⊢;have aR:(qm us+u*A)/A=u:=by
  rw[add_mul_div_right _ _ (by omega),div_eq_of_lt hc,eH]
 have cg:(r+A*q)/A=q:=by
  rw[add_mul_div_left _ _ (by omega),div_eq_of_lt hm,eH]
 have c7:u=q:=by
  rw[<-aR,<-cg,<-h];congr 1;omega
 subst c7;refine⟨rfl,?_⟩;rw[eQ A]at h;omega
theorem nf.chain{N n rest:Nat}{us:ae}(h:nf N n rest us):qm us=N%2^(64*us.length):=by
 obtain⟨h1,af,aq,aJ⟩:=h;rw[aJ,Nat.add_comm,add_mul_mod_self_right,mod_eq_of_lt (Ld us aq)]
def xk:Nat->Nat->ae
 | 0,v=>[v%128]
 | f+1,v=>if v<128 then [v]else(v%128+128) :: xk f (v/128)
def br(v:Nat):ae:=xk 64 v
theorem UI:∀(f v:Nat),v<128^(f+1)->∀g,f<=g->xk g v=xk f v
 | 0,v,h,g,_=>by
  have h1:v<128:=by simpa using h
  cases g with
  | zero=>rfl
  | succ g=>simp[xk,h1,mod_eq_of_lt h1]
 | f+1,v,h,g,aD=>by
  obtain⟨fd,rfl⟩:∃k,g=k+1:=⟨g-1,by omega⟩;simp only[xk];split
  .rfl
  .rw[UI f (v/128) (by rw[div_lt_iff_lt_mul (by omega),<-ej];exact h) fd (by omega)]
theorem tQ(v:Nat)(h:v<128):br v=[v]:=by simp[br,xk,h]
theorem xl(v:Nat)(h:128<=v)(nT:v<2^64):br v=(v%128+128) :: br (v/128):=by
 have h1:v/128<128^(63+1):=by
  have:(2:Nat)^64<=128^(63+1):=by decide +kernel
  have:=div_le_self v 128;omega
 unfold br;rw[UI 63 (v/128) h1 64 (by omega),show(64:Nat)=63+1 from rfl,xk,ay (by omega)]
def eL:ae->Nat
 | []=>0
 | b :: bs=>b%128+128*eL bs
theorem Hf{P:Nat->Prop}(small:∀v,v<128->P v)(big:∀v,128<=v->v<2^64->P (v/128)->P v):∀v,v<2^64->P v:=by
 intro v;induction v using Nat.strongRecOn with
 | _ v ih=>
  intro h;by_cases h1:v<128
  .exact small v h1
  .exact big v (by omega) h (ih (v/128) (by omega) (by omega))
theorem ahZ(v:Nat)(h:v<2^64):eL (br v)=v:=by
 refine Hf (P:=λv=>eL (br v)=v) ?_ ?_ v h
 .intro v h;rw[tQ v h];simp[eL];omega
 .intro v h1 af ih;rw[xl v h1 af,eL,ih];omega
theorem qr(v:Nat)(h:v<2^64):∀b∈br v,b<256:=by
 refine Hf (P:=λv=>∀b∈br v,b<256) ?_ ?_ v h
 .intro v h b ak;rw[tQ v h]at ak;simp at ak;omega
 .intro v h1 af ih b ak;rw[xl v h1 af]at ak;rcases List.mem_cons.1 ak with rfl | ak
  .omega
  .exact ih b ak
theorem yS(v:Nat)(h:v<2^64):0<(br v).length:=by
 by_cases h1:v<128
 .rw[tQ v h1];simp
 .rw[xl v (by omega) h];simp
theorem Hg(v:Nat)(h:v<2^64):∀k,0<k->((br v).length<=k↔v<128^k):=by
 refine Hf (P:=λv=>∀k,0<k->((br v).length<=k↔v<128^k)) ?_ ?_ v h
 .intro v h k hk;rw[tQ v h];obtain⟨j,rfl⟩:∃j,k=j+1:=⟨k-1,by omega⟩;have:128<=128^(j+1):=by
   rw[ej];have:=Nat.pow_pos (n:=j) (show 0<128 by omega);omega
  simp;omega
 .intro v h1 af ih k hk;rw[xl v h1 af];obtain⟨j,rfl⟩:∃j,k=j+1:=⟨k-1,by omega⟩;rcases eq_zero_or_pos j with am | am
  .subst am;have:=yS (v/128) (by omega);rw[b1,eH,Nat.pow_one];omega
  .have aq:=ih j am;rw[div_lt_iff_lt_mul (by omega),<-ej]at aq;rw[b1,<-aq];omega
theorem nS(v:Nat)(h:v<2^64):(br v).length<=10:=by
 refine(Hg v h 10 (by omega)).2 (gV h ?_);decide +kernel
theorem ahY(v:Nat)(h:v<2^64):∃front last,br v=front++[last]/\last<128/\∀b∈front,128<=b:=by
 refine Hf (P:=λv=>∃front last,br v=front++[last]/\last<128/\∀b∈front,128<=b) ?_ ?_ v h
 .intro v h;exact⟨[],v,by rw[tQ v h];rfl,h,by simp⟩
 .intro v h1 af ⟨front,last,e,hl,aL⟩;refine⟨(v%128+128) :: front,last,by rw[xl v h1 af,e];rfl,hl,?_⟩;intro b ak;rcases List.mem_cons.1 ak with rfl | ak
  .omega
  .exact aL b ak
def lead:ae->Nat
 | []=>0
 | b :: bs=>if 128<=b then lead bs+1 else 0
theorem Oh(s:ae):lead s<=s.length:=by
 induction s with
 | nil=>simp[lead]
 | cons b bs ih=>simp only[lead];split<;>simp<;>omega
theorem YR(s:ae):∀i (h:i<s.length),i<lead s->128<=s[i]:=by
 induction s with
 | nil=>intro i h;simp at h
 | cons b bs ih=>
  intro i h ax;simp only[lead]at ax;split at ax
  .cases i with
   | zero=>simpa
   | succ i=>simpa using ih i (by simpa using h) (by omega)
  .omega
theorem YS(s:ae)(h:lead s<s.length):s[lead s]<128:=by
 induction s with
 | nil=>simp at h
 | cons b bs ih=>
  simp only[lead]at h ⊢;split
  .rename_i ak
   rw[aA ak]at h;simpa using ih (by simpa using h)
  .simp;omega
theorem alM(front:ae)(last:Nat)(rest:ae)(hl:last<128)(aL:∀b∈front,128<=b):lead (front++last :: rest)=front.length:=by
 induction front with
 | nil=>simp[lead];omega
 | cons b bs ih=>
  simp only[cons_append,lead];rw[aA (aL b ea),ih (λx ah=>aL x (ew _ ah))];simp
def aW(s:ae):Nat×Nat:=
 if lead s=s.length\/9<lead s then(0,0)
 else if eL (s.take (lead s+1))<2^64/\br (eL (s.take (lead s+1)))=s.take (lead s+1)then(eL (s.take (lead s+1)),lead s+1)else(0,0)
theorem xi(v:Nat)(rest:ae)(h:v<2^64):aW (br v++rest)=(v,(br v).length):=by
 obtain⟨front,last,e,hl,aL⟩:=ahY v h;have vo:=nS v h;have hlead:lead (br v++rest)=front.length:=by rw[e,dj];exact alM front last rest hl aL
 have hlen:(br v).length=front.length+1:=by rw[e];simp
 have htake:(br v++rest).take (front.length+1)=br v:=by rw[<-hlen];simp
 unfold aW;rw[hlead,htake,ahZ v h,ay (by rw[aY,hlen];omega),aA ⟨h,rfl⟩,hlen]
theorem sn(s:ae)(v k:Nat)(hk:0<k)(h:aW s=(v,k)):v<2^64/\s.take k=br v/\k<=s.length:=by
 unfold aW at h;split at h
 .injection h with h1 af;omega
 .rename_i az
  split at h
  .rename_i aD
   injection h with h1 af
   have:=Oh s;subst h1 af;exact⟨aD.1,aD.2.symm,by omega⟩
  .injection h with h1 af;omega
theorem LJ(s:ae)(v:Nat)(h:aW s=(v,0)):v=0:=by
 unfold aW at h;split at h
 .injection h with h1 af;exact h1.symm
 .split at h
  .injection h with h1 af;omega
  .injection h with h1 af;exact h1.symm
theorem asW(s:ae)(i:Nat)(h:i<s.length):eL (s.drop i)=s[i]%128+128*eL (s.drop (i+1)):=by
 rw[drop_eq_getElem_cons h,eL]
theorem asX(s:ae)(i:Nat):128^i*eL (s.drop i)<=eL s:=by
 induction i generalizing s with
 | zero=>simp
 | succ i ih=>
  cases s with
  | nil=>simp[eL]
  | cons b bs=>
   rw[drop_succ_cons,eL,ej];have h1:=mul_le_mul_left 128 (ih bs);rw[eQ (128^i) 128,Nat.mul_assoc];omega
theorem asV(s:ae)(i:Nat)(ax:0<i)(h:144115188075855871<eL (s.drop i)):¬eL s<2^64:=by
 have h1:=asX s i;obtain⟨j,rfl⟩:∃j,i=j+1:=⟨i-1,by omega⟩;rw[ej,Nat.mul_assoc]at h1;have af:=mul_le_mul_right (128*eL (s.drop (j+1))) (show 1<=128^j from Nat.pow_pos (by omega));omega
def wid(x:Nat):Nat:=if x=0 then 0 else x.log2+1
theorem Fw(x:Nat)(h:0<x):wid x=x.log2+1:=by unfold wid;rw[ay (by omega)]
theorem wu(x:Nat):x<2^wid x:=by
 rcases eq_zero_or_pos x with h | h
 .subst h;simp[wid]
 .rw[Fw x h];exact lt_log2_self
theorem Cc(x:Nat)(h:0<x):2^(wid x-1)<=x:=by
 rw[Fw x h,Nat.add_sub_cancel];exact log2_self_le (by omega)
theorem tn(x:Nat)(h:0<x):1<=wid x:=by rw[Fw x h];omega
theorem Cb(x k:Nat)(h1:2^k<=x)(af:x<2^(k+1)):wid x=k+1:=by
 have ah:0<x:=gV (Nat.pow_pos (by omega)) h1;have aq:=Cc x ah;have aJ:=wu x;have aR:=tn x ah;have cg:wid x-1<k+1:=(Nat.pow_lt_pow_iff_right (a:=2) (by omega)).1 (Nat.lt_of_le_of_lt aq af);have c7:k<wid x:=(Nat.pow_lt_pow_iff_right (a:=2) (by omega)).1 (Nat.lt_of_le_of_lt h1 aJ);omega
theorem qN(x k:Nat)(h:x<2^k):wid x<=k:=by
 rcases eq_zero_or_pos x with am | am
 .subst am;simp[wid]
 .have aq:=Cc x am;have cg:wid x-1<k:=(Nat.pow_lt_pow_iff_right (a:=2) (by omega)).1 (Nat.lt_of_le_of_lt aq h);omega
theorem as9(x:Nat)(h:0<x)(r:Nat)(aj:r<2):wid (2*x+r)=wid x+1:=by
 have aq:=Cc x h;have aJ:=wu x;have aR:=tn x h;obtain⟨k,hk⟩:∃k,wid x=k+1:=⟨wid x-1,by omega⟩;rw[hk]at aq aJ ⊢;rw[Nat.add_sub_cancel]at aq;have aF:2^(k+1)=2^k*2:=ej 2 k;have e2:2^(k+1+1)=2^(k+1)*2:=ej 2 (k+1);exact Cb _ (k+1) (by omega) (by omega)
def dX(log x:Nat):Nat:=log+1-wid x
def tL(log x:Nat):Nat:=x*2^dX log x-2^log
theorem Dj(log x:Nat)(am:0<x)(h:x<2^(log+1)):2^log<=x*2^dX log x:=by
 have h1:=qN x (log+1) h;have af:=tn x am;have aq:=Cc x am;have e:2^log=2^(wid x-1)*2^dX log x:=by unfold dX;rw[<-dM];congr 1;omega
 rw[e];exact mul_le_mul_right _ aq
theorem KU(log x:Nat)(_h0:0<x)(h:x<2^(log+1)):(x+1)*2^dX log x<=2^(log+1):=by
 have h1:=qN x (log+1) h;have aJ:=wu x;have e:2^(log+1)=2^wid x*2^dX log x:=by unfold dX;rw[<-dM];congr 1;omega
 rw[e];exact mul_le_mul_right _ aJ
theorem aeY(log x:Nat)(am:0<x)(h:x<2^(log+1)):tL log x+2^dX log x<=2^log:=by
 have h1:=Dj log x am h;have af:=KU log x am h;have e:2^(log+1)=2^log*2:=ej 2 log;rw[Nat.add_mul,Nat.one_mul]at af;unfold tL;omega
theorem HU(log x st:Nat)(am:0<x)(h:x<2^(log+1)):(tL log x<=st/\st<tL log x+2^dX log x)↔(st+2^log)/2^dX log x=x:=by
 have h1:=Dj log x am h;have aw:0<2^dX log x:=Nat.pow_pos (by omega);have e:(x+1)*2^dX log x=x*2^dX log x+2^dX log x:=by rw[Nat.add_mul,Nat.one_mul]
 unfold tL;constructor
 .rintro⟨af,aq⟩;have aJ:x<=(st+2^log)/2^dX log x:=(le_div_iff_mul_le aw).2 (by omega);have aR:(st+2^log)/2^dX log x<x+1:=(div_lt_iff_lt_mul aw).2 (by omega);omega
 .intro af;have aJ:x<=(st+2^log)/2^dX log x:=by omega
  have aR:(st+2^log)/2^dX log x<x+1:=by omega
  rw[le_div_iff_mul_le aw]at aJ;rw[div_lt_iff_lt_mul aw]at aR;omega
theorem art(log n x y st:Nat)(ah:n<=x)(oC:x<2*n)(hy:n<=y)(oE:y<2*n)
  (h1:(st+2^log)/2^dX log x=x) (af:(st+2^log)/2^dX log y=y):x=y:=by
 have e:2^(log+1)=2^log*2:=ej 2 log;have key:∀x y:Nat,n<=x->x<2*n->n<=y->y<2*n->(st+2^log)/2^dX log x=x->(st+2^log)/2^dX log y=y->¬dX log y<dX log x:=by
  intro x y ah oC hy oE h1 af av;obtain⟨d,aG⟩:∃d,dX log x=dX log y+1+d:=⟨dX log x-dX log y-1,by omega⟩;rw[aG,dM,<-km,ej,<-km,af]at h1;have aq:=div_le_self (y/2) (2^d);omega
 have bf:=key x y ah oC hy oE h1 af;have bM:=key y x hy oE ah oC af h1;rw[show dX log x=dX log y by omega,af]at h1;exact h1.symm
theorem aru(log n st:Nat)(am:0<n)(auv:n<=2^log)(aQ:st<2^log):∃x,n<=x/\x<2*n/\(st+2^log)/2^dX log x=x:=by
 have e:2^(log+1)=2^log*2:=ej 2 log;have key:∀c:Nat,(st+2^log)/2^c<n->∃b,n<=(st+2^log)/2^b/\(st+2^log)/2^(b+1)<n:=by
  intro c;induction c with
  | zero=>intro h;rw[Nat.pow_zero,Nat.div_one]at h;omega
  | succ c ih=>
   intro h;by_cases h1:(st+2^log)/2^c<n
   .exact ih h1
   .exact⟨c,by omega,h⟩
 obtain⟨b,aH,aI⟩:=key (log+1) (by rw[div_eq_of_lt (by omega)];exact am);have aw:0<2^b:=Nat.pow_pos (by omega);have akE:0<(st+2^log)/2^b:=by omega
 refine⟨(st+2^log)/2^b,aH,?_,?_⟩
 .rw[ej,<-km]at aI;omega
 .have dY:b<=log:=by
   rcases eP log b with h1 | h1
   .have af:2^(log+1)<=2^b:=dD (by omega) h1;rw[div_eq_of_lt (by omega)]at akE;omega
   .exact h1
  have hw:wid ((st+2^log)/2^b)=log-b+1:=by
   refine Cb _ _ ((le_div_iff_mul_le aw).2 ?_) ((div_lt_iff_lt_mul aw).2 ?_)
   .rw[<-dM,show log-b+b=log by omega];omega
   .rw[<-dM,show log-b+1+b=log+1 by omega];omega
  have lg:dX log ((st+2^log)/2^b)=b:=by unfold dX;rw[hw];omega
  rw[lg]
def oP:Nat->ae->ae
 | _,[]=>[]
 | s,n :: l=>List.replicate n s++oP (s+1) l
theorem arC(s:Nat)(l:ae):(oP s l).length=l.sum:=by
 induction l generalizing s with
 | nil=>rfl
 | cons n l ih=>rw[oP,aY,jl,ih,sum_cons]
theorem aby(t:Nat):∀(l:ae) (s:Nat),(oP s l).count t=if s<=t then l[t-s]?.getD 0 else 0
 | [],s=>by simp[oP]
 | n :: l,s=>by
  rw[oP,count_append,count_replicate,aby t l (s+1)];by_cases h1:s=t
  .subst h1;rw[aA (by simp),ay (by omega),aA (by omega)];simp
  .rw[ay (by simpa using h1)];by_cases af:s<=t
   .rw[aA (by omega),aA af];obtain⟨d,aG⟩:∃d,t-s=d+1:=⟨t-s-1,by omega⟩;rw[aG,show t-(s+1)=d by omega];simp
   .rw[ay (by omega),ay af]
theorem abz(l:ae)(s t k:Nat)(aC:t<l.length)(hk:k<l[t]):(oP s l)[(l.take t).sum+k]?=some (s+t):=by
 induction l generalizing s t with
 | nil=>simp at aC
 | cons n l ih=>
  rw[oP];cases t with
  | zero=>
   simp only[getElem_cons_zero]at hk;rw[take_zero,sum_nil,eH,hZ (by simpa using hk)];simp[hk]
  | succ t=>
   simp only[getElem_cons_succ]at hk;rw[take_succ_cons,sum_cons,jk (by simp;omega),jl,show n+(l.take t).sum+k-n=(l.take t).sum+k by omega,ih (s+1) t (by simpa using aC) hk];congr 1
   omega
def PG(log:Nat):Nat:=if log=5 then 7 else if log=6 then 3 else if log=7 then 91 else if log=8 then 11 else 363
def zU(log:Nat):Nat:=2^log/2+2^log/8+3
def gU(log k:Nat):Nat:=k*zU log%2^log
def rz(log p:Nat):Nat:=p*PG log%2^log
theorem aa9(log:Nat)(h:5<=log)(dm:log<=9):zU log*PG log%2^log=1:=by
 have:log=5\/log=6\/log=7\/log=8\/log=9:=by omega
 rcases this with rfl | rfl | rfl | rfl | rfl<;>decide
theorem inv_pos(log k:Nat)(h:5<=log)(dm:log<=9)(hk:k<2^log):rz log (gU log k)=k:=by
 unfold rz gU;rw[mod_mul_mod,Nat.mul_assoc,mul_mod,aa9 log h dm,Nat.mul_one,mod_mod,mod_eq_of_lt hk]
theorem O8(log p:Nat)(h:5<=log)(dm:log<=9)(aw:p<2^log):gU log (rz log p)=p:=by
 unfold rz gU;rw[mod_mul_mod,Nat.mul_assoc,eQ (PG log),mul_mod,aa9 log h dm,Nat.mul_one,mod_mod,mod_eq_of_lt aw]
theorem Ix(log k:Nat):gU log k<2^log:=mod_lt _ (Nat.pow_pos (by omega))
theorem N6(log p:Nat):rz log p<2^log:=mod_lt _ (Nat.pow_pos (by omega))
theorem Z6(log k:Nat):gU log (k+1)=(gU log k+zU log)%2^log:=by
 unfold gU;rw[Nat.add_mul,Nat.one_mul,mod_add_mod]
theorem akX(log:Nat)(h:5<=log)(dm:log<=9):((List.range (2^log)).map (rz log)).Perm (List.range (2^log)):=by
 rw[perm_iff_count];intro a;have ns:((List.range (2^log)).map (rz log)).Nodup:=by
  rw[nodup_iff_pairwise_ne,pairwise_map];refine List.Pairwise.imp_of_mem ?_ (nodup_range (n:=2^log));intro p q aw hq aX he;have h1:=O8 log p h dm (List.mem_range.1 aw);have af:=O8 log q h dm (List.mem_range.1 hq);rw[he,af]at h1;exact aX h1.symm
 by_cases aS:a<2^log
 .have h1:a∈(List.range (2^log)).map (rz log):=List.mem_map.2 ⟨gU log a,List.mem_range.2 (Ix log a),inv_pos log a h dm aS⟩;have af:=List.count_pos_iff.2 h1;have aq:=List.nodup_iff_count.1 ns a;have aJ:=List.count_pos_iff.2 (List.mem_range.2 aS);have aR:=List.nodup_iff_count.1 (nodup_range (n:=2^log)) a;omega
 .rw[List.count_eq_zero.2 (λhm=>?_),List.count_eq_zero.2 (λhm=>aS (List.mem_range.1 hm))];obtain⟨p,_,rfl⟩:=List.mem_map.1 hm;exact aS (N6 log p)
structure ec(U:ae)(log:Nat):Prop where
 low:5<=log
 high:log<=9
 len:U.length<=256
 sum:U.sum=2^log
def cD(U:ae)(log p:Nat):Nat:=(oP 0 U)[rz log p]?.getD 0
def e9(U:ae)(log:Nat):ae:=(List.range (2^log)).map (cD U log)
theorem qJ(U:ae)(log:Nat):(e9 U log).length=2^log:=by simp[e9]
theorem z1(U:ae)(log p:Nat)(h:p<2^log):(e9 U log)[p]?=some (cD U log p):=by simp[e9,h]
theorem amB(l:ae):(List.range l.length).map (λk=>l[k]?.getD 0)=l:=by
 apply ext_getElem
 .simp
 .intro i h1 af;simp[af]
theorem arI(U:ae)(log:Nat)(h:ec U log):(e9 U log).Perm (oP 0 U):=by
 have h1:=(akX log h.low h.high).map (λk=>(oP 0 U)[k]?.getD 0);rw[List.map_map]at h1;have e:=amB (oP 0 U);rw[arC,h.sum]at e;rw[e]at h1;exact h1
theorem zZ(U:ae)(log s:Nat)(h:ec U log):(e9 U log).count s=U[s]?.getD 0:=by
 rw[(arI U log h).count_eq,aby,aA (by omega),Nat.sub_zero]
theorem xZ(U:ae)(log p:Nat)(h:ec U log)(aw:p<2^log):∃ap:cD U log p<U.length,0<U[cD U log p]:=by
 have h1:cD U log p∈e9 U log:=List.mem_map.2 ⟨p,List.mem_range.2 aw,rfl⟩;have af:=List.count_pos_iff.2 h1;rw[zZ U log _ h]at af;rcases eP (cD U log p) U.length with aq | aq
 .exact⟨aq,by simpa [aq]using af⟩
 .rw[getElem?_eq_none aq]at af;simp at af
def tb(U:ae)(log p:Nat):Nat:=((e9 U log).take p).count (cD U log p)
theorem GN(l:ae)(p s:Nat)(h:p<l.length):(l.take (p+1)).count s=(l.take p).count s+if l[p]=s then 1 else 0:=by
 rw[gb h,count_append,count_singleton];simp
theorem TQ(l:ae)(p q s:Nat)(h:p<=q):(l.take p).count s<=(l.take q).count s:=by
 obtain⟨d,rfl⟩:∃d,q=p+d:=⟨q-p,by omega⟩;rw[take_add,count_append];omega
theorem Lk(l:ae)(p s:Nat):(l.take p).count s<=l.count s:=by
 have h1:=TQ l p (max p l.length) s (by omega);rw[take_of_length_le (i:=max p l.length) (by omega)]at h1;exact h1
theorem aoO(U:ae)(log p:Nat)(h:ec U log)(aw:p<2^log):tb U log p<U[cD U log p]?.getD 0:=by
 have hl:p<(e9 U log).length:=by rw[qJ];exact aw
 have h1:=GN (e9 U log) p (cD U log p) hl;have e:(e9 U log)[p]=cD U log p:=by
  have:=z1 U log p aw;rw[bH hl]at this;injection this
 rw[aA e]at h1;have af:=Lk (e9 U log) (p+1) (cD U log p);rw[zZ U log _ h]at af;unfold tb;omega
theorem IB:∀(l:ae) (s r:Nat),r<l.count s->∃p,∃h:p<l.length,l[p]=s/\(l.take p).count s=r
 | [],s,r,h=>by simp at h
 | a :: l,s,r,h=>by
  by_cases aS:a=s
  .subst aS;cases r with
   | zero=>exact⟨0,by simp,rfl,by simp⟩
   | succ r=>
    rw[count_cons_self]at h;obtain⟨p,aw,h1,af⟩:=IB l a r (by omega);exact⟨p+1,by simpa using aw,by simpa using h1,by rw[take_succ_cons,count_cons_self,af]⟩
  .rw[count_cons_of_ne (by simpa using aS)]at h;obtain⟨p,aw,h1,af⟩:=IB l s r h;exact⟨p+1,by simpa using aw,by simpa using h1,by rw[take_succ_cons,count_cons_of_ne (by simpa using aS),af]⟩
theorem aoP(l:ae)(s p q:Nat)(aw:p<l.length)(hq:q<l.length)(h1:l[p]=s)(af:l[q]=s)(h:(l.take p).count s=(l.take q).count s):p=q:=by
 have key:∀p q:Nat,∀aw:p<l.length,l[p]=s->p<q->(l.take p).count s<(l.take q).count s:=λp q aw h1 av=>by
  have aq:=GN l p s aw;rw[aA h1]at aq;have aJ:=TQ l (p+1) q s av;omega
 rcases Nat.lt_trichotomy p q with aq | aq | aq
 .have:=key p q aw h1 aq;omega
 .exact aq
 .have:=key q p hq af aq;omega
def hN(U:ae)(log p:Nat):Nat:=U[cD U log p]?.getD 0+tb U log p
theorem BU(U:ae)(log p:Nat)(h:ec U log)(aw:p<2^log):∃n,U[cD U log p]?=some n/\0<n/\n<=2^log/\n<=hN U log p/\hN U log p<2*n/\hN U log p<2^(log+1):=by
 obtain⟨ap,am⟩:=xZ U log p h aw;have aj:=aoO U log p h aw;rw[bH ap]at aj;have hle:U[cD U log p]<=2^log:=by
  rw[<-h.sum];have:∀(l:ae) (i:Nat) (ax:i<l.length),l[i]<=l.sum:=λl=>by
   induction l with
   | nil=>intro i ax;simp at ax
   | cons a l ih=>
    intro i ax;cases i with
    | zero=>simp
    | succ i=>have:=ih i (by simpa using ax);simp;omega
  exact this U _ ap
 have e:2^(log+1)=2^log*2:=ej 2 log;simp only[b6]at aj;refine⟨U[cD U log p],bH ap,am,hle,?_,?_,?_⟩
 all_goals unfold hN;rw[bH ap,b6];omega
def cc(U:ae)(log p:Nat):Nat:=dX log (hN U log p)
def ep(U:ae)(log p:Nat):Nat:=tL log (hN U log p)
def leads(U:ae)(log st s p:Nat):Prop:=cD U log p=s/\ep U log p<=st/\st<ep U log p+2^cc U log p
instance (U:ae) (log st s p:Nat):Decidable (leads U log st s p):=by unfold leads;exact inferInstance
theorem AQ(U:ae)(log p:Nat)(h:ec U log)(aw:p<2^log):ep U log p+2^cc U log p<=2^log:=by
 obtain⟨n,_,am,_,af,_,aJ⟩:=BU U log p h aw;exact aeY log _ (by omega) aJ
theorem AR(U:ae)(log p:Nat)(h:ec U log)(aw:p<2^log):cc U log p<=log:=by
 obtain⟨n,_,am,_,af,_,aJ⟩:=BU U log p h aw;have:=tn (hN U log p) (by omega);unfold cc dX;omega
theorem alN(U:ae)(log st s p q:Nat)(h:ec U log)(aw:p<2^log)(hq:q<2^log)(h1:leads U log st s p)(af:leads U log st s q):p=q:=by
 obtain⟨n,aF,am,az,ie,a2,a3⟩:=BU U log p h aw;obtain⟨m,e2,_,_,bP,bq,eo⟩:=BU U log q h hq;obtain⟨rfl,aH,aI⟩:=h1;obtain⟨ap,bL,db⟩:=af;rw[ap,aF]at e2;injection e2 with e2
 subst e2;have bf:=(HU log _ st (by omega) a3).1 ⟨aH,aI⟩;have bM:=(HU log _ st (by omega) eo).1 ⟨bL,db⟩;have ev:=art log n _ _ st ie a2 bP bq bf bM;unfold hN at ev;rw[ap]at ev;have D9:p<(e9 U log).length:=by rw[qJ];exact aw
 have M2:q<(e9 U log).length:=by rw[qJ];exact hq
 have nk:=z1 U log p aw;have Hd:=z1 U log q hq;rw[bH D9]at nk;rw[bH M2,ap]at Hd;injection nk with nk
 injection Hd with Hd
 refine aoP (e9 U log) (cD U log p) p q D9 M2 nk Hd ?_;unfold tb at ev;rw[ap]at ev;omega
theorem alO(U:ae)(log st s n:Nat)(h:ec U log)(ap:U[s]?=some n)(am:0<n)(aQ:st<2^log):∃p,p<2^log/\leads U log st s p:=by
 have hc:=zZ U log s h;rw[ap,b6]at hc;have az:n<=2^log:=by rw[<-hc,<-qJ U log];exact count_le_length
 obtain⟨x,h1,af,aq⟩:=aru log n st am az aQ;obtain⟨p,aw,aF,e2⟩:=IB (e9 U log) s (x-n) (by omega);have Bu:p<2^log:=by rw[qJ]at aw;exact aw
 have nk:=z1 U log p Bu;rw[bH aw,aF]at nk;injection nk with nk
 have ah:hN U log p=x:=by
  unfold hN tb;rw[<-nk,ap,b6,e2];omega
 have e:2^(log+1)=2^log*2:=ej 2 log;refine⟨p,Bu,nk.symm,?_⟩;unfold ep cc;rw[ah];exact(HU log x st (by omega) (by omega)).2 aq
def lF(U:ae)(log st s:Nat):Option Nat:=(List.range (2^log)).find? λp=>decide (leads U log st s p)
theorem aeT(U:ae)(log st s n:Nat)(h:ec U log)(ap:U[s]?=some n)(am:0<n)(aQ:st<2^log):∃p,lF U log st s=some p/\p<2^log/\leads U log st s p:=by
 obtain⟨q,hq,hl⟩:=alO U log st s n h ap am aQ;cases e:lF U log st s with
 | none=>
  unfold lF at e;rw[find?_eq_none]at e;exact absurd (bG hl) (e q (List.mem_range.2 hq))
 | some p=>
  have e':=e;unfold lF at e';have h1:=find?_some e';have af:=mem_of_find?_eq_some e';exact⟨p,rfl,List.mem_range.1 af,of_decide_eq_true h1⟩
theorem SZ(U:ae)(log st s p:Nat)(h:ec U log)(aw:p<2^log)(hl:leads U log st s p):lF U log st s=some p:=by
 cases e:lF U log st s with
 | none=>
  unfold lF at e;rw[find?_eq_none]at e;exact absurd (bG hl) (e p (List.mem_range.2 aw))
 | some q=>
  have e':=e;unfold lF at e';have am:=find?_some e';have h1:=of_decide_eq_true am;have af:=List.mem_range.1 (mem_of_find?_eq_some e');rw[alN U log st s p q h aw af hl h1]
theorem S0(U:ae)(log st s:Nat)(h:ec U log)(ap:U[s]?.getD 0=0):lF U log st s=none:=by
 unfold lF;rw[find?_eq_none];intro p aw hl;obtain⟨h1,af⟩:=xZ U log p h (List.mem_range.1 aw);have aq:=(of_decide_eq_true hl).1;rw[aq]at h1;rw[bH h1,b6]at ap;have aJ:U[cD U log p]=U[s]:=by congr
 omega
def encR(U:ae)(log:Nat):ae->Option (Nat×Nat×Nat)
 | []=>some (0,0,0)
 | s :: rest=>(encR U log rest).bind λt=>(lF U log t.2.2 s).map λp=>(t.1+(t.2.2-ep U log p)*2^t.2.1,t.2.1+cc U log p,p)
def ji(U:ae)(log:Nat):Nat->Nat->Nat->Nat->Option (ae)
 | 0,_,len,st=>if st=0/\len=0 then some []else none
 | m+1,N,len,st=>if len<cc U log st then none else
   (ji U log m (N%2^(len-cc U log st)) (len-cc U log st) (ep U log st+N/2^(len-cc U log st))).map λl=>cD U log st :: l
theorem A1(U:ae)(log:Nat)(h:ec U log):∀(l:ae) (N n st:Nat),encR U log l=some (N,n,st)->N<2^n/\st<2^log/\n<=log*l.length/\ji U log l.length N n st=some l
 | [],N,n,st,e=>by
  simp only[encR,Option.some.injEq,Prod.mk.injEq]at e;obtain⟨rfl,rfl,rfl⟩:=e;exact⟨by simp,Nat.pow_pos (by omega),by simp,by simp[ji]⟩
 | s :: l,N,n,st,e=>by
  simp only[encR]at e;cases aj:encR U log l with
  | none=>rw[aj]at e;simp at e
  | some t=>
   obtain⟨sd,hC,tg⟩:=t;rw[aj,Option.bind_some]at e;dsimp only at e;cases ak:lF U log tg s with
   | none=>rw[ak]at e;simp at e
   | some p=>
    rw[ak,map_some]at e;simp only[Option.some.injEq,Prod.mk.injEq]at e;obtain⟨rfl,rfl,rfl⟩:=e;obtain⟨h1,af,aq,aJ⟩:=A1 U log h l sd hC tg aj;have h6:=ak;unfold lF at h6;have aL:=find?_some h6;have aw:=List.mem_range.1 (mem_of_find?_eq_some h6);obtain⟨gy,ft,lT⟩:leads U log tg s p:=of_decide_eq_true aL;have dY:=AR U log p h aw;have aE:tg-ep U log p<2^cc U log p:=by
     generalize 2^cc U log p=P at lT;omega
    have hpos:0<2^hC:=Nat.pow_pos (by omega);refine⟨?_,aw,?_,?_⟩
    .rw[dM];have aR:(tg-ep U log p+1)*2^hC<=2^cc U log p*2^hC:=mul_le_mul_right _ aE;rw[Nat.add_mul,Nat.one_mul]at aR;rw[eQ (2^hC)];generalize (tg-ep U log p)*2^hC=A at aR;generalize 2^cc U log p*2^hC=B at aR;omega
    .rw[b1,Nat.mul_add,Nat.mul_one];omega
    .rw[b1,ji,ay (by omega),Nat.add_sub_cancel,add_mul_mod_self_right,mod_eq_of_lt h1,add_mul_div_right _ _ hpos,div_eq_of_lt h1,eH,show ep U log p+(tg-ep U log p)=tg by omega,aJ,gy];rfl
theorem T7(U:ae)(log:Nat)(h:ec U log):∀(m N len st:Nat) (l:ae),N<2^len->st<2^log->ji U log m N len st=some l->encR U log l=some (N,len,st)/\l.length=m
 | 0,N,len,st,l,cV,_,e=>by
  unfold ji at e;split at e
  .next hc=>
   obtain⟨rfl,rfl⟩:=hc;injection e with e
   subst e;have:N=0:=by simpa using cV
   subst this;exact⟨rfl,rfl⟩
  .cases e
 | m+1,N,len,st,l,cV,aQ,e=>by
  unfold ji at e;split at e
  .cases e
  .next hlen=>
   cases aj:ji U log m (N%2^(len-cc U log st)) (len-cc U log st) (ep U log st+N/2^(len-cc U log st))with
   | none=>rw[aj]at e;simp at e
   | some YL=>
    rw[aj,map_some]at e;injection e with e
    subst e;have aw:0<2^(len-cc U log st):=Nat.pow_pos (by omega);have aE:N/2^(len-cc U log st)<2^cc U log st:=by
     rw[div_lt_iff_lt_mul aw,<-dM,show cc U log st+(len-cc U log st)=len by omega];exact cV
    have jx:=AQ U log st h aQ;have gT:ep U log st+N/2^(len-cc U log st)<2^log:=by
     generalize 2^cc U log st=P at aE jx;omega
    obtain⟨h1,af⟩:=T7 U log h m _ _ _ YL (mod_lt _ aw) gT aj;have hl:leads U log (ep U log st+N/2^(len-cc U log st)) (cD U log st) st:=⟨rfl,le_add_right _ _,Nat.add_lt_add_left aE _⟩;have ak:=SZ U log _ _ st h aQ hl;refine⟨?_,by rw[b1,af]⟩;simp only[encR];rw[h1,Option.bind_some];dsimp only;rw[ak,map_some];congr 1
    rw[Nat.add_sub_cancel_left];have aG:=mod_add_div N (2^(len-cc U log st));rw[eQ]at aG;rw[aG,show len-cc U log st+cc U log st=len by omega]
theorem Ul(U:ae)(log:Nat)(h:ec U log):∀l:ae,(∀s∈l,0<U[s]?.getD 0)->∃t,encR U log l=some t
 | [],_=>⟨_,rfl⟩
 | s :: l,hl=>by
  obtain⟨⟨sd,hC,tg⟩,aj⟩:=Ul U log h l (λx ah=>hl x (ew _ ah));have aQ:=(A1 U log h l sd hC tg aj).2.1;have am:=hl s ea;cases ap:U[s]? with
  | none=>rw[ap]at am;simp at am
  | some n=>
   rw[ap,b6]at am;obtain⟨p,aw,_⟩:=aeT U log tg s n h ap am aQ;simp only[encR];rw[aj,Option.bind_some];dsimp only;rw[aw];exact⟨_,rfl⟩
theorem Uk(U:ae)(log:Nat)(h:ec U log)(s:Nat)(am:U[s]?.getD 0=0):∀l:ae,s∈l->encR U log l=none
 | [],hm=>by cases hm
 | x :: l,hm=>by
  simp only[encR];rcases List.mem_cons.1 hm with rfl | hm
  .cases aj:encR U log l with
   | none=>rfl
   | some t=>rw[Option.bind_some,S0 U log _ _ h am];rfl
  .rw[Uk U log h s am l hm];rfl
theorem agu(N n st:Nat)(cV:N<2^n):(N+st*2^n)%2^n=N/\(N+st*2^n)/2^n=st:=by
 have hpos:0<2^n:=Nat.pow_pos (by omega);exact⟨by rw[add_mul_mod_self_right,mod_eq_of_lt cV],by rw[add_mul_div_right _ _ hpos,div_eq_of_lt cV,eH]⟩
theorem S6:∀n:Fin 256,n.val≠0->1<=Lib.bitLen n.val/\Lib.bitLen n.val<=8/\2^(Lib.bitLen n.val-1)<=n.val/\n.val<2^Lib.bitLen n.val:=by decide +kernel
def qh(V k:Nat):Prop:=V/2^k=1
theorem x3{V k:Nat}:qh V k↔2^k<=V/\V<2*2^k:=by
 have aw:=eW k;unfold qh;constructor
 .intro h;refine⟨?_,?_⟩
  .have:=(le_div_iff_mul_le aw (x:=1) (y:=V)).1 (by omega);omega
  .have:=(div_lt_iff_lt_mul aw (x:=V) (y:=2)).1 (by omega);omega
 .rintro⟨h1,af⟩;have aq:=(le_div_iff_mul_le aw (x:=1) (y:=V)).2 (by omega);have aJ:=(div_lt_iff_lt_mul aw (x:=V) (y:=2)).2 (by omega);omega
theorem qh.uniq{V j k:Nat}(h:qh V j)(kg:qh V k):j=k:=by
 obtain⟨a,b⟩:=x3.1 h;obtain⟨c,d⟩:=x3.1 kg;rcases Nat.lt_trichotomy j k with hl | hl | hl
 .have:=dD (n:=2) (by omega) (show j+1<=k from hl);rw[ej]at this;omega
 .exact hl
 .have:=dD (n:=2) (by omega) (show k+1<=j from hl);rw[ej]at this;omega
theorem qh.sum{V k:Nat}(h:qh V k):V=V%2^k+2^k:=by
 have:=div_add_mod V (2^k);rw[h,Nat.mul_one]at this;omega
theorem ar7(N n:Nat)(h:N<2^n):qh (N+2^n) n:=x3.2 ⟨by omega,by omega⟩
theorem P4(front:ae)(b:Nat)(aL:∀x∈front,x<256)(ak:b<256)(am:b≠0):1<=Lib.bitLen b/\Lib.bitLen b<=8/\qh (bd (front++[b])) (8*front.length+(Lib.bitLen b-1)):=by
 obtain⟨h1,fK,af,aq⟩:=S6 ⟨b,ak⟩ am;have hl:=po front aL;simp only at h1 fK af aq;generalize Lib.bitLen b=L at h1 af aq fK ⊢;refine⟨h1,fK,?_⟩;obtain⟨m,rfl⟩:∃m,L=m+1:=⟨L-1,by omega⟩;rw[Nat.add_sub_cancel]at af ⊢;rw[Fv];rw[ej]at aq;refine x3.2 ⟨?_,?_⟩
 .rw[dM,<-ib,eQ];have:=mul_le_mul_right (256^front.length) af;omega
 .rw[dM,<-ib,eQ (256^front.length)];have:=mul_le_mul_right (256^front.length) (show b+1<=2^m*2 by omega);rw[Nat.add_mul,Nat.one_mul]at this;rw[<-Nat.mul_assoc,eQ 2];omega
theorem amc(N n q x:Nat)(h:8*q<=n):bytesOf (N+x*2^n) q=bytesOf N q:=by
 apply map_congr_left
 intro i ax;rw[ib];exact zH N x n (8*i) 8 (by
   have:i<q:=by simpa using ax
   omega)
theorem aql(N n:Nat)(h:N<2^n)(fK:n%8=0):bytesOf N ((n+7)/8)++[1]=bytesOf (N+2^n) (n/8+1):=by
 have e:n=8*(n/8):=by omega
 have h1:=amc N n (n/8) 1 (by omega);rw[Nat.one_mul]at h1;rw[GA,h1,show(n+7)/8=n/8 by omega];congr 1
 have af:=Wh N 1 n 0 h;rw[Nat.one_mul,ga,Nat.pow_zero,Nat.div_one]at af;rw[ib,<-e,af]
theorem aqj(N n:Nat)(h:N<2^n):(bytesOf N (n/8+1)).set (n/8) (N/256^(n/8)%256+2^(n%8))=bytesOf (N+2^n) (n/8+1):=by
 have h1:=afT N (n/8) (n%8) (by omega) (by rw[div_add_mod];exact h);rw[div_add_mod]at h1;exact h1
theorem abu(N n:Nat)(h:N<2^n):N+2^n<256^(n/8+1):=by
 rw[ib];have h1:=dD (n:=2) (by omega) (show n+1<=8*(n/8+1) by omega);rw[ej]at h1;omega
theorem asZ(N n:Nat)(h:N<2^n):bd (bytesOf (N+2^n) (n/8+1))=N+2^n:=by
 rw[Fu,mod_eq_of_lt (abu N n h)]
theorem aaJ(N n i d:Nat)(h:i+d<=n):(N+2^n)/2^i%2^d=N/2^i%2^d:=by
 have h1:=zH N 1 n i d h;rw[Nat.one_mul]at h1;exact h1
theorem ar6(V k:Nat)(h:V<2^(k+1))(am:V/2^k%2=0):V<2^k:=by
 have h1:V/2^k<2:=by
  rw[div_lt_iff_lt_mul (eW k),eQ,<-ej];exact h
 have af:V/2^k<1:=by omega
 have aq:=(div_lt_iff_lt_mul (eW k) (x:=V) (y:=1)).1 af;omega
theorem ar5(V k:Nat)(h:V<2^(k+1))(h1:V/2^k%2≠0):qh V k:=by
 have af:V/2^k<2:=by
  rw[div_lt_iff_lt_mul (eW k),eQ,<-ej];exact h
 unfold qh;generalize V/2^k=x at h1 af ⊢;omega
def eK:ae->Nat->Nat×Nat
 | [],_=>(0,0)
 | n :: l,rest=>if rest=0 then(0,0)else(n+(eK l (rest-n)).1*2^wid rest,wid rest+(eK l (rest-n)).2)
def takeN:Nat->Nat->Nat->Nat->Option (ae×Nat)
 | 0,rest,_,len=>if rest=0 then some ([],len)else none
 | f+1,rest,N,len=>if rest=0 then some ([],len)else if len<wid rest then none else if rest<N%2^wid rest then none else
   (takeN f (rest-N%2^wid rest) (N/2^wid rest) (len-wid rest)).map λt=>(N%2^wid rest :: t.1,t.2)
def cB:ae->ae
 | []=>[]
 | n :: l=>if n+l.sum=0 then []else n :: cB l
theorem VX:∀(l:ae) (rest:Nat),l.sum<=rest->(eK l rest).1<2^(eK l rest).2
 | [],rest,_=>by simp[eK]
 | n :: l,rest,h=>by
  unfold eK;split
  .simp
  .next am=>
   rw[sum_cons]at h;have ih:=VX l (rest-n) (by omega);have hw:=wu rest;have az:n<2^wid rest:=Nat.lt_of_le_of_lt (by omega) hw;show n+(eK l (rest-n)).1*2^wid rest<2^(wid rest+(eK l (rest-n)).2);rw[dM,eQ (2^wid rest)];have aR:((eK l (rest-n)).1+1)*2^wid rest<=2^(eK l (rest-n)).2*2^wid rest:=mul_le_mul_right _ ih;rw[Nat.add_mul,Nat.one_mul]at aR;generalize (eK l (rest-n)).1*2^wid rest=A at aR ⊢;generalize 2^(eK l (rest-n)).2*2^wid rest=B at aR ⊢;generalize 2^wid rest=P at az aR;omega
theorem abK:∀(l:ae) (rest X m f:Nat),l.sum=rest->l.length<=f->takeN f rest ((eK l rest).1+X*2^(eK l rest).2) ((eK l rest).2+m)=some (cB l,m)
 | [],rest,X,m,f,h,_=>by
  have am:rest=0:=by simpa using h.symm
  subst am;cases f<;>simp[takeN,eK,cB]
 | n :: l,rest,X,m,f,h,aL=>by
  rw[sum_cons]at h;by_cases am:rest=0
  .subst am;have e:cB (n :: l)=[]:=by unfold cB;rw[aA h]
   rw[e];cases f<;>simp[takeN,eK]
  .obtain⟨g,rfl⟩:∃g,f=g+1:=⟨f-1,by rw[b1]at aL;omega⟩;have e:cB (n :: l)=n :: cB l:=by
    rw[cB,ay (by omega)]
   have hw:=wu rest;have az:n<2^wid rest:=Nat.lt_of_le_of_lt (by omega) hw;have aw:0<2^wid rest:=Nat.pow_pos (by omega);have ih:=abK l (rest-n) X m g (by omega) (by rw[b1]at aL;omega);have aF:(eK (n :: l) rest).1=n+(eK l (rest-n)).1*2^wid rest:=by rw[eK,ay am]
   have e2:(eK (n :: l) rest).2=wid rest+(eK l (rest-n)).2:=by rw[eK,ay am]
   have e3:n+(eK l (rest-n)).1*2^wid rest+X*2^(wid rest+(eK l (rest-n)).2)=n+((eK l (rest-n)).1+X*2^(eK l (rest-n)).2)*2^wid rest:=by
    rw[dM,Nat.add_mul,Nat.mul_assoc X,eQ (2^wid rest),jb]
   rw[aF,e2,e3,e,takeN,ay am,ay (by omega)];have hm:(n+((eK l (rest-n)).1+X*2^(eK l (rest-n)).2)*2^wid rest)%2^wid rest=n:=by rw[add_mul_mod_self_right,mod_eq_of_lt az]
   have aG:(n+((eK l (rest-n)).1+X*2^(eK l (rest-n)).2)*2^wid rest)/2^wid rest=(eK l (rest-n)).1+X*2^(eK l (rest-n)).2:=by rw[add_mul_div_right _ _ aw,div_eq_of_lt az,eH]
   rw[hm,aG,ay (by omega),show wid rest+(eK l (rest-n)).2+m-wid rest=(eK l (rest-n)).2+m by omega,ih];rfl
theorem abJ:∀(f rest N len:Nat) (l:ae) (e:Nat),takeN f rest N len=some (l,e)->l.sum=rest/\l.length<=f/\e<=len
 | 0,rest,N,len,l,e,h=>by
  unfold takeN at h;split at h
  .next am=>
   injection h with h
   injection h with h1 af
   subst h1 af am;simp
  .cases h
 | f+1,rest,N,len,l,e,h=>by
  unfold takeN at h;split at h
  .next am=>
   injection h with h
   injection h with h1 af
   subst h1 af am;simp
  .split at h
   .cases h
   .split at h
    .cases h
    .next am h1 af=>
     cases aj:takeN f (rest-N%2^wid rest) (N/2^wid rest) (len-wid rest)with
     | none=>rw[aj]at h;simp at h
     | some t=>
      rw[aj,map_some]at h;injection h with h
      injection h with aq aJ
      subst aq aJ;obtain⟨bf,bM,ev⟩:=abJ f _ _ _ t.1 t.2 aj;refine⟨by rw[sum_cons,bf];omega,by rw[b1];omega,by omega⟩
def h4(c:Nat):Int:=if c<16 then 0 else if 27<c then -1 else((c-12:Nat):Int)
def mH(v:Nat):Nat:=if v<16 then v else 11+wid v
def mj(v:Nat):Nat:=if v<16 then 0 else v%2^(wid v-1)
def ju(v:Nat):Nat:=if v<16 then 0 else wid v-1
def n8(c m:Nat):Option Nat:=if c<16 then(if m=0 then some c else none)else if 27<c then none else if m<2^(c-12)then some (2^(c-12)+m)else none
theorem Qj(v:Nat)(h:16<=v)(af:v<=65535):∃k,4<=k/\k<=15/\2^k<=v/\v<2^(k+1)/\wid v=k+1:=by
 have aE:v≠0:=by omega
 have h1:2^v.log2<=v:=log2_self_le aE;have aq:v<2^(v.log2+1):=lt_log2_self;refine⟨v.log2,(le_log2 aE).2 h,?_,h1,aq,Fw v (by omega)⟩;have:v.log2<16:=(log2_lt aE).2 (by omega);omega
theorem Dm(v:Nat)(h:v<=65535):mH v<=27/\mj v<=65535/\ju v<=15/\n8 (mH v) (mj v)=some v:=by
 by_cases eU:v<16
 .unfold mH mj ju;rw[aA eU,aA eU,aA eU];refine⟨by omega,by omega,by omega,?_⟩;unfold n8;rw[aA eU,aA rfl]
 .obtain⟨k,bf,bM,h1,af,hw⟩:=Qj v (by omega) h;unfold mH mj ju;rw[ay eU,ay eU,ay eU,hw,Nat.add_sub_cancel];have av:=mod_lt v (eW k);have hm:=mod_le v (2^k);refine⟨by omega,by omega,by omega,?_⟩;unfold n8;rw[ay (by omega),ay (by omega),show 11+(k+1)-12=k by omega,aA av];have aw:2^(k+1)=2^k+2^k:=by rw[ej];omega
  have:v%2^k=v-2^k:=by
   rw[mod_eq_sub_mod h1,mod_eq_of_lt (by omega)]
  rw[this];congr 1
  omega
theorem as2(c m k:Nat)(hk:h4 c=(k:Int)):n8 c m=none↔m/2^k≠0:=by
 have aw:=eW k;have e:m/2^k≠0↔¬m<2^k:=by
  rw[ne_eq,Nat.div_eq_zero_iff];omega
 rw[e];unfold h4 at hk;unfold n8;by_cases eU:c<16
 .rw[aA eU]at hk;have:k=0:=by omega
  subst this;rw[aA eU];by_cases am:m=0
  .simp[am]
  .rw[ay am];simp only[Nat.pow_zero,true_iff];omega
 .rw[ay eU]at hk;by_cases ou:27<c
  .rw[aA ou]at hk;omega
  .rw[ay ou]at hk;have:k=c-12:=by omega
   subst this;rw[ay eU,ay ou];by_cases hm:m<2^(c-12)
   .simp[hm]
   .simp[hm]
theorem as1(c m:Nat)(hk:h4 c<0):n8 c m=none:=by
 unfold h4 at hk;unfold n8;by_cases eU:c<16
 .rw[aA eU]at hk;omega
 .rw[ay eU]at hk;by_cases ou:27<c
  .rw[ay eU,aA ou]
  .rw[ay ou]at hk;omega
theorem ahy(c:Nat):h4 c=-1\/∃k:Nat,h4 c=(k:Int)/\k<=15:=by
 unfold h4;split
 .exact .inr ⟨0,rfl,by omega⟩
 .split
  .exact .inl rfl
  .exact .inr ⟨c-12,rfl,by omega⟩
def ht(a b c x:Int):Int:=if x<1\/65533<x then -1 else if a=x then 0 else if b=x then 1 else if c=x then 2 else x+2
def hx(a b c x:Int):Int×Int×Int:=if a=x then(x,b,c)else if b=x then(x,a,c)else(x,a,b)
def kl(a b c n:Int):Int:=if 2<n then n-2 else if n=0 then a else if n=1 then b else c
def ka(a b c n:Int):Option Int:=if n<0\/65535<n then none else if ht a b c (kl a b c n)=n then some (kl a b c n)else none
theorem Zx(a b c x:Int):ht a b c x=-1\/(0<=ht a b c x/\ht a b c x<=65535):=by
 unfold ht;split
 .exact .inl rfl
 .refine .inr ?_;split
  .omega
  .split
   .omega
   .split<;>omega
theorem amY(a b c x:Int)(h:0<=ht a b c x):1<=x/\x<=65533:=by
 unfold ht at h;by_cases h1:x<1\/65533<x
 .rw[aA h1]at h;omega
 .omega
theorem am5(a b c:Int):kl a b c 0=a:=by unfold kl;rw[ay (by omega),aA rfl]
theorem am3(a b c:Int):kl a b c 1=b:=by unfold kl;rw[ay (by omega),ay (by omega),aA rfl]
theorem am4(a b c:Int):kl a b c 2=c:=by unfold kl;rw[ay (by omega),ay (by omega),ay (by omega)]
theorem am2(a b c x:Int)(h:0<x):kl a b c (x+2)=x:=by unfold kl;rw[aA (by omega)];omega
theorem am6(a b c x:Int)(h:0<=ht a b c x):ka a b c (ht a b c x)=some x:=by
 have ah:kl a b c (ht a b c x)=x:=by
  unfold ht at *;by_cases h1:x<1\/65533<x
  .rw[aA h1]at h;omega
  .rw[ay h1]at *;by_cases aS:a=x
   .rw[aA aS,am5,aS]
   .rw[ay aS];by_cases ak:b=x
    .rw[aA ak,am3,ak]
    .rw[ay ak];by_cases hc:c=x
     .rw[aA hc,am4,hc]
     .rw[ay hc,am2 _ _ _ _ (by omega)]
 have aj:=Zx a b c x;unfold ka;rw[ay (by omega),ah,aA rfl]
theorem am7(a b c n x:Int)(h:ka a b c n=some x):0<=n/\n<=65535/\ht a b c x=n:=by
 unfold ka at h;by_cases h1:n<0\/65535<n
 .rw[aA h1]at h;cases h
 .rw[ay h1]at h;by_cases af:ht a b c (kl a b c n)=n
  .rw[aA af]at h;injection h with h
   exact⟨by omega,by omega,by rw[<-h];exact af⟩
  .rw[ay af]at h;cases h
abbrev dC:=Nat×Nat×Nat
abbrev fc:=Int×Int×Int
def iu(s:dC):fc:=((s.1:Int),(s.2.1:Int),(s.2.2:Int))
theorem asU(a b:ae):eL (a++b)=eL a+128^a.length*eL b:=by
 induction a with
 | nil=>simp[eL]
 | cons x xs ih=>
  rw[cons_append,eL,ih,eL,b1,ej,Nat.mul_add,<-Nat.mul_assoc,eQ 128 (128^xs.length)];omega
theorem Qf(s:ae):eL s<128^s.length:=by
 induction s with
 | nil=>simp[eL]
 | cons x xs ih=>
  rw[eL,b1,ej];omega
theorem Qg(s:ae)(x:Nat):eL (s++[x])=eL s+x%128*128^s.length:=by
 rw[asU];simp[eL,eQ]
theorem UJ:∀(front:ae) (last:Nat),(∀b∈front,128<=b/\b<256)->last<128->(last≠0\/front=[])->eL (front++[last])<2^64->br (eL (front++[last]))=front++[last]
 | [],last,_,hl,_,_=>by
  have e:eL ([]++[last])=last:=by simp[eL];omega
  rw[e,tQ last hl];rfl
 | b :: fs,last,aL,hl,am,nT=>by
  have vK:last≠0:=by rcases am with h | h;exact h;cases h
  have ak:=aL b ea;rw[cons_append,eL]at nT ⊢;have ih:=UJ fs last (λx ah=>aL x (ew _ ah)) hl (.inl vK) (by omega);have h1:1<=eL (fs++[last]):=by
   rw[Qg];have af:1<=last%128*128^fs.length:=Nat.mul_pos (by omega) (Nat.pow_pos (by omega));omega
  rw[xl _ (by omega) nT,show(b%128+128*eL (fs++[last]))/128=eL (fs++[last]) by omega,ih];congr 1
  omega
theorem ahI(s:ae)(ak:∀x∈s,x<256)(i:Nat)(ax:i<s.length)(dm:i<=9)(hlead:lead s=i) :
  aW s=if (i=9/\s[i]=1)\/(i≠9/\(s[i]≠0\/i=0))then(eL (s.take (i+1)),i+1)else(0,0):=by
 have hlow:s[i]<128:=by
  have h1:=YS s (by omega);simpa [hlead]using h1
 have htake:s.take (i+1)=s.take i++[s[i]]:=gb ax;have hlen:(s.take i).length=i:=by rw[cq];omega
 have ajn:∀b∈s.take i,128<=b/\b<256:=by
  intro b y0;obtain⟨j,ar,rfl⟩:=List.mem_iff_getElem.1 y0;rw[hlen]at ar;rw[getElem_take];exact⟨YR s j (by omega) (by omega),ak _ (b7 _)⟩
 have hval:eL (s.take (i+1))=eL (s.take i)+s[i]*128^i:=by rw[htake,Qg,hlen,mod_eq_of_lt hlow]
 have zF:eL (s.take i)<128^i:=by have h1:=Qf (s.take i);rw[hlen]at h1;exact h1
 unfold aW;rw[hlead,ay (by omega)];by_cases hc:(i=9/\s[i]=1)\/(i≠9/\(s[i]≠0\/i=0))
 .rw[aA hc];have nT:eL (s.take (i+1))<2^64:=by
   rcases hc with⟨h,h1⟩ | ⟨h,_⟩
   .rw[hval,h1];rw[h]at zF ⊢;have:(128:Nat)^9+1*128^9=2^64:=by decide
    omega
   .have h1:=Qf (s.take (i+1));have af:128^(s.take (i+1)).length<=128^9:=dD (by omega) (by rw[cq];omega);have aq:(128:Nat)^9<=2^64:=by decide
    omega
  have aD:br (eL (s.take (i+1)))=s.take (i+1):=by
   rw[htake]at nT ⊢;refine UJ _ _ ajn hlow ?_ nT;rcases hc with⟨_,h1⟩ | ⟨_,h1 | h1⟩
   .left;omega
   .left;exact h1
   .right;subst h1;simp
  rw[aA ⟨nT,aD⟩]
 .rw[ay hc,ay];rintro⟨nT,aD⟩;by_cases am:s[i]=0
  .have MO:0<i:=by
    rcases eq_zero_or_pos i with h | h
    .exact absurd (Or.inr ⟨by omega,Or.inr h⟩) hc
    .exact h
   have h1:eL (s.take (i+1))<128^i:=by rw[hval,am];omega
   have af:=(Hg _ nT i MO).2 h1;rw[aD,cq]at af;omega
  .have LV:i=9:=by
    rcases eP i 9 with h | h
    .exact absurd (Or.inr ⟨by omega,Or.inl am⟩) hc
    .omega
   have h1:s[i]≠1:=λh=>hc (Or.inl ⟨LV,h⟩)
   have aJ:128^i=128^9:=by rw[LV]
   rw[hval,aJ]at nT;have af:2*128^9<=s[i]*128^9:=mul_le_mul_right _ (by omega);have aq:2*(128:Nat)^9=2^64:=by decide
   omega
theorem LI(s:ae)(h:lead s=s.length\/9<lead s):aW s=(0,0):=by
 unfold aW;rw[aA h]
theorem YT(s:ae)(i:Nat)(h:i<=lead s)(ax:i<s.length)(h1:128<=s[i]):i+1<=lead s:=by
 rcases eP i (lead s)with af | af
 .exact af
 .have e:lead s=i:=by omega
  have aq:=YS s (by omega);simp only[e]at aq;omega
theorem YQ(s:ae)(i:Nat)(h:i<=lead s)(ax:i<s.length)(h1:s[i]<128):lead s=i:=by
 rcases eP i (lead s)with af | af
 .have:=YR s i ax af;omega
 .omega
theorem asY(s:ae)(i:Nat)(ax:i<s.length):eL (s.take (i+1))=eL (s.take i)+s[i]%128*128^i:=by
 rw[gb ax,Qg,cq,Nat.min_eq_left (by omega)]
end Go.Proofs.YtgiicohbigiapaaGreat.ao
namespace Go.Proofs
open Go.Shelf
def Tryz.lays128_ren:Go.Shelf.Ren:=⟨fun | 128=>161 | n=>n,fun | 51=>132 | 3=>3 | 4=>4 | 46=>88 | 5=>5 | 9=>9 | n=>n,fun | n=>n⟩
theorem Tryz.lays128:Go.Proofs.Lays.n128 prog Tryz.lays128_ren:={
 mixed:=by kernel_rfl
 f128:=Tryz.func161.trans (congrArg some (by kernel_rfl))
 t3:=underlying3
 a3:=Tryz.isAgg3
 z3:=Tryz.sizeOf3
 v3:=Tryz.zeroValue3
 t4:=underlying4
 a4:=Tryz.isAgg4
 z4:=Tryz.sizeOf4
 v4:=Tryz.zeroValue4
 t5:=underlying5
 a5:=Tryz.isAgg5
 z5:=Tryz.sizeOf5
 v5:=Tryz.zeroValue5
 t9:=underlying9
 a9:=Tryz.isAgg9
 z9:=Tryz.sizeOf9
 v9:=Tryz.zeroValue9
 t46:=underlying88
 a46:=Tryz.isAgg88
 z46:=Tryz.sizeOf88
 v46:=Tryz.zeroValue88
 t51:=underlying132
 a51:=Tryz.isAgg132
 z51:=Tryz.sizeOf132
 v51:=Tryz.zeroValue132}
theorem Tryz.bits_Len32(x:Int)(w:World)(am:0<=x)(h1:x<=4294967295) :
  Calls prog 161 #[.int .u32 x] w λe w'=>e=.returned (.int .i64 (Lib.bitLen x.toNat))/\w'=w:=Any.bits_Len32 Tryz.lays128 x w am h1
end Go.Proofs
namespace Go.Proofs.YtgiicohbigiapaaGreat.ao
def jE(U:ae)(log k s:Nat):ae:=(List.range k).filter λp=>cD U log p == s
theorem aq4(U:ae)(log s:Nat):jE U log 0 s=[]:=rfl
theorem IV(U:ae)(log k:Nat):jE U log (k+1) (cD U log k)=jE U log k (cD U log k)++[k]:=by
 unfold jE;rw[range_succ,filter_append];simp
theorem PN(U:ae)(log k s:Nat)(h:cD U log k≠s):jE U log (k+1) s=jE U log k s:=by
 unfold jE;rw[range_succ,filter_append];simp[h]
theorem aq2(U:ae)(log k m s:Nat)(h:k<=m):∃l,jE U log m s=jE U log k s++l:=by
 obtain⟨d,rfl⟩:∃d,m=k+d:=⟨m-k,by omega⟩;induction d with
 | zero=>exact⟨[],by simp⟩
 | succ d ih=>
  obtain⟨l,e⟩:=ih (by omega);by_cases ap:cD U log (k+d)=s
  .subst ap;exact⟨l++[k+d],by rw[<-jb,IV,e,dj]⟩
  .exact⟨l,by rw[<-jb,PN _ _ _ _ ap,e]⟩
theorem IU(U:ae)(log k s:Nat)(hk:k<=2^log):(jE U log k s).length=((e9 U log).take k).count s:=by
 induction k with
 | zero=>simp[jE]
 | succ k ih=>
  have hl:k<(e9 U log).length:=by rw[qJ];omega
  have g:=z1 U log k (by omega);rw[bH hl]at g;injection g with g
  have h1:=GN (e9 U log) k s hl;have af:=ih (by omega);by_cases ap:cD U log k=s
  .subst ap;rw[aA g]at h1;rw[IV,aY,h1,af];rfl
  .rw[ay (by rw[g];exact ap)]at h1;rw[PN _ _ _ _ ap];omega
theorem aa6(U:ae)(log s:Nat)(h:ec U log):(jE U log (2^log) s).length=U[s]?.getD 0:=by
 rw[IU _ _ _ _ bh,<-qJ U log,take_length,zZ U log s h]
theorem aq1(U:ae)(log p:Nat)(aw:p<2^log):(jE U log (2^log) (cD U log p))[tb U log p]?=some p:=by
 obtain⟨l,e⟩:=aq2 U log (p+1) (2^log) (cD U log p) (by omega);rw[e,IV];have hl:(jE U log p (cD U log p)).length=tb U log p:=IU _ _ _ _ (by omega);rw[dj,<-hl];simp
theorem aeS(U:ae)(log st s n b:Nat)(h:ec U log)(ap:U[s]?=some n)(am:0<n)(aQ:st<2^log)
  (h1:n<=(st+2^log)/2^b) (af:(st+2^log)/2^b<2*n) :
  ∃p,(jE U log (2^log) s)[(st+2^log)/2^b-n]?=some p/\lF U log st s=some p/\cc U log p=b/\st-ep U log p=(st+2^log)%2^b:=by
 have hc:=zZ U log s h;rw[ap,b6]at hc;have e:2^(log+1)=2^log*2:=ej 2 log;have aw:0<2^b:=Nat.pow_pos (by omega);have az:n<=2^log:=by rw[<-hc,<-qJ U log];exact count_le_length
 obtain⟨x,ah⟩:∃x,x=(st+2^log)/2^b:=⟨_,rfl⟩;have dY:b<=log:=by
  rcases eP log b with aq | aq
  .have aJ:2^(log+1)<=2^b:=dD (by omega) aq;rw[div_eq_of_lt (by omega)]at h1;omega
  .exact aq
 have hw:wid x=log-b+1:=by
  rw[ah];refine Cb _ _ ((le_div_iff_mul_le aw).2 ?_) ((div_lt_iff_lt_mul aw).2 ?_)
  .rw[<-dM,show log-b+b=log by omega];omega
  .rw[<-dM,show log-b+1+b=log+1 by omega];omega
 have lg:dX log x=b:=by unfold dX;rw[hw];omega
 rw[<-ah]at h1 af ⊢;obtain⟨p,cm,aF,e2⟩:=IB (e9 U log) s (x-n) (by omega);have Bu:p<2^log:=by rw[qJ]at cm;exact cm
 have nk:=z1 U log p Bu;rw[bH cm,aF]at nk;injection nk with nk
 have aj:tb U log p=x-n:=by unfold tb;rw[<-nk,e2]
 have jR:hN U log p=x:=by
  unfold hN;rw[<-nk,ap,b6,aj];omega
 have bu:cc U log p=b:=by unfold cc;rw[jR,lg]
 have oC:x<2^(log+1):=by omega
 have hl:leads U log st s p:=by
  refine⟨nk.symm,?_⟩;unfold ep cc;rw[jR];exact(HU log x st (by omega) oC).2 (by rw[lg];exact ah.symm)
 refine⟨p,?_,SZ U log st s p h Bu hl,bu,?_⟩
 .have aq:=aq1 U log p Bu;rw[aj,<-nk]at aq;exact aq
 .unfold ep tL;rw[jR,lg];have aq:=Dj log x (by omega) oC;rw[lg]at aq;have aJ:=div_add_mod (st+2^log) (2^b);rw[<-ah,eQ]at aJ;omega
theorem aqG(log st n:Nat)(am:0<n)(az:n<=2^log)(aQ:st<2^log):(st+2^log)/2^(log+1-wid n)<2*n:=by
 have e:2^(log+1)=2^log*2:=ej 2 log;have h1:=Cc n am;have af:=tn n am;have aq:=qN n (log+1) (by omega);refine(div_lt_iff_lt_mul (Nat.pow_pos (by omega))).2 ?_;have aJ:2^(log+1)=2^(wid n-1)*2*2^(log+1-wid n):=by
  rw[<-ej,<-dM];congr 1;omega
 have aR:2^(wid n-1)*2*2^(log+1-wid n)<=2*n*2^(log+1-wid n):=mul_le_mul_right _ (by omega);omega
theorem aqH(log st n:Nat)(am:0<n)(az:n<=2^log)(h:(st+2^log)/2^(log+1-wid n)<n) :
  1<=log+1-wid n/\n<=(st+2^log)/2^(log+1-wid n-1)/\(st+2^log)/2^(log+1-wid n-1)<2*n:=by
 have e:2^(log+1)=2^log*2:=ej 2 log;have h1:=wu n;have af:=tn n am;have aq:=qN n (log+1) (by omega);have bu:1<=log+1-wid n:=by
  rcases eq_zero_or_pos (log+1-wid n)with aJ | aJ
  .rw[aJ,Nat.pow_zero,Nat.div_one]at h;omega
  .exact aJ
 obtain⟨b,ak⟩:∃b,log+1-wid n=b+1:=⟨log+1-wid n-1,by omega⟩;rw[ak]at h ⊢;rw[Nat.add_sub_cancel];refine⟨by omega,?_,?_⟩
 .refine(le_div_iff_mul_le (Nat.pow_pos (by omega))).2 ?_;have aJ:2^log=2^wid n*2^b:=by rw[<-dM];congr 1;omega
  have aR:n*2^b<=2^wid n*2^b:=mul_le_mul_right _ (by omega);omega
 .rw[ej,<-km]at h;omega
theorem aq3(U:ae)(log s n:Nat)(h:ec U log)(ap:U[s]?=some n):n<=2^log:=by
 have hc:=zZ U log s h;rw[ap,b6]at hc;rw[<-hc,<-qJ U log];exact count_le_length
end ao
end Go.Proofs.YtgiicohbigiapaaGreat
