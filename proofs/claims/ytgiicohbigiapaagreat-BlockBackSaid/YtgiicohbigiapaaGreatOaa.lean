/- Contracts. -/
import Derived.Shelf.Small.Bits
import Derived.Test.YtgiicohbigiapaaGreatProg
import Derived.Test.YtgiicohbigiapaaGreatOz0
set_option maxHeartbeats 4000000
set_option maxRecDepth 100000
open Go.Proofs.Tryz List Nat Option
namespace Go.Proofs.YtgiicohbigiapaaGreat
namespace am
def bitsOf(N n:Nat):ae:=(List.range n).map λi=>N/2^i%2
def bytesOf(N L:Nat):ae:=(List.range L).map λi=>N/256^i%256
def bd:ae->Nat
|[]=>0
|b::bs=>b+256*bd bs
def p6:ae->Nat
|[]=>0
|u::us=>u*2^(64*us.length)+p6 us
theorem h0(k:Nat):256^k=2^(8*k):=by
 rw[Nat.pow_mul]
theorem gV(N n:Nat):(bitsOf N n).length=n:=by simp[bitsOf]
theorem bytesOf_length(N L:Nat):(bytesOf N L).length=L:=by simp[bytesOf]
theorem lM(N n i:Nat)(h:i<(bitsOf N n).length):(bitsOf N n)[i]=N/2^i%2:=by simp[bitsOf]
theorem xS(N L i:Nat)(h:i<(bytesOf N L).length):(bytesOf N L)[i]=N/256^i%256:=by simp[bytesOf]
theorem aft(N n i:Nat)(h:i<n):(bitsOf N n)[i]?=some (N/2^i%2):=by simp[bitsOf,h]
theorem agc(N L i:Nat)(h:i<L):(bytesOf N L)[i]?=some (N/256^i%256):=by simp[bytesOf,h]
theorem ut(N L:Nat):∀b∈bytesOf N L,b<256:=by
 intro b ak;simp only[bytesOf,mem_map]at ak;obtain⟨i,_,rfl⟩:=ak;exact mod_lt _ (by omega)
theorem afv(N n:Nat):bitsOf N (n+1)=bitsOf N n++[N/2^n%2]:=by simp[bitsOf,range_succ]
theorem Cs(N n:Nat):bytesOf N (n+1)=bytesOf N n++[N/256^n%256]:=by simp[bytesOf,range_succ]
theorem yP(M x n i d:Nat)(ay:i+d<=n):(M+x*2^n)/2^i%2^d=M/2^i%2^d:=by
 obtain⟨t,rfl⟩:∃t,n=i+d+t:=⟨n-(i+d),by omega⟩;have e:M+x*2^(i+d+t)=M+2^i*(2^d*(x*2^t)):=by
  rw[dI,dI];ac_rfl
 rw[e,add_mul_div_left _ _ (eK i),add_mul_mod_self_left]
theorem Ul(M x n i:Nat)(k1:M<2^n):(M+x*2^n)/2^(n+i)=x/2^i:=by
 rw[dI,<-jX,add_mul_div_right _ _ (eK n),div_eq_of_lt k1,ez]
theorem G6(v m i:Nat)(ay:i<m):v%2^m/2^i%2=v/2^i%2:=by
 have h:=yP (v%2^m) (v/2^m) m i 1 (by omega);rw[mod_add_div']at h;rw[Nat.pow_one]at h;exact h.symm
theorem am3(v m i:Nat)(ay:i+8<=m):v%2^m/2^i%256=v/2^i%256:=by
 have h:=yP (v%2^m) (v/2^m) m i 8 ay;rw[mod_add_div']at h;exact h.symm
theorem afu(v m:Nat):bitsOf (v%2^m) m=bitsOf v m:=by
 apply map_congr_left
 intro i ay;exact G6 v m i (by simpa using ay)
theorem Re(N n v m:Nat)(cU:N<2^n):bitsOf N n++bitsOf v m=bitsOf (N+v%2^m*2^n) (n+m):=by
 apply ext_getElem
 .simp[gV]
 .intro i h1 af;simp only[aY,gV]at h1;rw[lM];by_cases ay:i<n
  .rw[getElem_append_left (by rw[gV];exact ay),lM];have h:=yP N (v%2^m) n i 1 (by omega);rw[Nat.pow_one]at h;exact h.symm
  .rw[getElem_append_right (by rw[gV];omega),lM,gV];obtain⟨j,rfl⟩:∃j,i=n+j:=⟨i-n,by omega⟩;rw[Ul _ _ _ _ cU,G6 _ _ _ (by omega),Nat.add_sub_cancel_left]
theorem sum_lt(N n v m:Nat)(cU:N<2^n):N+v%2^m*2^n<2^(n+m):=by
 have h:v%2^m+1<=2^m:=mod_lt _ (eK m);have af:=mul_le_mul_right (2^n) h;rw[Nat.add_mul,Nat.one_mul]at af;rw[dI,eG (2^n)];omega
theorem Rf(N n m:Nat):(bitsOf N n).drop m=bitsOf (N/2^m) (n-m):=by
 apply ext_getElem
 .simp[gV]
 .intro i h1 af;rw[getElem_drop,lM,lM,jX,<-dI]
theorem bytesOf_take(N n m:Nat)(h:m<=n):(bytesOf N n).take m=bytesOf N m:=by
 unfold bytesOf;rw[<-map_take,take_range,Nat.min_eq_left h]
theorem bytesOf_drop(N n m:Nat):(bytesOf N n).drop m=bytesOf (N/256^m) (n-m):=by
 apply ext_getElem
 .simp[bytesOf_length]
 .intro i h1 af;rw[getElem_drop,xS,xS,jX,<-dI]
theorem age(N m t:Nat):bytesOf N (m+t)=bytesOf N m++bytesOf (N/256^m) t:=by
 have h:=gq m (bytesOf N (m+t));rw[bytesOf_take _ _ _ (by omega),bytesOf_drop,Nat.add_sub_cancel_left]at h;exact h.symm
theorem agd(v m L:Nat)(h:8*L<=m):bytesOf (v%2^m) L=bytesOf v L:=by
 apply map_congr_left
 intro i ay;rw[h0];exact am3 v m (8*i) (by
   have:i<L:=by simpa using ay
   omega)
theorem agb(M q r:Nat)(aj:r<8)(k1:M<2^(8*q+r)):(bytesOf M (q+1)).set q (M/256^q%256+2^r)=bytesOf (M+2^(8*q+r)) (q+1):=by
 have hlow:∀i,i<q->(M+2^(8*q+r))/256^i%256=M/256^i%256:=by
  intro i ay;have h:=yP M 1 (8*q+r) (8*i) 8 (by omega);rw[Nat.one_mul]at h;rw[h0];exact h
 have htop:(M+2^(8*q+r))/256^q%256=M/256^q%256+2^r:=by
  rw[h0,dI,add_mul_div_left _ _ (eK _)];have h1:M/2^(8*q)<2^r:=by
   rw[div_lt_iff_lt_mul (eK _),<-dI,Nat.add_comm r];exact k1
  have af:2^r<=2^7:=dy (by omega) (by omega);have aq:(2:Nat)^7=128:=by decide
  generalize M/2^(8*q)=x at h1 ⊢;generalize 2^r=y at h1 af ⊢;omega
 apply ext_getElem
 .simp[bytesOf_length]
 .intro i h1 af;simp only[length_set,bytesOf_length]at h1;rw[getElem_set,xS,xS];by_cases ay:q=i
  .subst ay;rw[aB rfl,htop]
  .rw[az ay,hlow i (by omega)]
theorem EA(xs:ae)(b:Nat):bd (xs++[b])=bd xs+b*256^xs.length:=by
 induction xs with
|nil=>simp[bd]
|cons x xs ih=>
  simp only[cons_append,bd,ih,bY,ea];rw[Nat.mul_add,iO,eG (256^xs.length) 256,Nat.mul_left_comm]
theorem o4(xs:ae)(h:∀b∈xs,b<256):bd xs<256^xs.length:=by
 induction xs with
|nil=>simp[bd]
|cons x xs ih=>
  have h1:=ih (λb ak=>h b (eo _ ak));have af:=h x dU;simp only[bd,bY,ea];omega
theorem Z7(xs:ae)(k:Nat)(h:∀b∈xs,b<256):bd (xs.drop k)=bd xs/256^k:=by
 induction k generalizing xs with
|zero=>simp
|succ k ih=>
  cases xs with
 |nil=>simp[bd]
 |cons x xs=>
   have af:=h x dU;rw[drop_succ_cons,ih xs (λb ak=>h b (eo _ ak)),bd,ea,eG (256^k),<-jX];congr 1
   omega
theorem atk(xs:ae)(k:Nat)(h:∀b∈xs,b<256):bd (xs.take k)=bd xs%256^k:=by
 induction k generalizing xs with
|zero=>simp[bd,mod_one]
|succ k ih=>
  cases xs with
 |nil=>simp[bd]
 |cons x xs=>
   have af:=h x dU;rw[take_succ_cons,bd,bd,ih xs (λb ak=>h b (eo _ ak)),ea,eG (256^k),mod_mul];have aG:(x+256*bd xs)%256=x:=by omega
   have e2:(x+256*bd xs)/256=bd xs:=by omega
   rw[aG,e2]
theorem J9(xs:ae)(h:∀b∈xs,b<256):bytesOf (bd xs) xs.length=xs:=by
 apply ext_getElem
 .simp[bytesOf_length]
 .intro i h1 af;have aq:=h xs[i] (b8 af);rw[xS,<-Z7 xs i h,drop_eq_getElem_cons af,bd];omega
theorem Ez(N L:Nat):bd (bytesOf N L)=N%256^L:=by
 induction L with
|zero=>simp[bytesOf,bd,mod_one]
|succ L ih=>rw[Cs,EA,ih,bytesOf_length,ea,mod_mul,eG (256^L)]
theorem afy(xs:ae)(b:Nat)(h:∀x∈xs,x<256)(ak:b<256):bitsOf (bd xs) (8*xs.length)++bitsOf b 8=bitsOf (bd (xs++[b])) (8*xs.length+8):=by
 have h1:=o4 xs h;rw[h0]at h1;rw[Re _ _ _ _ h1,EA,h0,mod_eq_of_lt (show b<2^8 from ak)]
theorem ZO(xs:ae)(h:∀b∈xs,b<256)(pos n m:Nat)(aA:n<=32)(hl:pos+n<=8*xs.length)(hm:m=min 5 (xs.length-pos/8)) :
  bd ((xs.drop (pos/8)).take m)/2^(pos%8)%2^n=bd xs/2^pos%2^n:=by
 have aI:∀b∈xs.drop (pos/8),b<256:=λb ak=>h b (mem_of_mem_drop ak)
 rw[atk _ _ aI];have e:bd xs/2^pos=bd (xs.drop (pos/8))/2^(pos%8):=by
  rw[Z7 _ _ h,h0,jX,<-dI,div_add_mod]
 rw[e];by_cases aT:xs.length-pos/8<=5
 .have au:=o4 _ aI;rw[cB]at au;rw[show m=xs.length-pos/8 by omega,mod_eq_of_lt au]
 .rw[show m=5 by omega];have hh:=yP (bd (xs.drop (pos/8))%256^5) (bd (xs.drop (pos/8))/256^5) 40 (pos%8) n (by omega);rw[show(256:Nat)^5=2^40 from h0 5]at hh ⊢;rw[mod_add_div']at hh;exact hh.symm
theorem Kh(us:ae)(h:∀u∈us,u<2^64):p6 us<2^(64*us.length):=by
 induction us with
|nil=>simp[p6]
|cons u us ih=>
  have h1:=ih (λb ak=>h b (eo _ ak));have af:u+1<=2^64:=h u dU;have aq:=mul_le_mul_right (2^(64*us.length)) af;rw[Nat.add_mul,Nat.one_mul]at aq;simp only[p6,bY];rw[Nat.mul_add,Nat.mul_one,dI,eG (2^(64*us.length))];omega
def mL(N n rest:Nat)(us:ae):Prop:=us.length=n/64/\rest<2^(n%64)/\(∀u∈us,u<2^64)/\N=rest*2^(64*us.length)+p6 us
theorem mL.zero:mL 0 0 0 []:=⟨rfl,by decide,by simp,by simp[p6]⟩
theorem mL.Yy{N n rest:Nat}{us:ae}(h:mL N n rest us):rest<2^64:=
 gJ h.2.1 (dy (by omega) (by omega))
theorem yV(a r x:Nat)(aj:r<2^a):r ||| x*2^a=r+x*2^a:=by
 rw[Nat.or_comm,eG x,<-two_pow_add_eq_or_of_lt aj,Nat.add_comm]
theorem YY(x a:Nat)(aV:a<=64):x*2^a%2^64=x%2^(64-a)*2^a:=by
 have e:(2:Nat)^64=2^(64-a)*2^a:=by rw[<-dI];congr 1;omega
 rw[e,mul_mod_mul_right]
theorem mL.Oc{N n rest:Nat}{us:ae}(h:mL N n rest us)(v m:Nat)(hm:n%64+m<64) :
  mL (N+v%2^m*2^n) (n+m) (rest ||| v%2^m*2^(n%64)%2^64) us:=by
 obtain⟨h1,af,aq,aK⟩:=h;have hlow:v%2^m<2^(64-n%64):=gJ (mod_lt _ (eK m)) (dy (by omega) (by omega));have aG:v%2^m*2^(n%64)%2^64=v%2^m*2^(n%64):=by rw[YY _ _ (by omega),mod_eq_of_lt hlow]
 rw[aG,yV _ _ _ af];have CC:2^n=2^(n%64)*2^(64*us.length):=by rw[<-dI];congr 1;omega
 refine⟨by omega,?_,aq,?_⟩
 .rw[show(n+m)%64=n%64+m by omega];exact sum_lt _ _ _ _ af
 .rw[aK,CC,Nat.add_mul];ac_rfl
theorem mL.Ob{N n rest:Nat}{us:ae}(h:mL N n rest us)(v m:Nat)(hm:m<=32)(fj:64<=n%64+m) :
  mL (N+v%2^m*2^n) (n+m) (v%2^m/2^(64-n%64)) ((rest ||| v%2^m*2^(n%64)%2^64)::us):=by
 obtain⟨h1,af,aq,aK⟩:=h;have CC:2^n=2^(n%64)*2^(64*us.length):=by rw[<-dI];congr 1;omega
 have ai:v%2^m<2^m:=mod_lt _ (eK m);generalize v%2^m=x at ai ⊢;rw[YY _ _ (by omega),yV _ _ _ af];refine⟨by simp only[bY];omega,?_,?_,?_⟩
 .rw[div_lt_iff_lt_mul (eK _),<-dI,show(n+m)%64+(64-n%64)=m by omega];exact ai
 .intro u hu;rcases List.mem_cons.1 hu with rfl|hu
  .have aT:x%2^(64-n%64)+1<=2^(64-n%64):=mod_lt _ (eK _);have ci:=mul_le_mul_right (2^(n%64)) aT;rw[Nat.add_mul,Nat.one_mul,<-dI,show 64-n%64+n%64=64 by omega]at ci;omega
  .exact aq u hu
 .have ahq:2^(64*(us.length+1))=2^(64-n%64)*(2^(n%64)*2^(64*us.length)):=by
   rw[<-dI,<-dI];congr 1;omega
  have LI:=div_add_mod x (2^(64-n%64));simp only[p6,bY];rw[aK,CC,ahq];generalize x%2^(64-n%64)=aae at LI ⊢;generalize x/2^(64-n%64)=aad at LI ⊢;rw[<-LI];simp only[Nat.add_mul];generalize 2^(64-n%64)=A;generalize 2^(n%64)=B;generalize 2^(64*us.length)=C;rw[show A*aad*(B*C)=aad*(A*(B*C)) by ac_rfl,show aae*(B*C)=aae*B*C by ac_rfl];omega
def h6(ag:ae)(off m v:Nat):ae:=ag.take off++bytesOf v m++ag.drop (off+m)
theorem Sr(ag:ae)(off m v:Nat)(h:off+m<=ag.length):(h6 ag off m v).length=ag.length:=by
 simp[h6,bytesOf_length];omega
theorem St(ag:ae)(off v:Nat):h6 ag off 0 v=ag:=by
 simp[h6,bytesOf]
theorem Ss(ag:ae)(off i v:Nat)(h:off+i<ag.length):(h6 ag off i v).set (off+i) (v/256^i%256)=h6 ag off (i+1) v:=by
 unfold h6;have h1:(ag.take off++bytesOf v i).length=off+i:=by simp[bytesOf_length];omega
 rw[set_append_right _ _ (by omega),h1,Nat.sub_self,drop_eq_getElem_cons (by omega),set_cons_zero,Cs];simp[iO]
theorem agh(N n rest:Nat)(us:ae)(h:mL N n rest us) :
  h6 (List.replicate ((n+7)/8) 0) (8*us.length) (min ((n+7)/8-8*us.length) 8) rest=List.replicate (8*us.length) 0++(bytesOf N ((n+7)/8)).drop (8*us.length):=by
 obtain⟨h1,af,aq,aK⟩:=h;have hc:=Kh us aq;have e:N/256^(8*us.length)=rest:=by
  rw[h0,show 8*(8*us.length)=64*us.length by omega,aK,Nat.add_comm,add_mul_div_right _ _ (eK _),div_eq_of_lt hc,ez]
 rw[bytesOf_drop,e];unfold h6;rw[show min ((n+7)/8-8*us.length) 8=(n+7)/8-8*us.length by omega,take_replicate,drop_replicate,
  show min (8*us.length) ((n+7)/8)=8*us.length by omega,show(n+7)/8-(8*us.length+((n+7)/8-8*us.length))=0 by omega]
 simp
theorem agj(N L j:Nat)(bR:8*(j+1)<=L) :
  h6 (List.replicate (8*(j+1)) 0++(bytesOf N L).drop (8*(j+1))) (8*j) 8 (N/2^(64*j)%2^64)=List.replicate (8*j) 0++(bytesOf N L).drop (8*j):=by
 have aG:bytesOf (N/2^(64*j)%2^64) 8=bytesOf (N/256^(8*j)) 8:=by
  rw[agd _ _ _ (by omega),h0,show 8*(8*j)=64*j by omega]
 obtain⟨t,rfl⟩:∃t,L=8*j+(8+t):=⟨L-8*(j+1),by omega⟩;unfold h6;rw[aG,bytesOf_drop N _ (8*j),Nat.add_sub_cancel_left,age (N/256^(8*j)) 8 t,jX,<-dI,bytesOf_drop,
  show 8*j+(8+t)-8*(j+1)=t by omega,show 8*(j+1)=8*j+8 by omega]
 rw[take_append_of_le_length (by simp),take_replicate,show min (8*j) (8*j+8)=8*j by omega,df,drop_append_of_le_length (by simp),drop_replicate,Nat.sub_self];simp
theorem agw(N u:Nat)(us:ae)(aq:∀x∈us,x<2^64)(h:p6 (u::us)=N%2^(64*(us.length+1))) :
  u=N/2^(64*us.length)%2^64/\p6 us=N%2^(64*us.length):=by
 have hc:=Kh us aq;have e:N%2^(64*(us.length+1))=N%2^(64*us.length)+2^(64*us.length)*(N/2^(64*us.length)%2^64):=by
  rw[Nat.mul_add,Nat.mul_one,dI,mod_mul]
 rw[e]at h;simp only[p6]at h;have hm:N%2^(64*us.length)<2^(64*us.length):=mod_lt _ (eK _);generalize N/2^(64*us.length)%2^64=q at h ⊢;generalize N%2^(64*us.length)=r at h hm ⊢;generalize 2^(64*us.length)=A at h hc hm ⊢;have aT:(p6 us+u*A)/A=u:=by
  rw[add_mul_div_right _ _ (by omega),div_eq_of_lt hc,ez]
 have ci:(r+A*q)/A=q:=by
  rw[add_mul_div_left _ _ (by omega),div_eq_of_lt hm,ez]
 have c6:u=q:=by
  rw[<-aT,<-ci,<-h];congr 1;omega
 subst c6;refine⟨rfl,?_⟩;rw[eG A]at h;omega
theorem mL.chain{N n rest:Nat}{us:ae}(h:mL N n rest us):p6 us=N%2^(64*us.length):=by
 obtain⟨h1,af,aq,aK⟩:=h;rw[aK,Nat.add_comm,add_mul_mod_self_right,mod_eq_of_lt (Kh us aq)]
def wo:Nat->Nat->ae
|0,v=>[v%128]
|f+1,v=>if v<128 then [v]else(v%128+128)::wo f (v/128)
def bg(v:Nat):ae:=wo 64 v
theorem SI:∀(f v:Nat),v<128^(f+1)->∀g,f<=g->wo g v=wo f v
|0,v,h,g,_=>by
  have h1:v<128:=by simpa using h
  cases g with
 |zero=>rfl
 |succ g=>simp[wo,h1,mod_eq_of_lt h1]
|f+1,v,h,g,aF=>by
  obtain⟨eT,rfl⟩:∃k,g=k+1:=⟨g-1,by omega⟩;simp only[wo];split
  .rfl
  .rw[SI f (v/128) (by rw[div_lt_iff_lt_mul (by omega),<-ea];exact h) eT (by omega)]
theorem tc(v:Nat)(h:v<128):bg v=[v]:=by simp[bg,wo,h]
theorem wq(v:Nat)(h:128<=v)(nt:v<2^64):bg v=(v%128+128)::bg (v/128):=by
 have h1:v/128<128^(63+1):=by
  have:(2:Nat)^64<=128^(63+1):=by decide +kernel
  have:=div_le_self v 128;omega
 unfold bg;rw[SI 63 (v/128) h1 64 (by omega),show(64:Nat)=63+1 from rfl,wo,az (by omega)]
def eD:ae->Nat
|[]=>0
|b::bs=>b%128+128*eD bs
theorem F1{P:Nat->Prop}(small:∀v,v<128->P v)(big:∀v,128<=v->v<2^64->P (v/128)->P v):∀v,v<2^64->P v:=by
 intro v;induction v using Nat.strongRecOn with
|_ v ih=>
  intro h;by_cases h1:v<128
  .exact small v h1
  .exact big v (by omega) h (ih (v/128) (by omega) (by omega))
theorem aik(v:Nat)(h:v<2^64):eD (bg v)=v:=by
 refine F1 (P:=λv=>eD (bg v)=v) ?_ ?_ v h
 .intro v h;rw[tc v h];simp[eD];omega
 .intro v h1 af ih;rw[wq v h1 af,eD,ih];omega
theorem qb(v:Nat)(h:v<2^64):∀b∈bg v,b<256:=by
 refine F1 (P:=λv=>∀b∈bg v,b<256) ?_ ?_ v h
 .intro v h b ak;rw[tc v h]at ak;simp at ak;omega
 .intro v h1 af ih b ak;rw[wq v h1 af]at ak;rcases List.mem_cons.1 ak with rfl|ak
  .omega
  .exact ih b ak
theorem xX(v:Nat)(h:v<2^64):0<(bg v).length:=by
 by_cases h1:v<128
 .rw[tc v h1];simp
 .rw[wq v (by omega) h];simp
theorem F2(v:Nat)(h:v<2^64):∀k,0<k->((bg v).length<=k↔v<128^k):=by
 refine F1 (P:=λv=>∀k,0<k->((bg v).length<=k↔v<128^k)) ?_ ?_ v h
 .intro v h k hk;rw[tc v h];obtain⟨j,rfl⟩:∃j,k=j+1:=⟨k-1,by omega⟩;have:128<=128^(j+1):=by
   rw[ea];have:=Nat.pow_pos (n:=j) (show 0<128 by omega);omega
  simp;omega
 .intro v h1 af ih k hk;rw[wq v h1 af];obtain⟨j,rfl⟩:∃j,k=j+1:=⟨k-1,by omega⟩;rcases eq_zero_or_pos j with ao|ao
  .subst ao;have:=xX (v/128) (by omega);rw[bY,ez,Nat.pow_one];omega
  .have aq:=ih j ao;rw[div_lt_iff_lt_mul (by omega),<-ea]at aq;rw[bY,<-aq];omega
theorem lP(v:Nat)(h:v<2^64):(bg v).length<=10:=by
 refine(F2 v h 10 (by omega)).2 (gJ h ?_);decide +kernel
theorem aij(v:Nat)(h:v<2^64):∃front last,bg v=front++[last]/\last<128/\∀b∈front,128<=b:=by
 refine F1 (P:=λv=>∃front last,bg v=front++[last]/\last<128/\∀b∈front,128<=b) ?_ ?_ v h
 .intro v h;exact⟨[],v,by rw[tc v h];rfl,h,by simp⟩
 .intro v h1 af ⟨front,last,e,hl,aL⟩;refine⟨(v%128+128)::front,last,by rw[wq v h1 af,e];rfl,hl,?_⟩;intro b ak;rcases List.mem_cons.1 ak with rfl|ak
  .omega
  .exact aL b ak
def lead:ae->Nat
|[]=>0
|b::bs=>if 128<=b then lead bs+1 else 0
theorem Nh(s:ae):lead s<=s.length:=by
 induction s with
|nil=>simp[lead]
|cons b bs ih=>simp only[lead];split<;>simp<;>omega
theorem WZ(s:ae):∀i (h:i<s.length),i<lead s->128<=s[i]:=by
 induction s with
|nil=>intro i h;simp at h
|cons b bs ih=>
  intro i h ay;simp only[lead]at ay;split at ay
  .cases i with
  |zero=>simpa
  |succ i=>simpa using ih i (by simpa using h) (by omega)
  .omega
theorem W0(s:ae)(h:lead s<s.length):s[lead s]<128:=by
 induction s with
|nil=>simp at h
|cons b bs ih=>
  simp only[lead]at h ⊢;split
  .rename_i ak
   rw[aB ak]at h;simpa using ih (by simpa using h)
  .simp;omega
theorem al8(front:ae)(last:Nat)(rest:ae)(hl:last<128)(aL:∀b∈front,128<=b):lead (front++last::rest)=front.length:=by
 induction front with
|nil=>simp[lead];omega
|cons b bs ih=>
  simp only[cons_append,lead];rw[aB (aL b dU),ih (λx ai=>aL x (eo _ ai))];simp
def aX(s:ae):Nat×Nat:=
 if lead s=s.length\/9<lead s then(0,0)
 else if eD (s.take (lead s+1))<2^64/\bg (eD (s.take (lead s+1)))=s.take (lead s+1)then(eD (s.take (lead s+1)),lead s+1)else(0,0)
theorem wm(v:Nat)(rest:ae)(h:v<2^64):aX (bg v++rest)=(v,(bg v).length):=by
 obtain⟨front,last,e,hl,aL⟩:=aij v h;have td:=lP v h;have hlead:lead (bg v++rest)=front.length:=by rw[e,df];exact al8 front last rest hl aL
 have hlen:(bg v).length=front.length+1:=by rw[e];simp
 have htake:(bg v++rest).take (front.length+1)=bg v:=by rw[<-hlen];simp
 unfold aX;rw[hlead,htake,aik v h,az (by rw[aY,hlen];omega),aB ⟨h,rfl⟩,hlen]
theorem rP(s:ae)(v k:Nat)(hk:0<k)(h:aX s=(v,k)):v<2^64/\s.take k=bg v/\k<=s.length:=by
 unfold aX at h;split at h
 .injection h with h1 af;omega
 .rename_i aA
  split at h
  .rename_i aF
   injection h with h1 af
   have:=Nh s;subst h1 af;exact⟨aF.1,aF.2.symm,by omega⟩
  .injection h with h1 af;omega
theorem KN(s:ae)(v:Nat)(h:aX s=(v,0)):v=0:=by
 unfold aX at h;split at h
 .injection h with h1 af;exact h1.symm
 .split at h
  .injection h with h1 af;omega
  .injection h with h1 af;exact h1.symm
theorem atg(s:ae)(i:Nat)(h:i<s.length):eD (s.drop i)=s[i]%128+128*eD (s.drop (i+1)):=by
 rw[drop_eq_getElem_cons h,eD]
theorem ath(s:ae)(i:Nat):128^i*eD (s.drop i)<=eD s:=by
 induction i generalizing s with
|zero=>simp
|succ i ih=>
  cases s with
 |nil=>simp[eD]
 |cons b bs=>
   rw[drop_succ_cons,eD,ea];have h1:=mul_le_mul_left 128 (ih bs);rw[eG (128^i) 128,Nat.mul_assoc];omega
theorem atf(s:ae)(i:Nat)(ay:0<i)(h:144115188075855871<eD (s.drop i)):¬eD s<2^64:=by
 have h1:=ath s i;obtain⟨j,rfl⟩:∃j,i=j+1:=⟨i-1,by omega⟩;rw[ea,Nat.mul_assoc]at h1;have af:=mul_le_mul_right (128*eD (s.drop (j+1))) (show 1<=128^j from Nat.pow_pos (by omega));omega
def wid(x:Nat):Nat:=if x=0 then 0 else x.log2+1
theorem EB(x:Nat)(h:0<x):wid x=x.log2+1:=by unfold wid;rw[az (by omega)]
theorem vB(x:Nat):x<2^wid x:=by
 rcases eq_zero_or_pos x with h|h
 .subst h;simp[wid]
 .rw[EB x h];exact lt_log2_self
theorem Bj(x:Nat)(h:0<x):2^(wid x-1)<=x:=by
 rw[EB x h,Nat.add_sub_cancel];exact log2_self_le (by omega)
theorem sK(x:Nat)(h:0<x):1<=wid x:=by rw[EB x h];omega
theorem Bi(x k:Nat)(h1:2^k<=x)(af:x<2^(k+1)):wid x=k+1:=by
 have ai:0<x:=gJ (Nat.pow_pos (by omega)) h1;have aq:=Bj x ai;have aK:=vB x;have aT:=sK x ai;have ci:wid x-1<k+1:=(Nat.pow_lt_pow_iff_right (a:=2) (by omega)).1 (Nat.lt_of_le_of_lt aq af);have c6:k<wid x:=(Nat.pow_lt_pow_iff_right (a:=2) (by omega)).1 (Nat.lt_of_le_of_lt h1 aK);omega
theorem qx(x k:Nat)(h:x<2^k):wid x<=k:=by
 rcases eq_zero_or_pos x with ao|ao
 .subst ao;simp[wid]
 .have aq:=Bj x ao;have ci:wid x-1<k:=(Nat.pow_lt_pow_iff_right (a:=2) (by omega)).1 (Nat.lt_of_le_of_lt aq h);omega
theorem att(x:Nat)(h:0<x)(r:Nat)(aj:r<2):wid (2*x+r)=wid x+1:=by
 have aq:=Bj x h;have aK:=vB x;have aT:=sK x h;obtain⟨k,hk⟩:∃k,wid x=k+1:=⟨wid x-1,by omega⟩;rw[hk]at aq aK ⊢;rw[Nat.add_sub_cancel]at aq;have aG:2^(k+1)=2^k*2:=ea 2 k;have e2:2^(k+1+1)=2^(k+1)*2:=ea 2 (k+1);exact Bi _ (k+1) (by omega) (by omega)
def dR(log x:Nat):Nat:=log+1-wid x
def s7(log x:Nat):Nat:=x*2^dR log x-2^log
theorem Cq(log x:Nat)(ao:0<x)(h:x<2^(log+1)):2^log<=x*2^dR log x:=by
 have h1:=qx x (log+1) h;have af:=sK x ao;have aq:=Bj x ao;have e:2^log=2^(wid x-1)*2^dR log x:=by unfold dR;rw[<-dI];congr 1;omega
 rw[e];exact mul_le_mul_right _ aq
theorem JX(log x:Nat)(_h0:0<x)(h:x<2^(log+1)):(x+1)*2^dR log x<=2^(log+1):=by
 have h1:=qx x (log+1) h;have aK:=vB x;have e:2^(log+1)=2^wid x*2^dR log x:=by unfold dR;rw[<-dI];congr 1;omega
 rw[e];exact mul_le_mul_right _ aK
theorem ae9(log x:Nat)(ao:0<x)(h:x<2^(log+1)):s7 log x+2^dR log x<=2^log:=by
 have h1:=Cq log x ao h;have af:=JX log x ao h;have e:2^(log+1)=2^log*2:=ea 2 log;rw[Nat.add_mul,Nat.one_mul]at af;unfold s7;omega
theorem GL(log x st:Nat)(ao:0<x)(h:x<2^(log+1)):(s7 log x<=st/\st<s7 log x+2^dR log x)↔(st+2^log)/2^dR log x=x:=by
 have h1:=Cq log x ao h;have ax:0<2^dR log x:=Nat.pow_pos (by omega);have e:(x+1)*2^dR log x=x*2^dR log x+2^dR log x:=by rw[Nat.add_mul,Nat.one_mul]
 unfold s7;constructor
 .rintro⟨af,aq⟩;have aK:x<=(st+2^log)/2^dR log x:=(le_div_iff_mul_le ax).2 (by omega);have aT:(st+2^log)/2^dR log x<x+1:=(div_lt_iff_lt_mul ax).2 (by omega);omega
 .intro af;have aK:x<=(st+2^log)/2^dR log x:=by omega
  have aT:(st+2^log)/2^dR log x<x+1:=by omega
  rw[le_div_iff_mul_le ax]at aK;rw[div_lt_iff_lt_mul ax]at aT;omega
theorem arN(log n x y st:Nat)(ai:n<=x)(n7:x<2*n)(hy:n<=y)(n9:y<2*n)
  (h1:(st+2^log)/2^dR log x=x)(af:(st+2^log)/2^dR log y=y):x=y:=by
 have e:2^(log+1)=2^log*2:=ea 2 log;have key:∀x y:Nat,n<=x->x<2*n->n<=y->y<2*n->(st+2^log)/2^dR log x=x->(st+2^log)/2^dR log y=y->¬dR log y<dR log x:=by
  intro x y ai n7 hy n9 h1 af au;obtain⟨d,aI⟩:∃d,dR log x=dR log y+1+d:=⟨dR log x-dR log y-1,by omega⟩;rw[aI,dI,<-jX,ea,<-jX,af]at h1;have aq:=div_le_self (y/2) (2^d);omega
 have bh:=key x y ai n7 hy n9 h1 af;have bN:=key y x hy n9 ai n7 af h1;rw[show dR log x=dR log y by omega,af]at h1;exact h1.symm
theorem arO(log n st:Nat)(ao:0<n)(auS:n<=2^log)(aS:st<2^log):∃x,n<=x/\x<2*n/\(st+2^log)/2^dR log x=x:=by
 have e:2^(log+1)=2^log*2:=ea 2 log;have key:∀c:Nat,(st+2^log)/2^c<n->∃b,n<=(st+2^log)/2^b/\(st+2^log)/2^(b+1)<n:=by
  intro c;induction c with
 |zero=>intro h;rw[Nat.pow_zero,Nat.div_one]at h;omega
 |succ c ih=>
   intro h;by_cases h1:(st+2^log)/2^c<n
   .exact ih h1
   .exact⟨c,by omega,h⟩
 obtain⟨b,aH,aJ⟩:=key (log+1) (by rw[div_eq_of_lt (by omega)];exact ao);have ax:0<2^b:=Nat.pow_pos (by omega);have ak1:0<(st+2^log)/2^b:=by omega
 refine⟨(st+2^log)/2^b,aH,?_,?_⟩
 .rw[ea,<-jX]at aJ;omega
 .have eu:b<=log:=by
   rcases eF log b with h1|h1
   .have af:2^(log+1)<=2^b:=dy (by omega) h1;rw[div_eq_of_lt (by omega)]at ak1;omega
   .exact h1
  have hw:wid ((st+2^log)/2^b)=log-b+1:=by
   refine Bi _ _ ((le_div_iff_mul_le ax).2 ?_) ((div_lt_iff_lt_mul ax).2 ?_)
   .rw[<-dI,show log-b+b=log by omega];omega
   .rw[<-dI,show log-b+1+b=log+1 by omega];omega
  have k4:dR log ((st+2^log)/2^b)=b:=by unfold dR;rw[hw];omega
  rw[k4]
def om:Nat->ae->ae
|_,[]=>[]
|s,n::l=>List.replicate n s++om (s+1) l
theorem arW(s:Nat)(l:ae):(om s l).length=l.sum:=by
 induction l generalizing s with
|nil=>rfl
|cons n l ih=>rw[om,aY,iZ,ih,sum_cons]
theorem ZE(t:Nat):∀(l:ae) (s:Nat),(om s l).count t=if s<=t then l[t-s]?.getD 0 else 0
|[],s=>by simp[om]
|n::l,s=>by
  rw[om,count_append,count_replicate,ZE t l (s+1)];by_cases h1:s=t
  .subst h1;rw[aB (by simp),az (by omega),aB (by omega)];simp
  .rw[az (by simpa using h1)];by_cases af:s<=t
   .rw[aB (by omega),aB af];obtain⟨d,aI⟩:∃d,t-s=d+1:=⟨t-s-1,by omega⟩;rw[aI,show t-(s+1)=d by omega];simp
   .rw[az (by omega),az af]
theorem ZF(l:ae)(s t k:Nat)(aE:t<l.length)(hk:k<l[t]):(om s l)[(l.take t).sum+k]?=some (s+t):=by
 induction l generalizing s t with
|nil=>simp at aE
|cons n l ih=>
  rw[om];cases t with
 |zero=>
   simp only[getElem_cons_zero]at hk;rw[take_zero,sum_nil,ez,hO (by simpa using hk)];simp[hk]
 |succ t=>
   simp only[getElem_cons_succ]at hk;rw[take_succ_cons,sum_cons,iY (by simp;omega),iZ,show n+(l.take t).sum+k-n=(l.take t).sum+k by omega,ih (s+1) t (by simpa using aE) hk];congr 1
   omega
def OE(log:Nat):Nat:=if log=5 then 7 else if log=6 then 3 else if log=7 then 91 else if log=8 then 11 else 363
def y2(log:Nat):Nat:=2^log/2+2^log/8+3
def gI(log k:Nat):Nat:=k*y2 log%2^log
def q1(log p:Nat):Nat:=p*OE log%2^log
theorem Zi(log:Nat)(h:5<=log)(dh:log<=9):y2 log*OE log%2^log=1:=by
 have:log=5\/log=6\/log=7\/log=8\/log=9:=by omega
 rcases this with rfl|rfl|rfl|rfl|rfl<;>decide
theorem inv_pos(log k:Nat)(h:5<=log)(dh:log<=9)(hk:k<2^log):q1 log (gI log k)=k:=by
 unfold q1 gI;rw[mod_mul_mod,Nat.mul_assoc,mul_mod,Zi log h dh,Nat.mul_one,mod_mod,mod_eq_of_lt hk]
theorem N5(log p:Nat)(h:5<=log)(dh:log<=9)(ax:p<2^log):gI log (q1 log p)=p:=by
 unfold q1 gI;rw[mod_mul_mod,Nat.mul_assoc,eG (OE log),mul_mod,Zi log h dh,Nat.mul_one,mod_mod,mod_eq_of_lt ax]
theorem Hp(log k:Nat):gI log k<2^log:=mod_lt _ (Nat.pow_pos (by omega))
theorem M6(log p:Nat):q1 log p<2^log:=mod_lt _ (Nat.pow_pos (by omega))
theorem Yf(log k:Nat):gI log (k+1)=(gI log k+y2 log)%2^log:=by
 unfold gI;rw[Nat.add_mul,Nat.one_mul,mod_add_mod]
theorem alk(log:Nat)(h:5<=log)(dh:log<=9):((List.range (2^log)).map (q1 log)).Perm (List.range (2^log)):=by
 rw[perm_iff_count];intro a;have mU:((List.range (2^log)).map (q1 log)).Nodup:=by
  rw[nodup_iff_pairwise_ne,pairwise_map];refine List.Pairwise.imp_of_mem ?_ (nodup_range (n:=2^log));intro p q ax hq aZ he;have h1:=N5 log p h dh (List.mem_range.1 ax);have af:=N5 log q h dh (List.mem_range.1 hq);rw[he,af]at h1;exact aZ h1.symm
 by_cases aV:a<2^log
 .have h1:a∈(List.range (2^log)).map (q1 log):=List.mem_map.2 ⟨gI log a,List.mem_range.2 (Hp log a),inv_pos log a h dh aV⟩;have af:=List.count_pos_iff.2 h1;have aq:=List.nodup_iff_count.1 mU a;have aK:=List.count_pos_iff.2 (List.mem_range.2 aV);have aT:=List.nodup_iff_count.1 (nodup_range (n:=2^log)) a;omega
 .rw[List.count_eq_zero.2 (λhm=>?_),List.count_eq_zero.2 (λhm=>aV (List.mem_range.1 hm))];obtain⟨p,_,rfl⟩:=List.mem_map.1 hm;exact aV (M6 log p)
structure dW(U:ae)(log:Nat):Prop where
 low:5<=log
 high:log<=9
 len:U.length<=256
 sum:U.sum=2^log
def cC(U:ae)(log p:Nat):Nat:=(om 0 U)[q1 log p]?.getD 0
def eP(U:ae)(log:Nat):ae:=(List.range (2^log)).map (cC U log)
theorem qt(U:ae)(log:Nat):(eP U log).length=2^log:=by simp[eP]
theorem y8(U:ae)(log p:Nat)(h:p<2^log):(eP U log)[p]?=some (cC U log p):=by simp[eP,h]
theorem amY(l:ae):(List.range l.length).map (λk=>l[k]?.getD 0)=l:=by
 apply ext_getElem
 .simp
 .intro i h1 af;simp[af]
theorem ar2(U:ae)(log:Nat)(h:dW U log):(eP U log).Perm (om 0 U):=by
 have h1:=(alk log h.low h.high).map (λk=>(om 0 U)[k]?.getD 0);rw[List.map_map]at h1;have e:=amY (om 0 U);rw[arW,h.sum]at e;rw[e]at h1;exact h1
theorem y7(U:ae)(log s:Nat)(h:dW U log):(eP U log).count s=U[s]?.getD 0:=by
 rw[(ar2 U log h).count_eq,ZE,aB (by omega),Nat.sub_zero]
theorem w6(U:ae)(log p:Nat)(h:dW U log)(ax:p<2^log):∃ap:cC U log p<U.length,0<U[cC U log p]:=by
 have h1:cC U log p∈eP U log:=List.mem_map.2 ⟨p,List.mem_range.2 ax,rfl⟩;have af:=List.count_pos_iff.2 h1;rw[y7 U log _ h]at af;rcases eF (cC U log p) U.length with aq|aq
 .exact⟨aq,by simpa [aq]using af⟩
 .rw[getElem?_eq_none aq]at af;simp at af
def sB(U:ae)(log p:Nat):Nat:=((eP U log).take p).count (cC U log p)
theorem FE(l:ae)(p s:Nat)(h:p<l.length):(l.take (p+1)).count s=(l.take p).count s+if l[p]=s then 1 else 0:=by
 rw[fY h,count_append,count_singleton];simp
theorem RP(l:ae)(p q s:Nat)(h:p<=q):(l.take p).count s<=(l.take q).count s:=by
 obtain⟨d,rfl⟩:∃d,q=p+d:=⟨q-p,by omega⟩;rw[take_add,count_append];omega
theorem Kp(l:ae)(p s:Nat):(l.take p).count s<=l.count s:=by
 have h1:=RP l p (max p l.length) s (by omega);rw[take_of_length_le (i:=max p l.length) (by omega)]at h1;exact h1
theorem apa(U:ae)(log p:Nat)(h:dW U log)(ax:p<2^log):sB U log p<U[cC U log p]?.getD 0:=by
 have hl:p<(eP U log).length:=by rw[qt];exact ax
 have h1:=FE (eP U log) p (cC U log p) hl;have e:(eP U log)[p]=cC U log p:=by
  have:=y8 U log p ax;rw[bI hl]at this;injection this
 rw[aB e]at h1;have af:=Kp (eP U log) (p+1) (cC U log p);rw[y7 U log _ h]at af;unfold sB;omega
theorem Ht:∀(l:ae) (s r:Nat),r<l.count s->∃p,∃h:p<l.length,l[p]=s/\(l.take p).count s=r
|[],s,r,h=>by simp at h
|a::l,s,r,h=>by
  by_cases aV:a=s
  .subst aV;cases r with
  |zero=>exact⟨0,by simp,rfl,by simp⟩
  |succ r=>
    rw[count_cons_self]at h;obtain⟨p,ax,h1,af⟩:=Ht l a r (by omega);exact⟨p+1,by simpa using ax,by simpa using h1,by rw[take_succ_cons,count_cons_self,af]⟩
  .rw[count_cons_of_ne (by simpa using aV)]at h;obtain⟨p,ax,h1,af⟩:=Ht l s r h;exact⟨p+1,by simpa using ax,by simpa using h1,by rw[take_succ_cons,count_cons_of_ne (by simpa using aV),af]⟩
theorem apb(l:ae)(s p q:Nat)(ax:p<l.length)(hq:q<l.length)(h1:l[p]=s)(af:l[q]=s)(h:(l.take p).count s=(l.take q).count s):p=q:=by
 have key:∀p q:Nat,∀ax:p<l.length,l[p]=s->p<q->(l.take p).count s<(l.take q).count s:=λp q ax h1 au=>by
  have aq:=FE l p s ax;rw[aB h1]at aq;have aK:=RP l (p+1) q s au;omega
 rcases Nat.lt_trichotomy p q with aq|aq|aq
 .have:=key p q ax h1 aq;omega
 .exact aq
 .have:=key q p hq af aq;omega
def hC(U:ae)(log p:Nat):Nat:=U[cC U log p]?.getD 0+sB U log p
theorem A1(U:ae)(log p:Nat)(h:dW U log)(ax:p<2^log):∃n,U[cC U log p]?=some n/\0<n/\n<=2^log/\n<=hC U log p/\hC U log p<2*n/\hC U log p<2^(log+1):=by
 obtain⟨ap,ao⟩:=w6 U log p h ax;have aj:=apa U log p h ax;rw[bI ap]at aj;have hle:U[cC U log p]<=2^log:=by
  rw[<-h.sum];have:∀(l:ae) (i:Nat) (ay:i<l.length),l[i]<=l.sum:=λl=>by
   induction l with
  |nil=>intro i ay;simp at ay
  |cons a l ih=>
    intro i ay;cases i with
   |zero=>simp
   |succ i=>have:=ih i (by simpa using ay);simp;omega
  exact this U _ ap
 have e:2^(log+1)=2^log*2:=ea 2 log;simp only[b7]at aj;refine⟨U[cC U log p],bI ap,ao,hle,?_,?_,?_⟩
 all_goals unfold hC;rw[bI ap,b7];omega
def cd(U:ae)(log p:Nat):Nat:=dR log (hC U log p)
def eh(U:ae)(log p:Nat):Nat:=s7 log (hC U log p)
def leads(U:ae)(log st s p:Nat):Prop:=cC U log p=s/\eh U log p<=st/\st<eh U log p+2^cd U log p
instance (U:ae) (log st s p:Nat):Decidable (leads U log st s p):=by unfold leads;exact inferInstance
theorem zR(U:ae)(log p:Nat)(h:dW U log)(ax:p<2^log):eh U log p+2^cd U log p<=2^log:=by
 obtain⟨n,_,ao,_,af,_,aK⟩:=A1 U log p h ax;exact ae9 log _ (by omega) aK
theorem zS(U:ae)(log p:Nat)(h:dW U log)(ax:p<2^log):cd U log p<=log:=by
 obtain⟨n,_,ao,_,af,_,aK⟩:=A1 U log p h ax;have:=sK (hC U log p) (by omega);unfold cd dR;omega
theorem al9(U:ae)(log st s p q:Nat)(h:dW U log)(ax:p<2^log)(hq:q<2^log)(h1:leads U log st s p)(af:leads U log st s q):p=q:=by
 obtain⟨n,aG,ao,aA,fL,a2,a3⟩:=A1 U log p h ax;obtain⟨m,e2,_,_,bP,bw,eg⟩:=A1 U log q h hq;obtain⟨rfl,aH,aJ⟩:=h1;obtain⟨ap,bM,c8⟩:=af;rw[ap,aG]at e2;injection e2 with e2
 subst e2;have bh:=(GL log _ st (by omega) a3).1 ⟨aH,aJ⟩;have bN:=(GL log _ st (by omega) eg).1 ⟨bM,c8⟩;have en:=arN log n _ _ st fL a2 bP bw bh bN;unfold hC at en;rw[ap]at en;have yt:p<(eP U log).length:=by rw[qt];exact ax
 have L5:q<(eP U log).length:=by rw[qt];exact hq
 have mQ:=y8 U log p ax;have FZ:=y8 U log q hq;rw[bI yt]at mQ;rw[bI L5,ap]at FZ;injection mQ with mQ
 injection FZ with FZ
 refine apb (eP U log) (cC U log p) p q yt L5 mQ FZ ?_;unfold sB at en;rw[ap]at en;omega
theorem ama(U:ae)(log st s n:Nat)(h:dW U log)(ap:U[s]?=some n)(ao:0<n)(aS:st<2^log):∃p,p<2^log/\leads U log st s p:=by
 have hc:=y7 U log s h;rw[ap,b7]at hc;have aA:n<=2^log:=by rw[<-hc,<-qt U log];exact count_le_length
 obtain⟨x,h1,af,aq⟩:=arO log n st ao aA aS;obtain⟨p,ax,aG,e2⟩:=Ht (eP U log) s (x-n) (by omega);have Az:p<2^log:=by rw[qt]at ax;exact ax
 have mQ:=y8 U log p Az;rw[bI ax,aG]at mQ;injection mQ with mQ
 have ai:hC U log p=x:=by
  unfold hC sB;rw[<-mQ,ap,b7,e2];omega
 have e:2^(log+1)=2^log*2:=ea 2 log;refine⟨p,Az,mQ.symm,?_⟩;unfold eh cd;rw[ai];exact(GL log x st (by omega) (by omega)).2 aq
def lk(U:ae)(log st s:Nat):Option Nat:=(List.range (2^log)).find? λp=>decide (leads U log st s p)
theorem ae6(U:ae)(log st s n:Nat)(h:dW U log)(ap:U[s]?=some n)(ao:0<n)(aS:st<2^log):∃p,lk U log st s=some p/\p<2^log/\leads U log st s p:=by
 obtain⟨q,hq,hl⟩:=ama U log st s n h ap ao aS;cases e:lk U log st s with
|none=>
  unfold lk at e;rw[find?_eq_none]at e;exact absurd (bE hl) (e q (List.mem_range.2 hq))
|some p=>
  have e':=e;unfold lk at e';have h1:=find?_some e';have af:=mem_of_find?_eq_some e';exact⟨p,rfl,List.mem_range.1 af,of_decide_eq_true h1⟩
theorem Q5(U:ae)(log st s p:Nat)(h:dW U log)(ax:p<2^log)(hl:leads U log st s p):lk U log st s=some p:=by
 cases e:lk U log st s with
|none=>
  unfold lk at e;rw[find?_eq_none]at e;exact absurd (bE hl) (e p (List.mem_range.2 ax))
|some q=>
  have e':=e;unfold lk at e';have ao:=find?_some e';have h1:=of_decide_eq_true ao;have af:=List.mem_range.1 (mem_of_find?_eq_some e');rw[al9 U log st s p q h ax af hl h1]
theorem Q6(U:ae)(log st s:Nat)(h:dW U log)(ap:U[s]?.getD 0=0):lk U log st s=none:=by
 unfold lk;rw[find?_eq_none];intro p ax hl;obtain⟨h1,af⟩:=w6 U log p h (List.mem_range.1 ax);have aq:=(of_decide_eq_true hl).1;rw[aq]at h1;rw[bI h1,b7]at ap;have aK:U[cC U log p]=U[s]:=by congr
 omega
def encR(U:ae)(log:Nat):ae->Option (Nat×Nat×Nat)
|[]=>some (0,0,0)
|s::rest=>(encR U log rest).bind λt=>(lk U log t.2.2 s).map λp=>(t.1+(t.2.2-eh U log p)*2^t.2.1,t.2.1+cd U log p,p)
def iW(U:ae)(log:Nat):Nat->Nat->Nat->Nat->Option (ae)
|0,_,len,st=>if st=0/\len=0 then some []else none
|m+1,N,len,st=>if len<cd U log st then none else
   (iW U log m (N%2^(len-cd U log st)) (len-cd U log st) (eh U log st+N/2^(len-cd U log st))).map λl=>cC U log st::l
theorem z1(U:ae)(log:Nat)(h:dW U log):∀(l:ae) (N n st:Nat),encR U log l=some (N,n,st)->N<2^n/\st<2^log/\n<=log*l.length/\iW U log l.length N n st=some l
|[],N,n,st,e=>by
  simp only[encR,Option.some.injEq,Prod.mk.injEq]at e;obtain⟨rfl,rfl,rfl⟩:=e;exact⟨by simp,Nat.pow_pos (by omega),by simp,by simp[iW]⟩
|s::l,N,n,st,e=>by
  simp only[encR]at e;cases aj:encR U log l with
 |none=>rw[aj]at e;simp at e
 |some t=>
   obtain⟨rF,hp,sF⟩:=t;rw[aj,Option.bind_some]at e;dsimp only at e;cases ak:lk U log sF s with
  |none=>rw[ak]at e;simp at e
  |some p=>
    rw[ak,map_some]at e;simp only[Option.some.injEq,Prod.mk.injEq]at e;obtain⟨rfl,rfl,rfl⟩:=e;obtain⟨h1,af,aq,aK⟩:=z1 U log h l rF hp sF aj;have hV:=ak;unfold lk at hV;have aL:=find?_some hV;have ax:=List.mem_range.1 (mem_of_find?_eq_some hV);obtain⟨gp,fl,lB⟩:leads U log sF s p:=of_decide_eq_true aL;have eu:=zS U log p h ax;have aD:sF-eh U log p<2^cd U log p:=by
     generalize 2^cd U log p=P at lB;omega
    have hpos:0<2^hp:=Nat.pow_pos (by omega);refine⟨?_,ax,?_,?_⟩
    .rw[dI];have aT:(sF-eh U log p+1)*2^hp<=2^cd U log p*2^hp:=mul_le_mul_right _ aD;rw[Nat.add_mul,Nat.one_mul]at aT;rw[eG (2^hp)];generalize (sF-eh U log p)*2^hp=A at aT;generalize 2^cd U log p*2^hp=B at aT;omega
    .rw[bY,Nat.mul_add,Nat.mul_one];omega
    .rw[bY,iW,az (by omega),Nat.add_sub_cancel,add_mul_mod_self_right,mod_eq_of_lt h1,add_mul_div_right _ _ hpos,div_eq_of_lt h1,ez,show eh U log p+(sF-eh U log p)=sF by omega,aK,gp];rfl
theorem R5(U:ae)(log:Nat)(h:dW U log):∀(m N len st:Nat) (l:ae),N<2^len->st<2^log->iW U log m N len st=some l->encR U log l=some (N,len,st)/\l.length=m
|0,N,len,st,l,cU,_,e=>by
  unfold iW at e;split at e
  .next hc=>
   obtain⟨rfl,rfl⟩:=hc;injection e with e
   subst e;have:N=0:=by simpa using cU
   subst this;exact⟨rfl,rfl⟩
  .cases e
|m+1,N,len,st,l,cU,aS,e=>by
  unfold iW at e;split at e
  .cases e
  .next hlen=>
   cases aj:iW U log m (N%2^(len-cd U log st)) (len-cd U log st) (eh U log st+N/2^(len-cd U log st))with
  |none=>rw[aj]at e;simp at e
  |some WS=>
    rw[aj,map_some]at e;injection e with e
    subst e;have ax:0<2^(len-cd U log st):=Nat.pow_pos (by omega);have aD:N/2^(len-cd U log st)<2^cd U log st:=by
     rw[div_lt_iff_lt_mul ax,<-dI,show cd U log st+(len-cd U log st)=len by omega];exact cU
    have jj:=zR U log st h aS;have gd:eh U log st+N/2^(len-cd U log st)<2^log:=by
     generalize 2^cd U log st=P at aD jj;omega
    obtain⟨h1,af⟩:=R5 U log h m _ _ _ WS (mod_lt _ ax) gd aj;have hl:leads U log (eh U log st+N/2^(len-cd U log st)) (cC U log st) st:=⟨rfl,le_add_right _ _,Nat.add_lt_add_left aD _⟩;have ak:=Q5 U log _ _ st h aS hl;refine⟨?_,by rw[bY,af]⟩;simp only[encR];rw[h1,Option.bind_some];dsimp only;rw[ak,map_some];congr 1
    rw[Nat.add_sub_cancel_left];have aI:=mod_add_div N (2^(len-cd U log st));rw[eG]at aI;rw[aI,show len-cd U log st+cd U log st=len by omega]
theorem Sk(U:ae)(log:Nat)(h:dW U log):∀l:ae,(∀s∈l,0<U[s]?.getD 0)->∃t,encR U log l=some t
|[],_=>⟨_,rfl⟩
|s::l,hl=>by
  obtain⟨⟨rF,hp,sF⟩,aj⟩:=Sk U log h l (λx ai=>hl x (eo _ ai));have aS:=(z1 U log h l rF hp sF aj).2.1;have ao:=hl s dU;cases ap:U[s]? with
 |none=>rw[ap]at ao;simp at ao
 |some n=>
   rw[ap,b7]at ao;obtain⟨p,ax,_⟩:=ae6 U log sF s n h ap ao aS;simp only[encR];rw[aj,Option.bind_some];dsimp only;rw[ax];exact⟨_,rfl⟩
theorem Sj(U:ae)(log:Nat)(h:dW U log)(s:Nat)(ao:U[s]?.getD 0=0):∀l:ae,s∈l->encR U log l=none
|[],hm=>by cases hm
|x::l,hm=>by
  simp only[encR];rcases List.mem_cons.1 hm with rfl|hm
  .cases aj:encR U log l with
  |none=>rfl
  |some t=>rw[Option.bind_some,Q6 U log _ _ h ao];rfl
  .rw[Sj U log h s ao l hm];rfl
theorem agN(N n st:Nat)(cU:N<2^n):(N+st*2^n)%2^n=N/\(N+st*2^n)/2^n=st:=by
 have hpos:0<2^n:=Nat.pow_pos (by omega);exact⟨by rw[add_mul_mod_self_right,mod_eq_of_lt cU],by rw[add_mul_div_right _ _ hpos,div_eq_of_lt cU,ez]⟩
theorem Ra:∀n:Fin 256,n.val≠0->1<=Lib.bitLen n.val/\Lib.bitLen n.val<=8/\2^(Lib.bitLen n.val-1)<=n.val/\n.val<2^Lib.bitLen n.val:=by decide +kernel
def p1(V k:Nat):Prop:=V/2^k=1
theorem w9{V k:Nat}:p1 V k↔2^k<=V/\V<2*2^k:=by
 have ax:=eK k;unfold p1;constructor
 .intro h;refine⟨?_,?_⟩
  .have:=(le_div_iff_mul_le ax (x:=1) (y:=V)).1 (by omega);omega
  .have:=(div_lt_iff_lt_mul ax (x:=V) (y:=2)).1 (by omega);omega
 .rintro⟨h1,af⟩;have aq:=(le_div_iff_mul_le ax (x:=1) (y:=V)).2 (by omega);have aK:=(div_lt_iff_lt_mul ax (x:=V) (y:=2)).2 (by omega);omega
theorem p1.uniq{V j k:Nat}(h:p1 V j)(j7:p1 V k):j=k:=by
 obtain⟨a,b⟩:=w9.1 h;obtain⟨c,d⟩:=w9.1 j7;rcases Nat.lt_trichotomy j k with hl|hl|hl
 .have:=dy (n:=2) (by omega) (show j+1<=k from hl);rw[ea]at this;omega
 .exact hl
 .have:=dy (n:=2) (by omega) (show k+1<=j from hl);rw[ea]at this;omega
theorem p1.sum{V k:Nat}(h:p1 V k):V=V%2^k+2^k:=by
 have:=div_add_mod V (2^k);rw[h,Nat.mul_one]at this;omega
theorem ass(N n:Nat)(h:N<2^n):p1 (N+2^n) n:=w9.2 ⟨by omega,by omega⟩
theorem O6(front:ae)(b:Nat)(aL:∀x∈front,x<256)(ak:b<256)(ao:b≠0):1<=Lib.bitLen b/\Lib.bitLen b<=8/\p1 (bd (front++[b])) (8*front.length+(Lib.bitLen b-1)):=by
 obtain⟨h1,e8,af,aq⟩:=Ra ⟨b,ak⟩ ao;have hl:=o4 front aL;simp only at h1 e8 af aq;generalize Lib.bitLen b=L at h1 af aq e8 ⊢;refine⟨h1,e8,?_⟩;obtain⟨m,rfl⟩:∃m,L=m+1:=⟨L-1,by omega⟩;rw[Nat.add_sub_cancel]at af ⊢;rw[EA];rw[ea]at aq;refine w9.2 ⟨?_,?_⟩
 .rw[dI,<-h0,eG];have:=mul_le_mul_right (256^front.length) af;omega
 .rw[dI,<-h0,eG (256^front.length)];have:=mul_le_mul_right (256^front.length) (show b+1<=2^m*2 by omega);rw[Nat.add_mul,Nat.one_mul]at this;rw[<-Nat.mul_assoc,eG 2];omega
theorem amz(N n q x:Nat)(h:8*q<=n):bytesOf (N+x*2^n) q=bytesOf N q:=by
 apply map_congr_left
 intro i ay;rw[h0];exact yP N x n (8*i) 8 (by
   have:i<q:=by simpa using ay
   omega)
theorem aqG(N n:Nat)(h:N<2^n)(e8:n%8=0):bytesOf N ((n+7)/8)++[1]=bytesOf (N+2^n) (n/8+1):=by
 have e:n=8*(n/8):=by omega
 have h1:=amz N n (n/8) 1 (by omega);rw[Nat.one_mul]at h1;rw[Cs,h1,show(n+7)/8=n/8 by omega];congr 1
 have af:=Ul N 1 n 0 h;rw[Nat.one_mul,fX,Nat.pow_zero,Nat.div_one]at af;rw[h0,<-e,af]
theorem aqE(N n:Nat)(h:N<2^n):(bytesOf N (n/8+1)).set (n/8) (N/256^(n/8)%256+2^(n%8))=bytesOf (N+2^n) (n/8+1):=by
 have h1:=agb N (n/8) (n%8) (by omega) (by rw[div_add_mod];exact h);rw[div_add_mod]at h1;exact h1
theorem ZA(N n:Nat)(h:N<2^n):N+2^n<256^(n/8+1):=by
 rw[h0];have h1:=dy (n:=2) (by omega) (show n+1<=8*(n/8+1) by omega);rw[ea]at h1;omega
theorem atj(N n:Nat)(h:N<2^n):bd (bytesOf (N+2^n) (n/8+1))=N+2^n:=by
 rw[Ez,mod_eq_of_lt (ZA N n h)]
theorem YS(N n i d:Nat)(h:i+d<=n):(N+2^n)/2^i%2^d=N/2^i%2^d:=by
 have h1:=yP N 1 n i d h;rw[Nat.one_mul]at h1;exact h1
theorem asr(V k:Nat)(h:V<2^(k+1))(ao:V/2^k%2=0):V<2^k:=by
 have h1:V/2^k<2:=by
  rw[div_lt_iff_lt_mul (eK k),eG,<-ea];exact h
 have af:V/2^k<1:=by omega
 have aq:=(div_lt_iff_lt_mul (eK k) (x:=V) (y:=1)).1 af;omega
theorem asq(V k:Nat)(h:V<2^(k+1))(h1:V/2^k%2≠0):p1 V k:=by
 have af:V/2^k<2:=by
  rw[div_lt_iff_lt_mul (eK k),eG,<-ea];exact h
 unfold p1;generalize V/2^k=x at h1 af ⊢;omega
def eC:ae->Nat->Nat×Nat
|[],_=>(0,0)
|n::l,rest=>if rest=0 then(0,0)else(n+(eC l (rest-n)).1*2^wid rest,wid rest+(eC l (rest-n)).2)
def takeN:Nat->Nat->Nat->Nat->Option (ae×Nat)
|0,rest,_,len=>if rest=0 then some ([],len)else none
|f+1,rest,N,len=>if rest=0 then some ([],len)else if len<wid rest then none else if rest<N%2^wid rest then none else
   (takeN f (rest-N%2^wid rest) (N/2^wid rest) (len-wid rest)).map λt=>(N%2^wid rest::t.1,t.2)
def cA:ae->ae
|[]=>[]
|n::l=>if n+l.sum=0 then []else n::cA l
theorem T3:∀(l:ae) (rest:Nat),l.sum<=rest->(eC l rest).1<2^(eC l rest).2
|[],rest,_=>by simp[eC]
|n::l,rest,h=>by
  unfold eC;split
  .simp
  .next ao=>
   rw[sum_cons]at h;have ih:=T3 l (rest-n) (by omega);have hw:=vB rest;have aA:n<2^wid rest:=Nat.lt_of_le_of_lt (by omega) hw;show n+(eC l (rest-n)).1*2^wid rest<2^(wid rest+(eC l (rest-n)).2);rw[dI,eG (2^wid rest)];have aT:((eC l (rest-n)).1+1)*2^wid rest<=2^(eC l (rest-n)).2*2^wid rest:=mul_le_mul_right _ ih;rw[Nat.add_mul,Nat.one_mul]at aT;generalize (eC l (rest-n)).1*2^wid rest=A at aT ⊢;generalize 2^(eC l (rest-n)).2*2^wid rest=B at aT ⊢;generalize 2^wid rest=P at aA aT;omega
theorem ZQ:∀(l:ae) (rest X m f:Nat),l.sum=rest->l.length<=f->takeN f rest ((eC l rest).1+X*2^(eC l rest).2) ((eC l rest).2+m)=some (cA l,m)
|[],rest,X,m,f,h,_=>by
  have ao:rest=0:=by simpa using h.symm
  subst ao;cases f<;>simp[takeN,eC,cA]
|n::l,rest,X,m,f,h,aL=>by
  rw[sum_cons]at h;by_cases ao:rest=0
  .subst ao;have e:cA (n::l)=[]:=by unfold cA;rw[aB h]
   rw[e];cases f<;>simp[takeN,eC]
  .obtain⟨g,rfl⟩:∃g,f=g+1:=⟨f-1,by rw[bY]at aL;omega⟩;have e:cA (n::l)=n::cA l:=by
    rw[cA,az (by omega)]
   have hw:=vB rest;have aA:n<2^wid rest:=Nat.lt_of_le_of_lt (by omega) hw;have ax:0<2^wid rest:=Nat.pow_pos (by omega);have ih:=ZQ l (rest-n) X m g (by omega) (by rw[bY]at aL;omega);have aG:(eC (n::l) rest).1=n+(eC l (rest-n)).1*2^wid rest:=by rw[eC,az ao]
   have e2:(eC (n::l) rest).2=wid rest+(eC l (rest-n)).2:=by rw[eC,az ao]
   have e3:n+(eC l (rest-n)).1*2^wid rest+X*2^(wid rest+(eC l (rest-n)).2)=n+((eC l (rest-n)).1+X*2^(eC l (rest-n)).2)*2^wid rest:=by
    rw[dI,Nat.add_mul,Nat.mul_assoc X,eG (2^wid rest),iO]
   rw[aG,e2,e3,e,takeN,az ao,az (by omega)];have hm:(n+((eC l (rest-n)).1+X*2^(eC l (rest-n)).2)*2^wid rest)%2^wid rest=n:=by rw[add_mul_mod_self_right,mod_eq_of_lt aA]
   have aI:(n+((eC l (rest-n)).1+X*2^(eC l (rest-n)).2)*2^wid rest)/2^wid rest=(eC l (rest-n)).1+X*2^(eC l (rest-n)).2:=by rw[add_mul_div_right _ _ ax,div_eq_of_lt aA,ez]
   rw[hm,aI,az (by omega),show wid rest+(eC l (rest-n)).2+m-wid rest=(eC l (rest-n)).2+m by omega,ih];rfl
theorem ZP:∀(f rest N len:Nat) (l:ae) (e:Nat),takeN f rest N len=some (l,e)->l.sum=rest/\l.length<=f/\e<=len
|0,rest,N,len,l,e,h=>by
  unfold takeN at h;split at h
  .next ao=>
   injection h with h
   injection h with h1 af
   subst h1 af ao;simp
  .cases h
|f+1,rest,N,len,l,e,h=>by
  unfold takeN at h;split at h
  .next ao=>
   injection h with h
   injection h with h1 af
   subst h1 af ao;simp
  .split at h
   .cases h
   .split at h
    .cases h
    .next ao h1 af=>
     cases aj:takeN f (rest-N%2^wid rest) (N/2^wid rest) (len-wid rest)with
    |none=>rw[aj]at h;simp at h
    |some t=>
      rw[aj,map_some]at h;injection h with h
      injection h with aq aK
      subst aq aK;obtain⟨bh,bN,en⟩:=ZP f _ _ _ t.1 t.2 aj;refine⟨by rw[sum_cons,bh];omega,by rw[bY];omega,by omega⟩
def hT(c:Nat):Int:=if c<16 then 0 else if 27<c then -1 else((c-12:Nat):Int)
def mg(v:Nat):Nat:=if v<16 then v else 11+wid v
def l0(v:Nat):Nat:=if v<16 then 0 else v%2^(wid v-1)
def jf(v:Nat):Nat:=if v<16 then 0 else wid v-1
def nI(c m:Nat):Option Nat:=if c<16 then(if m=0 then some c else none)else if 27<c then none else if m<2^(c-12)then some (2^(c-12)+m)else none
theorem Pm(v:Nat)(h:16<=v)(af:v<=65535):∃k,4<=k/\k<=15/\2^k<=v/\v<2^(k+1)/\wid v=k+1:=by
 have aD:v≠0:=by omega
 have h1:2^v.log2<=v:=log2_self_le aD;have aq:v<2^(v.log2+1):=lt_log2_self;refine⟨v.log2,(le_log2 aD).2 h,?_,h1,aq,EB v (by omega)⟩;have:v.log2<16:=(log2_lt aD).2 (by omega);omega
theorem Cu(v:Nat)(h:v<=65535):mg v<=27/\l0 v<=65535/\jf v<=15/\nI (mg v) (l0 v)=some v:=by
 by_cases eI:v<16
 .unfold mg l0 jf;rw[aB eI,aB eI,aB eI];refine⟨by omega,by omega,by omega,?_⟩;unfold nI;rw[aB eI,aB rfl]
 .obtain⟨k,bh,bN,h1,af,hw⟩:=Pm v (by omega) h;unfold mg l0 jf;rw[az eI,az eI,az eI,hw,Nat.add_sub_cancel];have au:=mod_lt v (eK k);have hm:=mod_le v (2^k);refine⟨by omega,by omega,by omega,?_⟩;unfold nI;rw[az (by omega),az (by omega),show 11+(k+1)-12=k by omega,aB au];have ax:2^(k+1)=2^k+2^k:=by rw[ea];omega
  have:v%2^k=v-2^k:=by
   rw[mod_eq_sub_mod h1,mod_eq_of_lt (by omega)]
  rw[this];congr 1
  omega
theorem atm(c m k:Nat)(hk:hT c=(k:Int)):nI c m=none↔m/2^k≠0:=by
 have ax:=eK k;have e:m/2^k≠0↔¬m<2^k:=by
  rw[ne_eq,Nat.div_eq_zero_iff];omega
 rw[e];unfold hT at hk;unfold nI;by_cases eI:c<16
 .rw[aB eI]at hk;have:k=0:=by omega
  subst this;rw[aB eI];by_cases ao:m=0
  .simp[ao]
  .rw[az ao];simp only[Nat.pow_zero,true_iff];omega
 .rw[az eI]at hk;by_cases nZ:27<c
  .rw[aB nZ]at hk;omega
  .rw[az nZ]at hk;have:k=c-12:=by omega
   subst this;rw[az eI,az nZ];by_cases hm:m<2^(c-12)
   .simp[hm]
   .simp[hm]
theorem atl(c m:Nat)(hk:hT c<0):nI c m=none:=by
 unfold hT at hk;unfold nI;by_cases eI:c<16
 .rw[aB eI]at hk;omega
 .rw[az eI]at hk;by_cases nZ:27<c
  .rw[az eI,aB nZ]
  .rw[az nZ]at hk;omega
theorem ahR(c:Nat):hT c=-1\/∃k:Nat,hT c=(k:Int)/\k<=15:=by
 unfold hT;split
 .exact .inr ⟨0,rfl,by omega⟩
 .split
  .exact .inl rfl
  .exact .inr ⟨c-12,rfl,by omega⟩
def hb(a b c x:Int):Int:=if x<1\/65533<x then -1 else if a=x then 0 else if b=x then 1 else if c=x then 2 else x+2
def hn(a b c x:Int):Int×Int×Int:=if a=x then(x,b,c)else if b=x then(x,a,c)else(x,a,b)
def kd(a b c n:Int):Int:=if 2<n then n-2 else if n=0 then a else if n=1 then b else c
def jW(a b c n:Int):Option Int:=if n<0\/65535<n then none else if hb a b c (kd a b c n)=n then some (kd a b c n)else none
theorem XF(a b c x:Int):hb a b c x=-1\/(0<=hb a b c x/\hb a b c x<=65535):=by
 unfold hb;split
 .exact .inl rfl
 .refine .inr ?_;split
  .omega
  .split
   .omega
   .split<;>omega
theorem anm(a b c x:Int)(h:0<=hb a b c x):1<=x/\x<=65533:=by
 unfold hb at h;by_cases h1:x<1\/65533<x
 .rw[aB h1]at h;omega
 .omega
theorem ant(a b c:Int):kd a b c 0=a:=by unfold kd;rw[az (by omega),aB rfl]
theorem anr(a b c:Int):kd a b c 1=b:=by unfold kd;rw[az (by omega),az (by omega),aB rfl]
theorem ans(a b c:Int):kd a b c 2=c:=by unfold kd;rw[az (by omega),az (by omega),az (by omega)]
theorem anq(a b c x:Int)(h:0<x):kd a b c (x+2)=x:=by unfold kd;rw[aB (by omega)];omega
theorem anu(a b c x:Int)(h:0<=hb a b c x):jW a b c (hb a b c x)=some x:=by
 have ai:kd a b c (hb a b c x)=x:=by
  unfold hb at *;by_cases h1:x<1\/65533<x
  .rw[aB h1]at h;omega
  .rw[az h1]at *;by_cases aV:a=x
   .rw[aB aV,ant,aV]
   .rw[az aV];by_cases ak:b=x
    .rw[aB ak,anr,ak]
    .rw[az ak];by_cases hc:c=x
     .rw[aB hc,ans,hc]
     .rw[az hc,anq _ _ _ _ (by omega)]
 have aj:=XF a b c x;unfold jW;rw[az (by omega),ai,aB rfl]
theorem anv(a b c n x:Int)(h:jW a b c n=some x):0<=n/\n<=65535/\hb a b c x=n:=by
 unfold jW at h;by_cases h1:n<0\/65535<n
 .rw[aB h1]at h;cases h
 .rw[az h1]at h;by_cases af:hb a b c (kd a b c n)=n
  .rw[aB af]at h;injection h with h
   exact⟨by omega,by omega,by rw[<-h];exact af⟩
  .rw[az af]at h;cases h
abbrev dx:=Nat×Nat×Nat
abbrev eS:=Int×Int×Int
def h9(s:dx):eS:=((s.1:Int),(s.2.1:Int),(s.2.2:Int))
theorem ate(a b:ae):eD (a++b)=eD a+128^a.length*eD b:=by
 induction a with
|nil=>simp[eD]
|cons x xs ih=>
  rw[cons_append,eD,ih,eD,bY,ea,Nat.mul_add,<-Nat.mul_assoc,eG 128 (128^xs.length)];omega
theorem Ph(s:ae):eD s<128^s.length:=by
 induction s with
|nil=>simp[eD]
|cons x xs ih=>
  rw[eD,bY,ea];omega
theorem Pj(s:ae)(x:Nat):eD (s++[x])=eD s+x%128*128^s.length:=by
 rw[ate];simp[eD,eG]
theorem SJ:∀(front:ae) (last:Nat),(∀b∈front,128<=b/\b<256)->last<128->(last≠0\/front=[])->eD (front++[last])<2^64->bg (eD (front++[last]))=front++[last]
|[],last,_,hl,_,_=>by
  have e:eD ([]++[last])=last:=by simp[eD];omega
  rw[e,tc last hl];rfl
|b::fs,last,aL,hl,ao,nt=>by
  have u5:last≠0:=by rcases ao with h|h;exact h;cases h
  have ak:=aL b dU;rw[cons_append,eD]at nt ⊢;have ih:=SJ fs last (λx ai=>aL x (eo _ ai)) hl (.inl u5) (by omega);have h1:1<=eD (fs++[last]):=by
   rw[Pj];have af:1<=last%128*128^fs.length:=Nat.mul_pos (by omega) (Nat.pow_pos (by omega));omega
  rw[wq _ (by omega) nt,show(b%128+128*eD (fs++[last]))/128=eD (fs++[last]) by omega,ih];congr 1
  omega
theorem ah1(s:ae)(ak:∀x∈s,x<256)(i:Nat)(ay:i<s.length)(dh:i<=9)(hlead:lead s=i) :
  aX s=if (i=9/\s[i]=1)\/(i≠9/\(s[i]≠0\/i=0))then(eD (s.take (i+1)),i+1)else(0,0):=by
 have hlow:s[i]<128:=by
  have h1:=W0 s (by omega);simpa [hlead]using h1
 have htake:s.take (i+1)=s.take i++[s[i]]:=fY ay;have hlen:(s.take i).length=i:=by rw[cr];omega
 have ajK:∀b∈s.take i,128<=b/\b<256:=by
  intro b x6;obtain⟨j,ar,rfl⟩:=List.mem_iff_getElem.1 x6;rw[hlen]at ar;rw[getElem_take];exact⟨WZ s j (by omega) (by omega),ak _ (b8 _)⟩
 have hval:eD (s.take (i+1))=eD (s.take i)+s[i]*128^i:=by rw[htake,Pj,hlen,mod_eq_of_lt hlow]
 have yN:eD (s.take i)<128^i:=by have h1:=Ph (s.take i);rw[hlen]at h1;exact h1
 unfold aX;rw[hlead,az (by omega)];by_cases hc:(i=9/\s[i]=1)\/(i≠9/\(s[i]≠0\/i=0))
 .rw[aB hc];have nt:eD (s.take (i+1))<2^64:=by
   rcases hc with⟨h,h1⟩|⟨h,_⟩
   .rw[hval,h1];rw[h]at yN ⊢;have:(128:Nat)^9+1*128^9=2^64:=by decide
    omega
   .have h1:=Ph (s.take (i+1));have af:128^(s.take (i+1)).length<=128^9:=dy (by omega) (by rw[cr];omega);have aq:(128:Nat)^9<=2^64:=by decide
    omega
  have aF:bg (eD (s.take (i+1)))=s.take (i+1):=by
   rw[htake]at nt ⊢;refine SJ _ _ ajK hlow ?_ nt;rcases hc with⟨_,h1⟩|⟨_,h1|h1⟩
   .left;omega
   .left;exact h1
   .right;subst h1;simp
  rw[aB ⟨nt,aF⟩]
 .rw[az hc,az];rintro⟨nt,aF⟩;by_cases ao:s[i]=0
  .have LR:0<i:=by
    rcases eq_zero_or_pos i with h|h
    .exact absurd (Or.inr ⟨by omega,Or.inr h⟩) hc
    .exact h
   have h1:eD (s.take (i+1))<128^i:=by rw[hval,ao];omega
   have af:=(F2 _ nt i LR).2 h1;rw[aF,cr]at af;omega
  .have KZ:i=9:=by
    rcases eF i 9 with h|h
    .exact absurd (Or.inr ⟨by omega,Or.inl ao⟩) hc
    .omega
   have h1:s[i]≠1:=λh=>hc (Or.inl ⟨KZ,h⟩)
   have aK:128^i=128^9:=by rw[KZ]
   rw[hval,aK]at nt;have af:2*128^9<=s[i]*128^9:=mul_le_mul_right _ (by omega);have aq:2*(128:Nat)^9=2^64:=by decide
   omega
theorem KM(s:ae)(h:lead s=s.length\/9<lead s):aX s=(0,0):=by
 unfold aX;rw[aB h]
theorem W1(s:ae)(i:Nat)(h:i<=lead s)(ay:i<s.length)(h1:128<=s[i]):i+1<=lead s:=by
 rcases eF i (lead s)with af|af
 .exact af
 .have e:lead s=i:=by omega
  have aq:=W0 s (by omega);simp only[e]at aq;omega
theorem WY(s:ae)(i:Nat)(h:i<=lead s)(ay:i<s.length)(h1:s[i]<128):lead s=i:=by
 rcases eF i (lead s)with af|af
 .have:=WZ s i ay af;omega
 .omega
theorem ati(s:ae)(i:Nat)(ay:i<s.length):eD (s.take (i+1))=eD (s.take i)+s[i]%128*128^i:=by
 rw[fY ay,Pj,cr,Nat.min_eq_left (by omega)]
end Go.Proofs.YtgiicohbigiapaaGreat.am
namespace Go.Proofs
open Go.Shelf
def Tryz.lays128_ren:Go.Shelf.Ren:=⟨fun|128=>161|n=>n,fun|51=>132|3=>3|4=>4|46=>88|5=>5|9=>9|n=>n,fun|n=>n⟩
theorem Tryz.lays128:Go.Proofs.Lays.n128 prog Tryz.lays128_ren:={
 mixed:=by kernel_rfl
 f128:=Tryz.func161.trans (congrArg some (by kernel_rfl))
 t3:=underlying3
 a3:=Tryz.isAgg3
 z3:=Tryz.sizeOf3
 v3:=Tryz.zeroValue3
 t4:=underlying4
 a4:=Tryz.isAgg4
 z4:=Tryz.sizeOf4
 v4:=Tryz.zeroValue4
 t5:=underlying5
 a5:=Tryz.isAgg5
 z5:=Tryz.sizeOf5
 v5:=Tryz.zeroValue5
 t9:=underlying9
 a9:=Tryz.isAgg9
 z9:=Tryz.sizeOf9
 v9:=Tryz.zeroValue9
 t46:=underlying88
 a46:=Tryz.isAgg88
 z46:=Tryz.sizeOf88
 v46:=Tryz.zeroValue88
 t51:=underlying132
 a51:=Tryz.isAgg132
 z51:=Tryz.sizeOf132
 v51:=Tryz.zeroValue132}
theorem Tryz.bits_Len32(x:Int)(w:World)(ao:0<=x)(h1:x<=4294967295) :
  Calls prog 161 #[.int .u32 x] w λe w'=>e=.returned (.int .i64 (Lib.bitLen x.toNat))/\w'=w:=Any.bits_Len32 Tryz.lays128 x w ao h1
end Go.Proofs
namespace Go.Proofs.YtgiicohbigiapaaGreat.am
def jp(U:ae)(log k s:Nat):ae:=(List.range k).filter λp=>cC U log p==s
theorem arr(U:ae)(log s:Nat):jp U log 0 s=[]:=rfl
theorem HG(U:ae)(log k:Nat):jp U log (k+1) (cC U log k)=jp U log k (cC U log k)++[k]:=by
 unfold jp;rw[range_succ,filter_append];simp
theorem OM(U:ae)(log k s:Nat)(h:cC U log k≠s):jp U log (k+1) s=jp U log k s:=by
 unfold jp;rw[range_succ,filter_append];simp[h]
theorem arp(U:ae)(log k m s:Nat)(h:k<=m):∃l,jp U log m s=jp U log k s++l:=by
 obtain⟨d,rfl⟩:∃d,m=k+d:=⟨m-k,by omega⟩;induction d with
|zero=>exact⟨[],by simp⟩
|succ d ih=>
  obtain⟨l,e⟩:=ih (by omega);by_cases ap:cC U log (k+d)=s
  .subst ap;exact⟨l++[k+d],by rw[<-iO,HG,e,df]⟩
  .exact⟨l,by rw[<-iO,OM _ _ _ _ ap,e]⟩
theorem HF(U:ae)(log k s:Nat)(hk:k<=2^log):(jp U log k s).length=((eP U log).take k).count s:=by
 induction k with
|zero=>simp[jp]
|succ k ih=>
  have hl:k<(eP U log).length:=by rw[qt];omega
  have g:=y8 U log k (by omega);rw[bI hl]at g;injection g with g
  have h1:=FE (eP U log) k s hl;have af:=ih (by omega);by_cases ap:cC U log k=s
  .subst ap;rw[aB g]at h1;rw[HG,aY,h1,af];rfl
  .rw[az (by rw[g];exact ap)]at h1;rw[OM _ _ _ _ ap];omega
theorem Zf(U:ae)(log s:Nat)(h:dW U log):(jp U log (2^log) s).length=U[s]?.getD 0:=by
 rw[HF _ _ _ _ bl,<-qt U log,take_length,y7 U log s h]
theorem aro(U:ae)(log p:Nat)(ax:p<2^log):(jp U log (2^log) (cC U log p))[sB U log p]?=some p:=by
 obtain⟨l,e⟩:=arp U log (p+1) (2^log) (cC U log p) (by omega);rw[e,HG];have hl:(jp U log p (cC U log p)).length=sB U log p:=HF _ _ _ _ (by omega);rw[df,<-hl];simp
theorem ae5(U:ae)(log st s n b:Nat)(h:dW U log)(ap:U[s]?=some n)(ao:0<n)(aS:st<2^log)
  (h1:n<=(st+2^log)/2^b)(af:(st+2^log)/2^b<2*n) :
  ∃p,(jp U log (2^log) s)[(st+2^log)/2^b-n]?=some p/\lk U log st s=some p/\cd U log p=b/\st-eh U log p=(st+2^log)%2^b:=by
 have hc:=y7 U log s h;rw[ap,b7]at hc;have e:2^(log+1)=2^log*2:=ea 2 log;have ax:0<2^b:=Nat.pow_pos (by omega);have aA:n<=2^log:=by rw[<-hc,<-qt U log];exact count_le_length
 obtain⟨x,ai⟩:∃x,x=(st+2^log)/2^b:=⟨_,rfl⟩;have eu:b<=log:=by
  rcases eF log b with aq|aq
  .have aK:2^(log+1)<=2^b:=dy (by omega) aq;rw[div_eq_of_lt (by omega)]at h1;omega
  .exact aq
 have hw:wid x=log-b+1:=by
  rw[ai];refine Bi _ _ ((le_div_iff_mul_le ax).2 ?_) ((div_lt_iff_lt_mul ax).2 ?_)
  .rw[<-dI,show log-b+b=log by omega];omega
  .rw[<-dI,show log-b+1+b=log+1 by omega];omega
 have k4:dR log x=b:=by unfold dR;rw[hw];omega
 rw[<-ai]at h1 af ⊢;obtain⟨p,cn,aG,e2⟩:=Ht (eP U log) s (x-n) (by omega);have Az:p<2^log:=by rw[qt]at cn;exact cn
 have mQ:=y8 U log p Az;rw[bI cn,aG]at mQ;injection mQ with mQ
 have aj:sB U log p=x-n:=by unfold sB;rw[<-mQ,e2]
 have jD:hC U log p=x:=by
  unfold hC;rw[<-mQ,ap,b7,aj];omega
 have bx:cd U log p=b:=by unfold cd;rw[jD,k4]
 have n7:x<2^(log+1):=by omega
 have hl:leads U log st s p:=by
  refine⟨mQ.symm,?_⟩;unfold eh cd;rw[jD];exact(GL log x st (by omega) n7).2 (by rw[k4];exact ai.symm)
 refine⟨p,?_,Q5 U log st s p h Az hl,bx,?_⟩
 .have aq:=aro U log p Az;rw[aj,<-mQ]at aq;exact aq
 .unfold eh s7;rw[jD,k4];have aq:=Cq log x (by omega) n7;rw[k4]at aq;have aK:=div_add_mod (st+2^log) (2^b);rw[<-ai,eG]at aK;omega
theorem aq1(log st n:Nat)(ao:0<n)(aA:n<=2^log)(aS:st<2^log):(st+2^log)/2^(log+1-wid n)<2*n:=by
 have e:2^(log+1)=2^log*2:=ea 2 log;have h1:=Bj n ao;have af:=sK n ao;have aq:=qx n (log+1) (by omega);refine(div_lt_iff_lt_mul (Nat.pow_pos (by omega))).2 ?_;have aK:2^(log+1)=2^(wid n-1)*2*2^(log+1-wid n):=by
  rw[<-ea,<-dI];congr 1;omega
 have aT:2^(wid n-1)*2*2^(log+1-wid n)<=2*n*2^(log+1-wid n):=mul_le_mul_right _ (by omega);omega
theorem aq2(log st n:Nat)(ao:0<n)(aA:n<=2^log)(h:(st+2^log)/2^(log+1-wid n)<n) :
  1<=log+1-wid n/\n<=(st+2^log)/2^(log+1-wid n-1)/\(st+2^log)/2^(log+1-wid n-1)<2*n:=by
 have e:2^(log+1)=2^log*2:=ea 2 log;have h1:=vB n;have af:=sK n ao;have aq:=qx n (log+1) (by omega);have bx:1<=log+1-wid n:=by
  rcases eq_zero_or_pos (log+1-wid n)with aK|aK
  .rw[aK,Nat.pow_zero,Nat.div_one]at h;omega
  .exact aK
 obtain⟨b,ak⟩:∃b,log+1-wid n=b+1:=⟨log+1-wid n-1,by omega⟩;rw[ak]at h ⊢;rw[Nat.add_sub_cancel];refine⟨by omega,?_,?_⟩
 .refine(le_div_iff_mul_le (Nat.pow_pos (by omega))).2 ?_;have aK:2^log=2^wid n*2^b:=by rw[<-dI];congr 1;omega
  have aT:n*2^b<=2^wid n*2^b:=mul_le_mul_right _ (by omega);omega
 .rw[ea,<-jX]at h;omega
theorem arq(U:ae)(log s n:Nat)(h:dW U log)(ap:U[s]?=some n):n<=2^log:=by
 have hc:=y7 U log s h;rw[ap,b7]at hc;rw[<-hc,<-qt U log];exact count_le_length
end am
end Go.Proofs.YtgiicohbigiapaaGreat
