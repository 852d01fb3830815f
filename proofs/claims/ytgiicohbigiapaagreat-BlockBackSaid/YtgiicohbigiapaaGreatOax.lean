/- Contracts. -/
import Derived.Test.YtgiicohbigiapaaGreatOao
import Derived.Test.YtgiicohbigiapaaGreatOam
import Derived.Test.YtgiicohbigiapaaGreatOz1
import Derived.Test.YtgiicohbigiapaaGreatOz0
set_option maxHeartbeats 4000000
set_option maxRecDepth 100000
open Go.Proofs.Tryz Go.Proofs.YtgiicohbigiapaaGreat.am List Nat Option
namespace Go.Proofs.YtgiicohbigiapaaGreat
namespace am
def qo(T:List bu)(k i:Nat):Nat:=(dA (T.take k)).count i
theorem G5{L:List bu}{i:Nat}:i∈dA L↔∃t∈L,i∈t.2.2:=by simp[dA,mem_flatMap]
theorem ami{ag:ae}{S T P dv:List bu}{t:Nat}(cD:rJ ag S)(cq:s5 S t T)(ax:v6 T P)(ap:cw (S++P) dv)(aj:cv dv)(k:Nat)(hk:k<=dv.length) :
  ∃s q,s+q=k/\s<=S.length/\2*q<=T.length/\(∀i,qo dv k i=(dA (S.take s)).count i+qo T (2*q) i)/\(∀i,0<qo T (2*q) i->(dA (S.take s)).count i=1)/\hf (dv.take k)=hf (S.take s)+hf (T.take (2*q)):=by
 obtain⟨q6,Hh⟩:=GY cD cq;have XM:=X1 ax Hh;have h1:∀t∈S,single t=true:=λt aE=>(OD cD t aE).2
 have af:∀t∈P,single t=false:=λt aE=>by
  have:=(XM t aE).2;unfold single;rw[beq_eq_false_iff_ne];omega
 obtain⟨m1,m2⟩:=merged cD.OJ (anS ax q6) h1 af ap aj;obtain⟨s,q,e,hM,Dr,hperm,f1,f2⟩:=ag4 m1 m2 k hk;have hl:=ax.len;obtain⟨cl,cp⟩:=N0 ax q Dr;have mU:∀i,(dA (S.take s)).count i<=1:=λi=>by
  have aq:(dA (S.take s)).Nodup:=by
   have aK:=cD.nodup;rw[<-gq s S,y6]at aK;exact(List.nodup_append.1 aK).1
  exact List.nodup_iff_count.1 aq i
 refine⟨s,q,e,hM,by omega,λi=>?_,λi ay=>?_,?_⟩
 .unfold qo;rw[(ZG hperm).count_eq i,y6,count_append,cl]
 .have aq:0<(dA (S.take s)).count i:=by
   unfold qo at ay;rw[<-cl,count_pos_iff,G5]at ay;obtain⟨u,hu,Um⟩:=ay;have akK:u∈P:=mem_of_mem_take hu;obtain⟨⟨aw,aC,a6⟩,bH⟩:=XM u akK;obtain⟨c1,c2⟩:=a6 i Um;have yM:u∈dv.take k:=(List.mem_filter.1 (by rw[f2];exact hu)).1;have LS:=cD.all i c2 c1;obtain⟨v,aD,LW⟩:=G5.1 LS;obtain⟨j,GN,M8,WG,WH⟩:=cD.one v aD;rw[GN,mem_singleton]at LW;subst LW;have au:v.1<u.1:=by
    rw[aw,M8];obtain⟨A,B,rR⟩:=append_of_mem Um;rw[rR,map_append,map_cons,sum_append_nat,sum_cons];rw[rR,aY,bY]at bH;have hpos:0<(A.map (bX ag)).sum+(B.map (bX ag)).sum:=by
     match A,B,rR,bH with
    |a::A,_,rR,_=>
      have:=(a6 a (by rw[rR];simp)).1;rw[map_cons,sum_cons];omega
    |[],b::B,rR,_=>
      have:=(a6 b (by rw[rR];simp)).1;rw[map_cons,sum_cons];omega
    |[],[],_,bH=>simp at bH
    omega
   have V6:v∈dv:=ap.1.mem_iff.1 (mem_append_left _ aD);have akN:v∈dv.take k:=by
    rw[<-gq k dv]at V6;rcases List.mem_append.1 V6 with aT|aT
    .exact aT
    .exfalso
     have ci:=aj;rw[<-gq k dv]at ci;have:=(List.pairwise_append.1 ci).2.2 u yM v aT;omega
   have tA:v∈S.take s:=by
    rw[<-f1];exact List.mem_filter.2 ⟨akN,h1 v aD⟩
   rw[count_pos_iff,G5];exact⟨v,tA,by rw[GN];simp⟩
  have:=mU i;omega
 .rw[atC hperm,Pp,cp]
theorem aq5{ag:ae}{S:List bu}(h:rJ ag S)(s:Nat):(dA (S.take s)).length=(S.take s).length/\∀y∈dA (S.take s),y<ag.length:=by
 have:∀L:List bu,(∀t∈L,t∈S)->(dA L).length=L.length/\∀y∈dA L,y<ag.length:=λL=>by
  induction L with
 |nil=>intro _;simp[dA]
 |cons t L ih=>
   intro bR;obtain⟨h1,af⟩:=ih (λu hu=>bR u (eo _ hu));obtain⟨i,aG,_,_,e4⟩:=h.one t (bR t dU);have e:dA (t::L)=i::dA L:=by simp[dA,aG]
   rw[e];refine⟨by simp[h1],λy hy=>?_⟩;rcases List.mem_cons.1 hy with rfl|hy
   .exact e4
   .exact af y hy
 exact this _ (λt aE=>mem_of_mem_take aE)
theorem RQ{ag:ae}{S:List bu}(h:rJ ag S)(s:Nat)(ap:s<=S.length):((List.range ag.length).map λi=>(dA (S.take s)).count i).sum=s:=by
 obtain⟨h1,af⟩:=aq5 h s;have aq:=Ko (λ_=>1) ag.length (dA (S.take s)) af;simp only[Nat.one_mul]at aq;rw[aq,map_const',sum_replicate_nat,Nat.mul_one,h1,cr];omega
theorem amg{ag:ae}{S:List bu}(cD:rJ ag S):∀{t:Nat} {T:List bu},s5 S t T->∀k,k<=T.length->(∀i,qo T k i<=t+1)/\((List.range ag.length).map λi=>2^(t+1)-2^(t+1-qo T k i)).sum=k*2^t:=by
 intro t T cq;induction cq with
|zero=>
  intro k hk;have mU:∀i,qo S k i<=1:=λi=>by
   have aK:=cD.nodup;rw[<-gq k S,y6]at aK;exact List.nodup_iff_count.1 (List.nodup_append.1 aK).1 i
  refine⟨λi=>by have:=mU i;omega,?_⟩;have h1:=RQ cD k hk;rw[Nat.pow_zero,Nat.mul_one];refine Eq.trans ?_ h1;congr 1
  apply map_congr_left
  intro i _;have af:=mU i;unfold qo at af ⊢;generalize (dA (S.take k)).count i=c at *;obtain rfl|rfl:c=0\/c=1:=by omega
  .simp
  .simp
|@succ t T P dv cq ax ap aj ih=>
  intro k hk;obtain⟨s,q,e,hM,Dr,b9,hpre,_⟩:=ami cD cq ax ap aj k hk;obtain⟨DK,DL⟩:=ih (2*q) Dr;have bM:∀i,(dA (S.take s)).count i<=1:=λi=>by
   have aK:=cD.nodup;rw[<-gq s S,y6]at aK;exact List.nodup_iff_count.1 (List.nodup_append.1 aK).1 i
  refine⟨λi=>by have:=b9 i;have:=DK i;have:=bM i;omega,?_⟩;have h1:=RQ cD s hM;have af:((List.range ag.length).map λi=>2^(t+1+1)-2^(t+1+1-qo dv k i)).sum=((List.range ag.length).map λi=>2^(t+1)*(dA (S.take s)).count i+(2^(t+1)-2^(t+1-qo T (2*q) i))).sum:=by
   congr 1
   apply map_congr_left
   intro i _;have fL:=b9 i;have a2:=hpre i;have a3:=bM i;have a4:=DK i;rw[fL];generalize (dA (S.take s)).count i=c at *;generalize qo T (2*q) i=o at *;have kr:2^(t+1+1)=2*2^(t+1):=by rw[ea,eG]
   have hle:2^(t+1-o)<=2^(t+1):=dy (by omega) (by omega);obtain rfl|rfl:c=0\/c=1:=by omega
   .obtain rfl:o=0:=by
     rcases eq_zero_or_pos o with h|h
     .exact h
     .have:=a2 h;omega
    simp
   .rw[show t+1+1-(1+o)=t+1-o by omega,kr];omega
  rw[af,w5,DL];have aq:((List.range ag.length).map λi=>2^(t+1)*(dA (S.take s)).count i).sum=2^(t+1)*s:=by
   conv=>rhs;rw[<-h1]
   clear h1 af DL;generalize List.range ag.length=L;induction L with
  |nil=>simp
  |cons a L ih=>rw[map_cons,sum_cons,ih,map_cons,sum_cons,Nat.mul_add]
  rw[aq,<-e,Nat.add_mul,eG s,ea,show 2*q*2^t=q*(2^t*2) by rw[eG 2 q,Nat.mul_assoc,eG 2]]
theorem amf{S:List bu}(w:Nat)(hw:w<=11)(h1:S.length<=2^w)(af:2^w<=2*S.length) :
  ∀{t:Nat} {T:List bu},s5 S t T->∀j,j<=w->t+j=11->2*S.length-2^j<=T.length/\hf (T.take (2*S.length-2^j))<=(w-j)*hf S+hf (S.take (2*S.length-2^w)):=by
 intro t T cq;induction cq with
|zero=>
  intro j ar aE;obtain rfl:j=w:=by omega
  exact⟨by omega,by omega⟩
|@succ t T P dv cq ax ap aj ih=>
  intro j ar aE;have hl:=ap.1.length_eq;rw[aY]at hl;have x3:=ax.len;by_cases aj0:j=w
  .subst aj0;have aq:=Xk ap.1 aj (2*S.length-2^j) 0 (by omega) (by omega);simp only[fX,take_zero]at aq;have aK:hf ([]:List bu)=0:=rfl;rw[aK]at aq;exact⟨by omega,by omega⟩
  .obtain⟨DK,DL⟩:=ih (j+1) (by omega) (by omega);have aww:2^(j+1)=2*2^j:=by rw[ea,eG]
   have av3:2^(j+1)<=2^w:=dy (by omega) (by omega);have aq:=Xk ap.1 aj S.length (S.length-2^j) bl (by omega);rw[take_length,(N0 ax (S.length-2^j) (by omega)).2,show 2*(S.length-2^j)=2*S.length-2^(j+1) by omega,show S.length+(S.length-2^j)=2*S.length-2^j by omega]at aq;refine⟨by omega,?_⟩;have aT:(w-j)*hf S=(w-(j+1))*hf S+hf S:=by
    rw[show w-j=(w-(j+1))+1 by omega,succ_mul]
   omega
def jV(ag:ae)(Y:ae):ae:=(List.range ag.length).map λi=>Y.count i
theorem arU(f:Nat->Nat)(N a b:Nat)(aV:a<N)(ak:b<N)(mR:a≠b):f a+f b<=((List.range N).map f).sum:=by
 have e:((List.range N).map λi=>(if i=a then f a else 0)+(if i=b then f b else 0)).sum=f a+f b:=by
  rw[w5,y4,y4,aB aV,aB ak]
 rw[<-e];apply Ep
 intro i _;by_cases h1:i=a
 .subst h1;rw[aB rfl,az mR];omega
 .rw[az h1];by_cases af:i=b
  .subst af;rw[aB rfl];omega
  .rw[az af];omega
theorem apT(l:ae)(m:Nat):(l.reverse.take m).sum+(l.take (l.length-m)).sum=l.sum:=by
 rw[take_reverse,sum_reverse_nat];conv=>rhs;rw[<-gq (l.length-m) l,sum_append_nat]
 omega
theorem afR{ag:ae}{S T:List bu}(cD:rJ ag S)(tg:ag.length<=256)(af:2<=S.length)(hlen:S.length=(fu ag).length)(hperm:(S.map (·.1)).Perm (fu ag))(cq:s5 S 10 T) :
  2*S.length-2<=T.length/\tV ag (jV ag (dA (T.take (2*S.length-2)))):=by
 have k2:S.length<=256:=by rw[hlen];exact dl (Ye ag) tg
 obtain⟨w,hw⟩:∃w,w=wid (S.length-1):=⟨_,rfl⟩;have gU:S.length<=2^w:=by have:=vB (S.length-1);rw[<-hw]at this;omega
 have vg:1<=w:=by rw[hw];exact sK _ (by omega)
 have mX:2^w<=2*S.length:=by
  have aq:=Bj (S.length-1) (by omega);rw[<-hw]at aq;have:2^w=2*2^(w-1):=by
   conv=>lhs;rw[show w=(w-1)+1 by omega,ea,eG]
  omega
 have awU:w<=8:=by
  rw[hw];refine qx _ 8 ?_;have:(2:Nat)^8=256:=by decide
  omega
 obtain⟨KP,SA⟩:=amf w (by omega) gU mX cq 1 vg rfl;rw[Nat.pow_one]at KP SA;obtain⟨WO,Nb⟩:=amg cD cq (2*S.length-2) KP;obtain⟨_,Hh⟩:=GY cD cq;have NM:∀y∈dA (T.take (2*S.length-2)),0<bX ag y/\y<ag.length:=λy hy=>by
  obtain⟨u,hu,ak6⟩:=G5.1 hy;exact(Hh u (mem_of_mem_take hu)).2.2 y ak6
 have akQ:hf (T.take (2*S.length-2))=((dA (T.take (2*S.length-2))).map (bX ag)).sum:=by
  have:∀L:List bu,(∀u∈L,u∈T)->hf L=((dA L).map (bX ag)).sum:=λL=>by
   induction L with
  |nil=>intro _;simp[hf,dA]
  |cons u L ih=>
    intro bR;have aq:=ih (λv aD=>bR v (eo _ aD));have aK:=(Hh u (bR u dU)).1;have aG:hf (u::L)=u.1+hf L:=by simp[hf]
    have e2:dA (u::L)=u.2.2++dA L:=by simp[dA]
    rw[aG,e2,map_append,sum_append_nat,<-aq,<-aK]
  exact this _ (λu hu=>mem_of_mem_take hu)
 refine⟨KP,?_⟩;unfold qo at WO Nb;generalize dA (T.take (2*S.length-2))=Y at *;rw[akQ]at SA;have Up:(2:Nat)^(10+1)=2048:=by decide
 have hk10:(2:Nat)^10=1024:=by decide
 rw[Up,hk10]at Nb;have yw:(fA ag).length=S.length:=by rw[hlen,<-wX,cQ]
 have cU:((List.range ag.length).map λi=>if 0<bX ag i then 2048 else 0).sum=S.length*2048:=by
  have aq:=G2 ag (λ_=>2048) ag.length;rw[<-aq,map_const',sum_replicate_nat];rw[show(kx ag ag.length).length=S.length from yw]
 have aQ:∀i,¬0<bX ag i->Y.count i=0:=λi ay=>List.count_eq_zero.2 (λhm=>ay (NM i hm).1)
 have ck:((List.range ag.length).map λi=>if 0<bX ag i then 2^(11-Y.count i)else 0).sum=2048:=by
  have aq:((List.range ag.length).map λi=>(if 0<bX ag i then 2^(11-Y.count i)else 0)+(2048-2^(10+1-Y.count i))).sum=((List.range ag.length).map λi=>if 0<bX ag i then 2048 else 0).sum:=by
   congr 1
   apply map_congr_left
   intro i _;have hle:2^(10+1-Y.count i)<=2^(10+1):=dy (by omega) (by omega);by_cases ay:0<bX ag i
   .rw[aB ay,aB ay];rw[show 11-Y.count i=10+1-Y.count i by omega];omega
   .rw[az ay,az ay,aQ i ay,Nat.sub_zero,Up]
  rw[w5,Nb,cU]at aq;omega
 have hpos:∀j,j<ag.length->0<bX ag j->0<Y.count j:=λj ar hc=>by
  rcases eq_zero_or_pos (Y.count j)with ao|ao
  .exfalso
   have hex:∃u∈fA ag,u.2≠j:=by
    match bR:fA ag,yw with
   |a::b::L,_=>
     have mU:=Ha ag ag.length;have aG:kx ag ag.length=a::b::L:=bR;rw[aG]at mU;simp only[map_cons,nodup_cons,mem_cons,not_or]at mU;by_cases aV:a.2=j
     .exact⟨b,by simp,λak=>mU.1.1 (by rw[aV,ak])⟩
     .exact⟨a,by simp,aV⟩
   |[],hl=>simp at hl;omega
   |[a],hl=>simp at hl;omega
   obtain⟨u,hu,akL⟩:=hex;obtain⟨u1,u2,u3⟩:=(pG ag ag.length u).1 hu;have qO:0<bX ag u.2:=by unfold bX;omega
   have aq:=arU (λi=>if 0<bX ag i then 2^(11-Y.count i)else 0) ag.length j u.2 ar u1 (λh=>akL h.symm);rw[ck]at aq;simp only[aB hc,aB qO,ao,Nat.sub_zero]at aq;have ax:0<2^(11-Y.count u.2):=eK _;have dQ:(2:Nat)^11=2048:=by decide
   omega
  .exact ao
 have iq:(jV ag Y).length=ag.length:=by simp[jV]
 have aF:∀i,i<ag.length->(jV ag Y)[i]?.getD 0=Y.count i:=λi ay=>by simp[jV,ay]
 have Gu:∀i,i<ag.length->(0<(jV ag Y)[i]?.getD 0↔0<ag[i]?.getD 0):=λi ay=>by
  rw[aF i ay];refine⟨λh=>?_,λh=>hpos i ay h⟩;exact(NM i (List.count_pos_iff.1 h)).1
 have dQ:∀x∈jV ag Y,x<=11:=λx ai=>by
  simp only[jV,mem_map]at ai;obtain⟨i,_,rfl⟩:=ai;exact WO i
 refine⟨iq,⟨by omega,dQ,.inl ?_⟩,Gu,dl ?_ (Nat.le_max_left _ _)⟩
 .rw[GR,iq,<-ck];congr 1
  apply map_congr_left
  intro i ay;have ay:=List.mem_range.1 ay;rw[aF i ay];unfold fa;by_cases hc:0<bX ag i
  .have:=hpos i ay hc;rw[az (by omega),aB hc]
  .rw[aB (aQ i hc),az hc]
 .have bM:zX ag (jV ag Y)=(Y.map (bX ag)).sum:=by
   rw[<-Ko (bX ag) ag.length Y (λy hy=>(NM y hy).2)];unfold zX;congr 1
   apply map_congr_left
   intro i ay;rw[aF i (List.mem_range.1 ay)]
  have hsort:(S.map (·.1)).Pairwise (·<=·):=List.pairwise_map.2 cD.OJ;have ajU:mZ (fu ag)=S.map (·.1):=by rw[<-WF hperm,WE _ hsort]
  have dT:hf S=(fu ag).sum:=hperm.sum_nat;have hrev:=apT (S.map (·.1)) (2^w-S.length);rw[cQ]at hrev;have Wj:hf (S.take (2*S.length-2^w))=((S.map (·.1)).take (S.length-(2^w-S.length))).sum:=by
   unfold hf;rw[map_take];congr 2
   omega
  have awV:(S.map (·.1)).sum=hf S:=rfl;unfold SB;rw[az (by omega),ajU,<-hlen,<-hw,bM,<-dT];have hmul:hf S*w=(w-1)*hf S+hf S:=by
   conv=>lhs;rw[show w=(w-1)+1 by omega,mul_succ,eG]
  rw[hmul];omega
theorem amh{ag:ae}{S:List bu}(cD:rJ ag S)(hm:∀x∈ag,x<=1048576):∀{t:Nat} {T:List bu},s5 S t T->S.length<=T.length/\T.length<=2*S.length/\∀u∈T,u.2.2.length<=2^t/\u.1<=2^t*1048576:=by
 have hone:∀u∈S,u.2.2.length<=1/\u.1<=1048576:=λu hu=>by
  obtain⟨i,aG,e2,_,e4⟩:=cD.one u hu;rw[aG,e2];refine⟨by simp,?_⟩;unfold bX;rw[bI e4,b7];exact hm _ (b8 e4)
 intro t T cq;induction cq with
|zero=>exact⟨Nat.le_refl _,by omega,λu hu=>by have:=hone u hu;simp;omega⟩
|@succ t T P dv cq ax ap aj ih=>
  obtain⟨i1,i2,i3⟩:=ih;have hl:=ap.1.length_eq;rw[aY,ax.len]at hl;have akn:2^(t+1)=2*2^t:=by rw[ea,eG]
  have h1:1<=2^t:=Nat.one_le_two_pow;refine⟨by omega,by omega,λu hu=>?_⟩;rw[akn];rcases List.mem_append.1 (ap.1.mem_iff.2 hu)with hu|hu
  .have:=hone u hu;omega
  .obtain⟨x,ai,rfl⟩:=List.mem_iff_getElem.1 hu;have ew:=ax.len;have fL:=ax.wt x ai;have a2:=ax.cM x ai;unfold wt at fL;rw[bI ai,b7]at fL a2;have bP:=i3 _ (AZ (show 2*x<T.length by omega));have bw:=i3 _ (AZ (show 2*x+1<T.length by omega));rw[fL,a2,aY];omega
theorem ame(ag Y:ae)(y:Nat):jV ag (Y++[y])=(jV ag Y).set y (Y.count y+1):=by
 apply ext_getElem
 .simp[jV]
 .intro i h1 af;rw[getElem_set];simp only[jV,getElem_map,getElem_range,count_append,count_singleton];by_cases e:y=i
  .subst e;simp
  .have:(y==i)=false:=by rw[beq_eq_false_iff_ne];exact e
   rw[az e,this];simp
theorem amd(ag:ae):jV ag []=List.replicate ag.length 0:=by
 unfold jV;simp only[count_nil];rw[map_const',length_range]
end am
open Go.RowKit
def kX(w:ah)(T:List bu):Prop:=∀t∈T,∃post,Row w t.2.1.1 3 (aM t.2.2++post)
theorem kX.below{w w':ah}{T:List bu}(h:kX w T)(ak:av w w'):kX w' T:=λt aE=>by
 obtain⟨post,aj⟩:=h t aE;exact⟨post,iA aj ak⟩
theorem kX.grown{w w':ah}{T:List bu}{row:Option Nat}(h:kX w T)(aF:w.grownBy w' row)(aj:∀b,row=some b->∃ag,Row w b 231 ag):kX w' T:=λt aE=>by
 obtain⟨post,hrow⟩:=h t aE;refine⟨post,hrow.keep (aF.block _ hrow.lt (λe=>?_))⟩;obtain⟨ag,hc⟩:=aj _ e.symm;unfold Row at hrow hc;rw[hc]at hrow;injection hrow with hrow
 injection hrow with _ e2
 exact absurd e2 (by decide)
theorem Oa{w:ah}{base n:Nat}{v:Value}{T:List bu}(h:w.ownsRow base 231 2 v n (cp T))(aA:0<n):T.length=n/\∃g cap post,v=.slice (some ⟨g,0,none⟩) n cap/\base<=g/\n<=cap/\cap<=maxLen/\cF w g T post:=by
 have hl:T.length=n:=by have:=h.1;rw[NY]at this;omega
 rcases h.2 with⟨_,ao⟩|⟨g,cap,eW,rfl,ak,aF,qf,gX,hcs,aE⟩
 .omega
 .refine⟨hl,g,cap,eW.toList.drop (n*2),rfl,ak,qf,gX,?_⟩;unfold cF Row;rw[<-aE,gq,Array.toArray_toList];exact aF
theorem SH{a b c:ah}{row:Option Nat}(h:a.grownBy b row)(k:b.grownBy c row):a.grownBy c row:=
 ⟨k.os.trans h.os,k.tape.trans h.tape,k.output.trans h.output,dl h.size k.size,λi ay aA=>(k.block i (gJ ay h.size) aA).trans (h.block i ay aA)⟩
def zM(ag:ae)(k:Nat)(T:List bu):Prop:=T.map (λt=>(t.1,t.2.2))=(kx ag k).map λu=>(u.1,[u.2])
theorem aq4{ag:ae}{T S:List bu}(h:zM ag ag.length T)(ap:cv S)(aS:cw T S):rJ ag S/\(S.map (·.1)).Perm (fu ag)/\S.length=(fA ag).length:=by
 have h1:T.map (·.1)=(fA ag).map (·.1):=by
  have:=congrArg (List.map (λp:Nat×ae=>p.1)) h;rw[List.map_map,List.map_map]at this;exact this
 have af:dA T=(fA ag).map (·.2):=by
  have:=congrArg (flatMap (λp:Nat×ae=>p.2)) h;rw[flatMap_map,flatMap_map]at this;unfold dA fA;rw[this];generalize kx ag ag.length=L;induction L with
 |nil=>rfl
 |cons a L ih=>rw[flatMap_cons,ih,map_cons];rfl
 have iv:=ZG aS.1;refine⟨⟨ap,λt aE=>?_,?_,λi ay ao=>?_⟩,?_,?_⟩
 .have cq:=aS.1.mem_iff.2 aE;have hm:(t.1,t.2.2)∈(kx ag ag.length).map (λu=>(u.1,[u.2])):=by
   rw[<-h];exact List.mem_map.2 ⟨t,cq,rfl⟩
  obtain⟨u,hu,e⟩:=List.mem_map.1 hm;obtain⟨u1,u2,u3⟩:=(pG ag ag.length u).1 hu;injection e with aG e2
  exact⟨u.2,e2.symm,by rw[<-aG,u2],by unfold bX;omega,u1⟩
 .refine(iv.nodup_iff).1 ?_;rw[af];exact Ha ag _
 .refine iv.mem_iff.1 ?_;rw[af];exact List.mem_map.2 ⟨(bX ag i,i),(pG ag _ _).2 ⟨ay,rfl,ao⟩,rfl⟩
 .refine(aS.1.symm.map _).trans ?_;rw[h1,wX]
 .rw[<-aS.1.length_eq,<-cQ (f:=(·.1)),h1,cQ]
theorem as5(A:a7)(c:Nat)(ag:ae)(w:ah)(hl:ag.length<=256)(hm:∀x∈ag,x<=1048576)(hex:∃x∈ag,0<x)(aj:Reads w A (aM ag)) :
  Calls prog 172 #[.slice A ag.length c] w λe w'=>∃g cap post S,e=.returned (.slice (some ⟨g,0,none⟩) S.length cap)/\S.length<=cap/\cap<=maxLen/\cF w' g S post/\kX w' S/\rJ ag S/\(S.map (·.1)).Perm (fu ag)/\S.length=(fA ag).length/\av w w':=by
 obtain⟨i0,ay,bC,bL,bz⟩:=info_parts GM;have bj:=I aj;have cj:=I hm;have aci:=I hex;clear aj hm hex;go_enter func172,ntmps172
 go_wp2;go_loopw [3,8] (λvz bV wr=>∃k:Nat,k<=ag.length/\bV=.int .i64 k/\Hid (∃T,T.length<=k/\zM ag k T/\wr.ownsRow w.heap.size 231 2 vz T.length (cp T)/\kX wr T)/\Hid (av w wr)) (λ_ bV _=>ag.length-(intOf bV).toNat)
 case atStart=>exact⟨0,by omega,rfl,I ⟨[],by simp,by simp[zM,kx],World.ownsRow_nil _ _ _ _,λt aE=>by simp at aE⟩,I dM⟩
 case round=>
  obtain⟨k,hk,rfl,aS,hbel⟩:=hrel;by_cases a8:k<ag.length
  .obtain⟨g,off,rfl,hc⟩:=kL (c7 bj.out hbel.out) (by omega);have c0:=hc k a8;have xv:=I (AX ag k);rw[bI a8,b7]at xv;have ai:=cj.out ag[k] (b8 a8);clear hc;generalize ag[k]=x at *;by_cases ao:0<x
   .rw[aB ao]at xv;obtain⟨T,Ah,cq,hown,iX⟩:=aS.out;obtain⟨n,aA⟩:∃n,n=T.length:=⟨_,rfl⟩;rw[<-aA]at hown Ah;have b0:=I aA;have nL:=I cq;have vU:=I iX;have iR:=I hown;have dT:=hbel.out.size;clear aS cq hown iX aA;go_wp2_with (at_builtin;refine wpList_append_own _ rfl _ _ 226 rfl w.heap.size 231 i0 (.agg #[.int .i64 0,.slice none 0 0]) 2 32 underlying226 ay bC bL bz rfl (by decide) _ _ _ rfl ((iR.out.alloc _).alloc _) ⟨wr.heap.size+1,0,none⟩ 1 1 [.int .i64 x,.slice (some ⟨wr.heap.size,0,none⟩) 1 1] rfl rfl ?d1 ?d2 ?d3 ?d4 ?d5 ?_)
    case d1=>
     intro j u ar;match j,ar with
    |0,ar=>simp at ar;subst ar;simp[Addr.add]
    |1,ar=>simp at ar;subst ar;simp[Addr.add]
    case d2=>
     intro u hu;simp at hu;rcases hu with rfl|rfl<;>rfl
    case d3=>unfold maxLen;omega
    case d4=>omega
    case d5=>simp;omega
    intro gN dk de di _;have aJ:Below wr.heap.size wr ((wr.alloc (.cells #[.int .i64 k] 3)).alloc (.cells #[.int .i64 x,.slice (some ⟨wr.heap.size,0,none⟩) 1 1] 231)):=(dM.alloc bl _).alloc (by simp) _;have hnew:=(Row.new wr 3 [.int .i64 k]).alloc (.cells #[.int .i64 x,.slice (some ⟨wr.heap.size,0,none⟩) 1 1] 231);have hfin:∃dv,dv.length<=k+1/\zM ag (k+1) dv/\dk.ownsRow w.heap.size 231 2 gN dv.length (cp dv)/\kX dk dv:=by
     have hkind:∀b,u3.ownBlock=some b->∃ag,Row ((wr.alloc (.cells #[.int .i64 k] 3)).alloc (.cells #[.int .i64 x,.slice (some ⟨wr.heap.size,0,none⟩) 1 1] 231)) b 231 ag:=λb ak=>by
      rcases iR.out.2 with⟨rfl,_⟩|⟨eT,cap',eW,rfl,_,ajL,_⟩
      .cases ak
      .simp only[Value.ownBlock,Option.some.injEq]at ak;subst ak;have mV:Row wr eT 231 eW.toList:=by unfold Row;rw[Array.toArray_toList];exact ajL
       exact⟨_,(mV.alloc _).alloc _⟩
     refine⟨T++[(x,(wr.heap.size,1),[k])],by rw[aY,<-b0.out];simp;omega,?_,?_,λt aE=>?_⟩
     .have af:=nL.out;unfold zM at af ⊢;rw[xv.out,map_append,map_append,af];rfl
     .rw[aY,<-b0.out,NW];exact de
     .rcases List.mem_append.1 aE with aE|aE
      .exact(((vU.out.below aJ)).grown di hkind) t aE
      .simp only[mem_singleton]at aE;subst aE;refine⟨[],hnew.keep (di.block _ hnew.lt (λe=>?_))⟩;have:=(iR.out.lt _ e.symm).2;omega
    have fe:=I hfin;have ic:=I ((hbel.out.trans (aJ.mono dT)).grown di (dl dT aJ.size) (λq hq=>(iR.out.lt q hq).1));clear hfin aJ hnew de di hbel c0;go_wp2;go_roundw
    case rel=>exact⟨k+1,by omega,by go_num,fe,ic⟩
    case measure=>simp[intOf];omega
   .rw[az ao,append_nil]at xv;go_wp2;go_roundw
    case rel=>exact⟨k+1,by omega,by go_num,I (by
     obtain⟨T,h1,af,aq,aK⟩:=aS.out;exact⟨T,by omega,by unfold zM at af ⊢;rw[xv.out];exact af,aq,aK⟩),hbel⟩
    case measure=>simp[intOf];omega
  .obtain rfl:k=ag.length:=by omega
   obtain⟨T,Ah,cq,hown,iX⟩:=aS.out;have Ti:T.length=(fA ag).length:=by
    have:=congrArg List.length cq;rw[cQ,cQ]at this;exact this
   have h1:=Nt ag aci.out;obtain⟨_,g,cap,post,aD,Al,qf,gX,Mm⟩:=Oa hown (by omega);subst aD;have wG:Light T:=λt aE=>by
    have hm:(t.1,t.2.2)∈(kx ag ag.length).map (λu=>(u.1,[u.2])):=by
     rw[<-cq];exact List.mem_map.2 ⟨t,aE,rfl⟩
    obtain⟨u,hu,e⟩:=List.mem_map.1 hm;obtain⟨u1,u2,u3⟩:=(pG ag ag.length u).1 hu;injection e with aG _
    rw[<-aG,u2,bI u1,b7];have:=cj.out _ (b8 u1);omega
   have vN:=I (Z3 g cap T post wr (by omega) wG Mm);have dr:=I Mm;have vU:=I iX;have nL:=I cq;have aua:=I Ti;clear aS hown iX cq Mm wG Ti;go_wp2_with fail
   refine vN.out.mono ?_;rintro e aC ⟨rfl,S,bh,bN,en,gn⟩;obtain⟨gh,z2,z3⟩:=aq4 nL.out bN en;have fQ:=en.1.length_eq;have VL:kX aC S:=λt aE=>(vU.out.grown gn (λb ak=>by injection ak with ak;subst ak;exact⟨_,dr⟩)) t (en.1.mem_iff.2 aE)
   have hfin:S.length<=cap/\cap<=maxLen/\cF aC g S post/\kX aC S/\rJ ag S/\(S.map (·.1)).Perm (fu ag)/\S.length=(fA ag).length/\av w aC:=
    ⟨by omega,gX,bh,VL,gh,z2,z3,below_grown (SH (dj hbel.out (some g)) gn) Al bl⟩
   have br:=I hfin;rw[fQ];clear hfin bh bN en gn VL gh z2 z3 fQ;go_wp2;go_ret;exact⟨g,cap,post,S,rfl,br⟩
def QT:Prop:=∀(W:ah) (g cap:Nat) (T:List bu) (post:b1),2<=T.length->T.length<=1000->T.length<=cap->cap<=maxLen->(∀t∈T,t.1<=1100000000/\1<=t.2.2.length/\t.2.2.length<=2000)->cF W g T post->kX W T ->
 Calls prog 175 #[.slice (some ⟨g,0,none⟩) T.length cap] W λe w'=>∃v P,e=.returned v/\v6 T P/\w'.ownsRow W.heap.size 231 2 v P.length (cp P)/\kX w' P/\av W w'
structure JQ(w wr:ah)(g cap:Nat)(S T:List bu)(t:Nat):Prop where
 DT:s5 S t T
 fits:T.length<=cap
 most:cap<=maxLen
 row:∃post,cF wr g T post
 cM:kX wr T
theorem RF{w:ah}{g:Nat}{L:List bu}{post:b1}(h:cF w g L post):∀W,av w W->∀j u,(cp L)[j]?=some u->W.cell? ((⟨g,0,none⟩:Addr).add j)=some u:=λW bk j u hu=>by
 have h1:=h.below bk;have e:((⟨g,0,none⟩:Addr).add j)=⟨g,j,none⟩:=by
  unfold Addr.add;split<;>simp_all
 have ar:j<(cp L).length:=(List.getElem?_eq_some_iff.1 hu).1;rw[e,Row.cell h1,hO ar];exact hu
theorem asy(cJ:QT)(A:a7)(c:Nat)(ag:ae)(w:ah)(hl:ag.length<=256)(hm:∀x∈ag,x<=1048576)(hex:∃x∈ag,0<x)(af:2<=(fA ag).length)(aj:Reads w A (aM ag)) :
  Calls prog 139 #[.slice A ag.length c] w λe w'=>∃v,e=.returned v/\vZ w w' ag v:=by
 obtain⟨i0,ay,bC,bL,bz⟩:=info_parts oa;have Jx:=I (as5 A c ag w hl hm hex aj);have yw:(fA ag).length<=256:=dl (AW ag ag.length) hl;have cj:=I hm;have sO:=I cJ;clear aj hm hex cJ;go_enter func139,ntmps139
 go_wp2_with fail
 refine Jx.out.mono ?_;rintro e aw ⟨Ab,zV,postS,S,rfl,S7,aiT,Ln,Lp,S6,Tc,S9,aH⟩;obtain⟨n,aA⟩:∃n,n=S.length:=⟨_,rfl⟩;have k7:2<=n:=by omega
 have awp:n<=256:=by omega
 have b0:=I aA;have aN:=I aH;have Bt:=I S6;have aa3:=I Ln;have aa4:=I Lp;have aa1:=I Tc;have aa0:=I S9;have aS:JQ w aw Ab zV S S 0:=⟨.zero,S7,aiT,⟨postS,Ln⟩,Lp⟩;have cN:=I aS;rw[<-aA]at S7 ⊢;clear aS S6 Ln Lp Tc S9 aH aA;go_wp2;go_loopw [4,13] (λvj bV wr=>∃(t g cap m:Nat) (T:List bu),bV=.int .i64 t/\t<=10/\vj=.slice (some ⟨g,0,none⟩) m cap/\m=T.length/\Hid (JQ w wr g cap S T t)/\Hid (av aw wr)) (λ_ bV _=>10-(intOf bV).toNat)
 case atStart=>exact⟨0,Ab,zV,n,S,rfl,by omega,rfl,b0.out,cN,I dM⟩
 case round=>
  obtain⟨t,g,cap,m,T,rfl,aE,rfl,Ay,pw,ak⟩:=hrel;obtain⟨gh,z2,z3⟩:=amh Bt.out cj.out pw.out.DT;have Mh:2^t<=1024:=by
   have:2^t<=2^10:=dy (by omega) aE;have aq:(2:Nat)^10=1024:=by decide
   omega
  rw[<-Ay,<-b0.out]at gh z2;have zr:=I Ay;clear Ay;by_cases e1:t<10
  .have sc:Calls prog 175 #[.slice (some ⟨g,0,none⟩) m cap] wr λe w'=>∃v P,e=.returned v/\Hid (v6 T P/\w'.ownsRow wr.heap.size 231 2 v P.length (cp P)/\kX w' P/\av wr w'):=by
    have Ay:=zr.out;obtain⟨post,hrow⟩:=pw.out.row;have h:=sO.out wr g cap T post (by omega) (by omega) pw.out.fits pw.out.most (λu hu=>by
     have aq:=z3 u hu;have aK:=((GY Bt.out pw.out.DT).2 u hu).2.1;have:2^t*1048576<=1024*1048576:=mul_le_mul_right _ Mh;omega) hrow pw.out.cM
    rw[<-Ay]at h;exact h.mono λe w' ⟨v,P,h1,af,aq,aK,aT⟩=>⟨v,P,h1,I ⟨af,aq,aK,aT⟩⟩
   have oA:=I sc;clear sc;go_wp2_with fail
   refine oA.out.mono ?_;rintro e aC ⟨v,P,rfl,ax⟩;obtain⟨Do,hown,VS,aJ⟩:=ax.out;have x3:=Do.len;rw[<-zr.out]at x3;obtain⟨_,uG,uw,axl,aD,avV,aiL,avl,S1⟩:=Oa hown (by omega);subst aD;have Jm:=I Do;have aaQ:=I VS;have aaP:=I S1;have bm:=b3 ak aJ;obtain⟨pl,cn⟩:∃pl,pl=P.length:=⟨_,rfl⟩;rw[<-cn]at x3 aiL ⊢;have ng:=I cn;have lu:1<=pl:=by omega
   have qg:pl<=1000:=by omega
   have S2:∀u∈P,u.1<=4000000000:=λu hu=>by
    obtain⟨x,ai,rfl⟩:=List.mem_iff_getElem.1 hu;have fL:=Do.wt x ai;have ew:=Do.len;have Ay:=zr.out;unfold am.wt at fL;rw[bI ai,b7]at fL;have bP:=z3 _ (AZ (show 2*x<T.length by omega));have bw:=z3 _ (AZ (show 2*x+1<T.length by omega));have:2^t*1048576<=1024*1048576:=mul_le_mul_right _ Mh;omega
   have aaR:=I S2;have at9:=I x3;have awT:=ak.out.size;clear ax hown VS S1 aJ Do cn S2 ak x3;have hcon:∀o,o=Obj.cells #[.slice (some ⟨Ab,0,none⟩) n zV,.slice (some ⟨uG,0,none⟩) pl uw] 226->Calls prog 174 #[.slice (some ⟨aC.heap.size,0,none⟩) 2 2] (aC.alloc o) λe w'=>∃g2 cap2,e=.returned (.slice (some ⟨g2,0,none⟩) (n+pl) cap2)/\Hid (aw.heap.size<=g2/\n+pl<=cap2/\cap2<=maxLen/\(∃post,cF w' g2 (S++P) post)/\kX w' (S++P)/\av aw w'):=by
    rintro o rfl;have dw:=(Below.refl aC.heap.size aC).alloc bl (.cells #[.slice (some ⟨Ab,0,none⟩) n zV,.slice (some ⟨uG,0,none⟩) pl uw] 226);have kI:=bm.out.trans (dw.mono bm.out.size);have h:=asB aC.heap.size Ab n zV uG pl uw S P _ (by omega) b0.out.symm ng.out.symm (by omega) (by omega) (Row.new aC 226 [.slice (some ⟨Ab,0,none⟩) n zV,.slice (some ⟨uG,0,none⟩) pl uw]) (RF (aa3.out.below kI)) (RF (aaP.out.below dw));refine h.mono ?_;rintro e w' ⟨v,he,hown,ak⟩;obtain⟨hlen,g2,cap2,D7,aD,bp,c8,gZ,hrow2⟩:=Oa hown (by omega);refine⟨g2,cap2,by rw[he,aD],I ⟨dl kI.size bp,c8,gZ,⟨D7,hrow2⟩,λt aE=>?_,kI.trans (ak.mono kI.size)⟩⟩;rcases List.mem_append.1 aE with aE|aE
    .exact(aa4.out.below (kI.trans (ak.mono kI.size))) t aE
    .exact((aaQ.out.below dw).below ak) t aE
   have BE:=I (hcon _ rfl);clear hcon;go_wp2_with fail
   refine BE.out.mono ?_;rintro e bH ⟨g2,cap2,rfl,hh⟩;obtain⟨bp,c8,gZ,⟨D7,hrow2⟩,hsy2,bc⟩:=hh.out;have Ta:∀u∈S,u.1<=4000000000:=λu hu=>by
    obtain⟨i,aG,e2,_,e4⟩:=Bt.out.one u hu;rw[e2];unfold bX;rw[bI e4,b7];have:=cj.out _ (b8 e4);omega
   have Lm:(S++P).length=n+pl:=by rw[aY,<-b0.out,<-ng.out]
   have yq:=Z3 g2 cap2 (S++P) D7 bH (by omega) (λu hu=>by
    rcases List.mem_append.1 hu with hu|hu
    .exact Ta u hu
    .exact aaR.out u hu) hrow2
   rw[Lm]at yq;have vN:=I yq;have hi:=I hrow2;have JB:=I hsy2;have dt:=I bc;have aaZ:=I Lm;clear hh hrow2 hsy2 bc Ta yq Lm;go_wp2_with fail
   refine vN.out.mono ?_;rintro e dp ⟨rfl,dv,bh,bN,en,gn⟩;have Te:n+pl=dv.length:=by rw[<-en.1.length_eq,aaZ.out]
   have UE:JQ w dp g2 cap2 S dv (t+1):=⟨.succ pw.out.DT Jm.out en bN,by omega,gZ,⟨D7,bh⟩,λu hu=>(JB.out.grown gn (λb ak=>by injection ak with ak;subst ak;exact⟨_,hi⟩)) u (en.1.mem_iff.2 hu)⟩;have acQ:=I UE;have dX:Hid (av aw dp):=I (below_grown (SH (dj dt.out (some g2)) gn) bp bl);have aa5:=I Te;clear bh bN en gn UE Te pw;go_wp2;go_roundw
   case rel=>exact⟨t+1,g2,cap2,n+pl,dv,by go_num,by omega,rfl,aa5.out,acQ,dX⟩
   case measure=>simp[intOf];omega
  .obtain rfl:t=10:=by omega
   obtain⟨bP,bw⟩:=afR Bt.out hl (by rw[<-b0.out];exact k7) (by rw[aa0.out,<-wX,cQ]) aa1.out pw.out.DT;rw[<-b0.out]at bP bw;have P8:=I bw;obtain⟨K,hK⟩:∃K,K=2*n-2:=⟨_,rfl⟩;have ave:K<=m:=by rw[zr.out,hK];exact bP
   have avd:2*(n:Int)-2=K:=by omega
   have gX:=pw.out.fits;rw[<-zr.out]at gX;have avc:K<=cap:=by omega
   have cV:=(GY Bt.out pw.out.DT).2;have hz:=pw.out.most;unfold maxLen at hz;rw[<-hK]at P8;have kh:=I cV;have I5:=I pw.out;have avb:K<=512:=by omega
   have fS:=I z3;have rv:Hid (av w wr):=I (aN.out.trans (ak.out.mono aN.out.size));obtain⟨wt,Wj⟩:∃wt:ah,wt=wr:=⟨_,rfl⟩;subst Wj;clear bP bw cV pw ak gh z2 z3 hK;go_wp2_with (at_make;refine wpList_make_full _ rfl _ _ 112 rfl wt.heap.size 3 i0 (.int .i64 0) 1 underlying112 ay bC bL .i64 .i64 _ _ ag.length rfl rfl ?c1 ?c1 ?c2 ?c3 ?c4 ?_)
   case c1=>omega
   case c2=>first|omega|(rw[bz];omega)
   case c3=>unfold maxLen;omega
   try case c4=>exact Nat.le_refl _
   intro dk de yf;obtain⟨g0,hJ⟩:∃g0,g0=wt.heap.size:=⟨_,rfl⟩;have g9:=tK de;rw[<-amd,<-hJ]at g9;have fJ:=I hJ;have pY:Hid (Row dk g0 3 (aM (jV ag (dA (T.take 0))))):=I (by simpa [dA]using g9);have ic:=I (kZ yf);have ME:∀L:List bu,(∀u∈L,u∈T)->(dA L).length<=1024*L.length:=λL=>by
    induction L with
   |nil=>intro _;simp[dA]
   |cons u L ih=>
     intro bR;have aq:=ih (λv aD=>bR v (eo _ aD));have aK:=(fS.out u (bR u dU)).1;have e2:dA (u::L)=u.2.2++dA L:=by simp[dA]
     have aT:(2:Nat)^10=1024:=by decide
     rw[e2,aY,bY];omega
   have QG:=I ME;rw[<-hJ];clear de yf g9 hJ ME Mh;go_wp2;go_loopw [32] (λiy wr=>∃(k:Nat),iy=.int .i64 k/\k<=K/\Hid (Row wr g0 3 (aM (jV ag (dA (T.take k)))))/\Hid (av wt wr)) (λiy _=>K-(intOf iy).toNat)
   case atStart=>exact⟨0,rfl,by omega,pY,ic⟩
   case round=>
    obtain⟨k,rfl,hk,hrow,ak⟩:=hrel;by_cases av6:k<K
    .obtain⟨axm,Tj⟩:=I5.out.row;have Gw:k<T.length:=by have:=zr.out;omega
     obtain⟨u,hu⟩:∃u,u=T[k]:=⟨_,rfl⟩;have yM:u∈T:=by rw[hu];exact b8 Gw
     have Tg:T[k]?=some u:=by rw[hu];exact bI Gw
     obtain⟨c0,c1⟩:=A8 (Tj.below ak) Tg;have iv:=(I5.out.cM.below ak) u yM;obtain⟨axn,Tm⟩:=I5.out.cM u yM;have nM:=I Tm;have hnext:dA (T.take (k+1))=dA (T.take k)++u.2.2:=by
      rw[fY Gw,y6,<-hu];simp[dA]
     have vO:=I hnext;have V1:=λy (hy:y∈u.2.2)=>((kh.out u yM).2.2 y hy).2
     have QL:=I V1;have V2:u.2.2.length<=1048576*1024:=by
      have aq:=QG.out [u] (λv aD=>by simp only[mem_singleton]at aD;subst aD;exact yM);simp[dA]at aq;omega
     have Tv:=QG.out (T.take k) (λv aD=>mem_of_mem_take aD);rw[cr]at Tv;have abg:Hid ((dA (T.take k)).length<=1024*1024):=I (by omega);simp only[pI]at c1;obtain⟨us,tw⟩:∃us,us=u.2.2:=⟨_,rfl⟩;obtain⟨Ey,MJ⟩:∃Ey,Ey=u.2.1.1:=⟨_,rfl⟩;obtain⟨HT,V0⟩:∃HT,HT=u.2.1.2:=⟨_,rfl⟩;rw[<-tw,<-MJ,<-V0]at c1;rw[<-tw,<-MJ]at nM;rw[<-tw]at vO QL V2;have tr:(k:Int)<K:=by omega
     have akU:=ak.out.size;clear Tj hu yM Tg iv Tm hnext V1 Tv tw MJ V0 Gw;generalize u.1=Z6 at c0;go_wp2;rename ah=>eQ
     have cN:Hid (Row (eQ.alloc (.cells #[.int .i64 Z6,.slice (some ⟨Ey,0,none⟩) us.length HT] 231)) g0 3 (aM (jV ag (dA (T.take k)++us.take 0)))):=I (by simpa using hrow.out.alloc _);have zh:Hid (Below wt.heap.size wt (eQ.alloc (.cells #[.int .i64 Z6,.slice (some ⟨Ey,0,none⟩) us.length HT] 231))):=I (ak.out.alloc akU _);clear hrow ak c0 c1;go_loopw [39] (λhB wr=>∃(j:Nat),hB=.int .i64 j/\j<=us.length/\Hid (Row wr g0 3 (aM (jV ag (dA (T.take k)++us.take j))))/\Hid (av wt wr)) (λhB _=>us.length-(intOf hB).toNat)
     case atStart=>exact⟨0,rfl,by omega,cN,zh⟩
     case round=>
      obtain⟨j,rfl,ar,hrow,ak⟩:=hrel;by_cases fk:j<us.length
      .have Tl:=iA nM.out ak.out;have c0:wr.cell? ⟨Ey,j,none⟩=some (.int .i64 (us[j]:Int)):=by
        rw[Tl.cell,hO (by rw[gm];exact fk),iN us j fk]
       have hy:=QL.out us[j] (b8 fk);obtain⟨y,MV⟩:∃y,y=us[j]:=⟨_,rfl⟩;rw[<-MV]at c0 hy;obtain⟨Y,Gf⟩:∃Y,Y=dA (T.take k)++us.take j:=⟨_,rfl⟩;have hstep:=ame ag Y y;have Tt:dA (T.take k)++us.take (j+1)=Y++[y]:=by rw[fY fk,<-df,<-Gf,<-MV]
       have avI:Y.count y<=1048576*2048:=by
        have aq:=count_le_length (a:=y) (l:=Y);have aK:Y.length=(dA (T.take k)).length+min j us.length:=by rw[Gf,aY,cr]
        have:=abg.out;omega
       rw[<-Gf]at hrow;have iq:(jV ag Y).length=ag.length:=by simp[jV]
       have c1:wr.cell? ⟨g0,y,none⟩=some (.int .i64 ((Y.count y:Nat):Int)):=by
        rw[hrow.out.cell,iN _ y (by omega)];simp[jV]
       have f1:wr.frozen? ⟨g0,y,none⟩=false:=hrow.out.free y;have hrow2:Row (wr.setCell ⟨g0,y,none⟩ (.int .i64 ((Y.count y:Int)+1))) g0 3 (aM (jV ag (dA (T.take k)++us.take (j+1)))):=by
        rw[Tt,hstep];have h1:=hrow.out.bq y (.int .i64 ((Y.count y:Int)+1));rw[show aM ((jV ag Y).set y (Y.count y+1))=(aM (jV ag Y)).set y (.int .i64 ((Y.count y:Int)+1)) by simp[aM,map_set]];exact h1
       have hi:=I hrow2;have bm:=I (ak.out.setCell (p:=⟨g0,y,none⟩) (by rw[fJ.out];exact Nat.le_refl _) (.int .i64 ((Y.count y:Int)+1)));clear Tl MV Gf hstep Tt iq hrow2 hrow ak;generalize Y.count y=wk at *;go_wp2;go_roundw
       case rel=>exact⟨j+1,by go_num,by omega,hi,bm⟩
       case measure=>simp[intOf];omega
      .obtain rfl:j=us.length:=by omega
       have hi:Hid (Row wr g0 3 (aM (jV ag (dA (T.take (k+1)))))):=I (by
        rw[vO.out];have h1:=hrow.out;rw[take_length]at h1;exact h1)
       clear hrow;go_wp2;go_roundw
       case rel=>exact⟨k+1,by go_num,by omega,hi,ak⟩
       case measure=>simp[intOf];omega
    .obtain rfl:k=K:=by omega
     have hfin:vZ w wr ag (.slice (some ⟨g0,0,none⟩) ag.length ag.length):=⟨_,_,_,rfl,Nat.le_refl _,λ_=>⟨g0,0,rfl,λj _=>by rw[ez];exact hrow.out.cell j⟩,P8,rv.out.trans (ak.out.mono rv.out.size)⟩;have br:=I hfin;clear hfin hrow ak;go_wp2;go_ret;exact⟨_,rfl,br⟩
end Go.Proofs.YtgiicohbigiapaaGreat
