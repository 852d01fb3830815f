/- Contracts. -/
import Derived.Test.YtgiicohbigiapaaGreatQao
import Derived.Test.YtgiicohbigiapaaGreatQam
import Derived.Test.YtgiicohbigiapaaGreatQz1
import Derived.Test.YtgiicohbigiapaaGreatQz0
set_option maxHeartbeats 4000000
set_option maxRecDepth 100000
open Go.Proofs.Tryz Go.Proofs.YtgiicohbigiapaaGreat.ao List Nat Option
namespace Go.Proofs.YtgiicohbigiapaaGreat
namespace ao
def qE(T:List bn)(k i:Nat):Nat:=(dF (T.take k)).count i
theorem Ia{L:List bn}{i:Nat}:i∈dF L↔∃t∈L,i∈t.2.2:=by simp[dF,mem_flatMap]
theorem alW{ag:ae}{S T P dz:List bn}{t:Nat}(cu:sh ag S)(cp:tJ S t T)(aw:w7 T P)(ap:cy (S++P) dz)(aj:cw dz)(k:Nat)(hk:k<=dz.length) :
  ∃s q,s+q=k/\s<=S.length/\2*q<=T.length/\(∀i,qE dz k i=(dF (S.take s)).count i+qE T (2*q) i)/\(∀i,0<qE T (2*q) i->(dF (S.take s)).count i=1)/\hv (dz.take k)=hv (S.take s)+hv (T.take (2*q)):=by
 obtain⟨rE,Io⟩:=H3 cu cp;have ZE:=ZS aw Io;have h1:∀t∈S,single t=true:=λt aC=>(PF cu t aC).2
 have af:∀t∈P,single t=false:=λt aC=>by
  have:=(ZE t aC).2;unfold single;rw[beq_eq_false_iff_ne];omega
 obtain⟨m1,m2⟩:=merged cu.PK (anu aw rE) h1 af ap aj;obtain⟨s,q,e,jB,Ek,hperm,f1,f2⟩:=agL m1 m2 k hk;have hl:=aw.len;obtain⟨cj,cn⟩:=O3 aw q Ek;have ns:∀i,(dF (S.take s)).count i<=1:=λi=>by
  have aq:(dF (S.take s)).Nodup:=by
   have aJ:=cu.nodup;rw[<-gA s S,zY]at aJ;exact(List.nodup_append.1 aJ).1
  exact List.nodup_iff_count.1 aq i
 refine⟨s,q,e,jB,by omega,λi=>?_,λi ax=>?_,?_⟩
 .unfold qE;rw[(abA hperm).count_eq i,zY,count_append,cj]
 .have aq:0<(dF (S.take s)).count i:=by
   unfold qE at ax;rw[<-cj,count_pos_iff,Ia]at ax;obtain⟨u,hu,Wi⟩:=ax;have akn:u∈P:=mem_of_mem_take hu;obtain⟨⟨au,aB,a1⟩,bA⟩:=ZE u akn;obtain⟨c1,c2⟩:=a1 i Wi;have zE:u∈dz.take k:=(List.mem_filter.1 (by rw[f2];exact hu)).1;have MP:=cu.all i c2 c1;obtain⟨v,aE,MS⟩:=Ia.1 MP;obtain⟨j,HW,N8,Yz,YA⟩:=cu.one v aE;rw[HW,mem_singleton]at MS;subst MS;have av:v.1<u.1:=by
    rw[au,N8];obtain⟨A,B,sq⟩:=append_of_mem Wi;rw[sq,map_append,map_cons,sum_append_nat,sum_cons];rw[sq,aY,b1]at bA;have hpos:0<(A.map (bZ ag)).sum+(B.map (bZ ag)).sum:=by
     match A,B,sq,bA with
     | a :: A,_,sq,_=>
      have:=(a1 a (by rw[sq];simp)).1;rw[map_cons,sum_cons];omega
     | [],b :: B,sq,_=>
      have:=(a1 b (by rw[sq];simp)).1;rw[map_cons,sum_cons];omega
     | [],[],_,bA=>simp at bA
    omega
   have X0:v∈dz:=ap.1.mem_iff.1 (mem_append_left _ aE);have akq:v∈dz.take k:=by
    rw[<-gA k dz]at X0;rcases List.mem_append.1 X0 with aR | aR
    .exact aR
    .exfalso
     have cg:=aj;rw[<-gA k dz]at cg;have:=(List.pairwise_append.1 cg).2.2 u zE v aR;omega
   have ui:v∈S.take s:=by
    rw[<-f1];exact List.mem_filter.2 ⟨akq,h1 v aE⟩
   rw[count_pos_iff,Ia];exact⟨v,ui,by rw[HW];simp⟩
  have:=ns i;omega
 .rw[ati hperm,Qm,cn]
theorem aqK{ag:ae}{S:List bn}(h:sh ag S)(s:Nat):(dF (S.take s)).length=(S.take s).length/\∀y∈dF (S.take s),y<ag.length:=by
 have:∀L:List bn,(∀t∈L,t∈S)->(dF L).length=L.length/\∀y∈dF L,y<ag.length:=λL=>by
  induction L with
  | nil=>intro _;simp[dF]
  | cons t L ih=>
   intro bR;obtain⟨h1,af⟩:=ih (λu hu=>bR u (ew _ hu));obtain⟨i,aF,_,_,e4⟩:=h.one t (bR t ea);have e:dF (t :: L)=i :: dF L:=by simp[dF,aF]
   rw[e];refine⟨by simp[h1],λy hy=>?_⟩;rcases List.mem_cons.1 hy with rfl | hy
   .exact e4
   .exact af y hy
 exact this _ (λt aC=>mem_of_mem_take aC)
theorem TR{ag:ae}{S:List bn}(h:sh ag S)(s:Nat)(ap:s<=S.length):((List.range ag.length).map λi=>(dF (S.take s)).count i).sum=s:=by
 obtain⟨h1,af⟩:=aqK h s;have aq:=Lj (λ_=>1) ag.length (dF (S.take s)) af;simp only[Nat.one_mul]at aq;rw[aq,map_const',sum_replicate_nat,Nat.mul_one,h1,cq];omega
theorem alU{ag:ae}{S:List bn}(cu:sh ag S):∀{t:Nat} {T:List bn},tJ S t T->∀k,k<=T.length->(∀i,qE T k i<=t+1)/\((List.range ag.length).map λi=>2^(t+1)-2^(t+1-qE T k i)).sum=k*2^t:=by
 intro t T cp;induction cp with
 | zero=>
  intro k hk;have ns:∀i,qE S k i<=1:=λi=>by
   have aJ:=cu.nodup;rw[<-gA k S,zY]at aJ;exact List.nodup_iff_count.1 (List.nodup_append.1 aJ).1 i
  refine⟨λi=>by have:=ns i;omega,?_⟩;have h1:=TR cu k hk;rw[Nat.pow_zero,Nat.mul_one];refine Eq.trans ?_ h1;congr 1
  apply map_congr_left
  intro i _;have af:=ns i;unfold qE at af ⊢;generalize (dF (S.take k)).count i=c at *;obtain rfl | rfl:c=0\/c=1:=by omega
  .simp
  .simp
 | @succ t T P dz cp aw ap aj ih=>
  intro k hk;obtain⟨s,q,e,jB,Ek,b8,hpre,_⟩:=alW cu cp aw ap aj k hk;obtain⟨ED,EE⟩:=ih (2*q) Ek;have bL:∀i,(dF (S.take s)).count i<=1:=λi=>by
   have aJ:=cu.nodup;rw[<-gA s S,zY]at aJ;exact List.nodup_iff_count.1 (List.nodup_append.1 aJ).1 i
  refine⟨λi=>by have:=b8 i;have:=ED i;have:=bL i;omega,?_⟩;have h1:=TR cu s jB;have af:((List.range ag.length).map λi=>2^(t+1+1)-2^(t+1+1-qE dz k i)).sum=((List.range ag.length).map λi=>2^(t+1)*(dF (S.take s)).count i+(2^(t+1)-2^(t+1-qE T (2*q) i))).sum:=by
   congr 1
   apply map_congr_left
   intro i _;have ie:=b8 i;have a2:=hpre i;have a3:=bL i;have a4:=ED i;rw[ie];generalize (dF (S.take s)).count i=c at *;generalize qE T (2*q) i=o at *;have kC:2^(t+1+1)=2*2^(t+1):=by rw[ej,eQ]
   have hle:2^(t+1-o)<=2^(t+1):=dD (by omega) (by omega);obtain rfl | rfl:c=0\/c=1:=by omega
   .obtain rfl:o=0:=by
     rcases eq_zero_or_pos o with h | h
     .exact h
     .have:=a2 h;omega
    simp
   .rw[show t+1+1-(1+o)=t+1-o by omega,kC];omega
  rw[af,xY,EE];have aq:((List.range ag.length).map λi=>2^(t+1)*(dF (S.take s)).count i).sum=2^(t+1)*s:=by
   conv=>rhs;rw[<-h1]
   clear h1 af EE;generalize List.range ag.length=L;induction L with
   | nil=>simp
   | cons a L ih=>rw[map_cons,sum_cons,ih,map_cons,sum_cons,Nat.mul_add]
  rw[aq,<-e,Nat.add_mul,eQ s,ej,show 2*q*2^t=q*(2^t*2) by rw[eQ 2 q,Nat.mul_assoc,eQ 2]]
theorem alT{S:List bn}(w:Nat)(hw:w<=11)(h1:S.length<=2^w)(af:2^w<=2*S.length) :
  ∀{t:Nat} {T:List bn},tJ S t T->∀j,j<=w->t+j=11->2*S.length-2^j<=T.length/\hv (T.take (2*S.length-2^j))<=(w-j)*hv S+hv (S.take (2*S.length-2^w)):=by
 intro t T cp;induction cp with
 | zero=>
  intro j ar aC;obtain rfl:j=w:=by omega
  exact⟨by omega,by omega⟩
 | @succ t T P dz cp aw ap aj ih=>
  intro j ar aC;have hl:=ap.1.length_eq;rw[aY]at hl;have yX:=aw.len;by_cases ajD:j=w
  .subst ajD;have aq:=Zc ap.1 aj (2*S.length-2^j) 0 (by omega) (by omega);simp only[ga,take_zero]at aq;have aJ:hv ([]:List bn)=0:=rfl;rw[aJ]at aq;exact⟨by omega,by omega⟩
  .obtain⟨ED,EE⟩:=ih (j+1) (by omega) (by omega);have awa:2^(j+1)=2*2^j:=by rw[ej,eQ]
   have avH:2^(j+1)<=2^w:=dD (by omega) (by omega);have aq:=Zc ap.1 aj S.length (S.length-2^j) bh (by omega);rw[take_length,(O3 aw (S.length-2^j) (by omega)).2,show 2*(S.length-2^j)=2*S.length-2^(j+1) by omega,show S.length+(S.length-2^j)=2*S.length-2^j by omega]at aq;refine⟨by omega,?_⟩;have aR:(w-j)*hv S=(w-(j+1))*hv S+hv S:=by
    rw[show w-j=(w-(j+1))+1 by omega,succ_mul]
   omega
def j9(ag:ae)(Y:ae):ae:=(List.range ag.length).map λi=>Y.count i
theorem arA(f:Nat->Nat)(N a b:Nat)(aS:a<N)(ak:b<N)(nl:a≠b):f a+f b<=((List.range N).map f).sum:=by
 have e:((List.range N).map λi=>(if i=a then f a else 0)+(if i=b then f b else 0)).sum=f a+f b:=by
  rw[xY,zW,zW,aA aS,aA ak]
 rw[<-e];apply Fi
 intro i _;by_cases h1:i=a
 .subst h1;rw[aA rfl,ay nl];omega
 .rw[ay h1];by_cases af:i=b
  .subst af;rw[aA rfl];omega
  .rw[ay af];omega
theorem apx(l:ae)(m:Nat):(l.reverse.take m).sum+(l.take (l.length-m)).sum=l.sum:=by
 rw[take_reverse,sum_reverse_nat];conv=>rhs;rw[<-gA (l.length-m) l,sum_append_nat]
 omega
theorem afB{ag:ae}{S T:List bn}(cu:sh ag S)(tS:ag.length<=256)(af:2<=S.length)(hlen:S.length=(fz ag).length)(hperm:(S.map (·.1)).Perm (fz ag))(cp:tJ S 10 T) :
  2*S.length-2<=T.length/\uE ag (j9 ag (dF (T.take (2*S.length-2)))):=by
 have ld:S.length<=256:=by rw[hlen];exact du (Z5 ag) tS
 obtain⟨w,hw⟩:∃w,w=wid (S.length-1):=⟨_,rfl⟩;have hd:S.length<=2^w:=by have:=wu (S.length-1);rw[<-hw]at this;omega
 have vT:1<=w:=by rw[hw];exact tn _ (by omega)
 have nv:2^w<=2*S.length:=by
  have aq:=Cc (S.length-1) (by omega);rw[<-hw]at aq;have:2^w=2*2^(w-1):=by
   conv=>lhs;rw[show w=(w-1)+1 by omega,ej,eQ]
  omega
 have awy:w<=8:=by
  rw[hw];refine qN _ 8 ?_;have:(2:Nat)^8=256:=by decide
  omega
 obtain⟨LL,UA⟩:=alT w (by omega) hd nv cp 1 vT rfl;rw[Nat.pow_one]at LL UA;obtain⟨YH,Ob⟩:=alU cu cp (2*S.length-2) LL;obtain⟨_,Io⟩:=H3 cu cp;have OQ:∀y∈dF (T.take (2*S.length-2)),0<bZ ag y/\y<ag.length:=λy hy=>by
  obtain⟨u,hu,akJ⟩:=Ia.1 hy;exact(Io u (mem_of_mem_take hu)).2.2 y akJ
 have akt:hv (T.take (2*S.length-2))=((dF (T.take (2*S.length-2))).map (bZ ag)).sum:=by
  have:∀L:List bn,(∀u∈L,u∈T)->hv L=((dF L).map (bZ ag)).sum:=λL=>by
   induction L with
   | nil=>intro _;simp[hv,dF]
   | cons u L ih=>
    intro bR;have aq:=ih (λv aE=>bR v (ew _ aE));have aJ:=(Io u (bR u ea)).1;have aF:hv (u :: L)=u.1+hv L:=by simp[hv]
    have e2:dF (u :: L)=u.2.2++dF L:=by simp[dF]
    rw[aF,e2,map_append,sum_append_nat,<-aq,<-aJ]
  exact this _ (λu hu=>mem_of_mem_take hu)
 refine⟨LL,?_⟩;unfold qE at YH Ob;generalize dF (T.take (2*S.length-2))=Y at *;rw[akt]at UA;have Wl:(2:Nat)^(10+1)=2048:=by decide
 have hk10:(2:Nat)^10=1024:=by decide
 rw[Wl,hk10]at Ob;have zo:(fG ag).length=S.length:=by rw[hlen,<-xR,cQ]
 have cV:((List.range ag.length).map λi=>if 0<bZ ag i then 2048 else 0).sum=S.length*2048:=by
  have aq:=H7 ag (λ_=>2048) ag.length;rw[<-aq,map_const',sum_replicate_nat];rw[show(kG ag ag.length).length=S.length from zo]
 have aO:∀i,¬0<bZ ag i->Y.count i=0:=λi ax=>List.count_eq_zero.2 (λhm=>ax (OQ i hm).1)
 have cK:((List.range ag.length).map λi=>if 0<bZ ag i then 2^(11-Y.count i)else 0).sum=2048:=by
  have aq:((List.range ag.length).map λi=>(if 0<bZ ag i then 2^(11-Y.count i)else 0)+(2048-2^(10+1-Y.count i))).sum=((List.range ag.length).map λi=>if 0<bZ ag i then 2048 else 0).sum:=by
   congr 1
   apply map_congr_left
   intro i _;have hle:2^(10+1-Y.count i)<=2^(10+1):=dD (by omega) (by omega);by_cases ax:0<bZ ag i
   .rw[aA ax,aA ax];rw[show 11-Y.count i=10+1-Y.count i by omega];omega
   .rw[ay ax,ay ax,aO i ax,Nat.sub_zero,Wl]
  rw[xY,Ob,cV]at aq;omega
 have hpos:∀j,j<ag.length->0<bZ ag j->0<Y.count j:=λj ar hc=>by
  rcases eq_zero_or_pos (Y.count j)with am | am
  .exfalso
   have hex:∃u∈fG ag,u.2≠j:=by
    match bR:fG ag,zo with
    | a :: b :: L,_=>
     have ns:=Ig ag ag.length;have aF:kG ag ag.length=a :: b :: L:=bR;rw[aF]at ns;simp only[map_cons,nodup_cons,mem_cons,not_or]at ns;by_cases aS:a.2=j
     .exact⟨b,by simp,λak=>ns.1.1 (by rw[aS,ak])⟩
     .exact⟨a,by simp,aS⟩
    | [],hl=>simp at hl;omega
    | [a],hl=>simp at hl;omega
   obtain⟨u,hu,ako⟩:=hex;obtain⟨u1,u2,u3⟩:=(pV ag ag.length u).1 hu;have ri:0<bZ ag u.2:=by unfold bZ;omega
   have aq:=arA (λi=>if 0<bZ ag i then 2^(11-Y.count i)else 0) ag.length j u.2 ar u1 (λh=>ako h.symm);rw[cK]at aq;simp only[aA hc,aA ri,am,Nat.sub_zero]at aq;have aw:0<2^(11-Y.count u.2):=eW _;have dV:(2:Nat)^11=2048:=by decide
   omega
  .exact am
 have iE:(j9 ag Y).length=ag.length:=by simp[j9]
 have aD:∀i,i<ag.length->(j9 ag Y)[i]?.getD 0=Y.count i:=λi ax=>by simp[j9,ax]
 have HG:∀i,i<ag.length->(0<(j9 ag Y)[i]?.getD 0↔0<ag[i]?.getD 0):=λi ax=>by
  rw[aD i ax];refine⟨λh=>?_,λh=>hpos i ax h⟩;exact(OQ i (List.count_pos_iff.1 h)).1
 have dV:∀x∈j9 ag Y,x<=11:=λx ah=>by
  simp only[j9,mem_map]at ah;obtain⟨i,_,rfl⟩:=ah;exact YH i
 refine⟨iE,⟨by omega,dV,.inl ?_⟩,HG,du ?_ (Nat.le_max_left _ _)⟩
 .rw[HY,iE,<-cK];congr 1
  apply map_congr_left
  intro i ax;have ax:=List.mem_range.1 ax;rw[aD i ax];unfold fl;by_cases hc:0<bZ ag i
  .have:=hpos i ax hc;rw[ay (by omega),aA hc]
  .rw[aA (aO i hc),ay hc]
 .have bL:AX ag (j9 ag Y)=(Y.map (bZ ag)).sum:=by
   rw[<-Lj (bZ ag) ag.length Y (λy hy=>(OQ y hy).2)];unfold AX;congr 1
   apply map_congr_left
   intro i ax;rw[aD i (List.mem_range.1 ax)]
  have hsort:(S.map (·.1)).Pairwise (·<=·):=List.pairwise_map.2 cu.PK;have ajx:nx (fz ag)=S.map (·.1):=by rw[<-Yy hperm,Yx _ hsort]
  have dZ:hv S=(fz ag).sum:=hperm.sum_nat;have hrev:=apx (S.map (·.1)) (2^w-S.length);rw[cQ]at hrev;have Yc:hv (S.take (2*S.length-2^w))=((S.map (·.1)).take (S.length-(2^w-S.length))).sum:=by
   unfold hv;rw[map_take];congr 2
   omega
  have awz:(S.map (·.1)).sum=hv S:=rfl;unfold UB;rw[ay (by omega),ajx,<-hlen,<-hw,bL,<-dZ];have hmul:hv S*w=(w-1)*hv S+hv S:=by
   conv=>lhs;rw[show w=(w-1)+1 by omega,mul_succ,eQ]
  rw[hmul];omega
theorem alV{ag:ae}{S:List bn}(cu:sh ag S)(hm:∀x∈ag,x<=1048576):∀{t:Nat} {T:List bn},tJ S t T->S.length<=T.length/\T.length<=2*S.length/\∀u∈T,u.2.2.length<=2^t/\u.1<=2^t*1048576:=by
 have hone:∀u∈S,u.2.2.length<=1/\u.1<=1048576:=λu hu=>by
  obtain⟨i,aF,e2,_,e4⟩:=cu.one u hu;rw[aF,e2];refine⟨by simp,?_⟩;unfold bZ;rw[bH e4,b6];exact hm _ (b7 e4)
 intro t T cp;induction cp with
 | zero=>exact⟨Nat.le_refl _,by omega,λu hu=>by have:=hone u hu;simp;omega⟩
 | @succ t T P dz cp aw ap aj ih=>
  obtain⟨i1,i2,i3⟩:=ih;have hl:=ap.1.length_eq;rw[aY,aw.len]at hl;have aj0:2^(t+1)=2*2^t:=by rw[ej,eQ]
  have h1:1<=2^t:=Nat.one_le_two_pow;refine⟨by omega,by omega,λu hu=>?_⟩;rw[aj0];rcases List.mem_append.1 (ap.1.mem_iff.2 hu)with hu | hu
  .have:=hone u hu;omega
  .obtain⟨x,ah,rfl⟩:=List.mem_iff_getElem.1 hu;have eF:=aw.len;have ie:=aw.wt x ah;have a2:=aw.cM x ah;unfold wt at ie;rw[bH ah,b6]at ie a2;have bP:=i3 _ (BS (show 2*x<T.length by omega));have bq:=i3 _ (BS (show 2*x+1<T.length by omega));rw[ie,a2,aY];omega
theorem alS(ag Y:ae)(y:Nat):j9 ag (Y++[y])=(j9 ag Y).set y (Y.count y+1):=by
 apply ext_getElem
 .simp[j9]
 .intro i h1 af;rw[getElem_set];simp only[j9,getElem_map,getElem_range,count_append,count_singleton];by_cases e:y=i
  .subst e;simp
  .have:(y == i)=false:=by rw[beq_eq_false_iff_ne];exact e
   rw[ay e,this];simp
theorem alR(ag:ae):j9 ag []=List.replicate ag.length 0:=by
 unfold j9;simp only[count_nil];rw[map_const',length_range]
end ao
open Go.RowKit
def k6(w:ai)(T:List bn):Prop:=∀t∈T,∃post,Row w t.2.1.1 3 (aM t.2.2++post)
theorem k6.below{w w':ai}{T:List bn}(h:k6 w T)(ak:Below w.heap.size w w'):k6 w' T:=λt aC=>by
 obtain⟨post,aj⟩:=h t aC;exact⟨post,iL aj ak⟩
theorem k6.grown{w w':ai}{T:List bn}{row:Option Nat}(h:k6 w T)(aD:w.grownBy w' row)(aj:∀b,row=some b->∃ag,Row w b 231 ag):k6 w' T:=λt aC=>by
 obtain⟨post,hrow⟩:=h t aC;refine⟨post,hrow.keep (aD.block _ hrow.lt (λe=>?_))⟩;obtain⟨ag,hc⟩:=aj _ e.symm;unfold Row at hrow hc;rw[hc]at hrow;injection hrow with hrow
 injection hrow with _ e2
 exact absurd e2 (by decide)
theorem Pd{w:ai}{base n:Nat}{v:Value}{T:List bn}(h:w.ownsRow base 231 2 v n (cn T))(az:0<n):T.length=n/\∃g cap post,v=.slice (some ⟨g,0,none⟩) n cap/\base<=g/\n<=cap/\cap<=maxLen/\cF w g T post:=by
 have hl:T.length=n:=by have:=h.1;rw[O1]at this;omega
 rcases h.2 with⟨_,am⟩ | ⟨g,cap,fg,rfl,ak,aD,qv,hj,hcs,aC⟩
 .omega
 .refine⟨hl,g,cap,fg.toList.drop (n*2),rfl,ak,qv,hj,?_⟩;unfold cF Row;rw[<-aC,gA,Array.toArray_toList];exact aD
theorem UH{a b c:ai}{row:Option Nat}(h:a.grownBy b row)(k:b.grownBy c row):a.grownBy c row:=
 ⟨k.os.trans h.os,k.tape.trans h.tape,k.output.trans h.output,du h.size k.size,λi ax az=>(k.block i (gV ax h.size) az).trans (h.block i ax az)⟩
def AK(ag:ae)(k:Nat)(T:List bn):Prop:=T.map (λt=>(t.1,t.2.2))=(kG ag k).map λu=>(u.1,[u.2])
theorem aqJ{ag:ae}{T S:List bn}(h:AK ag ag.length T)(ap:cw S)(aQ:cy T S):sh ag S/\(S.map (·.1)).Perm (fz ag)/\S.length=(fG ag).length:=by
 have h1:T.map (·.1)=(fG ag).map (·.1):=by
  have:=congrArg (List.map (λp:Nat×ae=>p.1)) h;rw[List.map_map,List.map_map]at this;exact this
 have af:dF T=(fG ag).map (·.2):=by
  have:=congrArg (flatMap (λp:Nat×ae=>p.2)) h;rw[flatMap_map,flatMap_map]at this;unfold dF fG;rw[this];generalize kG ag ag.length=L;induction L with
  | nil=>rfl
  | cons a L ih=>rw[flatMap_cons,ih,map_cons];rfl
 have iG:=abA aQ.1;refine⟨⟨ap,λt aC=>?_,?_,λi ax am=>?_⟩,?_,?_⟩
 .have cp:=aQ.1.mem_iff.2 aC;have hm:(t.1,t.2.2)∈(kG ag ag.length).map (λu=>(u.1,[u.2])):=by
   rw[<-h];exact List.mem_map.2 ⟨t,cp,rfl⟩
  obtain⟨u,hu,e⟩:=List.mem_map.1 hm;obtain⟨u1,u2,u3⟩:=(pV ag ag.length u).1 hu;injection e with aF e2
  exact⟨u.2,e2.symm,by rw[<-aF,u2],by unfold bZ;omega,u1⟩
 .refine(iG.nodup_iff).1 ?_;rw[af];exact Ig ag _
 .refine iG.mem_iff.1 ?_;rw[af];exact List.mem_map.2 ⟨(bZ ag i,i),(pV ag _ _).2 ⟨ax,rfl,am⟩,rfl⟩
 .refine(aQ.1.symm.map _).trans ?_;rw[h1,xR]
 .rw[<-aQ.1.length_eq,<-cQ (f:=(·.1)),h1,cQ]
theorem asL(A:a7)(c:Nat)(ag:ae)(w:ai)(hl:ag.length<=256)(hm:∀x∈ag,x<=1048576)(hex:∃x∈ag,0<x)(aj:Reads w A (aM ag)) :
  Calls prog 172 #[.slice A ag.length c] w λe w'=>∃g cap post S,e=.returned (.slice (some ⟨g,0,none⟩) S.length cap)/\S.length<=cap/\cap<=maxLen/\cF w' g S post/\k6 w' S/\sh ag S/\(S.map (·.1)).Perm (fz ag)/\S.length=(fG ag).length/\Below w.heap.size w w':=by
 obtain⟨i0,ax,bB,bK,bw⟩:=info_parts HV;have aU:=I aj;have ci:=I hm;have ac4:=I hex;clear aj hm hex;go_enter func172,ntmps172
 go_wp2;go_loopw [3,8] (λwo bV wr=>∃k:Nat,k<=ag.length/\bV=.int .i64 k/\Hid (∃T,T.length<=k/\AK ag k T/\wr.ownsRow w.heap.size 231 2 wo T.length (cn T)/\k6 wr T)/\Hid (Below w.heap.size w wr)) (λ_ bV _=>ag.length-(intOf bV).toNat)
 case atStart=>exact⟨0,by omega,rfl,I ⟨[],by simp,by simp[AK,kG],World.ownsRow_nil _ _ _ _,λt aC=>by simp at aC⟩,I dQ⟩
 case round=>
  obtain⟨k,hk,rfl,aQ,hbel⟩:=hrel;by_cases bb:k<ag.length
  .obtain⟨g,off,rfl,hc⟩:=kW (c9 aU.out hbel.out) (by omega);have c0:=hc k bb;have wM:=I (BQ ag k);rw[bH bb,b6]at wM;have ah:=ci.out ag[k] (b7 bb);clear hc;generalize ag[k]=x at *;by_cases am:0<x
   .rw[aA am]at wM;obtain⟨T,Bc,cp,hown,jj⟩:=aQ.out;obtain⟨n,az⟩:∃n,n=T.length:=⟨_,rfl⟩;rw[<-az]at hown Bc;have bX:=I az;have mW:=I cp;have tG:=I jj;have hQ:=I hown;have dZ:=hbel.out.size;clear aQ cp hown jj az;go_wp2_with (at_builtin;refine wpList_append_own _ rfl _ _ 226 rfl w.heap.size 231 i0 (.agg #[.int .i64 0,.slice none 0 0]) 2 32 underlying226 ax bB bK bw rfl (by decide) _ _ _ rfl ((hQ.out.alloc _).alloc _) ⟨wr.heap.size+1,0,none⟩ 1 1 [.int .i64 x,.slice (some ⟨wr.heap.size,0,none⟩) 1 1] rfl rfl ?d1 ?d2 ?d3 ?d4 ?d5 ?_)
    case d1=>
     intro j u ar;match j,ar with
     | 0,ar=>simp at ar;subst ar;simp[Addr.add]
     | 1,ar=>simp at ar;subst ar;simp[Addr.add]
    case d2=>
     intro u hu;simp at hu;rcases hu with rfl | rfl<;>rfl
    case d3=>unfold maxLen;omega
    case d4=>omega
    case d5=>simp;omega
    intro gZ dt di dn _;have aI:Below wr.heap.size wr ((wr.alloc (.cells #[.int .i64 k] 3)).alloc (.cells #[.int .i64 x,.slice (some ⟨wr.heap.size,0,none⟩) 1 1] 231)):=(dQ.alloc bh _).alloc (by simp) _;have hnew:=(Row.new wr 3 [.int .i64 k]).alloc (.cells #[.int .i64 x,.slice (some ⟨wr.heap.size,0,none⟩) 1 1] 231);have hfin:∃dz,dz.length<=k+1/\AK ag (k+1) dz/\dt.ownsRow w.heap.size 231 2 gZ dz.length (cn dz)/\k6 dt dz:=by
     have hkind:∀b,u3.ownBlock=some b->∃ag,Row ((wr.alloc (.cells #[.int .i64 k] 3)).alloc (.cells #[.int .i64 x,.slice (some ⟨wr.heap.size,0,none⟩) 1 1] 231)) b 231 ag:=λb ak=>by
      rcases hQ.out.2 with⟨rfl,_⟩ | ⟨fd,cap',fg,rfl,_,ajo,_⟩
      .cases ak
      .simp only[Value.ownBlock,Option.some.injEq]at ak;subst ak;have nt:Row wr fd 231 fg.toList:=by unfold Row;rw[Array.toArray_toList];exact ajo
       exact⟨_,(nt.alloc _).alloc _⟩
     refine⟨T++[(x,(wr.heap.size,1),[k])],by rw[aY,<-bX.out];simp;omega,?_,?_,λt aC=>?_⟩
     .have af:=mW.out;unfold AK at af ⊢;rw[wM.out,map_append,map_append,af];rfl
     .rw[aY,<-bX.out,O0];exact di
     .rcases List.mem_append.1 aC with aC | aC
      .exact(((tG.out.below aI)).grown dn hkind) t aC
      .simp only[mem_singleton]at aC;subst aC;refine⟨[],hnew.keep (dn.block _ hnew.lt (λe=>?_))⟩;have:=(hQ.out.lt _ e.symm).2;omega
    have ey:=I hfin;have h2:=I ((hbel.out.trans (aI.mono dZ)).grown dn (du dZ aI.size) (λq hq=>(hQ.out.lt q hq).1));clear hfin aI hnew di dn hQ tG mW hbel c0;go_wp2;go_roundw
    case rel=>exact⟨k+1,by omega,by go_num,ey,h2⟩
    case measure=>simp[intOf];omega
   .rw[ay am,append_nil]at wM;go_wp2;go_roundw
    case rel=>exact⟨k+1,by omega,by go_num,I (by
     obtain⟨T,h1,af,aq,aJ⟩:=aQ.out;exact⟨T,by omega,by unfold AK at af ⊢;rw[wM.out];exact af,aq,aJ⟩),hbel⟩
    case measure=>simp[intOf];omega
  .obtain rfl:k=ag.length:=by omega
   obtain⟨T,Bc,cp,hown,jj⟩:=aQ.out;have Vf:T.length=(fG ag).length:=by
    have:=congrArg List.length cp;rw[cQ,cQ]at this;exact this
   have h1:=Ou ag ac4.out;obtain⟨_,g,cap,post,aE,Bg,qv,hj,Nk⟩:=Pd hown (by omega);subst aE;have xA:Light T:=λt aC=>by
    have hm:(t.1,t.2.2)∈(kG ag ag.length).map (λu=>(u.1,[u.2])):=by
     rw[<-cp];exact List.mem_map.2 ⟨t,aC,rfl⟩
    obtain⟨u,hu,e⟩:=List.mem_map.1 hm;obtain⟨u1,u2,u3⟩:=(pV ag ag.length u).1 hu;injection e with aF _
    rw[<-aF,u2,bH u1,b6];have:=ci.out _ (b7 u1);omega
   have qW:=I (abX g cap T post wr (by omega) xA Nk);have da:=I Nk;have tG:=I jj;have mW:=I cp;have atQ:=I Vf;clear aQ hown jj cp Nk xA Vf;go_wp2_with fail
   refine qW.out.mono ?_;rintro e aB ⟨rfl,S,bf,bM,ev,gx⟩;obtain⟨gl,z2,z3⟩:=aqJ mW.out bM ev;have fU:=ev.1.length_eq;have XF:k6 aB S:=λt aC=>(tG.out.grown gx (λb ak=>by injection ak with ak;subst ak;exact⟨_,da⟩)) t (ev.1.mem_iff.2 aC)
   have hfin:S.length<=cap/\cap<=maxLen/\cF aB g S post/\k6 aB S/\sh ag S/\(S.map (·.1)).Perm (fz ag)/\S.length=(fG ag).length/\Below w.heap.size w aB:=
    ⟨by omega,hj,bf,XF,gl,z2,z3,below_grown (UH (dr hbel.out (some g)) gx) Bg bh⟩
   have bk:=I hfin;rw[fU];clear hfin bf bM ev gx XF gl z2 z3 fU qW;go_wp2;go_ret;exact⟨g,cap,post,S,rfl,bk⟩
def SQ:Prop:=∀(W:ai) (g cap:Nat) (T:List bn) (post:b3),2<=T.length->T.length<=1000->T.length<=cap->cap<=maxLen->(∀t∈T,t.1<=1100000000/\1<=t.2.2.length/\t.2.2.length<=2000)->cF W g T post->k6 W T ->
 Calls prog 175 #[.slice (some ⟨g,0,none⟩) T.length cap] W λe w'=>∃v P,e=.returned v/\w7 T P/\w'.ownsRow W.heap.size 231 2 v P.length (cn P)/\k6 w' P/\Below W.heap.size W w'
structure KN(w wr:ai)(g cap:Nat)(S T:List bn)(t:Nat):Prop where
 EL:tJ S t T
 fits:T.length<=cap
 most:cap<=maxLen
 row:∃post,cF wr g T post
 cM:k6 wr T
theorem TE{w:ai}{g:Nat}{L:List bn}{post:b3}(h:cF w g L post):∀W,Below w.heap.size w W->∀j u,(cn L)[j]?=some u->W.cell? ((⟨g,0,none⟩:Addr).add j)=some u:=λW bg j u hu=>by
 have h1:=h.below bg;have e:((⟨g,0,none⟩:Addr).add j)=⟨g,j,none⟩:=by
  unfold Addr.add;split<;>simp_all
 have ar:j<(cn L).length:=(List.getElem?_eq_some_iff.1 hu).1;rw[e,Row.cell h1,hZ ar];exact hu
theorem asd(cJ:SQ)(A:a7)(c:Nat)(ag:ae)(w:ai)(hl:ag.length<=256)(hm:∀x∈ag,x<=1048576)(hex:∃x∈ag,0<x)(af:2<=(fG ag).length)(aj:Reads w A (aM ag)) :
  Calls prog 139 #[.slice A ag.length c] w λe w'=>∃v,e=.returned v/\w6 w w' ag v:=by
 obtain⟨i0,ax,bB,bK,bw⟩:=info_parts oF;have r5:=I (asL A c ag w hl hm hex aj);have zo:(fG ag).length<=256:=du (BP ag ag.length) hl;have ci:=I hm;have qO:=I cJ;clear aj hm hex cJ;go_enter func139,ntmps139
 go_wp2_with fail
 refine r5.out.mono ?_;rintro e au ⟨A6,AV,postS,S,rfl,U6,aiy,Mj,Mk,U5,Va,U8,aH⟩;obtain⟨n,az⟩:∃n,n=S.length:=⟨_,rfl⟩;have lk:2<=n:=by omega
 have av4:n<=256:=by omega
 have bX:=I az;have aK:=I aH;have Af:=I U5;have QN:=I Mj;have QO:=I Mk;have QL:=I Va;have QK:=I U8;have aQ:KN w au A6 AV S S 0:=⟨.zero,U6,aiy,⟨postS,Mj⟩,Mk⟩;have cb:=I aQ;rw[<-az]at U6 ⊢;clear aQ U5 Mj Mk Va U8 aH az r5;go_wp2;go_loopw [4,13] (λvW bV wr=>∃(t g cap m:Nat) (T:List bn),bV=.int .i64 t/\t<=10/\vW=.slice (some ⟨g,0,none⟩) m cap/\m=T.length/\Hid (KN w wr g cap S T t)/\Hid (Below au.heap.size au wr)) (λ_ bV _=>10-(intOf bV).toNat)
 case atStart=>exact⟨0,A6,AV,n,S,rfl,by omega,rfl,bX.out,cb,I dQ⟩
 case round=>
  obtain⟨t,g,cap,m,T,rfl,aC,rfl,Bt,pL,ak⟩:=hrel;clear cb;obtain⟨gl,z2,z3⟩:=alV Af.out ci.out pL.out.EL;have Nf:2^t<=1024:=by
   have:2^t<=2^10:=dD (by omega) aC;have aq:(2:Nat)^10=1024:=by decide
   omega
  rw[<-Bt,<-bX.out]at gl z2;have Aq:=I Bt;clear Bt;by_cases fj:t<10
  .have sN:Calls prog 175 #[.slice (some ⟨g,0,none⟩) m cap] wr λe w'=>∃v P,e=.returned v/\Hid (w7 T P/\w'.ownsRow wr.heap.size 231 2 v P.length (cn P)/\k6 w' P/\Below wr.heap.size wr w'):=by
    have Bt:=Aq.out;obtain⟨post,hrow⟩:=pL.out.row;have h:=qO.out wr g cap T post (by omega) (by omega) pL.out.fits pL.out.most (λu hu=>by
     have aq:=z3 u hu;have aJ:=((H3 Af.out pL.out.EL).2 u hu).2.1;have:2^t*1048576<=1024*1048576:=mul_le_mul_right _ Nf;omega) hrow pL.out.cM
    rw[<-Bt]at h;exact h.mono λe w' ⟨v,P,h1,af,aq,aJ,aR⟩=>⟨v,P,h1,I ⟨af,aq,aJ,aR⟩⟩
   have m9:=I sN;clear sN;go_wp2_with fail
   refine m9.out.mono ?_;rintro e aB ⟨v,P,rfl,aw⟩;obtain⟨Eh,hown,XM,aI⟩:=aw.out;have yX:=Eh.len;rw[<-Aq.out]at yX;obtain⟨_,vn,vd,awX,aE,avz,aiq,auY,U0⟩:=Pd hown (by omega);subst aE;have Kn:=I Eh;have acz:=I XM;have acy:=I U0;have aV:=b9 ak aI;obtain⟨pl,cm⟩:∃pl,pl=P.length:=⟨_,rfl⟩;rw[<-cm]at yX aiq ⊢;have my:=I cm;have lN:1<=pl:=by omega
   have qw:pl<=1000:=by omega
   have U1:∀u∈P,u.1<=4000000000:=λu hu=>by
    obtain⟨x,ah,rfl⟩:=List.mem_iff_getElem.1 hu;have ie:=Eh.wt x ah;have eF:=Eh.len;have Bt:=Aq.out;unfold ao.wt at ie;rw[bH ah,b6]at ie;have bP:=z3 _ (BS (show 2*x<T.length by omega));have bq:=z3 _ (BS (show 2*x+1<T.length by omega));have:2^t*1048576<=1024*1048576:=mul_le_mul_right _ Nf;omega
   have acA:=I U1;have atP:=I yX;have awx:=ak.out.size;clear aw hown XM U0 aI Eh cm m9 U1 ak yX;have hcon:∀o,o=Obj.cells #[.slice (some ⟨A6,0,none⟩) n AV,.slice (some ⟨vn,0,none⟩) pl vd] 226->Calls prog 174 #[.slice (some ⟨aB.heap.size,0,none⟩) 2 2] (aB.alloc o) λe w'=>∃g2 cap2,e=.returned (.slice (some ⟨g2,0,none⟩) (n+pl) cap2)/\Hid (au.heap.size<=g2/\n+pl<=cap2/\cap2<=maxLen/\(∃post,cF w' g2 (S++P) post)/\k6 w' (S++P)/\Below au.heap.size au w'):=by
    rintro o rfl;have dA:=(Below.refl aB.heap.size aB).alloc bh (.cells #[.slice (some ⟨A6,0,none⟩) n AV,.slice (some ⟨vn,0,none⟩) pl vd] 226);have kT:=aV.out.trans (dA.mono aV.out.size);have h:=asg aB.heap.size A6 n AV vn pl vd S P _ (by omega) bX.out.symm my.out.symm (by omega) (by omega) (Row.new aB 226 [.slice (some ⟨A6,0,none⟩) n AV,.slice (some ⟨vn,0,none⟩) pl vd]) (TE (QN.out.below kT)) (TE (acy.out.below dA));refine h.mono ?_;rintro e w' ⟨v,he,hown,ak⟩;obtain⟨hlen,g2,cap2,EZ,aE,bl,db,ho,hrow2⟩:=Pd hown (by omega);refine⟨g2,cap2,by rw[he,aE],I ⟨du kT.size bl,db,ho,⟨EZ,hrow2⟩,λt aC=>?_,kT.trans (ak.mono kT.size)⟩⟩;rcases List.mem_append.1 aC with aC | aC
    .exact(QO.out.below (kT.trans (ak.mono kT.size))) t aC
    .exact((acz.out.below dA).below ak) t aC
   have Ak:=I (hcon _ rfl);clear hcon;go_wp2_with fail
   refine Ak.out.mono ?_;rintro e bA ⟨g2,cap2,rfl,hh⟩;obtain⟨bl,db,ho,⟨EZ,hrow2⟩,hsy2,a8⟩:=hh.out;have U9:∀u∈S,u.1<=4000000000:=λu hu=>by
    obtain⟨i,aF,e2,_,e4⟩:=Af.out.one u hu;rw[e2];unfold bZ;rw[bH e4,b6];have:=ci.out _ (b7 e4);omega
   have Mi:(S++P).length=n+pl:=by rw[aY,<-bX.out,<-my.out]
   have zk:=abX g2 cap2 (S++P) EZ bA (by omega) (λu hu=>by
    rcases List.mem_append.1 hu with hu | hu
    .exact U9 u hu
    .exact acA.out u hu) hrow2
   rw[Mi]at zk;have qW:=I zk;have gh:=I hrow2;have KB:=I hsy2;have cx:=I a8;have acE:=I Mi;clear hh hrow2 hsy2 a8 U9 zk Mi Ak;go_wp2_with fail
   refine qW.out.mono ?_;rintro e dG ⟨rfl,dz,bf,bM,ev,gx⟩;have Vc:n+pl=dz.length:=by rw[<-ev.1.length_eq,acE.out]
   have WA:KN w dG g2 cap2 S dz (t+1):=⟨.succ pL.out.EL Kn.out ev bM,by omega,ho,⟨EZ,bf⟩,λu hu=>(KB.out.grown gx (λb ak=>by injection ak with ak;subst ak;exact⟨_,gh⟩)) u (ev.1.mem_iff.2 hu)⟩;have ads:=I WA;have dh:Hid (Below au.heap.size au dG):=I (below_grown (UH (dr cx.out (some g2)) gx) bl bh);have acF:=I Vc;clear bf bM ev gx WA Vc qW pL;go_wp2;go_roundw
   case rel=>exact⟨t+1,g2,cap2,n+pl,dz,by go_num,by omega,rfl,acF.out,ads,dh⟩
   case measure=>simp[intOf];omega
  .obtain rfl:t=10:=by omega
   obtain⟨bP,bq⟩:=afB Af.out hl (by rw[<-bX.out];exact lk) (by rw[QK.out,<-xR,cQ]) QL.out pL.out.EL;rw[<-bX.out]at bP bq;have RF:=I bq;obtain⟨K,hK⟩:∃K,K=2*n-2:=⟨_,rfl⟩;have auR:K<=m:=by rw[Aq.out,hK];exact bP
   have auQ:2*(n:Int)-2=K:=by omega
   have hj:=pL.out.fits;rw[<-Aq.out]at hj;have auP:K<=cap:=by omega
   have cW:=(H3 Af.out pL.out.EL).2;have hL:=pL.out.most;unfold maxLen at hL;rw[<-hK]at RF;have iQ:=I cW;have Kc:=I pL.out;have auO:K<=512:=by omega
   have eT:=I z3;have qa:Hid (Below w.heap.size w wr):=I (aK.out.trans (ak.out.mono aK.out.size));obtain⟨wt,Yc⟩:∃wt:ai,wt=wr:=⟨_,rfl⟩;subst Yc;clear bP bq cW pL ak gl z2 z3 hK Af QN QO QL QK aK;go_wp2_with (at_make;refine wpList_make_full _ rfl _ _ 112 rfl wt.heap.size 3 i0 (.int .i64 0) 1 underlying112 ax bB bK .i64 .i64 _ _ ag.length rfl rfl ?c1 ?c1 ?c2 ?c3 ?c4 ?_)
   case c1=>omega
   case c2=>first | omega | (rw[bw];omega)
   case c3=>unfold maxLen;omega
   try case c4=>exact Nat.le_refl _
   intro dt di y9;obtain⟨g0,hW⟩:∃g0,g0=wt.heap.size:=⟨_,rfl⟩;have hr:=ut di;rw[<-alR,<-hW]at hr;have fA:=I hW;have l0:Hid (Row dt g0 3 (aM (j9 ag (dF (T.take 0))))):=I (by simpa [dF]using hr);have h2:=I (k8 y9);have ND:∀L:List bn,(∀u∈L,u∈T)->(dF L).length<=1024*L.length:=λL=>by
    induction L with
    | nil=>intro _;simp[dF]
    | cons u L ih=>
     intro bR;have aq:=ih (λv aE=>bR v (ew _ aE));have aJ:=(eT.out u (bR u ea)).1;have e2:dF (u :: L)=u.2.2++dF L:=by simp[dF]
     have aR:(2:Nat)^10=1024:=by decide
     rw[e2,aY,b1];omega
   have St:=I ND;rw[<-hW];clear di y9 hr hW ND Nf eT;go_wp2;go_loopw [32] (λiJ wr=>∃(k:Nat),iJ=.int .i64 k/\k<=K/\Hid (Row wr g0 3 (aM (j9 ag (dF (T.take k)))))/\Hid (Below wt.heap.size wt wr)) (λiJ _=>K-(intOf iJ).toNat)
   case atStart=>exact⟨0,rfl,by omega,l0,h2⟩
   case round=>
    obtain⟨k,rfl,hk,hrow,ak⟩:=hrel;clear l0 h2;by_cases avK:k<K
    .obtain⟨awY,Vg⟩:=Kc.out.row;have HI:k<T.length:=by have:=Aq.out;omega
     obtain⟨u,hu⟩:∃u,u=T[k]:=⟨_,rfl⟩;have zE:u∈T:=by rw[hu];exact b7 HI
     have Ve:T[k]?=some u:=by rw[hu];exact bH HI
     obtain⟨c0,c1⟩:=B1 (Vg.below ak) Ve;have iG:=(Kc.out.cM.below ak) u zE;obtain⟨awZ,Vj⟩:=Kc.out.cM u zE;have mX:=I Vj;have hnext:dF (T.take (k+1))=dF (T.take k)++u.2.2:=by
      rw[gb HI,zY,<-hu];simp[dF]
     have tC:=I hnext;have XV:=λy (hy:y∈u.2.2)=>((iQ.out u zE).2.2 y hy).2
     have SF:=I XV;have XW:u.2.2.length<=1048576*1024:=by
      have aq:=St.out [u] (λv aE=>by simp only[mem_singleton]at aE;subst aE;exact zE);simp[dF]at aq;omega
     have Vq:=St.out (T.take k) (λv aE=>mem_of_mem_take aE);rw[cq]at Vq;have acH:Hid ((dF (T.take k)).length<=1024*1024):=I (by omega);simp only[pX]at c1;obtain⟨us,uh⟩:∃us,us=u.2.2:=⟨_,rfl⟩;obtain⟨Ft,NI⟩:∃Ft,Ft=u.2.1.1:=⟨_,rfl⟩;obtain⟨I7,XU⟩:∃I7,I7=u.2.1.2:=⟨_,rfl⟩;rw[<-uh,<-NI,<-XU]at c1;rw[<-uh,<-NI]at mX;rw[<-uh]at tC SF XW;have uc:(k:Int)<K:=by omega
     have akx:=ak.out.size;clear Vg hu zE Ve iG Vj hnext XV Vq uh NI XU HI;generalize u.1=ab0 at c0;go_wp2;rename ai=>eY
     have cb:Hid (Row (eY.alloc (.cells #[.int .i64 ab0,.slice (some ⟨Ft,0,none⟩) us.length I7] 231)) g0 3 (aM (j9 ag (dF (T.take k)++us.take 0)))):=I (by simpa using hrow.out.alloc _);have uG:Hid (Below wt.heap.size wt (eY.alloc (.cells #[.int .i64 ab0,.slice (some ⟨Ft,0,none⟩) us.length I7] 231))):=I (ak.out.alloc akx _);clear hrow ak c0 c1;go_loopw [39] (λhM wr=>∃(j:Nat),hM=.int .i64 j/\j<=us.length/\Hid (Row wr g0 3 (aM (j9 ag (dF (T.take k)++us.take j))))/\Hid (Below wt.heap.size wt wr)) (λhM _=>us.length-(intOf hM).toNat)
     case atStart=>exact⟨0,rfl,by omega,cb,uG⟩
     case round=>
      obtain⟨j,rfl,ar,hrow,ak⟩:=hrel;clear cb uG;by_cases fr:j<us.length
      .have Vi:=iL mX.out ak.out;have c0:wr.cell? ⟨Ft,j,none⟩=some (.int .i64 (us[j]:Int)):=by
        rw[Vi.cell,hZ (by rw[gw];exact fr),ja us j fr]
       have hy:=SF.out us[j] (b7 fr);obtain⟨y,NU⟩:∃y,y=us[j]:=⟨_,rfl⟩;rw[<-NU]at c0 hy;obtain⟨Y,DP⟩:∃Y,Y=dF (T.take k)++us.take j:=⟨_,rfl⟩;have hstep:=alS ag Y y;have Vp:dF (T.take k)++us.take (j+1)=Y++[y]:=by rw[gb fr,<-dj,<-DP,<-NU]
       have avm:Y.count y<=1048576*2048:=by
        have aq:=count_le_length (a:=y) (l:=Y);have aJ:Y.length=(dF (T.take k)).length+min j us.length:=by rw[DP,aY,cq]
        have:=acH.out;omega
       rw[<-DP]at hrow;have iE:(j9 ag Y).length=ag.length:=by simp[j9]
       have c1:wr.cell? ⟨g0,y,none⟩=some (.int .i64 ((Y.count y:Nat):Int)):=by
        rw[hrow.out.cell,ja _ y (by omega)];simp[j9]
       have f1:wr.frozen? ⟨g0,y,none⟩=false:=hrow.out.free y;have hrow2:Row (wr.setCell ⟨g0,y,none⟩ (.int .i64 ((Y.count y:Int)+1))) g0 3 (aM (j9 ag (dF (T.take k)++us.take (j+1)))):=by
        rw[Vp,hstep];have h1:=hrow.out.bm y (.int .i64 ((Y.count y:Int)+1));rw[show aM ((j9 ag Y).set y (Y.count y+1))=(aM (j9 ag Y)).set y (.int .i64 ((Y.count y:Int)+1)) by simp[aM,map_set]];exact h1
       have gh:=I hrow2;have aV:=I (ak.out.setCell (p:=⟨g0,y,none⟩) (by rw[fA.out];exact Nat.le_refl _) (.int .i64 ((Y.count y:Int)+1)));clear Vi NU DP hstep Vp iE hrow2 hrow ak;generalize Y.count y=xf at *;go_wp2;go_roundw
       case rel=>exact⟨j+1,by go_num,by omega,gh,aV⟩
       case measure=>simp[intOf];omega
      .obtain rfl:j=us.length:=by omega
       have gh:Hid (Row wr g0 3 (aM (j9 ag (dF (T.take (k+1)))))):=I (by
        rw[tC.out];have h1:=hrow.out;rw[take_length]at h1;exact h1)
       clear hrow;go_wp2;go_roundw
       case rel=>exact⟨k+1,by go_num,by omega,gh,ak⟩
       case measure=>simp[intOf];omega
    .obtain rfl:k=K:=by omega
     have hfin:w6 w wr ag (.slice (some ⟨g0,0,none⟩) ag.length ag.length):=⟨_,_,_,rfl,Nat.le_refl _,λ_=>⟨g0,0,rfl,λj _=>by rw[eH];exact hrow.out.cell j⟩,RF,qa.out.trans (ak.out.mono qa.out.size)⟩;have bk:=I hfin;clear hfin hrow ak;go_wp2;go_ret;exact⟨_,rfl,bk⟩
end Go.Proofs.YtgiicohbigiapaaGreat
