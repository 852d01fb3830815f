/- Contracts, and what they rest on. Conditions: the theorems' premises. -/
import Derived.Test.YtgiicohbigiapaaGreatRar
set_option maxHeartbeats 4000000
set_option maxRecDepth 100000
open Go.Lib(hid)
open Go.Proofs.Tryz Go.Proofs.YtgiicohbigiapaaGreat.Bm
namespace Go.Proofs.YtgiicohbigiapaaGreat.Bm
def occ(T:List Pcl)(k i:Nat):Nat:=(bq (T.take k)).count i
theorem uK{L:List Pcl}{i:Nat}:i∈bq L↔∃t∈L,i∈t.2.2:=by simp[bq,List.mem_flatMap]
theorem Wz{cs:List Nat}{S T P T':List Pcl}{t:Nat}(hS:uY cs S)(hT:Lev S t T)(hp:mg T P)(hs:Stb (S++P) T')(hr:Srt T')(k:Nat)(hk:k≤T'.length) :
  ∃s q,s+q=k∧s≤S.length∧2*q≤T.length∧(∀i,occ T' k i=(bq (S.take s)).count i+occ T (2*q) i)∧(∀i,0<occ T (2*q) i→(bq (S.take s)).count i=1)∧lN (T'.take k)=lN (S.take s)+lN (T.take (2*q)):=by
 obtain⟨sT,okT⟩:=Jo hS hT;have okP:=JF hp okT;have h1:∀t∈S,single t=true:=fun t ht=>(Gz hS t ht).2
 have h2:∀t∈P,single t=false:=fun t ht=>by
  have:=(okP t ht).2;unfold single;rw[beq_eq_false_iff_ne];omega
 obtain⟨m1,m2⟩:=merged hS.srt (RA hp sT) h1 h2 hs hr;obtain⟨s,q,e,hs1,hq1,hperm,f1,f2⟩:=aeB m1 m2 k hk;have hl:=hp.len;obtain⟨p1,p2⟩:=rP hp q hq1;have hnd:∀i,(bq (S.take s)).count i≤1:=fun i=>by
  have h3:(bq (S.take s)).Nodup:=by
   have h4:=hS.nodup;rw[←List.take_append_drop s S,fF]at h4;exact(List.nodup_append.1 h4).1
  exact List.nodup_iff_count.1 h3 i
 refine⟨s,q,e,hs1,by omega,fun i=>?_,fun i hi=>?_,?_⟩
 ·unfold occ;rw[(Ei hperm).count_eq i,fF,List.count_append,p1]
 ·have h3:0<(bq (S.take s)).count i:=by
   unfold occ at hi;rw[←p1,List.count_pos_iff,uK]at hi;obtain⟨u,hu,hiu⟩:=hi;have huP:u∈P:=List.mem_of_mem_take hu;obtain⟨⟨w1,w2,w3⟩,w4⟩:=okP u huP;obtain⟨c1,c2⟩:=w3 i hiu;have huT:u∈T'.take k:=(List.mem_filter.1 (by rw[f2];exact hu)).1;have hiS:=hS.all i c2 c1;obtain⟨v,hv,hiv⟩:=uK.1 hiS;obtain⟨j,j1,j2,j3,j4⟩:=hS.one v hv;rw[j1,List.mem_singleton]at hiv;subst hiv;have hlt:v.1<u.1:=by
    rw[w1,j2];obtain⟨A,B,hAB⟩:=List.append_of_mem hiu;rw[hAB,List.map_append,List.map_cons,List.sum_append_nat,List.sum_cons];rw[hAB,List.length_append,List.length_cons]at w4;have hpos:0<(A.map (bH cs)).sum+(B.map (bH cs)).sum:=by
     match A,B,hAB,w4 with
     | a :: A,_,hAB,_=>
      have:=(w3 a (by rw[hAB];simp)).1;rw[List.map_cons,List.sum_cons];omega
     | [],b :: B,hAB,_=>
      have:=(w3 b (by rw[hAB];simp)).1;rw[List.map_cons,List.sum_cons];omega
     | [],[],_,w4=>simp at w4
    omega
   have ako:v∈T':=hs.1.mem_iff.1 (List.mem_append_left _ hv);have hvk:v∈T'.take k:=by
    rw[←List.take_append_drop k T']at ako;rcases List.mem_append.1 ako with h5 | h5
    ·exact h5
    ·exfalso
     have h6:=hr;rw[←List.take_append_drop k T']at h6;have:=(List.pairwise_append.1 h6).2.2 u huT v h5;omega
   have hvs:v∈S.take s:=by
    rw[←f1];exact List.mem_filter.2 ⟨hvk,h1 v hv⟩
   rw[List.count_pos_iff,uK];exact⟨v,hvs,by rw[j1];simp⟩
  have:=hnd i;omega
 ·rw[Ul hperm,pz,p2]
theorem SY{cs:List Nat}{S:List Pcl}(h:uY cs S)(s:Nat):(bq (S.take s)).length=(S.take s).length∧∀y∈bq (S.take s),y<cs.length:=by
 have:∀L:List Pcl,(∀t∈L,t∈S)→(bq L).length=L.length∧∀y∈bq L,y<cs.length:=fun L=>by
  induction L with
  | nil=>intro _;simp[bq]
  | cons t L ih=>
   intro hL;obtain⟨h1,h2⟩:=ih (fun u hu=>hL u (List.mem_cons_of_mem _ hu));obtain⟨i,e1,_,_,e4⟩:=h.one t (hL t List.mem_cons_self);have e:bq (t :: L)=i :: bq L:=by simp[bq,e1]
   rw[e];refine⟨by simp[h1],fun y hy=>?_⟩;rcases List.mem_cons.1 hy with rfl | hy
   ·exact e4
   ·exact h2 y hy
 exact this _ (fun t ht=>List.mem_of_mem_take ht)
theorem vC{cs:List Nat}{S:List Pcl}(h:uY cs S)(s:Nat)(hs:s≤S.length):((List.range cs.length).map fun i=>(bq (S.take s)).count i).sum=s:=by
 obtain⟨h1,h2⟩:=SY h s;have h3:=vB (fun _=>1) cs.length (bq (S.take s)) h2;simp only[Nat.one_mul]at h3;rw[h3,List.map_const',List.sum_replicate_nat,Nat.mul_one,h1,List.length_take];omega
theorem QL{cs:List Nat}{S:List Pcl}(hS:uY cs S):∀{t:Nat} {T:List Pcl},Lev S t T→∀k,k≤T.length→(∀i,occ T k i≤t+1)∧((List.range cs.length).map fun i=>2^(t+1)-2^(t+1-occ T k i)).sum=k*2^t:=by
 intro t T hT;induction hT with
 | zero=>
  intro k hk;have hnd:∀i,occ S k i≤1:=fun i=>by
   have h4:=hS.nodup;rw[←List.take_append_drop k S,fF]at h4;exact List.nodup_iff_count.1 (List.nodup_append.1 h4).1 i
  refine⟨fun i=>by have:=hnd i;omega,?_⟩;have h1:=vC hS k hk;rw[Nat.pow_zero,Nat.mul_one];refine Eq.trans ?_ h1;congr 1
  apply List.map_congr_left
  intro i _;have h2:=hnd i;unfold occ at h2 ⊢;generalize (bq (S.take k)).count i=c at *;obtain rfl | rfl:c=0∨c=1:=by omega
  ·simp
  ·simp
 | @succ t T P T' hT hp hs hr ih=>
  intro k hk;obtain⟨s,q,e,hs1,hq1,ho,hpre,_⟩:=Wz hS hT hp hs hr k hk;obtain⟨ih1,ih2⟩:=ih (2*q) hq1;have hc1:∀i,(bq (S.take s)).count i≤1:=fun i=>by
   have h4:=hS.nodup;rw[←List.take_append_drop s S,fF]at h4;exact List.nodup_iff_count.1 (List.nodup_append.1 h4).1 i
  refine⟨fun i=>by have:=ho i;have:=ih1 i;have:=hc1 i;omega,?_⟩;have h1:=vC hS s hs1;have h2:((List.range cs.length).map fun i=>2^(t+1+1)-2^(t+1+1-occ T' k i)).sum=((List.range cs.length).map fun i=>2^(t+1)*(bq (S.take s)).count i+(2^(t+1)-2^(t+1-occ T (2*q) i))).sum:=by
   congr 1
   apply List.map_congr_left
   intro i _;have a1:=ho i;have a2:=hpre i;have a3:=hc1 i;have a4:=ih1 i;rw[a1];generalize (bq (S.take s)).count i=c at *;generalize occ T (2*q) i=o at *;have hp2:2^(t+1+1)=2*2^(t+1):=by rw[Nat.pow_succ,Nat.mul_comm]
   have hle:2^(t+1-o)≤2^(t+1):=Nat.pow_le_pow_right (by omega) (by omega);obtain rfl | rfl:c=0∨c=1:=by omega
   ·obtain rfl:o=0:=by
     rcases Nat.eq_zero_or_pos o with h | h
     ·exact h
     ·have:=a2 h;omega
    simp
   ·rw[show t+1+1-(1+o)=t+1-o by omega,hp2];omega
  rw[h2,dZ,ih2];have h3:((List.range cs.length).map fun i=>2^(t+1)*(bq (S.take s)).count i).sum=2^(t+1)*s:=by
   conv=>rhs;rw[←h1]
   clear h1 h2 ih2;generalize List.range cs.length=L;induction L with
   | nil=>simp
   | cons a L ih=>rw[List.map_cons,List.sum_cons,ih,List.map_cons,List.sum_cons,Nat.mul_add]
  rw[h3,←e,Nat.add_mul,Nat.mul_comm s,Nat.pow_succ,show 2*q*2^t=q*(2^t*2) by rw[Nat.mul_comm 2 q,Nat.mul_assoc,Nat.mul_comm 2]]
theorem Wx{S:List Pcl}(w:Nat)(hw:w≤11)(h1:S.length≤2^w)(h2:2^w≤2*S.length) :
  ∀{t:Nat} {T:List Pcl},Lev S t T→∀j,j≤w→t+j=11→2*S.length-2^j≤T.length∧lN (T.take (2*S.length-2^j))≤(w-j)*lN S+lN (S.take (2*S.length-2^w)):=by
 intro t T hT;induction hT with
 | zero=>
  intro j hj ht;obtain rfl:j=w:=by omega
  exact⟨by omega,by omega⟩
 | @succ t T P T' hT hp hs hr ih=>
  intro j hj ht;have hl:=hs.1.length_eq;rw[List.length_append]at hl;have hPl:=hp.len;by_cases hjw:j=w
  ·subst hjw;have h3:=tH hs.1 hr (2*S.length-2^j) 0 (by omega) (by omega);simp only[Nat.add_zero,List.take_zero]at h3;have h4:lN ([]:List Pcl)=0:=rfl;rw[h4]at h3;exact⟨by omega,by omega⟩
  ·obtain⟨ih1,ih2⟩:=ih (j+1) (by omega) (by omega);have hpj:2^(j+1)=2*2^j:=by rw[Nat.pow_succ,Nat.mul_comm]
   have amF:2^(j+1)≤2^w:=Nat.pow_le_pow_right (by omega) (by omega);have h3:=tH hs.1 hr S.length (S.length-2^j) (Nat.le_refl _) (by omega);rw[List.take_length,(rP hp (S.length-2^j) (by omega)).2,show 2*(S.length-2^j)=2*S.length-2^(j+1) by omega,show S.length+(S.length-2^j)=2*S.length-2^j by omega]at h3;refine⟨by omega,?_⟩;have h5:(w-j)*lN S=(w-(j+1))*lN S+lN S:=by
    rw[show w-j=(w-(j+1))+1 by omega,Nat.succ_mul]
   omega
def dD(cs:List Nat)(Y:List Nat):List Nat:=(List.range cs.length).map fun i=>Y.count i
theorem acR(f:Nat→Nat)(N a b:Nat)(ha:a<N)(hb:b<N)(hab:a≠b):f a+f b≤((List.range N).map f).sum:=by
 have e:((List.range N).map fun i=>(if i=a then f a else 0)+(if i=b then f b else 0)).sum=f a+f b:=by
  rw[dZ,gM,gM,if_pos ha,if_pos hb]
 rw[←e];apply kG
 intro i _;by_cases h1:i=a
 ·subst h1;rw[if_pos rfl,if_neg hab];omega
 ·rw[if_neg h1];by_cases h2:i=b
  ·subst h2;rw[if_pos rfl];omega
  ·rw[if_neg h2];omega
theorem XC(l:List Nat)(m:Nat):(l.reverse.take m).sum+(l.take (l.length-m)).sum=l.sum:=by
 rw[List.take_reverse,List.sum_reverse_nat];conv=>rhs;rw[←List.take_append_drop (l.length-m) l,List.sum_append_nat]
 omega
theorem KI{cs:List Nat}{S T:List Pcl}(hS:uY cs S)(aaW:cs.length≤256)(h2:2≤S.length)(hlen:S.length=(je cs).length)(hperm:(S.map (·.1)).Perm (je cs))(hT:Lev S 10 T) :
  2*S.length-2≤T.length∧zT cs (dD cs (bq (T.take (2*S.length-2)))):=by
 have hSl:S.length≤256:=by rw[hlen];exact Nat.le_trans (RH cs) aaW
 obtain⟨w,hw⟩:∃w,w=wid (S.length-1):=⟨_,rfl⟩;have hw1:S.length≤2^w:=by have:=qK (S.length-1);rw[←hw]at this;omega
 have hw0:1≤w:=by rw[hw];exact lq _ (by omega)
 have hw2:2^w≤2*S.length:=by
  have h3:=zR (S.length-1) (by omega);rw[←hw]at h3;have:2^w=2*2^(w-1):=by
   conv=>lhs;rw[show w=(w-1)+1 by omega,Nat.pow_succ,Nat.mul_comm]
  omega
 have hw8:w≤8:=by
  rw[hw];refine eB _ 8 ?_;have:(2:Nat)^8=256:=by decide
  omega
 obtain⟨fl1,fl2⟩:=Wx w (by omega) hw1 hw2 hT 1 hw0 rfl;rw[Nat.pow_one]at fl1 fl2;obtain⟨kr1,kr2⟩:=QL hS hT (2*S.length-2) fl1;obtain⟨_,okT⟩:=Jo hS hT;have okY:∀y∈bq (T.take (2*S.length-2)),0<bH cs y∧y<cs.length:=fun y hy=>by
  obtain⟨u,hu,hyu⟩:=uK.1 hy;exact(okT u (List.mem_of_mem_take hu)).2.2 y hyu
 have hwY:lN (T.take (2*S.length-2))=((bq (T.take (2*S.length-2))).map (bH cs)).sum:=by
  have:∀L:List Pcl,(∀u∈L,u∈T)→lN L=((bq L).map (bH cs)).sum:=fun L=>by
   induction L with
   | nil=>intro _;simp[lN,bq]
   | cons u L ih=>
    intro hL;have h3:=ih (fun v hv=>hL v (List.mem_cons_of_mem _ hv));have h4:=(okT u (hL u List.mem_cons_self)).1;have e1:lN (u :: L)=u.1+lN L:=by simp[lN]
    have e2:bq (u :: L)=u.2.2++bq L:=by simp[bq]
    rw[e1,e2,List.map_append,List.sum_append_nat,←h3,←h4]
  exact this _ (fun u hu=>List.mem_of_mem_take hu)
 refine⟨fl1,?_⟩;unfold occ at kr1 kr2;generalize bq (T.take (2*S.length-2))=Y at *;rw[hwY]at fl2;have ajF:(2:Nat)^(10+1)=2048:=by decide
 have hk10:(2:Nat)^10=1024:=by decide
 rw[ajF,hk10]at kr2;have hlv:(lvs cs).length=S.length:=by rw[hlen,←mJ,List.length_map]
 have hN:((List.range cs.length).map fun i=>if 0<bH cs i then 2048 else 0).sum=S.length*2048:=by
  have h3:=AJ cs (fun _=>2048) cs.length;rw[←h3,List.map_const',List.sum_replicate_nat];rw[show(iM cs cs.length).length=S.length from hlv]
 have hz:∀i,¬0<bH cs i→Y.count i=0:=fun i hi=>List.count_eq_zero.2 (fun hm=>hi (okY i hm).1)
 have hX:((List.range cs.length).map fun i=>if 0<bH cs i then 2^(11-Y.count i)else 0).sum=2048:=by
  have h3:((List.range cs.length).map fun i=>(if 0<bH cs i then 2^(11-Y.count i)else 0)+(2048-2^(10+1-Y.count i))).sum=((List.range cs.length).map fun i=>if 0<bH cs i then 2048 else 0).sum:=by
   congr 1
   apply List.map_congr_left
   intro i _;have hle:2^(10+1-Y.count i)≤2^(10+1):=Nat.pow_le_pow_right (by omega) (by omega);by_cases hi:0<bH cs i
   ·rw[if_pos hi,if_pos hi];rw[show 11-Y.count i=10+1-Y.count i by omega];omega
   ·rw[if_neg hi,if_neg hi,hz i hi,Nat.sub_zero,ajF]
  rw[dZ,kr2,hN]at h3;omega
 have hpos:∀j,j<cs.length→0<bH cs j→0<Y.count j:=fun j hj hc=>by
  rcases Nat.eq_zero_or_pos (Y.count j)with h0 | h0
  ·exfalso
   have hex:∃u∈lvs cs,u.2≠j:=by
    match hL:lvs cs,hlv with
    | a :: b :: L,_=>
     have hnd:=qd cs cs.length;have e1:iM cs cs.length=a :: b :: L:=hL;rw[e1]at hnd;simp only[List.map_cons,List.nodup_cons,List.mem_cons,not_or]at hnd;by_cases ha:a.2=j
     ·exact⟨b,by simp,fun hb=>hnd.1.1 (by rw[ha,hb])⟩
     ·exact⟨a,by simp,ha⟩
    | [],hl=>simp at hl;omega
    | [a],hl=>simp at hl;omega
   obtain⟨u,hu,huj⟩:=hex;obtain⟨u1,u2,u3⟩:=(bX cs cs.length u).1 hu;have hcu:0<bH cs u.2:=by unfold bH;omega
   have h3:=acR (fun i=>if 0<bH cs i then 2^(11-Y.count i)else 0) cs.length j u.2 hj u1 (fun h=>huj h.symm);rw[hX]at h3;simp only[if_pos hc,if_pos hcu,h0,Nat.sub_zero]at h3;have hp:0<2^(11-Y.count u.2):=Nat.two_pow_pos _;have h11:(2:Nat)^11=2048:=by decide
   omega
  ·exact h0
 have hll:(dD cs Y).length=cs.length:=by simp[dD]
 have hg:∀i,i<cs.length→(dD cs Y)[i]?.getD 0=Y.count i:=fun i hi=>by simp[dD,hi]
 have Wh:∀i,i<cs.length→(0<(dD cs Y)[i]?.getD 0↔0<cs[i]?.getD 0):=fun i hi=>by
  rw[hg i hi];refine⟨fun h=>?_,fun h=>hpos i hi h⟩;exact(okY i (List.count_pos_iff.1 h)).1
 have h11:∀x∈dD cs Y,x≤11:=fun x hx=>by
  simp only[dD,List.mem_map]at hx;obtain⟨i,_,rfl⟩:=hx;exact kr1 i
 refine⟨hll,⟨by omega,h11,.inl ?_⟩,Wh,Nat.le_trans ?_ (Nat.le_max_left _ _)⟩
 ·rw[pX,hll,←hX];congr 1
  apply List.map_congr_left
  intro i hi;have hi:=List.mem_range.1 hi;rw[hg i hi];unfold dB;by_cases hc:0<bH cs i
  ·have:=hpos i hi hc;rw[if_neg (by omega),if_pos hc]
  ·rw[if_pos (hz i hc),if_neg hc]
 ·have hc1:KW cs (dD cs Y)=(Y.map (bH cs)).sum:=by
   rw[←vB (bH cs) cs.length Y (fun y hy=>(okY y hy).2)];unfold KW;congr 1
   apply List.map_congr_left
   intro i hi;rw[hg i (List.mem_range.1 hi)]
  have hsort:(S.map (·.1)).Pairwise (·≤·):=List.pairwise_map.2 hS.srt;have his:lK (je cs)=S.map (·.1):=by rw[←pW hperm,Jg _ hsort]
  have hws:lN S=(je cs).sum:=hperm.sum_nat;have hrev:=XC (S.map (·.1)) (2^w-S.length);rw[List.length_map]at hrev;have hwt:lN (S.take (2*S.length-2^w))=((S.map (·.1)).take (S.length-(2^w-S.length))).sum:=by
   unfold lN;rw[List.map_take];congr 2
   omega
  have hwS:(S.map (·.1)).sum=lN S:=rfl;unfold aeE;rw[if_neg (by omega),his,←hlen,←hw,hc1,←hws];have hmul:lN S*w=(w-1)*lN S+lN S:=by
   conv=>lhs;rw[show w=(w-1)+1 by omega,Nat.mul_succ,Nat.mul_comm]
  rw[hmul];omega
theorem Wy{cs:List Nat}{S:List Pcl}(hS:uY cs S)(hm:∀x∈cs,x≤1048576):∀{t:Nat} {T:List Pcl},Lev S t T→S.length≤T.length∧T.length≤2*S.length∧∀u∈T,u.2.2.length≤2^t∧u.1≤2^t*1048576:=by
 have hone:∀u∈S,u.2.2.length≤1∧u.1≤1048576:=fun u hu=>by
  obtain⟨i,e1,e2,_,e4⟩:=hS.one u hu;rw[e1,e2];refine⟨by simp,?_⟩;unfold bH;rw[List.getElem?_eq_getElem e4,Option.getD_some];exact hm _ (List.getElem_mem e4)
 intro t T hT;induction hT with
 | zero=>exact⟨Nat.le_refl _,by omega,fun u hu=>by have:=hone u hu;simp;omega⟩
 | @succ t T P T' hT hp hs hr ih=>
  obtain⟨i1,i2,i3⟩:=ih;have hl:=hs.1.length_eq;rw[List.length_append,hp.len]at hl;have alQ:2^(t+1)=2*2^t:=by rw[Nat.pow_succ,Nat.mul_comm]
  have h1:1≤2^t:=Nat.one_le_two_pow;refine⟨by omega,by omega,fun u hu=>?_⟩;rw[alQ];rcases List.mem_append.1 (hs.1.mem_iff.2 hu)with hu | hu
  ·have:=hone u hu;omega
  ·obtain⟨x,hx,rfl⟩:=List.mem_iff_getElem.1 hu;have hl2:=hp.len;have a1:=hp.wt x hx;have a2:=hp.sy x hx;unfold wt at a1;rw[List.getElem?_eq_getElem hx,Option.getD_some]at a1 a2;have b1:=i3 _ (nD (show 2*x<T.length by omega));have b2:=i3 _ (nD (show 2*x+1<T.length by omega));rw[a1,a2,List.length_append];omega
theorem FJ(cs Y:List Nat)(y:Nat):dD cs (Y++[y])=(dD cs Y).set y (Y.count y+1):=by
 apply List.ext_getElem
 ·simp[dD]
 ·intro i h1 h2;rw[List.getElem_set];simp only[dD,List.getElem_map,List.getElem_range,List.count_append,List.count_singleton];by_cases e:y=i
  ·subst e;simp
  ·have:(y == i)=false:=by rw[beq_eq_false_iff_ne];exact e
   rw[if_neg e,this];simp
theorem LV(cs:List Nat):dD cs []=List.replicate cs.length 0:=by
 unfold dD;simp only[List.count_nil];rw[List.map_const',List.length_range]
end Go.Proofs.YtgiicohbigiapaaGreat.Bm
namespace Go.Proofs.YtgiicohbigiapaaGreat
open Go.RowKit
def jr(w:World)(T:List Pcl):Prop:=∀t∈T,∃post,Row w t.2.1.1 3 (aM t.2.2++post)
theorem jr.below{w w':World}{T:List Pcl}(h:jr w T)(hb:Below w.heap.size w w'):jr w' T:=fun t ht=>by
 obtain⟨post,hr⟩:=h t ht;exact⟨post,aN hr hb⟩
theorem jr.grown{w w':World}{T:List Pcl}{row:Option Nat}(h:jr w T)(hg:w.grownBy w' row)(hr:∀b,row=some b→∃cs,Row w b 231 cs):jr w' T:=fun t ht=>by
 obtain⟨post,hrow⟩:=h t ht;refine⟨post,hrow.keep (hg.block _ hrow.lt (fun e=>?_))⟩;obtain⟨cs,hc⟩:=hr _ e.symm;unfold Row at hrow hc;rw[hc]at hrow;injection hrow with hrow
 injection hrow with _ e2
 exact absurd e2 (by decide)
theorem oP{w:World}{base n:Nat}{v:Value}{T:List Pcl}(h:w.ownsRow base 231 2 v n (p2 T))(hn:0<n):T.length=n∧∃g cap post,v=.slice (some ⟨g,0,none⟩) n cap∧base≤g∧n≤cap∧cap≤maxLen∧dh w g T post:=by
 have hl:T.length=n:=by have:=h.1;rw[wG]at this;omega
 rcases h.2 with⟨_,h0⟩ | ⟨g,cap,cur,rfl,hb,hg,hnc,hcm,hcs,ht⟩
 ·omega
 ·refine⟨hl,g,cap,cur.toList.drop (n*2),rfl,hb,hnc,hcm,?_⟩;unfold dh Row;rw[←ht,List.take_append_drop,Array.toArray_toList];exact hg
theorem tq{a b c:World}{row:Option Nat}(h:a.grownBy b row)(k:b.grownBy c row):a.grownBy c row:=
 ⟨k.os.trans h.os,k.tape.trans h.tape,k.output.trans h.output,Nat.le_trans h.size k.size,fun i hi hn=>(k.block i (Nat.lt_of_lt_of_le hi h.size) hn).trans (h.block i hi hn)⟩
def yB(cs:List Nat)(k:Nat)(T:List Pcl):Prop:=T.map (fun t=>(t.1,t.2.2))=(iM cs k).map fun u=>(u.1,[u.2])
theorem XT{cs:List Nat}{T S:List Pcl}(h:yB cs cs.length T)(hs:Srt S)(hst:Stb T S):uY cs S∧(S.map (·.1)).Perm (je cs)∧S.length=(lvs cs).length:=by
 have h1:T.map (·.1)=(lvs cs).map (·.1):=by
  have:=congrArg (List.map (fun p:Nat×List Nat=>p.1)) h;rw[List.map_map,List.map_map]at this;exact this
 have h2:bq T=(lvs cs).map (·.2):=by
  have:=congrArg (List.flatMap (fun p:Nat×List Nat=>p.2)) h;rw[List.flatMap_map,List.flatMap_map]at this;unfold bq lvs;rw[this];generalize iM cs cs.length=L;induction L with
  | nil=>rfl
  | cons a L ih=>rw[List.flatMap_cons,ih,List.map_cons];rfl
 have hsy:=Ei hst.1;refine⟨⟨hs,fun t ht=>?_,?_,fun i hi h0=>?_⟩,?_,?_⟩
 ·have hT:=hst.1.mem_iff.2 ht;have hm:(t.1,t.2.2)∈(iM cs cs.length).map (fun u=>(u.1,[u.2])):=by
   rw[←h];exact List.mem_map.2 ⟨t,hT,rfl⟩
  obtain⟨u,hu,e⟩:=List.mem_map.1 hm;obtain⟨u1,u2,u3⟩:=(bX cs cs.length u).1 hu;injection e with e1 e2
  exact⟨u.2,e2.symm,by rw[←e1,u2],by unfold bH;omega,u1⟩
 ·refine(hsy.nodup_iff).1 ?_;rw[h2];exact qd cs _
 ·refine hsy.mem_iff.1 ?_;rw[h2];exact List.mem_map.2 ⟨(bH cs i,i),(bX cs _ _).2 ⟨hi,rfl,h0⟩,rfl⟩
 ·refine(hst.1.symm.map _).trans ?_;rw[h1,mJ]
 ·rw[←hst.1.length_eq,←List.length_map (f:=(·.1)),h1,List.length_map]
theorem Ud(A:Option Addr)(c:Nat)(cs:List Nat)(w:World)(hl:cs.length≤256)(hm:∀x∈cs,x≤1048576)(hex:∃x∈cs,0<x)(hr:Reads w A (aM cs)) :
  Calls prog 172 #[.slice A cs.length c] w fun e w'=>∃g cap post S,e=.returned (.slice (some ⟨g,0,none⟩) S.length cap)∧S.length≤cap∧cap≤maxLen∧dh w' g S post∧jr w' S∧uY cs S∧(S.map (·.1)).Perm (je cs)∧S.length=(lvs cs).length∧Below w.heap.size w w':=by
 obtain⟨i0,hi,hz0,hz1,hz2⟩:=info_parts uI;have Hr:=hid hr;have Hm:=hid hm;have Hex:=hid hex;clear hr hm hex;go_enter func172,ntmps172
 go_wp2;go_loopw [3,8] (fun vv iv wr=>∃k:Nat,k≤cs.length∧iv=.int .i64 (k:Int)∧Hid (∃T,T.length≤k∧yB cs k T∧wr.ownsRow w.heap.size 231 2 vv T.length (p2 T)∧jr wr T)∧Hid (Below w.heap.size w wr)) (fun _ iv _=>cs.length-(intOf iv).toNat)
 case atStart=>exact⟨0,by omega,rfl,hid ⟨[],by simp,by simp[yB,iM],World.ownsRow_nil _ _ _ _,fun t ht=>by simp at ht⟩,hid (Below.refl _ _)⟩
 case round=>
  obtain⟨k,hk,rfl,hst,hbel⟩:=hrel;by_cases hkl:k<cs.length
  ·obtain⟨g,off,rfl,hc⟩:=fQ (aC Hr.out hbel.out) (by omega);have c0:=hc k hkl;have Hlv:=hid (iQ cs k);rw[List.getElem?_eq_getElem hkl,Option.getD_some]at Hlv;have hx:=Hm.out cs[k] (List.getElem_mem hkl);clear hc;generalize cs[k]=x at *;by_cases h0:0<x
   ·rw[if_pos h0]at Hlv;obtain⟨T,hTl,hT,hown,hsm⟩:=hst.out;obtain⟨n,hn⟩:∃n,n=T.length:=⟨_,rfl⟩;rw[←hn]at hown hTl;have Hn:=hid hn;have HT:=hid hT;have Hsm:=hid hsm;have tT:=hid hown;have hws:=hbel.out.size;clear hst hT hown hsm hn;go_wp2_with (at_builtin;refine wpList_append_own _ rfl _ _ 226 rfl w.heap.size 231 i0 (.agg #[.int .i64 0,.slice none 0 0]) 2 32 underlying226 hi hz0 hz1 hz2 rfl (by decide) _ _ _ rfl ((tT.out.alloc _).alloc _) ⟨wr.heap.size+1,0,none⟩ 1 1 [.int .i64 (x:Int),.slice (some ⟨wr.heap.size,0,none⟩) 1 1] rfl rfl ?d1 ?d2 ?d3 ?d4 ?d5 ?_)
    case d1=>
     intro j u hj;match j,hj with
     | 0,hj=>simp at hj;subst hj;simp[Addr.add]
     | 1,hj=>simp at hj;subst hj;simp[Addr.add]
    case d2=>
     intro u hu;simp at hu;rcases hu with rfl | rfl<;>rfl
    case d3=>unfold maxLen;omega
    case d4=>omega
    case d5=>simp;omega
    intro u' w7 bN gH _;have hb2:Below wr.heap.size wr ((wr.alloc (.cells #[.int .i64 (k:Int)] 3)).alloc (.cells #[.int .i64 (x:Int),.slice (some ⟨wr.heap.size,0,none⟩) 1 1] 231)):=((Below.refl _ _).alloc (Nat.le_refl _) _).alloc (by simp) _;have hnew:=(Row.new wr 3 [.int .i64 (k:Int)]).alloc (.cells #[.int .i64 (x:Int),.slice (some ⟨wr.heap.size,0,none⟩) 1 1] 231);have hfin:∃T',T'.length≤k+1∧yB cs (k+1) T'∧w7.ownsRow w.heap.size 231 2 u' T'.length (p2 T')∧jr w7 T':=by
     have hkind:∀b,u3.ownBlock=some b→∃cs,Row ((wr.alloc (.cells #[.int .i64 (k:Int)] 3)).alloc (.cells #[.int .i64 (x:Int),.slice (some ⟨wr.heap.size,0,none⟩) 1 1] 231)) b 231 cs:=fun b hb=>by
      rcases tT.out.2 with⟨rfl,_⟩ | ⟨g',cap',cur,rfl,_,hg',_⟩
      ·cases hb
      ·simp only[Value.ownBlock,Option.some.injEq]at hb;subst hb;have hr':Row wr g' 231 cur.toList:=by unfold Row;rw[Array.toArray_toList];exact hg'
       exact⟨_,(hr'.alloc _).alloc _⟩
     refine⟨T++[(x,(wr.heap.size,1),[k])],by rw[List.length_append,←Hn.out];simp;omega,?_,?_,fun t ht=>?_⟩
     ·have h2:=HT.out;unfold yB at h2 ⊢;rw[Hlv.out,List.map_append,List.map_append,h2];rfl
     ·rw[List.length_append,←Hn.out,wz];exact bN
     ·rcases List.mem_append.1 ht with ht | ht
      ·exact(((Hsm.out.below hb2)).grown gH hkind) t ht
      ·simp only[List.mem_singleton]at ht;subst ht;refine⟨[],hnew.keep (gH.block _ hnew.lt (fun e=>?_))⟩;have:=(tT.out.lt _ e.symm).2;omega
    have lu:=hid hfin;have Hb7:=hid ((hbel.out.trans (hb2.mono hws)).grown gH (Nat.le_trans hws hb2.size) (fun q hq=>(tT.out.lt q hq).1));clear hfin hb2 hnew bN gH tT Hsm HT hbel c0;go_wp2;go_roundw
    case rel=>exact⟨k+1,by omega,by go_num,lu,Hb7⟩
    case measure=>simp[intOf];omega
   ·rw[if_neg h0,List.append_nil]at Hlv;go_wp2;go_roundw
    case rel=>exact⟨k+1,by omega,by go_num,hid (by
     obtain⟨T,h1,h2,h3,h4⟩:=hst.out;exact⟨T,by omega,by unfold yB at h2 ⊢;rw[Hlv.out];exact h2,h3,h4⟩),hbel⟩
    case measure=>simp[intOf];omega
  ·obtain rfl:k=cs.length:=by omega
   obtain⟨T,hTl,hT,hown,hsm⟩:=hst.out;have hTn:T.length=(lvs cs).length:=by
    have:=congrArg List.length hT;rw[List.length_map,List.length_map]at this;exact this
   have h1:=AB cs Hex.out;obtain⟨_,g,cap,post,hv,hbg,hnc,hcm,abm⟩:=oP hown (by omega);subst hv;have tu:Light T:=fun t ht=>by
    have hm:(t.1,t.2.2)∈(iM cs cs.length).map (fun u=>(u.1,[u.2])):=by
     rw[←hT];exact List.mem_map.2 ⟨t,ht,rfl⟩
    obtain⟨u,hu,e⟩:=List.mem_map.1 hm;obtain⟨u1,u2,u3⟩:=(bX cs cs.length u).1 hu;injection e with e1 _
    rw[←e1,u2,List.getElem?_eq_getElem u1,Option.getD_some];have:=Hm.out _ (List.getElem_mem u1);omega
   have Hli:=hid (tQ g cap T post wr (by omega) tu abm);have fu:=hid abm;have Hsm:=hid hsm;have HT:=hid hT;have HTn:=hid hTn;clear hst hown hsm hT abm tu hTn;go_wp2_with fail
   refine Hli.out.mono ?_;rintro e w2 ⟨rfl,S,k1,k2,k3,k4⟩;obtain⟨z1,z2,z3⟩:=XT HT.out k2 k3;have hsl:=k3.1.length_eq;have akc:jr w2 S:=fun t ht=>(Hsm.out.grown k4 (fun b hb=>by injection hb with hb;subst hb;exact⟨_,fu.out⟩)) t (k3.1.mem_iff.2 ht)
   have hfin:S.length≤cap∧cap≤maxLen∧dh w2 g S post∧jr w2 S∧uY cs S∧(S.map (·.1)).Perm (je cs)∧S.length=(lvs cs).length∧Below w.heap.size w w2:=
    ⟨by omega,hcm,k1,akc,z1,z2,z3,below_grown (tq (ak hbel.out (some g)) k4) hbg (Nat.le_refl _)⟩
   have Hf:=hid hfin;rw[hsl];clear hfin k1 k2 k3 k4 akc z1 z2 z3 hsl Hli;go_wp2;go_ret;exact⟨g,cap,post,S,rfl,Hf.out⟩
def Za:Prop:=∀(W:World) (g cap:Nat) (T:List Pcl) (post:List Value),2≤T.length→T.length≤1000→T.length≤cap→cap≤maxLen→(∀t∈T,t.1≤1100000000∧1≤t.2.2.length∧t.2.2.length≤2000)→dh W g T post→jr W T →
 Calls prog 175 #[.slice (some ⟨g,0,none⟩) T.length cap] W fun e w'=>∃v P,e=.returned v∧mg T P∧w'.ownsRow W.heap.size 231 2 v P.length (p2 P)∧jr w' P∧Below W.heap.size W w'
structure ahi(w wr:World)(g cap:Nat)(S T:List Pcl)(t:Nat):Prop where
 lev:Lev S t T
 fits:T.length≤cap
 most:cap≤maxLen
 row:∃post,dh wr g T post
 sy:jr wr T
theorem Iz{w:World}{g:Nat}{L:List Pcl}{post:List Value}(h:dh w g L post):∀W,Below w.heap.size w W→∀j u,(p2 L)[j]?=some u→W.cell? ((⟨g,0,none⟩:Addr).add j)=some u:=fun W hW j u hu=>by
 have h1:=h.below hW;have e:((⟨g,0,none⟩:Addr).add j)=⟨g,j,none⟩:=by
  unfold Addr.add;split<;>simp_all
 have hj:j<(p2 L).length:=(List.getElem?_eq_some_iff.1 hu).1;rw[e,Row.cell h1,List.getElem?_append_left hj];exact hu
theorem Yo(hP:Za)(A:Option Addr)(c:Nat)(cs:List Nat)(w:World)(hl:cs.length≤256)(hm:∀x∈cs,x≤1048576)(hex:∃x∈cs,0<x)(h2:2≤(lvs cs).length)(hr:Reads w A (aM cs)) :
  Calls prog 139 #[.slice A cs.length c] w fun e w'=>∃v,e=.returned v∧BX w w' cs v:=by
 obtain⟨i0,hi,hz0,hz1,hz2⟩:=info_parts gI;have Hsi:=hid (Ud A c cs w hl hm hex hr);have hlv:(lvs cs).length≤256:=Nat.le_trans (ko cs cs.length) hl;have Hm:=hid hm;have HP:=hid hP;clear hr hm hex hP;go_enter func139,ntmps139
 go_wp2_with fail
 refine Hsi.out.mono ?_;rintro e w1 ⟨gS,ado,postS,S,rfl,hSc,aly,aaY,aht,hSN,Zh,aeH,hb1⟩;obtain⟨n,hn⟩:∃n,n=S.length:=⟨_,rfl⟩;have hn2:2≤n:=by omega
 have alN:n≤256:=by omega
 have Hn:=hid hn;have Hb1:=hid hb1;have HSN:=hid hSN;have adE:=hid aaY;have aii:=hid aht;have YN:=hid Zh;have adD:=hid aeH;have hst:ahi w w1 gS ado S S 0:=⟨.zero,hSc,aly,⟨postS,aaY⟩,aht⟩;have Hst:=hid hst;rw[←hn]at hSc ⊢;clear hst hSN aaY aht Zh aeH hb1 hn Hsi;go_wp2;go_loopw [4,13] (fun lv iv wr=>∃(t g cap m:Nat) (T:List Pcl),iv=.int .i64 (t:Int)∧t≤10∧lv=.slice (some ⟨g,0,none⟩) m cap∧m=T.length∧Hid (ahi w wr g cap S T t)∧Hid (Below w1.heap.size w1 wr)) (fun _ iv _=>10-(intOf iv).toNat)
 case atStart=>exact⟨0,gS,ado,n,S,rfl,by omega,rfl,Hn.out,Hst,hid (Below.refl _ _)⟩
 case round=>
  obtain⟨t,g,cap,m,T,rfl,ht,rfl,hmT,IZ,hb⟩:=hrel;clear Hst;obtain⟨z1,z2,z3⟩:=Wy HSN.out Hm.out IZ.out.lev;have ahD:2^t≤1024:=by
   have:2^t≤2^10:=Nat.pow_le_pow_right (by omega) ht;have h3:(2:Nat)^10=1024:=by decide
   omega
  rw[←hmT,←Hn.out]at z1 z2;have HmT:=hid hmT;clear hmT;by_cases htl:t<10
  ·have hpc:Calls prog 175 #[.slice (some ⟨g,0,none⟩) m cap] wr fun e w'=>∃v P,e=.returned v∧Hid (mg T P∧w'.ownsRow wr.heap.size 231 2 v P.length (p2 P)∧jr w' P∧Below wr.heap.size wr w'):=by
    have hmT:=HmT.out;obtain⟨post,hrow⟩:=IZ.out.row;have h:=HP.out wr g cap T post (by omega) (by omega) IZ.out.fits IZ.out.most (fun u hu=>by
     have h3:=z3 u hu;have h4:=((Jo HSN.out IZ.out.lev).2 u hu).2.1;have:2^t*1048576≤1024*1048576:=Nat.mul_le_mul_right _ ahD;omega) hrow IZ.out.sy
    rw[←hmT]at h;exact h.mono fun e w' ⟨v,P,h1,h2,h3,h4,h5⟩=>⟨v,P,h1,hid ⟨h2,h3,h4,h5⟩⟩
   have Hpc:=hid hpc;clear hpc;go_wp2_with fail
   refine Hpc.out.mono ?_;rintro e w2 ⟨v,P,rfl,hp⟩;obtain⟨hpo,hown,akg,hb2⟩:=hp.out;have hPl:=hpo.len;rw[←HmT.out]at hPl;obtain⟨_,gP,Vl,amc,hv,hgP,hPc,amo,aeG⟩:=oP hown (by omega);subst hv;have Hpo:=hid hpo;have aky:=hid akg;have agB:=hid aeG;have Hb2:=hid (hb.out.trans (hb2.mono hb.out.size));obtain⟨pl,hpl⟩:∃pl,pl=P.length:=⟨_,rfl⟩;rw[←hpl]at hPl hPc ⊢;have Hpl:=hid hpl;have yg:1≤pl:=by omega
   have LA:pl≤1000:=by omega
   have ajc:∀u∈P,u.1≤4000000000:=fun u hu=>by
    obtain⟨x,hx,rfl⟩:=List.mem_iff_getElem.1 hu;have a1:=hpo.wt x hx;have hl2:=hpo.len;have hmT:=HmT.out;unfold Bm.wt at a1;rw[List.getElem?_eq_getElem hx,Option.getD_some]at a1;have b1:=z3 _ (nD (show 2*x<T.length by omega));have b2:=z3 _ (nD (show 2*x+1<T.length by omega));have:2^t*1048576≤1024*1048576:=Nat.mul_le_mul_right _ ahD;omega
   have akz:=hid ajc;have HPl:=hid hPl;have amT:=hb.out.size;clear hp hown akg aeG hb2 hpo hpl Hpc ajc hb hPl;have hcon:∀o,o=Obj.cells #[.slice (some ⟨gS,0,none⟩) n ado,.slice (some ⟨gP,0,none⟩) pl Vl] 226→Calls prog 174 #[.slice (some ⟨w2.heap.size,0,none⟩) 2 2] (w2.alloc o) fun e w'=>∃g2 cap2,e=.returned (.slice (some ⟨g2,0,none⟩) (n+pl) cap2)∧Hid (w1.heap.size≤g2∧n+pl≤cap2∧cap2≤maxLen∧(∃post,dh w' g2 (S++P) post)∧jr w' (S++P)∧Below w1.heap.size w1 w'):=by
    rintro o rfl;have hal:=(Below.refl w2.heap.size w2).alloc (Nat.le_refl _) (.cells #[.slice (some ⟨gS,0,none⟩) n ado,.slice (some ⟨gP,0,none⟩) pl Vl] 226);have hw3:=Hb2.out.trans (hal.mono Hb2.out.size);have h:=TW w2.heap.size gS n ado gP pl Vl S P _ (by omega) Hn.out.symm Hpl.out.symm (by omega) (by omega) (Row.new w2 226 [.slice (some ⟨gS,0,none⟩) n ado,.slice (some ⟨gP,0,none⟩) pl Vl]) (Iz (adE.out.below hw3)) (Iz (agB.out.below hal));refine h.mono ?_;rintro e w' ⟨v,he,hown,hb⟩;obtain⟨hlen,g2,cap2,RO,hv,hg2,hc2,hm2,hrow2⟩:=oP hown (by omega);refine⟨g2,cap2,by rw[he,hv],hid ⟨Nat.le_trans hw3.size hg2,hc2,hm2,⟨RO,hrow2⟩,fun t ht=>?_,hw3.trans (hb.mono hw3.size)⟩⟩;rcases List.mem_append.1 ht with ht | ht
    ·exact(aii.out.below (hw3.trans (hb.mono hw3.size))) t ht
    ·exact((aky.out.below hal).below hb) t ht
   have ade:=hid (hcon _ rfl);clear hcon;go_wp2_with fail
   refine ade.out.mono ?_;rintro e w4 ⟨g2,cap2,rfl,hh⟩;obtain⟨hg2,hc2,hm2,⟨RO,hrow2⟩,hsy2,hb4⟩:=hh.out;have PW:∀u∈S,u.1≤4000000000:=fun u hu=>by
    obtain⟨i,e1,e2,_,e4⟩:=HSN.out.one u hu;rw[e2];unfold bH;rw[List.getElem?_eq_getElem e4,Option.getD_some];have:=Hm.out _ (List.getElem_mem e4);omega
   have hSP:(S++P).length=n+pl:=by rw[List.length_append,←Hn.out,←Hpl.out]
   have hli:=tQ g2 cap2 (S++P) RO w4 (by omega) (fun u hu=>by
    rcases List.mem_append.1 hu with hu | hu
    ·exact PW u hu
    ·exact akz.out u hu) hrow2
   rw[hSP]at hli;have Hli:=hid hli;have dJ:=hid hrow2;have agY:=hid hsy2;have Hb4:=hid hb4;have HSP:=hid hSP;clear hh hrow2 hsy2 hb4 PW hli hSP ade;go_wp2_with fail
   refine Hli.out.mono ?_;rintro e w5 ⟨rfl,T',k1,k2,k3,k4⟩;have hT':n+pl=T'.length:=by rw[←k3.1.length_eq,HSP.out]
   have afb:ahi w w5 g2 cap2 S T' (t+1):=⟨.succ IZ.out.lev Hpo.out k3 k2,by omega,hm2,⟨RO,k1⟩,fun u hu=>(agY.out.grown k4 (fun b hb=>by injection hb with hb;subst hb;exact⟨_,dJ.out⟩)) u (k3.1.mem_iff.2 hu)⟩;have agM:=hid afb;have Hb5:Hid (Below w1.heap.size w1 w5):=hid (below_grown (tq (ak Hb4.out (some g2)) k4) hg2 (Nat.le_refl _));have HT':=hid hT';clear k1 k2 k3 k4 afb hT' Hli IZ;go_wp2;go_roundw
   case rel=>exact⟨t+1,g2,cap2,n+pl,T',by go_num,by omega,rfl,HT'.out,agM,Hb5⟩
   case measure=>simp[intOf];omega
  ·obtain rfl:t=10:=by omega
   obtain⟨b1,b2⟩:=KI HSN.out hl (by rw[←Hn.out];exact hn2) (by rw[adD.out,←mJ,List.length_map]) YN.out IZ.out.lev;rw[←Hn.out]at b1 b2;have adW:=hid b2;obtain⟨K,hK⟩:∃K,K=2*n-2:=⟨_,rfl⟩;have hKm:K≤m:=by rw[HmT.out,hK];exact b1
   have hKi:2*(n:Int)-2=(K:Int):=by omega
   have hcm:=IZ.out.fits;rw[←HmT.out]at hcm;have hKc:K≤cap:=by omega
   have hok:=(Jo HSN.out IZ.out.lev).2;have hcl:=IZ.out.most;unfold maxLen at hcl;rw[←hK]at adW;have Hok:=hid hok;have agL:=hid IZ.out;have alu:K≤512:=by omega
   have Hsz:=hid z3;have Hbw:Hid (Below w.heap.size w wr):=hid (Hb1.out.trans (hb.out.mono Hb1.out.size));obtain⟨wt,hwt⟩:∃wt:World,wt=wr:=⟨_,rfl⟩;subst hwt;clear b1 b2 hok IZ hb z1 z2 z3 hK HSN adE aii YN adD Hb1;go_wp2_with (at_make;refine wpList_make_full _ rfl _ _ 112 rfl wt.heap.size 3 i0 (.int .i64 0) 1 underlying112 hi hz0 hz1 .i64 .i64 _ _ cs.length rfl rfl ?c1 ?c1 ?c2 ?c3 ?c4 ?_)
   case c1=>omega
   case c2=>first | omega | (rw[hz2];omega)
   case c3=>unfold maxLen;omega
   try case c4=>exact Nat.le_refl _
   intro w7 bN hg7;obtain⟨g0,hg0⟩:∃g0,g0=wt.heap.size:=⟨_,rfl⟩;have dO:=dF bN;rw[←LV,←hg0]at dO;have Hg0:=hid hg0;have jR:Hid (Row w7 g0 3 (aM (dD cs (bq (T.take 0))))):=hid (by simpa [bq]using dO);have Hb7:=hid (aJ hg7);have ahL:∀L:List Pcl,(∀u∈L,u∈T)→(bq L).length≤1024*L.length:=fun L=>by
    induction L with
    | nil=>intro _;simp[bq]
    | cons u L ih=>
     intro hL;have h3:=ih (fun v hv=>hL v (List.mem_cons_of_mem _ hv));have h4:=(Hsz.out u (hL u List.mem_cons_self)).1;have e2:bq (u :: L)=u.2.2++bq L:=by simp[bq]
     have h5:(2:Nat)^10=1024:=by decide
     rw[e2,List.length_append,List.length_cons];omega
   have aiQ:=hid ahL;rw[←hg0];clear bN hg7 dO hg0 ahL ahD Hsz;go_wp2;go_loopw [32] (fun kv wr=>∃(k:Nat),kv=.int .i64 (k:Int)∧k≤K∧Hid (Row wr g0 3 (aM (dD cs (bq (T.take k)))))∧Hid (Below wt.heap.size wt wr)) (fun kv _=>K-(intOf kv).toNat)
   case atStart=>exact⟨0,rfl,by omega,jR,Hb7⟩
   case round=>
    obtain⟨k,rfl,hk,hrow,hb⟩:=hrel;clear jR Hb7;by_cases hkK:k<K
    ·obtain⟨amd,aeI⟩:=agL.out.row;have hkT:k<T.length:=by have:=HmT.out;omega
     obtain⟨u,hu⟩:∃u,u=T[k]:=⟨_,rfl⟩;have huT:u∈T:=by rw[hu];exact List.getElem_mem hkT
     have hTk:T[k]?=some u:=by rw[hu];exact List.getElem?_eq_getElem hkT
     obtain⟨c0,c1⟩:=rT (aeI.below hb.out) hTk;have hsy:=(agL.out.sy.below hb.out) u huT;obtain⟨ame,aeJ⟩:=agL.out.sy u huT;have HU:=hid aeJ;have hnext:bq (T.take (k+1))=bq (T.take k)++u.2.2:=by
      rw[List.take_succ_eq_append_getElem hkT,fF,←hu];simp[bq]
     have xY:=hid hnext;have huk:=fun y (hy:y∈u.2.2)=>((Hok.out u huT).2.2 y hy).2
     have Huk:=hid huk;have hul:u.2.2.length≤1048576*1024:=by
      have h3:=aiQ.out [u] (fun v hv=>by simp only[List.mem_singleton]at hv;subst hv;exact huT);simp[bq]at h3;omega
     have hYl:=aiQ.out (T.take k) (fun v hv=>List.mem_of_mem_take hv);rw[List.length_take]at hYl;have HYl:Hid ((bq (T.take k)).length≤1024*1024):=hid (by omega);simp only[JG]at c1;obtain⟨us,hus⟩:∃us,us=u.2.2:=⟨_,rfl⟩;obtain⟨ub,hub⟩:∃ub,ub=u.2.1.1:=⟨_,rfl⟩;obtain⟨uc,huc⟩:∃uc,uc=u.2.1.2:=⟨_,rfl⟩;rw[←hus,←hub,←huc]at c1;rw[←hus,←hub]at HU;rw[←hus]at xY Huk hul;have hkc:(k:Int)<(K:Int):=by omega
     have alV:=hb.out.size;clear aeI hu huT hTk hsy aeJ hnext huk hYl hus hub huc hkT;generalize u.1=uw at c0;go_wp2;rename World=>wx
     have Hst:Hid (Row (wx.alloc (.cells #[.int .i64 (uw:Int),.slice (some ⟨ub,0,none⟩) us.length uc] 231)) g0 3 (aM (dD cs (bq (T.take k)++us.take 0)))):=hid (by simpa using hrow.out.alloc _);have Hb8:Hid (Below wt.heap.size wt (wx.alloc (.cells #[.int .i64 (uw:Int),.slice (some ⟨ub,0,none⟩) us.length uc] 231))):=hid (hb.out.alloc alV _);clear hrow hb c0 c1;go_loopw [39] (fun jv wr=>∃(j:Nat),jv=.int .i64 (j:Int)∧j≤us.length∧Hid (Row wr g0 3 (aM (dD cs (bq (T.take k)++us.take j))))∧Hid (Below wt.heap.size wt wr)) (fun jv _=>us.length-(intOf jv).toNat)
     case atStart=>exact⟨0,rfl,by omega,Hst,Hb8⟩
     case round=>
      obtain⟨j,rfl,hj,hrow,hb⟩:=hrel;clear Hst Hb8;by_cases hjl:j<us.length
      ·have hUr:=aN HU.out hb.out;have c0:wr.cell? ⟨ub,j,none⟩=some (.int .i64 (us[j]:Int)):=by
        rw[hUr.cell,List.getElem?_append_left (by rw[aL];exact hjl),bK us j hjl]
       have hy:=Huk.out us[j] (List.getElem_mem hjl);obtain⟨y,hyy⟩:∃y,y=us[j]:=⟨_,rfl⟩;rw[←hyy]at c0 hy;obtain⟨Y,hYY⟩:∃Y,Y=bq (T.take k)++us.take j:=⟨_,rfl⟩;have hstep:=FJ cs Y y;have hY2:bq (T.take k)++us.take (j+1)=Y++[y]:=by rw[List.take_succ_eq_append_getElem hjl,←List.append_assoc,←hYY,←hyy]
       have amy:Y.count y≤1048576*2048:=by
        have h3:=List.count_le_length (a:=y) (l:=Y);have h4:Y.length=(bq (T.take k)).length+min j us.length:=by rw[hYY,List.length_append,List.length_take]
        have:=HYl.out;omega
       rw[←hYY]at hrow;have hll:(dD cs Y).length=cs.length:=by simp[dD]
       have c1:wr.cell? ⟨g0,y,none⟩=some (.int .i64 ((Y.count y:Nat):Int)):=by
        rw[hrow.out.cell,bK _ y (by omega)];simp[dD]
       have f1:wr.frozen? ⟨g0,y,none⟩=false:=hrow.out.free y;have hrow2:Row (wr.setCell ⟨g0,y,none⟩ (.int .i64 ((Y.count y:Int)+1))) g0 3 (aM (dD cs (bq (T.take k)++us.take (j+1)))):=by
        rw[hY2,hstep];have h1:=hrow.out.aW y (.int .i64 ((Y.count y:Int)+1));rw[show aM ((dD cs Y).set y (Y.count y+1))=(aM (dD cs Y)).set y (.int .i64 ((Y.count y:Int)+1)) by simp[aM,List.map_set]];exact h1
       have dJ:=hid hrow2;have Hb2:=hid (hb.out.setCell (p:=⟨g0,y,none⟩) (by rw[Hg0.out];exact Nat.le_refl _) (.int .i64 ((Y.count y:Int)+1)));clear hUr hyy hYY hstep hY2 hll hrow2 hrow hb;generalize Y.count y=cn at *;go_wp2;go_roundw
       case rel=>exact⟨j+1,by go_num,by omega,dJ,Hb2⟩
       case measure=>simp[intOf];omega
      ·obtain rfl:j=us.length:=by omega
       have dJ:Hid (Row wr g0 3 (aM (dD cs (bq (T.take (k+1)))))):=hid (by
        rw[xY.out];have h1:=hrow.out;rw[List.take_length]at h1;exact h1)
       clear hrow;go_wp2;go_roundw
       case rel=>exact⟨k+1,by go_num,by omega,dJ,hb⟩
       case measure=>simp[intOf];omega
    ·obtain rfl:k=K:=by omega
     have hfin:BX w wr cs (.slice (some ⟨g0,0,none⟩) cs.length cs.length):=⟨_,_,_,rfl,Nat.le_refl _,fun _=>⟨g0,0,rfl,fun j _=>by rw[Nat.zero_add];exact hrow.out.cell j⟩,adW.out,Hbw.out.trans (hb.out.mono Hbw.out.size)⟩;have Hf:=hid hfin;clear hfin hrow hb;go_wp2;go_ret;exact⟨_,rfl,Hf.out⟩
end Go.Proofs.YtgiicohbigiapaaGreat
