/- Contracts, and what they rest on. Conditions: the theorems' premises. -/
import Derived.Test.YtgiicohbigiapaaGreatYan
import Derived.Lib.OwnKind
import Derived.Deep.AppendLies
set_option maxHeartbeats 4000000
set_option maxRecDepth 100000
open Go.Lib(hid)
open Go.Proofs.Tryz Go.Proofs.YtgiicohbigiapaaGreat.Bm
namespace Go.Proofs.YtgiicohbigiapaaGreat
open Go.RowKit
namespace Bm
theorem NN(p:Int→Prop)(l:List Int)(k:Nat)(h:k<l.length)(h0:∀x∈l.take k,p x)(h1:p l[k]):∀x∈l.take (k+1),p x:=by
 rw[List.take_succ_eq_append_getElem h];intro x hx;rcases List.mem_append.1 hx with h2 | h2
 ·exact h0 x h2
 ·rw[List.mem_singleton.1 h2];exact h1
theorem Qi(l:List Nat)(k:Nat)(h:k<l.length):krN (l.take (k+1))=krN (l.take k)+dw l[k]∧jd (l.take (k+1))=jd (l.take k)+if 0<l[k]then 1 else 0:=by
 unfold krN jd;rw[List.take_succ_eq_append_getElem h,List.map_append,List.sum_append_nat,List.countP_append,List.countP_singleton];simp
theorem Rb(n:Nat):dw n≤1024:=by
 unfold dw;split
 ·omega
 ·exact Nat.pow_le_pow_right (n:=2) (j:=10) (by omega) (by omega)
theorem ahh(l:List Nat):krN l≤1024*l.length:=by
 unfold krN;induction l with
 | nil=>simp
 | cons a l ih=>have:=Rb a;rw[List.map_cons,List.sum_cons,List.length_cons];omega
theorem abS(l:List Nat):jd l≤l.length:=List.countP_le_length
end Bm
theorem fM{w:World}{A:Option Addr}{l:List Nat}(h:Reads w A (aL l))(hne:0<l.length):∃g off,A=some ⟨g,off,none⟩∧∀j (hj:j<l.length),w.cell? ⟨g,off+j,none⟩=some (.int .i64 (l[j]:Int)):=by
 have hne':aL l≠[]:=fun e=>by
  have h1:=congrArg List.length e;rw[aM,List.length_nil]at h1;omega
 obtain⟨g,off,e,hc⟩:=h hne';exact⟨g,off,e,fun j hj=>by rw[hc j (by rw[aM];exact hj),bK l j hj]⟩
def afi:Option (List Nat)→Value
 | none=>.tuple #[.string (strOf []),.bool false]
 | some s=>.tuple #[.string (strOf s),.bool true]
theorem UJ(A:Option Addr)(L c q:Nat)(W:World)(h:q≤L)(hc:L≤c):(Instr.slice 112 (.slice A L c) none (some (.int .i64 (q:Int))) none).run prog W=.ok (.slice A q c) W:=by
 have h1:q≤c:=by omega
 rcases A with _ | a
 ·go_simp
 ·go_simp
def Nr(l:List Int)(k:Nat):Prop:=k≤l.length∧(∀j (h:j<l.length),k≤j→l[j]=0)∧(k=0∨∃h:k-1<l.length,l[k-1]≠0)
namespace Bm
theorem rM:∀(ls:List Nat) (k:Nat),k≤ls.length→(∀j,k≤j→ls[j]?.getD 0=0)→(k=0∨ls[k-1]?.getD 0≠0)→aI ls=ls.take k
 | [],k,hk,_,_=>by simp[aI]
 | n :: l,k,hk,hz,hl=>by
  have hsum:∀l:List Nat,(∀j,l[j]?.getD 0=0)→l.sum=0:=fun l=>by
   induction l with
   | nil=>simp
   | cons a l ih=>
    intro h;have h0:=h 0;rw[List.getElem?_cons_zero,Option.getD_some]at h0;rw[List.sum_cons,h0,ih (fun j=>by have:=h (j+1);rwa [List.getElem?_cons_succ]at this)]
  have aha:∀(l:List Nat) (j:Nat),l.sum=0→l[j]?.getD 0=0:=fun l=>by
   induction l with
   | nil=>intro j _;simp
   | cons a l ih=>
    intro j h;rw[List.sum_cons]at h;cases j with
    | zero=>rw[List.getElem?_cons_zero,Option.getD_some];omega
    | succ j=>rw[List.getElem?_cons_succ];exact ih j (by omega)
  unfold aI;rcases k with _ | k
  ·rw[if_pos (by have:=hsum (n :: l) (fun j=>hz j (by omega));rwa [List.sum_cons]at this),List.take_zero]
  ·have hne:¬(n+l.sum=0):=fun h=>by
    rcases hl with h1 | h1
    ·omega
    ·exact h1 (aha (n :: l) _ (by rw[List.sum_cons];exact h))
   rw[if_neg hne,List.take_succ_cons];congr 1
   refine rM l k (by simpa using hk) (fun j hj=>by have:=hz (j+1) (by omega);rwa [List.getElem?_cons_succ]at this) ?_;rcases hl with h1 | h1
   ·omega
   ·rcases k with _ | k
    ·exact .inl rfl
    ·refine .inr ?_;rw[Nat.add_sub_cancel,List.getElem?_cons_succ]at h1;rw[Nat.add_sub_cancel];exact h1
end Bm
theorem Mq(ls:List Nat)(k:Nat)(h:Nr (ls.map (fun n:Nat=>(n:Int))) k):aI ls=ls.take k∧k=(aI ls).length∧k≤ls.length:=by
 obtain⟨h1,h2,h3⟩:=h;rw[List.length_map]at h1;have e:aI ls=ls.take k:=by
  refine rM ls k h1 (fun j hj=>?_) ?_
  ·rcases Nat.lt_or_ge j ls.length with h4 | h4
   ·have h5:=h2 j (by rw[List.length_map];exact h4) hj;rw[List.getElem_map]at h5;rw[List.getElem?_eq_getElem h4,Option.getD_some];omega
   ·rw[List.getElem?_eq_none h4];rfl
  ·rcases h3 with h4 | ⟨h4,h5⟩
   ·exact .inl h4
   ·right
    rw[List.length_map]at h4;rw[List.getElem_map]at h5;rw[List.getElem?_eq_getElem h4,Option.getD_some];omega
 exact⟨e,by rw[e,List.length_take];omega,h1⟩
theorem LW{w:World}{A:Option Addr}{xs:List Value}(h:Reads w A xs)(k:Nat):Reads w A (xs.take k):=fun hne=>by
 obtain⟨g,off,e,hc⟩:=h (by rintro rfl;simp at hne);refine⟨g,off,e,fun j hj=>?_⟩;rw[List.length_take]at hj;rw[hc j (by omega),List.getElem?_take,if_pos (by omega)]
def rsI(k m x:Int):Int:=bits .or .u32 (bits .and .u32 (x/k) m) (bits .and .u32 x m*k%4294967296)
def rbI(x:Int):Int:=bits .or .u32 (rsI 256 16711935 x/65536) (rsI 256 16711935 x*65536%4294967296)
def rvI(x:Int):Int:=rbI (rsI 16 252645135 (rsI 4 858993459 (rsI 2 1431655765 x)))
theorem Xb(x:Int)(w:World) :
  Calls prog 209 #[.int .u32 x] w fun e w'=>e=.returned (.int .u32 (rbI x))∧w=w':=by
 go_enter func209,ntmps209
 go_wp2;go_ret;exact⟨rfl,rfl⟩
theorem abL(x:Int)(w:World) :
  Calls prog 176 #[.int .u32 x] w fun e w'=>e=.returned (.int .u32 (rvI x))∧w=w':=by
 have H:=hid (fun y=>Xb y w);go_enter func176,ntmps176
 go_wp2_with fail
 refine(H.out _).mono ?_;rintro e w' ⟨rfl,rfl⟩;go_wp2;go_ret;exact⟨rfl,rfl⟩
namespace Bm
def afI(n c:Nat):List Nat:=(List.range n).map fun j=>c/2^(n-1-j)%2
theorem OB(ls:List Nat)(s:Nat):aW ls s=afI (ls[s]?.getD 0) (eG ls s):=rfl
end Bm
theorem afa:((List.range 12).all fun n=>(List.range (2^n)).all fun c=>rvI (c:Int)/2^(32-n) == ((Bm.dP (afI n c):Nat):Int))=true:=by kernel_rfl
theorem ahm(n c:Nat)(hn:n≤11)(hc:c<2^n):rvI (c:Int)/2^(32-n)=((Bm.dP (afI n c):Nat):Int):=by
 have h:=afa;rw[List.all_eq_true]at h;have h1:=h n (List.mem_range.2 (by omega));rw[List.all_eq_true]at h1;exact beq_iff_eq.1 (h1 c (List.mem_range.2 hc))
theorem Qq(n c:Nat)(w:World)(hn:n≤11)(hc:c<2^n) :
  Calls prog 143 #[.int .i64 (c:Int),.int .i64 (n:Int)] w fun e w'=>e=.returned (.int .u32 (Bm.dP (afI n c):Int))∧w=w':=by
 have H:=hid (abL (c:Int) w);have hc2:c<2048:=Nat.lt_of_lt_of_le hc (Nat.pow_le_pow_right (n:=2) (j:=11) (by omega) hn);have Hv:=hid (ahm n c hn hc);have hcu:IntKind.u32.wrap (c:Int)=(c:Int):=by simp[IntKind.wrap,IntKind.bits,IntKind.signed];omega
 clear hc;go_enter func143,ntmps143
 go_wp2_with fail
 refine H.out.mono ?_;rintro e w' ⟨rfl,rfl⟩;go_wp2;go_ret;exact⟨congrArg (fun x=>Ending.returned (Value.int .u32 x)) Hv.out,rfl⟩
end Go.Proofs.YtgiicohbigiapaaGreat
namespace Go.Proofs.YtgiicohbigiapaaGreat.Bm
theorem BZ(ls:List Nat)(i:Nat)(h:i<ls.length):(iO ls)[i]'(by simpa [iO]using h)=eG ls i:=by simp[iO]
theorem jr(ls:List Nat):(iO ls).length=ls.length:=by simp[iO]
def mU(F:List (Int×Int))(a b:Nat):Int:=if b=0 then(F[a]?.getD (0,0)).1 else(F[a]?.getD (0,0)).2
def JE(F:List (Int×Int))(a b:Nat)(z:Int):List (Int×Int):=F.set a (if b=0 then(z,(F[a]?.getD (0,0)).2)else((F[a]?.getD (0,0)).1,z))
theorem bY(F:List (Int×Int))(a b:Nat)(z:Int):(JE F a b z).length=F.length:=by simp[JE]
theorem zY(F:List (Int×Int))(a b:Nat)(z:Int)(ha:a<F.length):mU (JE F a b z) a b=z:=by
 unfold mU JE;rw[List.getElem?_set_self ha,Option.getD_some];split<;>rfl
theorem Ck(F:List (Int×Int))(a b a' b':Nat)(z:Int)(hb:b<2)(hb':b'<2)(h:¬(a'=a∧b'=b)):mU (JE F a b z) a' b'=mU F a' b':=by
 unfold mU JE;by_cases ha:a'=a
 ·subst ha;have hne:b'≠b:=fun e=>h ⟨rfl,e⟩
  rcases Nat.lt_or_ge a' F.length with hl | hl
  ·rw[List.getElem?_set_self hl,Option.getD_some];by_cases h0:b=0
   ·rw[if_pos h0,if_neg (show ¬b'=0 by omega),if_neg (show ¬b'=0 by omega)]
   ·rw[if_neg h0,if_pos (show b'=0 by omega),if_pos (show b'=0 by omega)]
  ·rw[List.set_eq_of_length_le hl]
 ·rw[List.getElem?_set_ne (fun e=>ha e.symm)]
theorem OX(F:List (Int×Int))(a b:Nat)(t:Int×Int)(ha:a<F.length):mU (F++[t]) a b=mU F a b:=by
 unfold mU;rw[List.getElem?_append_left ha]
theorem aai(F:List (Int×Int))(b:Nat):mU (F++[(0,0)]) F.length b=0:=by
 unfold mU;rw[List.getElem?_append_right (Nat.le_refl _),Nat.sub_self];simp
def afK(ls:List Nat)(q:Nat)(P:List (List Nat))(z:Int)(p:List Nat):Prop:=
 (0<z→P[z.toNat]?=some p)∧(z=0→p ∉ P∧∀k,k<q→0<ls[k]?.getD 0→aW ls k≠p)∧(z<0→∃k:Nat,k<q∧z=-1-(k:Int)∧0<ls[k]?.getD 0∧aW ls k=p)
structure Tr(ls:List Nat)(q:Nat)(P:List (List Nat))(F:List (Int×Int)):Prop where
 len:F.length=P.length
 root:P[0]?=some []
 nodup:P.Nodup
 clo:∀p b,p++[b]∈P→p∈P
 pre:∀p∈P,p≠[]→∃k,k≤q∧0<ls[k]?.getD 0∧p <+: aW ls k∧p.length<ls[k]?.getD 0
 all:∀k,k<q→0<ls[k]?.getD 0→∀i,i<ls[k]?.getD 0→(aW ls k).take i∈P
 ent:∀a p,P[a]?=some p→∀b,b<2→afK ls q P (mU F a b) (p++[b])
theorem Tr.start(ls:List Nat):Tr ls 0 [[]] [(0,0)] where
 len:=rfl
 root:=rfl
 nodup:=by simp
 clo:=fun p b h=>by simp at h
 pre:=fun p hp h0=>by simp at hp;exact absurd hp h0
 all:=fun k hk=>by omega
 ent:=fun a p ha b hb=>by
  rcases a with _ | a
  ·simp at ha;subst ha;have e:mU [(0,0)] 0 b=0:=by unfold mU;simp
   rw[e];exact⟨by omega,fun _=>⟨by simp,fun k hk=>by omega⟩,by omega⟩
  ·simp at ha
theorem Tr.skip{ls:List Nat}{q:Nat}{P:List (List Nat)}{F:List (Int×Int)}(h:Tr ls q P F)(h0:ls[q]?.getD 0=0):Tr ls (q+1) P F where
 len:=h.len
 root:=h.root
 nodup:=h.nodup
 clo:=h.clo
 pre:=fun p hp hne=>by
  obtain⟨k,h1,h2⟩:=h.pre p hp hne;exact⟨k,by omega,h2⟩
 all:=fun k hk hk0=>by
  by_cases e:k=q
  ·subst e;omega
  ·exact h.all k (by omega) hk0
 ent:=fun a p ha b hb=>by
  obtain⟨h1,h2,h3⟩:=h.ent a p ha b hb;refine⟨h1,fun hz=>⟨(h2 hz).1,fun k hk hk0=>?_⟩,fun hz=>?_⟩
  ·by_cases e:k=q
   ·subst e;omega
   ·exact(h2 hz).2 k (by omega) hk0
  ·obtain⟨k,g1,g2⟩:=h3 hz;exact⟨k,by omega,g2⟩
theorem qp(l:List Nat)(j:Nat)(h:j<l.length):l.take (j+1)=l.take j++[l[j]]:=List.take_succ_eq_append_getElem h
theorem Jb{P:List (List Nat)}{a:Nat}{p:List Nat}(h:P[a]?=some p):p∈P:=List.mem_of_getElem? h
theorem Ep{P:List (List Nat)}{a:Nat}{p:List Nat}(h:P[a]?=some p):a<P.length:=(List.getElem?_eq_some_iff.1 h).1
theorem at_one{P:List (List Nat)}(hn:P.Nodup){a a':Nat}{p:List Nat}(h:P[a]?=some p)(h':P[a']?=some p):a=a':=by
 have h1:=Ep h;exact(List.getElem?_inj h1 hn).1 (h.trans h'.symm)
theorem AO{p r:List Nat}{b c:Nat}(h:p++[b]=r++[c]):p=r∧b=c:=by
 have:=List.append_inj' h rfl;exact⟨this.1,by simpa using this.2⟩
section
variable {ls:List Nat} {q:Nat} {P:List (List Nat)} {F:List (Int×Int)}
theorem Tr.on(h:Tr ls q P F){a b:Nat}{p:List Nat}(ha:P[a]?=some p)(hb:b<2)(hz:0<mU F a b):P[(mU F a b).toNat]?=some (p++[b]):=(h.ent a p ha b hb).1 hz
theorem Tr.pos(h:Tr ls q P F)(hW:bC ls)(hq:q<ls.length){a j:Nat}(hj:j<(aW ls q).length)(ha:P[a]?=some ((aW ls q).take j)):0≤mU F a (aW ls q)[j]:=by
 have hb:=kE ls q _ (List.getElem_mem hj);rcases Int.lt_or_le (mU F a (aW ls q)[j]) 0 with hz | hz
 ·exfalso
  obtain⟨k,h1,_,h3,h4⟩:=(h.ent a _ ha _ hb).2.2 hz;rw[←qp _ j hj]at h4;have hl:=aQ ls q;have:=rC ls k q (by omega) hq hW h3 (by omega) (aW ls q) (by rw[h4];exact List.take_prefix _ _) (List.prefix_refl _);omega
 ·exact hz
theorem Tr.grow(h:Tr ls q P F){a j:Nat}(hj:j+1<(aW ls q).length)(ha:P[a]?=some ((aW ls q).take j))(hz:mU F a ((aW ls q)[j]'(by omega))=0) :
  Tr ls q (P++[(aW ls q).take (j+1)]) (JE F a ((aW ls q)[j]'(by omega)) (P.length:Int)++[(0,0)]):=by
 have hb:=kE ls q _ (List.getElem_mem (show j<(aW ls q).length by omega));have hnx:=qp (aW ls q) j (by omega);have hl:=aQ ls q;obtain⟨hnp,hnc⟩:=(h.ent a _ ha _ hb).2.1 hz;rw[←hnx]at hnp hnc;have hal:=Ep ha;have hpl:((aW ls q).take (j+1)).length=j+1:=by rw[List.length_take];omega
 have hap:=Jb ha;generalize (aW ls q)[j]'(by omega)=bb at *;generalize hp:(aW ls q).take (j+1)=p at *;have hpp:p <+: aW ls q:=by rw[←hp];exact List.take_prefix _ _
 generalize hr:(aW ls q).take j=r at *;have hP0:0<P.length:=by omega
 refine⟨by rw[List.length_append,List.length_append,bY,h.len];rfl,by rw[List.getElem?_append_left hP0];exact h.root,?_,?_,?_,?_,?_⟩
 ·rw[List.nodup_append];exact⟨h.nodup,by simp,fun x hx y hy=>by simp at hy;subst hy;exact fun e=>hnp (e▸hx)⟩
 ·intro p' b' hm;rcases List.mem_append.1 hm with hm | hm
  ·exact List.mem_append_left _ (h.clo p' b' hm)
  ·have e:=List.mem_singleton.1 hm;rw[hnx]at e;rw[(AO e).1];exact List.mem_append_left _ hap
 ·intro p' hm hne;rcases List.mem_append.1 hm with hm | hm
  ·exact h.pre p' hm hne
  ·have e:=List.mem_singleton.1 hm;rw[e];exact⟨q,Nat.le_refl _,by omega,hpp,by omega⟩
 ·intro k hk hk0 i hi;exact List.mem_append_left _ (h.all k hk hk0 i hi)
 ·intro a' p' ha' b' hb';rcases Nat.lt_or_ge a' P.length with hl' | hl'
  ·rw[List.getElem?_append_left hl']at ha';rw[OX _ _ _ _ (by rw[bY,h.len];exact hl')];by_cases he:a'=a∧b'=bb
   ·obtain⟨e1,e2⟩:=he;subst e1 e2;rw[zY _ _ _ _ (by rw[h.len];exact hl')];have e:p'=r:=by rw[ha]at ha';injection ha' with ha';exact ha'.symm
    refine⟨fun _=>?_,fun e=>by omega,fun e=>by omega⟩;rw[Int.toNat_natCast,List.getElem?_append_right (Nat.le_refl _),Nat.sub_self,e,←hnx];rfl
   ·rw[Ck _ _ _ _ _ _ hb hb' he];obtain⟨h1,h2,h3⟩:=h.ent a' p' ha' b' hb';refine⟨fun hz=>?_,fun hz=>⟨fun hm=>?_,(h2 hz).2⟩,h3⟩
    ·have:=h1 hz;rw[List.getElem?_append_left (Ep this)];exact this
    ·rcases List.mem_append.1 hm with hm | hm
     ·exact(h2 hz).1 hm
     ·have e:=List.mem_singleton.1 hm;rw[hnx]at e;obtain⟨e1,e2⟩:=AO e;rw[e1]at ha';exact he ⟨at_one h.nodup ha' ha,e2⟩
  ·have e:a'=P.length:=by
    have:=Ep ha';rw[List.length_append,List.length_singleton]at this;omega
   subst e;rw[List.getElem?_append_right (Nat.le_refl _),Nat.sub_self]at ha';have e:p=p':=by simpa using ha'
   subst e;have e2:mU (JE F a bb (P.length:Int)++[(0,0)]) P.length b'=0:=by
    have:=aai (JE F a bb (P.length:Int)) b';rwa [bY,h.len]at this
   rw[e2];refine⟨fun e=>by omega,fun _=>⟨fun hm=>?_,fun k hk hk0 e=>?_⟩,fun e=>by omega⟩
   ·rcases List.mem_append.1 hm with hm | hm
    ·exact hnp (h.clo p b' hm)
    ·have:=congrArg List.length (List.mem_singleton.1 hm);rw[List.length_append,List.length_singleton]at this;omega
   ·have hkl:=aQ ls k;have h1:=congrArg List.length e;rw[List.length_append,List.length_singleton]at h1;have h2:=h.all k hk hk0 p.length (by omega);rw[e,List.take_left]at h2;exact hnp h2
theorem Tr.leaf(h:Tr ls q P F){a n:Nat}(hn:n+1=(aW ls q).length)(ha:P[a]?=some ((aW ls q).take n))(hall:∀i,i≤n→(aW ls q).take i∈P) :
  Tr ls (q+1) P (JE F a ((aW ls q)[n]'(by omega)) (-1-(q:Int))):=by
 have hb:=kE ls q _ (List.getElem_mem (show n<(aW ls q).length by omega));have hnx:=qp (aW ls q) n (by omega);rw[hn,List.take_length]at hnx;have hl:=aQ ls q;have hal:=Ep ha;generalize (aW ls q)[n]'(by omega)=bb at *;refine⟨by rw[bY,h.len],h.root,h.nodup,h.clo,?_,?_,?_⟩
 ·intro p hp hne;obtain⟨k,h1,h2⟩:=h.pre p hp hne;exact⟨k,by omega,h2⟩
 ·intro k hk hk0 i hi;by_cases e:k=q
  ·subst e;exact hall i (by omega)
  ·exact h.all k (by omega) hk0 i hi
 ·intro a' p' ha' b' hb';by_cases he:a'=a∧b'=bb
  ·obtain⟨e1,e2⟩:=he;subst e1 e2;rw[zY _ _ _ _ (by rw[h.len];exact hal)];have e:p'=(aW ls q).take n:=by rw[ha]at ha';injection ha' with ha';exact ha'.symm
   exact⟨fun e=>by omega,fun e=>by omega,fun _=>⟨q,by omega,rfl,by omega,by rw[e];exact hnx⟩⟩
  ·rw[Ck _ _ _ _ _ _ hb hb' he];obtain⟨h1,h2,h3⟩:=h.ent a' p' ha' b' hb';refine⟨h1,fun hz=>⟨(h2 hz).1,fun k hk hk0 e=>?_⟩,fun hz=>?_⟩
   ·by_cases ek:k=q
    ·subst ek;rw[hnx]at e;obtain⟨e1,e2⟩:=AO e;rw[←e1]at ha';exact he ⟨at_one h.nodup ha' ha,e2.symm⟩
    ·exact(h2 hz).2 k (by omega) hk0 e
   ·obtain⟨k,g1,g2⟩:=h3 hz;exact⟨k,by omega,g2⟩
end
theorem Je(ls l:List Nat)(h:∀k,0<ls[k]?.getD 0→¬aW ls k <+: l):Jc ls l=none:=by
 have:∀q,CY ls l q=none:=fun q=>by
  induction q with
  | zero=>rfl
  | succ q ih=>
   unfold CY;rw[if_neg (fun hc=>h q hc.1 hc.2),ih]
 exact this _
section
variable {ls:List Nat} {P:List (List Nat)} {F:List (Int×Int)}
theorem Tr.inner(h:Tr ls ls.length P F)(hW:bC ls){r:List Nat}(hr:r∈P)(k:Nat)(hk:0<ls[k]?.getD 0):¬aW ls k <+: r:=by
 intro hp;have hkl:=aQ ls k;by_cases he:r=[]
 ·subst he;have:=hp.length_le;rw[List.length_nil]at this;omega
 ·obtain⟨k',_,h2,h3,h4⟩:=h.pre r hr he;have:=rC ls k k' (mh ls k hk) (mh ls k' h2) hW hk h2 (aW ls k') (hp.trans h3) (List.prefix_refl _);subst this;have:=hp.length_le;omega
theorem Tr.WX(h:Tr ls ls.length P F)(hW:bC ls){r:List Nat}(hr:r∈P):Jc ls r=none:=Je ls r (fun k hk=>h.inner hW hr k hk)
theorem Tr.RA(h:Tr ls ls.length P F)(hW:bC ls){a b:Nat}{r:List Nat}(ha:P[a]?=some r)(hb:b<2)(hz:mU F a b<0)(rest:List Nat) :
  ∃k:Nat,k<ls.length∧mU F a b=-1-(k:Int)∧ls[k]?.getD 0=r.length+1∧Jc ls (r++b :: rest)=some k:=by
 obtain⟨k,h1,h2,h3,h4⟩:=(h.ent a r ha b hb).2.2 hz;refine⟨k,h1,h2,by rw[←aQ,h4,List.length_append];rfl,QB ls _ k hW h1 h3 ?_⟩;rw[h4];exact⟨rest,by simp⟩
theorem Tr.RB(h:Tr ls ls.length P F)(hW:bC ls){a b:Nat}{r:List Nat}(ha:P[a]?=some r)(hb:b<2)(hz:mU F a b=0)(rest:List Nat):Jc ls (r++b :: rest)=none:=by
 obtain⟨h1,h2⟩:=(h.ent a r ha b hb).2.1 hz;refine Je ls _ (fun k hk hp=>?_);have hkl:=aQ ls k;rcases Nat.lt_or_ge r.length (ls[k]?.getD 0)with hl | hl
 ·have e:(aW ls k).take (r.length+1)=r++[b]:=by
   obtain⟨t,ht⟩:=hp;have:=congrArg (List.take (r.length+1)) ht;rw[List.take_append_of_le_length (by omega)]at this;rw[this,List.take_append,List.take_of_length_le (by omega)];simp
  by_cases he:ls[k]?.getD 0=r.length+1
  ·exact h2 k (mh ls k hk) hk (by rw[←e,List.take_of_length_le (by omega)])
  ·exact h1 (by rw[←e];exact h.all k (mh ls k hk) hk _ (by omega))
 ·exact h.inner hW (Jb ha) k hk (List.prefix_of_prefix_length_le hp (List.prefix_append r (b :: rest)) (by omega))
end
def ins(x:Nat):List Nat→List Nat
 | []=>[x]
 | y :: l=>if x≤y then x :: y :: l else y :: ins x l
def lF:List Nat→List Nat
 | []=>[]
 | x :: l=>ins x (lF l)
theorem kZ{x y:Nat}{l:List Nat}(h:x≤y):ins x (y :: l)=x :: y :: l:=by rw[ins,if_pos h]
theorem jy{x y:Nat}{l:List Nat}(h:¬x≤y):ins x (y :: l)=y :: ins x l:=by rw[ins,if_neg h]
theorem IJ(x y:Nat):∀l,ins x (ins y l)=ins y (ins x l)
 | []=>by
  show ins x [y]=ins y [x];by_cases h1:x≤y
  ·by_cases h2:y≤x
   ·obtain rfl:x=y:=by omega
    rfl
   ·rw[kZ h1,jy h2];rfl
  ·rw[jy h1,kZ (by omega)];rfl
 | z :: l=>by
  by_cases h1:x≤z<;>by_cases h2:y≤z
  ·rw[kZ h1,kZ h2];by_cases h3:x≤y
   ·by_cases h4:y≤x
    ·obtain rfl:x=y:=by omega
     rfl
    ·rw[kZ h3,jy h4,kZ h2]
   ·rw[jy h3,kZ (show y≤x by omega),kZ h1]
  ·rw[jy h2,kZ h1,kZ h1,jy (show ¬y≤x by omega),jy h2]
  ·rw[jy h1,kZ h2,kZ h2,jy (show ¬x≤y by omega),jy h1]
  ·rw[jy h1,jy h2,jy h1,jy h2,IJ x y l]
theorem pG{a b:List Nat}(h:a.Perm b):lF a=lF b:=by
 induction h with
 | nil=>rfl
 | cons x _ ih=>simp only[lF,ih]
 | swap x y l=>simp only[lF];exact IJ y x (lF l)
 | trans _ _ ih1 ih2=>exact ih1.trans ih2
theorem IK(x:Nat):∀l,(ins x l).Perm (x :: l)
 | []=>List.Perm.refl _
 | y :: l=>by
  unfold ins;split
  ·exact List.Perm.refl _
  ·exact((IK x l).cons y).trans (List.Perm.swap x y l)
theorem qU:∀l,(lF l).Perm l
 | []=>List.Perm.refl _
 | x :: l=>(IK x (lF l)).trans ((qU l).cons x)
theorem vC(x:Nat)(l:List Nat)(h:∀y∈l,x≤y):ins x l=x :: l:=by
 cases l with
 | nil=>rfl
 | cons y l=>unfold ins;rw[if_pos (h y List.mem_cons_self)]
def aas:Nat→List Nat→Nat
 | 0,_=>0
 | f+1,a :: b :: l=>(a+b)+aas f (ins (a+b) l)
 | _+1,_=>0
def nJ(l:List Nat):Nat:=aas l.length (lF l)
theorem jR{a b:List Nat}(h:a.Perm b):nJ a=nJ b:=by
 unfold nJ;rw[pG h,h.length_eq]
theorem KO(a b:Nat)(l:List Nat)(ha:a≤b)(hb:∀x∈l,b≤x):nJ (a :: b :: l)=(a+b)+nJ (l++[a+b]):=by
 have hs:lF (a :: b :: l)=a :: b :: lF l:=by
  simp only[lF];rw[vC b (lF l) (fun y hy=>hb y ((qU l).mem_iff.1 hy))];exact vC a _ (fun y hy=>by
   rcases List.mem_cons.1 hy with rfl | hy
   ·exact ha
   ·have:=hb y ((qU l).mem_iff.1 hy);omega)
 have h2:nJ (l++[a+b])=aas (l.length+1) (ins (a+b) (lF l)):=by
  rw[jR (List.perm_append_comm (l₁:=l) (l₂:=[a+b]))];rfl
 rw[h2];unfold nJ;rw[hs];rfl
theorem Pq(l:List Nat)(h:l.length≤1):nJ l=0:=by
 rcases l with _ | ⟨a,_ | ⟨b,l⟩⟩
 ·rfl
 ·rfl
 ·simp at h
def GU(ps:List (Nat×Nat)):Nat:=(ps.map fun p=>p.1*p.2).sum
def vE(M:Nat)(ps:List (Nat×Nat)):Nat:=(ps.map fun p=>2^(M-p.2)).sum
theorem zy{a b:List (Nat×Nat)}(h:a.Perm b):GU a=GU b:=(h.map _).sum_nat
theorem yJ(M:Nat){a b:List (Nat×Nat)}(h:a.Perm b):vE M a=vE M b:=(h.map _).sum_nat
theorem nE(p:Nat×Nat)(l:List (Nat×Nat)):GU (p :: l)=p.1*p.2+GU l:=by simp[GU]
theorem mY(M:Nat)(p:Nat×Nat)(l:List (Nat×Nat)):vE M (p :: l)=2^(M-p.2)+vE M l:=by simp[vE]
theorem front(M a:Nat)(ps:List (Nat×Nat))(ha:a∈ps.map (·.1))(hmin:∀p∈ps,a≤p.1)(hM:∀p∈ps,p.2≤M)(hex:∃p∈ps,p.2=M) :
  ∃R,(ps.map (·.1)).Perm (a :: R.map (·.1))∧vE M ps=1+vE M R∧a*M+GU R≤GU ps∧(∀p∈R,p.2≤M)∧R.length+1=ps.length:=by
 obtain⟨p,hp,rfl⟩:=List.mem_map.1 ha;obtain⟨s,t,rfl⟩:=List.append_of_mem hp;have hperm:(s++p :: t).Perm (p :: (s++t)):=List.perm_middle;by_cases hpM:p.2=M
 ·refine⟨s++t,hperm.map _,?_,?_,fun q hq=>hM q (hperm.mem_iff.2 (List.mem_cons_of_mem _ hq)),by simp;omega⟩
  ·rw[yJ M hperm,mY,hpM,Nat.sub_self,Nat.pow_zero]
  ·rw[zy hperm,nE,hpM];exact Nat.le_refl _
 ·obtain⟨q,hq,hqM⟩:=hex;have hq2:q∈s++t:=by
   rcases List.mem_cons.1 (hperm.mem_iff.1 hq)with rfl | h
   ·exact absurd hqM hpM
   ·exact h
  obtain⟨u,v,e⟩:=List.append_of_mem hq2;have CB:(s++p :: t).Perm (p :: q :: (u++v)):=hperm.trans (((e▸List.Perm.refl (s++t):(s++t).Perm (u++q :: v)).trans List.perm_middle).cons p);have hpl:=hM p hp;have hpq:=hmin q hq;refine⟨(q.1,p.2) :: (u++v),?_,?_,?_,?_,?_⟩
  ·exact CB.map _
  ·rw[yJ M CB,mY,mY,mY,hqM,Nat.sub_self,Nat.pow_zero];dsimp only;omega
  ·rw[zy CB,nE,nE,nE,hqM];dsimp only;obtain⟨d,hd⟩:∃d,q.1=p.1+d:=⟨q.1-p.1,by omega⟩;obtain⟨g,hg⟩:∃g,M=p.2+g:=⟨M-p.2,by omega⟩;have h1:p.1*M+q.1*p.2≤p.1*p.2+q.1*M:=by
    rw[hd,hg,Nat.add_mul,Nat.add_mul,Nat.mul_add,Nat.mul_add];omega
   omega
  ·intro r hr;rcases List.mem_cons.1 hr with rfl | hr
   ·exact hpl
   ·exact hM r (CB.mem_iff.2 (List.mem_cons_of_mem _ (List.mem_cons_of_mem _ hr)))
  ·have:=CB.length_eq;simp at this ⊢;omega
end Go.Proofs.YtgiicohbigiapaaGreat.Bm
namespace Go.Proofs.YtgiicohbigiapaaGreat
open Go.RowKit
namespace Bm
def iX:List Nat→List Nat
 | []=>[]
 | c :: cs=>if 0<c then c :: iX cs else iX cs
def Uw(cs:List Nat):Nat:=if (iX cs).length=1 then(iX cs).sum else nJ (iX cs)
def adX(cs:List Nat):Nat:=if (iX cs).length=1 then(iX cs).sum else
 (iX cs).sum*wid ((iX cs).length-1)-((lF (iX cs)).reverse.take (2^wid ((iX cs).length-1)-(iX cs).length)).sum
structure zD(cs ls:List Nat):Prop where
 len:ls.length=cs.length
 whole:bC ls
 just:∀i,i<cs.length→(0<ls[i]?.getD 0↔0<cs[i]?.getD 0)
 cost:KE cs ls≤max (adX cs) (Uw cs)
theorem zD.fit{cs ls:List Nat}(h:zD cs ls):afL cs ls:=fun i hi h0=>(h.just i hi).2 h0
instance (cs ls:List Nat):Decidable (afL cs ls):=by unfold afL;exact inferInstance
end Bm
theorem Bd(A:Option Addr)(c:Nat)(l:List Int)(w:World)(hl:l.length≤9223372036854775807)(hr:Reads w A (lI l)) :
  Calls prog 138 #[.slice A l.length c] w fun e w'=>e=.returned (.bool (decide (NH l)))∧w=w':=by
 have Hr:=hid hr;obtain⟨r,hres⟩:∃r,r=decide (NH l):=⟨_,rfl⟩;rw[←hres];have hno:∀P:Prop,(NH l→P)→¬P→false=r:=fun P h hp=>by
  rw[hres];symm;exact decide_eq_false (fun h1=>hp (h h1))
 have Hno:=hid hno;have dQ:=hid hres;clear hr hres hno;by_cases h3:256<l.length
 ·have hf:false=r:=Hno.out (l.length≤256) (fun h=>h.1) (by omega);rw[←hf];go_enter func138,ntmps138
  go_wp2;go_ret;exact⟨rfl,rfl⟩
 go_enter func138,ntmps138
 go_wp2;go_loop [10] (fun i=>∃k:Nat,k≤l.length∧i=.int .i64 (k:Int)∧∀x∈l.take k,0≤x∧x≤11) (fun i=>l.length-(intOf i).toNat)
 case atStart=>exact⟨0,by omega,rfl,by simp⟩
 case round=>
  obtain⟨k,hk,rfl,hall⟩:=hrel;by_cases hkl:k<l.length
  ·obtain⟨g,off,rfl,hc⟩:=ni Hr.out (by omega);have c0:=hc k hkl;have Ha:=hid (NN (fun x=>0≤x∧x≤11) l k hkl hall);have Hm:=hid (List.getElem_mem hkl);clear hc hall dQ;generalize l[k]=z at c0 Ha Hm;by_cases hz:z<0
   ·have hf:false=r:=Hno.out (0≤z) (fun h=>(h.2 z Hm.out).1) (by omega);have Hf:=hid hf;clear hf;go_wp2;go_ret;exact⟨congrArg (fun x=>Ending.returned (Value.bool x)) Hf.out,rfl⟩
   by_cases hz2:11<z
   ·have hf:false=r:=Hno.out (z≤11) (fun h=>(h.2 z Hm.out).2) (by omega);have Hf:=hid hf;clear hf;go_wp2;go_ret;exact⟨congrArg (fun x=>Ending.returned (Value.bool x)) Hf.out,rfl⟩
   go_wp2;go_round
   case rel=>exact⟨k+1,by omega,by go_num,Ha.out (by omega)⟩
   case measure=>simp[intOf];omega
  ·obtain rfl:k=l.length:=by omega
   rw[List.take_length]at hall;have hres:true=r:=by
    rw[dQ.out];symm
    exact decide_eq_true ⟨by omega,hall⟩
   clear Hr Hno dQ hall;have Hf:=hid hres;clear hres;go_wp2;go_ret;exact⟨congrArg (fun x=>Ending.returned (Value.bool x)) Hf.out,rfl⟩
namespace Bm
theorem Qj(ls:List Nat)(k L:Nat)(h:k<ls.length)(h0:jd (ls.take k)=0→krN (ls.take k)=0)(h1:jd (ls.take k)=1→krN (ls.take k)=dw L) :
  (jd (ls.take (k+1))=0→krN (ls.take (k+1))=0)∧(jd (ls.take (k+1))=1→krN (ls.take (k+1))=dw (if 0<ls[k]then ls[k]else L)):=by
 obtain⟨e1,e2⟩:=Qi ls k h;rw[e1,e2];by_cases hp:0<ls[k]
 ·rw[if_pos hp,if_pos hp];exact⟨fun h=>by omega,fun h=>by rw[h0 (by omega)];omega⟩
 ·have hz:ls[k]=0:=by omega
  have hpz:dw ls[k]=0:=by unfold dw;rw[if_pos hz]
  rw[if_neg hp,if_neg hp,hpz];exact⟨fun h=>by rw[h0 (by omega)],fun h=>by rw[h1 (by omega)];rfl⟩
theorem Wu(L:Nat)(h:L≤11):dw L=1024↔L=1:=by
 have:∀n:Fin 12,(dw n.1=1024)↔n.1=1:=by decide
 exact this ⟨L,by omega⟩
theorem Wv(n:Nat)(h:n≤11)(h0:0<n):2048/2^n=dw n:=by
 have:∀n:Fin 12,0<n.1→2048/2^n.1=dw n.1:=by decide
 exact this ⟨n,by omega⟩ h0
end Bm
theorem Tz(A:Option Addr)(c:Nat)(l:List Int)(w:World)(hl:l.length≤9223372036854775807)(hr:Reads w A (lI l))(hR:¬NH l) :
  Calls prog 140 #[.slice A l.length c] w fun e w'=>e=.returned (.bool false)∧w=w':=by
 have Hri:=hid (Bd A c l w hl hr);rw[decide_eq_false hR]at Hri;clear hr hR;go_enter func140,ntmps140
 go_wp2_with fail
 refine Hri.out.mono ?_;rintro e w' ⟨rfl,rfl⟩;go_wp2;go_ret;exact⟨rfl,rfl⟩
theorem MQ(A:Option Addr)(c:Nat)(ls:List Nat)(w:World)(hl:ls.length≤256)(h11:∀x∈ls,x≤11)(hr:Reads w A (aL ls))(hmay:Calls prog 138 #[.slice A ls.length c] w fun e w'=>e=.returned (.bool true)∧w=w') :
  Calls prog 140 #[.slice A ls.length c] w fun e w'=>e=.returned (.bool (decide (krN ls=2048∨(jd ls=1∧krN ls=1024))))∧w=w':=by
 have Hri:=hid hmay;have Hr:=hid hr;have H11:=hid h11;clear hr h11 hmay;obtain⟨r,hres⟩:∃r,r=decide (krN ls=2048∨(jd ls=1∧krN ls=1024)):=⟨_,rfl⟩;rw[←hres];have dQ:=hid hres;clear hres;go_enter func140,ntmps140
 go_wp2_with fail
 refine Hri.out.mono ?_;rintro e w' ⟨rfl,rfl⟩;clear Hri;go_wp2;go_loop [3,4,5,13] (fun t s z i=>∃(k L:Nat),k≤ls.length∧L≤11∧i=.int .i64 (k:Int)∧s=.int .i64 (krN (ls.take k):Int)∧t=.int .i64 (jd (ls.take k):Int)∧z=.int .i64 (L:Int)∧Hid ((jd (ls.take k)=0→krN (ls.take k)=0)∧(jd (ls.take k)=1→krN (ls.take k)=dw L))) (fun _ _ _ i=>ls.length-(intOf i).toNat)
 case atStart=>exact⟨0,0,by omega,by omega,rfl,rfl,rfl,rfl,hid ⟨fun _=>rfl,fun h=>by simp[jd]at h⟩⟩
 case round=>
  obtain⟨k,L,hk,hL,rfl,rfl,rfl,rfl,hlast⟩:=hrel;by_cases hkl:k<ls.length
  ·obtain⟨g,off,rfl,hc⟩:=fM Hr.out (by omega);have c0:=hc k hkl;have Hst:=hid (Qi ls k hkl);have Hls:=hid (Qj ls k L hkl hlast.out.1 hlast.out.2);have hkr:=ahh (ls.take k);have hso:=abS (ls.take k);rw[List.length_take,Nat.min_eq_left (by omega)]at hkr hso;have h11:=H11.out ls[k] (List.getElem_mem hkl);have hpl:=Rb ls[k];have Hsh:=hid (Wv ls[k] h11);have Hp0:Hid (ls[k]=0→dw ls[k]=0):=hid (fun h=>by unfold dw;rw[if_pos h]);clear hc hlast;generalize krN (ls.take k)=K at *;generalize jd (ls.take k)=M at *;generalize hP:dw ls[k]=P at hpl Hsh Hp0 Hst;clear hP;generalize ls[k]=x at *;by_cases hx:0<x
   ·have hsh:=Hsh.out hx;have hls:=Hls.out;simp only[if_pos hx]at hls;have acy:=hid hls;clear Hsh Hp0 Hls hls;have ame:(2048:Int)/2^x=(P:Int):=by rw[←hsh];simp
    clear hsh;go_wp2;go_round
    case rel=>exact⟨k+1,x,by omega,by omega,by go_num,by rw[Hst.out.1];go_num,by rw[Hst.out.2,if_pos hx];go_num,rfl,acy⟩
    case measure=>simp[intOf];omega
   ·have hP0:=Hp0.out (by omega);have hls:=Hls.out;simp only[if_neg hx]at hls;have acy:=hid hls;subst hP0;clear Hsh Hp0 Hls hls;go_wp2;go_round
    case rel=>exact⟨k+1,L,by omega,by omega,by go_num,by rw[Hst.out.1];go_num,by rw[Hst.out.2,if_neg hx];go_num,rfl,acy⟩
    case measure=>simp[intOf];omega
  ·obtain rfl:k=ls.length:=by omega
   rw[List.take_length]at hlast;rw[List.take_length];clear Hr H11;have hp1:=Wu L hL;generalize dw L=P at *;generalize krN ls=K at *;generalize jd ls=M at *;by_cases h1:K=2048
   ·have d1:((K:Int) == 2048)=true:=by rw[h1];rfl
    have Hf:Hid (true=r):=hid (by rw[dQ.out,decide_eq_true (.inl h1)]);clear h1 dQ hp1;go_wp2;go_ret;exact⟨congrArg (fun x=>Ending.returned (Value.bool x)) Hf.out,rfl⟩
   ·have d1:((K:Int) == 2048)=false:=by rw[beq_eq_false_iff_ne];omega
    by_cases h2:M=1
    ·have d2:((M:Int) == 1)=true:=by rw[h2];rfl
     have hK:=hlast.out.2 h2;have Hf:Hid (((L:Int) == 1)=r):=hid (by
      rw[dQ.out,Bool.eq_iff_iff,beq_iff_eq,decide_eq_true_iff];omega)
     clear h1 h2 dQ hp1 hK hlast;go_wp2;go_ret;exact⟨congrArg (fun x=>Ending.returned (Value.bool x)) Hf.out,rfl⟩
    ·have d2:((M:Int) == 1)=false:=by rw[beq_eq_false_iff_ne];omega
     have Hf:Hid (false=r):=hid (by rw[dQ.out,decide_eq_false (by omega)]);clear h1 h2 dQ hp1 hlast;go_wp2;go_ret;exact⟨congrArg (fun x=>Ending.returned (Value.bool x)) Hf.out,rfl⟩
theorem rU(A:Option Addr)(c:Nat)(l:List Int)(w:World)(hl:l.length≤9223372036854775807)(hr:Reads w A (lI l)) :
  Calls prog 140 #[.slice A l.length c] w fun e w'=>e=.returned (.bool (decide (jl l)))∧w=w':=by
 by_cases hR:NH l
 ·have hm:=Bd A c l w hl hr;rw[decide_eq_true hR]at hm;obtain⟨e1,h11,aiq⟩:=Ad l hR;have aap:=hR.1;have hW:jl l↔(krN (l.map Int.toNat)=2048∨(jd (l.map Int.toNat)=1∧krN (l.map Int.toNat)=1024)):=by
   unfold jl bC;exact⟨fun h=>h.2.2.2,fun h=>⟨hR,by omega,h11,h⟩⟩
  have hd:decide (jl l)=decide (krN (l.map Int.toNat)=2048∨(jd (l.map Int.toNat)=1∧krN (l.map Int.toNat)=1024)):=decide_eq_decide.2 hW;rw[hd];have hr2:Reads w A (aL (l.map Int.toNat)):=by rw[←bJ,←e1];exact hr
  have h:=MQ A c (l.map Int.toNat) w (by omega) h11 hr2 (by rw[aiq];exact hm);rw[aiq]at h;exact h
 ·have hf:decide (jl l)=false:=decide_eq_false (fun h=>hR h.1);rw[hf];exact Tz A c l w hl hr hR
namespace Bm
theorem RL(l:List Int)(h:Right l):l=(l.map Int.toNat).map (fun n:Nat=>(n:Int))∧(∀x∈l.map Int.toNat,x≤1048576)∧(l.map Int.toNat).length=l.length:=by
 refine⟨?_,?_,by simp⟩
 ·rw[List.map_map];conv=>lhs;rw[←List.map_id l]
  apply List.map_congr_left
  intro x hx;have:=h.2.1 x hx;simp only[Function.comp_apply,id];omega
 ·intro x hx;obtain⟨y,hy,rfl⟩:=List.mem_map.1 hx;have:=h.2.1 y hy;omega
end Bm
theorem Ji(A:Option Addr)(c:Nat)(l:List Int)(w:World)(hl:l.length≤maxLen)(hr:Reads w A (lI l)) :
  Calls prog 136 #[.slice A l.length c] w fun e w'=>e=.returned (.bool (lq l))∧w=w':=by
 by_cases h:l.length≤1000000000
 ·exact qW A c l w h hr
 ·unfold maxLen at hl;have hf:lq l=false:=decide_eq_false (fun h1=>by have:=h1.1;omega);rw[hf];clear hr hf;go_enter func136,ntmps136
  go_wp2;go_ret;exact⟨rfl,rfl⟩
namespace Bm
theorem kI{p q:Prop} [Decidable p] [Decidable q](h:p↔q)(a b:Nat):(if p then a else b)=if q then a else b:=by
 by_cases hq:q
 ·rw[if_pos hq,if_pos (h.2 hq)]
 ·rw[if_neg hq,if_neg (fun hp=>hq (h.1 hp))]
def iQ(ls:List Nat)(m q k:Nat):Prop:=0<ls[k]?.getD 0∧(ls[k]?.getD 0<m∨(ls[k]?.getD 0=m∧k<q))
instance (ls:List Nat) (m q k:Nat):Decidable (iQ ls m q k):=by unfold iQ;exact inferInstance
def yY(ls:List Nat)(m q:Nat):Nat:=((List.range ls.length).map fun k=>if iQ ls m q k then dw (ls[k]?.getD 0)else 0).sum
def dU(ls:List Nat)(m q:Nat):List Nat:=(List.range ls.length).map fun k=>if iQ ls m q k then eG ls k else 0
theorem oQ(ls:List Nat)(m q:Nat):(dU ls m q).length=ls.length:=by simp[dU]
theorem Rm(ls:List Nat)(m q:Nat)(h:q<ls.length)(h0:0<m)(he:ls[q]?.getD 0=m):yY ls m (q+1)=yY ls m q+dw m:=by
 have e:dw m=((List.range ls.length).map fun k=>if k=q then dw m else 0).sum:=by rw[gL,if_pos h]
 conv=>rhs;rw[e]
 unfold yY;rw[←dX];congr 1
 apply List.map_congr_left
 intro k _;by_cases hk:k=q
 ·subst hk;rw[if_pos (show iQ ls m (k+1) k by unfold iQ;omega),if_neg (show ¬iQ ls m k k by unfold iQ;omega),if_pos rfl,he,Nat.zero_add]
 ·rw[if_neg hk,Nat.add_zero];exact kI (by unfold iQ;omega) _ _
theorem Ce(ls:List Nat)(m q:Nat)(he:ls[q]?.getD 0≠m)(k:Nat):iQ ls m (q+1) k↔iQ ls m q k:=by
 unfold iQ;by_cases hk:k=q
 ·subst hk;omega
 ·omega
theorem Rn(ls:List Nat)(m q:Nat)(he:ls[q]?.getD 0≠m):yY ls m (q+1)=yY ls m q:=by
 unfold yY;congr 1
 apply List.map_congr_left
 intro k _;exact kI (Ce ls m q he k) _ _
theorem EG(ls:List Nat)(m q:Nat)(he:ls[q]?.getD 0≠m):dU ls m (q+1)=dU ls m q:=by
 unfold dU;apply List.map_congr_left
 intro k _;exact kI (Ce ls m q he k) _ _
theorem Io(ls:List Nat)(m:Nat)(k:Nat)(hk:k<ls.length):iQ ls m ls.length k↔iQ ls (m+1) 0 k:=by unfold iQ;omega
theorem WC(ls:List Nat)(m:Nat):yY ls m ls.length=yY ls (m+1) 0:=by
 unfold yY;congr 1
 apply List.map_congr_left
 intro k hk;exact kI (Io ls m k (List.mem_range.1 hk)) _ _
theorem KC(ls:List Nat)(m:Nat):dU ls m ls.length=dU ls (m+1) 0:=by
 unfold dU;apply List.map_congr_left
 intro k hk;exact kI (Io ls m k (List.mem_range.1 hk)) _ _
theorem Ro(ls:List Nat):yY ls 1 0=0:=by
 unfold yY;have:∀L:List Nat,(L.map fun k=>if iQ ls 1 0 k then dw (ls[k]?.getD 0)else 0).sum=0:=fun L=>by
  induction L with
  | nil=>rfl
  | cons k L ih=>
   rw[List.map_cons,List.sum_cons,ih,if_neg (by unfold iQ;omega)]
 exact this _
theorem EH(ls:List Nat):dU ls 1 0=List.replicate ls.length 0:=by
 unfold dU;rw[List.map_congr_left (g:=fun _=>0) (fun k _=>if_neg (by unfold iQ;omega)),List.map_const',List.length_range]
theorem KA(ls:List Nat)(h:∀x∈ls,x≤11):dU ls 12 0=iO ls:=by
 unfold dU iO;apply List.map_congr_left
 intro k hk;have hk:=List.mem_range.1 hk;have h1:ls[k]?.getD 0≤11:=by rw[List.getElem?_eq_getElem hk,Option.getD_some];exact h _ (List.getElem_mem hk)
 by_cases h0:ls[k]?.getD 0=0
 ·rw[if_neg (by unfold iQ;omega)];unfold eG;rw[if_pos h0]
 ·rw[if_pos (by unfold iQ;omega)]
theorem LG(ls:List Nat)(m q:Nat)(he:ls[q]?.getD 0=m):jM ls q=yY ls m q:=by
 unfold jM BA yY;congr 1
 apply List.map_congr_left
 intro k _;refine kI ?_ _ _;unfold eH iQ;rw[he];simp only[Bool.and_eq_true,Bool.or_eq_true,decide_eq_true_eq]
theorem abD(ls:List Nat)(m q:Nat):yY ls m q≤krN ls:=by
 rw[pI];unfold yY;apply ko
 intro k _;split
 ·exact Nat.le_refl _
 ·exact Nat.zero_le _
theorem EF(ls:List Nat)(m q:Nat)(h0:0<m)(he:ls[q]?.getD 0=m):dU ls m (q+1)=(dU ls m q).set q (eG ls q):=by
 apply List.ext_getElem
 ·simp[oQ]
 ·intro k h1 h2;rw[List.getElem_set];simp only[dU,List.getElem_map,List.getElem_range];by_cases hk:q=k
  ·subst hk;rw[if_pos rfl,if_pos (by unfold iQ;omega)]
  ·rw[if_neg hk];exact kI (by unfold iQ;omega) _ _
theorem ZW(ls:List Nat)(m q N:Nat)(h0:0<m)(he:ls[q]?.getD 0=m)(hN:N*2^(11-m)=yY ls m q):eG ls q=N:=by
 unfold eG;rw[he,if_neg (by omega),LG ls m q he,←hN,Nat.mul_div_cancel _ (Nat.two_pow_pos _)]
theorem abW(N m X:Nat)(h0:0<m)(h:m≤11)(hN:N*2^(12-m)=X):2*N*2^(11-m)=X:=by
 rw[←hN,show 12-m=(11-m)+1 by omega,Nat.pow_succ,Nat.mul_comm 2 N,Nat.mul_assoc,Nat.mul_comm 2]
theorem Xw(N m X:Nat)(h:m≤11)(h0:0<m)(hN:N*2^(11-m)=X):(N+1)*2^(11-m)=X+dw m:=by
 unfold dw;rw[if_neg (by omega),Nat.add_mul,hN,Nat.one_mul]
theorem yj(N e X:Nat)(h:N*2^e=X)(hX:X≤2048):N≤2048:=Nat.le_trans (by rw[←h];exact Nat.le_mul_of_pos_right _ (Nat.two_pow_pos _)) hX
end Bm
theorem MI(A:Option Addr)(c:Nat)(ls:List Nat)(w:World)(hl:ls.length≤256)(h11:∀x∈ls,x≤11)(hkr:krN ls≤2048)(hr:Reads w A (aL ls))(hwh:Calls prog 140 #[.slice A ls.length c] w fun e w'=>e=.returned (.bool true)∧w=w') :
  Calls prog 142 #[.slice A ls.length c] w fun e w'=>∃g,e=.returned (.tuple #[.slice (some ⟨g,0,none⟩) ls.length ls.length,.bool true])∧Row w' g 3 (aL (iO ls))∧w.heap.size≤g∧Below w.heap.size w w':=by
 obtain⟨i0,hi,hz0,hz1,hz2⟩:=info_parts gH;have Hr:=hid hr;have H11:=hid h11;have Hwh:=hid hwh;have Hle:=hid (fun m q=>Nat.le_trans (abD ls m q) hkr);clear hr h11 hwh hkr;obtain⟨g0,hg0⟩:∃g,g=w.heap.size:=⟨_,rfl⟩;have Hg0:=hid hg0;clear hg0;go_enter func142,ntmps142
 go_wp2_with fail
 refine Hwh.out.mono ?_;rintro e w' ⟨rfl,rfl⟩;clear Hwh;go_wp2_with (at_make;refine wpList_make_full _ rfl _ _ 112 rfl w.heap.size 3 i0 (.int .i64 0) 1 underlying112 hi hz0 hz1 .i64 .i64 _ _ ls.length rfl rfl ?c1 ?c1 ?c2 ?c3 ?c4 ?_)
 case c1=>omega
 case c2=>first | omega | (rw[hz2];omega)
 case c3=>unfold maxLen;omega
 try case c4=>exact Nat.le_refl _
 intro w1 hown1 hg1;have hb1:=aJ hg1;have hr1:=dD hown1;rw[←Hg0.out]at hr1 ⊢;have Hb1:=hid hb1;rw[←EH ls]at hr1;have Hr1:=hid hr1;clear hown1 hg1 hb1 hr1 hi hz0 hz1 hz2;go_wp2;go_loopw [5,6] (fun nx ln wr=>∃(N m:Nat),nx=.int .i64 (N:Int)∧ln=.int .i64 (m:Int)∧0<m∧m≤12∧N≤2048∧Hid (N*2^(12-m)=yY ls m 0)∧Hid (Row wr g0 3 (aL (dU ls m 0)))∧Hid (Below w.heap.size w wr)) (fun _ ln _=>12-(intOf ln).toNat)
 case atStart=>exact⟨0,1,rfl,rfl,by omega,by omega,by omega,hid (by rw[Ro,Nat.zero_mul]),Hr1,Hb1⟩
 case round=>
  obtain⟨N,m,rfl,rfl,hm0,alY,hN,hpre,hrow,hbel⟩:=hrel;clear Hr1 Hb1;by_cases hm:m≤11
  ·have Hp1:=hid (abW N m _ hm0 hm hpre.out);have hN2:=yj _ _ _ Hp1.out (Hle.out m 0);clear hpre;go_wp2;rename World=>wx
   go_loopw [5,23] (fun nx iv wr=>∃(N2 q:Nat),q≤ls.length∧nx=.int .i64 (N2:Int)∧iv=.int .i64 (q:Int)∧N2≤2048∧Hid (N2*2^(11-m)=yY ls m q)∧Hid (Row wr g0 3 (aL (dU ls m q)))∧Hid (Below w.heap.size w wr)) (fun _ iv _=>ls.length-(intOf iv).toNat)
   case atStart=>exact⟨2*N,0,by omega,by go_num,rfl,hN2,Hp1,hrow,hbel⟩
   case round=>
    obtain⟨N2,q,hq,rfl,rfl,hN3,ES,hrow2,Cu⟩:=hrel;clear hrow hbel Hp1;by_cases hql:q<ls.length
    ·obtain⟨g,off,rfl,hc⟩:=fM (aC Hr.out Cu.out) (by omega);have c0:=hc q hql;have alj:=H11.out ls[q] (List.getElem_mem hql);have hgq:ls[q]?.getD 0=ls[q]:=by rw[List.getElem?_eq_getElem hql,Option.getD_some]
     have Hgq:=hid hgq;clear hc hgq;obtain⟨x,hx⟩:∃x,x=ls[q]:=⟨_,rfl⟩;rw[←hx]at c0 alj Hgq;clear hx;by_cases hxm:x=m
     ·subst hxm;have Hp2:=hid (Xw N2 x _ hm hm0 ES.out);rw[←Rm ls x q hql hm0 Hgq.out]at Hp2;have hN4:=yj _ _ _ Hp2.out (Hle.out x (q+1));have Hcd:=hid (EF ls x q hm0 Hgq.out);rw[ZW ls x q N2 hm0 Hgq.out ES.out]at Hcd;have hlen:(aL (dU ls x q)).length=ls.length:=by rw[aM,oQ]
      have hcell:∃v,wr.cell? ⟨g0,q,none⟩=some v:=⟨_,(hrow2.out.cell q).trans (List.getElem?_eq_getElem (by omega))⟩;obtain⟨v0,hcd⟩:=hcell;have hfd:wr.frozen? ⟨g0,q,none⟩=false:=hrow2.out.free q;have hrow3:Row (wr.setCell ⟨g0,q,none⟩ (.int .i64 (N2:Int))) g0 3 (aL (dU ls x (q+1))):=by
       have h1:=hrow2.out.aY q (.int .i64 (N2:Int));rw[Hcd.out,show aL ((dU ls x q).set q N2)=(aL (dU ls x q)).set q (.int .i64 (N2:Int)) by simp[aL,List.map_set]];exact h1
      have jL:=hid hrow3;have Zm:=hid (Cu.out.setCell (p:=⟨g0,q,none⟩) (by rw[Hg0.out];exact Nat.le_refl _) (.int .i64 (N2:Int)));clear hrow3 hlen hrow2 Cu ES Hcd;go_wp2;go_roundw
      case rel=>exact⟨N2+1,q+1,by omega,by go_num,by go_num,hN4,Hp2,jL,Zm⟩
      case measure=>simp[intOf];omega
     ·have Hp2:Hid (N2*2^(11-m)=yY ls m (q+1)):=hid (by rw[Rn ls m q (by rw[Hgq.out];exact hxm)];exact ES.out);have jL:Hid (Row wr g0 3 (aL (dU ls m (q+1)))):=hid (by rw[EG ls m q (by rw[Hgq.out];exact hxm)];exact hrow2.out);have hne:((x:Int) == (m:Int))=false:=by rw[beq_eq_false_iff_ne];omega
      clear hrow2 ES;go_wp2;go_roundw
      case rel=>exact⟨N2,q+1,by omega,rfl,by go_num,hN3,Hp2,jL,Cu⟩
      case measure=>simp[intOf];omega
    ·obtain rfl:q=ls.length:=by omega
     have Hp3:Hid (N2*2^(12-(m+1))=yY ls (m+1) 0):=hid (by rw[←WC,show 12-(m+1)=11-m by omega];exact ES.out);have jL:Hid (Row wr g0 3 (aL (dU ls (m+1) 0))):=hid (by rw[←KC];exact hrow2.out);clear hrow2 ES;go_wp2;go_roundw
     case rel=>exact⟨N2,m+1,rfl,by go_num,by omega,by omega,hN3,Hp3,jL,Cu⟩
     case measure=>simp[intOf];omega
  ·obtain rfl:m=12:=by omega
   have dI:Hid (Row wr g0 3 (aL (iO ls))):=hid (by rw[←KA ls H11.out];exact hrow.out);clear hrow hpre;go_wp2;go_ret2;exact⟨g0,rfl,dI.out,by rw[Hg0.out];exact Nat.le_refl _,hbel.out⟩
instance (l:List Int):Decidable (Bm.Right l):=by unfold Bm.Right;exact inferInstance
def Seg(w:World)(base g off cap:Nat)(l:List Nat):Prop:=base≤g∧cap≤maxLen∧∃pre post:List Value,pre.length=off∧l.length+post.length=cap∧Row w g 3 (pre++(aL l++post))
section
variable {w w':World} {base g off cap:Nat} {l:List Nat}
theorem Seg.lt(h:Seg w base g off cap l):g<w.heap.size:=by
 obtain⟨_,_,_,_,_,_,h⟩:=h;exact h.lt
theorem Seg.fits(h:Seg w base g off cap l):l.length≤cap∧cap≤maxLen:=by
 obtain⟨_,h2,_,_,_,h4,_⟩:=h;exact⟨by omega,h2⟩
theorem Seg.keep(h:Seg w base g off cap l)(hb:w'.heap[g]?=w.heap[g]?):Seg w' base g off cap l:=by
 obtain⟨h1,h2,pre,post,h3,h4,h5⟩:=h;exact⟨h1,h2,pre,post,h3,h4,h5.keep hb⟩
theorem Seg.alloc(h:Seg w base g off cap l)(o:Obj):Seg (w.alloc o) base g off cap l:=h.keep (Below.heap_alloc w o g h.lt)
theorem Seg.cell(h:Seg w base g off cap l)(j:Nat)(hj:j<l.length):w.cell? ⟨g,off+j,none⟩=some (.int .i64 (l[j]:Int)):=by
 obtain⟨_,_,pre,post,rfl,_,h5⟩:=h;rw[h5.cell,List.getElem?_append_right (Nat.le_add_right _ _),Nat.add_sub_cancel_left,List.getElem?_append_left (by rw[aM];exact hj),bK l j hj]
theorem Seg.free(h:Seg w base g off cap l)(i:Nat):w.frozen? ⟨g,i,none⟩=false:=by
 obtain⟨_,_,_,_,_,_,h5⟩:=h;exact h5.free i
theorem Seg.set(h:Seg w base g off cap l)(j:Nat)(hj:j<l.length)(z:Nat):Seg (w.setCell ⟨g,off+j,none⟩ (.int .i64 (z:Int))) base g off cap (l.set j z):=by
 obtain⟨h1,h2,pre,post,rfl,h4,h5⟩:=h;refine⟨h1,h2,pre,post,rfl,by rw[List.length_set];exact h4,?_⟩;have h6:=h5.aY (pre.length+j) (.int .i64 (z:Int));rw[List.set_append_right _ _ (Nat.le_add_right _ _),Nat.add_sub_cancel_left,List.set_append_left _ _ (by rw[aM];exact hj)]at h6;rw[show aL (l.set j z)=(aL l).set j (.int .i64 (z:Int)) by simp[aL,List.map_set]];exact h6
theorem Seg.below(h:Seg w base g off cap l)(hb:Below w.heap.size w w'):Seg w' base g off cap l:=h.keep (hb.block g h.lt)
theorem Seg.cut{a b:Nat}(h:Seg w base g off cap (a :: b :: l)):2≤cap∧Seg w base g (off+2) (cap-2) l:=by
 obtain⟨h1,h2,pre,post,rfl,h4,h5⟩:=h;rw[List.length_cons,List.length_cons]at h4;refine⟨by omega,h1,by omega,pre++aL [a,b],post,by simp[aL],by omega,?_⟩;have e:pre++(aL (a :: b :: l)++post)=pre++aL [a,b]++(aL l++post):=by simp[aL]
 rw[←e];exact h5
end
theorem Mj{w:World}{base n:Nat}{v:Value}{l:List Nat}(h:w.ownsRow base 3 1 v n (aL l))(hn:0<n):l.length=n∧∃g cap,v=.slice (some ⟨g,0,none⟩) n cap∧Seg w base g 0 cap l:=by
 have hl:l.length=n:=by have:=h.1;rw[aM,Nat.mul_one]at this;exact this
 rcases h.2 with⟨_,h0⟩ | ⟨g,cap,cur,rfl,hb,hg,hnc,hcm,hcs,ht⟩
 ·omega
 ·rw[Nat.mul_one]at ht hcs;refine⟨hl,g,cap,rfl,hb,hcm,[],cur.toList.drop n,rfl,by have hcl:cur.toList.length=cur.size:=Array.length_toList;rw[List.length_drop];omega,?_⟩;unfold Row;rw[List.nil_append,←ht,List.take_append_drop,Array.toArray_toList];exact hg
namespace Bm
theorem FV(a b:List Nat):iX (a++b)=iX a++iX b:=by
 induction a with
 | nil=>rfl
 | cons x a ih=>rw[List.cons_append,iX,iX,ih];split<;>rfl
theorem Ri(cs:List Nat)(k:Nat)(h:k<cs.length):iX (cs.take (k+1))=iX (cs.take k)++if 0<cs[k]then [cs[k]]else []:=by
 rw[List.take_succ_eq_append_getElem h,FV];rfl
theorem Rf(cs:List Nat):(iX cs).length≤cs.length:=by
 induction cs with
 | nil=>simp[iX]
 | cons x a ih=>rw[iX];split<;>simp<;>omega
theorem WA(cs:List Nat)(x:Nat):x∈iX cs→x∈cs∧0<x:=by
 induction cs with
 | nil=>simp[iX]
 | cons y a ih=>
  rw[iX];split
  ·next h=>
   intro hx;rcases List.mem_cons.1 hx with rfl | hx
   ·exact⟨List.mem_cons_self,h⟩
   ·exact⟨List.mem_cons_of_mem _ (ih hx).1,(ih hx).2⟩
  ·intro hx;exact⟨List.mem_cons_of_mem _ (ih hx).1,(ih hx).2⟩
theorem Rh(cs:List Nat)(h:∃x∈cs,0<x):0<(iX cs).length:=by
 obtain⟨x,hx,h0⟩:=h;induction cs with
 | nil=>simp at hx
 | cons y a ih=>
  rw[iX];split
  ·simp
  ·next hy=>
   rcases List.mem_cons.1 hx with rfl | hx
   ·exact absurd h0 hy
   ·exact ih hx
end Bm
def afN:Prop:=∀(w:World) (A:Option Addr) (c:Nat) (l:List Int),l.length≤1000000000→(∀x∈l,bN x)→Reads w A (lI l)→Bm.Right l →
 Calls prog 106 #[.slice A l.length c] w fun e w'=>∃B d ls,e=.returned (.tuple #[.slice B l.length d,.bool true])∧l.length≤d∧Reads w' B (aL ls)∧zD (l.map Int.toNat) ls∧Below w.heap.size w w'
namespace Bm
theorem uy(bs:List Nat)(h:bs≠[]):0<iy bs:=by
 cases bs with
 | nil=>exact absurd rfl h
 | cons x a=>rw[iy];omega
def eT(cs:List Nat)(size k:Nat):List Nat:=(cs.take k).map (oD size cs.sum)++List.replicate (cs.length-k) 0
theorem Dk(cs:List Nat)(size:Nat):eT cs size 0=List.replicate cs.length 0:=by simp[eT]
theorem FP(cs:List Nat)(size:Nat):eT cs size cs.length=parts cs size:=by simp[eT,parts]
theorem xO(cs:List Nat)(size k:Nat)(h:k≤cs.length):(eT cs size k).length=cs.length:=by simp[eT];omega
theorem vQ(cs:List Nat)(size k:Nat)(h:k<cs.length):(eT cs size k)[k]?=some 0:=by
 unfold eT;have h1:((cs.take k).map (oD size cs.sum)).length=k:=by simp;omega
 rw[List.getElem?_append_right (by omega),h1,Nat.sub_self,List.getElem?_replicate,if_pos (by omega)]
theorem sP(cs:List Nat)(size k:Nat)(h:k<cs.length):eT cs size (k+1)=(eT cs size k).set k (oD size cs.sum cs[k]):=by
 unfold eT;have h1:((cs.take k).map (oD size cs.sum)).length=k:=by simp;omega
 rw[List.set_append_right _ _ (by omega),h1,Nat.sub_self,List.take_succ_eq_append_getElem h,List.map_append,List.append_assoc];congr 1
 obtain⟨m,hm⟩:∃m,cs.length-k=m+1:=⟨cs.length-k-1,by omega⟩;rw[hm,show cs.length-(k+1)=m by omega,List.replicate_succ];simp
theorem Dj(cs:List Nat)(size k:Nat)(h:k<cs.length)(h0:cs[k]=0):eT cs size (k+1)=eT cs size k:=by
 have hz:oD size cs.sum 0=0:=by simp[oD]
 rw[sP cs size k h,h0,hz];apply List.ext_getElem?
 intro i;rw[List.getElem?_set];split
 ·next e=>
  subst e;rw[if_pos (by rw[xO cs size k (by omega)];omega),vQ cs size k h]
 ·rfl
theorem yN(l:List Nat)(x:Nat)(h:x∈l):x≤l.sum:=by
 induction l with
 | nil=>cases h
 | cons a l ih=>
  rw[List.sum_cons];rcases List.mem_cons.1 h with rfl | h1
  ·omega
  ·have:=ih h1;omega
theorem QZ(size total c:Nat)(h:0<c):max ((c:Int)*size/total) 1=(oD size total c:Int):=by
 have e:(c:Int)*size/total=((c*size/total:Nat):Int):=by simp
 unfold oD;rw[e];split
 ·next h1=>rw[h1.1];rfl
 ·next h1=>
  have h2:c*size/total≠0:=fun e=>h1 ⟨e,h⟩
  generalize c*size/total=q at h2 ⊢;omega
theorem SI(l:List Nat)(m:Nat)(h:∀x∈l,x≤m):l.sum≤m*l.length:=by
 induction l with
 | nil=>simp
 | cons a l ih=>
  have h1:=ih (fun x hx=>h x (List.mem_cons_of_mem _ hx));have h2:=h a List.mem_cons_self;rw[List.sum_cons,List.length_cons,Nat.mul_succ];omega
end Bm
theorem Jg(A:Option Addr)(c:Nat)(bs:List Nat)(w:World)(hl:bs.length≤1000000000)(h0:0<bs.length)(hlt:∀x∈bs,x<256)(hr:Reads w A (u8s bs)) :
  Calls prog 105 #[.slice A bs.length c] w fun e w'=>e=.returned (.int .u8 ((iy bs:Int)-1))∧w=w':=by
 have hne:bs≠[]:=by intro e;rw[e]at h0;simp at h0
 obtain⟨g,off,rfl,hc⟩:=fO hr hne;have Hc:=hid hc;have Hlt:=hid hlt;have c0:=hc 0 h0;have hb0:=hlt bs[0] (List.getElem_mem h0);have H0:Hid (iy (bs.take 1)=bs[0]+1):=hid (by
  have h1:=DY bs 0 h0;rw[List.take_zero]at h1;rw[h1];simp[iy])
 obtain⟨r,hres⟩:∃r,r=iy bs:=⟨_,rfl⟩;rw[←hres];have dQ:=hid hres;clear hr hlt hc hres;rw[Nat.add_zero]at c0;generalize bs[0]=b0 at c0 hb0 H0;go_enter func105,ntmps105
 go_wp2;go_loop [3,4] (fun m i=>∃k:Nat,1≤k∧k≤bs.length∧i=.int .i64 (k:Int)∧m=.int .u8 ((iy (bs.take k):Int)-1)) (fun _ i=>bs.length-(intOf i).toNat)
 case atStart=>exact⟨1,by omega,by omega,rfl,by rw[H0.out];go_num⟩
 case round=>
  obtain⟨k,hk1,hk,rfl,rfl⟩:=hrel;clear c0;by_cases hkl:k<bs.length
  ·have c1:=Hc.out k hkl;have hb:=Hlt.out bs[k] (List.getElem_mem hkl);have hT1:=jH (bs.take k) (fun x hx=>Hlt.out x (List.mem_of_mem_take hx));have Hs:=hid (DY bs k hkl);have hp:0<iy (bs.take k):=uy _ (fun e=>by
    have h1:=congrArg List.length e;rw[List.length_take,List.length_nil]at h1;omega)
   generalize iy (bs.take k)=T at hT1 Hs hp ⊢;generalize bs[k]=b at c1 hb Hs;have hmx:=abe T b;generalize max T (b+1)=T2 at hmx Hs;go_wp2;go_round
   case rel=>exact⟨k+1,by omega,by omega,by go_num,by rw[Hs.out]⟩
   case measure=>simp[intOf];omega
  ·obtain rfl:k=bs.length:=by omega
   rw[List.take_length,←dQ.out];go_wp2;go_ret;exact⟨rfl,rfl⟩
theorem YU:COf:=by
 intro A c bs w hl hlt hr;rcases Nat.eq_zero_or_pos bs.length with h0 | h0
 ·have hb:bs=[]:=List.eq_nil_of_length_eq_zero h0;subst hb;go_enter func64,ntmps64
  go_wp2;go_ret;exact⟨none,0,rfl,fun h=>absurd rfl h,Below.refl _ _⟩
 have hz:((bs.length:Int) == 0)=false:=by rw[beq_eq_false_iff_ne];omega
 obtain⟨i0,hi,hz0,hz1,hz2⟩:=info_parts gH;have Hr:=hid hr;have Hlt:=hid hlt;have hT:=jH bs hlt;have hT0:=uy bs (by intro e;rw[e]at h0;simp at h0);have Hmx:=hid (Jg A c bs w (by omega) h0 hlt hr);clear hr hlt;obtain⟨g0,hg0⟩:∃g,g=w.heap.size:=⟨_,rfl⟩;have Hg0:=hid hg0;obtain⟨T,hTe⟩:∃T,T=iy bs:=⟨_,rfl⟩;have HTe:=hid hTe;have adv:Hid (Calls prog 105 #[.slice A bs.length c] w fun e w'=>e=.returned (.int .u8 ((T:Int)-1))∧w=w'):=hid (by rw[hTe];exact Hmx.out);rw[←hTe]at hT hT0 ⊢;clear hg0 hTe Hmx;go_enter func64,ntmps64
 go_wp2_with fail
 refine adv.out.mono ?_;rintro e w' ⟨rfl,rfl⟩;clear adv;have e1:((T:Int)-1)+1=(T:Int):=by omega
 go_wp2_with (at_make;refine wpList_make_full _ rfl _ _ 112 rfl w.heap.size 3 i0 (.int .i64 0) 1 underlying112 hi hz0 hz1 .i64 .i64 _ _ T rfl rfl ?c1 ?c1 ?c2 ?c3 ?c4 ?_)
 case c1=>omega
 case c2=>first | omega | (rw[hz2];omega)
 case c3=>unfold maxLen;omega
 try case c4=>exact Nat.le_refl _
 intro w1 hown1 hg1;have hb1:=aJ hg1;have hr1:=dD hown1;rw[←Hg0.out]at hr1 ⊢;have Hb1:=hid hb1;rw[HTe.out,←pq]at hr1;have Hr1:=hid hr1;clear hown1 hg1 hb1 hr1 hi hz0 hz1 hz2 e1 hz;go_wp2;go_loopw [16] (fun i wr=>∃k:Nat,k≤bs.length∧i=.int .i64 (k:Int)∧Hid (Row wr g0 3 (aL (bU bs k)))∧Hid (Below w.heap.size w wr)) (fun i _=>bs.length-(intOf i).toNat)
 case atStart=>exact⟨0,by omega,rfl,Hr1,Hb1⟩
 case round=>
  obtain⟨k,hk,rfl,hrow,hbel⟩:=hrel;clear Hr1 Hb1;by_cases hkl:k<bs.length
  ·have hne:bs≠[]:=by intro e;rw[e]at hkl;simp at hkl
   obtain⟨g,off,rfl,hc⟩:=fO (aC Hr.out hbel.out) hne;have c0:=hc k hkl;have hb:=Hlt.out bs[k] (List.getElem_mem hkl);have hbT:bs[k]<T:=by rw[HTe.out];exact jB bs _ (List.getElem_mem hkl)
   have hcb:(bs.take k).count bs[k]≤bs.length:=Nat.le_trans List.count_le_length (by rw[List.length_take];omega);have hcell:=hrow.out.cell bs[k];have hgt:=sF bs k bs[k] (by rw[←HTe.out];exact hbT);simp only[aL,List.getElem?_map,hgt,Option.map_some]at hcell;have hfree:=hrow.out.free bs[k];have Hn:=hid (oZ bs k hkl);clear hc hgt;generalize (bs.take k).count bs[k]=q at hcb hcell Hn;generalize bs[k]=b at c0 hb hbT hcell hfree Hn;go_wp2;go_roundw
   case rel=>
    refine⟨k+1,by omega,by go_num,hid ?_,hid (hbel.out.setCell (by rw[Hg0.out];exact Nat.le_refl _) _)⟩;rw[Hn.out];have h1:=hrow.out.aY b (.int .i64 ((q:Int)+1));rw[show aL ((bU bs k).set b (q+1))=(aL (bU bs k)).set b (.int .i64 ((q:Int)+1)) by simp[aL,List.map_set]];exact h1
   case measure=>simp[intOf];omega
  ·obtain rfl:k=bs.length:=by omega
   rw[sw]at hrow;go_wp2;go_ret;exact⟨some ⟨g0,0,none⟩,T,rfl,bP hrow.out,hbel.out⟩
theorem Lx(A:Option Addr)(c:Nat)(cs:List Nat)(size:Nat)(w:World)(hl:cs.length≤256)(hm:∀x∈cs,x≤1048576)(hsz:size≤512)(hr:Reads w A (aL cs)) :
  Calls prog 193 #[.slice A cs.length c,.int .i64 (size:Int)] w fun e w'=>∃g,e=.returned (.slice (some ⟨g,0,none⟩) cs.length cs.length)∧w.heap.size≤g∧Row w' g 3 (aL (Bm.parts cs size))∧Below w.heap.size w w':=by
 obtain⟨i0,hi,hz0,hz1,hz2⟩:=info_parts gH;have hsum:=SI cs 1048576 hm;have Hr:=hid hr;have Hm:=hid hm;have Htt:=hid (qX A c cs w (by omega) (by omega) hr);obtain⟨S,hS⟩:∃S,S=cs.sum:=⟨_,rfl⟩;have HS:=hid hS;rw[←hS]at Htt hsum;clear hr hm hS;obtain⟨g0,hg0⟩:∃g,g=w.heap.size:=⟨_,rfl⟩;have Hg0:=hid hg0;clear hg0;go_enter func193,ntmps193
 go_wp2_with fail
 refine Htt.out.mono ?_;rintro e w' ⟨rfl,rfl⟩;clear Htt;go_wp2_with (at_make;refine wpList_make_full _ rfl _ _ 112 rfl w.heap.size 3 i0 (.int .i64 0) 1 underlying112 hi hz0 hz1 .i64 .i64 _ _ cs.length rfl rfl ?c1 ?c1 ?c2 ?c3 ?c4 ?_)
 case c1=>omega
 case c2=>first | omega | (rw[hz2];omega)
 case c3=>unfold maxLen;omega
 try case c4=>exact Nat.le_refl _
 intro w1 hown1 hg1;have hb1:=aJ hg1;have hr1:=dD hown1;rw[←Hg0.out]at hr1 ⊢;have Hb1:=hid hb1;rw[←Dk cs size]at hr1;have Hr1:=hid hr1;clear hown1 hg1 hb1 hr1 hi hz0 hz1 hz2;go_wp2;go_loopw [16] (fun i wr=>∃k:Nat,k≤cs.length∧i=.int .i64 (k:Int)∧Hid (Row wr g0 3 (aL (eT cs size k)))∧Hid (Below w.heap.size w wr)) (fun i _=>cs.length-(intOf i).toNat)
 case atStart=>exact⟨0,by omega,rfl,Hr1,Hb1⟩
 case round=>
  obtain⟨k,hk,rfl,hrow,hbel⟩:=hrel;clear Hr1 Hb1;by_cases hkl:k<cs.length
  ·obtain⟨g,off,rfl,hc⟩:=AA (aC Hr.out hbel.out) (by omega);have c0:=hc k hkl;have hb:=Hm.out cs[k] (List.getElem_mem hkl);have hcell:=hrow.out.cell k;have hgt:=vQ cs size k hkl;simp only[aL,List.getElem?_map,hgt,Option.map_some]at hcell;have hfree:=hrow.out.free k;have hsk:cs[k]≤S:=by rw[HS.out];exact yN cs _ (List.getElem_mem hkl)
   have Hn:=hid (sP cs size k hkl);have Hn0:=hid (Dj cs size k hkl);have hpm:=QZ size S cs[k];rw[←HS.out]at Hn;have Hpm:=hid hpm;have hpz:(cs[k]:Int)*size≤1048576*512:=by
    rw[←Int.natCast_mul];have:=Nat.mul_le_mul hb hsz;omega
   have ajf:0≤(cs[k]:Int)*size:=by rw[←Int.natCast_mul];omega
   clear hc hgt hpm;generalize cs[k]=z at c0 hb hsk Hn Hn0 Hpm hpz ajf;by_cases hz:0<z
   ·have hmax:=Hpm.out hz;have akg:=hid hmax;clear hmax;have hq0:0≤(z:Int)*size/S:=Int.ediv_nonneg ajf (by omega);go_wp2;go_roundw
    case rel=>
     refine⟨k+1,by omega,by go_num,hid ?_,hid (hbel.out.setCell (by rw[Hg0.out];exact Nat.le_refl _) _)⟩;rw[Hn.out];have h1:=hrow.out.aY k (.int .i64 (oD size S z:Int));rw[show aL ((eT cs size k).set k (oD size S z))=(aL (eT cs size k)).set k (.int .i64 (oD size S z:Int)) by simp[aL,List.map_set]];rw[←akg.out]at h1 ⊢;exact h1
    case measure=>simp[intOf];omega
   ·have e0:z=0:=by omega
    have H2:=hid (Hn0.out e0);clear e0;go_wp2;go_roundw
    case rel=>exact⟨k+1,by omega,by go_num,hid (by rw[H2.out];exact hrow.out),hbel⟩
    case measure=>simp[intOf];omega
  ·obtain rfl:k=cs.length:=by omega
   rw[FP]at hrow;go_wp2;go_ret;exact⟨g0,rfl,by rw[Hg0.out];exact Nat.le_refl _,hrow.out,hbel.out⟩
namespace Bm
theorem IL:∀(l:List Nat),l.Pairwise (·≤·)→lF l=l
 | [],_=>rfl
 | x :: l,h=>by
  rw[List.pairwise_cons]at h;rw[lF,IL l h.2,vC x l h.1]
theorem SK(x y:Nat)(R:List Nat):∀A:List Nat,((A++y :: x :: R).set (A.length+1) y).set A.length x=A++x :: y :: R
 | []=>rfl
 | a :: A=>by
  have h:=SK x y R A;simp only[List.cons_append,List.length_cons,List.set_cons_succ];rw[h]
end Bm
theorem Seg.swap{w:World}{base g cap x y:Nat}{A R:List Nat}(h:Seg w base g 0 cap (A++y :: x :: R)):Seg ((w.setCell ⟨g,A.length+1,none⟩ (.int .i64 (y:Int))).setCell ⟨g,A.length,none⟩ (.int .i64 (x:Int))) base g 0 cap (A++x :: y :: R):=by
 have h1:=h.set (A.length+1) (by simp) y;have h2:=h1.set A.length (by simp) x;rw[SK,Nat.zero_add,Nat.zero_add]at h2;exact h2
structure Fam(w:World)(base:Nat)(vs:List Value)(L:Nat→List Nat):Prop where
 own:∀(s:Nat) (v:Value),vs[s]?=some v→w.ownsRow base 3 1 v (L s).length (aL (L s))
 apart:∀(s t:Nat) (v u:Value) (g:Nat),s≠t→vs[s]?=some v→vs[t]?=some u→v.ownBlock=some g→u.ownBlock≠some g
section
variable {w w':World} {base:Nat} {vs:List Value} {L L':Nat→List Nat}
theorem Fam.ahj(w:World)(base n:Nat)(hL:∀s,L s=[]):Fam w base (List.replicate n (.slice none 0 0)) L where
 own:=fun s v hv=>by
  rw[List.getElem?_replicate]at hv;split at hv
  ·injection hv with hv
   subst hv;rw[hL s];exact World.ownsRow_nil _ _ _ _
  ·cases hv
 apart:=fun s t v u g _ hv _ hg=>by
  rw[List.getElem?_replicate]at hv;split at hv
  ·injection hv with hv
   subst hv;simp[Value.ownBlock]at hg
  ·cases hv
theorem Fam.below(h:Fam w base vs L)(hb:Below w.heap.size w w'):Fam w' base vs L:=⟨fun s v hv=>own_below (h.own s v hv) hb,h.apart⟩
theorem Fam.Jh(h:Fam w base vs L){b:Nat}{t:TypeId}{cs:List Value}(hr:Row w b t cs)(hne:t≠3):∀(s:Nat) (v:Value),vs[s]?=some v→v.ownBlock≠some b:=by
 intro s v hv hb;obtain⟨c,fz,hk⟩:=Lib.ownsRow_kind (h.own s v hv) b hb;unfold Row at hr;rw[hr]at hk;injection hk with hk
 injection hk with _ hk
 exact hne hk
theorem Fam.far(h:Fam w base vs L){p:Addr}(hp:∀(s:Nat) (v:Value),vs[s]?=some v→v.ownBlock≠some p.block)(u:Value):Fam (w.setCell p u) base vs L:=⟨fun s v hv=>ownsRow_setCell_other (h.own s v hv) (hp s v hv) u,h.apart⟩
theorem Fam.push(h:Fam w base vs L){s:Nat}{v:Value}(hv:vs[s]?=some v){g n cap:Nat}(hg:w.grownBy w' v.ownBlock)(hat:v.ownBlock=some g∨g=w.heap.size)
  (hown:w'.ownsRow base 3 1 (.slice (some ⟨g,0,none⟩) n cap) n (aL (L' s))) (hn:(L' s).length=n) (hL:∀t,t≠s→L' t=L t):Fam w' base (vs.set s (.slice (some ⟨g,0,none⟩) n cap)) L' where
 own:=fun t u hu=>by
  by_cases e:s=t
  ·subst e;have hl:s<vs.length:=(List.getElem?_eq_some_iff.1 hv).1;rw[List.getElem?_set_self hl]at hu;injection hu with hu
   subst hu;rw[hn];exact hown
  ·rw[List.getElem?_set_ne e]at hu;rw[hL t (Ne.symm e)];refine(h.own t u hu).kept hg ?_;rcases hq:u.ownBlock with _ | q
   ·exact .inl rfl
   ·exact .inr (fun hh=>h.apart t s u v q (Ne.symm e) hu hv hq hh.symm)
 apart:=fun a b x y q hab hx hy hq=>by
  have hl:s<vs.length:=(List.getElem?_eq_some_iff.1 hv).1;have key:∀t u,t≠s→vs[t]?=some u→u.ownBlock≠some g:=fun t u ht hu he=>by
   rcases hat with h1 | h1
   ·exact h.apart t s u v g ht hu hv he h1
   ·have:=((h.own t u hu).lt g he).2;omega
  by_cases ea:s=a
  ·subst ea;rw[List.getElem?_set_self hl]at hx;rw[List.getElem?_set_ne hab]at hy;injection hx with hx
   subst hx;simp only[Value.ownBlock,Option.some.injEq]at hq;subst hq;exact key b y (Ne.symm hab) hy
  ·rw[List.getElem?_set_ne ea]at hx;by_cases eb:s=b
   ·subst eb;rw[List.getElem?_set_self hl]at hy;injection hy with hy
    subst hy;intro he;simp only[Value.ownBlock,Option.some.injEq]at he;subst he;exact key a x (Ne.symm ea) hx hq
   ·rw[List.getElem?_set_ne eb]at hy;exact h.apart a b x y q hab hx hy hq
end
def afh(t:Bm.Stp):List Value:=[.int .i64 (t.1:Int),.int .i64 (t.2.1:Int),.int .i64 (t.2.2:Int)]
def sqs:List Bm.Stp→List Value
 | []=>[]
 | t :: l=>afh t++sqs l
theorem zl(l:List Bm.Stp):(sqs l).length=l.length*3:=by
 induction l with
 | nil=>rfl
 | cons t l ih=>rw[sqs,List.length_append,ih,List.length_cons];simp[afh];omega
theorem Ms(l m:List Bm.Stp):sqs (l++m)=sqs l++sqs m:=by
 induction l with
 | nil=>rfl
 | cons t l ih=>rw[List.cons_append,sqs,ih,sqs,List.append_assoc]
theorem AP(l:List Bm.Stp)(i:Nat)(h:i<l.length):(sqs l)[i*3]?=some (.int .i64 (l[i].1:Int))∧(sqs l)[i*3+1]?=some (.int .i64 (l[i].2.1:Int))∧(sqs l)[i*3+2]?=some (.int .i64 (l[i].2.2:Int)):=by
 induction l generalizing i with
 | nil=>simp at h
 | cons t l ih=>
  cases i with
  | zero=>exact⟨rfl,rfl,rfl⟩
  | succ i=>
   have h1:=ih i (by simpa using h);rw[sqs];have e:∀j,(afh t++sqs l)[(i+1)*3+j]?=(sqs l)[i*3+j]?:=fun j=>by
    rw[List.getElem?_append_right (by simp[afh];omega)];congr 1
    simp[afh];omega
   have e0:=e 0;rw[Nat.add_zero,Nat.add_zero]at e0;rw[e0,e 1,e 2];exact h1
def Bj(w:World)(A:Option Addr)(l:List Bm.Stp):Prop:=0<l.length→∃g off,A=some ⟨g,off,none⟩∧g<w.heap.size∧∀j (h:j<l.length),w.cell? ⟨g,off+j*3,none⟩=some (.int .i64 (l[j].1:Int))∧w.cell? ⟨g,off+j*3+1,none⟩=some (.int .i64 (l[j].2.1:Int))∧w.cell? ⟨g,off+j*3+2,none⟩=some (.int .i64 (l[j].2.2:Int))
theorem Bj.below{w w':World}{A:Option Addr}{l:List Bm.Stp}(h:Bj w A l)(hb:Below w.heap.size w w'):Bj w' A l:=fun h0=>by
 obtain⟨g,off,e,hg,hc⟩:=h h0;refine⟨g,off,e,Nat.lt_of_lt_of_le hg hb.size,fun j hj=>?_⟩;obtain⟨c0,c1,c2⟩:=hc j hj;exact⟨(hb.cell (p:=⟨g,_,none⟩) hg).trans c0,(hb.cell (p:=⟨g,_,none⟩) hg).trans c1,(hb.cell (p:=⟨g,_,none⟩) hg).trans c2⟩
theorem Bj.nil(w:World)(A:Option Addr):Bj w A []:=fun h=>absurd h (by simp)
theorem abY{w:World}{base:Nat}{v:Value}{l:List Bm.Stp}(h:w.ownsRow base 118 3 v l.length (sqs l)):∃A c,v=.slice A l.length c∧Bj w A l∧c≤maxLen∧l.length≤c:=by
 rcases h.2 with⟨rfl,h0⟩ | ⟨g,cap,cur,rfl,hb,hg,hnc,hcm,hcs,ht⟩
 ·refine⟨none,0,by rw[h0],fun h1=>by omega,by unfold maxLen;omega,by omega⟩
 ·have hr:Row w g 118 (sqs l++cur.toList.drop (l.length*3)):=by
   unfold Row;rw[←ht,List.take_append_drop,Array.toArray_toList];exact hg
  refine⟨_,cap,rfl,fun h1=>⟨g,0,rfl,hr.lt,fun j hj=>?_⟩,hcm,hnc⟩;obtain⟨c0,c1,c2⟩:=AP l j hj;have hl:=zl l;rw[Nat.zero_add,hr.cell,hr.cell,hr.cell,List.getElem?_append_left (by omega),List.getElem?_append_left (by omega),List.getElem?_append_left (by omega)];exact⟨c0,c1,c2⟩
theorem II:(prog.info? 118).map (fun i=>(i.zero,i.size,i.bytes))=some (some (.agg #[.int .i64 0,.int .i64 0,.int .i64 0]),3,24):=by kernel_rfl
theorem iF{a b c:World}{row:Option Nat}(h:a.grownBy b row)(k:b.grownBy c row):a.grownBy c row:=
 ⟨k.os.trans h.os,k.tape.trans h.tape,k.output.trans h.output,Nat.le_trans h.size k.size,fun i hi hn=>(k.block i (Nat.lt_of_lt_of_le hi h.size) hn).trans (h.block i hi hn)⟩
theorem Aa{a b c:World}{row:Option Nat}(h:a.grownBy b row)(k:Below b.heap.size b c):a.grownBy c row:=iF h (aj k row)
def TR(w:World)(A:Option Addr)(l:List StZ):Prop:=0<l.length→∃g off,A=some ⟨g,off,none⟩∧g<w.heap.size∧∀j (h:j<l.length),w.cell? ⟨g,off+j*3,none⟩=some (.int .i64 l[j].1)∧w.cell? ⟨g,off+j*3+1,none⟩=some (.int .i64 l[j].2.1)∧w.cell? ⟨g,off+j*3+2,none⟩=some (.int .i64 l[j].2.2)
def ZOk(l:List StZ):Prop:=∀s∈l,bN s.1∧bN s.2.1∧bN s.2.2
theorem TR.below{w w':World}{A:Option Addr}{l:List StZ}(h:TR w A l)(hb:Below w.heap.size w w'):TR w' A l:=fun h0=>by
 obtain⟨g,off,e,hg,hc⟩:=h h0;refine⟨g,off,e,Nat.lt_of_lt_of_le hg hb.size,fun j hj=>?_⟩;obtain⟨c0,c1,c2⟩:=hc j hj;exact⟨(hb.cell (p:=⟨g,_,none⟩) hg).trans c0,(hb.cell (p:=⟨g,_,none⟩) hg).trans c1,(hb.cell (p:=⟨g,_,none⟩) hg).trans c2⟩
theorem Zd{w:World}{A:Option Addr}{l:List Bm.Stp}(h:Bj w A l):TR w A (l.map qH):=fun h0=>by
 obtain⟨g,off,e,hg,hc⟩:=h (by simpa using h0);refine⟨g,off,e,hg,fun j hj=>?_⟩;have h1:=hc j (by simpa using hj);rw[List.getElem_map];exact h1
theorem acd(l:List Nat)(i j:Nat)(h:i≤j)(h2:j≤l.length)(W:World):(Instr.slice 9 (.string (strOf l)) (some (.int .i64 (i:Int))) (some (.int .i64 (j:Int))) none).run prog W=.ok (.string (strOf ((l.take j).drop i))) W:=by
 rw[run_slice_string W 9 _ .i64 .i64 i j underlying9 (by omega) (by omega) (by rw[aA];omega),Int.toNat_natCast,Int.toNat_natCast,kQ]
theorem Na(T:List Nat)(a b:Int)(w:World)(hT:T.length≤1000000)(hlt:∀x∈T,x<256)(ha:bN a)(hb:bN b) :
  Calls prog 128 #[.string (strOf T),.int .i64 a,.int .i64 b] w fun e w'=>e=.returned (.int .i64 (Mg T a b:Int))∧∃m,w'=w.drewN m:=by
 have hsz:=aA T;obtain⟨ha0,ha1⟩:=ha;obtain⟨hb0,hb1⟩:=hb;obtain⟨r,hr⟩:∃r,r=Mg T a b:=⟨_,rfl⟩;rw[←hr];by_cases h:0≤a∧0≤b
 ·obtain⟨i,rfl⟩:=Int.eq_ofNat_of_zero_le h.1;obtain⟨j,rfl⟩:=Int.eq_ofNat_of_zero_le h.2;have hr2:r=dF T i j:=by
   rw[hr,Mg];split
   ·rw[Int.toNat_natCast,Int.toNat_natCast]
   ·rw[Dy T i j (by omega)]
  have Hr:=hid hr2;have Ei:=hid (fun W k (h:k<T.length)=>uf T k W h (hlt _ (List.getElem_mem h)));obtain⟨x,hx⟩:∃x,x=max i j:=⟨_,rfl⟩;have hmx:max (i:Int) (j:Int)=(x:Int):=by omega
  have hmn:decide (min (i:Int) (j:Int)<0)=false:=decide_eq_false (by omega);have hxi:i≤x:=by omega
  have hxj:j≤x:=by omega
  have hxe:x=i∨x=j:=by omega
  clear h hr hr2 hlt hx;go_enter func128,ntmps128
  go_wp2;clear hmx hmn;go_loopw [8] (fun nv wr=>∃n m:Nat,nv=.int .i64 (n:Int)∧n≤T.length∧Hid (r=n+dF T (i+n) (j+n))∧Hid (wr=w.drewN m)) (fun nv _=>T.length-(intOf nv).toNat)
  case atStart=>exact⟨0,0,rfl,by omega,hid (by rw[Hr.out];simp),hid rfl⟩
  case round=>
   obtain⟨n,m,rfl,hin,hrn,hw⟩:=hrel;have hwr:=hw.out;subst hwr;clear hw;by_cases hA:x+n<T.length
   ·have hAi:i+n<T.length:=by omega
    have hAj:j+n<T.length:=by omega
    have hstep:=ny T (i+n) (j+n) hAi hAj;have k1:∀W:World,(Instr.index 9 (.string (strOf T)) (.int .i64 ((i:Int)+(n:Int)))).run prog W=.ok (.int .u8 ((T[i+n]:Nat):Int)) W:=fun W=>by
     have h:=Ei.out W (i+n) hAi;rwa [Int.natCast_add]at h
    have k2:∀W:World,(Instr.index 9 (.string (strOf T)) (.int .i64 ((j:Int)+(n:Int)))).run prog W=.ok (.int .u8 ((T[j+n]:Nat):Int)) W:=fun W=>by
     have h:=Ei.out W (j+n) hAj;rwa [Int.natCast_add]at h
    rw[hstep]at hrn;clear hstep;have dA:decide ((n:Int)<(T.length:Int)-(x:Int))=true:=decide_eq_true (by omega);generalize T[i+n]'hAi=y at *;generalize T[j+n]'hAj=z at *;by_cases hxy:y=z
    ·subst hxy;rw[if_pos rfl]at hrn;have Hrn:=hid (show r=(n+1)+dF T (i+(n+1)) (j+(n+1)) by rw[hrn.out,Nat.add_assoc i,Nat.add_assoc j];omega);clear hrn Ei Hr;go_wp2_with fail
     go_quiet (fail)
     go_wp2;go_roundw
     case rel=>exact⟨n+1,_,by go_num,by omega,Hrn,hid rfl⟩
     case measure=>simp[intOf];omega
    ·rw[if_neg hxy,Nat.add_zero]at hrn;have dq:((y:Int) == (z:Int))=false:=by rw[beq_eq_false_iff_ne];omega
     have Hrn:=hid (show(n:Int)=(r:Int) by rw[hrn.out]);clear hrn Ei Hr;go_wp2_with fail
     go_quiet (fail)
     go_wp2;go_ret;rw[←Hrn.out];exact⟨rfl,_,World.drewN_drewN _ _ _⟩
   ·have dA:decide ((n:Int)<(T.length:Int)-(x:Int))=false:=decide_eq_false (by omega);have Hrn:=hid (show(n:Int)=(r:Int) by rw[hrn.out,Dy T _ _ (by omega)];omega);clear hrn Ei Hr;go_wp2_with fail
    go_quiet (fail)
    go_wp2;go_ret;rw[←Hrn.out];exact⟨rfl,_,World.drewN_drewN _ _ _⟩
 ·have hr2:r=0:=by rw[hr,Mg,if_neg (fun h2=>h ⟨h2.1,h2.2.1⟩)]
  subst hr2;have hmn:decide (min a b<0)=true:=decide_eq_true (by omega);clear hr hlt;go_enter func128,ntmps128
  go_wp2;go_ret;exact⟨rfl,0,rfl⟩
theorem Bg(b:Nat)(T:List Nat)(w:World)(hc:w.cell? ⟨b,0,none⟩=some (.string (strOf T))) :
  Calls prog 94 #[.pointer (some ⟨b,0,none⟩)] w fun e w'=>e=.returned (.int .i64 (T.length:Int))∧w'=w:=by
 have hsz:=aA T;generalize strOf T=ss at *;go_enter func94,ntmps94
 go_wp2;go_ret;exact⟨rfl,rfl⟩
theorem TK(p:Option Addr)(n:Nat)(a:Int)(w:World)(hn:n≤1000000)(hlen:Calls prog 94 #[.pointer p] w fun e w'=>e=.returned (.int .i64 (n:Int))∧w'=w) :
  Calls prog 126 #[.pointer p,.int .i64 a] w fun e w'=>e=.returned (.bool (decide (0≤a∧a+3≤n)))∧∃m,w'=w.drewN m:=by
 have Hlen:=hid hlen;clear hlen;by_cases h:0≤a
 ·by_cases h2:a+3≤n
  ·have d:decide (0≤a∧a+3≤n)=true:=decide_eq_true ⟨h,h2⟩;rw[d];clear d;have d1:decide (0≤a)=true:=decide_eq_true h;have d2:decide (a≤(n:Int)-3)=true:=decide_eq_true (by omega);go_enter func126,ntmps126
   go_wp2_with fail
   refine Hlen.out.mono ?_;rintro e w' ⟨rfl,rfl⟩;go_wp2;go_ret;exact⟨rfl,0,rfl⟩
  ·have d:decide (0≤a∧a+3≤n)=false:=decide_eq_false (fun h3=>h2 h3.2);rw[d];clear d;have d1:decide (0≤a)=true:=decide_eq_true h;have d2:decide (a≤(n:Int)-3)=false:=decide_eq_false (by omega);go_enter func126,ntmps126
   go_wp2_with fail
   refine Hlen.out.mono ?_;rintro e w' ⟨rfl,rfl⟩;go_wp2;go_ret;exact⟨rfl,0,rfl⟩
 ·have d:decide (0≤a∧a+3≤n)=false:=decide_eq_false (fun h3=>h h3.1);rw[d];clear d;have d1:decide (0≤a)=false:=decide_eq_false h;clear Hlen;go_enter func126,ntmps126
  go_wp2;go_ret;exact⟨rfl,0,rfl⟩
end Go.Proofs.YtgiicohbigiapaaGreat
