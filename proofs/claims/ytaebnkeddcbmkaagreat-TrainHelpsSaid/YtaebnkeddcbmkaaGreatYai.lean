/- Contracts, and what they rest on. Conditions: the theorems' premises. -/
import Derived.Test.YtaebnkeddcbmkaaGreatYad
import Derived.ProofKit
import Derived.OpenShut
set_option maxHeartbeats 4000000
set_option maxRecDepth 100000
open Go.Lib(hid)
open Go.Proofs.Tryz Go.Proofs.YtaebnkeddcbmkaaGreat.Bm
namespace Go.Proofs.YtaebnkeddcbmkaaGreat
open Go.ChangeShapes Go.WideShapes Go.ChangeAt Go.RowKit
def mH(l:List Int):List Value:=l.map fun z=>.int .i64 z
theorem xq(l:List Int):(mH l).length=l.length:=by simp[mH]
theorem TQ(l:List Int)(i:Nat)(h:i<l.length):(mH l)[i]?=some (.int .i64 l[i]):=by simp[mH,h]
theorem bJ(l:List Nat):mH (l.map fun n:Nat=>(n:Int))=aM l:=by simp[mH,aM]
theorem nV{w:World}{A:Option Addr}{l:List Int}(h:Reads w A (mH l))(hne:0<l.length):∃g off,A=some ⟨g,off,none⟩/\∀j (hj:j<l.length),w.cell? ⟨g,off+j,none⟩=some (.int .i64 l[j]):=by
 have hne':mH l≠[]:=fun e=>by
  have h1:=congrArg List.length e;rw[xq,List.length_nil]at h1;omega
 obtain⟨g,off,e,hc⟩:=h hne';exact⟨g,off,e,fun j hj=>by rw[hc j (by rw[xq];exact hj),TQ l j hj]⟩
theorem aC{w W:World}{A:Option Addr}{xs:List Value}(h:Reads w A xs)(hb:Below w.heap.size w W):Reads W A xs:=fun hne=>by
 obtain⟨g,off,e,hc⟩:=h hne;refine⟨g,off,e,fun j hj=>?_⟩;have h1:=hc j hj;rw[List.getElem?_eq_getElem hj]at h1 ⊢;rw[<-h1];exact hb.cell (p:=⟨g,off+j,none⟩) (World.block_lt_of_cell? w _ h1)
theorem aL{w W:World}{b:Nat}{t:TypeId}{cs:List Value}(hr:Row w b t cs)(hb:Below w.heap.size w W):Row W b t cs:=hr.keep (hb.block b hr.lt)
theorem gQ:(prog.info? 3).map (fun i=>(i.zero,i.size,i.bytes))=some (some (.int .i64 0),1,8):=by kernel_rfl
theorem dH{w:World}{base g n:Nat}(h:w.ownsRow base 3 1 (.slice (some ⟨g,0,none⟩) n n) n (madeCells #[Value.int .i64 0] n).toList):Row w g 3 (aM (List.replicate n 0)):=by
 rcases h.2 with⟨hv,_⟩ | ⟨g',cap,cur,hv,hb,hh,h1,h2,h3,h4⟩
 ·cases hv
 ·injection hv with e1 e2 e3
  injection e1 with e1
  injection e1 with e1
  subst e1 e3;have e:cur.toList=aM (List.replicate n 0):=by
   rw[List.take_of_length_le (by rw[Array.length_toList];omega)]at h4;rw[h4,toList_madeCells_one];simp only[aM,List.map_replicate];rfl
  unfold Row;rw[<-e,Array.toArray_toList];exact hh
namespace Bm
def bO(z:Int):Prop:=-9223372036854775808<=z/\z<=9223372036854775807
end Bm
def jF(l:List ByteArray):List Value:=l.map Value.string
theorem cu(l:List ByteArray):(jF l).length=l.length:=by simp[jF]
theorem kP(l:List ByteArray)(i:Nat)(h:i<l.length):(jF l)[i]?=some (.string l[i]):=by simp[jF,h]
theorem abB(l:List ByteArray)(i:Nat)(s:ByteArray):(jF l).set i (.string s)=jF (l.set i s):=by simp[jF,List.map_set]
theorem MF{l:List ByteArray}(h:jF l≠[]):0<l.length:=by
 rcases Nat.eq_zero_or_pos l.length with e | e
 ·rw[List.eq_nil_of_length_eq_zero e]at h;simp[jF]at h
 ·exact e
theorem iF{w:World}{A:Option Addr}{l:List ByteArray}(h:Reads w A (jF l))(hne:0<l.length):∃g off,A=some ⟨g,off,none⟩/\∀j (hj:j<l.length),w.cell? ⟨g,off+j,none⟩=some (.string l[j]):=by
 have hne':jF l≠[]:=fun e=>by
  have h1:=congrArg List.length e;rw[cu,List.length_nil]at h1;omega
 obtain⟨g,off,e,hc⟩:=h hne';exact⟨g,off,e,fun j hj=>by rw[hc j (by rw[cu];exact hj),kP l j hj]⟩
def acu(w:World)(A:Option Addr)(n c:Nat)(l:List ByteArray):Prop:=l.length=n/\(∀s∈l,s.size<=140737488351232)/\Reads w A (jF l)/\n<=c/\c<=maxLen
section
variable {H:Type} {enc:TypeId×Value->H}
theorem yN{P:Program}{e:TypeId}:∀(l:List ByteArray) (s:ByteArray),s∈l->s.data.toList.length∈DataW.weightsAll (H:=H) P e (Go.ChangeShapes.strs l)
 | x :: l,s,h=>by
  simp only[Go.ChangeShapes.strs,List.map_cons,DataW.weightsAll,DataW.weights,List.mem_append,List.mem_singleton];rcases List.mem_cons.1 h with h1 | h1
  ·subst h1;exact Or.inl rfl
  ·exact Or.inr (yN l s h1)
theorem Yr{w:World}{base:Nat}{spare:Nat->Bool}{held:Bool}{A:Option Addr}{n c:Nat}{d:DataW H}{ps:List MemPlace}
  (h:DataW.Trod enc prog w base spare held 22 (.slice A n c) d ps) (hz:∀m∈d.weights prog 22,m<=reachBytes):∃l,acu w A n c l:=by
 obtain⟨fuel,hf⟩:=h;have hC:prog.cellsOf 9=1:=by kernel_rfl
 rcases open_strings underlying22 underlying9 hC hf with⟨hcs,_⟩ | ⟨a,len,cap,ss,hcs,_,hl,hm,hlen,hx,hcell,hsz⟩
 ·simp[Value.cells]at hcs;obtain⟨rfl,rfl,rfl⟩:=hcs;exact⟨[],rfl,fun s hs=>by simp at hs,fun h=>absurd rfl h,Nat.le_refl _,by unfold maxLen;omega⟩
 ·simp[Value.cells]at hcs;obtain⟨rfl,rfl,rfl⟩:=hcs;injection hx with hd _
  subst hd;have hll:n<=ss.length:=by
   rw[hlen];split<;>omega
  refine⟨ss.take n,by rw[List.length_take];omega,fun s hs=>?_,fun hne=>?_,hl,hm⟩
  ·have h1:=hz s.data.toList.length (by
    simp only[DataW.weights,underlying22];exact List.mem_cons_of_mem _ (List.mem_append_left _ (yN _ s hs)))
   rw[Array.length_toList]at h1;exact h1
  ·have h0:0<n:=by
    have:=MF hne;rw[List.length_take]at this;omega
   have h1:=hcell 0 (by omega);obtain⟨b,off,spot⟩:=a;have hspot:spot=none:=by simpa [Addr.add]using World.cell?_spot h1
   subst hspot;refine⟨b,off,rfl,fun j hj=>?_⟩;rw[cu,List.length_take]at hj;have h2:=hcell j (by omega);rw[show((⟨b,off,none⟩:Addr).add j)=⟨b,off+j,none⟩ by unfold Addr.add;split<;>simp_all]at h2;rw[h2,kP _ _ (by rw[List.length_take];omega),List.getElem_take,List.getD_eq_getElem?_getD,List.getElem?_eq_getElem (by omega)];rfl
end
theorem agk(A:Option Addr)(L c q:Nat)(W:World)(h:q<=L)(hc:L<=c):(Instr.slice 22 (.slice A L c) none (some (.int .i64 (q:Int))) none).run prog W=.ok (.slice A q c) W:=by
 have h1:q<=c:=by omega
 rcases A with _ | a
 ·go_simp
 ·go_simp
theorem JR{w:World}{A:Option Addr}{l:List ByteArray}{k:Nat}(h:Reads w A (jF l)):Reads w A (jF (l.take k)):=fun hne=>by
 have h0:=MF hne;rw[List.length_take]at h0;obtain⟨g,off,e,hcell⟩:=iF h (by omega);refine⟨g,off,e,fun j hj=>?_⟩;rw[cu,List.length_take]at hj;rw[hcell j (by omega),kP _ _ (by rw[List.length_take];omega),List.getElem_take]
theorem Li:(prog.info? 9).map (fun i=>(i.zero,i.size,i.bytes))=some (some (.string ⟨#[]⟩),1,16):=by kernel_rfl
namespace Bm
def kR(l:List Int):Nat:=l.countP fun z=>decide (0<z)
theorem WQ(l:List Int)(k:Nat)(h:k<l.length):kR (l.take (k+1))=kR (l.take k)+(if 0<l[k]then 1 else 0):=by
 unfold kR;rw[List.take_succ_eq_append_getElem h,List.countP_append,List.countP_singleton];simp
theorem CX(l:List Int):kR l<=l.length:=List.countP_le_length
def iH:List Nat->Nat
 | []=>0
 | b :: bs=>max (b+1) (iH bs)
def aR(bs:List Nat):List Nat:=(List.range (iH bs)).map fun s=>bs.count s
theorem Kj(a b:List Nat):iH (a++b)=max (iH a) (iH b):=by
 induction a with
 | nil=>simp[iH]
 | cons x a ih=>rw[List.cons_append,iH,ih,iH];omega
theorem FY(bs:List Nat)(k:Nat)(h:k<bs.length):iH (bs.take (k+1))=max (iH (bs.take k)) (bs[k]+1):=by
 rw[List.take_succ_eq_append_getElem h,Kj];simp[iH]
theorem jW(bs:List Nat)(h:∀x∈bs,x<256):iH bs<=256:=by
 induction bs with
 | nil=>simp[iH]
 | cons x a ih=>
  have h1:=ih (fun y hy=>h y (List.mem_cons_of_mem _ hy));have h2:=h x List.mem_cons_self;rw[iH];omega
theorem jP(bs:List Nat)(b:Nat)(h:b∈bs):b<iH bs:=by
 induction bs with
 | nil=>cases h
 | cons x a ih=>
  rw[iH];rcases List.mem_cons.1 h with rfl | h1
  ·omega
  ·have:=ih h1;omega
def bV(bs:List Nat)(k:Nat):List Nat:=(List.range (iH bs)).map fun s=>(bs.take k).count s
theorem qB(bs:List Nat):bV bs 0=List.replicate (iH bs) 0:=by
 unfold bV;rw[List.take_zero];simp only[List.count_nil];rw[List.map_const',List.length_range]
theorem uI(bs:List Nat):bV bs bs.length=aR bs:=by unfold bV aR;rw[List.take_length]
theorem wP(bs:List Nat)(k:Nat):(bV bs k).length=iH bs:=by simp[bV]
theorem uJ(bs:List Nat)(k b:Nat)(h:b<iH bs):(bV bs k)[b]?=some ((bs.take k).count b):=by simp[bV,h]
theorem qA(bs:List Nat)(k:Nat)(h:k<bs.length):bV bs (k+1)=(bV bs k).set bs[k] ((bs.take k).count bs[k]+1):=by
 apply List.ext_getElem
 ·simp[wP]
 ·intro i h1 h2;rw[List.getElem_set];simp only[bV,List.getElem_map,List.getElem_range];rw[List.take_succ_eq_append_getElem h,List.count_append,List.count_singleton];by_cases e:bs[k]=i
  ·subst e;simp
  ·simp[e]
end Bm
theorem afw(T b:Nat):max ((T:Int)-1) (b:Int)=((max T (b+1):Nat):Int)-1:=by omega
namespace Bm
def Fair(l:List Int)(log:Int):Prop:=5<=log/\log<=9/\l.length<=256/\(∀x∈l,0<=x/\x<=1000)/\l.sum=((2^log.toNat:Nat):Int)
instance (l:List Int) (log:Int):Decidable (Fair l log):=by unfold Fair;exact inferInstance
def Ih(l:List Int)(log:Int):Bool:=decide (Fair l log)
theorem abE(l:List Int)(k:Nat)(h:k<l.length):(l.take (k+1)).sum=(l.take k).sum+l[k]:=by
 rw[List.take_succ_eq_append_getElem h,List.sum_append_int,List.sum_singleton]
theorem KE(p:Int->Prop)(l:List Int)(k:Nat)(h:k<l.length)(h0:∀x∈l.take k,p x)(h1:p l[k]):∀x∈l.take (k+1),p x:=by
 rw[List.take_succ_eq_append_getElem h];intro x hx;rcases List.mem_append.1 hx with h2 | h2
 ·exact h0 x h2
 ·rw[List.mem_singleton.1 h2];exact h1
end Bm
end Go.Proofs.YtaebnkeddcbmkaaGreat
namespace Go.Proofs.YtaebnkeddcbmkaaGreat.Bm
def sj:List Nat->Nat
 | []=>0
 | x :: l=>max x (sj l)
def aH(l:List Nat):Nat:=l.idxOf (sj l)
theorem Cn(l:List Nat):∀x∈l,x<=sj l:=by
 induction l with
 | nil=>intro x h;cases h
 | cons a l ih=>
  intro x h;rw[sj];rcases List.mem_cons.1 h with rfl | h
  ·omega
  ·have:=ih x h;omega
theorem Co(l:List Nat)(h:l≠[]):sj l∈l:=by
 induction l with
 | nil=>exact absurd rfl h
 | cons a l ih=>
  rw[sj];by_cases hl:l=[]
  ·subst hl;simp[sj]
  ·have h1:=ih hl;by_cases h2:sj l<=a
   ·rw[Nat.max_eq_left h2];exact List.mem_cons_self
   ·rw[Nat.max_eq_right (by omega)];exact List.mem_cons_of_mem _ h1
theorem je(l:List Nat)(h:l≠[]):aH l<l.length:=List.idxOf_lt_length_of_mem (Co l h)
theorem iD(l:List Nat)(h:aH l<l.length):l[aH l]=sj l:=List.getElem_idxOf h
theorem Jc(a b:List Nat):sj (a++b)=max (sj a) (sj b):=by
 induction a with
 | nil=>simp[sj]
 | cons x a ih=>rw[List.cons_append,sj,ih,sj];omega
theorem BQ(a:List Nat)(x:Nat)(h:a≠[]):aH (a++[x])=if sj a<x then a.length else aH a:=by
 have hm:=Co a h;have e:sj [x]=x:=by simp[sj]
 unfold aH;rw[Jc,e];split
 ·next hlt=>
  rw[Nat.max_eq_right (by omega),List.idxOf_append,if_neg (fun hx=>by have:=Cn a x hx;omega)];simp
 ·next hlt=>
  rw[Nat.max_eq_left (by omega),List.idxOf_append,if_pos hm]
theorem ug(p:List Nat)(k:Nat)(f:Nat->Nat)(h:k<p.length):(p.modify k f).sum+p[k]=p.sum+f p[k]:=by
 induction p generalizing k with
 | nil=>simp at h
 | cons a p ih=>
  cases k with
  | zero=>simp;omega
  | succ k=>
   have:=ih k (by simpa using h);simp[List.modify_succ_cons]at this ⊢;omega
theorem get_modify(p:List Nat)(k i:Nat)(f:Nat->Nat):(p.modify k f)[i]?=if k=i then p[i]?.map f else p[i]?:=by
 rw[List.getElem?_modify];cases h:p[i]?<;>split<;>simp
def fD(p q:List Nat):Prop:=p.length=q.length/\∀i:Nat,0<p[i]?.getD 0↔0<q[i]?.getD 0
theorem fD.refl(p:List Nat):fD p p:=⟨rfl,fun _=>Iff.rfl⟩
theorem fD.trans{p q r:List Nat}(h:fD p q)(k:fD q r):fD p r:=⟨h.1.trans k.1,fun i=>(h.2 i).trans (k.2 i)⟩
def za(l:List Nat):Nat:=l.countP fun n=>decide (0<n)
theorem fD.za:∀{p q:List Nat},fD p q->za p=za q
 | [],[],_=>rfl
 | [],_ :: _,h=>by have:=h.1;simp at this
 | _ :: _,[],h=>by have:=h.1;simp at this
 | a :: p,b :: q,h=>by
  have h0:=h.2 0;have h1:fD p q:=⟨by have:=h.1;simpa using this,fun i=>by have:=h.2 (i+1);simpa using this⟩;have h2:=h1.za;unfold Bm.za at h2 ⊢;rw[List.countP_cons,List.countP_cons,h2];simp at h0;by_cases ha:0<a<;>simp[ha,h0.1]<;>simp_all
theorem yw(l:List Nat)(h:∀x∈l,x<=1):l.sum<=za l:=by
 induction l with
 | nil=>simp
 | cons a l ih=>
  have h1:=ih (fun x hx=>h x (List.mem_cons_of_mem _ hx));have h2:=h a List.mem_cons_self;unfold za at h1 ⊢;rw[List.sum_cons,List.countP_cons];by_cases ha:0<a
  ·simp[ha];omega
  ·simp[ha];omega
def decs:Nat->List Nat->List Nat
 | 0,p=>p
 | k+1,p=>decs k (p.modify (aH p) (·-1))
theorem Ef(size:Nat):∀(k:Nat) (p:List Nat),za p<=size->p.sum=size+k->(decs k p).sum=size/\fD (decs k p) p
 | 0,p,_,hs=>⟨by simpa [decs]using hs,fD.refl p⟩
 | k+1,p,hp,hs=>by
  have hne:p≠[]:=by rintro rfl;simp at hs
  have hlt:=je p hne;have hget:=iD p hlt;have h2:2<=sj p:=by
   rcases Nat.lt_or_ge (sj p) 2 with h1 | h1
   ·have:=yw p (fun x hx=>by have:=Cn p x hx;omega);omega
   ·exact h1
  have hsum:=ug p (aH p) (·-1) hlt;rw[hget]at hsum;have hsame:fD (p.modify (aH p) (·-1)) p:=by
   refine⟨by simp,fun i=>?_⟩;rw[get_modify];split
   ·next e=>
    subst e;rw[List.getElem?_eq_getElem hlt,hget];simp;omega
   ·exact Iff.rfl
  have h3:=Ef size k (p.modify (aH p) (·-1)) (by rw[hsame.za];exact hp) (by omega);exact⟨h3.1,h3.2.trans hsame⟩
def pQ(size total c:Nat):Nat:=if c*size/total=0/\0<c then 1 else c*size/total
def parts(cs:List Nat)(size:Nat):List Nat:=cs.map (pQ size cs.sum)
def rA(cs:List Nat)(size:Nat):List Nat:=
 if (parts cs size).sum<size then(parts cs size).modify (aH cs) (·+(size-(parts cs size).sum))else decs ((parts cs size).sum-size) (parts cs size)
theorem Vf(size total c:Nat):0<pQ size total c↔0<c:=by
 unfold pQ;split
 ·next h=>simp[h.2]
 ·next h=>
  constructor
  ·intro h1;rcases Nat.eq_zero_or_pos c with h2 | h2
   ·subst h2;simp at h1
   ·exact h2
  ·intro h1;rcases Nat.eq_zero_or_pos (c*size/total)with h2 | h2
   ·exact absurd ⟨h2,h1⟩ h
   ·exact h2
theorem Ao(cs:List Nat)(size:Nat):fD (parts cs size) cs:=by
 refine⟨by simp[parts],fun i=>?_⟩;unfold parts;rw[List.getElem?_map];cases h:cs[i]? with
 | none=>simp
 | some c=>simp[Vf]
theorem tY(cs:List Nat)(size:Nat)(h0:0<cs.sum)(h:za cs<=size):(rA cs size).sum=size/\fD (rA cs size) cs:=by
 have hsame:=Ao cs size;unfold rA;split
 ·next hlt=>
  have hne:cs≠[]:=by rintro rfl;simp at h0
  have hlt2:=je cs hne;have hlt3:aH cs<(parts cs size).length:=by rw[hsame.1];exact hlt2
  have hs:=ug (parts cs size) (aH cs) (·+(size-(parts cs size).sum)) hlt3;refine⟨by omega,⟨by simp[hsame.1],fun i=>?_⟩⟩;rw[get_modify];split
  ·next e=>
   subst e;have h1:=hsame.2 (aH cs);have hp:0<cs[aH cs]?.getD 0:=by
    rw[List.getElem?_eq_getElem hlt2,iD cs hlt2];simp;rcases Nat.eq_zero_or_pos (sj cs)with h2 | h2
    ·have h3:cs.sum=0:=by
      have:∀(l:List Nat),(∀x∈l,x=0)->l.sum=0:=fun l=>by
       induction l with
       | nil=>simp
       | cons a l ih=>intro hh;rw[List.sum_cons,hh a List.mem_cons_self,ih (fun x hx=>hh x (List.mem_cons_of_mem _ hx))]
      exact this cs (fun x hx=>by have:=Cn cs x hx;omega)
     omega
    ·exact h2
   rw[List.getElem?_eq_getElem hlt3]at h1 ⊢;simp at h1 ⊢;have:=h1.2 hp;omega
  ·exact hsame.2 i
 ·next hlt=>
  have h1:=Ef size ((parts cs size).sum-size) (parts cs size) (by rw[hsame.za];exact h) (by omega);exact⟨h1.1,h1.2.trans hsame⟩
def Right(l:List Int):Prop:=l.length<=256/\(∀x∈l,0<=x/\x<=1048576)/\∃x∈l,0<x
def Ut(sym q:Nat):Nat:=
 if 4*sym<=32/\q<=32 then 5 else if 4*sym<=64/\q<=64 then 6 else if 4*sym<=128/\q<=128 then 7 else if 4*sym<=256/\q<=256 then 8 else 9
theorem Uv(sym q:Nat)(h:sym<=256):5<=Ut sym q/\Ut sym q<=9/\sym<=2^Ut sym q:=by
 unfold Ut;split
 ·refine⟨by omega,by omega,?_⟩;have:(2:Nat)^5=32:=by decide
  omega
 split
 ·refine⟨by omega,by omega,?_⟩;have:(2:Nat)^6=64:=by decide
  omega
 split
 ·refine⟨by omega,by omega,?_⟩;have:(2:Nat)^7=128:=by decide
  omega
 split
 ·refine⟨by omega,by omega,?_⟩;have:(2:Nat)^8=256:=by decide
  omega
 ·refine⟨by omega,by omega,?_⟩;have:(2:Nat)^9=512:=by decide
  omega
end Go.Proofs.YtaebnkeddcbmkaaGreat.Bm
namespace Go.Proofs.YtaebnkeddcbmkaaGreat
open Go.RowKit
namespace Bm
instance (l:List Int):Decidable (Right l):=by unfold Right;exact inferInstance
def iY(l:List Int)(log:Int):Prop:=Right l/\5<=log/\log<=9/\kR l<=2^log.toNat
instance (l:List Int) (log:Int):Decidable (iY l log):=by unfold iY;exact inferInstance
def jo(l:List Int)(log:Int):List Int:=if iY l log then(rA (l.map Int.toNat) (2^log.toNat)).map (fun n:Nat=>(n:Int))else []
def iQ(l:List Int):Nat:=if Right l then Ut (kR l) (l.sum.toNat/8)else 0
end Bm
def COf:Prop:=∀(A:Option Addr) (c:Nat) (bs:List Nat) (w:World),bs.length<=1000000->(∀x∈bs,x<256)->Reads w A (u8s bs) ->
 Calls prog 67 #[.slice A bs.length c] w fun e w'=>∃A' c',e=.returned (.slice A' (iH bs) c')/\Reads w' A' (aM (aR bs))/\Below w.heap.size w w'
def XW:Prop:=∀(A:Option Addr) (c:Nat) (l:List Int) (w:World),l.length<=1000000->Reads w A (mH l) ->
 Calls prog 68 #[.slice A l.length c] w fun e w'=>e=.returned (.int .i64 (kR l:Int))/\Below w.heap.size w w'
def aoP:Prop:=∀(A:Option Addr) (c:Nat) (l:List Int) (w:World),l.length<=1000000->(∀x∈l,bO x)->Reads w A (mH l) ->
 Calls prog 144 #[.slice A l.length c] w fun e w'=>e=.returned (.int .i64 (iQ l:Int))/\Below w.heap.size w w'
def ahv:Prop:=∀(A:Option Addr) (c:Nat) (l:List Int) (log:Int) (w:World),l.length<=1000000->(∀x∈l,bO x)->bO log->Reads w A (mH l) ->
 Calls prog 145 #[.slice A l.length c,.int .i64 log] w fun e w'=>∃A' c',e=.returned (.tuple #[.slice A' (jo l log).length c',.bool (decide (iY l log))])/\Reads w' A' (mH (jo l log))/\Below w.heap.size w w'
namespace Bm
def aG(bs:List Nat):List Int:=(aR bs).map fun n:Nat=>(n:Int)
theorem bI(bs:List Nat):(aG bs).length=iH bs:=by simp[aG,aR]
theorem kY(bs:List Nat)(x:Int)(h:x∈aG bs):0<=x/\x<=bs.length:=by
 unfold aG aR at h;rw[List.map_map,List.mem_map]at h;obtain⟨s,_,rfl⟩:=h;have:=List.count_le_length (a:=s) (l:=bs);exact⟨Int.natCast_nonneg _,by simp only[Function.comp_apply];omega⟩
theorem qz(bs:List Nat)(hlt:∀x∈bs,x<256)(hl:bs.length<=1048576)(h0:0<bs.length):Right (aG bs):=by
 refine⟨by rw[bI];exact jW bs hlt,fun x hx=>by have:=kY bs x hx;omega,?_⟩;obtain⟨b,hb⟩:∃b,b∈bs:=by
  cases bs with
  | nil=>simp at h0
  | cons b bs=>exact⟨b,List.mem_cons_self⟩
 refine⟨((bs.count b:Nat):Int),?_,?_⟩
 ·unfold aG aR;rw[List.map_map,List.mem_map];exact⟨b,List.mem_range.2 (jP bs b hb),rfl⟩
 ·have:=List.count_pos_iff.2 hb;omega
theorem kZ(bs:List Nat)(hlt:∀x∈bs,x<256)(hl:bs.length<=1048576):iY (aG bs) (iQ (aG bs):Int)↔0<bs.length:=by
 constructor
 ·rintro⟨⟨_,_,x,hx,h0⟩,_⟩;have:=kY bs x hx;omega
 ·intro h0;have hr:=qz bs hlt hl h0;have hs:=CX (aG bs);rw[bI]at hs;have ht:=jW bs hlt;have h1:=Uv (kR (aG bs)) ((aG bs).sum.toNat/8) (by omega);unfold iQ;rw[if_pos hr];exact⟨hr,by omega,by omega,by rw[Int.toNat_natCast];exact h1.2.2⟩
end Bm
abbrev Cel:=Nat×Nat×Nat
def YG(t:Cel):List Value:=[.int .u8 (t.1:Int),.int .i64 (t.2.1:Int),.int .i64 (t.2.2:Int)]
def c3:List Cel->List Value
 | []=>[]
 | t :: l=>YG t++c3 l
theorem Sc(l:List Cel):(c3 l).length=l.length*3:=by
 induction l with
 | nil=>rfl
 | cons t l ih=>rw[c3,List.length_append,ih,List.length_cons];simp[YG];omega
theorem Sb(l:List Cel)(i:Nat)(h:i<l.length):(c3 l)[i*3]?=some (.int .u8 (l[i].1:Int))/\(c3 l)[i*3+1]?=some (.int .i64 (l[i].2.1:Int))/\(c3 l)[i*3+2]?=some (.int .i64 (l[i].2.2:Int)):=by
 induction l generalizing i with
 | nil=>simp at h
 | cons t l ih=>
  cases i with
  | zero=>exact⟨rfl,rfl,rfl⟩
  | succ i=>
   have h1:=ih i (by simpa using h);rw[c3];have e:∀j,(YG t++c3 l)[(i+1)*3+j]?=(c3 l)[i*3+j]?:=fun j=>by
    rw[List.getElem?_append_right (by simp[YG];omega)];congr 1
    simp[YG];omega
   have e0:=e 0;rw[Nat.add_zero,Nat.add_zero]at e0;rw[e0,e 1,e 2];exact h1
theorem Sd(l:List Cel)(i:Nat)(h:i<l.length)(s b z:Nat) :
  (c3 l).set (i*3) (.int .u8 (s:Int))=c3 (l.set i (s,l[i].2))/\(c3 l).set (i*3+1) (.int .i64 (b:Int))=c3 (l.set i (l[i].1,b,l[i].2.2))/\(c3 l).set (i*3+2) (.int .i64 (z:Int))=c3 (l.set i (l[i].1,l[i].2.1,z)):=by
 induction l generalizing i with
 | nil=>simp at h
 | cons t l ih=>
  cases i with
  | zero=>exact⟨rfl,rfl,rfl⟩
  | succ i=>
   have h1:=ih i (by simpa using h);have e:∀j v,(YG t++c3 l).set ((i+1)*3+j) v=YG t++(c3 l).set (i*3+j) v:=fun j v=>by
    rw[List.set_append_right _ _ (by simp[YG];omega)];congr 2
    simp[YG];omega
   have e0:=fun v=>e 0 v
   simp only[Nat.add_zero]at e0;simp only[c3,e0,e 1,e 2,List.set_cons_succ,List.getElem_cons_succ];exact⟨by rw[h1.1],by rw[h1.2.1],by rw[h1.2.2]⟩
namespace Bm
def oK(ls:List Nat)(log:Nat):List Cel:=(List.range (2^log)).map fun p=>(bg ls log p,aD ls log p,aS ls log p)
def ph1(ls:List Nat)(log K:Nat):List Cel:=(List.range (2^log)).map fun p=>((if QE log p<K then bg ls log p else 0),0,0)
theorem Bz(ls:List Nat)(log:Nat):(oK ls log).length=2^log:=by simp[oK]
theorem nU(ls:List Nat)(log K:Nat):(ph1 ls log K).length=2^log:=by simp[ph1]
theorem Nv(ls:List Nat)(log p:Nat)(h:p<(oK ls log).length):(oK ls log)[p]=(bg ls log p,aD ls log p,aS ls log p):=by simp[oK]
theorem aaA(ls:List Nat)(log:Nat):ph1 ls log 0=List.replicate (2^log) (0,0,0):=by
 unfold ph1;simp only[Nat.not_lt_zero,if_false];rw[List.map_const',List.length_range]
theorem aaz(ls:List Nat)(log K s:Nat)(h5:5<=log)(h9:log<=9)(hK:K<2^log)(hs:(dJ 0 ls)[K]?=some s) :
  ∃h:tL log K<(ph1 ls log K).length,ph1 ls log (K+1)=(ph1 ls log K).set (tL log K) (s,(ph1 ls log K)[tL log K].2):=by
 have hp:=Vo log K;refine⟨by rw[nU];exact hp,?_⟩;have hi:=inv_pos log K h5 h9 hK;apply List.ext_getElem
 ·simp[nU]
 ·intro p h1 h2;have hpp:p<2^log:=by rw[nU]at h1;exact h1
  rw[List.getElem_set];simp only[ph1,List.getElem_map,List.getElem_range];by_cases e:tL log K=p
  ·subst e;rw[if_pos rfl,hi,if_pos (by omega)];unfold bg;rw[hi,hs];rfl
  ·rw[if_neg e];have hne:QE log p≠K:=fun h=>e (by rw[<-h];exact Jy log p h5 h9 hpp)
   by_cases hlt:QE log p<K
   ·rw[if_pos hlt,if_pos (by omega)]
   ·rw[if_neg hlt,if_neg (by omega)]
theorem Ka(ls:List Nat)(log p:Nat)(hp:p<2^log)(h:p<(tab ls log).length):(tab ls log)[p]=bg ls log p:=by
 have:=pX ls log p hp;rw[List.getElem?_eq_getElem h]at this;injection this
end Bm
theorem afu(n:Nat):(madeCells #[Value.int .u8 0,.int .i64 0,.int .i64 0] (n*3)).toList=c3 (List.replicate n (0,0,0)):=by
 apply List.ext_getElem
 ·simp[madeCells,Sc]
 ·intro i h1 h2;have hi:i<n*3:=by simpa [madeCells]using h1
  have hq:i/3<(List.replicate n ((0,0,0):Cel)).length:=by simp;omega
  obtain⟨e0,e1,e2⟩:=Sb (List.replicate n (0,0,0)) (i/3) hq;rw[List.getElem_replicate]at e0 e1 e2;have hl:(madeCells #[Value.int .u8 0,.int .i64 0,.int .i64 0] (n*3)).toList[i]=(#[Value.int .u8 0,.int .i64 0,.int .i64 0]:Array Value)[i%3]!:=by simp[madeCells]
  have hr:i%3=0\/i%3=1\/i%3=2:=by omega
  rw[hl,<-Option.some_inj,<-List.getElem?_eq_getElem h2];rcases hr with h | h | h
  ·rw[h,show i=i/3*3 by omega,e0];rfl
  ·rw[h,show i=i/3*3+1 by omega,e1];rfl
  ·rw[h,show i=i/3*3+2 by omega,e2];rfl
theorem TV:(prog.info? 247).map (fun i=>(i.zero,i.size,i.bytes))=some (some (.agg #[.int .u8 0,.int .i64 0,.int .i64 0]),3,24):=by kernel_rfl
namespace Bm
theorem Nf(ls:List Nat)(log st s p:Nat)(h:jS ls log st s=some p):p<2^log/\leads ls log st s p:=by
 unfold jS at h;have h1:=List.find?_some h;have h2:=List.mem_range.1 (List.mem_of_find?_eq_some h);exact⟨h2,of_decide_eq_true h1⟩
end Bm
theorem aiu(l:List Cel)(i s B Z:Nat)(h:i<l.length)(hl:l[i]=(s,0,0)):((c3 l).set (i*3+1) (.int .i64 (B:Int))).set (i*3+2) (.int .i64 (Z:Int))=c3 (l.set i (s,B,Z)):=by
 have h1:=(Sd l i h 0 B 0).2.1;rw[hl]at h1;rw[h1];have hl2:i<(l.set i (s,B,0)).length:=by simpa using h
 have h2:=(Sd (l.set i (s,B,0)) i hl2 0 0 Z).2.2;rw[List.getElem_set_self,List.set_set]at h2;exact h2
namespace Bm
theorem SS(l:List Int)(log:Int)(h:Fair l log):bN (l.map Int.toNat) log.toNat:=by
 obtain⟨h1,h2,h3,h4,h5⟩:=h;have hs:∀l:List Int,(∀x∈l,0<=x/\x<=1000)->(((l.map Int.toNat).sum:Nat):Int)=l.sum:=fun l=>by
  induction l with
  | nil=>simp
  | cons a l ih=>
   intro hh;have:=hh a List.mem_cons_self;rw[List.map_cons,List.sum_cons,List.sum_cons,Int.natCast_add,ih (fun x hx=>hh x (List.mem_cons_of_mem _ hx))];omega
 refine⟨by omega,by omega,by simpa using h3,?_⟩;have:=hs l h4;rw[h5]at this;exact Int.ofNat_inj.1 this
theorem KU(l:List Int)(log:Int)(h:Fair l log):(l.map Int.toNat).map (fun n:Nat=>(n:Int))=l:=by
 rw[List.map_map];have:∀l:List Int,(∀x∈l,0<=x/\x<=1000)->l.map ((fun n:Nat=>(n:Int)) ∘ Int.toNat)=l:=fun l=>by
  induction l with
  | nil=>simp
  | cons a l ih=>
   intro hh;have:=hh a List.mem_cons_self;rw[List.map_cons,ih (fun x hx=>hh x (List.mem_cons_of_mem _ hx))];congr 1
   simp only[Function.comp_apply];omega
 exact this l h.2.2.2.1
def uZ(ls:List Nat)(log:Nat)(st:Int):Cel:=if 0<=st/\st<((2^log:Nat):Int)then(bg ls log st.toNat,aD ls log st.toNat,aS ls log st.toNat)else(0,0,0)
def Cq(ls:List Nat)(log:Nat)(st more:Int):Bool:=decide (0<=st/\st<((2^log:Nat):Int)/\0<=more/\more<((2^aD ls log st.toNat:Nat):Int))
def ET(ls:List Nat)(log:Nat)(st more:Int):Int:=if Cq ls log st more then(aS ls log st.toNat:Int)+more else 0
def DI(ls:List Nat)(log:Nat)(st:Int)(s:Nat):Option (Nat×Nat×Nat):=
 if 0<=st/\st<((2^log:Nat):Int)then(jS ls log st.toNat s).map fun p=>(p,st.toNat-aS ls log p,aD ls log p)else none
end Bm
def Nt(t:Cel):Value:=.agg #[.int .u8 (t.1:Int),.int .i64 (t.2.1:Int),.int .i64 (t.2.2:Int)]
def Yt:Option (Nat×Nat×Nat)->Value
 | none=>.tuple #[.int .i64 0,.int .i64 0,.int .i64 0,.bool false]
 | some (p,v,k)=>.tuple #[.int .i64 (p:Int),.int .i64 (v:Int),.int .i64 (k:Int),.bool true]
structure alq(TB:World->Addr->List Nat->Nat->Prop):Prop where
 keep:∀w W p ls log,TB w p ls log->Below w.heap.size w W->TB W p ls log
 build:∀(A:Option Addr) (c:Nat) (l:List Int) (log:Int) (w:World),l.length<=1000000->(∀x∈l,bO x)->bO log->Reads w A (mH l)->Bm.Fair l log ->
  Calls prog 147 #[.slice A l.length c,.int .i64 log] w fun e w'=>∃p,e=.returned (.tuple #[.pointer (some p),.bool true])/\TB w' p (l.map Int.toNat) log.toNat/\Below w.heap.size w w'
 afC:∀(A:Option Addr) (c:Nat) (l:List Int) (log:Int) (w:World),l.length<=1000000->(∀x∈l,bO x)->bO log->Reads w A (mH l)->¬Bm.Fair l log ->
  Calls prog 147 #[.slice A l.length c,.int .i64 log] w fun e w'=>e=.returned (.tuple #[.pointer none,.bool false])/\Below w.heap.size w w'
 cell:∀(w:World) (p:Addr) (ls:List Nat) (log:Nat) (st:Int),bN ls log->TB w p ls log->bO st ->
  Calls prog 212 #[.pointer (some p),.int .i64 st] w fun e w'=>e=.returned (.tuple #[Nt (uZ ls log st),.bool (decide (0<=st/\st<((2^log:Nat):Int)))])/\Below w.heap.size w w'
 aen:∀(w:World) (st:Int),bO st->Calls prog 212 #[.pointer none,.int .i64 st] w fun e w'=>e=.returned (.tuple #[Nt (0,0,0),.bool false])/\Below w.heap.size w w'
 size:∀(w:World) (p:Addr) (ls:List Nat) (log:Nat),bN ls log->TB w p ls log->Calls prog 193 #[.pointer (some p)] w fun e w'=>e=.returned (.int .i64 ((2^log:Nat):Int))/\∃m,w'=w.drewN m
 agq:∀w:World,Calls prog 193 #[.pointer none] w fun e w'=>e=.returned (.int .i64 0)/\∃m,w'=w.drewN m
 amc:∀(w:World) (p:Addr) (ls:List Nat) (log:Nat),bN ls log->TB w p ls log->Calls prog 196 #[.pointer (some p)] w fun e w'=>e=.returned (.int .i64 (log:Int))/\∃m,w'=w.drewN m
 ajz:∀w:World,Calls prog 196 #[.pointer none] w fun e w'=>e=.returned (.int .i64 0)/\∃m,w'=w.drewN m
 next:∀(w:World) (p:Addr) (ls:List Nat) (log:Nat) (st more:Int),bN ls log->TB w p ls log->bO st->bO more ->
  Calls prog 213 #[.pointer (some p),.int .i64 st,.int .i64 more] w fun e w'=>e=.returned (.tuple #[.int .i64 (ET ls log st more),.bool (Cq ls log st more)])/\Below w.heap.size w w'
 back:∀(w:World) (p:Addr) (ls:List Nat) (log:Nat) (st:Int) (s:Nat),bN ls log->TB w p ls log->bO st->s<256 ->
  Calls prog 195 #[.pointer (some p),.int .i64 st,.int .u8 (s:Int)] w fun e w'=>e=.returned (Yt (DI ls log st s))/\Below w.heap.size w w'
theorem mY(ls:List Nat)(log:Nat)(b:List Nat)(h:Bm.encR ls log b=none):∀a:List Nat,Bm.encR ls log (a++b)=none
 | []=>h
 | x :: a=>by
  rw[List.cons_append];simp only[Bm.encR];rw[mY ls log b h a];rfl
theorem Cw{w:World}{base n c:Nat}{A:Option Addr}{e:TypeId}{xs:List Value}(h:w.ownsRow base e 1 (.slice A n c) n xs):n<=c/\c<=maxLen:=by
 rcases h.2 with⟨hv,h0⟩ | ⟨g',cap',cur,hv,hb,hh,h1,h2,_⟩
 ·injection hv with _ _ e3
  subst h0 e3;exact⟨Nat.le_refl _,by unfold maxLen;omega⟩
 ·injection hv with _ _ e3
  subst e3;exact⟨h1,h2⟩
namespace Bm
def ahf(ls:List Nat)(log:Nat)(ok:Bool)(M L:Nat)(n:Int):Option (List Nat):=
 if ok=true/\0<=n/\n<=1048576/\log<=L then zN ls log n.toNat (M%2^(L-log)) (L-log) (M/2^(L-log))else none
theorem Dc(V k:Nat)(h:Top V k):V.log2=k:=by
 obtain⟨h1,h2⟩:=Db.1 h;have h0:0<V:=by have:=Nat.two_pow_pos k;omega
 have h3:=Bd V k h1 (by rw[Nat.pow_succ];omega);rw[yP V h0]at h3;omega
def tF(bs:List Nat):Option (Nat×Nat):=if bs.getLast?.getD 0=0 then none else some (aW bs%2^(aW bs).log2,(aW bs).log2)
def jm(N n:Nat):List Nat:=bytesOf (N+2^n) (n/8+1)
theorem uT(N n:Nat):(jm N n).length=n/8+1:=by simp[jm,bytesOf_length]
theorem abl(N n:Nat):∀x∈jm N n,x<256:=eH _ _
theorem Nq(V m:Nat):(bytesOf V (m+1)).getLast?=some (V/256^m%256):=by
 rw[jI,List.getLast?_append,List.getLast?_singleton];rfl
theorem UR(N n:Nat)(h:N<2^n):tF (jm N n)=some (N,n):=by
 have ht:=agD N n h;have hv:aW (jm N n)=N+2^n:=Xu N n h;have hd:(N+2^n)/256^(n/8)%256≠0:=by
  have h1:=(Db.1 ht).1;have h2:=uV N n h;rw[Nat.pow_succ]at h2;have hp:0<256^(n/8):=Nat.pow_pos (by omega);have h3:(N+2^n)/256^(n/8)<256:=(Nat.div_lt_iff_lt_mul hp).2 (by rw[Nat.mul_comm];exact h2);have h4:256^(n/8)<=N+2^n:=by
   refine Nat.le_trans ?_ h1;rw[tH];exact Nat.pow_le_pow_right (by omega) (by omega)
  have h5:1<=(N+2^n)/256^(n/8):=(Nat.le_div_iff_mul_le hp).2 (by omega);omega
 unfold tF;rw[hv,Dc _ _ ht,if_neg]
 ·have:=ht.sum;congr 2
  omega
 ·unfold jm;rw[Nq,Option.getD_some];exact hd
theorem FH(bs:List Nat)(N n:Nat)(hb:∀x∈bs,x<256)(h:tF bs=some (N,n)):N<2^n/\bs=jm N n/\n<8*bs.length:=by
 unfold tF at h;split at h
 ·cases h
 ·next hl=>
  injection h with h
  injection h with h1 h2
  obtain⟨front,b,rfl⟩:∃front b,bs=front++[b]:=by
   rcases List.eq_nil_or_concat bs with rfl | ⟨f,b,rfl⟩
   ·simp at hl
   ·exact⟨f,b,List.concat_eq_append⟩
  rw[List.getLast?_append,List.getLast?_singleton]at hl;have hb0:b≠0:=by simpa using hl
  obtain⟨l1,l8,ht⟩:=MR front b (fun x hx=>hb x (List.mem_append_left _ hx)) (hb b (by simp)) hb0;have hlg:=Dc _ _ ht;rw[hlg]at h1 h2;have hs:=ht.sum;rw[h1,h2]at hs;have hN:N<2^n:=by rw[<-h1,<-h2];exact Nat.mod_lt _ (Nat.two_pow_pos _)
  refine⟨hN,?_,by rw[List.length_append,List.length_singleton];omega⟩;unfold jm;rw[<-hs];have hlen:n/8+1=(front++[b]).length:=by rw[List.length_append,List.length_singleton];omega
  rw[hlen];exact(mW _ hb).symm
def vg(ls:List Nat)(log:Nat)(syms:List Nat):Option (Nat×Nat):=(encR ls log syms).map fun t=>(t.1+t.2.2*2^t.2.1,t.2.1+log)
def YW(ls:List Nat)(log:Nat)(syms:List Nat):Option (List Nat):=(vg ls log syms).map fun t=>jm t.1 t.2
def BL(ls:List Nat)(log:Nat)(bs:List Nat)(n:Int):Option (List Nat):=(tF bs).bind fun t=>ahf ls log true t.1 t.2 n
theorem GQ(ls:List Nat)(log:Nat)(h:bN ls log)(syms:List Nat)(N n:Nat)(e:vg ls log syms=some (N,n)):N<2^n/\n<=log*(syms.length+1)/\log<=n:=by
 unfold vg at e;cases hr:encR ls log syms with
 | none=>rw[hr]at e;cases e
 | some t=>
  obtain⟨N0,n0,st⟩:=t;rw[hr,Option.map_some]at e;injection e with e
  injection e with e1 e2
  subst e1 e2;obtain⟨h1,h2,h3,_⟩:=zO ls log h syms N0 n0 st hr;dsimp only;refine⟨?_,by rw[Nat.mul_add,Nat.mul_one];omega,by omega⟩;rw[Nat.pow_add,Nat.mul_comm (2^n0)];have h5:(st+1)*2^n0<=2^log*2^n0:=Nat.mul_le_mul_right _ h2;rw[Nat.add_mul,Nat.one_mul]at h5;generalize st*2^n0=A at h5 ⊢;generalize 2^log*2^n0=B at h5 ⊢;omega
theorem aeu(ls:List Nat)(log:Nat)(h:bN ls log)(syms bs:List Nat)(hl:syms.length<=1048576)(e:YW ls log syms=some bs):BL ls log bs (syms.length:Int)=some syms:=by
 unfold YW at e;cases hc:vg ls log syms with
 | none=>rw[hc]at e;cases e
 | some t=>
  obtain⟨N,n⟩:=t;rw[hc,Option.map_some]at e;injection e with e
  subst e;obtain⟨hN,_,hln⟩:=GQ ls log h syms N n hc;unfold BL;dsimp only;rw[UR N n hN,Option.bind_some];unfold vg at hc;cases hr:encR ls log syms with
  | none=>rw[hr]at hc;cases hc
  | some t=>
   obtain⟨N0,n0,st⟩:=t;rw[hr,Option.map_some]at hc;injection hc with hc
   injection hc with e1 e2
   subst e1 e2;obtain⟨h1,h2,h3,h4⟩:=zO ls log h syms N0 n0 st hr;obtain⟨s1,s2⟩:=Nz N0 n0 st h1;dsimp only;unfold ahf;rw[if_pos ⟨rfl,by omega,by omega,by omega⟩,Int.toNat_natCast,Nat.add_sub_cancel,s1,s2];exact h4
theorem aex(ls:List Nat)(log:Nat)(h:bN ls log)(bs syms:List Nat)(n:Int)(hb:∀x∈bs,x<256)(e:BL ls log bs n=some syms):YW ls log syms=some bs/\(syms.length:Int)=n/\n<=1048576/\∀s∈syms,s<256:=by
 unfold BL at e;cases ho:tF bs with
 | none=>rw[ho]at e;cases e
 | some t=>
  obtain⟨N,L⟩:=t;rw[ho,Option.bind_some]at e;obtain⟨hN,hbs,_⟩:=FH bs N L hb ho;dsimp only at e;unfold ahf at e;split at e
  ·next hc=>
   obtain⟨_,h0,hn,hlL⟩:=hc;obtain⟨q,rfl⟩:∃q,L=q+log:=⟨L-log,by omega⟩;rw[Nat.add_sub_cancel]at e;have hst:N/2^q<2^log:=by
    rw[Nat.pow_add,Nat.mul_comm]at hN;exact(Nat.div_lt_iff_lt_mul (Nat.pow_pos (by omega))).2 hN
   have hmod:N%2^q<2^q:=Nat.mod_lt _ (Nat.two_pow_pos _);obtain⟨h1,h2⟩:=acN ls log h n.toNat _ q _ syms hmod hst e;refine⟨?_,by omega,hn,?_⟩
   ·unfold YW vg;rw[h1];simp only[Option.map_some];congr 1
    rw[hbs];congr 1
    have:=Nat.div_add_mod N (2^q);rw[Nat.mul_comm]at this;omega
   ·intro s hs;have hp:0<ls[s]?.getD 0:=by
     rcases Nat.eq_zero_or_pos (ls[s]?.getD 0)with h3 | h3
     ·rw[KS ls log h s h3 syms hs]at h1;cases h1
     ·exact h3
    have hlen:=h.len;rcases Nat.lt_or_ge s ls.length with h4 | h4
    ·omega
    ·rw[List.getElem?_eq_none h4]at hp;simp at hp
  ·cases e
end Bm
def vU(w':World)(e:Ending):Option (List Nat)->Prop
 | none=>∃A c,e=.returned (.tuple #[.slice A 0 c,.bool false])
 | some bs=>∃A c,e=.returned (.tuple #[.slice A bs.length c,.bool true])/\Reads w' A (u8s bs)
end Go.Proofs.YtaebnkeddcbmkaaGreat
namespace Go.Proofs.YtaebnkeddcbmkaaGreat.Bm
theorem WL(cs:List Nat):(cs.map (fun n:Nat=>(n:Int))).sum=((cs.sum:Nat):Int):=by
 induction cs with
 | nil=>simp
 | cons a l ih=>rw[List.map_cons,List.sum_cons,ih,List.sum_cons];omega
theorem xC(l:List Nat)(x:Nat)(h:x∈l):x<=l.sum:=by
 induction l with
 | nil=>cases h
 | cons a l ih=>
  rw[List.sum_cons];rcases List.mem_cons.1 h with rfl | h1
  ·omega
  ·have:=ih h1;omega
theorem Vn(cs:List Nat):za cs=kR (cs.map (fun n:Nat=>(n:Int))):=by
 unfold za kR;rw[List.countP_map];apply List.countP_congr
 intro x _;simp
theorem JL(bs:List Nat)(hlt:∀x∈bs,x<256)(hl:bs.length<=1048576)(h0:0<bs.length) :
  ∃ls:List Nat,jo (aG bs) (iQ (aG bs):Int)=ls.map (fun n:Nat=>(n:Int))/\Fair (jo (aG bs) (iQ (aG bs):Int)) (iQ (aG bs):Int)/\(∀b∈bs,0<ls[b]?.getD 0)/\ls.length<=256:=by
 have hso:=(kZ bs hlt hl).2 h0;obtain⟨hr,h5,h9,hs⟩:=hso;have hsA:jo (aG bs) (iQ (aG bs):Int)=(rA ((aG bs).map Int.toNat) (2^iQ (aG bs))).map (fun n:Nat=>(n:Int)):=by
  unfold jo;rw[if_pos ⟨hr,h5,h9,hs⟩,Int.toNat_natCast]
 have hcs:(aG bs).map Int.toNat=aR bs:=by
  unfold aG;rw[List.map_map];conv=>rhs;rw[<-List.map_id (aR bs)]
  apply List.map_congr_left
  intro x _;rfl
 rw[hcs]at hsA;rw[Int.toNat_natCast]at hs;have hlen:(aR bs).length=iH bs:=by simp[aR]
 have ht:=jW bs hlt;obtain⟨b0,hb0⟩:∃b,b∈bs:=by
  cases bs with
  | nil=>simp at h0
  | cons b bs=>exact⟨b,List.mem_cons_self⟩
 have hget:∀b∈bs,(aR bs)[b]?=some (bs.count b):=fun b hb=>by
  unfold aR;rw[List.getElem?_map,List.getElem?_range (jP bs b hb)];rfl
 have hsum:0<(aR bs).sum:=by
  have h1:=List.mem_of_getElem? (hget b0 hb0);have h2:=xC _ _ h1;have h3:=List.count_pos_iff.2 hb0;omega
 have hsp:=tY (aR bs) (2^iQ (aG bs)) hsum (by rw[Vn];exact hs);have hP:=Nat.pow_le_pow_right (n:=2) (j:=9) (by omega) (show iQ (aG bs)<=9 by omega);refine⟨_,hsA,?_,?_,by rw[hsp.2.1,hlen];exact ht⟩
 ·rw[hsA];refine⟨h5,h9,by rw[List.length_map,hsp.2.1,hlen];exact ht,?_,by rw[WL,hsp.1,Int.toNat_natCast]⟩;intro x hx;obtain⟨y,hy,rfl⟩:=List.mem_map.1 hx;have:=xC _ _ hy;rw[hsp.1]at this;omega
 ·intro b hb;have h1:=hsp.2.2 b;rw[hget b hb,Option.getD_some]at h1;exact h1.2 (List.count_pos_iff.2 hb)
end Go.Proofs.YtaebnkeddcbmkaaGreat.Bm
namespace Go.Proofs.YtaebnkeddcbmkaaGreat
open Go.RowKit
namespace Bm
def jA(ls:List Nat)(lg:Nat):Nat×Nat:=(lg-5+(gL ls (2^lg)).1*2^3,3+(gL ls (2^lg)).2)
def takeA(N len:Nat):Option (List Nat×Nat×Nat):=
 if len<3 then none else if 4<N%2^3 then none else(takeN 256 (2^(5+N%2^3)) (N/2^3) (len-3)).map fun t=>(t.1,5+N%2^3,t.2)
theorem aeM(ls:List Nat)(lg:Nat)(h:bN ls lg):(jA ls lg).1<2^(jA ls lg).2:=by
 have h1:=acS ls (2^lg) (Nat.le_of_eq h.sum);have h9:=h.high;unfold jA;dsimp only;generalize (gL ls (2^lg)).1=A at h1 ⊢;generalize (gL ls (2^lg)).2=k at h1 ⊢;rw[Nat.pow_add];have:A*2^3+2^3<=2^3*2^k:=by
  have h2:=Nat.mul_le_mul_right (2^3) h1;rw[Nat.succ_mul,Nat.mul_comm (2^k)]at h2;exact h2
 omega
theorem KY:∀(l:List Nat) (rest:Nat),rest<=512->(gL l rest).2<=10*l.length
 | [],rest,_=>by simp[gL]
 | n :: l,rest,h=>by
  unfold gL;split
  ·simp
  ·have h1:=KY l (rest-n) (by omega);have h2:=eF rest 10 (by omega);rw[List.length_cons];dsimp only;omega
theorem Ez(ls:List Nat)(lg:Nat)(h:bN ls lg):3<=(jA ls lg).2/\(jA ls lg).2<=3000:=by
 have hP:=Nat.pow_le_pow_right (n:=2) (j:=9) (by omega) h.high;have h1:=KY ls (2^lg) (by omega);have h2:=h.len;unfold jA;dsimp only;omega
theorem WZ(ls:List Nat)(lg X m:Nat)(h:bN ls lg):takeA ((jA ls lg).1+X*2^(jA ls lg).2) ((jA ls lg).2+m)=some (aI ls,lg,m):=by
 have h5:=h.low;have h9:=h.high;have ht:=MO ls (2^lg) X m 256 h.sum h.len;unfold jA;dsimp only;generalize (gL ls (2^lg)).1=A at ht ⊢;generalize (gL ls (2^lg)).2=k at ht ⊢;have e:lg-5+A*2^3+X*2^(3+k)=(lg-5)+(A+X*2^k)*2^3:=by
  rw[Nat.pow_add,Nat.add_mul,Nat.mul_assoc X,Nat.mul_comm (2^3) (2^k),Nat.add_assoc]
 have hm:(lg-5+(A+X*2^k)*2^3)%2^3=lg-5:=by rw[Nat.add_mul_mod_self_right];exact Nat.mod_eq_of_lt (by omega)
 have hd:(lg-5+(A+X*2^k)*2^3)/2^3=A+X*2^k:=by
  rw[Nat.add_mul_div_right _ _ (by omega),Nat.div_eq_of_lt (by omega),Nat.zero_add]
 unfold takeA;rw[e,hm,hd,if_neg (by omega),if_neg (by omega),show 5+(lg-5)=lg by omega,show 3+k+m-3=k+m by omega,ht];rfl
theorem uh(N len:Nat)(l:List Nat)(lg e:Nat)(h:takeA N len=some (l,lg,e)):bN l lg/\e+3<=len:=by
 unfold takeA at h;split at h
 ·cases h
 ·split at h
  ·cases h
  ·next h3 h4=>
   cases hr:takeN 256 (2^(5+N%2^3)) (N/2^3) (len-3)with
   | none=>rw[hr]at h;cases h
   | some t=>
    rw[hr,Option.map_some]at h;injection h with h
    injection h with e1 h
    injection h with e2 e3
    subst e1 e2 e3;obtain⟨k1,k2,k3⟩:=FV _ _ _ _ _ _ hr;exact⟨⟨by omega,by omega,k2,k1⟩,by omega⟩
theorem NM(l:List Nat)(lg:Nat)(h:bN l lg):Fair (l.map (fun n:Nat=>(n:Int))) (lg:Int):=by
 have hsum:∀l:List Nat,(l.map (fun n:Nat=>(n:Int))).sum=((l.sum:Nat):Int):=fun l=>by
  induction l with
  | nil=>simp
  | cons a l ih=>rw[List.map_cons,List.sum_cons,ih,List.sum_cons];omega
 have hle:∀(l:List Nat) (x:Nat),x∈l->x<=l.sum:=fun l=>by
  induction l with
  | nil=>intro x h;cases h
  | cons a l ih=>
   intro x hx;rw[List.sum_cons];rcases List.mem_cons.1 hx with rfl | hx
   ·omega
   ·have:=ih x hx;omega
 have h5:=h.low;have h9:=h.high;have hP:=Nat.pow_le_pow_right (n:=2) (j:=9) (by omega) h9;refine⟨by omega,by omega,by rw[List.length_map];exact h.len,?_,by rw[hsum,h.sum,Int.toNat_natCast]⟩;intro x hx;obtain⟨y,hy,rfl⟩:=List.mem_map.1 hx;have h1:=hle l y hy;rw[h.sum]at h1;omega
def sizedB(log:Int):Bool:=decide (5<=log/\log<=9)
end Bm
theorem Ah(log:Int)(w:World):Calls prog 174 #[.int .i64 log] w fun e w'=>e=.returned (.bool (Bm.sizedB log))/\w=w':=by
 by_cases h5:5<=log
 ·by_cases h9:log<=9
  ·have hs:Bm.sizedB log=true:=decide_eq_true ⟨h5,h9⟩;rw[hs];go_enter func174,ntmps174
   go_wp2;go_ret;exact⟨rfl,rfl⟩
  ·have hs:Bm.sizedB log=false:=decide_eq_false (fun h=>h9 h.2);have h9':decide (log<=9)=false:=by simpa using h9
   rw[hs];go_enter func174,ntmps174
   go_wp2;go_ret;exact⟨rfl,rfl⟩
 ·have hs:Bm.sizedB log=false:=decide_eq_false (fun h=>h5 h.1);have h5':decide (5<=log)=false:=by simpa using h5
  rw[hs];go_enter func174,ntmps174
  go_wp2;go_ret;exact⟨rfl,rfl⟩
theorem jw(x:Int)(h0:-9223372036854775808<=x)(h1:x<=9223372036854775807):wrap64 x=x:=by unfold wrap64;omega
namespace Bm
theorem MI(l:List Int)(h:∀x∈l,0<=x):0<=l.sum:=by
 induction l with
 | nil=>simp
 | cons a l ih=>
  have h1:=ih (fun x hx=>h x (List.mem_cons_of_mem _ hx));have h2:=h a List.mem_cons_self;rw[List.sum_cons];omega
theorem JZ(l:List Int)(k:Nat)(h:∀x∈l,0<=x):(l.take k).sum<=l.sum:=by
 have h1:=MI (l.drop k) (fun x hx=>h x (List.mem_of_mem_drop hx));have h2:l.sum=(l.take k).sum+(l.drop k).sum:=by
  conv=>lhs;rw[<-List.take_append_drop k l]
  rw[List.sum_append_int]
 omega
theorem Jd(l:List Int)(h:∀x∈l,0<=x)(x:Int)(hx:x∈l):x<=l.sum:=by
 induction l with
 | nil=>cases hx
 | cons a l ih=>
  have h1:=MI l (fun x hx=>h x (List.mem_cons_of_mem _ hx));have h2:=h a List.mem_cons_self;rw[List.sum_cons];rcases List.mem_cons.1 hx with rfl | hx
  ·omega
  ·have:=ih (fun x hx=>h x (List.mem_cons_of_mem _ hx)) hx;omega
theorem Jz(b:Nat)(h5:5<=b)(h9:b<=9):32<=2^b/\2^b<=512:=
 ⟨Nat.pow_le_pow_right (n:=2) (i:=5) (by omega) h5,Nat.pow_le_pow_right (n:=2) (j:=9) (by omega) h9⟩
end Bm
theorem xD(A:Option Addr)(c:Nat)(l:List Int)(log:Int)(w:World)(hl:l.length<=1000000)(hok:∀x∈l,bO x)(apJ:bO log)(hr:Reads w A (mH l)) :
  Calls prog 177 #[.slice A l.length c,.int .i64 log] w fun e w'=>e=.returned (.bool (Ih l log))/\Below w.heap.size w w':=by
 have Hr:=hid hr;obtain⟨r,hres⟩:∃r,r=Ih l log:=⟨_,rfl⟩;rw[<-hres];have hno:∀P:Prop,(Bm.Fair l log->P)->¬P->false=r:=fun P h hp=>by
  rw[hres];symm;unfold Ih;exact decide_eq_false (fun h1=>hp (h h1))
 have Hno:=hid hno;have dV:=hid hres;have Hok:=hid hok;have Hsz:=hid (Ah log w);clear hr hres hno hok;by_cases hs:Bm.sizedB log=true
 ·obtain⟨h5,h9⟩:5<=log/\log<=9:=of_decide_eq_true hs;rw[hs]at Hsz;clear hs;by_cases h3:256<l.length
  ·have hf:false=r:=Hno.out (l.length<=256) (fun h=>h.2.2.1) (by omega);have h3':decide (256<l.length)=true:=decide_eq_true h3;rw[<-hf];clear hf;go_enter func177,ntmps177
   go_wp2_with fail
   refine Hsz.out.mono ?_;rintro e w' ⟨rfl,rfl⟩;go_wp2;go_ret;exact⟨rfl,Below.refl _ _⟩
  have h3':decide (256<l.length)=false:=decide_eq_false h3;obtain⟨b,rfl⟩:=Int.eq_ofNat_of_zero_le (show 0<=log by omega);have hP:=Jz b (by omega) (by omega);have hpd:(2:Int)^b=((2^b:Nat):Int):=by simp
  obtain⟨P,hPe⟩:∃P,P=2^b:=⟨_,rfl⟩;rw[<-hPe]at hP hpd;have HPe:=hid hPe;clear hPe;have hw:wrap64 (P:Int)=(P:Int):=jw _ (by omega) (by omega);go_enter func177,ntmps177
  go_wp2_with fail
  refine Hsz.out.mono ?_;rintro e w' ⟨rfl,rfl⟩;clear Hsz;go_wp2;clear hpd hw;go_loop [5,20] (fun q i=>∃k:Nat,k<=l.length/\i=.int .i64 (k:Int)/\q=.int .i64 ((P:Int)-(l.take k).sum)/\(l.take k).sum<=P/\∀x∈l.take k,0<=x) (fun _ i=>l.length-(intOf i).toNat)
  case atStart=>exact⟨0,by omega,rfl,by go_num,by simp,by simp⟩
  case round=>
   obtain⟨k,hk,rfl,rfl,hle,hall⟩:=hrel;by_cases hkl:k<l.length
   ·obtain⟨g,off,rfl,hc⟩:=nV Hr.out (by omega);have c0:=hc k hkl;have h0:=MI _ hall;have hzb:=Hok.out _ (List.getElem_mem hkl);have Hs:=hid (abE l k hkl);have Ha:=hid (KE (fun x=>0<=x) l k hkl hall);have Hm:=hid (List.getElem_mem hkl);unfold bO at hzb;clear hc hall dV;have Htk:Hid (Bm.Fair l (b:Int)->(l.take (k+1)).sum<=P):=hid (fun h=>by
     have h1:=JZ l (k+1) (fun x hx=>(h.2.2.2.1 x hx).1);have h2:=h.2.2.2.2;rw[Int.toNat_natCast,<-HPe.out]at h2;omega)
    generalize (l.take k).sum=m at hle h0 Hs ⊢;generalize l[k]=z at c0 Hs Ha Hm hzb;by_cases hz:z<0
    ·have hf:false=r:=Hno.out (0<=z) (fun h=>(h.2.2.2.1 z Hm.out).1) (by omega);have Hf:=hid hf;clear hf;go_wp2;go_ret;exact⟨congrArg (fun x=>Ending.returned (Value.bool x)) Hf.out,Below.refl _ _⟩
    have hz0:decide (z<0)=false:=decide_eq_false hz;by_cases hz2:(P:Int)-m<z
    ·have hf:false=r:=Hno.out (m+z<=P) (fun h=>by rw[<-Hs.out];exact Htk.out h) (by omega);have Hf:=hid hf;have hz3:decide ((P:Int)-m<z)=true:=decide_eq_true hz2;clear hf;go_wp2;go_ret;exact⟨congrArg (fun x=>Ending.returned (Value.bool x)) Hf.out,Below.refl _ _⟩
    have hz3:decide ((P:Int)-m<z)=false:=decide_eq_false hz2;go_wp2;go_round
    case rel=>exact⟨k+1,by omega,by go_num,by rw[Hs.out];go_num,by rw[Hs.out];omega,Ha.out (by omega)⟩
    case measure=>simp[intOf];omega
   ·obtain rfl:k=l.length:=by omega
    rw[List.take_length]at hall hle ⊢;have h0:=MI _ hall;have hres:((P:Int)-l.sum == 0)=r:=by
     rw[dV.out];unfold Ih;rw[Bool.eq_iff_iff,beq_iff_eq,decide_eq_true_iff];constructor
     ·intro h;refine⟨by omega,by omega,by omega,fun x hx=>⟨hall x hx,?_⟩,?_⟩
      ·have:=Jd l hall x hx;omega
      ·rw[Int.toNat_natCast,<-HPe.out];omega
     ·intro h;have h2:=h.2.2.2.2;rw[Int.toNat_natCast,<-HPe.out]at h2;omega
    have mK:=hid hres;clear Hr Hno dV hall hres;generalize l.sum=q at mK h0 hle ⊢;go_wp2;go_ret;exact⟨congrArg (fun x=>Ending.returned (Value.bool x)) mK.out,Below.refl _ _⟩
 ·have hs0:Bm.sizedB log=false:=by simpa using hs
  have hf:false=r:=Hno.out (5<=log/\log<=9) (fun h=>⟨h.1,h.2.1⟩) (fun h=>hs (decide_eq_true h));rw[hs0]at Hsz;clear hs hs0;rw[<-hf];clear hf;go_enter func177,ntmps177
  go_wp2_with fail
  refine Hsz.out.mono ?_;rintro e w' ⟨rfl,rfl⟩;go_wp2;go_ret;exact⟨rfl,Below.refl _ _⟩
theorem CB{w:World}{A:Option Addr}{l:List Nat}(h:Reads w A (aM l))(hne:0<l.length):∃g off,A=some ⟨g,off,none⟩/\∀j (hj:j<l.length),w.cell? ⟨g,off+j,none⟩=some (.int .i64 (l[j]:Int)):=by
 have hne':aM l≠[]:=fun e=>by
  have h1:=congrArg List.length e;rw[aN,List.length_nil]at h1;omega
 obtain⟨g,off,e,hc⟩:=h hne';exact⟨g,off,e,fun j hj=>by rw[hc j (by rw[aN];exact hj),bK l j hj]⟩
theorem jO(A:Option Addr)(c:Nat)(l:List Int)(w:World)(hl:l.length<=1000000000)(hr:Reads w A (mH l)) :
  Calls prog 68 #[.slice A l.length c] w fun e w'=>e=.returned (.int .i64 (kR l:Int))/\w=w':=by
 have Hr:=hid hr;obtain⟨r,hres⟩:∃r,r=kR l:=⟨_,rfl⟩;rw[<-hres];have dV:=hid hres;clear hr hres;go_enter func68,ntmps68
 go_wp2;go_loop [3,8] (fun n i=>∃k:Nat,k<=l.length/\i=.int .i64 (k:Int)/\n=.int .i64 (kR (l.take k):Int)) (fun _ i=>l.length-(intOf i).toNat)
 case atStart=>exact⟨0,by omega,rfl,rfl⟩
 case round=>
  obtain⟨k,hk,rfl,rfl⟩:=hrel;by_cases hkl:k<l.length
  ·obtain⟨g,off,rfl,hc⟩:=nV Hr.out (by omega);have c0:=hc k hkl;have hs:=WQ l k hkl;have hle:=CX (l.take k);rw[List.length_take,Nat.min_eq_left (by omega)]at hle;have Hs:=hid hs;clear hc hs;generalize kR (l.take k)=m at hle Hs ⊢;generalize l[k]=z at c0 Hs;by_cases hz:0<z
   ·go_wp2;go_round
    case rel=>exact⟨k+1,by omega,by go_num,by rw[Hs.out,if_pos hz];go_num⟩
    case measure=>simp[intOf];omega
   ·go_wp2;go_round
    case rel=>exact⟨k+1,by omega,by go_num,by rw[Hs.out,if_neg hz];go_num⟩
    case measure=>simp[intOf];omega
  ·obtain rfl:k=l.length:=by omega
   rw[List.take_length,<-dV.out];clear Hr;go_wp2;go_ret;exact⟨rfl,rfl⟩
theorem Jk:XW:=fun A c l w hl hr=>(jO A c l w (by omega) hr).mono fun _ w' ⟨he,hw⟩=>⟨he,by subst hw;exact Below.refl _ _⟩
namespace Bm
theorem VO(l:List Int):Right l↔l.length<=256/\(∀x∈l,0<=x/\x<=1048576)/\0<kR l:=by
 unfold Right kR;rw[List.countP_pos_iff];simp
def lY(l:List Int):Bool:=decide (Right l)
end Bm
theorem tq(A:Option Addr)(c:Nat)(l:List Int)(w:World)(hl:l.length<=1000000000)(hr:Reads w A (mH l)) :
  Calls prog 121 #[.slice A l.length c] w fun e w'=>e=.returned (.bool (lY l))/\w=w':=by
 have Hr:=hid hr;have Hsy:=hid (jO A c l w hl hr);obtain⟨r,hres⟩:∃r,r=lY l:=⟨_,rfl⟩;rw[<-hres];have hno:∀P:Prop,(Bm.Right l->P)->¬P->false=r:=fun P h hp=>by
  rw[hres];symm;unfold lY;exact decide_eq_false (fun h1=>hp (h h1))
 have Hno:=hid hno;have dV:=hid hres;clear hr hres hno;by_cases h3:256<l.length
 ·have hf:false=r:=Hno.out (l.length<=256) (fun h=>h.1) (by omega);rw[<-hf];go_enter func121,ntmps121
  go_wp2;go_ret;exact⟨rfl,rfl⟩
 go_enter func121,ntmps121
 go_wp2;go_loop [10] (fun i=>∃k:Nat,k<=l.length/\i=.int .i64 (k:Int)/\∀x∈l.take k,0<=x/\x<=1048576) (fun i=>l.length-(intOf i).toNat)
 case atStart=>exact⟨0,by omega,rfl,by simp⟩
 case round=>
  obtain⟨k,hk,rfl,hall⟩:=hrel;by_cases hkl:k<l.length
  ·obtain⟨g,off,rfl,hc⟩:=nV Hr.out (by omega);have c0:=hc k hkl;have Ha:=hid (KE (fun x=>0<=x/\x<=1048576) l k hkl hall);have Hm:=hid (List.getElem_mem hkl);clear hc hall dV Hsy;generalize l[k]=z at c0 Ha Hm;by_cases hz:z<0
   ·have hf:false=r:=Hno.out (0<=z) (fun h=>(h.2.1 z Hm.out).1) (by omega);have Hf:=hid hf;clear hf;go_wp2;go_ret;exact⟨congrArg (fun x=>Ending.returned (Value.bool x)) Hf.out,rfl⟩
   by_cases hz2:1048576<z
   ·have hf:false=r:=Hno.out (z<=1048576) (fun h=>(h.2.1 z Hm.out).2) (by omega);have Hf:=hid hf;clear hf;go_wp2;go_ret;exact⟨congrArg (fun x=>Ending.returned (Value.bool x)) Hf.out,rfl⟩
   go_wp2;go_round
   case rel=>exact⟨k+1,by omega,by go_num,Ha.out (by omega)⟩
   case measure=>simp[intOf];omega
  ·obtain rfl:k=l.length:=by omega
   rw[List.take_length]at hall;have hres:decide (0<kR l)=r:=by
    rw[dV.out];unfold lY;rw[decide_eq_decide,VO];exact⟨fun h=>⟨by omega,hall,h⟩,fun h=>h.2.2⟩
   clear Hr Hno dV hall;generalize kR l=q at hres Hsy;have akZ:=hid Hsy.out;clear Hsy;go_wp2_with fail
   refine akZ.out.mono ?_;rintro e w' ⟨rfl,rfl⟩;go_wp2;go_ret;exact⟨congrArg (fun x=>Ending.returned (Value.bool x)) (by simp),rfl⟩
theorem tu(A:Option Addr)(c:Nat)(l:List Nat)(w:World)(hl:l.length<=1000000000)(hs:l.sum<=1000000000000)(hr:Reads w A (aM l)) :
  Calls prog 173 #[.slice A l.length c] w fun e w'=>e=.returned (.int .i64 (l.sum:Int))/\w=w':=by
 have Hr:=hid hr;obtain⟨r,hres⟩:∃r,r=l.sum:=⟨_,rfl⟩;rw[<-hres]at hs ⊢;have dV:=hid hres;clear hr hres;go_enter func173,ntmps173
 go_wp2;go_loop [3,8] (fun n i=>∃k:Nat,k<=l.length/\i=.int .i64 (k:Int)/\n=.int .i64 ((l.take k).sum:Int)) (fun _ i=>l.length-(intOf i).toNat)
 case atStart=>exact⟨0,by omega,rfl,rfl⟩
 case round=>
  obtain⟨k,hk,rfl,rfl⟩:=hrel;by_cases hkl:k<l.length
  ·obtain⟨g,off,rfl,hc⟩:=CB Hr.out (by omega);have c0:=hc k hkl;have h1:(l.take (k+1)).sum=(l.take k).sum+l[k]:=by
    rw[List.take_succ_eq_append_getElem hkl,List.sum_append_nat,List.sum_singleton]
   have h2:(l.take (k+1)).sum<=r:=by
    rw[dV.out];conv=>rhs;rw[<-List.take_append_drop (k+1) l]
    rw[List.sum_append_nat];omega
   rw[h1]at h2;have Hs:=hid h1;clear hc h1;generalize (l.take k).sum=m at h2 Hs ⊢;generalize l[k]=z at c0 h2 Hs;go_wp2;go_round
   case rel=>exact⟨k+1,by omega,by go_num,by rw[Hs.out];go_num⟩
   case measure=>simp[intOf];omega
  ·obtain rfl:k=l.length:=by omega
   rw[List.take_length,<-dV.out];clear Hr;go_wp2;go_ret;exact⟨rfl,rfl⟩
theorem qN(A:Option Addr)(c:Nat)(l:List Nat)(w:World)(hl:l.length<=1000000000)(hm:∀x∈l,x<=1000000000000)(hr:Reads w A (aM l)) :
  Calls prog 176 #[.slice A l.length c] w fun e w'=>e=.returned (.int .i64 (aH l:Int))/\w=w':=by
 have Hr:=hid hr;have Hm:=hid hm;obtain⟨r,hres⟩:∃r,r=aH l:=⟨_,rfl⟩;rw[<-hres];have dV:=hid hres;clear hr hres hm;go_enter func176,ntmps176
 go_wp2;go_loop [3,8] (fun n i=>∃k:Nat,k<=l.length/\i=.int .i64 (k:Int)/\n=.int .i64 (aH (l.take k):Int)) (fun _ i=>l.length-(intOf i).toNat)
 case atStart=>exact⟨0,by omega,rfl,rfl⟩
 case round=>
  obtain⟨k,hk,rfl,rfl⟩:=hrel;by_cases hkl:k<l.length
  ·obtain⟨g,off,rfl,hc⟩:=CB Hr.out (by omega);have c0:=hc k hkl;have hz0:=Hm.out l[k] (List.getElem_mem hkl);have hx:∃f,f=aH (l.take k)/\f<l.length/\f<=k/\∃y:Nat,y<=1000000000000/\w.cell? ⟨g,off+f,none⟩=some (.int .i64 (y:Int))/\aH (l.take (k+1))=if y<l[k]then k else f:=by
    refine⟨_,rfl,?_⟩;rcases Nat.eq_zero_or_pos k with h0 | h0
    ·subst h0;refine⟨by simpa [aH]using hkl,by simp[aH],l[0],Hm.out _ (List.getElem_mem hkl),by simpa [aH]using hc 0 hkl,?_⟩;rw[if_neg (by omega),List.take_succ_eq_append_getElem hkl];simp[aH,sj]
    ·have hne:l.take k≠[]:=fun e=>by
      have h1:=congrArg List.length e;rw[List.length_take,List.length_nil]at h1;omega
     have hlt:=je _ hne;have hlt2:=hlt;rw[List.length_take]at hlt2;have hg:=iD _ hlt;rw[List.getElem_take]at hg;have h1:=hc (aH (l.take k)) (by omega);rw[hg]at h1;refine⟨by omega,by omega,sj (l.take k),?_,h1,?_⟩
     ·rw[<-hg];exact Hm.out _ (List.getElem_mem _)
     ·rw[List.take_succ_eq_append_getElem hkl,BQ _ _ hne,List.length_take,Nat.min_eq_left (by omega)]
   obtain⟨f,hf,hfl,hfk,y,hy,c1,hn⟩:=hx;rw[<-hf];have Hn:=hid hn;clear hc hn hf;generalize l[k]=z at c0 Hn hz0;by_cases hyz:y<z
   ·have hb:decide (y<z)=true:=decide_eq_true hyz;rw[if_pos hyz]at Hn;go_wp2;go_round
    case rel=>exact⟨k+1,by omega,by go_num,by rw[Hn.out]⟩
    case measure=>simp[intOf];omega
   ·have hb:decide (y<z)=false:=decide_eq_false hyz;rw[if_neg hyz]at Hn;go_wp2;go_round
    case rel=>exact⟨k+1,by omega,by go_num,by rw[Hn.out]⟩
    case measure=>simp[intOf];omega
  ·obtain rfl:k=l.length:=by omega
   rw[List.take_length,<-dV.out];clear Hr;go_wp2;go_ret;exact⟨rfl,rfl⟩
namespace Bm
theorem Ed(p:Int->Bool)(l:List Int)(i j:Nat)(hij:i<j)(hj:j<l.length)(hi:p l[i]=true)(hp:p l[j]=true):2<=l.countP p:=by
 have e:l=l.take j++l[j] :: l.drop (j+1):=by rw[<-List.drop_eq_getElem_cons hj,List.take_append_drop]
 have h1:0<(l.take j).countP p:=by
  refine List.countP_pos_iff.2 ⟨l[i],?_,hi⟩;have hil:i<(l.take j).length:=by rw[List.length_take];omega
  have:=List.getElem_mem hil;rwa [List.getElem_take]at this
 have h2:=congrArg (List.countP p) e;rw[List.countP_append,List.countP_cons,if_pos hp]at h2;omega
theorem qC(s:List Nat)(b:Nat)(hb:b∈s):∃h:b<(aG s).length,0<(aG s)[b]:=by
 have ht:=jP s b hb;refine⟨by rw[bI];exact ht,?_⟩;have:(aG s)[b]'(by rw[bI];exact ht)=((s.count b:Nat):Int):=by simp[aG,aR]
 rw[this];have:=List.count_pos_iff.2 hb;omega
theorem xG(s:List Nat)(h:kR (aG s)=1):∃x,s=List.replicate s.length x/\0<s.length:=by
 cases s with
 | nil=>simp[aG,aR,iH,kR]at h
 | cons x r=>
  refine⟨x,?_,by simp⟩;rw[List.eq_replicate_iff];refine⟨rfl,fun b hb=>?_⟩;rcases Nat.lt_trichotomy b x with hlt | he | hgt
  ·exfalso
   obtain⟨h1,h2⟩:=qC (x :: r) b hb;obtain⟨h3,h4⟩:=qC (x :: r) x List.mem_cons_self;have:=Ed (fun z=>decide (0<z)) (aG (x :: r)) b x hlt h3 (decide_eq_true h2) (decide_eq_true h4);unfold kR at h;omega
  ·exact he
  ·exfalso
   obtain⟨h1,h2⟩:=qC (x :: r) b hb;obtain⟨h3,h4⟩:=qC (x :: r) x List.mem_cons_self;have:=Ed (fun z=>decide (0<z)) (aG (x :: r)) x b hgt h1 (decide_eq_true h4) (decide_eq_true h2);unfold kR at h;omega
theorem Xh:∀bs:List Nat,0<iH bs->∃b∈bs,iH bs=b+1
 | [],h=>by simp[iH]at h
 | b :: bs,_=>by
  by_cases h:iH bs<=b+1
  ·exact⟨b,List.mem_cons_self,by rw[iH,Nat.max_eq_left h]⟩
  ·obtain⟨x,hx,e⟩:=Xh bs (by omega);exact⟨x,List.mem_cons_of_mem _ hx,by rw[iH,Nat.max_eq_right (by omega),e]⟩
theorem zM(s:List Nat)(b:Nat)(h:b∈s):0<(aR s)[b]?.getD 0:=by
 unfold aR;rw[List.getElem?_map,List.getElem?_range (jP s b h)];exact List.count_pos_iff.2 h
theorem nN(s:List Nat):(aR s).length=iH s:=by simp[aR]
theorem GY(s:List Nat):(aG s).map Int.toNat=aR s:=by
 unfold aG;rw[List.map_map];conv=>rhs;rw[<-List.map_id (aR s)]
 exact List.map_congr_left fun x _=>rfl
end Bm
theorem xE(A:Option Addr)(c:Nat)(s:List Nat)(w:World)(hlt:∀x∈s,x<256)(hr:Reads w A (aM (aR s))) :
  Calls prog 68 #[.slice A (iH s) c] w fun e w'=>e=.returned (.int .i64 (kR (aG s):Int))/\Below w.heap.size w w':=by
 have ht:=jW s hlt;have h:=Jk A c (aG s) w (by rw[bI];omega) (by unfold aG;rw[bJ];exact hr);rw[bI]at h;exact h
end Go.Proofs.YtaebnkeddcbmkaaGreat
namespace Go.Proofs.YtaebnkeddcbmkaaGreat.Bm
def rQ(bs:List Nat):Option (List Nat×Nat):=
 if 0<(au bs).2/\(au bs).1<=4096/\(au bs).1<=bs.length-(au bs).2 then some ((bs.drop (au bs).2).take (au bs).1,(au bs).2+(au bs).1)else none
def Po(V len left:Nat):Bool:=decide (left<8/\V/2^(len-left)=0)
def headD(hd:List Nat):Option (List Nat×Nat):=
 match takeA (aW hd) (8*hd.length)with
 | none=>none
 | some t=>if Po (aW hd) (8*hd.length) t.2.2=true then some (t.1,t.2.1)else none
def fG(t:List Nat)(n:Nat):Option (List Nat×Nat):=
 match rQ t with
 | none=>none
 | some p=>match rQ (t.drop p.2)with
  | none=>none
  | some q=>match headD p.1 with
   | none=>none
   | some h=>(BL h.1 h.2 q.1 (n:Int)).map fun c=>(c,p.2+q.2)
def oJ(bs:List Nat)(n:Nat):Option (List Nat×Nat):=
 match bs with
 | []=>none
 | k :: t=>if k=0 then(if n<=t.length then some (t.take n,1+n)else none)
  else if k=1 then(if 0<t.length then some (List.replicate n (t[0]?.getD 0),2)else none)
  else if k=2 then(fG t n).map fun r=>(r.1,1+r.2)else none
theorem Fu(t:List Nat)(n:Nat):oJ (0 :: t) n=if n<=t.length then some (t.take n,1+n)else none:=rfl
theorem Fv(t:List Nat)(n:Nat):oJ (1 :: t) n=if 0<t.length then some (List.replicate n (t[0]?.getD 0),2)else none:=rfl
theorem Fw(t:List Nat)(n:Nat):oJ (2 :: t) n=(fG t n).map fun r=>(r.1,1+r.2):=rfl
theorem Mj(k:Nat)(t:List Nat)(n:Nat)(h:2<k):oJ (k :: t) n=none:=by
 show(if k=0 then _ else if k=1 then _ else if k=2 then _ else none)=none;rw[if_neg (by omega),if_neg (by omega),if_neg (by omega)]
def FL(bs:List Nat)(n:Nat):Option (List Nat×Nat):=
 match oJ bs n with
 | none=>none
 | some r=>if ∀x∈r.1,x<28 then some r else none
def gH:Nat->List Nat->Nat->Option (List (List Nat)×Nat)
 | 0,_,_=>some ([],0)
 | k+1,bs,n=>match FL bs n with
  | none=>none
  | some r=>(gH k (bs.drop r.2) n).map fun q=>(r.1 :: q.1,r.2+q.2)
def exK(c:Nat):Nat:=if c<16 then 0 else c-12
def QF(c V:Nat):Nat:=if c<16 then c else 2^(c-12)+V%2^(c-12)
def pK:List Nat->Nat->Nat->Option (List Nat×Nat×Nat)
 | [],V,L=>some ([],V,L)
 | c :: cs,V,L=>if exK c<=L then(pK cs (V/2^exK c) (L-exK c)).map fun r=>(QF c V :: r.1,r.2)else none
def mE:List (List Nat)->Nat->Nat->Int×Int×Int->Option (List Stp×Nat×Nat)
 | [],V,L,_=>some ([],V,L)
 | cs :: l,V,L,r=>match pK cs V L with
  | none=>none
  | some t=>match yY r.1 r.2.1 r.2.2 ((t.1[2]?.getD 0:Nat):Int)with
   | none=>none
   | some x=>(mE l t.2.1 t.2.2 (oV r.1 r.2.1 r.2.2 x)).map fun q=>((t.1[0]?.getD 0,t.1[1]?.getD 0+3,x.toNat) :: q.1,q.2)
def atD(cs:List (List Nat))(i:Nat):List Nat:=cs.map fun l=>l[i]?.getD 0
def lH(cs:List (List Nat))(n:Nat):List (List Nat):=(List.range n).map (atD cs)
def aeD:Option (List Stp×Nat×Nat)->Option (List Stp)
 | none=>none
 | some t=>if t.2.2<8/\t.2.1=0 then some t.1 else none
def kN(cs:List (List Nat))(n:Nat)(bd:List Nat):Option (List Stp):=aeD (mE (lH cs n) (aW bd) (8*bd.length) (1,2,4))
def su(bs:List Nat)(most:Int):Option (List Stp×Nat):=
 if 0<(au bs).2/\((au bs).1:Int)<=most/\(au bs).1<=1000 then
  (if (au bs).1=0 then some ([],(au bs).2)else
   match gH 3 (bs.drop (au bs).2) (au bs).1 with
   | none=>none
   | some p=>match rQ ((bs.drop (au bs).2).drop p.2)with
    | none=>none
    | some q=>(kN p.1 (au bs).1 q.1).map fun l=>(l,(au bs).2+p.2+q.2))
 else none
theorem PK(t:List Nat)(n:Nat)(l:List Nat)(k:Nat)(hlt:∀x∈t,x<256)(h:fG t n=some (l,k)):l.length=n/\∀x∈l,x<256:=by
 unfold fG at h;split at h
 ·cases h
 ·next p hp=>
  split at h
  ·cases h
  ·next q hq=>
   split at h
   ·cases h
   ·next u hu=>
    cases hd:BL u.1 u.2 q.1 (n:Int)with
    | none=>rw[hd]at h;cases h
    | some c=>
     rw[hd,Option.map_some]at h;injection h with h
     injection h with h1 h2
     subst h1;have hf:bN u.1 u.2:=by
      unfold headD at hu;split at hu
      ·cases hu
      ·next v hv=>
       split at hu
       ·injection hu with hu
        subst hu;exact(uh _ _ v.1 v.2.1 v.2.2 hv).1
       ·cases hu
     have hb:∀x∈q.1,x<256:=by
      unfold rQ at hq;split at hq
      ·injection hq with hq
       subst hq;exact fun x hx=>hlt x (List.mem_of_mem_drop (List.mem_of_mem_drop (List.mem_of_mem_take hx)))
      ·cases hq
     obtain⟨_,k2,_,k4⟩:=aex u.1 u.2 hf q.1 c n hb hd;exact⟨by omega,k4⟩
theorem Mk(bs:List Nat)(n:Nat)(hlt:∀x∈bs,x<256)(l:List Nat)(k:Nat)(h:oJ bs n=some (l,k)):l.length=n/\∀x∈l,x<256:=by
 cases bs with
 | nil=>cases h
 | cons y t=>
  have htt:∀x∈t,x<256:=fun x hx=>hlt x (List.mem_cons_of_mem _ hx)
  by_cases h0:y=0
  ·subst h0;rw[Fu]at h;split at h
   ·injection h with h
    injection h with h1 _
    subst h1;exact⟨by rw[List.length_take];omega,fun x hx=>htt x (List.mem_of_mem_take hx)⟩
   ·cases h
  ·by_cases h1:y=1
   ·subst h1;rw[Fv]at h;split at h
    ·next hp=>
     injection h with h
     injection h with h1 _
     subst h1;refine⟨List.length_replicate,fun x hx=>?_⟩;rw[List.mem_replicate]at hx;rw[hx.2,List.getElem?_eq_getElem hp,Option.getD_some];exact htt _ (List.getElem_mem hp)
    ·cases h
   ·by_cases h2:y=2
    ·subst h2;rw[Fw]at h;cases hs:fG t n with
     | none=>rw[hs]at h;cases h
     | some r=>
      rw[hs,Option.map_some]at h;injection h with h
      injection h with h1 _
      subst h1;exact PK t n r.1 r.2 htt hs
    ·rw[Mj y t n (by omega)]at h;cases h
theorem agy(bs:List Nat)(n:Nat)(hlt:∀x∈bs,x<256)(l:List Nat)(k:Nat)(h:FL bs n=some (l,k)):l.length=n/\∀x∈l,x<28:=by
 unfold FL at h;split at h
 ·cases h
 ·next r hr=>
  split at h
  ·next h28=>
   injection h with h
   subst h;exact⟨(Mk bs n hlt l k hr).1,h28⟩
  ·cases h
theorem Kq(t u:List Nat)(h:t.length<=4096):rQ (grp t.length++(t++u))=some (t,(grp t.length).length+t.length)/\(grp t.length++(t++u)).drop ((grp t.length).length+t.length)=u:=by
 have hp:=pE t.length (by omega);have hd:(grp t.length++(t++u)).drop (grp t.length).length=t++u:=List.drop_left;constructor
 ·unfold rQ;rw[fK t.length (t++u) (by omega)];dsimp only;rw[if_pos ⟨hp,h,by rw[List.length_append,List.length_append];omega⟩,hd,List.take_left]
 ·rw[<-List.drop_drop,hd,List.drop_left]
structure Yn(c S:List Nat):Prop where
 read:∀u,FL (S++u) c.length=some (c,S.length)
 lt:∀x∈S,x<256
structure Ym(c S:List Nat):Prop where
 q:Yn c S
 len:S.length<=c.length+1
 first:S.length=c.length+1->S=0 :: c
theorem agE(l:List Nat)(t:List Nat×Nat)(h:rQ l=some t):0<t.2:=by
 unfold rQ at h;split at h
 ·injection h with h
  subst h;dsimp only;omega
 ·cases h
theorem aaY(bs:List Nat)(n:Nat)(hn:1<=n)(r:List Nat×Nat)(h:oJ bs n=some r):2<=r.2:=by
 cases bs with
 | nil=>cases h
 | cons k t=>
  by_cases h0:k=0
  ·subst h0;rw[Fu]at h;split at h
   ·injection h with h
    subst h;dsimp only;omega
   ·cases h
  ·by_cases h1:k=1
   ·subst h1;rw[Fv]at h;split at h
    ·injection h with h
     subst h;exact Nat.le_refl _
    ·cases h
   ·by_cases h2:k=2
    ·subst h2;rw[Fw]at h;cases hd:fG t n with
     | none=>rw[hd]at h;cases h
     | some x=>
      rw[hd,Option.map_some]at h;injection h with h
      subst h;unfold fG at hd;split at hd
      ·cases hd
      ·next p hp=>
       have p0:=agE _ p hp;split at hd
       ·cases hd
       ·next q hq=>
        split at hd
        ·cases hd
        ·next u hu=>
         cases he:BL u.1 u.2 q.1 (n:Int)with
         | none=>rw[he]at hd;cases hd
         | some c=>
          rw[he,Option.map_some]at hd;injection hd with hd
          subst hd;dsimp only;omega
    ·rw[Mj k t n (by omega)]at h;cases h
theorem xH(c S:List Nat)(h:Ym c S)(h1:c.length=1):S=0 :: c:=by
 apply h.first
 have hr:=h.q.read [];rw[List.append_nil,h1]at hr;unfold FL at hr;split at hr
 ·cases hr
 ·next r hr2=>
  split at hr
  ·injection hr with hr
   have h2:=aaY S 1 (by omega) r hr2;have hl:=h.len;rw[hr]at h2;dsimp only at h2;omega
  ·cases hr
theorem pW(bs:List Nat)(n:Nat)(c:List Nat)(k:Nat)(h:oJ bs n=some (c,k))(h28:∀x∈c,x<28):FL bs n=some (c,k):=by
 unfold FL;rw[h];dsimp only;rw[if_pos h28]
def eu(c:List Nat):List Nat:=0 :: c
def jH(c:List Nat):List Nat:=1 :: c.take 1
def qp(hd bd:List Nat):List Nat:=2 :: (grp hd.length++(hd++(grp bd.length++bd)))
theorem WK(c:List Nat)(h28:∀x∈c,x<28):Yn c (eu c):=by
 refine⟨fun u=>pW _ _ _ _ ?_ h28,fun x hx=>?_⟩
 ·show oJ (0 :: (c++u)) c.length=_;rw[Fu,if_pos (by rw[List.length_append];omega),List.take_left];simp[eu];omega
 ·rcases List.mem_cons.1 hx with rfl | hx
  ·omega
  ·have:=h28 x hx;omega
theorem WH(c:List Nat)(h28:∀x∈c,x<28)(h:kR (aG c)=1):Yn c (jH c):=by
 obtain⟨x,e,h0⟩:=xG c h;have e1:c.take 1=[x]:=by
  rw[e];obtain⟨n,hn⟩:∃n,c.length=n+1:=⟨c.length-1,by omega⟩;rw[hn];rfl
 have hx:x<28:=h28 x (by rw[e,List.mem_replicate];exact⟨by omega,rfl⟩);refine⟨fun u=>pW _ _ _ _ ?_ h28,fun y hy=>?_⟩
 ·unfold jH;rw[e1];show oJ (1 :: x :: u) c.length=_;rw[Fv,if_pos (by simp)];simp only[List.getElem?_cons_zero,Option.getD_some,List.length_cons,List.length_nil];rw[<-e]
 ·unfold jH at hy;rw[e1]at hy;simp at hy;omega
theorem UA:∀(l:List Nat) (x:Nat),x∈l->x<=l.sum
 | [],_,h=>by cases h
 | y :: l,x,h=>by
  rw[List.sum_cons];rcases List.mem_cons.1 h with rfl | h
  ·omega
  ·have:=UA l x h;omega
theorem yg:∀(l:List Nat),(∀h:l≠[],0<l.getLast h)->aI l=l
 | [],_=>rfl
 | n :: l,h=>by
  have h1:=h (by simp);unfold aI;cases l with
  | nil=>
   simp at h1;rw[if_neg (by simp;omega)];rfl
  | cons m r=>
   have h2:0<(m :: r).getLast (by simp):=by rw[List.getLast_cons (by simp)]at h1;exact h1
   have h3:(m :: r).getLast (by simp)<=(m :: r).sum:=UA _ _ (List.getLast_mem _);rw[if_neg (by omega),yg (m :: r) (fun _=>h2)]
theorem Zu(ls:List Nat)(lg:Nat)(hf:bN ls lg)(hs:aI ls=ls):headD (bytesOf (jA ls lg).1 (((jA ls lg).2+7)/8))=some (ls,lg):=by
 have hlt:=aeM ls lg hf;obtain⟨e,he⟩:∃e,8*(((jA ls lg).2+7)/8)=(jA ls lg).2+e:=⟨8*(((jA ls lg).2+7)/8)-(jA ls lg).2,by omega⟩;have ht:=WZ ls lg 0 e hf;rw[Nat.zero_mul,Nat.add_zero,hs]at ht;have hv:aW (bytesOf (jA ls lg).1 (((jA ls lg).2+7)/8))=(jA ls lg).1:=by
  rw[iI,tH];exact Nat.mod_eq_of_lt (Nat.lt_of_lt_of_le hlt (Nat.pow_le_pow_right (by omega) (by omega)))
 unfold headD;rw[hv,bytesOf_length,he,ht];dsimp only;have he8:e<8:=by omega
 have hend:Po (jA ls lg).1 ((jA ls lg).2+e) e=true:=by
  unfold Po;rw[Nat.add_sub_cancel];exact decide_eq_true ⟨he8,Nat.div_eq_of_lt hlt⟩
 rw[if_pos hend]
theorem WJ(c ls bd:List Nat)(lg:Nat)(h28:∀x∈c,x<28)(hf:bN ls lg)(hs:aI ls=ls)(he:YW ls lg c=some bd)(hbd:bd.length<=4096)(hb256:∀x∈bd,x<256)(hcl:c.length<=10000):Yn c (qp (bytesOf (jA ls lg).1 (((jA ls lg).2+7)/8)) bd):=by
 have hhd:=Zu ls lg hf hs;have hb3:=(Ez ls lg hf).2;have hd:=aeu ls lg hf c bd (by omega) he;have hl:(bytesOf (jA ls lg).1 (((jA ls lg).2+7)/8)).length<=4096:=by rw[bytesOf_length];omega
 have hlt:∀x∈bytesOf (jA ls lg).1 (((jA ls lg).2+7)/8),x<256:=eH _ _;generalize bytesOf (jA ls lg).1 (((jA ls lg).2+7)/8)=hd' at *;refine⟨fun u=>pW _ _ _ _ ?_ h28,fun x hx=>?_⟩
 ·show oJ (2 :: ((grp hd'.length++(hd'++(grp bd.length++bd)))++u)) c.length=_;have e1:(grp hd'.length++(hd'++(grp bd.length++bd)))++u=grp hd'.length++(hd'++(grp bd.length++(bd++u))):=by simp only[List.append_assoc]
  rw[e1];obtain⟨t1,t2⟩:=Kq hd' (grp bd.length++(bd++u)) hl;obtain⟨t3,t4⟩:=Kq bd u hbd;rw[Fw];unfold fG;rw[t1];dsimp only;rw[t2,t3];dsimp only;rw[hhd];dsimp only;rw[hd];simp[qp];omega
 ·unfold qp at hx;rcases List.mem_cons.1 hx with rfl | hx
  ·omega
  rcases List.mem_append.1 hx with hx | hx
  ·exact lU _ (by omega) x hx
  rcases List.mem_append.1 hx with hx | hx
  ·exact hlt x hx
  rcases List.mem_append.1 hx with hx | hx
  ·exact lU _ (by omega) x hx
  ·exact hb256 x hx
def Gj(s:StZ):Prop:=0<=s.1/\s.1<=65535/\3<=s.2.1/\s.2.1<=65538/\1<=s.2.2/\s.2.2<=65533
instance (s:StZ):Decidable (Gj s):=by unfold Gj;infer_instance
def adh(s:StZ):Stp:=(s.1.toNat,s.2.1.toNat,s.2.2.toNat)
def kU(r:Int×Int×Int)(s:StZ):List Nat:=[s.1.toNat,(s.2.1-3).toNat,(oH r.1 r.2.1 r.2.2 s.2.2).toNat]
def aP:(Int×Int×Int)->List StZ->List (List Nat)
 | _,[]=>[]
 | r,s :: l=>kU r s :: aP (oV r.1 r.2.1 r.2.2 s.2.2) l
def CF:(Int×Int×Int)->List StZ->Int×Int×Int
 | r,[]=>r
 | r,s :: l=>CF (oV r.1 r.2.1 r.2.2 s.2.2) l
theorem Aj:∀(l:List StZ) (r:Int×Int×Int) (s:StZ),aP r (l++[s])=aP r l++[kU (CF r l) s]
 | [],_,_=>rfl
 | t :: l,r,s=>by
  rw[List.cons_append,aP,aP,CF,Aj l,List.cons_append]
theorem Fy:∀(l:List StZ) (r:Int×Int×Int) (s:StZ),CF r (l++[s])=oV (CF r l).1 (CF r l).2.1 (CF r l).2.2 s.2.2
 | [],_,_=>rfl
 | t :: l,r,s=>by rw[List.cons_append,CF,CF,Fy l]
theorem fP:∀(l:List StZ) (r:Int×Int×Int),(aP r l).length=l.length
 | [],_=>rfl
 | t :: l,r=>by rw[aP,List.length_cons,List.length_cons,fP l]
def bG:List Nat->Nat×Nat
 | []=>(0,0)
 | v :: l=>(kI v+(bG l).1*2^gG v,gG v+(bG l).2)
theorem zC:∀(l:List Nat) (v:Nat),bG (l++[v])=((bG l).1+kI v*2^(bG l).2,(bG l).2+gG v)
 | [],v=>by simp[bG]
 | x :: l,v=>by
  rw[List.cons_append,bG,zC l v,bG];dsimp only;rw[Nat.pow_add,Nat.add_mul,Nat.add_assoc,Nat.mul_assoc,Nat.mul_comm (2^(bG l).2) (2^gG x),Nat.add_assoc]
theorem Je(v:Nat):kI v<2^gG v:=by
 unfold kI gG;split
 ·simp
 ·exact Nat.mod_lt _ (Nat.pow_pos (by omega))
theorem KF:∀l:List Nat,(bG l).1<2^(bG l).2
 | []=>by simp[bG]
 | v :: l=>by
  have h:=KF l;have hm:=Je v;show kI v+(bG l).1*2^gG v<2^(gG v+(bG l).2);rw[Nat.pow_add,Nat.mul_comm (2^gG v)];have h5:((bG l).1+1)*2^gG v<=2^(bG l).2*2^gG v:=Nat.mul_le_mul_right _ h;rw[Nat.add_mul,Nat.one_mul]at h5;omega
theorem vE(l:List Nat)(h:∀v∈l,v<=65535):(bG l).2<=15*l.length:=by
 induction l with
 | nil=>simp[bG]
 | cons v l ih=>
  have h1:=(mX v (h v List.mem_cons_self)).2.2.1;have h2:=ih (fun x hx=>h x (List.mem_cons_of_mem _ hx));rw[bG,List.length_cons];dsimp only;omega
theorem Ig(v:Nat)(h:v<=65535):exK (kX v)=gG v/\kX v<28:=by
 obtain⟨h1,_,h3,_⟩:=mX v h;refine⟨?_,by omega⟩;unfold exK kX gG;by_cases h16:v<16
 ·rw[if_pos h16,if_pos h16,if_pos h16]
 ·obtain⟨k,hk4,_,_,_,hw⟩:=Ky v (by omega) h;rw[if_neg h16,if_neg h16,hw,if_neg (by omega)];omega
theorem aap(v V:Nat)(h:v<=65535)(hV:V%2^gG v=kI v):QF (kX v) V=v:=by
 have hs:=(mX v h).2.2.2;obtain⟨he,h28⟩:=Ig v h;unfold QF;unfold iJ at hs;unfold exK at he;by_cases h16:kX v<16
 ·rw[if_pos h16]at hs ⊢;split at hs
  ·injection hs
  ·cases hs
 ·rw[if_neg h16]at hs he ⊢;rw[if_neg (by omega)]at hs;split at hs
  ·injection hs with hs
   rw[he,hV,<-he];exact hs
  ·cases hs
theorem Ak(l:List Nat)(m:Nat):∀vs:List Nat,(∀v∈vs,v<=65535)->pK (vs.map kX) (bG (vs++l)).1 ((bG (vs++l)).2+m)=some (vs,(bG l).1,(bG l).2+m)
 | [],_=>rfl
 | v :: vs,h=>by
  have hv:=h v List.mem_cons_self;have ih:=Ak l m vs (fun x hx=>h x (List.mem_cons_of_mem _ hx));obtain⟨he,h28⟩:=Ig v hv;have hm:=Je v;rw[List.map_cons,List.cons_append,bG,pK,he];dsimp only;have e1:(kI v+(bG (vs++l)).1*2^gG v)/2^gG v=(bG (vs++l)).1:=by
   rw[Nat.add_mul_div_right _ _ (Nat.pow_pos (by omega)),Nat.div_eq_of_lt hm,Nat.zero_add]
  have e2:(kI v+(bG (vs++l)).1*2^gG v)%2^gG v=kI v:=by
   rw[Nat.add_mul_mod_self_right,Nat.mod_eq_of_lt hm]
  rw[if_pos (by omega),e1,show gG v+(bG (vs++l)).2+m-gG v=(bG (vs++l)).2+m by omega,ih,aap v _ hv e2];rfl
theorem Ct(a b c x:Int)(h1:1<=x)(h2:x<=65533):0<=oH a b c x/\oH a b c x<=65535:=by
 unfold oH;rw[if_neg (by omega)];split
 ·omega
 ·split
  ·omega
  ·split<;>omega
theorem MP(r:Int×Int×Int)(s:StZ)(h:Gj s):∀v∈kU r s,v<=65535:=by
 obtain⟨h0,h1,h2,h3,h4,h5⟩:=h;have hn:=Ct r.1 r.2.1 r.2.2 s.2.2 h4 h5;intro v hv;simp only[kU,List.mem_cons,List.not_mem_nil,or_false]at hv;rcases hv with rfl | rfl | rfl<;>omega
theorem tC:∀(l:List StZ) (r:Int×Int×Int),(∀s∈l,Gj s)->∀v∈(aP r l).flatten,v<=65535
 | [],_,_,v,hv=>by simp[aP]at hv
 | s :: l,r,h,v,hv=>by
  rw[aP,List.flatten_cons]at hv;rcases List.mem_append.1 hv with hv | hv
  ·exact MP r s (h s List.mem_cons_self) v hv
  ·exact tC l _ (fun x hx=>h x (List.mem_cons_of_mem _ hx)) v hv
theorem jf:∀(l:List StZ) (r:Int×Int×Int),(aP r l).flatten.length=3*l.length
 | [],_=>rfl
 | s :: l,r=>by
  rw[aP,List.flatten_cons,List.length_append,jf l,List.length_cons];simp[kU];omega
theorem yu(m:Nat):∀(l:List StZ) (r:Int×Int×Int),(∀s∈l,Gj s) ->
  mE ((aP r l).map (List.map kX)) (bG (aP r l).flatten).1 ((bG (aP r l).flatten).2+m) r=some (l.map adh,0,m)
 | [],r,_=>by simp[aP,mE,bG]
 | s :: l,r,h=>by
  have hs:=h s List.mem_cons_self;have ih:=yu m l (oV r.1 r.2.1 r.2.2 s.2.2) (fun x hx=>h x (List.mem_cons_of_mem _ hx));obtain⟨h0,h1,h2,h3,h4,h5⟩:=id hs;have hn:=Ct r.1 r.2.1 r.2.2 s.2.2 h4 h5;have ho:=afH r.1 r.2.1 r.2.2 s.2.2 hn.1;rw[aP,List.map_cons,List.flatten_cons,mE,Ak _ m (kU r s) (MP r s hs)];dsimp only;have e2:(((kU r s)[2]?.getD 0:Nat):Int)=oH r.1 r.2.1 r.2.2 s.2.2:=by
   simp only[kU,List.getElem?_cons_succ,List.getElem?_cons_zero,Option.getD_some];omega
  rw[e2,ho];dsimp only;rw[ih,Option.map_some,List.map_cons];have e3:((kU r s)[0]?.getD 0,(kU r s)[1]?.getD 0+3,s.2.2.toNat)=adh s:=by
   simp only[kU,List.getElem?_cons_succ,List.getElem?_cons_zero,Option.getD_some,adh];rw[show(s.2.1-3).toNat+3=s.2.1.toNat by omega]
  rw[e3]
def cZ(j:Nat)(N:List (List Nat)):List Nat:=N.map fun vs=>kX (vs[j]?.getD 0)
def KM(N:List (List Nat)):List (List Nat):=[cZ 0 N,cZ 1 N,cZ 2 N]
theorem Px(l:List StZ)(r:Int×Int×Int):lH (KM (aP r l)) l.length=(aP r l).map (List.map kX):=by
 have hl:=fP l r;have h3:∀vs∈aP r l,vs.length=3:=by
  clear hl;induction l generalizing r with
  | nil=>intro vs h;simp[aP]at h
  | cons s l ih=>
   intro vs h;rw[aP]at h;rcases List.mem_cons.1 h with rfl | h
   ·rfl
   ·exact ih _ vs h
 generalize aP r l=N at *;apply List.ext_getElem
 ·simp[lH,hl]
 ·intro i h1 h2;have hi:i<N.length:=by simpa using h2
  have hv:=h3 N[i] (List.getElem_mem hi);simp only[lH,List.getElem_map,List.getElem_range,atD,KM,cZ,List.map_cons,List.map_nil,List.getElem?_map,List.getElem?_eq_getElem hi,Option.map_some,Option.getD_some];generalize N[i]=vs at *;match vs,hv with
  | [a,b,c],_=>rfl
def dM(N:List (List Nat)):List Nat:=bytesOf (bG N.flatten).1 (((bG N.flatten).2+7)/8)
def Mw(n:Nat)(S0 S1 S2 bd:List Nat):List Nat:=grp n++(S0++(S1++(S2++(grp bd.length++bd))))
structure ain(l:List StZ)(S:List Nat):Prop where
 read:∀u,su (S++u) (l.length:Int)=some (l.map adh,S.length)
 lt:∀x∈S,x<256
 len:S.length<=10000
 one:l.length=1->S=Mw 1 (0 :: cZ 0 (aP (1,2,4) l)) (0 :: cZ 1 (aP (1,2,4) l)) (0 :: cZ 2 (aP (1,2,4) l)) (dM (aP (1,2,4) l))
theorem agn(l:List StZ)(h0:0<l.length)(hl:l.length<=700)(hm:∀s∈l,Gj s)(S0 S1 S2:List Nat)(h1:Ym (cZ 0 (aP (1,2,4) l)) S0)(h2:Ym (cZ 1 (aP (1,2,4) l)) S1)(h3:Ym (cZ 2 (aP (1,2,4) l)) S2) :
  ain l (Mw l.length S0 S1 S2 (dM (aP (1,2,4) l))):=by
 have hp:∀j,(cZ j (aP (1,2,4) l)).length=l.length:=fun j=>by rw[cZ,List.length_map,fP]
 have r1:=h1.q.read;have r2:=h2.q.read;have r3:=h3.q.read;have g1:=h1.len;have g2:=h2.len;have g3:=h3.len;rw[hp]at r1 r2 r3 g1 g2 g3;have hbl:(dM (aP (1,2,4) l)).length<=4096:=by
  have a1:=vE _ (tC l (1,2,4) hm);have a2:=jf l (1,2,4);rw[dM,bytesOf_length];omega
 have hb256:∀x∈dM (aP (1,2,4) l),x<256:=eH _ _;have hgp:=pE l.length (by omega);have hst:kN (KM (aP (1,2,4) l)) l.length (dM (aP (1,2,4) l))=some (l.map adh):=by
  obtain⟨e,he⟩:∃e,8*(((bG (aP (1,2,4) l).flatten).2+7)/8)=(bG (aP (1,2,4) l).flatten).2+e:=⟨8*(((bG (aP (1,2,4) l).flatten).2+7)/8)-(bG (aP (1,2,4) l).flatten).2,by omega⟩;have hv:aW (dM (aP (1,2,4) l))=(bG (aP (1,2,4) l).flatten).1:=by
   rw[dM,iI,tH];exact Nat.mod_eq_of_lt (Nat.lt_of_lt_of_le (KF _) (Nat.pow_le_pow_right (by omega) (by omega)))
  have hl8:8*(dM (aP (1,2,4) l)).length=(bG (aP (1,2,4) l).flatten).2+e:=by rw[dM,bytesOf_length,he]
  unfold kN;rw[Px,hv,hl8,yu e l (1,2,4) hm];unfold aeD;dsimp only;rw[if_pos ⟨by omega,rfl⟩]
 have hone:l.length=1->Mw l.length S0 S1 S2 (dM (aP (1,2,4) l))=Mw 1 (0 :: cZ 0 (aP (1,2,4) l)) (0 :: cZ 1 (aP (1,2,4) l)) (0 :: cZ 2 (aP (1,2,4) l)) (dM (aP (1,2,4) l)):=fun h=>by
  rw[xH _ _ h1 (by rw[hp,h]),xH _ _ h2 (by rw[hp,h]),xH _ _ h3 (by rw[hp,h]),h]
 generalize hbd:dM (aP (1,2,4) l)=bd at *;refine⟨fun u=>?_,fun x hx=>?_,?_,fun h=>by rw[hbd];exact hone h⟩
 ·have e1:Mw l.length S0 S1 S2 bd++u=grp l.length++(S0++(S1++(S2++(grp bd.length++(bd++u))))):=by simp only[Mw,List.append_assoc]
  have hd:(grp l.length++(S0++(S1++(S2++(grp bd.length++(bd++u)))))).drop (grp l.length).length=S0++(S1++(S2++(grp bd.length++(bd++u)))):=List.drop_left;unfold su;rw[e1,fK l.length _ (by omega)];dsimp only;rw[if_pos ⟨hgp,Int.le_refl _,by omega⟩,if_neg (by omega),hd];have hs3:gH 3 (S0++(S1++(S2++(grp bd.length++(bd++u))))) l.length=some (KM (aP (1,2,4) l),S0.length+(S1.length+(S2.length+0))):=by
   rw[gH,r1];dsimp only;rw[List.drop_left,gH,r2];dsimp only;rw[List.drop_left,gH,r3];rfl
  rw[hs3];dsimp only;have hd2:(S0++(S1++(S2++(grp bd.length++(bd++u))))).drop (S0.length+(S1.length+(S2.length+0)))=grp bd.length++(bd++u):=by
   rw[<-List.drop_drop,List.drop_left,<-List.drop_drop,List.drop_left,Nat.add_zero,List.drop_left]
  rw[hd2,(Kq bd u hbl).1];dsimp only;rw[hst];simp only[Option.map_some,Mw,List.length_append];congr 2
  omega
 ·unfold Mw at hx;rcases List.mem_append.1 hx with hx | hx
  ·exact lU _ (by omega) x hx
  rcases List.mem_append.1 hx with hx | hx
  ·exact h1.q.lt x hx
  rcases List.mem_append.1 hx with hx | hx
  ·exact h2.q.lt x hx
  rcases List.mem_append.1 hx with hx | hx
  ·exact h3.q.lt x hx
  rcases List.mem_append.1 hx with hx | hx
  ·exact lU _ (by omega) x hx
  ·exact hb256 x hx
 ·have t1:=eZ l.length (by omega);have t2:=eZ bd.length (by omega);simp only[Mw,List.length_append];omega
theorem abo(l:List StZ)(h:l=[]):ain l [0]:=by
 subst h;refine⟨fun u=>?_,fun x hx=>by simp at hx;omega,by simp,fun h=>by simp at h⟩;have e:au ([0]++u)=(0,1):=by
  have h1:=fK 0 u (by omega);have h2:grp 0=[0]:=fU 0 (by omega);rw[h2]at h1;exact h1
 unfold su;rw[e];simp
theorem adw(l:List Nat)(t:List Nat×Nat)(h:rQ l=some t):0<t.2/\t.2<=l.length/\t.1.length<=4096/\∀x∈t.1,x∈l:=by
 unfold rQ at h;split at h
 ·next hc=>
  injection h with h
  subst h;have hk:=(gK l _ _ hc.1 rfl).2.2;exact⟨by dsimp only;omega,by dsimp only;omega,by rw[List.length_take];omega,fun x hx=>List.mem_of_mem_drop (List.mem_of_mem_take hx)⟩
 ·cases h
def Rl(l:List Int):Prop:=l.length<=256/\∀x∈l,0<=x/\x<=11
instance (l:List Int):Decidable (Rl l):=by unfold Rl;exact inferInstance
def dD(n:Nat):Nat:=if n=0 then 0 else 2^(11-n)
def krN(l:List Nat):Nat:=(l.map dD).sum
def jq(l:List Nat):Nat:=l.countP fun n=>decide (0<n)
def bC(l:List Nat):Prop:=l.length<=256/\(∀x∈l,x<=11)/\(krN l=2048\/(jq l=1/\krN l=1024))
instance (l:List Nat):Decidable (bC l):=by unfold bC;exact inferInstance
def jG(l:List Int):Prop:=Rl l/\bC (l.map Int.toNat)
instance (l:List Int):Decidable (jG l):=by unfold jG;exact inferInstance
theorem Cc(l:List Int)(h:Rl l):l=(l.map Int.toNat).map (fun n:Nat=>(n:Int))/\(∀x∈l.map Int.toNat,x<=11)/\(l.map Int.toNat).length=l.length:=by
 refine⟨?_,?_,by simp⟩
 ·rw[List.map_map];conv=>lhs;rw[<-List.map_id l]
  apply List.map_congr_left
  intro x hx;have:=h.2 x hx;simp only[Function.comp_apply,id];omega
 ·intro x hx;obtain⟨y,hy,rfl⟩:=List.mem_map.1 hx;have:=h.2 y hy;omega
def eY(l:List Nat)(k i:Nat):Bool:=decide (0<l[k]?.getD 0) && (decide (l[k]?.getD 0<l[i]?.getD 0) || (decide (l[k]?.getD 0=l[i]?.getD 0) && decide (k<i)))
def DC(l:List Nat)(i q:Nat):Nat:=((List.range q).map fun k=>if eY l k i then dD (l[k]?.getD 0)else 0).sum
def ko(l:List Nat)(i:Nat):Nat:=DC l i l.length
def eX(l:List Nat)(i:Nat):Nat:=if l[i]?.getD 0=0 then 0 else ko l i/2^(11-l[i]?.getD 0)
def iZ(l:List Nat):List Nat:=(List.range l.length).map (eX l)
theorem kQ{α:Type}(f g:α->Nat):∀(L:List α),(∀x∈L,f x<=g x)->(L.map f).sum<=(L.map g).sum
 | [],_=>by simp
 | a :: L,h=>by
  have h1:=h a List.mem_cons_self;have h2:=kQ f g L (fun x hx=>h x (List.mem_cons_of_mem _ hx));rw[List.map_cons,List.map_cons,List.sum_cons,List.sum_cons];omega
theorem eB{α:Type}(f g:α->Nat):∀(L:List α),(L.map fun x=>f x+g x).sum=(L.map f).sum+(L.map g).sum
 | []=>by simp
 | a :: L=>by
  have h2:=eB f g L;simp only[List.map_cons,List.sum_cons];omega
theorem qK(l:List Nat):krN l=((List.range l.length).map fun k=>dD (l[k]?.getD 0)).sum:=by
 unfold krN;congr 1
 apply List.ext_getElem
 ·simp
 ·intro i h1 h2;simp only[List.length_map]at h1;simp[h1]
theorem gX(i v:Nat):∀q,((List.range q).map fun k=>if k=i then v else 0).sum=if i<q then v else 0
 | 0=>by simp
 | q+1=>by
  rw[List.range_succ,List.map_append,List.sum_append_nat,gX i v q];simp only[List.map_cons,List.map_nil,List.sum_cons,List.sum_nil];by_cases h1:i<q
  ·have h2:¬q=i:=by omega
   have h3:i<q+1:=by omega
   simp[h1,h2,h3]
  ·by_cases h2:q=i
   ·subst h2;simp
   ·have h3:¬i<q+1:=by omega
    simp[h1,h2,h3]
theorem uD(l:List Nat)(i k:Nat)(hi:i<l.length)(h:eY l i k=true):ko l i+dD (l[i]?.getD 0)<=ko l k:=by
 have e:dD (l[i]?.getD 0)=((List.range l.length).map fun q=>if q=i then dD (l[i]?.getD 0)else 0).sum:=by
  rw[gX,if_pos hi]
 unfold ko DC;rw[e,<-eB];apply kQ
 intro q _;by_cases hq:q=i
 ·subst hq;have h0:eY l q q=false:=by simp[eY]
  rw[h0,h];simp
 ·rw[if_neg hq,Nat.add_zero];by_cases hb:eY l q i=true
  ·have hk:eY l q k=true:=by
    unfold eY at h hb ⊢;simp only[Bool.and_eq_true,Bool.or_eq_true,decide_eq_true_eq]at h hb ⊢;omega
   rw[hb,hk];exact Nat.le_refl _
  ·rw[if_neg hb];exact Nat.zero_le _
theorem Ro(l:List Nat)(i:Nat)(hi:i<l.length):ko l i+dD (l[i]?.getD 0)<=krN l:=by
 have e:dD (l[i]?.getD 0)=((List.range l.length).map fun q=>if q=i then dD (l[i]?.getD 0)else 0).sum:=by
  rw[gX,if_pos hi]
 rw[qK];unfold ko DC;rw[e,<-eB];apply kQ
 intro q _;by_cases hq:q=i
 ·subst hq;have h0:eY l q q=false:=by simp[eY]
  rw[h0];simp
 ·rw[if_neg hq,Nat.add_zero];split<;>omega
theorem Rp(l:List Nat)(i:Nat):2^(11-l[i]?.getD 0)∣ko l i:=by
 unfold ko DC;have:∀L:List Nat,2^(11-l[i]?.getD 0)∣(L.map fun k=>if eY l k i then dD (l[k]?.getD 0)else 0).sum:=fun L=>by
  induction L with
  | nil=>simp
  | cons k L ih=>
   rw[List.map_cons,List.sum_cons];refine Nat.dvd_add ?_ ih;split
   ·next hb=>
    unfold eY at hb;simp only[Bool.and_eq_true,Bool.or_eq_true,decide_eq_true_eq]at hb;unfold dD;rw[if_neg (by omega)];exact Nat.pow_dvd_pow 2 (by omega)
   ·exact Nat.dvd_zero _
 exact this _
theorem vH(l:List Nat)(i:Nat)(hi:i<l.length)(h:bC l)(h0:0<l[i]?.getD 0):eX l i<2^(l[i]?.getD 0):=by
 have h11:l[i]?.getD 0<=11:=by rw[List.getElem?_eq_getElem hi,Option.getD_some];exact h.2.1 _ (List.getElem_mem hi)
 have ha:=Ro l i hi;have hk:krN l<=2048:=by have:=h.2.2;omega
 unfold eX;rw[if_neg (by omega)];unfold dD at ha;rw[if_neg (by omega)]at ha;have hp:0<2^(11-l[i]?.getD 0):=Nat.two_pow_pos _;rw[Nat.div_lt_iff_lt_mul hp,<-Nat.pow_add,show l[i]?.getD 0+(11-l[i]?.getD 0)=11 by omega];have:(2:Nat)^11=2048:=by decide
 omega
theorem GR(l:List Nat)(i k:Nat)(hi:i<l.length)(hk:k<l.length)(h:bC l)(hik:i≠k)(h0:0<l[i]?.getD 0)(h1:l[i]?.getD 0<=l[k]?.getD 0):eX l k/2^(l[k]?.getD 0-l[i]?.getD 0)≠eX l i:=by
 have h11:l[k]?.getD 0<=11:=by rw[List.getElem?_eq_getElem hk,Option.getD_some];exact h.2.1 _ (List.getElem_mem hk)
 have hp:0<2^(11-l[i]?.getD 0):=Nat.two_pow_pos _;obtain⟨q,hq⟩:=Rp l i;have ei:eX l i=q:=by
  unfold eX;rw[if_neg (by omega),hq,Nat.mul_div_cancel_left _ hp]
 have ek:eX l k/2^(l[k]?.getD 0-l[i]?.getD 0)=ko l k/2^(11-l[i]?.getD 0):=by
  unfold eX;rw[if_neg (by omega),Nat.div_div_eq_div_mul,<-Nat.pow_add,show 11-l[k]?.getD 0+(l[k]?.getD 0-l[i]?.getD 0)=11-l[i]?.getD 0 by omega]
 rw[ei,ek];by_cases hb:eY l i k=true
 ·have h2:=uD l i k hi hb;unfold dD at h2;rw[if_neg (by omega),hq]at h2;have h3:q+1<=ko l k/2^(11-l[i]?.getD 0):=by
   rw[Nat.le_div_iff_mul_le hp,Nat.add_mul,Nat.one_mul,Nat.mul_comm];exact h2
  omega
 ·have hb2:eY l k i=true:=by
   unfold eY at hb ⊢;simp only[Bool.and_eq_true,Bool.or_eq_true,decide_eq_true_eq]at hb ⊢;omega
  have he:l[k]?.getD 0=l[i]?.getD 0:=by
   unfold eY at hb2;simp only[Bool.and_eq_true,Bool.or_eq_true,decide_eq_true_eq]at hb2;omega
  have h2:=uD l k i hk hb2;unfold dD at h2;rw[if_neg (by omega),hq,he]at h2;have h3:ko l k/2^(11-l[i]?.getD 0)<q:=by
   rw[Nat.div_lt_iff_lt_mul hp,Nat.mul_comm q];omega
  omega
def NG(cs ls:List Nat):Nat:=((List.range cs.length).map fun i=>cs[i]?.getD 0*ls[i]?.getD 0).sum
def aky(cs ls:List Nat):Prop:=∀i,i<cs.length->0<cs[i]?.getD 0->0<ls[i]?.getD 0
end Go.Proofs.YtaebnkeddcbmkaaGreat.Bm
namespace Go.Proofs.YtaebnkeddcbmkaaGreat
open Go.RowKit
namespace Bm
theorem Rq(p:Int->Prop)(l:List Int)(k:Nat)(h:k<l.length)(h0:∀x∈l.take k,p x)(h1:p l[k]):∀x∈l.take (k+1),p x:=by
 rw[List.take_succ_eq_append_getElem h];intro x hx;rcases List.mem_append.1 hx with h2 | h2
 ·exact h0 x h2
 ·rw[List.mem_singleton.1 h2];exact h1
theorem Uh(l:List Nat)(k:Nat)(h:k<l.length):krN (l.take (k+1))=krN (l.take k)+dD l[k]/\jq (l.take (k+1))=jq (l.take k)+if 0<l[k]then 1 else 0:=by
 unfold krN jq;rw[List.take_succ_eq_append_getElem h,List.map_append,List.sum_append_nat,List.countP_append,List.countP_singleton];simp
theorem Vg(n:Nat):dD n<=1024:=by
 unfold dD;split
 ·omega
 ·exact Nat.pow_le_pow_right (n:=2) (j:=10) (by omega) (by omega)
theorem amb(l:List Nat):krN l<=1024*l.length:=by
 unfold krN;induction l with
 | nil=>simp
 | cons a l ih=>have:=Vg a;rw[List.map_cons,List.sum_cons,List.length_cons];omega
theorem agr(l:List Nat):jq l<=l.length:=List.countP_le_length
end Bm
theorem fZ{w:World}{A:Option Addr}{l:List Nat}(h:Reads w A (aM l))(hne:0<l.length):∃g off,A=some ⟨g,off,none⟩/\∀j (hj:j<l.length),w.cell? ⟨g,off+j,none⟩=some (.int .i64 (l[j]:Int)):=by
 have hne':aM l≠[]:=fun e=>by
  have h1:=congrArg List.length e;rw[aN,List.length_nil]at h1;omega
 obtain⟨g,off,e,hc⟩:=h hne';exact⟨g,off,e,fun j hj=>by rw[hc j (by rw[aN];exact hj),bK l j hj]⟩
theorem YN(A:Option Addr)(L c q:Nat)(W:World)(h:q<=L)(hc:L<=c):(Instr.slice 115 (.slice A L c) none (some (.int .i64 (q:Int))) none).run prog W=.ok (.slice A q c) W:=by
 have h1:q<=c:=by omega
 rcases A with _ | a
 ·go_simp
 ·go_simp
def QN(l:List Int)(k:Nat):Prop:=k<=l.length/\(∀j (h:j<l.length),k<=j->l[j]=0)/\(k=0\/∃h:k-1<l.length,l[k-1]≠0)
namespace Bm
theorem tZ:∀(ls:List Nat) (k:Nat),k<=ls.length->(∀j,k<=j->ls[j]?.getD 0=0)->(k=0\/ls[k-1]?.getD 0≠0)->aI ls=ls.take k
 | [],k,hk,_,_=>by simp[aI]
 | n :: l,k,hk,hz,hl=>by
  have hsum:∀l:List Nat,(∀j,l[j]?.getD 0=0)->l.sum=0:=fun l=>by
   induction l with
   | nil=>simp
   | cons a l ih=>
    intro h;have h0:=h 0;rw[List.getElem?_cons_zero,Option.getD_some]at h0;rw[List.sum_cons,h0,ih (fun j=>by have:=h (j+1);rwa [List.getElem?_cons_succ]at this)]
  have alT:∀(l:List Nat) (j:Nat),l.sum=0->l[j]?.getD 0=0:=fun l=>by
   induction l with
   | nil=>intro j _;simp
   | cons a l ih=>
    intro j h;rw[List.sum_cons]at h;cases j with
    | zero=>rw[List.getElem?_cons_zero,Option.getD_some];omega
    | succ j=>rw[List.getElem?_cons_succ];exact ih j (by omega)
  unfold aI;rcases k with _ | k
  ·rw[if_pos (by have:=hsum (n :: l) (fun j=>hz j (by omega));rwa [List.sum_cons]at this),List.take_zero]
  ·have hne:¬(n+l.sum=0):=fun h=>by
    rcases hl with h1 | h1
    ·omega
    ·exact h1 (alT (n :: l) _ (by rw[List.sum_cons];exact h))
   rw[if_neg hne,List.take_succ_cons];congr 1
   refine tZ l k (by simpa using hk) (fun j hj=>by have:=hz (j+1) (by omega);rwa [List.getElem?_cons_succ]at this) ?_;rcases hl with h1 | h1
   ·omega
   ·rcases k with _ | k
    ·exact .inl rfl
    ·refine .inr ?_;rw[Nat.add_sub_cancel,List.getElem?_cons_succ]at h1;rw[Nat.add_sub_cancel];exact h1
end Bm
theorem PL(ls:List Nat)(k:Nat)(h:QN (ls.map (fun n:Nat=>(n:Int))) k):aI ls=ls.take k/\k=(aI ls).length/\k<=ls.length:=by
 obtain⟨h1,h2,h3⟩:=h;rw[List.length_map]at h1;have e:aI ls=ls.take k:=by
  refine tZ ls k h1 (fun j hj=>?_) ?_
  ·rcases Nat.lt_or_ge j ls.length with h4 | h4
   ·have h5:=h2 j (by rw[List.length_map];exact h4) hj;rw[List.getElem_map]at h5;rw[List.getElem?_eq_getElem h4,Option.getD_some];omega
   ·rw[List.getElem?_eq_none h4];rfl
  ·rcases h3 with h4 | ⟨h4,h5⟩
   ·exact .inl h4
   ·right
    rw[List.length_map]at h4;rw[List.getElem_map]at h5;rw[List.getElem?_eq_getElem h4,Option.getD_some];omega
 exact⟨e,by rw[e,List.length_take];omega,h1⟩
theorem Pn{w:World}{A:Option Addr}{xs:List Value}(h:Reads w A xs)(k:Nat):Reads w A (xs.take k):=fun hne=>by
 obtain⟨g,off,e,hc⟩:=h (by rintro rfl;simp at hne);refine⟨g,off,e,fun j hj=>?_⟩;rw[List.length_take]at hj;rw[hc j (by omega),List.getElem?_take,if_pos (by omega)]
end Go.Proofs.YtaebnkeddcbmkaaGreat
namespace Go.Proofs.YtaebnkeddcbmkaaGreat.Bm
theorem ajI(bs:List Nat)(most:Int)(h:¬(0<(au bs).2/\((au bs).1:Int)<=min most 1000)):su bs most=none:=by
 unfold su;rw[if_neg (by omega)]
theorem abq(bs:List Nat)(most:Int)(h:0<(au bs).2/\((au bs).1:Int)<=min most 1000)(h0:(au bs).1=0):su bs most=some ([],(au bs).2):=by
 unfold su;rw[if_pos (by omega),if_pos h0]
theorem abn(bs:List Nat)(most:Int)(h:0<(au bs).2/\((au bs).1:Int)<=min most 1000)(h0:(au bs).1≠0):su bs most =
  match gH 3 (bs.drop (au bs).2) (au bs).1 with
  | none=>none
  | some p=>match rQ ((bs.drop (au bs).2).drop p.2)with
   | none=>none
   | some q=>(kN p.1 (au bs).1 q.1).map fun l=>(l,(au bs).2+p.2+q.2):=by
 unfold su;exact(if_pos (by omega)).trans (if_neg h0)
end Go.Proofs.YtaebnkeddcbmkaaGreat.Bm
namespace Go.Proofs.YtaebnkeddcbmkaaGreat
open Go.RowKit
end Go.Proofs.YtaebnkeddcbmkaaGreat
