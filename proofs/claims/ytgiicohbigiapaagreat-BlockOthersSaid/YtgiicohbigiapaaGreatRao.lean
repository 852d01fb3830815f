/- Contracts, and what they rest on. Conditions: the theorems' premises. -/
import Derived.Test.YtgiicohbigiapaaGreatRad
import Derived.ProofKit
import Derived.OpenShut
set_option maxHeartbeats 4000000
set_option maxRecDepth 100000
open Go.Lib(hid)
open Go.Proofs.Tryz Go.Proofs.YtgiicohbigiapaaGreat.Bm
namespace Go.Proofs.YtgiicohbigiapaaGreat
open Go.ChangeShapes Go.WideShapes Go.ChangeAt Go.RowKit
def lQ(l:List Int):List Value:=l.map fun z=>.int .i64 z
theorem vO(l:List Int):(lQ l).length=l.length:=by simp[lQ]
theorem Qq(l:List Int)(i:Nat)(h:i<l.length):(lQ l)[i]?=some (.int .i64 l[i]):=by simp[lQ,h]
theorem bJ(l:List Nat):lQ (l.map fun n:Nat=>(n:Int))=aM l:=by simp[lQ,aM]
theorem nG{w:World}{A:Option Addr}{l:List Int}(h:Reads w A (lQ l))(hne:0<l.length):∃g off,A=some ⟨g,off,none⟩∧∀j (hj:j<l.length),w.cell? ⟨g,off+j,none⟩=some (.int .i64 l[j]):=by
 have hne':lQ l≠[]:=fun e=>by
  have h1:=congrArg List.length e;rw[vO,List.length_nil]at h1;omega
 obtain⟨g,off,e,hc⟩:=h hne';exact⟨g,off,e,fun j hj=>by rw[hc j (by rw[vO];exact hj),Qq l j hj]⟩
theorem aC{w W:World}{A:Option Addr}{xs:List Value}(h:Reads w A xs)(hb:Below w.heap.size w W):Reads W A xs:=fun hne=>by
 obtain⟨g,off,e,hc⟩:=h hne;refine⟨g,off,e,fun j hj=>?_⟩;have h1:=hc j hj;rw[List.getElem?_eq_getElem hj]at h1 ⊢;rw[←h1];exact hb.cell (p:=⟨g,off+j,none⟩) (World.block_lt_of_cell? w _ h1)
theorem aN{w W:World}{b:Nat}{t:TypeId}{cs:List Value}(hr:Row w b t cs)(hb:Below w.heap.size w W):Row W b t cs:=hr.keep (hb.block b hr.lt)
theorem gI:(prog.info? 3).map (fun i=>(i.zero,i.size,i.bytes))=some (some (.int .i64 0),1,8):=by kernel_rfl
theorem dF{w:World}{base g n:Nat}(h:w.ownsRow base 3 1 (.slice (some ⟨g,0,none⟩) n n) n (madeCells #[Value.int .i64 0] n).toList):Row w g 3 (aM (List.replicate n 0)):=by
 rcases h.2 with⟨hv,_⟩ | ⟨g',cap,cur,hv,hb,hh,h1,h2,h3,h4⟩
 ·cases hv
 ·injection hv with e1 e2 e3
  injection e1 with e1
  injection e1 with e1
  subst e1 e3;have e:cur.toList=aM (List.replicate n 0):=by
   rw[List.take_of_length_le (by rw[Array.length_toList];omega)]at h4;rw[h4,toList_madeCells_one];simp only[aM,List.map_replicate];rfl
  unfold Row;rw[←e,Array.toArray_toList];exact hh
namespace Bm
def bM(z:Int):Prop:=-9223372036854775808≤z∧z≤9223372036854775807
def kH(l:List Int):Nat:=l.countP fun z=>decide (0<z)
theorem TD(l:List Int)(k:Nat)(h:k<l.length):kH (l.take (k+1))=kH (l.take k)+(if 0<l[k]then 1 else 0):=by
 unfold kH;rw[List.take_succ_eq_append_getElem h,List.countP_append,List.countP_singleton];simp
theorem Br(l:List Int):kH l≤l.length:=List.countP_le_length
def iD:List Nat→Nat
 | []=>0
 | b :: bs=>max (b+1) (iD bs)
def aR(bs:List Nat):List Nat:=(List.range (iD bs)).map fun s=>bs.count s
theorem GX(a b:List Nat):iD (a++b)=max (iD a) (iD b):=by
 induction a with
 | nil=>simp[iD]
 | cons x a ih=>rw[List.cons_append,iD,ih,iD];omega
theorem Ep(bs:List Nat)(k:Nat)(h:k<bs.length):iD (bs.take (k+1))=max (iD (bs.take k)) (bs[k]+1):=by
 rw[List.take_succ_eq_append_getElem h,GX];simp[iD]
theorem jO(bs:List Nat)(h:∀x∈bs,x<256):iD bs≤256:=by
 induction bs with
 | nil=>simp[iD]
 | cons x a ih=>
  have h1:=ih (fun y hy=>h y (List.mem_cons_of_mem _ hy));have h2:=h x List.mem_cons_self;rw[iD];omega
theorem jG(bs:List Nat)(b:Nat)(h:b∈bs):b<iD bs:=by
 induction bs with
 | nil=>cases h
 | cons x a ih=>
  rw[iD];rcases List.mem_cons.1 h with rfl | h1
  ·omega
  ·have:=ih h1;omega
def bV(bs:List Nat)(k:Nat):List Nat:=(List.range (iD bs)).map fun s=>(bs.take k).count s
theorem pQ(bs:List Nat):bV bs 0=List.replicate (iD bs) 0:=by
 unfold bV;rw[List.take_zero];simp only[List.count_nil];rw[List.map_const',List.length_range]
theorem sV(bs:List Nat):bV bs bs.length=aR bs:=by unfold bV aR;rw[List.take_length]
theorem vD(bs:List Nat)(k:Nat):(bV bs k).length=iD bs:=by simp[bV]
theorem sW(bs:List Nat)(k b:Nat)(h:b<iD bs):(bV bs k)[b]?=some ((bs.take k).count b):=by simp[bV,h]
theorem pO(bs:List Nat)(k:Nat)(h:k<bs.length):bV bs (k+1)=(bV bs k).set bs[k] ((bs.take k).count bs[k]+1):=by
 apply List.ext_getElem
 ·simp[vD]
 ·intro i h1 h2;rw[List.getElem_set];simp only[bV,List.getElem_map,List.getElem_range];rw[List.take_succ_eq_append_getElem h,List.count_append,List.count_singleton];by_cases e:bs[k]=i
  ·subst e;simp
  ·simp[e]
end Bm
theorem abL(T b:Nat):max ((T:Int)-1) (b:Int)=((max T (b+1):Nat):Int)-1:=by omega
namespace Bm
def Fair(l:List Int)(log:Int):Prop:=5≤log∧log≤9∧l.length≤256∧(∀x∈l,0≤x∧x≤1000)∧l.sum=((2^log.toNat:Nat):Int)
instance (l:List Int) (log:Int):Decidable (Fair l log):=by unfold Fair;exact inferInstance
def Fh(l:List Int)(log:Int):Bool:=decide (Fair l log)
theorem Ye(l:List Int)(k:Nat)(h:k<l.length):(l.take (k+1)).sum=(l.take k).sum+l[k]:=by
 rw[List.take_succ_eq_append_getElem h,List.sum_append_int,List.sum_singleton]
theorem Iq(p:Int→Prop)(l:List Int)(k:Nat)(h:k<l.length)(h0:∀x∈l.take k,p x)(h1:p l[k]):∀x∈l.take (k+1),p x:=by
 rw[List.take_succ_eq_append_getElem h];intro x hx;rcases List.mem_append.1 hx with h2 | h2
 ·exact h0 x h2
 ·rw[List.mem_singleton.1 h2];exact h1
end Bm
end Go.Proofs.YtgiicohbigiapaaGreat
namespace Go.Proofs.YtgiicohbigiapaaGreat.Bm
def qN:List Nat→Nat
 | []=>0
 | x :: l=>max x (qN l)
def aG(l:List Nat):Nat:=l.idxOf (qN l)
theorem AP(l:List Nat):∀x∈l,x≤qN l:=by
 induction l with
 | nil=>intro x h;cases h
 | cons a l ih=>
  intro x h;rw[qN];rcases List.mem_cons.1 h with rfl | h
  ·omega
  ·have:=ih x h;omega
theorem AQ(l:List Nat)(h:l≠[]):qN l∈l:=by
 induction l with
 | nil=>exact absurd rfl h
 | cons a l ih=>
  rw[qN];by_cases hl:l=[]
  ·subst hl;simp[qN]
  ·have h1:=ih hl;by_cases h2:qN l≤a
   ·rw[Nat.max_eq_left h2];exact List.mem_cons_self
   ·rw[Nat.max_eq_right (by omega)];exact List.mem_cons_of_mem _ h1
theorem iX(l:List Nat)(h:l≠[]):aG l<l.length:=List.idxOf_lt_length_of_mem (AQ l h)
theorem iy(l:List Nat)(h:aG l<l.length):l[aG l]=qN l:=List.getElem_idxOf h
theorem FR(a b:List Nat):qN (a++b)=max (qN a) (qN b):=by
 induction a with
 | nil=>simp[qN]
 | cons x a ih=>rw[List.cons_append,qN,ih,qN];omega
theorem Aq(a:List Nat)(x:Nat)(h:a≠[]):aG (a++[x])=if qN a<x then a.length else aG a:=by
 have hm:=AQ a h;have e:qN [x]=x:=by simp[qN]
 unfold aG;rw[FR,e];split
 ·next hlt=>
  rw[Nat.max_eq_right (by omega),List.idxOf_append,if_neg (fun hx=>by have:=AP a x hx;omega)];simp
 ·next hlt=>
  rw[Nat.max_eq_left (by omega),List.idxOf_append,if_pos hm]
theorem su(p:List Nat)(k:Nat)(f:Nat→Nat)(h:k<p.length):(p.modify k f).sum+p[k]=p.sum+f p[k]:=by
 induction p generalizing k with
 | nil=>simp at h
 | cons a p ih=>
  cases k with
  | zero=>simp;omega
  | succ k=>
   have:=ih k (by simpa using h);simp[List.modify_succ_cons]at this ⊢;omega
theorem get_modify(p:List Nat)(k i:Nat)(f:Nat→Nat):(p.modify k f)[i]?=if k=i then p[i]?.map f else p[i]?:=by
 rw[List.getElem?_modify];cases h:p[i]?<;>split<;>simp
def fA(p q:List Nat):Prop:=p.length=q.length∧∀i:Nat,0<p[i]?.getD 0↔0<q[i]?.getD 0
theorem fA.refl(p:List Nat):fA p p:=⟨rfl,fun _=>Iff.rfl⟩
theorem fA.trans{p q r:List Nat}(h:fA p q)(k:fA q r):fA p r:=⟨h.1.trans k.1,fun i=>(h.2 i).trans (k.2 i)⟩
def xU(l:List Nat):Nat:=l.countP fun n=>decide (0<n)
theorem fA.xU:∀{p q:List Nat},fA p q→xU p=xU q
 | [],[],_=>rfl
 | [],_ :: _,h=>by have:=h.1;simp at this
 | _ :: _,[],h=>by have:=h.1;simp at this
 | a :: p,b :: q,h=>by
  have h0:=h.2 0;have h1:fA p q:=⟨by have:=h.1;simpa using this,fun i=>by have:=h.2 (i+1);simpa using this⟩;have h2:=h1.xU;unfold Bm.xU at h2 ⊢;rw[List.countP_cons,List.countP_cons,h2];simp at h0;by_cases ha:0<a<;>simp[ha,h0.1]<;>simp_all
theorem xq(l:List Nat)(h:∀x∈l,x≤1):l.sum≤xU l:=by
 induction l with
 | nil=>simp
 | cons a l ih=>
  have h1:=ih (fun x hx=>h x (List.mem_cons_of_mem _ hx));have h2:=h a List.mem_cons_self;unfold xU at h1 ⊢;rw[List.sum_cons,List.countP_cons];by_cases ha:0<a
  ·simp[ha];omega
  ·simp[ha];omega
def decs:Nat→List Nat→List Nat
 | 0,p=>p
 | k+1,p=>decs k (p.modify (aG p) (·-1))
theorem Cx(size:Nat):∀(k:Nat) (p:List Nat),xU p≤size→p.sum=size+k→(decs k p).sum=size∧fA (decs k p) p
 | 0,p,_,hs=>⟨by simpa [decs]using hs,fA.refl p⟩
 | k+1,p,hp,hs=>by
  have hne:p≠[]:=by rintro rfl;simp at hs
  have hlt:=iX p hne;have hget:=iy p hlt;have h2:2≤qN p:=by
   rcases Nat.lt_or_ge (qN p) 2 with h1 | h1
   ·have:=xq p (fun x hx=>by have:=AP p x hx;omega);omega
   ·exact h1
  have hsum:=su p (aG p) (·-1) hlt;rw[hget]at hsum;have hsame:fA (p.modify (aG p) (·-1)) p:=by
   refine⟨by simp,fun i=>?_⟩;rw[get_modify];split
   ·next e=>
    subst e;rw[List.getElem?_eq_getElem hlt,hget];simp;omega
   ·exact Iff.rfl
  have h3:=Cx size k (p.modify (aG p) (·-1)) (by rw[hsame.xU];exact hp) (by omega);exact⟨h3.1,h3.2.trans hsame⟩
def oO(size total c:Nat):Nat:=if c*size/total=0∧0<c then 1 else c*size/total
def parts(cs:List Nat)(size:Nat):List Nat:=cs.map (oO size cs.sum)
def qx(cs:List Nat)(size:Nat):List Nat:=
 if (parts cs size).sum<size then(parts cs size).modify (aG cs) (·+(size-(parts cs size).sum))else decs ((parts cs size).sum-size) (parts cs size)
theorem RF(size total c:Nat):0<oO size total c↔0<c:=by
 unfold oO;split
 ·next h=>simp[h.2]
 ·next h=>
  constructor
  ·intro h1;rcases Nat.eq_zero_or_pos c with h2 | h2
   ·subst h2;simp at h1
   ·exact h2
  ·intro h1;rcases Nat.eq_zero_or_pos (c*size/total)with h2 | h2
   ·exact absurd ⟨h2,h1⟩ h
   ·exact h2
theorem zw(cs:List Nat)(size:Nat):fA (parts cs size) cs:=by
 refine⟨by simp[parts],fun i=>?_⟩;unfold parts;rw[List.getElem?_map];cases h:cs[i]? with
 | none=>simp
 | some c=>simp[RF]
theorem rY(cs:List Nat)(size:Nat)(h0:0<cs.sum)(h:xU cs≤size):(qx cs size).sum=size∧fA (qx cs size) cs:=by
 have hsame:=zw cs size;unfold qx;split
 ·next hlt=>
  have hne:cs≠[]:=by rintro rfl;simp at h0
  have hlt2:=iX cs hne;have hlt3:aG cs<(parts cs size).length:=by rw[hsame.1];exact hlt2
  have hs:=su (parts cs size) (aG cs) (·+(size-(parts cs size).sum)) hlt3;refine⟨by omega,⟨by simp[hsame.1],fun i=>?_⟩⟩;rw[get_modify];split
  ·next e=>
   subst e;have h1:=hsame.2 (aG cs);have hp:0<cs[aG cs]?.getD 0:=by
    rw[List.getElem?_eq_getElem hlt2,iy cs hlt2];simp;rcases Nat.eq_zero_or_pos (qN cs)with h2 | h2
    ·have h3:cs.sum=0:=by
      have:∀(l:List Nat),(∀x∈l,x=0)→l.sum=0:=fun l=>by
       induction l with
       | nil=>simp
       | cons a l ih=>intro hh;rw[List.sum_cons,hh a List.mem_cons_self,ih (fun x hx=>hh x (List.mem_cons_of_mem _ hx))]
      exact this cs (fun x hx=>by have:=AP cs x hx;omega)
     omega
    ·exact h2
   rw[List.getElem?_eq_getElem hlt3]at h1 ⊢;simp at h1 ⊢;have:=h1.2 hp;omega
  ·exact hsame.2 i
 ·next hlt=>
  have h1:=Cx size ((parts cs size).sum-size) (parts cs size) (by rw[hsame.xU];exact h) (by omega);exact⟨h1.1,h1.2.trans hsame⟩
def Right(l:List Int):Prop:=l.length≤256∧(∀x∈l,0≤x∧x≤1048576)∧∃x∈l,0<x
def QT(sym q:Nat):Nat:=
 if 4*sym≤32∧q≤32 then 5 else if 4*sym≤64∧q≤64 then 6 else if 4*sym≤128∧q≤128 then 7 else if 4*sym≤256∧q≤256 then 8 else 9
theorem QV(sym q:Nat)(h:sym≤256):5≤QT sym q∧QT sym q≤9∧sym≤2^QT sym q:=by
 unfold QT;split
 ·refine⟨by omega,by omega,?_⟩;have:(2:Nat)^5=32:=by decide
  omega
 split
 ·refine⟨by omega,by omega,?_⟩;have:(2:Nat)^6=64:=by decide
  omega
 split
 ·refine⟨by omega,by omega,?_⟩;have:(2:Nat)^7=128:=by decide
  omega
 split
 ·refine⟨by omega,by omega,?_⟩;have:(2:Nat)^8=256:=by decide
  omega
 ·refine⟨by omega,by omega,?_⟩;have:(2:Nat)^9=512:=by decide
  omega
end Go.Proofs.YtgiicohbigiapaaGreat.Bm
namespace Go.Proofs.YtgiicohbigiapaaGreat
open Go.RowKit
namespace Bm
instance (l:List Int):Decidable (Right l):=by unfold Right;exact inferInstance
def iT(l:List Int)(log:Int):Prop:=Right l∧5≤log∧log≤9∧kH l≤2^log.toNat
instance (l:List Int) (log:Int):Decidable (iT l log):=by unfold iT;exact inferInstance
def jh(l:List Int)(log:Int):List Int:=if iT l log then(qx (l.map Int.toNat) (2^log.toNat)).map (fun n:Nat=>(n:Int))else []
def iL(l:List Int):Nat:=if Right l then QT (kH l) (l.sum.toNat/8)else 0
end Bm
def COf:Prop:=∀(A:Option Addr) (c:Nat) (bs:List Nat) (w:World),bs.length≤1000000→(∀x∈bs,x<256)→Reads w A (u8s bs) →
 Calls prog 64 #[.slice A bs.length c] w fun e w'=>∃A' c',e=.returned (.slice A' (iD bs) c')∧Reads w' A' (aM (aR bs))∧Below w.heap.size w w'
def UA:Prop:=∀(A:Option Addr) (c:Nat) (l:List Int) (w:World),l.length≤1000000→Reads w A (lQ l) →
 Calls prog 65 #[.slice A l.length c] w fun e w'=>e=.returned (.int .i64 (kH l:Int))∧Below w.heap.size w w'
def akx:Prop:=∀(A:Option Addr) (c:Nat) (l:List Int) (w:World),l.length≤1000000→(∀x∈l,bM x)→Reads w A (lQ l) →
 Calls prog 162 #[.slice A l.length c] w fun e w'=>e=.returned (.int .i64 (iL l:Int))∧Below w.heap.size w w'
def adC:Prop:=∀(A:Option Addr) (c:Nat) (l:List Int) (log:Int) (w:World),l.length≤1000000→(∀x∈l,bM x)→bM log→Reads w A (lQ l) →
 Calls prog 163 #[.slice A l.length c,.int .i64 log] w fun e w'=>∃A' c',e=.returned (.tuple #[.slice A' (jh l log).length c',.bool (decide (iT l log))])∧Reads w' A' (lQ (jh l log))∧Below w.heap.size w w'
namespace Bm
def aF(bs:List Nat):List Int:=(aR bs).map fun n:Nat=>(n:Int)
theorem bI(bs:List Nat):(aF bs).length=iD bs:=by simp[aF,aR]
theorem kN(bs:List Nat)(x:Int)(h:x∈aF bs):0≤x∧x≤bs.length:=by
 unfold aF aR at h;rw[List.map_map,List.mem_map]at h;obtain⟨s,_,rfl⟩:=h;have:=List.count_le_length (a:=s) (l:=bs);exact⟨Int.natCast_nonneg _,by simp only[Function.comp_apply];omega⟩
theorem pK(bs:List Nat)(hlt:∀x∈bs,x<256)(hl:bs.length≤1048576)(h0:0<bs.length):Right (aF bs):=by
 refine⟨by rw[bI];exact jO bs hlt,fun x hx=>by have:=kN bs x hx;omega,?_⟩;obtain⟨b,hb⟩:∃b,b∈bs:=by
  cases bs with
  | nil=>simp at h0
  | cons b bs=>exact⟨b,List.mem_cons_self⟩
 refine⟨((bs.count b:Nat):Int),?_,?_⟩
 ·unfold aF aR;rw[List.map_map,List.mem_map];exact⟨b,List.mem_range.2 (jG bs b hb),rfl⟩
 ·have:=List.count_pos_iff.2 hb;omega
theorem kP(bs:List Nat)(hlt:∀x∈bs,x<256)(hl:bs.length≤1048576):iT (aF bs) (iL (aF bs):Int)↔0<bs.length:=by
 constructor
 ·rintro⟨⟨_,_,x,hx,h0⟩,_⟩;have:=kN bs x hx;omega
 ·intro h0;have hr:=pK bs hlt hl h0;have hs:=Br (aF bs);rw[bI]at hs;have ht:=jO bs hlt;have h1:=QV (kH (aF bs)) ((aF bs).sum.toNat/8) (by omega);unfold iL;rw[if_pos hr];exact⟨hr,by omega,by omega,by rw[Int.toNat_natCast];exact h1.2.2⟩
end Bm
abbrev Cel:=Nat×Nat×Nat
def Vn(t:Cel):List Value:=[.int .u8 (t.1:Int),.int .i64 (t.2.1:Int),.int .i64 (t.2.2:Int)]
def c3:List Cel→List Value
 | []=>[]
 | t :: l=>Vn t++c3 l
theorem OX(l:List Cel):(c3 l).length=l.length*3:=by
 induction l with
 | nil=>rfl
 | cons t l ih=>rw[c3,List.length_append,ih,List.length_cons];simp[Vn];omega
theorem OW(l:List Cel)(i:Nat)(h:i<l.length):(c3 l)[i*3]?=some (.int .u8 (l[i].1:Int))∧(c3 l)[i*3+1]?=some (.int .i64 (l[i].2.1:Int))∧(c3 l)[i*3+2]?=some (.int .i64 (l[i].2.2:Int)):=by
 induction l generalizing i with
 | nil=>simp at h
 | cons t l ih=>
  cases i with
  | zero=>exact⟨rfl,rfl,rfl⟩
  | succ i=>
   have h1:=ih i (by simpa using h);rw[c3];have e:∀j,(Vn t++c3 l)[(i+1)*3+j]?=(c3 l)[i*3+j]?:=fun j=>by
    rw[List.getElem?_append_right (by simp[Vn];omega)];congr 1
    simp[Vn];omega
   have e0:=e 0;rw[Nat.add_zero,Nat.add_zero]at e0;rw[e0,e 1,e 2];exact h1
theorem OY(l:List Cel)(i:Nat)(h:i<l.length)(s b z:Nat) :
  (c3 l).set (i*3) (.int .u8 (s:Int))=c3 (l.set i (s,l[i].2))∧(c3 l).set (i*3+1) (.int .i64 (b:Int))=c3 (l.set i (l[i].1,b,l[i].2.2))∧(c3 l).set (i*3+2) (.int .i64 (z:Int))=c3 (l.set i (l[i].1,l[i].2.1,z)):=by
 induction l generalizing i with
 | nil=>simp at h
 | cons t l ih=>
  cases i with
  | zero=>exact⟨rfl,rfl,rfl⟩
  | succ i=>
   have h1:=ih i (by simpa using h);have e:∀j v,(Vn t++c3 l).set ((i+1)*3+j) v=Vn t++(c3 l).set (i*3+j) v:=fun j v=>by
    rw[List.set_append_right _ _ (by simp[Vn];omega)];congr 2
    simp[Vn];omega
   have e0:=fun v=>e 0 v
   simp only[Nat.add_zero]at e0;simp only[c3,e0,e 1,e 2,List.set_cons_succ,List.getElem_cons_succ];exact⟨by rw[h1.1],by rw[h1.2.1],by rw[h1.2.2]⟩
namespace Bm
def nW(ls:List Nat)(log:Nat):List Cel:=(List.range (2^log)).map fun p=>(bf ls log p,aB ls log p,aT ls log p)
def ph1(ls:List Nat)(log K:Nat):List Cel:=(List.range (2^log)).map fun p=>((if NH log p<K then bf ls log p else 0),0,0)
theorem Ad(ls:List Nat)(log:Nat):(nW ls log).length=2^log:=by simp[nW]
theorem nE(ls:List Nat)(log K:Nat):(ph1 ls log K).length=2^log:=by simp[ph1]
theorem KP(ls:List Nat)(log p:Nat)(h:p<(nW ls log).length):(nW ls log)[p]=(bf ls log p,aB ls log p,aT ls log p):=by simp[nW]
theorem Xd(ls:List Nat)(log:Nat):ph1 ls log 0=List.replicate (2^log) (0,0,0):=by
 unfold ph1;simp only[Nat.not_lt_zero,if_false];rw[List.map_const',List.length_range]
theorem Xc(ls:List Nat)(log K s:Nat)(h5:5≤log)(h9:log≤9)(hK:K<2^log)(hs:(dH 0 ls)[K]?=some s) :
  ∃h:rQ log K<(ph1 ls log K).length,ph1 ls log (K+1)=(ph1 ls log K).set (rQ log K) (s,(ph1 ls log K)[rQ log K].2):=by
 have hp:=RN log K;refine⟨by rw[nE];exact hp,?_⟩;have hi:=inv_pos log K h5 h9 hK;apply List.ext_getElem
 ·simp[nE]
 ·intro p h1 h2;have hpp:p<2^log:=by rw[nE]at h1;exact h1
  rw[List.getElem_set];simp only[ph1,List.getElem_map,List.getElem_range];by_cases e:rQ log K=p
  ·subst e;rw[if_pos rfl,hi,if_pos (by omega)];unfold bf;rw[hi,hs];rfl
  ·rw[if_neg e];have hne:NH log p≠K:=fun h=>e (by rw[←h];exact Gm log p h5 h9 hpp)
   by_cases hlt:NH log p<K
   ·rw[if_pos hlt,if_pos (by omega)]
   ·rw[if_neg hlt,if_neg (by omega)]
theorem GN(ls:List Nat)(log p:Nat)(hp:p<2^log)(h:p<(tab ls log).length):(tab ls log)[p]=bf ls log p:=by
 have:=oW ls log p hp;rw[List.getElem?_eq_getElem h]at this;injection this
end Bm
theorem abJ(n:Nat):(madeCells #[Value.int .u8 0,.int .i64 0,.int .i64 0] (n*3)).toList=c3 (List.replicate n (0,0,0)):=by
 apply List.ext_getElem
 ·simp[madeCells,OX]
 ·intro i h1 h2;have hi:i<n*3:=by simpa [madeCells]using h1
  have hq:i/3<(List.replicate n ((0,0,0):Cel)).length:=by simp;omega
  obtain⟨e0,e1,e2⟩:=OW (List.replicate n (0,0,0)) (i/3) hq;rw[List.getElem_replicate]at e0 e1 e2;have hl:(madeCells #[Value.int .u8 0,.int .i64 0,.int .i64 0] (n*3)).toList[i]=(#[Value.int .u8 0,.int .i64 0,.int .i64 0]:Array Value)[i%3]!:=by simp[madeCells]
  have hr:i%3=0∨i%3=1∨i%3=2:=by omega
  rw[hl,←Option.some_inj,←List.getElem?_eq_getElem h2];rcases hr with h | h | h
  ·rw[h,show i=i/3*3 by omega,e0];rfl
  ·rw[h,show i=i/3*3+1 by omega,e1];rfl
  ·rw[h,show i=i/3*3+2 by omega,e2];rfl
theorem Qu:(prog.info? 248).map (fun i=>(i.zero,i.size,i.bytes))=some (some (.agg #[.int .u8 0,.int .i64 0,.int .i64 0]),3,24):=by kernel_rfl
namespace Bm
theorem Ky(ls:List Nat)(log st s p:Nat)(h:jJ ls log st s=some p):p<2^log∧leads ls log st s p:=by
 unfold jJ at h;have h1:=List.find?_some h;have h2:=List.mem_range.1 (List.mem_of_find?_eq_some h);exact⟨h2,of_decide_eq_true h1⟩
end Bm
theorem aeA(l:List Cel)(i s B Z:Nat)(h:i<l.length)(hl:l[i]=(s,0,0)):((c3 l).set (i*3+1) (.int .i64 (B:Int))).set (i*3+2) (.int .i64 (Z:Int))=c3 (l.set i (s,B,Z)):=by
 have h1:=(OY l i h 0 B 0).2.1;rw[hl]at h1;rw[h1];have hl2:i<(l.set i (s,B,0)).length:=by simpa using h
 have h2:=(OY (l.set i (s,B,0)) i hl2 0 0 Z).2.2;rw[List.getElem_set_self,List.set_set]at h2;exact h2
namespace Bm
theorem PK(l:List Int)(log:Int)(h:Fair l log):bL (l.map Int.toNat) log.toNat:=by
 obtain⟨h1,h2,h3,h4,h5⟩:=h;have hs:∀l:List Int,(∀x∈l,0≤x∧x≤1000)→(((l.map Int.toNat).sum:Nat):Int)=l.sum:=fun l=>by
  induction l with
  | nil=>simp
  | cons a l ih=>
   intro hh;have:=hh a List.mem_cons_self;rw[List.map_cons,List.sum_cons,List.sum_cons,Int.natCast_add,ih (fun x hx=>hh x (List.mem_cons_of_mem _ hx))];omega
 refine⟨by omega,by omega,by simpa using h3,?_⟩;have:=hs l h4;rw[h5]at this;exact Int.ofNat_inj.1 this
theorem IQ(l:List Int)(log:Int)(h:Fair l log):(l.map Int.toNat).map (fun n:Nat=>(n:Int))=l:=by
 rw[List.map_map];have:∀l:List Int,(∀x∈l,0≤x∧x≤1000)→l.map ((fun n:Nat=>(n:Int)) ∘ Int.toNat)=l:=fun l=>by
  induction l with
  | nil=>simp
  | cons a l ih=>
   intro hh;have:=hh a List.mem_cons_self;rw[List.map_cons,ih (fun x hx=>hh x (List.mem_cons_of_mem _ hx))];congr 1
   simp only[Function.comp_apply];omega
 exact this l h.2.2.2.1
def tV(ls:List Nat)(log:Nat)(st:Int):Cel:=if 0≤st∧st<((2^log:Nat):Int)then(bf ls log st.toNat,aB ls log st.toNat,aT ls log st.toNat)else(0,0,0)
def AR(ls:List Nat)(log:Nat)(st more:Int):Bool:=decide (0≤st∧st<((2^log:Nat):Int)∧0≤more∧more<((2^aB ls log st.toNat:Nat):Int))
def Dr(ls:List Nat)(log:Nat)(st more:Int):Int:=if AR ls log st more then(aT ls log st.toNat:Int)+more else 0
def Cb(ls:List Nat)(log:Nat)(st:Int)(s:Nat):Option (Nat×Nat×Nat):=
 if 0≤st∧st<((2^log:Nat):Int)then(jJ ls log st.toNat s).map fun p=>(p,st.toNat-aT ls log p,aB ls log p)else none
end Bm
def KN(t:Cel):Value:=.agg #[.int .u8 (t.1:Int),.int .i64 (t.2.1:Int),.int .i64 (t.2.2:Int)]
def Vb:Option (Nat×Nat×Nat)→Value
 | none=>.tuple #[.int .i64 0,.int .i64 0,.int .i64 0,.bool false]
 | some (p,v,k)=>.tuple #[.int .i64 (p:Int),.int .i64 (v:Int),.int .i64 (k:Int),.bool true]
structure ahn(TB:World→Addr→List Nat→Nat→Prop):Prop where
 keep:∀w W p ls log,TB w p ls log→Below w.heap.size w W→TB W p ls log
 build:∀(A:Option Addr) (c:Nat) (l:List Int) (log:Int) (w:World),l.length≤1000000→(∀x∈l,bM x)→bM log→Reads w A (lQ l)→Bm.Fair l log →
  Calls prog 165 #[.slice A l.length c,.int .i64 log] w fun e w'=>∃p,e=.returned (.tuple #[.pointer (some p),.bool true])∧TB w' p (l.map Int.toNat) log.toNat∧Below w.heap.size w w'
 abR:∀(A:Option Addr) (c:Nat) (l:List Int) (log:Int) (w:World),l.length≤1000000→(∀x∈l,bM x)→bM log→Reads w A (lQ l)→¬Bm.Fair l log →
  Calls prog 165 #[.slice A l.length c,.int .i64 log] w fun e w'=>e=.returned (.tuple #[.pointer none,.bool false])∧Below w.heap.size w w'
 cell:∀(w:World) (p:Addr) (ls:List Nat) (log:Nat) (st:Int),bL ls log→TB w p ls log→bM st →
  Calls prog 234 #[.pointer (some p),.int .i64 st] w fun e w'=>e=.returned (.tuple #[KN (tV ls log st),.bool (decide (0≤st∧st<((2^log:Nat):Int)))])∧Below w.heap.size w w'
 aaC:∀(w:World) (st:Int),bM st→Calls prog 234 #[.pointer none,.int .i64 st] w fun e w'=>e=.returned (.tuple #[KN (0,0,0),.bool false])∧Below w.heap.size w w'
 size:∀(w:World) (p:Addr) (ls:List Nat) (log:Nat),bL ls log→TB w p ls log→Calls prog 213 #[.pointer (some p)] w fun e w'=>e=.returned (.int .i64 ((2^log:Nat):Int))∧∃m,w'=w.drewN m
 acF:∀w:World,Calls prog 213 #[.pointer none] w fun e w'=>e=.returned (.int .i64 0)∧∃m,w'=w.drewN m
 ahS:∀(w:World) (p:Addr) (ls:List Nat) (log:Nat),bL ls log→TB w p ls log→Calls prog 216 #[.pointer (some p)] w fun e w'=>e=.returned (.int .i64 (log:Int))∧∃m,w'=w.drewN m
 afz:∀w:World,Calls prog 216 #[.pointer none] w fun e w'=>e=.returned (.int .i64 0)∧∃m,w'=w.drewN m
 next:∀(w:World) (p:Addr) (ls:List Nat) (log:Nat) (st more:Int),bL ls log→TB w p ls log→bM st→bM more →
  Calls prog 235 #[.pointer (some p),.int .i64 st,.int .i64 more] w fun e w'=>e=.returned (.tuple #[.int .i64 (Dr ls log st more),.bool (AR ls log st more)])∧Below w.heap.size w w'
 back:∀(w:World) (p:Addr) (ls:List Nat) (log:Nat) (st:Int) (s:Nat),bL ls log→TB w p ls log→bM st→s<256 →
  Calls prog 215 #[.pointer (some p),.int .i64 st,.int .u8 (s:Int)] w fun e w'=>e=.returned (Vb (Cb ls log st s))∧Below w.heap.size w w'
theorem mE(ls:List Nat)(log:Nat)(b:List Nat)(h:Bm.encR ls log b=none):∀a:List Nat,Bm.encR ls log (a++b)=none
 | []=>h
 | x :: a=>by
  rw[List.cons_append];simp only[Bm.encR];rw[mE ls log b h a];rfl
theorem DT{w:World}{A:Option Addr}{xs:List Value}{p:Addr}{u:Value}(h:Reads w A xs)(hA:∀a,A=some a→a.block≠p.block):Reads (w.setCell p u) A xs:=fun hx=>by
 obtain⟨g,off,e,hc⟩:=h hx;refine⟨g,off,e,fun j hj=>?_⟩;rw[World.cell?_of_block (a:=⟨g,off+j,none⟩) (Below.heap_setCell w p u g (hA _ e))];exact hc j hj
theorem AZ{w:World}{base n c:Nat}{A:Option Addr}{e:TypeId}{xs:List Value}(h:w.ownsRow base e 1 (.slice A n c) n xs):n≤c∧c≤maxLen:=by
 rcases h.2 with⟨hv,h0⟩ | ⟨g',cap',cur,hv,hb,hh,h1,h2,_⟩
 ·injection hv with _ _ e3
  subst h0 e3;exact⟨Nat.le_refl _,by unfold maxLen;omega⟩
 ·injection hv with _ _ e3
  subst e3;exact⟨h1,h2⟩
namespace Bm
def jl(ls:List Nat)(lg:Nat):Nat×Nat:=(lg-5+(gG ls (2^lg)).1*2^3,3+(gG ls (2^lg)).2)
def takeA(N len:Nat):Option (List Nat×Nat×Nat):=
 if len<3 then none else if 4<N%2^3 then none else(takeN 256 (2^(5+N%2^3)) (N/2^3) (len-3)).map fun t=>(t.1,5+N%2^3,t.2)
theorem abb(ls:List Nat)(lg:Nat)(h:bL ls lg):(jl ls lg).1<2^(jl ls lg).2:=by
 have h1:=Zk ls (2^lg) (Nat.le_of_eq h.sum);have h9:=h.high;unfold jl;dsimp only;generalize (gG ls (2^lg)).1=A at h1 ⊢;generalize (gG ls (2^lg)).2=k at h1 ⊢;rw[Nat.pow_add];have:A*2^3+2^3≤2^3*2^k:=by
  have h2:=Nat.mul_le_mul_right (2^3) h1;rw[Nat.succ_mul,Nat.mul_comm (2^k)]at h2;exact h2
 omega
theorem IX:∀(l:List Nat) (rest:Nat),rest≤512→(gG l rest).2≤10*l.length
 | [],rest,_=>by simp[gG]
 | n :: l,rest,h=>by
  unfold gG;split
  ·simp
  ·have h1:=IX l (rest-n) (by omega);have h2:=eB rest 10 (by omega);rw[List.length_cons];dsimp only;omega
theorem CX(ls:List Nat)(lg:Nat)(h:bL ls lg):3≤(jl ls lg).2∧(jl ls lg).2≤3000:=by
 have hP:=Nat.pow_le_pow_right (n:=2) (j:=9) (by omega) h.high;have h1:=IX ls (2^lg) (by omega);have h2:=h.len;unfold jl;dsimp only;omega
theorem TL(ls:List Nat)(lg X m:Nat)(h:bL ls lg):takeA ((jl ls lg).1+X*2^(jl ls lg).2) ((jl ls lg).2+m)=some (aI ls,lg,m):=by
 have h5:=h.low;have h9:=h.high;have ht:=Kk ls (2^lg) X m 256 h.sum h.len;unfold jl;dsimp only;generalize (gG ls (2^lg)).1=A at ht ⊢;generalize (gG ls (2^lg)).2=k at ht ⊢;have e:lg-5+A*2^3+X*2^(3+k)=(lg-5)+(A+X*2^k)*2^3:=by
  rw[Nat.pow_add,Nat.add_mul,Nat.mul_assoc X,Nat.mul_comm (2^3) (2^k),Nat.add_assoc]
 have hm:(lg-5+(A+X*2^k)*2^3)%2^3=lg-5:=by rw[Nat.add_mul_mod_self_right];exact Nat.mod_eq_of_lt (by omega)
 have hd:(lg-5+(A+X*2^k)*2^3)/2^3=A+X*2^k:=by
  rw[Nat.add_mul_div_right _ _ (by omega),Nat.div_eq_of_lt (by omega),Nat.zero_add]
 unfold takeA;rw[e,hm,hd,if_neg (by omega),if_neg (by omega),show 5+(lg-5)=lg by omega,show 3+k+m-3=k+m by omega,ht];rfl
theorem sw(N len:Nat)(l:List Nat)(lg e:Nat)(h:takeA N len=some (l,lg,e)):bL l lg∧e+3≤len:=by
 unfold takeA at h;split at h
 ·cases h
 ·split at h
  ·cases h
  ·next h3 h4=>
   cases hr:takeN 256 (2^(5+N%2^3)) (N/2^3) (len-3)with
   | none=>rw[hr]at h;cases h
   | some t=>
    rw[hr,Option.map_some]at h;injection h with h
    injection h with e1 h
    injection h with e2 e3
    subst e1 e2 e3;obtain⟨k1,k2,k3⟩:=El _ _ _ _ _ _ hr;exact⟨⟨by omega,by omega,k2,k1⟩,by omega⟩
theorem La(l:List Nat)(lg:Nat)(h:bL l lg):Fair (l.map (fun n:Nat=>(n:Int))) (lg:Int):=by
 have hsum:∀l:List Nat,(l.map (fun n:Nat=>(n:Int))).sum=((l.sum:Nat):Int):=fun l=>by
  induction l with
  | nil=>simp
  | cons a l ih=>rw[List.map_cons,List.sum_cons,ih,List.sum_cons];omega
 have hle:∀(l:List Nat) (x:Nat),x∈l→x≤l.sum:=fun l=>by
  induction l with
  | nil=>intro x h;cases h
  | cons a l ih=>
   intro x hx;rw[List.sum_cons];rcases List.mem_cons.1 hx with rfl | hx
   ·omega
   ·have:=ih x hx;omega
 have h5:=h.low;have h9:=h.high;have hP:=Nat.pow_le_pow_right (n:=2) (j:=9) (by omega) h9;refine⟨by omega,by omega,by rw[List.length_map];exact h.len,?_,by rw[hsum,h.sum,Int.toNat_natCast]⟩;intro x hx;obtain⟨y,hy,rfl⟩:=List.mem_map.1 hx;have h1:=hle l y hy;rw[h.sum]at h1;omega
def sizedB(log:Int):Bool:=decide (5≤log∧log≤9)
end Bm
theorem zl(log:Int)(w:World):Calls prog 192 #[.int .i64 log] w fun e w'=>e=.returned (.bool (Bm.sizedB log))∧w=w':=by
 by_cases h5:5≤log
 ·by_cases h9:log≤9
  ·have hs:Bm.sizedB log=true:=decide_eq_true ⟨h5,h9⟩;rw[hs];go_enter func192,ntmps192
   go_wp2;go_ret;exact⟨rfl,rfl⟩
  ·have hs:Bm.sizedB log=false:=decide_eq_false (fun h=>h9 h.2);have h9':decide (log≤9)=false:=by simpa using h9
   rw[hs];go_enter func192,ntmps192
   go_wp2;go_ret;exact⟨rfl,rfl⟩
 ·have hs:Bm.sizedB log=false:=decide_eq_false (fun h=>h5 h.1);have h5':decide (5≤log)=false:=by simpa using h5
  rw[hs];go_enter func192,ntmps192
  go_wp2;go_ret;exact⟨rfl,rfl⟩
theorem jk(x:Int)(h0:-9223372036854775808≤x)(h1:x≤9223372036854775807):wrap64 x=x:=by unfold wrap64;omega
namespace Bm
theorem Kg(l:List Int)(h:∀x∈l,0≤x):0≤l.sum:=by
 induction l with
 | nil=>simp
 | cons a l ih=>
  have h1:=ih (fun x hx=>h x (List.mem_cons_of_mem _ hx));have h2:=h a List.mem_cons_self;rw[List.sum_cons];omega
theorem GL(l:List Int)(k:Nat)(h:∀x∈l,0≤x):(l.take k).sum≤l.sum:=by
 have h1:=Kg (l.drop k) (fun x hx=>h x (List.mem_of_mem_drop hx));have h2:l.sum=(l.take k).sum+(l.drop k).sum:=by
  conv=>lhs;rw[←List.take_append_drop k l]
  rw[List.sum_append_int]
 omega
theorem FU(l:List Int)(h:∀x∈l,0≤x)(x:Int)(hx:x∈l):x≤l.sum:=by
 induction l with
 | nil=>cases hx
 | cons a l ih=>
  have h1:=Kg l (fun x hx=>h x (List.mem_cons_of_mem _ hx));have h2:=h a List.mem_cons_self;rw[List.sum_cons];rcases List.mem_cons.1 hx with rfl | hx
  ·omega
  ·have:=ih (fun x hx=>h x (List.mem_cons_of_mem _ hx)) hx;omega
theorem Gn(b:Nat)(h5:5≤b)(h9:b≤9):32≤2^b∧2^b≤512:=
 ⟨Nat.pow_le_pow_right (n:=2) (i:=5) (by omega) h5,Nat.pow_le_pow_right (n:=2) (j:=9) (by omega) h9⟩
end Bm
theorem vX(A:Option Addr)(c:Nat)(l:List Int)(log:Int)(w:World)(hl:l.length≤1000000)(hok:∀x∈l,bM x)(alp:bM log)(hr:Reads w A (lQ l)) :
  Calls prog 195 #[.slice A l.length c,.int .i64 log] w fun e w'=>e=.returned (.bool (Fh l log))∧Below w.heap.size w w':=by
 have Hr:=hid hr;obtain⟨r,hres⟩:∃r,r=Fh l log:=⟨_,rfl⟩;rw[←hres];have hno:∀P:Prop,(Bm.Fair l log→P)→¬P→false=r:=fun P h hp=>by
  rw[hres];symm;unfold Fh;exact decide_eq_false (fun h1=>hp (h h1))
 have Hno:=hid hno;have dQ:=hid hres;have Hok:=hid hok;have Hsz:=hid (zl log w);clear hr hres hno hok;by_cases hs:Bm.sizedB log=true
 ·obtain⟨h5,h9⟩:5≤log∧log≤9:=of_decide_eq_true hs;rw[hs]at Hsz;clear hs;by_cases h3:256<l.length
  ·have hf:false=r:=Hno.out (l.length≤256) (fun h=>h.2.2.1) (by omega);have h3':decide (256<l.length)=true:=decide_eq_true h3;rw[←hf];clear hf;go_enter func195,ntmps195
   go_wp2_with fail
   refine Hsz.out.mono ?_;rintro e w' ⟨rfl,rfl⟩;go_wp2;go_ret;exact⟨rfl,Below.refl _ _⟩
  have h3':decide (256<l.length)=false:=decide_eq_false h3;obtain⟨b,rfl⟩:=Int.eq_ofNat_of_zero_le (show 0≤log by omega);have hP:=Gn b (by omega) (by omega);have hpd:(2:Int)^b=((2^b:Nat):Int):=by simp
  obtain⟨P,hPe⟩:∃P,P=2^b:=⟨_,rfl⟩;rw[←hPe]at hP hpd;have HPe:=hid hPe;clear hPe;have hw:wrap64 (P:Int)=(P:Int):=jk _ (by omega) (by omega);go_enter func195,ntmps195
  go_wp2_with fail
  refine Hsz.out.mono ?_;rintro e w' ⟨rfl,rfl⟩;clear Hsz;go_wp2;clear hpd hw;go_loop [5,20] (fun q i=>∃k:Nat,k≤l.length∧i=.int .i64 (k:Int)∧q=.int .i64 ((P:Int)-(l.take k).sum)∧(l.take k).sum≤P∧∀x∈l.take k,0≤x) (fun _ i=>l.length-(intOf i).toNat)
  case atStart=>exact⟨0,by omega,rfl,by go_num,by simp,by simp⟩
  case round=>
   obtain⟨k,hk,rfl,rfl,hle,hall⟩:=hrel;by_cases hkl:k<l.length
   ·obtain⟨g,off,rfl,hc⟩:=nG Hr.out (by omega);have c0:=hc k hkl;have h0:=Kg _ hall;have hzb:=Hok.out _ (List.getElem_mem hkl);have Hs:=hid (Ye l k hkl);have Ha:=hid (Iq (fun x=>0≤x) l k hkl hall);have Hm:=hid (List.getElem_mem hkl);unfold bM at hzb;clear hc hall dQ;have Htk:Hid (Bm.Fair l (b:Int)→(l.take (k+1)).sum≤P):=hid (fun h=>by
     have h1:=GL l (k+1) (fun x hx=>(h.2.2.2.1 x hx).1);have h2:=h.2.2.2.2;rw[Int.toNat_natCast,←HPe.out]at h2;omega)
    generalize (l.take k).sum=m at hle h0 Hs ⊢;generalize l[k]=z at c0 Hs Ha Hm hzb;by_cases hz:z<0
    ·have hf:false=r:=Hno.out (0≤z) (fun h=>(h.2.2.2.1 z Hm.out).1) (by omega);have Hf:=hid hf;clear hf;go_wp2;go_ret;exact⟨congrArg (fun x=>Ending.returned (Value.bool x)) Hf.out,Below.refl _ _⟩
    have hz0:decide (z<0)=false:=decide_eq_false hz;by_cases hz2:(P:Int)-m<z
    ·have hf:false=r:=Hno.out (m+z≤P) (fun h=>by rw[←Hs.out];exact Htk.out h) (by omega);have Hf:=hid hf;have hz3:decide ((P:Int)-m<z)=true:=decide_eq_true hz2;clear hf;go_wp2;go_ret;exact⟨congrArg (fun x=>Ending.returned (Value.bool x)) Hf.out,Below.refl _ _⟩
    have hz3:decide ((P:Int)-m<z)=false:=decide_eq_false hz2;go_wp2;go_round
    case rel=>exact⟨k+1,by omega,by go_num,by rw[Hs.out];go_num,by rw[Hs.out];omega,Ha.out (by omega)⟩
    case measure=>simp[intOf];omega
   ·obtain rfl:k=l.length:=by omega
    rw[List.take_length]at hall hle ⊢;have h0:=Kg _ hall;have hres:((P:Int)-l.sum == 0)=r:=by
     rw[dQ.out];unfold Fh;rw[Bool.eq_iff_iff,beq_iff_eq,decide_eq_true_iff];constructor
     ·intro h;refine⟨by omega,by omega,by omega,fun x hx=>⟨hall x hx,?_⟩,?_⟩
      ·have:=FU l hall x hx;omega
      ·rw[Int.toNat_natCast,←HPe.out];omega
     ·intro h;have h2:=h.2.2.2.2;rw[Int.toNat_natCast,←HPe.out]at h2;omega
    have lU:=hid hres;clear Hr Hno dQ hall hres;generalize l.sum=q at lU h0 hle ⊢;go_wp2;go_ret;exact⟨congrArg (fun x=>Ending.returned (Value.bool x)) lU.out,Below.refl _ _⟩
 ·have hs0:Bm.sizedB log=false:=by simpa using hs
  have hf:false=r:=Hno.out (5≤log∧log≤9) (fun h=>⟨h.1,h.2.1⟩) (fun h=>hs (decide_eq_true h));rw[hs0]at Hsz;clear hs hs0;rw[←hf];clear hf;go_enter func195,ntmps195
  go_wp2_with fail
  refine Hsz.out.mono ?_;rintro e w' ⟨rfl,rfl⟩;go_wp2;go_ret;exact⟨rfl,Below.refl _ _⟩
theorem Bd{w:World}{A:Option Addr}{l:List Nat}(h:Reads w A (aM l))(hne:0<l.length):∃g off,A=some ⟨g,off,none⟩∧∀j (hj:j<l.length),w.cell? ⟨g,off+j,none⟩=some (.int .i64 (l[j]:Int)):=by
 have hne':aM l≠[]:=fun e=>by
  have h1:=congrArg List.length e;rw[aL,List.length_nil]at h1;omega
 obtain⟨g,off,e,hc⟩:=h hne';exact⟨g,off,e,fun j hj=>by rw[hc j (by rw[aL];exact hj),bK l j hj]⟩
theorem jF(A:Option Addr)(c:Nat)(l:List Int)(w:World)(hl:l.length≤1000000000)(hr:Reads w A (lQ l)) :
  Calls prog 65 #[.slice A l.length c] w fun e w'=>e=.returned (.int .i64 (kH l:Int))∧w=w':=by
 have Hr:=hid hr;obtain⟨r,hres⟩:∃r,r=kH l:=⟨_,rfl⟩;rw[←hres];have dQ:=hid hres;clear hr hres;go_enter func65,ntmps65
 go_wp2;go_loop [3,8] (fun n i=>∃k:Nat,k≤l.length∧i=.int .i64 (k:Int)∧n=.int .i64 (kH (l.take k):Int)) (fun _ i=>l.length-(intOf i).toNat)
 case atStart=>exact⟨0,by omega,rfl,rfl⟩
 case round=>
  obtain⟨k,hk,rfl,rfl⟩:=hrel;by_cases hkl:k<l.length
  ·obtain⟨g,off,rfl,hc⟩:=nG Hr.out (by omega);have c0:=hc k hkl;have hs:=TD l k hkl;have hle:=Br (l.take k);rw[List.length_take,Nat.min_eq_left (by omega)]at hle;have Hs:=hid hs;clear hc hs;generalize kH (l.take k)=m at hle Hs ⊢;generalize l[k]=z at c0 Hs;by_cases hz:0<z
   ·go_wp2;go_round
    case rel=>exact⟨k+1,by omega,by go_num,by rw[Hs.out,if_pos hz];go_num⟩
    case measure=>simp[intOf];omega
   ·go_wp2;go_round
    case rel=>exact⟨k+1,by omega,by go_num,by rw[Hs.out,if_neg hz];go_num⟩
    case measure=>simp[intOf];omega
  ·obtain rfl:k=l.length:=by omega
   rw[List.take_length,←dQ.out];clear Hr;go_wp2;go_ret;exact⟨rfl,rfl⟩
theorem FZ:UA:=fun A c l w hl hr=>(jF A c l w (by omega) hr).mono fun _ w' ⟨he,hw⟩=>⟨he,by subst hw;exact Below.refl _ _⟩
namespace Bm
theorem Sw(l:List Int):Right l↔l.length≤256∧(∀x∈l,0≤x∧x≤1048576)∧0<kH l:=by
 unfold Right kH;rw[List.countP_pos_iff];simp
def lG(l:List Int):Bool:=decide (Right l)
end Bm
theorem rG(A:Option Addr)(c:Nat)(l:List Int)(w:World)(hl:l.length≤1000000000)(hr:Reads w A (lQ l)) :
  Calls prog 136 #[.slice A l.length c] w fun e w'=>e=.returned (.bool (lG l))∧w=w':=by
 have Hr:=hid hr;have Hsy:=hid (jF A c l w hl hr);obtain⟨r,hres⟩:∃r,r=lG l:=⟨_,rfl⟩;rw[←hres];have hno:∀P:Prop,(Bm.Right l→P)→¬P→false=r:=fun P h hp=>by
  rw[hres];symm;unfold lG;exact decide_eq_false (fun h1=>hp (h h1))
 have Hno:=hid hno;have dQ:=hid hres;clear hr hres hno;by_cases h3:256<l.length
 ·have hf:false=r:=Hno.out (l.length≤256) (fun h=>h.1) (by omega);rw[←hf];go_enter func136,ntmps136
  go_wp2;go_ret;exact⟨rfl,rfl⟩
 go_enter func136,ntmps136
 go_wp2;go_loop [10] (fun i=>∃k:Nat,k≤l.length∧i=.int .i64 (k:Int)∧∀x∈l.take k,0≤x∧x≤1048576) (fun i=>l.length-(intOf i).toNat)
 case atStart=>exact⟨0,by omega,rfl,by simp⟩
 case round=>
  obtain⟨k,hk,rfl,hall⟩:=hrel;by_cases hkl:k<l.length
  ·obtain⟨g,off,rfl,hc⟩:=nG Hr.out (by omega);have c0:=hc k hkl;have Ha:=hid (Iq (fun x=>0≤x∧x≤1048576) l k hkl hall);have Hm:=hid (List.getElem_mem hkl);clear hc hall dQ Hsy;generalize l[k]=z at c0 Ha Hm;by_cases hz:z<0
   ·have hf:false=r:=Hno.out (0≤z) (fun h=>(h.2.1 z Hm.out).1) (by omega);have Hf:=hid hf;clear hf;go_wp2;go_ret;exact⟨congrArg (fun x=>Ending.returned (Value.bool x)) Hf.out,rfl⟩
   by_cases hz2:1048576<z
   ·have hf:false=r:=Hno.out (z≤1048576) (fun h=>(h.2.1 z Hm.out).2) (by omega);have Hf:=hid hf;clear hf;go_wp2;go_ret;exact⟨congrArg (fun x=>Ending.returned (Value.bool x)) Hf.out,rfl⟩
   go_wp2;go_round
   case rel=>exact⟨k+1,by omega,by go_num,Ha.out (by omega)⟩
   case measure=>simp[intOf];omega
  ·obtain rfl:k=l.length:=by omega
   rw[List.take_length]at hall;have hres:decide (0<kH l)=r:=by
    rw[dQ.out];unfold lG;rw[decide_eq_decide,Sw];exact⟨fun h=>⟨by omega,hall,h⟩,fun h=>h.2.2⟩
   clear Hr Hno dQ hall;generalize kH l=q at hres Hsy;have agY:=hid Hsy.out;clear Hsy;go_wp2_with fail
   refine agY.out.mono ?_;rintro e w' ⟨rfl,rfl⟩;go_wp2;go_ret;exact⟨congrArg (fun x=>Ending.returned (Value.bool x)) (by simp),rfl⟩
theorem rH(A:Option Addr)(c:Nat)(l:List Nat)(w:World)(hl:l.length≤1000000000)(hs:l.sum≤1000000000000)(hr:Reads w A (aM l)) :
  Calls prog 191 #[.slice A l.length c] w fun e w'=>e=.returned (.int .i64 (l.sum:Int))∧w=w':=by
 have Hr:=hid hr;obtain⟨r,hres⟩:∃r,r=l.sum:=⟨_,rfl⟩;rw[←hres]at hs ⊢;have dQ:=hid hres;clear hr hres;go_enter func191,ntmps191
 go_wp2;go_loop [3,8] (fun n i=>∃k:Nat,k≤l.length∧i=.int .i64 (k:Int)∧n=.int .i64 ((l.take k).sum:Int)) (fun _ i=>l.length-(intOf i).toNat)
 case atStart=>exact⟨0,by omega,rfl,rfl⟩
 case round=>
  obtain⟨k,hk,rfl,rfl⟩:=hrel;by_cases hkl:k<l.length
  ·obtain⟨g,off,rfl,hc⟩:=Bd Hr.out (by omega);have c0:=hc k hkl;have h1:(l.take (k+1)).sum=(l.take k).sum+l[k]:=by
    rw[List.take_succ_eq_append_getElem hkl,List.sum_append_nat,List.sum_singleton]
   have h2:(l.take (k+1)).sum≤r:=by
    rw[dQ.out];conv=>rhs;rw[←List.take_append_drop (k+1) l]
    rw[List.sum_append_nat];omega
   rw[h1]at h2;have Hs:=hid h1;clear hc h1;generalize (l.take k).sum=m at h2 Hs ⊢;generalize l[k]=z at c0 h2 Hs;go_wp2;go_round
   case rel=>exact⟨k+1,by omega,by go_num,by rw[Hs.out];go_num⟩
   case measure=>simp[intOf];omega
  ·obtain rfl:k=l.length:=by omega
   rw[List.take_length,←dQ.out];clear Hr;go_wp2;go_ret;exact⟨rfl,rfl⟩
theorem qc(A:Option Addr)(c:Nat)(l:List Nat)(w:World)(hl:l.length≤1000000000)(hm:∀x∈l,x≤1000000000000)(hr:Reads w A (aM l)) :
  Calls prog 194 #[.slice A l.length c] w fun e w'=>e=.returned (.int .i64 (aG l:Int))∧w=w':=by
 have Hr:=hid hr;have Hm:=hid hm;obtain⟨r,hres⟩:∃r,r=aG l:=⟨_,rfl⟩;rw[←hres];have dQ:=hid hres;clear hr hres hm;go_enter func194,ntmps194
 go_wp2;go_loop [3,8] (fun n i=>∃k:Nat,k≤l.length∧i=.int .i64 (k:Int)∧n=.int .i64 (aG (l.take k):Int)) (fun _ i=>l.length-(intOf i).toNat)
 case atStart=>exact⟨0,by omega,rfl,rfl⟩
 case round=>
  obtain⟨k,hk,rfl,rfl⟩:=hrel;by_cases hkl:k<l.length
  ·obtain⟨g,off,rfl,hc⟩:=Bd Hr.out (by omega);have c0:=hc k hkl;have hz0:=Hm.out l[k] (List.getElem_mem hkl);have hx:∃f,f=aG (l.take k)∧f<l.length∧f≤k∧∃y:Nat,y≤1000000000000∧w.cell? ⟨g,off+f,none⟩=some (.int .i64 (y:Int))∧aG (l.take (k+1))=if y<l[k]then k else f:=by
    refine⟨_,rfl,?_⟩;rcases Nat.eq_zero_or_pos k with h0 | h0
    ·subst h0;refine⟨by simpa [aG]using hkl,by simp[aG],l[0],Hm.out _ (List.getElem_mem hkl),by simpa [aG]using hc 0 hkl,?_⟩;rw[if_neg (by omega),List.take_succ_eq_append_getElem hkl];simp[aG,qN]
    ·have hne:l.take k≠[]:=fun e=>by
      have h1:=congrArg List.length e;rw[List.length_take,List.length_nil]at h1;omega
     have hlt:=iX _ hne;have hlt2:=hlt;rw[List.length_take]at hlt2;have hg:=iy _ hlt;rw[List.getElem_take]at hg;have h1:=hc (aG (l.take k)) (by omega);rw[hg]at h1;refine⟨by omega,by omega,qN (l.take k),?_,h1,?_⟩
     ·rw[←hg];exact Hm.out _ (List.getElem_mem _)
     ·rw[List.take_succ_eq_append_getElem hkl,Aq _ _ hne,List.length_take,Nat.min_eq_left (by omega)]
   obtain⟨f,hf,hfl,hfk,y,hy,c1,hn⟩:=hx;rw[←hf];have Hn:=hid hn;clear hc hn hf;generalize l[k]=z at c0 Hn hz0;by_cases hyz:y<z
   ·have hb:decide (y<z)=true:=decide_eq_true hyz;rw[if_pos hyz]at Hn;go_wp2;go_round
    case rel=>exact⟨k+1,by omega,by go_num,by rw[Hn.out]⟩
    case measure=>simp[intOf];omega
   ·have hb:decide (y<z)=false:=decide_eq_false hyz;rw[if_neg hyz]at Hn;go_wp2;go_round
    case rel=>exact⟨k+1,by omega,by go_num,by rw[Hn.out]⟩
    case measure=>simp[intOf];omega
  ·obtain rfl:k=l.length:=by omega
   rw[List.take_length,←dQ.out];clear Hr;go_wp2;go_ret;exact⟨rfl,rfl⟩
namespace Bm
theorem Cv(p:Int→Bool)(l:List Int)(i j:Nat)(hij:i<j)(hj:j<l.length)(hi:p l[i]=true)(hp:p l[j]=true):2≤l.countP p:=by
 have e:l=l.take j++l[j] :: l.drop (j+1):=by rw[←List.drop_eq_getElem_cons hj,List.take_append_drop]
 have h1:0<(l.take j).countP p:=by
  refine List.countP_pos_iff.2 ⟨l[i],?_,hi⟩;have hil:i<(l.take j).length:=by rw[List.length_take];omega
  have:=List.getElem_mem hil;rwa [List.getElem_take]at this
 have h2:=congrArg (List.countP p) e;rw[List.countP_append,List.countP_cons,if_pos hp]at h2;omega
theorem pR(s:List Nat)(b:Nat)(hb:b∈s):∃h:b<(aF s).length,0<(aF s)[b]:=by
 have ht:=jG s b hb;refine⟨by rw[bI];exact ht,?_⟩;have:(aF s)[b]'(by rw[bI];exact ht)=((s.count b:Nat):Int):=by simp[aF,aR]
 rw[this];have:=List.count_pos_iff.2 hb;omega
theorem vZ(s:List Nat)(h:kH (aF s)=1):∃x,s=List.replicate s.length x∧0<s.length:=by
 cases s with
 | nil=>simp[aF,aR,iD,kH]at h
 | cons x r=>
  refine⟨x,?_,by simp⟩;rw[List.eq_replicate_iff];refine⟨rfl,fun b hb=>?_⟩;rcases Nat.lt_trichotomy b x with hlt | he | hgt
  ·exfalso
   obtain⟨h1,h2⟩:=pR (x :: r) b hb;obtain⟨h3,h4⟩:=pR (x :: r) x List.mem_cons_self;have:=Cv (fun z=>decide (0<z)) (aF (x :: r)) b x hlt h3 (decide_eq_true h2) (decide_eq_true h4);unfold kH at h;omega
  ·exact he
  ·exfalso
   obtain⟨h1,h2⟩:=pR (x :: r) b hb;obtain⟨h3,h4⟩:=pR (x :: r) x List.mem_cons_self;have:=Cv (fun z=>decide (0<z)) (aF (x :: r)) x b hgt h1 (decide_eq_true h4) (decide_eq_true h2);unfold kH at h;omega
theorem TT:∀bs:List Nat,0<iD bs→∃b∈bs,iD bs=b+1
 | [],h=>by simp[iD]at h
 | b :: bs,_=>by
  by_cases h:iD bs≤b+1
  ·exact⟨b,List.mem_cons_self,by rw[iD,Nat.max_eq_left h]⟩
  ·obtain⟨x,hx,e⟩:=TT bs (by omega);exact⟨x,List.mem_cons_of_mem _ hx,by rw[iD,Nat.max_eq_right (by omega),e]⟩
theorem yM(s:List Nat)(b:Nat)(h:b∈s):0<(aR s)[b]?.getD 0:=by
 unfold aR;rw[List.getElem?_map,List.getElem?_range (jG s b h)];exact List.count_pos_iff.2 h
theorem ng(s:List Nat):(aR s).length=iD s:=by simp[aR]
theorem EZ(s:List Nat):(aF s).map Int.toNat=aR s:=by
 unfold aF;rw[List.map_map];conv=>rhs;rw[←List.map_id (aR s)]
 exact List.map_congr_left fun x _=>rfl
end Bm
theorem vY(A:Option Addr)(c:Nat)(s:List Nat)(w:World)(hlt:∀x∈s,x<256)(hr:Reads w A (aM (aR s))) :
  Calls prog 65 #[.slice A (iD s) c] w fun e w'=>e=.returned (.int .i64 (kH (aF s):Int))∧Below w.heap.size w w':=by
 have ht:=jO s hlt;have h:=FZ A c (aF s) w (by rw[bI];omega) (by unfold aF;rw[bJ];exact hr);rw[bI]at h;exact h
end Go.Proofs.YtgiicohbigiapaaGreat
namespace Go.Proofs.YtgiicohbigiapaaGreat.Bm
def Oc(l:List Int):Prop:=l.length≤256∧∀x∈l,0≤x∧x≤11
instance (l:List Int):Decidable (Oc l):=by unfold Oc;exact inferInstance
def dB(n:Nat):Nat:=if n=0 then 0 else 2^(11-n)
def krN(l:List Nat):Nat:=(l.map dB).sum
def ji(l:List Nat):Nat:=l.countP fun n=>decide (0<n)
def bC(l:List Nat):Prop:=l.length≤256∧(∀x∈l,x≤11)∧(krN l=2048∨(ji l=1∧krN l=1024))
instance (l:List Nat):Decidable (bC l):=by unfold bC;exact inferInstance
def jw(l:List Int):Prop:=Oc l∧bC (l.map Int.toNat)
instance (l:List Int):Decidable (jw l):=by unfold jw;exact inferInstance
theorem Aw(l:List Int)(h:Oc l):l=(l.map Int.toNat).map (fun n:Nat=>(n:Int))∧(∀x∈l.map Int.toNat,x≤11)∧(l.map Int.toNat).length=l.length:=by
 refine⟨?_,?_,by simp⟩
 ·rw[List.map_map];conv=>lhs;rw[←List.map_id l]
  apply List.map_congr_left
  intro x hx;have:=h.2 x hx;simp only[Function.comp_apply,id];omega
 ·intro x hx;obtain⟨y,hy,rfl⟩:=List.mem_map.1 hx;have:=h.2 y hy;omega
def eT(l:List Nat)(k i:Nat):Bool:=decide (0<l[k]?.getD 0) && (decide (l[k]?.getD 0<l[i]?.getD 0) || (decide (l[k]?.getD 0=l[i]?.getD 0) && decide (k<i)))
def BZ(l:List Nat)(i q:Nat):Nat:=((List.range q).map fun k=>if eT l k i then dB (l[k]?.getD 0)else 0).sum
def jT(l:List Nat)(i:Nat):Nat:=BZ l i l.length
def eO(l:List Nat)(i:Nat):Nat:=if l[i]?.getD 0=0 then 0 else jT l i/2^(11-l[i]?.getD 0)
def iU(l:List Nat):List Nat:=(List.range l.length).map (eO l)
theorem kG{α:Type}(f g:α→Nat):∀(L:List α),(∀x∈L,f x≤g x)→(L.map f).sum≤(L.map g).sum
 | [],_=>by simp
 | a :: L,h=>by
  have h1:=h a List.mem_cons_self;have h2:=kG f g L (fun x hx=>h x (List.mem_cons_of_mem _ hx));rw[List.map_cons,List.map_cons,List.sum_cons,List.sum_cons];omega
theorem dZ{α:Type}(f g:α→Nat):∀(L:List α),(L.map fun x=>f x+g x).sum=(L.map f).sum+(L.map g).sum
 | []=>by simp
 | a :: L=>by
  have h2:=dZ f g L;simp only[List.map_cons,List.sum_cons];omega
theorem pX(l:List Nat):krN l=((List.range l.length).map fun k=>dB (l[k]?.getD 0)).sum:=by
 unfold krN;congr 1
 apply List.ext_getElem
 ·simp
 ·intro i h1 h2;simp only[List.length_map]at h1;simp[h1]
theorem gM(i v:Nat):∀q,((List.range q).map fun k=>if k=i then v else 0).sum=if i<q then v else 0
 | 0=>by simp
 | q+1=>by
  rw[List.range_succ,List.map_append,List.sum_append_nat,gM i v q];simp only[List.map_cons,List.map_nil,List.sum_cons,List.sum_nil];by_cases h1:i<q
  ·have h2:¬q=i:=by omega
   have h3:i<q+1:=by omega
   simp[h1,h2,h3]
  ·by_cases h2:q=i
   ·subst h2;simp
   ·have h3:¬i<q+1:=by omega
    simp[h1,h2,h3]
theorem sK(l:List Nat)(i k:Nat)(hi:i<l.length)(h:eT l i k=true):jT l i+dB (l[i]?.getD 0)≤jT l k:=by
 have e:dB (l[i]?.getD 0)=((List.range l.length).map fun q=>if q=i then dB (l[i]?.getD 0)else 0).sum:=by
  rw[gM,if_pos hi]
 unfold jT BZ;rw[e,←dZ];apply kG
 intro q _;by_cases hq:q=i
 ·subst hq;have h0:eT l q q=false:=by simp[eT]
  rw[h0,h];simp
 ·rw[if_neg hq,Nat.add_zero];by_cases hb:eT l q i=true
  ·have hk:eT l q k=true:=by
    unfold eT at h hb ⊢;simp only[Bool.and_eq_true,Bool.or_eq_true,decide_eq_true_eq]at h hb ⊢;omega
   rw[hb,hk];exact Nat.le_refl _
  ·rw[if_neg hb];exact Nat.zero_le _
theorem Og(l:List Nat)(i:Nat)(hi:i<l.length):jT l i+dB (l[i]?.getD 0)≤krN l:=by
 have e:dB (l[i]?.getD 0)=((List.range l.length).map fun q=>if q=i then dB (l[i]?.getD 0)else 0).sum:=by
  rw[gM,if_pos hi]
 rw[pX];unfold jT BZ;rw[e,←dZ];apply kG
 intro q _;by_cases hq:q=i
 ·subst hq;have h0:eT l q q=false:=by simp[eT]
  rw[h0];simp
 ·rw[if_neg hq,Nat.add_zero];split<;>omega
theorem Oh(l:List Nat)(i:Nat):2^(11-l[i]?.getD 0)∣jT l i:=by
 unfold jT BZ;have:∀L:List Nat,2^(11-l[i]?.getD 0)∣(L.map fun k=>if eT l k i then dB (l[k]?.getD 0)else 0).sum:=fun L=>by
  induction L with
  | nil=>simp
  | cons k L ih=>
   rw[List.map_cons,List.sum_cons];refine Nat.dvd_add ?_ ih;split
   ·next hb=>
    unfold eT at hb;simp only[Bool.and_eq_true,Bool.or_eq_true,decide_eq_true_eq]at hb;unfold dB;rw[if_neg (by omega)];exact Nat.pow_dvd_pow 2 (by omega)
   ·exact Nat.dvd_zero _
 exact this _
theorem uE(l:List Nat)(i:Nat)(hi:i<l.length)(h:bC l)(h0:0<l[i]?.getD 0):eO l i<2^(l[i]?.getD 0):=by
 have h11:l[i]?.getD 0≤11:=by rw[List.getElem?_eq_getElem hi,Option.getD_some];exact h.2.1 _ (List.getElem_mem hi)
 have ha:=Og l i hi;have hk:krN l≤2048:=by have:=h.2.2;omega
 unfold eO;rw[if_neg (by omega)];unfold dB at ha;rw[if_neg (by omega)]at ha;have hp:0<2^(11-l[i]?.getD 0):=Nat.two_pow_pos _;rw[Nat.div_lt_iff_lt_mul hp,←Nat.pow_add,show l[i]?.getD 0+(11-l[i]?.getD 0)=11 by omega];have:(2:Nat)^11=2048:=by decide
 omega
theorem EU(l:List Nat)(i k:Nat)(hi:i<l.length)(hk:k<l.length)(h:bC l)(hik:i≠k)(h0:0<l[i]?.getD 0)(h1:l[i]?.getD 0≤l[k]?.getD 0):eO l k/2^(l[k]?.getD 0-l[i]?.getD 0)≠eO l i:=by
 have h11:l[k]?.getD 0≤11:=by rw[List.getElem?_eq_getElem hk,Option.getD_some];exact h.2.1 _ (List.getElem_mem hk)
 have hp:0<2^(11-l[i]?.getD 0):=Nat.two_pow_pos _;obtain⟨q,hq⟩:=Oh l i;have ei:eO l i=q:=by
  unfold eO;rw[if_neg (by omega),hq,Nat.mul_div_cancel_left _ hp]
 have ek:eO l k/2^(l[k]?.getD 0-l[i]?.getD 0)=jT l k/2^(11-l[i]?.getD 0):=by
  unfold eO;rw[if_neg (by omega),Nat.div_div_eq_div_mul,←Nat.pow_add,show 11-l[k]?.getD 0+(l[k]?.getD 0-l[i]?.getD 0)=11-l[i]?.getD 0 by omega]
 rw[ei,ek];by_cases hb:eT l i k=true
 ·have h2:=sK l i k hi hb;unfold dB at h2;rw[if_neg (by omega),hq]at h2;have h3:q+1≤jT l k/2^(11-l[i]?.getD 0):=by
   rw[Nat.le_div_iff_mul_le hp,Nat.add_mul,Nat.one_mul,Nat.mul_comm];exact h2
  omega
 ·have hb2:eT l k i=true:=by
   unfold eT at hb ⊢;simp only[Bool.and_eq_true,Bool.or_eq_true,decide_eq_true_eq]at hb ⊢;omega
  have he:l[k]?.getD 0=l[i]?.getD 0:=by
   unfold eT at hb2;simp only[Bool.and_eq_true,Bool.or_eq_true,decide_eq_true_eq]at hb2;omega
  have h2:=sK l k i hk hb2;unfold dB at h2;rw[if_neg (by omega),hq,he]at h2;have h3:jT l k/2^(11-l[i]?.getD 0)<q:=by
   rw[Nat.div_lt_iff_lt_mul hp,Nat.mul_comm q];omega
  omega
def KW(cs ls:List Nat):Nat:=((List.range cs.length).map fun i=>cs[i]?.getD 0*ls[i]?.getD 0).sum
def agw(cs ls:List Nat):Prop:=∀i,i<cs.length→0<cs[i]?.getD 0→0<ls[i]?.getD 0
def dR:List Nat→Nat
 | []=>0
 | b :: l=>b+2*dR l
theorem uy:∀l:List Nat,(∀x∈l,x<2)→dR l<2^l.length
 | [],_=>by simp[dR]
 | b :: l,h=>by
  have h1:=uy l (fun x hx=>h x (List.mem_cons_of_mem _ hx));have h2:=h b List.mem_cons_self;rw[dR,List.length_cons,Nat.pow_succ];omega
theorem yG:∀l:List Nat,(∀x∈l,x<2)→bitsOf (dR l) l.length=l
 | [],_=>rfl
 | b :: l,h=>by
  have h1:=yG l (fun x hx=>h x (List.mem_cons_of_mem _ hx));have h2:=h b List.mem_cons_self;apply List.ext_getElem
  ·rw[aU]
  ·intro i hi hi2;rw[dw];cases i with
   | zero=>rw[dR,List.getElem_cons_zero];omega
   | succ j=>
    have hj:j<l.length:=by simpa using hi2
    have h3:(bitsOf (dR l) l.length)[j]'(by rw[aU];exact hj)=l[j]:=by simp only[h1]
    rw[dw]at h3;rw[dR,List.getElem_cons_succ,Nat.pow_succ,Nat.mul_comm (2^j),←Nat.div_div_eq_div_mul,show(b+2*dR l)/2=dR l by omega,h3]
theorem mZ(N n:Nat)(h:N<2^n):dR (bitsOf N n)=N:=by
 induction n generalizing N with
 | zero=>
   have:N=0:=by simpa using h
   subst this;rfl
 | succ n ih=>
  have e:bitsOf N (n+1)=N%2 :: bitsOf (N/2) n:=by
   unfold bitsOf;rw[List.range_succ_eq_map,List.map_cons,List.map_map];congr 1
   ·simp
   ·refine List.map_congr_left fun i _=>?_
    simp only[Function.comp];rw[Nat.succ_eq_add_one,Nat.pow_succ,Nat.mul_comm (2^i),←Nat.div_div_eq_div_mul]
  rw[e,dR,ih (N/2) (by rw[Nat.pow_succ]at h;omega)];omega
theorem mo:∀a b:List Nat,dR (a++b)=dR a+dR b*2^a.length
 | [],b=>by simp[dR]
 | x :: a,b=>by
  rw[List.cons_append,dR,mo a b,dR,List.length_cons,Nat.pow_succ];rw[Nat.mul_add,←Nat.mul_assoc,Nat.mul_comm 2 (dR b),Nat.mul_assoc,Nat.mul_comm 2 (2^a.length)];omega
theorem qU:∀l:List Nat,(∀x∈l,x=0)→dR l=0
 | [],_=>rfl
 | b :: l,h=>by rw[dR,qU l (fun x hx=>h x (List.mem_cons_of_mem _ hx)),h b List.mem_cons_self]
def oN(l:List Nat):List Nat:=bytesOf (dR l) ((l.length+7)/8)
theorem mK(l:List Nat):(oN l).length=(l.length+7)/8:=bytesOf_length _ _
theorem JE(l:List Nat):∀x∈oN l,x<256:=eF _ _
theorem OE(l:List Nat)(h:∀x∈l,x<2):bitsOf (aS (oN l)) (8*(oN l).length)=l++List.replicate (8*((l.length+7)/8)-l.length) 0:=by
 have hlt:=uy l h;have hle:2^l.length≤256^((l.length+7)/8):=by
  rw[rO];exact Nat.pow_le_pow_right (by omega) (by omega)
 rw[mK,oN,iE,Nat.mod_eq_of_lt (by omega)];have e:8*((l.length+7)/8)=l.length+(8*((l.length+7)/8)-l.length):=by omega
 have h1:=zX (dR l) l.length 0 (8*((l.length+7)/8)-l.length) hlt;rw[←e,yG l h]at h1;simp only[Nat.zero_mod,Nat.zero_mul,Nat.add_zero]at h1;rw[←h1];congr 1
 apply List.ext_getElem
 ·simp[aU]
 ·intro i _ _;rw[dw,List.getElem_replicate,Nat.zero_div]
theorem Rz(l z s:List Nat)(hs:∀x∈s,x<256)(h:bitsOf (aS s) (8*s.length)=l++z)(hz:∀x∈z,x=0)(h7:z.length≤7):oN l=s:=by
 have h1:=congrArg dR h;have hv:=jP s hs;rw[rO]at hv;rw[mZ _ _ hv,mo,qU z hz,Nat.zero_mul,Nat.add_zero]at h1;have h2:=congrArg List.length h;rw[aU,List.length_append]at h2;unfold oN;rw[←h1,show(l.length+7)/8=s.length by omega,mq s hs]
def aX(ls:List Nat)(s:Nat):List Nat:=(List.range (ls[s]?.getD 0)).map fun j=>eO ls s/2^(ls[s]?.getD 0-1-j)%2
theorem aQ(ls:List Nat)(s:Nat):(aX ls s).length=ls[s]?.getD 0:=by simp[aX]
theorem kL(ls:List Nat)(s:Nat):∀x∈aX ls s,x<2:=fun x hx=>by
 unfold aX at hx;obtain⟨i,_,rfl⟩:=List.mem_map.1 hx;exact Nat.mod_lt _ (by omega)
theorem vo(ls:List Nat)(s j:Nat)(h:j<(aX ls s).length):(aX ls s)[j]=eO ls s/2^(ls[s]?.getD 0-1-j)%2:=by simp[aX]
theorem sQ(ls:List Nat)(i k:Nat)(hi:i<ls.length)(hk:k<ls.length)(h:bC ls)(h0:0<ls[i]?.getD 0)(hik:ls[i]?.getD 0≤ls[k]?.getD 0)(hp:aX ls i <+: aX ls k):i=k:=by
 apply Classical.byContradiction
 intro hne;have hk0:0<ls[k]?.getD 0:=by omega
 refine EU ls i k hi hk h hne h0 hik ?_;have hci:=uE ls i hi h h0;have hck:=uE ls k hk h hk0;obtain⟨d,hd⟩:∃d,ls[k]?.getD 0=ls[i]?.getD 0+d:=⟨ls[k]?.getD 0-ls[i]?.getD 0,by omega⟩;rw[hd,Nat.add_sub_cancel_left];have hcd:eO ls k/2^d<2^(ls[i]?.getD 0):=by
  rw[Nat.div_lt_iff_lt_mul (Nat.two_pow_pos d),←Nat.pow_add,←hd];exact hck
 rw[←mZ _ _ hcd,←mZ _ _ hci];congr 1
 apply List.ext_getElem
 ·simp[aU]
 ·intro t h1 h2;rw[aU]at h1;rw[dw,dw,Nat.div_div_eq_div_mul,←Nat.pow_add];have hj:ls[i]?.getD 0-1-t<(aX ls i).length:=by rw[aQ];omega
  have e:=hp.getElem hj;rw[vo,vo]at e;rw[show ls[i]?.getD 0-1-(ls[i]?.getD 0-1-t)=t by omega,show ls[k]?.getD 0-1-(ls[i]?.getD 0-1-t)=d+t by omega]at e;exact e.symm
theorem rR(ls:List Nat)(i k:Nat)(hi:i<ls.length)(hk:k<ls.length)(h:bC ls)(h0:0<ls[i]?.getD 0)(h1:0<ls[k]?.getD 0)(l:List Nat)(hp:aX ls i <+: l)(hq:aX ls k <+: l):i=k:=by
 rcases Nat.le_total (ls[i]?.getD 0) (ls[k]?.getD 0)with hle | hle
 ·exact sQ ls i k hi hk h h0 hle (List.prefix_of_prefix_length_le hp hq (by rw[aQ,aQ];exact hle))
 ·exact(sQ ls k i hk hi h h1 hle (List.prefix_of_prefix_length_le hq hp (by rw[aQ,aQ];exact hle))).symm
def encS(ls:List Nat):List Nat→Option (List Nat)
 | []=>some []
 | b :: bs=>if 0<ls[b]?.getD 0 then(encS ls bs).map (aX ls b++·)else none
def NA(ls bs:List Nat):Option (List Nat):=(encS ls bs).map oN
theorem Px(ls:List Nat):∀(bs l:List Nat),encS ls bs=some l→∀x∈l,x<2
 | [],l,h=>by injection h with h;subst h;simp
 | b :: bs,l,h=>by
  unfold encS at h;split at h
  ·cases hr:encS ls bs with
   | none=>rw[hr]at h;cases h
   | some r=>
    rw[hr,Option.map_some]at h;injection h with h
    subst h;intro x hx;rcases List.mem_append.1 hx with hx | hx
    ·exact kL ls b x hx
    ·exact Px ls bs r hr x hx
  ·cases h
theorem CB(ls:List Nat)(b:Nat):∀a:List Nat,encS ls (a++[b])=if 0<ls[b]?.getD 0 then(encS ls a).map (·++aX ls b)else none
 | []=>by
  simp only[List.nil_append,encS];split<;>simp
 | x :: a=>by
  rw[List.cons_append,encS,CB ls b a,encS];split<;>split<;>simp[Function.comp_def]
  all_goals cases encS ls a<;>simp
theorem Cz(ls:List Nat)(b:Nat)(h0:ls[b]?.getD 0=0):∀bs:List Nat,b∈bs→encS ls bs=none
 | [],h=>by cases h
 | x :: bs,h=>by
  rw[encS];rcases List.mem_cons.1 h with rfl | h
  ·rw[if_neg (by omega)]
  ·rw[Cz ls b h0 bs h];split<;>rfl
def Ah(ls bs:List Nat):Nat:=(bs.map fun b=>ls[b]?.getD 0).sum
theorem vI(ls:List Nat):∀(bs l:List Nat),encS ls bs=some l→l.length=Ah ls bs
 | [],l,h=>by injection h with h;subst h;rfl
 | b :: bs,l,h=>by
  unfold encS at h;split at h
  ·cases hr:encS ls bs with
   | none=>rw[hr]at h;cases h
   | some r=>
    rw[hr,Option.map_some]at h;injection h with h
    subst h;rw[List.length_append,aQ,vI ls bs r hr];simp[Ah]
  ·cases h
theorem CF(ls:List Nat):∀bs:List Nat,(∀b∈bs,0<ls[b]?.getD 0)→∃l,encS ls bs=some l
 | [],_=>⟨[],rfl⟩
 | b :: bs,h=>by
  obtain⟨l,hl⟩:=CF ls bs (fun x hx=>h x (List.mem_cons_of_mem _ hx));exact⟨aX ls b++l,by rw[encS,if_pos (h b List.mem_cons_self),hl];rfl⟩
def Dq(ls l:List Nat):Nat→Option Nat
 | 0=>none
 | q+1=>if 0<ls[q]?.getD 0∧aX ls q <+: l then some q else Dq ls l q
def Jr(ls l:List Nat):Option Nat:=Dq ls l ls.length
theorem zi(ls l:List Nat):∀q k,Dq ls l q=some k→k<q∧0<ls[k]?.getD 0∧aX ls k <+: l
 | 0,k,h=>by cases h
 | q+1,k,h=>by
  unfold Dq at h;split at h
  ·next hc=>injection h with h;subst h;exact⟨by omega,hc.1,hc.2⟩
  ·obtain⟨h1,h2⟩:=zi ls l q k h;exact⟨by omega,h2⟩
theorem Js(ls l:List Nat)(k:Nat)(h:bC ls)(h0:0<ls[k]?.getD 0)(hp:aX ls k <+: l):∀q,k<q→q≤ls.length→Dq ls l q=some k
 | 0,hk,_=>by omega
 | q+1,hk,hq=>by
  unfold Dq;split
  ·next hc=>rw[rR ls k q (by omega) (by omega) h h0 hc.1 l hp hc.2]
  ·next hc=>
   by_cases e:k=q
   ·subst e;exact absurd ⟨h0,hp⟩ hc
   ·exact Js ls l k h h0 hp q (by omega) (by omega)
theorem Rb(ls l:List Nat)(k:Nat)(h:bC ls)(hk:k<ls.length)(h0:0<ls[k]?.getD 0)(hp:aX ls k <+: l):Jr ls l=some k:=Js ls l k h h0 hp _ hk (Nat.le_refl _)
def xM(ls:List Nat):Nat→List Nat→Option (List Nat×List Nat)
 | 0,l=>some ([],l)
 | n+1,l=>(Jr ls l).bind fun k=>(xM ls n (l.drop (ls[k]?.getD 0))).map fun t=>(k :: t.1,t.2)
def aeC(t:List Nat×List Nat):Option (List Nat):=if t.2.length≤7∧∀x∈t.2,x=0 then some t.1 else none
def KX(ls s:List Nat)(n:Nat):Option (List Nat):=(xM ls n (bitsOf (aS s) (8*s.length))).bind aeC
theorem mH(ls:List Nat)(k:Nat)(h:0<ls[k]?.getD 0):k<ls.length:=by
 rcases Nat.lt_or_ge k ls.length with h1 | h1
 ·exact h1
 ·rw[List.getElem?_eq_none h1]at h;simp at h
theorem IG(ls:List Nat)(h:bC ls)(z:List Nat):∀(bs l:List Nat),encS ls bs=some l→xM ls bs.length (l++z)=some (bs,z)
 | [],l,e=>by injection e with e;subst e;rfl
 | b :: bs,l,e=>by
  unfold encS at e;split at e
  ·next h0=>
   cases hr:encS ls bs with
   | none=>rw[hr]at e;cases e
   | some r=>
    rw[hr,Option.map_some]at e;injection e with e
    subst e;rw[List.length_cons,xM,List.append_assoc,Rb ls _ b h (mH ls b h0) h0 (List.prefix_append _ _),Option.bind_some];have hd:(aX ls b++(r++z)).drop (ls[b]?.getD 0)=r++z:=by rw[←aQ ls b,List.drop_left]
    rw[hd,IG ls h z bs r hr];rfl
  ·cases e
theorem Vv(ls bs s:List Nat)(h:bC ls)(e:NA ls bs=some s):KX ls s bs.length=some bs:=by
 unfold NA at e;cases hr:encS ls bs with
 | none=>rw[hr]at e;cases e
 | some l=>
  rw[hr,Option.map_some]at e;injection e with e
  subst e;unfold KX;rw[OE l (Px ls bs l hr),IG ls h _ bs l hr,Option.bind_some];unfold aeC;rw[if_pos ⟨by rw[List.length_replicate];omega,fun x hx=>(List.mem_replicate.1 hx).2⟩]
theorem IJ(ls:List Nat):∀(n:Nat) (l d r:List Nat),xM ls n l=some (d,r)→d.length=n∧(∀x∈d,x<ls.length)∧∃e,encS ls d=some e∧l=e++r
 | 0,l,d,r,h=>by
  unfold xM at h;injection h with h
  injection h with h1 h2
  subst h1 h2;exact⟨rfl,by simp,[],rfl,rfl⟩
 | n+1,l,d,r,h=>by
  unfold xM at h;cases hm:Jr ls l with
  | none=>rw[hm]at h;cases h
  | some k=>
   rw[hm,Option.bind_some]at h;obtain⟨hk,h0,hp⟩:=zi ls l _ k hm;cases hr:xM ls n (l.drop (ls[k]?.getD 0))with
   | none=>rw[hr]at h;cases h
   | some t=>
    obtain⟨d',r'⟩:=t;rw[hr,Option.map_some]at h;injection h with h
    injection h with h1 h2
    subst h1 h2;obtain⟨g1,g2,e,g3,g4⟩:=IJ ls n _ d' r' hr;refine⟨by rw[List.length_cons,g1],?_,aX ls k++e,by rw[encS,if_pos h0,g3];rfl,?_⟩
    ·intro x hx;rcases List.mem_cons.1 hx with rfl | hx
     ·exact hk
     ·exact g2 x hx
    ·obtain⟨t,rfl⟩:=hp;rw[←aQ ls k,List.drop_left]at g4;rw[g4,List.append_assoc]
theorem Am(ls s d:List Nat)(n:Nat)(hs:∀x∈s,x<256)(h:KX ls s n=some d):NA ls d=some s∧d.length=n∧∀x∈d,x<ls.length:=by
 unfold KX at h;cases hr:xM ls n (bitsOf (aS s) (8*s.length))with
 | none=>rw[hr]at h;cases h
 | some t=>
  obtain⟨d',r⟩:=t;rw[hr,Option.bind_some]at h;unfold aeC at h;split at h
  ·next hc=>
   injection h with h
   simp only at h hc;subst h;obtain⟨g1,g2,e,g3,g4⟩:=IJ ls n _ d' r hr;refine⟨?_,g1,g2⟩;unfold NA;rw[g3,Option.map_some,Rz e r s hs g4 hc.2 hc.1]
  ·cases h
theorem fE:∀l:List Nat,∃m,l=aI l++List.replicate m 0
 | []=>⟨0,rfl⟩
 | n :: l=>by
  unfold aI;split
  ·next h=>
   obtain⟨m,hm⟩:=fE l;have hs:aI l=[]:=by
    cases l with
    | nil=>rfl
    | cons a l'=>unfold aI;rw[if_pos (by rw[List.sum_cons]at h;omega)]
   rw[hs,List.nil_append]at hm;refine⟨m+1,?_⟩;rw[List.nil_append,List.replicate_succ,←hm,show n=0 by omega]
  ·obtain⟨m,hm⟩:=fE l;exact⟨m,by rw[List.cons_append,←hm]⟩
theorem short_zero(l:List Nat)(h:aI l=[]):∀x∈l,x=0:=by
 obtain⟨m,hm⟩:=fE l;rw[h,List.nil_append]at hm;intro x hx;rw[hm]at hx;exact(List.mem_replicate.1 hx).2
theorem wW:∀l:List Nat,aI (aI l)=aI l
 | []=>rfl
 | n :: l=>by
  by_cases h:n+l.sum=0
  ·rw[aI,if_pos h];rfl
  ·rw[aI,if_neg h,aI];obtain⟨m,hm⟩:=fE l;have hs:(aI l).sum=l.sum:=by
    have:=congrArg List.sum hm;rw[List.sum_append_nat,List.sum_replicate_nat,Nat.mul_zero,Nat.add_zero]at this;exact this.symm
   rw[hs,if_neg h,wW l]
theorem QC(l:List Nat)(m:Nat):krN (l++List.replicate m 0)=krN l∧ji (l++List.replicate m 0)=ji l:=by
 constructor
 ·unfold krN;rw[List.map_append,List.sum_append_nat,List.map_replicate,List.sum_replicate_nat];simp[dB]
 ·unfold ji;rw[List.countP_append,List.countP_replicate];simp
theorem oZ(l:List Nat)(h:bC l):bC (aI l)∧0<(aI l).length:=by
 obtain⟨m,hm⟩:=fE l;obtain⟨h1,h2,h3⟩:=h;have e:=QC (aI l) m;rw[←hm]at e;refine⟨⟨?_,fun x hx=>h2 x (by rw[hm];exact List.mem_append_left _ hx),?_⟩,?_⟩
 ·have:=congrArg List.length hm;rw[List.length_append]at this;omega
 ·rw[←e.1,←e.2];exact h3
 ·rcases Nat.eq_zero_or_pos (aI l).length with h0 | h0
  ·have h4:=List.eq_nil_of_length_eq_zero h0;have h5:krN l=0:=by rw[e.1,h4];rfl
   omega
  ·exact h0
def qj(l:List Nat)(k:Nat):Nat:=l[2*k]?.getD 0+16*l[2*k+1]?.getD 0
def bS(l:List Nat):List Nat:=(l.length-1) :: (List.range ((l.length+1)/2)).map (qj l)
theorem dI(l:List Nat):(bS l).length=1+(l.length+1)/2:=by simp[bS];omega
theorem CO{l:List Nat}{b:Nat}(h:∀x∈l,x≤b)(i:Nat):l[i]?.getD 0≤b:=by
 cases e:l[i]? with
 | none=>simp
 | some x=>exact h x (List.mem_of_getElem? e)
theorem acf{l:List Nat}(h:∀x∈l,x≤11)(k:Nat):qj l k≤187:=by
 have h1:=CO h (2*k);have h2:=CO h (2*k+1);unfold qj;omega
theorem xA(l:List Nat)(h:∀x∈l,x≤11)(hl:l.length≤256):∀x∈bS l,x<256:=by
 intro x hx;unfold bS at hx;rcases List.mem_cons.1 hx with rfl | hx
 ·omega
 ·obtain⟨k,_,rfl⟩:=List.mem_map.1 hx;have:=acf h k;omega
def ug(bs:List Nat)(i:Nat):Nat:=if i%2=1 then bs[1+i/2]?.getD 0/16%16 else bs[1+i/2]?.getD 0%16
def tJ(bs:List Nat)(n:Nat):List Nat:=(List.range n).map (ug bs)
theorem gL(bs:List Nat)(n:Nat):(tJ bs n).length=n:=by simp[tJ]
def jf(bs:List Nat):Option (List Nat×Nat):=
 if bs=[]then none else
 if bs.length<1+(bs[0]?.getD 0+2)/2 then none else
 if bC (tJ bs (bs[0]?.getD 0+1))∧bS (aI (tJ bs (bs[0]?.getD 0+1)))=bs.take (1+(bs[0]?.getD 0+2)/2)then some (tJ bs (bs[0]?.getD 0+1),1+(bs[0]?.getD 0+2)/2)else none
theorem JL(bs l:List Nat)(n:Nat)(h:jf bs=some (l,n)):n≤bs.length∧0<n∧l.length≤bs[0]?.getD 0+1:=by
 unfold jf at h;split at h
 ·cases h
 ·split at h
  ·cases h
  ·split at h
   ·injection h with h
    injection h with h1 h2
    subst h1 h2;rw[gL];omega
   ·cases h
theorem Ma(l rest:List Nat)(h:∀x∈l,x≤11):tJ (bS l++rest) l.length=l:=by
 apply List.ext_getElem
 ·rw[gL]
 ·intro i h1 h2;rw[gL]at h1;have hk:i/2<(l.length+1)/2:=by omega
  have e:(bS l++rest)[1+i/2]?.getD 0=qj l (i/2):=by
   rw[List.getElem?_append_left (by rw[dI];omega),Nat.add_comm,bS,List.getElem?_cons_succ,List.getElem?_map,List.getElem?_range hk];rfl
  have g1:=CO h (2*(i/2));have g2:=CO h (2*(i/2)+1);have e2:l[i]=l[i]?.getD 0:=by rw[List.getElem?_eq_getElem h2,Option.getD_some]
  simp only[tJ,List.getElem_map,List.getElem_range];rw[ug,e,e2];unfold qj;split
  ·next ho=>
   rw[show 2*(i/2)+1=i by omega]at g2 ⊢;omega
  ·next ho=>
   rw[show 2*(i/2)=i by omega]at g1 g2 ⊢;omega
theorem Mr(l rest:List Nat)(h:bC l):jf (bS (aI l)++rest)=some (aI l,(bS (aI l)).length):=by
 obtain⟨h1,h2⟩:=oZ l h;have e0:(bS (aI l)++rest)[0]?.getD 0=(aI l).length-1:=by
  rw[List.getElem?_append_left (by rw[dI];omega)];rfl
 have hn:=Ma (aI l) rest h1.2.1;have hl:(bS (aI l)).length=1+((aI l).length+1)/2:=dI _;have e1:(aI l).length-1+1=(aI l).length:=by omega
 have e2:1+((aI l).length-1+2)/2=(bS (aI l)).length:=by rw[hl];omega
 unfold jf;rw[e0,e1,e2,hn,wW,List.take_left,if_neg (by intro e;have:=congrArg List.length e;rw[List.length_append,List.length_nil]at this;omega),if_neg (by rw[List.length_append];omega),if_pos ⟨h1,rfl⟩]
def oG(ls t:List Nat)(n:Nat):Option (List Nat×Nat):=
 if 0<(aj t).2∧(aj t).1≤t.length-(aj t).2 then(KX ls ((t.drop (aj t).2).take (aj t).1) n).map fun b=>(b,(aj t).2+(aj t).1)else none
def eD(k n:Nat)(t:List Nat):Option (List Nat×Nat):=
 if k=0 then(if n≤t.length then some (t.take n,n)else none)
 else if k=1 then(if 0<t.length then some (List.replicate n (t[0]?.getD 0),1)else none)
 else if k=2 then(match jf t with
  | none=>none
  | some p=>(oG p.1 (t.drop p.2) n).map fun q=>(q.1,p.2+q.2))
 else none
def tY(bs:List Nat)(most:Int):Option (List Nat×Nat):=
 match bs with
 | []=>none
 | k :: r=>if 0<(aj r).2∧((aj r).1:Int)≤most∧(aj r).1≤1048576 then(eD k (aj r).1 (r.drop (aj r).2)).map fun q=>(q.1,1+(aj r).2+q.2)else none
theorem eH(p q:List Nat)(h:0<(aj p).2):aj (p++q)=aj p∧(aj p).2≤p.length:=by
 obtain⟨v,k,e⟩:∃v k,aj p=(v,k):=⟨_,_,rfl⟩;rw[e]at h ⊢;obtain⟨h1,h2,h3⟩:=dW p v k h e;refine⟨?_,h3⟩;have e2:p++q=grp v++(p.drop k++q):=by rw[←List.append_assoc,←h2,List.take_append_drop]
 rw[e2,fH v _ h1,←h2,List.length_take,Nat.min_eq_left h3]
theorem LZ(p q:List Nat)(i:Nat)(h:1+i/2<p.length):ug (p++q) i=ug p i:=by
 unfold ug;rw[List.getElem?_append_left h]
theorem DK(p q:List Nat)(t:List Nat×Nat)(h:jf p=some t):jf (p++q)=some t:=by
 unfold jf at h ⊢;split at h
 ·cases h
 ·next h1=>
  split at h
  ·cases h
  ·next h2=>
   have h0:0<p.length:=List.length_pos_iff.2 h1;have e0:(p++q)[0]?.getD 0=p[0]?.getD 0:=by rw[List.getElem?_append_left h0]
   have en:tJ (p++q) (p[0]?.getD 0+1)=tJ p (p[0]?.getD 0+1):=by
    refine List.map_congr_left fun i hi=>LZ p q i ?_
    have:=List.mem_range.1 hi;omega
   have et:(p++q).take (1+(p[0]?.getD 0+2)/2)=p.take (1+(p[0]?.getD 0+2)/2):=List.take_append_of_le_length (by omega);rw[if_neg (by simp[h1]),e0,if_neg (by rw[List.length_append];omega),en,et];exact h
theorem Cr(ls t u:List Nat)(n:Nat)(r:List Nat×Nat)(h:oG ls t n=some r):oG ls (t++u) n=some r∧r.2≤t.length:=by
 unfold oG at h ⊢;split at h
 ·next hc=>
  obtain⟨e,hle⟩:=eH t u hc.1;rw[e,if_pos ⟨hc.1,by rw[List.length_append];omega⟩,List.drop_append_of_le_length hle,List.take_append_of_le_length (by rw[List.length_drop];exact hc.2)];refine⟨h,?_⟩;cases hd:KX ls ((t.drop (aj t).2).take (aj t).1) n with
  | none=>rw[hd]at h;cases h
  | some b=>
   rw[hd]at h;injection h with h
   subst h;show(aj t).2+(aj t).1≤t.length;omega
 ·cases h
theorem Ck(k n:Nat)(t u:List Nat)(r:List Nat×Nat)(h:eD k n t=some r):eD k n (t++u)=some r∧r.2≤t.length:=by
 unfold eD at h ⊢;by_cases h0:k=0
 ·rw[if_pos h0]at h ⊢;by_cases hn:n≤t.length
  ·rw[if_pos hn]at h;rw[if_pos (by rw[List.length_append];omega),List.take_append_of_le_length hn];injection h with h
   subst h;exact⟨rfl,hn⟩
  ·rw[if_neg hn]at h;cases h
 ·rw[if_neg h0]at h ⊢;by_cases h1:k=1
  ·rw[if_pos h1]at h ⊢;by_cases hn:0<t.length
   ·rw[if_pos hn]at h;rw[if_pos (by rw[List.length_append];omega),List.getElem?_append_left hn];injection h with h
    subst h;exact⟨rfl,hn⟩
   ·rw[if_neg hn]at h;cases h
  ·rw[if_neg h1]at h ⊢;by_cases h2:k=2
   ·rw[if_pos h2]at h ⊢;cases hr:jf t with
    | none=>rw[hr]at h;cases h
    | some p=>
     rw[hr]at h;dsimp only at h;have hp:=(JL t p.1 p.2 hr).1;cases hc:oG p.1 (t.drop p.2) n with
     | none=>rw[hc]at h;cases h
     | some q=>
      rw[hc]at h;injection h with h
      subst h;obtain⟨e1,e2⟩:=Cr p.1 (t.drop p.2) u n q hc;rw[DK t u p hr];dsimp only;rw[List.drop_append_of_le_length hp,e1];rw[List.length_drop]at e2;refine⟨rfl,?_⟩;show p.2+q.2≤t.length;omega
   ·rw[if_neg h2]at h;cases h
theorem oH(p u:List Nat)(m:Int)(r:List Nat×Nat)(h:tY p m=some r):tY (p++u) m=some r∧r.2≤p.length:=by
 cases p with
 | nil=>cases h
 | cons k t=>
  rw[List.cons_append];unfold tY at h ⊢;dsimp only at h ⊢;split at h
  ·next hc=>
   obtain⟨e,hle⟩:=eH t u hc.1;rw[e,if_pos hc,List.drop_append_of_le_length hle];cases hb:eD k (aj t).1 (t.drop (aj t).2)with
   | none=>rw[hb]at h;cases h
   | some q=>
    rw[hb]at h;injection h with h
    subst h;obtain⟨e1,e2⟩:=Ck k _ _ u q hb;rw[e1];rw[List.length_drop]at e2;refine⟨rfl,?_⟩;rw[List.length_cons];show 1+(aj t).2+q.2≤_;omega
  ·cases h
theorem Vu(E:List Nat)(m:Int)(x:List Nat)(h:tY E m=some (x,E.length))(j:Nat)(hj:j<E.length):tY (E.take j) m=none:=by
 cases hc:tY (E.take j) m with
 | none=>rfl
 | some r=>
  obtain⟨h1,h2⟩:=oH (E.take j) (E.drop j) m r hc;rw[List.take_append_drop,h]at h1;injection h1 with h1
  subst h1;rw[List.length_take]at h2;dsimp only at h2;omega
theorem vE(k n:Nat)(t x:List Nat)(hn:n≤1048576)(hb:eD k n t=some (x,t.length)):tY (k :: (grp n++t)) (n:Int)=some (x,(k :: (grp n++t)).length):=by
 unfold tY;dsimp only;rw[fH n t (by omega)];dsimp only;rw[if_pos ⟨oJ n (by omega),Int.le_refl _,hn⟩,List.drop_left,hb,Option.map_some,List.length_cons,List.length_append];dsimp only;rw[show 1+(grp n).length+t.length=(grp n).length+t.length+1 by omega]
theorem Vj(s:List Nat):eD 0 s.length s=some (s,s.length):=by
 unfold eD;rw[if_pos rfl,if_pos (Nat.le_refl _),List.take_length]
theorem KF(x n:Nat):eD 1 n [x]=some (List.replicate n x,1):=by
 unfold eD;rw[if_neg (by decide),if_pos rfl,if_pos (show 0<[x].length by simp)];rfl
theorem KG(ls c s:List Nat)(hW:bC ls)(hs:aI ls=ls)(he:NA ls s=some c)(hc:c.length<2^64) :
  eD 2 s.length (bS ls++(grp c.length++c))=some (s,(bS ls++(grp c.length++c)).length):=by
 have h1:=Mr ls (grp c.length++c) hW;rw[hs]at h1;unfold eD;rw[if_neg (by decide),if_neg (by decide),if_pos rfl,h1];dsimp only;rw[List.drop_left];unfold oG;rw[fH _ _ hc];dsimp only;rw[if_pos ⟨oJ _ hc,by rw[List.length_append];omega⟩,List.drop_left,List.take_length,Vv ls s c hW he,Option.map_some,Option.map_some];simp only[List.length_append]
def aap(s E:List Nat):Prop:=(∃k t,E=k :: (grp s.length++t))∧(∀x∈E,x<256)∧E.length≤1+(grp s.length).length+s.length∧tY E (s.length:Int)=some (s,E.length)
def NJ(s:List Nat):List Nat:=0 :: (grp s.length++s)
def Ca(s:List Nat):List Nat:=1 :: (grp s.length++s.take 1)
theorem wO(s:List Nat):(NJ s).length=1+(grp s.length).length+s.length:=by rw[NJ,List.length_cons,List.length_append];omega
theorem zD(k n:Nat)(t:List Nat)(hk:k<256)(hn:n<2^64)(ht:∀x∈t,x<256):∀x∈k :: (grp n++t),x<256:=by
 intro x hx;rcases List.mem_cons.1 hx with rfl | hx
 ·exact hk
 ·rcases List.mem_append.1 hx with hx | hx
  ·exact jX n hn x hx
  ·exact ht x hx
theorem acC(s:List Nat)(hlt:∀x∈s,x<256)(hn:s.length≤1048576):aap s (NJ s):=
 ⟨⟨0,s,rfl⟩,zD 0 _ s (by decide) (by omega) hlt,by rw[wO];exact Nat.le_refl _,vE 0 s.length s s hn (Vj s)⟩
theorem SL(s:List Nat)(hlt:∀x∈s,x<256)(hn:s.length≤1048576)(h:kH (aF s)=1):aap s (Ca s):=by
 obtain⟨x,e,h0⟩:=vZ s h;have e1:s.take 1=[x]:=by
  rw[e,List.take_replicate,Nat.min_eq_left (by omega)];rfl
 have hx:x<256:=hlt x (by rw[e];exact List.mem_replicate.2 ⟨by omega,rfl⟩);refine⟨⟨1,s.take 1,rfl⟩,zD 1 _ _ (by decide) (by omega) (fun y hy=>hlt y (List.mem_of_mem_take hy)),?_,?_⟩
 ·rw[Ca,e1,List.length_cons,List.length_append,List.length_cons,List.length_nil];omega
 ·have hb:=KF x s.length;rw[←e,←e1]at hb;refine vE 1 s.length (s.take 1) s hn ?_;rw[hb,e1];rfl
def gD(ls c s:List Nat):List Nat:=2 :: (grp s.length++(bS ls++(grp c.length++c)))
theorem SQ(ls c s:List Nat)(hn:s.length≤1048576)(hW:bC ls)(hs:aI ls=ls)(he:NA ls s=some c)(hc:c.length≤1000000000)(hc256:∀x∈c,x<256)(hle:(gD ls c s).length<(NJ s).length):aap s (gD ls c s):=by
 refine⟨⟨2,_,rfl⟩,zD 2 _ _ (by decide) (by omega) (fun x hx=>?_),?_,vE 2 s.length _ s hn (KG ls c s hW hs he (by omega))⟩
 ·rcases List.mem_append.1 hx with hx | hx
  ·exact xA ls hW.2.1 hW.1 x hx
  ·rcases List.mem_append.1 hx with hx | hx
   ·exact jX _ (by omega) x hx
   ·exact hc256 x hx
 ·rw[wO]at hle;omega
theorem wR(bs:List Nat)(t:List Nat×Nat)(h:jf bs=some t):bC t.1:=by
 unfold jf at h;split at h
 ·cases h
 ·split at h
  ·cases h
  ·split at h
   ·next hc=>
    injection h with h
    subst h;exact hc.1
   ·cases h
end Go.Proofs.YtgiicohbigiapaaGreat.Bm
namespace Go.Proofs.YtgiicohbigiapaaGreat
theorem aaI(bs:List Nat)(m:Int)(t:List Nat×Nat)(hlt:∀x∈bs,x<256)(h:tY bs m=some t):(t.1.length:Int)≤m∧0<t.2∧t.2≤bs.length:=by
 have hle:=(oH bs [] m t h).2;cases bs with
 | nil=>cases h
 | cons k r=>
  unfold tY at h;dsimp only at h;split at h
  ·next hc=>
   have hrt:∀x∈r.drop (aj r).2,x<256:=fun x hx=>hlt x (List.mem_cons_of_mem _ (List.mem_of_mem_drop hx))
   cases hb:eD k (aj r).1 (r.drop (aj r).2)with
   | none=>rw[hb]at h;cases h
   | some q=>
    rw[hb]at h;injection h with h
    have hq:q.1.length=(aj r).1:=by
     unfold eD at hb;generalize (aj r).1=n at *;generalize r.drop (aj r).2=u at *;split at hb
     ·split at hb
      ·next hn=>injection hb with hb;rw[←hb];dsimp only;rw[List.length_take];omega
      ·cases hb
     ·split at hb
      ·split at hb
       ·injection hb with hb;rw[←hb];simp
       ·cases hb
      ·split at hb
       ·cases hr:jf u with
        | none=>rw[hr]at hb;cases hb
        | some p=>
         rw[hr]at hb;dsimp only at hb;cases hcb:oG p.1 (u.drop p.2) n with
         | none=>rw[hcb]at hb;cases hb
         | some q2=>
          rw[hcb]at hb;injection hb with hb
          unfold oG at hcb;split at hcb
          ·cases hd:KX p.1 (((u.drop p.2).drop (aj (u.drop p.2)).2).take (aj (u.drop p.2)).1) n with
           | none=>rw[hd]at hcb;cases hcb
           | some d=>
            rw[hd]at hcb;injection hcb with hcb
            have:=(Am p.1 _ d n (fun x hx=>hrt x (List.mem_of_mem_drop (List.mem_of_mem_drop (List.mem_of_mem_take hx)))) hd).2.1;rw[←hb,←hcb];exact this
          ·cases hcb
       ·cases hb
    subst h;refine⟨?_,?_,hle⟩
    ·show((q.1.length:Nat):Int)≤m;rw[hq];exact hc.2.1
    ·show 0<1+(aj r).2+q.2;omega
  ·cases h
theorem Po(bs:List Nat)(m:Int)(t:List Nat×Nat)(hlt:∀x∈bs,x<256)(h:tY bs m=some t):∀x∈t.1,x<256:=by
 cases bs with
 | nil=>cases h
 | cons k r=>
  unfold tY at h;dsimp only at h;split at h
  ·have hrt:∀x∈r.drop (aj r).2,x<256:=fun x hx=>hlt x (List.mem_cons_of_mem _ (List.mem_of_mem_drop hx))
   generalize (aj r).1=n at *;generalize r.drop (aj r).2=u at *;cases hb:eD k n u with
   | none=>rw[hb]at h;cases h
   | some q=>
    rw[hb]at h;injection h with h
    subst h;show ∀x∈q.1,x<256;unfold eD at hb;split at hb
    ·split at hb
     ·injection hb with hb;rw[←hb];exact fun x hx=>hrt x (List.mem_of_mem_take hx)
     ·cases hb
    ·split at hb
     ·split at hb
      ·next h0=>
       injection hb with hb
       rw[←hb];intro x hx;rw[(List.mem_replicate.1 hx).2,List.getElem?_eq_getElem h0];exact hrt _ (List.getElem_mem h0)
      ·cases hb
     ·split at hb
      ·cases hr:jf u with
       | none=>rw[hr]at hb;cases hb
       | some p=>
        have hW:=(wR u p hr).1;rw[hr]at hb;dsimp only at hb;cases hcb:oG p.1 (u.drop p.2) n with
        | none=>rw[hcb]at hb;cases hb
        | some q2=>
         rw[hcb]at hb;injection hb with hb
         unfold oG at hcb;split at hcb
         ·cases hd:KX p.1 (((u.drop p.2).drop (aj (u.drop p.2)).2).take (aj (u.drop p.2)).1) n with
          | none=>rw[hd]at hcb;cases hcb
          | some d=>
           rw[hd]at hcb;injection hcb with hcb
           have:=(Am p.1 _ d n (fun x hx=>hrt x (List.mem_of_mem_drop (List.mem_of_mem_drop (List.mem_of_mem_take hx)))) hd).2.2;rw[←hb,←hcb];exact fun x hx=>Nat.lt_of_lt_of_le (this x hx) hW
         ·cases hcb
      ·cases hb
  ·cases h
open Go.RowKit
structure Sep(S:Nat→Prop)(w w':World):Prop where
 os:w'.os=w.os
 tape:w'.tape=w.tape
 output:w'.output=w.output
 size:w.heap.size≤w'.heap.size
 block:∀k,k<w.heap.size→¬S k→w'.heap[k]?=w.heap[k]?
theorem Sep.below{S:Nat→Prop}{w w':World}{B:Nat}(h:Sep S w w')(hS:∀k,S k→B≤k)(hB:B≤w.heap.size):Below B w w':=
 ⟨h.os,h.tape,h.output,h.size,fun k hk=>h.block k (by omega) (fun hs=>by have:=hS k hs;omega)⟩
end Go.Proofs.YtgiicohbigiapaaGreat
