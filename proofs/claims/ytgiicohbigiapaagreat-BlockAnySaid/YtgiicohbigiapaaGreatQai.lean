/- Contracts. -/
import Derived.Test.YtgiicohbigiapaaGreatQad
import Derived.ProofKit
import Derived.OpenShut
import Derived.Test.YtgiicohbigiapaaGreatQz1
import Derived.Test.YtgiicohbigiapaaGreatQz0
set_option maxHeartbeats 4000000
set_option maxRecDepth 100000
open Go.Proofs.Tryz Go.Proofs.YtgiicohbigiapaaGreat.ao List Nat Option
namespace Go.Proofs.YtgiicohbigiapaaGreat
open Go.ChangeShapes Go.WideShapes Go.ChangeAt Go.RowKit
def gL(l:List Int):b3:=l.map λz=>.int .i64 z
theorem Ys(l:List Int):(gL l).length=l.length:=by simp[gL]
theorem akN(l:List Int)(i:Nat)(h:i<l.length):(gL l)[i]?=some (.int .i64 l[i]):=by simp[gL,h]
theorem jT(l:ae):gL (l.map λn:Nat=>(n:Int))=aM l:=by simp[gL,aM]
theorem wb{w:ai}{A:a7}{l:List Int}(h:Reads w A (gL l))(aX:0<l.length):∃g off,A=some ⟨g,off,none⟩/\∀j (ar:j<l.length),w.cell? ⟨g,off+j,none⟩=some (.int .i64 l[j]):=by
 have hne':gL l≠[]:=λe=>by
  have h1:=congrArg List.length e;rw[Ys,length_nil]at h1;omega
 obtain⟨g,off,e,hc⟩:=h hne';exact⟨g,off,e,λj ar=>by rw[hc j (by rw[Ys];exact ar),akN l j ar]⟩
theorem c9{w W:ai}{A:a7}{xs:b3}(h:Reads w A xs)(ak:Below w.heap.size w W):Reads W A xs:=λaX=>by
 obtain⟨g,off,e,hc⟩:=h aX;refine⟨g,off,e,λj ar=>?_⟩;have h1:=hc j ar;rw[bH ar]at h1 ⊢;rw[<-h1];exact ak.cell (p:=⟨g,off+j,none⟩) (World.block_lt_of_cell? w _ h1)
theorem iL{w W:ai}{b:Nat}{t:TypeId}{ag:b3}(aj:Row w b t ag)(ak:Below w.heap.size w W):Row W b t ag:=aj.keep (ak.block b aj.lt)
theorem oF:(prog.info? 3).map (λi=>(i.zero,i.size,i.bytes))=some (some (.int .i64 0),1,8):=by kernel_rfl
theorem ut{w:ai}{base g n:Nat}(h:w.ownsRow base 3 1 (.slice (some ⟨g,0,none⟩) n n) n (madeCells #[Value.int .i64 0] n).toList):Row w g 3 (aM (List.replicate n 0)):=by
 rcases h.2 with⟨aE,_⟩ | ⟨fd,cap,fg,aE,ak,hh,h1,af,aq,aJ⟩
 .cases aE
 .injection aE with aF e2 e3
  injection aF with aF
  injection aF with aF
  subst aF e3;have e:fg.toList=aM (List.replicate n 0):=by
   rw[take_of_length_le (by rw[Array.length_toList];omega)]at aJ;rw[aJ,toList_madeCells_one];simp only[aM,map_replicate];rfl
  unfold Row;rw[<-e,Array.toArray_toList];exact hh
namespace ao
def en(z:Int):Prop:=-9223372036854775808<=z/\z<=9223372036854775807
def gC(l:List Int):Nat:=l.countP λz=>decide (0<z)
theorem arB(l:List Int)(k:Nat)(h:k<l.length):gC (l.take (k+1))=gC (l.take k)+(if 0<l[k]then 1 else 0):=by
 unfold gC;rw[gb h,countP_append,countP_singleton];simp
theorem I0(l:List Int):gC l<=l.length:=countP_le_length
def eX:ae->Nat
 | []=>0
 | b :: bs=>max (b+1) (eX bs)
def iC(bs:ae):ae:=(List.range (eX bs)).map λs=>bs.count s
theorem ar4(a b:ae):eX (a++b)=max (eX a) (eX b):=by
 induction a with
 | nil=>simp[eX]
 | cons x a ih=>rw[cons_append,eX,ih,eX];omega
theorem abS(bs:ae)(k:Nat)(h:k<bs.length):eX (bs.take (k+1))=max (eX (bs.take k)) (bs[k]+1):=by
 rw[gb h,ar4];simp[eX]
theorem uy(bs:ae)(h:∀x∈bs,x<256):eX bs<=256:=by
 induction bs with
 | nil=>simp[eX]
 | cons x a ih=>
  have h1:=ih (λy hy=>h y (ew _ hy));have af:=h x ea;rw[eX];omega
theorem x2(bs:ae)(b:Nat)(h:b∈bs):b<eX bs:=by
 induction bs with
 | nil=>cases h
 | cons x a ih=>
  rw[eX];rcases List.mem_cons.1 h with rfl | h1
  .omega
  .have:=ih h1;omega
def nQ(bs:ae)(k:Nat):ae:=(List.range (eX bs)).map λs=>(bs.take k).count s
theorem TX(bs:ae):nQ bs 0=List.replicate (eX bs) 0:=by
 unfold nQ;rw[take_zero];simp only[count_nil];rw[map_const',length_range]
theorem TU(bs:ae):nQ bs bs.length=iC bs:=by unfold nQ iC;rw[take_length]
theorem agH(bs:ae)(k:Nat):(nQ bs k).length=eX bs:=by simp[nQ]
theorem TV(bs:ae)(k b:Nat)(h:b<eX bs):(nQ bs k)[b]?=some ((bs.take k).count b):=by simp[nQ,h]
theorem TW(bs:ae)(k:Nat)(h:k<bs.length):nQ bs (k+1)=(nQ bs k).set bs[k] ((bs.take k).count bs[k]+1):=by
 apply ext_getElem
 .simp[agH]
 .intro i h1 af;rw[getElem_set];simp only[nQ,getElem_map,getElem_range];rw[gb h,count_append,count_singleton];by_cases e:bs[k]=i
  .subst e;simp
  .simp[e]
end ao
theorem amE(T b:Nat):max ((T:Int)-1) (b:Int)=((max T (b+1):Nat):Int)-1:=by omega
theorem vR(n:Int)(w:ai)(az:n<=40) :
  Calls prog 82 #[.int .i64 n] w λe w'=>e=.returned (.int .i64 ((2^n.toNat:Nat):Int))/\w=w':=by
 obtain⟨r,hres⟩:∃r,r=2^n.toNat:=⟨_,rfl⟩;rw[<-hres];have bt:=I hres;clear hres;go_enter func82,ntmps82
 go_wp2;go_loop [3,4] (λx i=>∃k:Nat,k<=n.toNat/\i=.int .i64 k/\x=.int .i64 ((2^k:Nat):Int)) (λ_ i=>n.toNat-(intOf i).toNat)
 case atStart=>exact⟨0,by omega,rfl,rfl⟩
 case round=>
  obtain⟨k,hk,rfl,rfl⟩:=hrel;have DC:2^k<=2^40:=dD (by omega) (by omega);have UO:(2:Nat)^40=1099511627776:=by decide
  rw[UO]at DC;clear UO;have ap:2^(k+1)=2^k*2:=ej 2 k;have bU:=I ap;have eS:Hid (k=n.toNat->2^k=r):=I (λe=>by rw[e,bt.out]);clear ap bt;generalize 2^k=m at DC bU eS ⊢;by_cases bb:(k:Int)<n
  .go_wp2;go_round
   case rel=>exact⟨k+1,by omega,by go_num,by rw[bU.out];go_num⟩
   case measure=>simp[intOf];omega
  .rw[eS.out (by omega)];go_wp2;go_ret;exact⟨rfl,rfl⟩
namespace ao
def Fair(l:List Int)(log:Int):Prop:=5<=log/\log<=9/\l.length<=256/\(∀x∈l,0<=x/\x<=1000)/\l.sum=((2^log.toNat:Nat):Int)
instance (l:List Int) (log:Int):Decidable (Fair l log):=by unfold Fair;exact inferInstance
def qp(l:List Int)(log:Int):Bool:=decide (Fair l log)
theorem abv(l:List Int)(k:Nat)(h:k<l.length):(l.take (k+1)).sum=(l.take k).sum+l[k]:=by
 rw[gb h,sum_append_int,sum_singleton]
theorem KT(p:Int->Prop)(l:List Int)(k:Nat)(h:k<l.length)(am:∀x∈l.take k,p x)(h1:p l[k]):∀x∈l.take (k+1),p x:=by
 rw[gb h];intro x ah;rcases List.mem_append.1 ah with af | af
 .exact am x af
 .rw[List.mem_singleton.1 af];exact h1
theorem abs(l:List Int)(h:∀x∈l,0<=x/\x<=1000):0<=l.sum/\l.sum<=1000*l.length:=by
 induction l with
 | nil=>simp
 | cons a l ih=>
  have h1:=ih (λx ah=>h x (ew _ ah));have af:=h a ea;rw[sum_cons,b1];omega
end ao
theorem ajj(A:a7)(c:Nat)(l:List Int)(log:Int)(w:ai)(hl:l.length<=1000000000)(aj:Reads w A (gL l)) :
  Calls prog 156 #[.slice A l.length c,.int .i64 log] w λe w'=>e=.returned (.bool (qp l log))/\w=w':=by
 have aU:=I aj;obtain⟨r,hres⟩:∃r,r=qp l log:=⟨_,rfl⟩;rw[<-hres];have fe:∀P:Prop,(ao.Fair l log->P)->¬P->false=r:=λP h aw=>by
  rw[hres];symm;unfold qp;exact bF (λh1=>aw (h h1))
 have c8:=I fe;have bt:=I hres;clear aj hres fe;by_cases h1:log<5
 .have aL:false=r:=c8.out (5<=log) (λh=>h.1) (by omega);rw[<-aL];go_enter func156,ntmps156
  go_wp2;go_ret;exact⟨rfl,rfl⟩
 by_cases af:9<log
 .have aL:false=r:=c8.out (log<=9) (λh=>h.2.1) (by omega);rw[<-aL];go_enter func156,ntmps156
  go_wp2;go_ret;exact⟨rfl,rfl⟩
 by_cases aq:256<l.length
 .have aL:false=r:=c8.out (l.length<=256) (λh=>h.2.2.1) (by omega);rw[<-aL];go_enter func156,ntmps156
  go_wp2;go_ret;exact⟨rfl,rfl⟩
 have ap:=I (vR log w (by omega));go_enter func156,ntmps156
 go_wp2;go_loop [5,6] (λn i=>∃k:Nat,k<=l.length/\i=.int .i64 k/\n=.int .i64 (l.take k).sum/\∀x∈l.take k,0<=x/\x<=1000) (λ_ i=>l.length-(intOf i).toNat)
 case atStart=>exact⟨0,by omega,rfl,rfl,by simp⟩
 case round=>
  obtain⟨k,hk,rfl,rfl,hall⟩:=hrel;by_cases bb:k<l.length
  .obtain⟨g,off,rfl,hc⟩:=wb aU.out (by omega);have c0:=hc k bb;have ak:=abs _ hall;rw[cq,Nat.min_eq_left (by omega)]at ak;have bU:=I (abv l k bb);have jp:=I (KT (λx=>0<=x/\x<=1000) l k bb hall);have ci:=I (b7 bb);clear hc hall bt ap;generalize (l.take k).sum=m at ak bU ⊢;generalize l[k]=z at c0 bU jp ci;by_cases aO:z<0
   .have aL:false=r:=c8.out (0<=z) (λh=>(h.2.2.2.1 z ci.out).1) (by omega);have bk:=I aL;clear aL;go_wp2;go_ret;exact⟨congrArg (λx=>Ending.returned (Value.bool x)) bk,rfl⟩
   by_cases bw:1000<z
   .have aL:false=r:=c8.out (z<=1000) (λh=>(h.2.2.2.1 z ci.out).2) (by omega);have bk:=I aL;clear aL;go_wp2;go_ret;exact⟨congrArg (λx=>Ending.returned (Value.bool x)) bk,rfl⟩
   go_wp2;go_round
   case rel=>exact⟨k+1,by omega,by go_num,by rw[bU.out],jp.out (by omega)⟩
   case measure=>simp[intOf];omega
  .obtain rfl:k=l.length:=by omega
   rw[take_length]at hall ⊢;have ak:=abs _ hall;have hres:(l.sum == ((2^log.toNat:Nat):Int))=r:=by
    rw[bt.out];unfold qp;rw[Bool.eq_iff_iff,beq_iff_eq,decide_eq_true_iff];exact⟨λh=>⟨by omega,by omega,by omega,hall,h⟩,λh=>h.2.2.2.2⟩
   clear aU c8 bt hall;generalize 2^log.toNat=m at hres ap;generalize l.sum=q at hres ak ⊢;go_wp2_with fail
   refine ap.out.mono ?_;rintro e w' ⟨rfl,rfl⟩;go_wp2;go_ret;exact⟨rfl,rfl⟩
namespace ao
def jC:ae->Nat
 | []=>0
 | x :: l=>max x (jC l)
def fR(l:ae):Nat:=l.idxOf (jC l)
theorem H8(l:ae):∀x∈l,x<=jC l:=by
 induction l with
 | nil=>intro x h;cases h
 | cons a l ih=>
  intro x h;rw[jC];rcases List.mem_cons.1 h with rfl | h
  .omega
  .have:=ih x h;omega
theorem Oz(l:ae)(h:l≠[]):jC l∈l:=by
 induction l with
 | nil=>exact absurd rfl h
 | cons a l ih=>
  rw[jC];by_cases hl:l=[]
  .subst hl;simp[jC]
  .have h1:=ih hl;by_cases af:jC l<=a
   .rw[Nat.max_eq_left af];exact ea
   .rw[Nat.max_eq_right (by omega)];exact ew _ h1
theorem Dx(l:ae)(h:l≠[]):fR l<l.length:=idxOf_lt_length_of_mem (Oz l h)
theorem Dw(l:ae)(h:fR l<l.length):l[fR l]=jC l:=getElem_idxOf h
theorem amD(a b:ae):jC (a++b)=max (jC a) (jC b):=by
 induction a with
 | nil=>simp[jC]
 | cons x a ih=>rw[cons_append,jC,ih,jC];omega
theorem ahJ(a:ae)(x:Nat)(h:a≠[]):fR (a++[x])=if jC a<x then a.length else fR a:=by
 have hm:=Oz a h;have e:jC [x]=x:=by simp[jC]
 unfold fR;rw[amD,e];split
 .next av=>
  rw[Nat.max_eq_right (by omega),idxOf_append,ay (λah=>by have:=H8 a x ah;omega)];simp
 .next av=>
  rw[Nat.max_eq_left (by omega),idxOf_append,aA hm]
theorem PV(p:ae)(k:Nat)(f:Nat->Nat)(h:k<p.length):(p.modify k f).sum+p[k]=p.sum+f p[k]:=by
 induction p generalizing k with
 | nil=>simp at h
 | cons a p ih=>
  cases k with
  | zero=>simp;omega
  | succ k=>
   have:=ih k (by simpa using h);simp[modify_succ_cons]at this ⊢;omega
theorem get_modify(p:ae)(k i:Nat)(f:Nat->Nat):(p.modify k f)[i]?=if k=i then p[i]?.map f else p[i]?:=by
 rw[getElem?_modify];cases h:p[i]?<;>split<;>simp
def o0(p q:ae):Prop:=p.length=q.length/\∀i:Nat,0<p[i]?.getD 0↔0<q[i]?.getD 0
theorem o0.refl(p:ae):o0 p p:=⟨rfl,λ_=>Iff.rfl⟩
theorem o0.trans{p q r:ae}(h:o0 p q)(k:o0 q r):o0 p r:=⟨h.1.trans k.1,λi=>(h.2 i).trans (k.2 i)⟩
def lp(l:ae):Nat:=l.countP λn=>decide (0<n)
theorem o0.lp:∀{p q:ae},o0 p q->lp p=lp q
 | [],[],_=>rfl
 | [],_ :: _,h=>by have:=h.1;simp at this
 | _ :: _,[],h=>by have:=h.1;simp at this
 | a :: p,b :: q,h=>by
  have am:=h.2 0;have h1:o0 p q:=⟨by have:=h.1;simpa using this,λi=>by have:=h.2 (i+1);simpa using this⟩;have af:=h1.lp;unfold ao.lp at af ⊢;rw[countP_cons,countP_cons,af];simp at am;by_cases aS:0<a<;>simp[aS,am.1]<;>simp_all
theorem abt(l:ae)(h:∀x∈l,x<=1):l.sum<=lp l:=by
 induction l with
 | nil=>simp
 | cons a l ih=>
  have h1:=ih (λx ah=>h x (ew _ ah));have af:=h a ea;unfold lp at h1 ⊢;rw[sum_cons,countP_cons];by_cases aS:0<a
  .simp[aS];omega
  .simp[aS];omega
def decs:Nat->ae->ae
 | 0,p=>p
 | k+1,p=>decs k (p.modify (fR p) (·-1))
theorem T8(size:Nat):∀(k:Nat) (p:ae),lp p<=size->p.sum=size+k->(decs k p).sum=size/\o0 (decs k p) p
 | 0,p,_,ap=>⟨by simpa [decs]using ap,o0.refl p⟩
 | k+1,p,aw,ap=>by
  have aX:p≠[]:=by rintro rfl;simp at ap
  have av:=Dx p aX;have hget:=Dw p av;have af:2<=jC p:=by
   rcases eP (jC p) 2 with h1 | h1
   .have:=abt p (λx ah=>by have:=H8 p x ah;omega);omega
   .exact h1
  have hsum:=PV p (fR p) (·-1) av;rw[hget]at hsum;have hsame:o0 (p.modify (fR p) (·-1)) p:=by
   refine⟨by simp,λi=>?_⟩;rw[get_modify];split
   .next e=>
    subst e;rw[bH av,hget];simp;omega
   .exact Iff.rfl
  have aq:=T8 size k (p.modify (fR p) (·-1)) (by rw[hsame.lp];exact aw) (by omega);exact⟨aq.1,aq.2.trans hsame⟩
def pi(size total c:Nat):Nat:=if c*size/total=0/\0<c then 1 else c*size/total
def parts(ag:ae)(size:Nat):ae:=ag.map (pi size ag.sum)
def wk(ag:ae)(size:Nat):ae:=
 if (parts ag size).sum<size then(parts ag size).modify (fR ag) (·+(size-(parts ag size).sum))else decs ((parts ag size).sum-size) (parts ag size)
theorem anB(size total c:Nat):0<pi size total c↔0<c:=by
 unfold pi;split
 .next h=>simp[h.2]
 .next h=>
  constructor
  .intro h1;rcases eq_zero_or_pos c with af | af
   .subst af;simp at h1
   .exact af
  .intro h1;rcases eq_zero_or_pos (c*size/total)with af | af
   .exact absurd ⟨af,h1⟩ h
   .exact af
theorem ZW(ag:ae)(size:Nat):o0 (parts ag size) ag:=by
 refine⟨by simp[parts],λi=>?_⟩;unfold parts;rw[getElem?_map];cases h:ag[i]? with
 | none=>simp
 | some c=>simp[anB]
theorem PD(ag:ae)(size:Nat)(am:0<ag.sum)(h:lp ag<=size):(wk ag size).sum=size/\o0 (wk ag size) ag:=by
 have hsame:=ZW ag size;unfold wk;split
 .next av=>
  have aX:ag≠[]:=by rintro rfl;simp at am
  have hlt2:=Dx ag aX;have hlt3:fR ag<(parts ag size).length:=by rw[hsame.1];exact hlt2
  have ap:=PV (parts ag size) (fR ag) (·+(size-(parts ag size).sum)) hlt3;refine⟨by omega,⟨by simp[hsame.1],λi=>?_⟩⟩;rw[get_modify];split
  .next e=>
   subst e;have h1:=hsame.2 (fR ag);have aw:0<ag[fR ag]?.getD 0:=by
    rw[bH hlt2,Dw ag hlt2];simp;rcases eq_zero_or_pos (jC ag)with af | af
    .have aq:ag.sum=0:=by
      have:∀(l:ae),(∀x∈l,x=0)->l.sum=0:=λl=>by
       induction l with
       | nil=>simp
       | cons a l ih=>intro hh;rw[sum_cons,hh a ea,ih (λx ah=>hh x (ew _ ah))]
      exact this ag (λx ah=>by have:=H8 ag x ah;omega)
     omega
    .exact af
   rw[bH hlt3]at h1 ⊢;simp at h1 ⊢;have:=h1.2 aw;omega
  .exact hsame.2 i
 .next av=>
  have h1:=T8 size ((parts ag size).sum-size) (parts ag size) (by rw[hsame.lp];exact h) (by omega);exact⟨h1.1,h1.2.trans hsame⟩
def Right(l:List Int):Prop:=l.length<=256/\(∀x∈l,0<=x/\x<=1048576)/\∃x∈l,0<x
def s4(sym q:Nat):Nat:=
 if 4*sym<=32/\q<=32 then 5 else if 4*sym<=64/\q<=64 then 6 else if 4*sym<=128/\q<=128 then 7 else if 4*sym<=256/\q<=256 then 8 else 9
theorem Y1(sym q:Nat)(h:sym<=256):5<=s4 sym q/\s4 sym q<=9/\sym<=2^s4 sym q:=by
 unfold s4;split
 .refine⟨by omega,by omega,?_⟩;have:(2:Nat)^5=32:=by decide
  omega
 split
 .refine⟨by omega,by omega,?_⟩;have:(2:Nat)^6=64:=by decide
  omega
 split
 .refine⟨by omega,by omega,?_⟩;have:(2:Nat)^7=128:=by decide
  omega
 split
 .refine⟨by omega,by omega,?_⟩;have:(2:Nat)^8=256:=by decide
  omega
 .refine⟨by omega,by omega,?_⟩;have:(2:Nat)^9=512:=by decide
  omega
end ao
namespace ao
instance (l:List Int):Decidable (Right l):=by unfold Right;exact inferInstance
def sg(l:List Int)(log:Int):Prop:=Right l/\5<=log/\log<=9/\gC l<=2^log.toNat
instance (l:List Int) (log:Int):Decidable (sg l log):=by unfold sg;exact inferInstance
def pk(l:List Int)(log:Int):List Int:=if sg l log then(wk (l.map Int.toNat) (2^log.toNat)).map (λn:Nat=>(n:Int))else []
def fk(l:List Int):Nat:=if Right l then s4 (gC l) (l.sum.toNat/8)else 0
end ao
def aci:Prop:=∀(A:a7) (c:Nat) (bs:ae) (w:ai),bs.length<=1000000->(∀x∈bs,x<256)->Reads w A (aN bs) ->
 Calls prog 64 #[.slice A bs.length c] w λe w'=>∃de df,e=.returned (.slice de (eX bs) df)/\Reads w' de (aM (iC bs))/\Below w.heap.size w w'
def ack:Prop:=∀(A:a7) (c:Nat) (l:List Int) (w:ai),l.length<=1000000->Reads w A (gL l) ->
 Calls prog 65 #[.slice A l.length c] w λe w'=>e=.returned (.int .i64 (gC l))/\Below w.heap.size w w'
def ach:Prop:=∀(A:a7) (c:Nat) (l:List Int) (w:ai),l.length<=1000000->(∀x∈l,en x)->Reads w A (gL l) ->
 Calls prog 162 #[.slice A l.length c] w λe w'=>e=.returned (.int .i64 (fk l))/\Below w.heap.size w w'
def acj:Prop:=∀(A:a7) (c:Nat) (l:List Int) (log:Int) (w:ai),l.length<=1000000->(∀x∈l,en x)->en log->Reads w A (gL l) ->
 Calls prog 163 #[.slice A l.length c,.int .i64 log] w λe w'=>∃de df,e=.returned (.tuple #[.slice de (pk l log).length df,.bool (decide (sg l log))])/\Reads w' de (gL (pk l log))/\Below w.heap.size w w'
namespace ao
def er(bs:ae):List Int:=(iC bs).map λn:Nat=>(n:Int)
theorem tM(bs:ae):(er bs).length=eX bs:=by simp[er,iC]
theorem GQ(bs:ae)(x:Int)(h:x∈er bs):0<=x/\x<=bs.length:=by
 unfold er iC at h;rw[List.map_map,mem_map]at h;obtain⟨s,_,rfl⟩:=h;have:=count_le_length (a:=s) (l:=bs);exact⟨Int.natCast_nonneg _,by simp only[Function.comp_apply];omega⟩
theorem TT(bs:ae)(av:∀x∈bs,x<256)(hl:bs.length<=1048576)(am:0<bs.length):Right (er bs):=by
 refine⟨by rw[tM];exact uy bs av,λx ah=>by have:=GQ bs x ah;omega,?_⟩;obtain⟨b,ak⟩:∃b,b∈bs:=by
  cases bs with
  | nil=>simp at am
  | cons b bs=>exact⟨b,ea⟩
 refine⟨((bs.count b:Nat):Int),?_,?_⟩
 .unfold er iC;rw[List.map_map,mem_map];exact⟨b,List.mem_range.2 (x2 bs b ak),rfl⟩
 .have:=List.count_pos_iff.2 ak;omega
theorem Ll(bs:ae)(av:∀x∈bs,x<256)(hl:bs.length<=1048576):sg (er bs) (fk (er bs):Int)↔0<bs.length:=by
 constructor
 .rintro⟨⟨_,_,x,ah,am⟩,_⟩;have:=GQ bs x ah;omega
 .intro am;have aj:=TT bs av hl am;have ap:=I0 (er bs);rw[tM]at ap;have aC:=uy bs av;have h1:=Y1 (gC (er bs)) ((er bs).sum.toNat/8) (by omega);unfold fk;rw[aA aj];exact⟨aj,by omega,by omega,by rw[cY];exact h1.2.2⟩
end ao
abbrev oR:=Nat×Nat×Nat
def pF(t:oR):b3:=[.int .u8 (t.1:Int),.int .i64 (t.2.1:Int),.int .i64 (t.2.2:Int)]
def c3:List oR->b3
 | []=>[]
 | t :: l=>pF t++c3 l
theorem K6(l:List oR):(c3 l).length=l.length*3:=by
 induction l with
 | nil=>rfl
 | cons t l ih=>rw[c3,aY,ih,b1];simp[pF];omega
theorem yP(l:List oR)(i:Nat)(h:i<l.length):(c3 l)[i*3]?=some (.int .u8 (l[i].1:Int))/\(c3 l)[i*3+1]?=some (.int .i64 (l[i].2.1:Int))/\(c3 l)[i*3+2]?=some (.int .i64 (l[i].2.2:Int)):=by
 induction l generalizing i with
 | nil=>simp at h
 | cons t l ih=>
  cases i with
  | zero=>exact⟨rfl,rfl,rfl⟩
  | succ i=>
   have h1:=ih i (by simpa using h);rw[c3];have e:∀j,(pF t++c3 l)[(i+1)*3+j]?=(c3 l)[i*3+j]?:=λj=>by
    rw[jk (by simp[pF];omega)];congr 1
    simp[pF];omega
   have e0:=e 0;rw[ga,ga]at e0;rw[e0,e 1,e 2];exact h1
theorem GB(l:List oR)(i:Nat)(h:i<l.length)(s b z:Nat) :
  (c3 l).set (i*3) (.int .u8 s)=c3 (l.set i (s,l[i].2))/\(c3 l).set (i*3+1) (.int .i64 b)=c3 (l.set i (l[i].1,b,l[i].2.2))/\(c3 l).set (i*3+2) (.int .i64 z)=c3 (l.set i (l[i].1,l[i].2.1,z)):=by
 induction l generalizing i with
 | nil=>simp at h
 | cons t l ih=>
  cases i with
  | zero=>exact⟨rfl,rfl,rfl⟩
  | succ i=>
   have h1:=ih i (by simpa using h);have e:∀j v,(pF t++c3 l).set ((i+1)*3+j) v=pF t++(c3 l).set (i*3+j) v:=λj v=>by
    rw[set_append_right _ _ (by simp[pF];omega)];congr 2
    simp[pF];omega
   have e0:=λv=>e 0 v
   simp only[ga]at e0;simp only[c3,e0,e 1,e 2,set_cons_succ,getElem_cons_succ];exact⟨by rw[h1.1],by rw[h1.2.1],by rw[h1.2.2]⟩
theorem apk{w:ai}{A:a7}{l:List oR}(h:Reads w A (c3 l))(aX:0<l.length):∃g off,A=some ⟨g,off,none⟩/\∀j (ar:j<l.length),w.cell? ⟨g,off+j*3,none⟩=some (.int .u8 (l[j].1:Int))/\w.cell? ⟨g,off+j*3+1,none⟩=some (.int .i64 (l[j].2.1:Int))/\w.cell? ⟨g,off+j*3+2,none⟩=some (.int .i64 (l[j].2.2:Int)):=by
 have hne':c3 l≠[]:=λe=>by
  have h1:=congrArg List.length e;rw[K6,length_nil]at h1;omega
 obtain⟨g,off,e,hc⟩:=h hne';refine⟨g,off,e,λj ar=>?_⟩;obtain⟨am,h1,af⟩:=yP l j ar;have hl:=K6 l;have bC:=hc (j*3) (by omega);have bf:=hc (j*3+1) (by omega);have bM:=hc (j*3+2) (by omega);rw[am]at bC;rw[h1,<-jb]at bf;rw[af,<-jb]at bM;exact⟨bC,bf,bM⟩
theorem aoI{P:Program}{f:FuncId}{args:Array Value}{w:ai}{n:Nat}{v:Value}
  (h:Calls P f args (w.drewN n) λe w'=>e=.returned v/\w.drewN n=w'):Calls P f args (w.drewN n) λe pq=>e=.returned v/\∃m,pq=w.drewN m:=
 h.mono λ_ _ ⟨he,hm⟩=>⟨he,n,hm.symm⟩
namespace ao
def nL(U:ae)(log:Nat):List oR:=(List.range (2^log)).map λp=>(cD U log p,cc U log p,ep U log p)
def mS(U:ae)(log K:Nat):List oR:=(List.range (2^log)).map λp=>((if rz log p<K then cD U log p else 0),0,0)
def hY(U:ae)(log s i:Nat):List oR:=(List.range (2^log)).map λp=>if cD U log p<s\/(cD U log p=s/\p<i)then(cD U log p,cc U log p,ep U log p)else(cD U log p,0,0)
theorem K9(U:ae)(log:Nat):(nL U log).length=2^log:=by simp[nL]
theorem Iu(U:ae)(log K:Nat):(mS U log K).length=2^log:=by simp[mS]
theorem ZZ(U:ae)(log s i:Nat):(hY U log s i).length=2^log:=by simp[hY]
theorem TC(U:ae)(log p:Nat)(h:p<(nL U log).length):(nL U log)[p]=(cD U log p,cc U log p,ep U log p):=by simp[nL]
theorem ZY(U:ae)(log:Nat):mS U log 0=List.replicate (2^log) (0,0,0):=by
 unfold mS;simp only[not_lt_zero,if_false];rw[map_const',length_range]
theorem ZX(U:ae)(log K s:Nat)(aR:5<=log)(dm:log<=9)(hK:K<2^log)(ap:(oP 0 U)[K]?=some s) :
  ∃h:gU log K<(mS U log K).length,mS U log (K+1)=(mS U log K).set (gU log K) (s,(mS U log K)[gU log K].2):=by
 have aw:=Ix log K;refine⟨by rw[Iu];exact aw,?_⟩;have ax:=inv_pos log K aR dm hK;apply ext_getElem
 .simp[Iu]
 .intro p h1 af;have nZ:p<2^log:=by rw[Iu]at h1;exact h1
  rw[getElem_set];simp only[mS,getElem_map,getElem_range];by_cases e:gU log K=p
  .subst e;rw[aA rfl,ax,aA (by omega)];unfold cD;rw[ax,ap];rfl
  .rw[ay e];have aX:rz log p≠K:=λh=>e (by rw[<-h];exact O8 log p aR dm nZ)
   by_cases av:rz log p<K
   .rw[aA av,aA (by omega)]
   .rw[ay av,ay (by omega)]
theorem anK(U:ae)(log:Nat):mS U log (2^log)=hY U log 0 0:=by
 unfold mS hY;apply map_congr_left
 intro p _;rw[aA (N6 log p),ay (by omega)]
theorem Z0(U:ae)(log s i:Nat)(h:cD U log i≠s):hY U log s (i+1)=hY U log s i:=by
 unfold hY;apply map_congr_left
 intro p _;by_cases e:p=i
 .subst e;congr 1
  apply propext
  constructor<;>intro h1<;>omega
 .congr 1
  apply propext
  constructor<;>intro h1<;>omega
theorem anO(U:ae)(log i:Nat):hY U log (cD U log i) (i+1)=(hY U log (cD U log i) i).set i (cD U log i,cc U log i,ep U log i):=by
 apply ext_getElem
 .simp[ZZ]
 .intro p h1 af;rw[getElem_set];simp only[hY,getElem_map,getElem_range];by_cases e:i=p
  .subst e;rw[aA rfl,aA (by omega)]
  .rw[ay e];congr 1
   apply propext
   constructor<;>intro aq<;>omega
theorem anM(U:ae)(log s i:Nat)(ap:cD U log i=s)(h:i<(hY U log s i).length):(hY U log s i)[i]=(s,0,0):=by
 subst ap;simp only[hY,getElem_map,getElem_range];rw[ay (by omega)]
theorem anP(U:ae)(log s i p:Nat)(h:p<(hY U log s i).length):(hY U log s i)[p].1=cD U log p:=by
 simp only[hY,getElem_map,getElem_range];split<;>rfl
theorem anN(U:ae)(log s:Nat):hY U log s (2^log)=hY U log (s+1) 0:=by
 unfold hY;apply map_congr_left
 intro p aw;have:=List.mem_range.1 aw;congr 1
 apply propext
 constructor<;>intro h1<;>omega
theorem Z1(U:ae)(log s:Nat)(h:ec U log)(ap:U[s]?.getD 0=0):hY U log s 0=hY U log (s+1) 0:=by
 unfold hY;apply map_congr_left
 intro p aw;have aX:cD U log p≠s:=λe=>by
  obtain⟨h1,af⟩:=xZ U log p h (List.mem_range.1 aw);have aq:U[cD U log p]?.getD 0=0:=by rw[e];exact ap
  rw[bH h1,b6]at aq;omega
 congr 1
 apply propext
 constructor<;>intro h1<;>omega
theorem anL(U:ae)(log:Nat)(h:ec U log):hY U log U.length 0=nL U log:=by
 unfold hY nL;apply map_congr_left
 intro p aw;obtain⟨h1,_⟩:=xZ U log p h (List.mem_range.1 aw);rw[aA (Or.inl h1)]
theorem abD(U:ae)(log p:Nat)(aw:p<2^log)(h:p<(e9 U log).length):(e9 U log)[p]=cD U log p:=by
 have:=z1 U log p aw;rw[bH h]at this;injection this
end ao
theorem Y6(n:Nat):(madeCells #[Value.int .u8 0,.int .i64 0,.int .i64 0] (n*3)).toList=c3 (List.replicate n (0,0,0)):=by
 apply ext_getElem
 .simp[madeCells,K6]
 .intro i h1 af;have ax:i<n*3:=by simpa [madeCells]using h1
  have hq:i/3<(List.replicate n ((0,0,0):oR)).length:=by simp;omega
  obtain⟨e0,aF,e2⟩:=yP (List.replicate n (0,0,0)) (i/3) hq;rw[getElem_replicate]at e0 aF e2;have hl:(madeCells #[Value.int .u8 0,.int .i64 0,.int .i64 0] (n*3)).toList[i]=(#[Value.int .u8 0,.int .i64 0,.int .i64 0]:Array Value)[i%3]!:=by simp[madeCells]
  have aj:i%3=0\/i%3=1\/i%3=2:=by omega
  rw[hl,<-some_inj,<-bH af];rcases aj with h | h | h
  .rw[h,show i=i/3*3 by omega,e0];rfl
  .rw[h,show i=i/3*3+1 by omega,aF];rfl
  .rw[h,show i=i/3*3+2 by omega,e2];rfl
theorem Yt:(prog.info? 248).map (λi=>(i.zero,i.size,i.bytes))=some (some (.agg #[.int .u8 0,.int .i64 0,.int .i64 0]),3,24):=by kernel_rfl
theorem apR{w:ai}{base g n:Nat}(h:w.ownsRow base 248 3 (.slice (some ⟨g,0,none⟩) n n) n (madeCells #[Value.int .u8 0,.int .i64 0,.int .i64 0] (n*3)).toList):Row w g 248 (c3 (List.replicate n (0,0,0))):=by
 rcases h.2 with⟨aE,_⟩ | ⟨fd,cap,fg,aE,ak,hh,h1,af,aq,aJ⟩
 .cases aE
 .injection aE with aF e2 e3
  injection aF with aF
  injection aF with aF
  subst aF e3;have e:fg.toList=c3 (List.replicate n (0,0,0)):=by
   rw[take_of_length_le (by rw[Array.length_toList];omega)]at aJ;rw[aJ,Y6]
  unfold Row;rw[<-e,Array.toArray_toList];exact hh
namespace ao
theorem aeR(U:ae)(log st s p:Nat)(h:lF U log st s=some p):p<2^log/\leads U log st s p:=by
 unfold lF at h;have h1:=find?_some h;have af:=List.mem_range.1 (mem_of_find?_eq_some h);exact⟨af,of_decide_eq_true h1⟩
end ao
theorem Tq(l:List oR)(i s B Z:Nat)(h:i<l.length)(hl:l[i]=(s,0,0)):((c3 l).set (i*3+1) (.int .i64 B)).set (i*3+2) (.int .i64 Z)=c3 (l.set i (s,B,Z)):=by
 have h1:=(GB l i h 0 B 0).2.1;rw[hl]at h1;rw[h1];have eF:i<(l.set i (s,B,0)).length:=by simpa using h
 have af:=(GB (l.set i (s,B,0)) i eF 0 0 Z).2.2;rw[getElem_set_self,set_set]at af;exact af
theorem aq7(a S:Nat):((a:Int)+S/2+(S:Int)/8+3)%(S:Int)=(((a+(S/2+S/8+3))%S:Nat):Int):=by
 rw[Int.natCast_emod];congr 1
 omega
theorem ak0(A:a7)(c:Nat)(U:ae)(log:Nat)(w:ai)(aL:ec U log)(aj:Reads w A (aM U)) :
  Calls prog 158 #[.slice A U.length c,.int .i64 log] w λe w'=>∃g,e=.returned (.slice (some ⟨g,0,none⟩) (2^log) (2^log))/\w.heap.size<=g/\Row w' g 248 (c3 (nL U log))/\Below w.heap.size w w':=by
 obtain⟨i0,ax,bB,bK,bw⟩:=info_parts Yt;have bk:=I aL;have D7:=aL.low;have D8:=aL.high;have hlen:=aL.len;obtain⟨S,cu⟩:∃S,S=2^log:=⟨_,rfl⟩;have aix:32<=S:=by rw[cu];exact dD (n:=2) (by omega) D7
 have U4:S<=512:=by rw[cu];exact dD (n:=2) (by omega) D8
 have hsum:U.sum=S:=by rw[cu];exact aL.sum
 have h8:∀s (h:s<U.length),∃g off,A=some ⟨g,off,none⟩/\w.cell? ⟨g,off+s,none⟩=some (.int .i64 (U[s]:Int))/\g<w.heap.size:=λs h=>by
  obtain⟨g,off,e,hc⟩:=aj (by intro e;have:=congrArg List.length e;rw[gw,length_nil]at this;omega);have h1:=hc s (by rw[gw];exact h);rw[ja U s h]at h1;exact⟨g,off,e,h1,World.block_lt_of_cell? w _ h1⟩
 have bI:=I (λW=>vR (log:Int) W (by omega));rw[cY,<-cu]at bI;have oe:=I h8;have cI:=I cu;have r6:=I hsum;clear aL aj h8 cu hsum;obtain⟨g0,hW⟩:∃g,g=w.heap.size:=⟨_,rfl⟩;have fA:=I hW;clear hW;rw[<-cI.out];go_enter func158,ntmps158
 go_wp2_with fail
 refine(bI.out w).mono ?_;rintro e w' ⟨rfl,rfl⟩;go_wp2_with (at_make;refine wpList_make_full _ rfl _ _ 210 rfl w.heap.size 248 i0 (.agg #[.int .u8 0,.int .i64 0,.int .i64 0]) 3 underlying210 ax bB bK .i64 .i64 _ _ S rfl rfl ?c1 ?c1 ?c2 ?c3 ?c4 ?_)
 case c1=>rfl
 case c2=>first | omega | (rw[bw];omega)
 case c3=>unfold maxLen;omega
 try case c4=>exact Nat.le_refl _
 intro au hown1 aZ;have aH:=k8 aZ;have kS:=apR hown1;rw[<-fA.out]at kS ⊢;have cd:Row au g0 248 (c3 (mS U log 0)):=by rw[ZY,<-cI.out];exact kS
 have aK:=I aH;have dx:=I cd;clear hown1 aZ kS aH cd ax bB bK bw;go_wp2;go_loopw [7,8,9] (λa s _ wr=>∃ct:Nat,ct<=U.length/\a=.int .i64 (gU log (U.take ct).sum:Int)/\s=.int .i64 ct/\Hid (Row wr g0 248 (c3 (mS U log (U.take ct).sum)))/\Hid (Below w.heap.size w wr)) (λ_ s _ _=>U.length-(intOf s).toNat)
 case atStart=>exact⟨0,by omega,by simp[gU],rfl,I (by rw[take_zero,sum_nil];exact dx),aK⟩
 case round=>
  obtain⟨ct,me,rfl,rfl,hrow,hbel⟩:=hrel;clear dx aK;by_cases av:ct<U.length
  .obtain⟨g,off,rfl,hcell,jQ⟩:=oe.out ct av;obtain⟨K,hK⟩:∃K,K=(U.take ct).sum:=⟨_,rfl⟩;have yW:(U.take (ct+1)).sum=K+U[ct]:=by rw[gb av,sum_append_nat,hK];simp
   have L6:K+U[ct]<=S:=by
    rw[<-yW,<-r6.out,<-gA (ct+1) U,sum_append_nat];simp
   have iG:∀k,k<U[ct]->(oP 0 U)[K+k]?=some ct:=λk hk=>by
    have h1:=abz U 0 ct k av hk;rw[eH,<-hK]at h1;exact h1
   rw[<-hK]at hrow ⊢;have gH:=I iG;have yg:=I yW;have lY:=I hcell;clear iG yW hK hcell;generalize U[ct]=n at gH yg L6 lY;have ajR:n<=512:=by omega
   go_wp2;go_loopw [7,9] (λa k wr=>∃dH:Nat,dH<=n/\a=.int .i64 (gU log (K+dH):Int)/\k=.int .i64 dH/\Hid (Row wr g0 248 (c3 (mS U log (K+dH))))/\Hid (Below w.heap.size w wr)) (λ_ k _=>n-(intOf k).toNat)
   case atStart=>exact⟨0,by omega,rfl,rfl,hrow,hbel⟩
   case round=>
    obtain⟨dH,Bo,rfl,rfl,hrow2,jy⟩:=hrel;clear hrow hbel;have c0:=(jy.out.cell (p:=⟨g,off+ct,none⟩) jQ).trans lY.out;by_cases lj:dH<n
    .have cm:gU log (K+dH)<S:=by rw[cI.out];exact Ix log _
     obtain⟨rq,gS⟩:=ZX U log (K+dH) ct D7 D8 (by rw[<-cI.out];omega) (gH.out dH lj);have rr:=Z6 log (K+dH);rw[<-cI.out]at rr;have aQ:zU log=S/2+S/8+3:=by unfold zU;rw[<-cI.out]
     rw[aQ,show K+dH+1=K+(dH+1) by omega]at rr;rw[show K+dH+1=K+(dH+1) by omega]at gS;have hcs:=(GB (mS U log (K+dH)) (gU log (K+dH)) rq ct 0 0).1;rw[<-gS]at hcs;have hget:=(yP (mS U log (K+dH)) (gU log (K+dH)) rq).1;have c1:=(hrow2.out.cell (gU log (K+dH)*3)).trans hget;have f1:=hrow2.out.free (gU log (K+dH)*3);have gG:=I (hrow2.out.bm (gU log (K+dH)*3) (.int .u8 ct));rw[hcs]at gG;generalize (mS U log (K+dH))[gU log (K+dH)].1=old at c1;have yv:=I rr;clear gS rr aQ hcs hget rq hrow2 yg gH;generalize gU log (K+dH)=a at cm c1 f1 gG yv ⊢;go_wp2;go_roundw
     case rel=>
      refine⟨dH+1,by omega,?_,by go_num,gG,I (jy.out.setCell (by rw[fA.out];exact Nat.le_refl _) _)⟩;rw[yv.out,aq7]
     case measure=>simp[intOf];omega
    .obtain rfl:dH=n:=by omega
     rw[<-yg.out]at hrow2 ⊢;clear gH;go_wp2;go_roundw
     case rel=>exact⟨ct+1,by omega,rfl,by go_num,hrow2,jy⟩
     case measure=>simp[intOf];omega
  .obtain rfl:ct=U.length:=by omega
   rw[take_length,r6.out,cI.out,anK]at hrow;have CZ:=hrow;clear hrow;generalize gU log (U.take U.length).sum=aeL;go_wp2;go_loopw [10,11,12] (λs _ _ wr=>∃ct:Nat,ct<=U.length/\s=.int .i64 ct/\Hid (Row wr g0 248 (c3 (hY U log ct 0)))/\Hid (Below w.heap.size w wr)) (λs _ _ _=>U.length-(intOf s).toNat)
   case atStart=>exact⟨0,by omega,rfl,CZ,hbel⟩
   case round=>
    obtain⟨ct,me,rfl,hrow,hbel⟩:=hrel;clear CZ;by_cases av:ct<U.length
    .obtain⟨g,off,rfl,hcell,jQ⟩:=oe.out ct av;have WP:U[ct]?.getD 0=U[ct]:=by simp[av]
     have ajS:U[ct]<=512:=by
      have h1:(U.take (ct+1)).sum=(U.take ct).sum+U[ct]:=by rw[gb av,sum_append_nat];simp
      have af:(U.take (ct+1)).sum+(U.drop (ct+1)).sum=S:=by rw[<-sum_append_nat,gA];exact r6.out
      omega
     have As:=I WP;have lY:=I hcell;have c0:=(hbel.out.cell (p:=⟨g,off+ct,none⟩) jQ).trans hcell;clear hcell WP;generalize U[ct]=n at As ajS lY c0;go_wp2;clear c0;go_loopw [11,12] (λx i wr=>∃cH:Nat,cH<=S/\i=.int .i64 cH/\x=.int .i64 ((n+((ao.e9 U log).take cH).count ct:Nat):Int)/\Hid (Row wr g0 248 (c3 (hY U log ct cH)))/\Hid (Below w.heap.size w wr)) (λ_ i _=>S-(intOf i).toNat)
     case atStart=>exact⟨0,by omega,rfl,by simp,hrow,hbel⟩
     case round=>
      obtain⟨cH,MQ,rfl,rfl,hrow2,jy⟩:=hrel;clear hrow hbel;have c0:=(jy.out.cell (p:=⟨g,off+ct,none⟩) jQ).trans lY.out;have xO:=Lk (ao.e9 U log) cH ct;have xI:=zZ U log ct bk.out;rw[As.out]at xI;rw[xI]at xO;by_cases MP:cH<S
      .by_cases hp:0<n
       .have zd:cH<2^log:=by rw[<-cI.out];exact MP
        have sF:cH<(hY U log ct cH).length:=by rw[ZZ];exact zd
        have hget:=(yP (hY U log ct cH) cH sF).1;rw[anP]at hget;have c1:=(hrow2.out.cell (cH*3)).trans hget;have hl:cH<(ao.e9 U log).length:=by rw[qJ];exact zd
        have kE:=GN (ao.e9 U log) cH ct hl;rw[abD U log cH zd hl]at kE;by_cases jj:cD U log cH=ct
        .have eC:=anM U log ct cH jj sF;have hsome:=anO U log cH;obtain⟨ER,aF,e2,e3,e4,e5,gR⟩:=BU U log cH bk.out zd;have jR:hN U log cH=n+((ao.e9 U log).take cH).count ct:=by
          unfold hN tb;rw[jj,As.out]
         have hle:=qN _ _ gR;have fq:=tn (hN U log cH) (by omega);have mP:=Dj log _ (by omega) gR;have nY:=KU log _ (by omega) gR;have nZ:2^(log+1)=2^log*2:=ej 2 log;rw[nZ,<-cI.out]at gR nY;rw[<-cI.out]at mP;have Hj:dX log (hN U log cH)<=9:=by unfold dX;omega
         have Hk:(log:Int)-(ao.wid (hN U log cH):Int)+1=(dX log (hN U log cH):Int):=by unfold dX;omega
         have DQ:ep U log cH=hN U log cH*2^dX log (hN U log cH)-S:=by unfold ep tL;rw[cI.out]
         have UV:cc U log cH=dX log (hN U log cH):=rfl;have hsz2:=I (λW=>vR (dX log (hN U log cH):Int) W (by omega));rw[cY]at hsz2;have xM:=I (λW=>aaz (hN U log cH) W (by omega));have tW:hN U log cH*2^dX log (hN U log cH)<=S*2:=by
          rw[Nat.add_mul,Nat.one_mul]at nY;exact du (le_add_right _ _) nY
         rw[UV,DQ]at hsome;rw[jj]at hsome;have NG:=Tq (hY U log ct cH) cH ct (dX log (hN U log cH)) (hN U log cH*2^dX log (hN U log cH)-S) sF eC;rw[<-hsome]at NG;have hset:=(hrow2.out.bm (cH*3+1) (.int .i64 (dX log (hN U log cH):Int))).bm (cH*3+2) (.int .i64 ((hN U log cH*2^dX log (hN U log cH)-S:Nat):Int));rw[NG]at hset;have gG:=I hset;obtain⟨ahQ,g1,g2⟩:=yP (hY U log ct cH) cH sF;rw[eC]at g1 g2;have c2:=(hrow2.out.cell (cH*3+1)).trans g1;have af1:=(hrow2.out.cell (cH*3+2)).trans g2;dsimp only at c2 af1;have f2:=hrow2.out.free (cH*3+1);have f3:=hrow2.out.free (cH*3+2);rw[aA jj]at kE;rw[jj]at c1;have kO:=I kE;have aX:((ct:Int) != (ct:Int))=false:=by simp
         have ez:=I jR;clear hset NG eC hsome DQ UV nY nZ aF e2 e3 e4 e5 kE jR jj hget sF hl zd xI ahQ g1 g2 xO hrow2;rw[<-ez.out];generalize hN U log cH=X at gR hle fq mP Hj Hk hsz2 xM tW gG ez ⊢;generalize ao.wid X=x5 at hle fq Hk xM;generalize dX log X=B at mP Hj Hk hsz2 tW gG;generalize 2^B=P at mP hsz2 tW gG;obtain⟨M,la⟩:∃M,M=X*P:=⟨_,rfl⟩;have Hp:(X:Int)*P=M:=by rw[la,Int.natCast_mul]
         rw[<-la]at mP tW gG;obtain⟨Z,vx⟩:∃Z,Z=M-S:=⟨_,rfl⟩;have aiC:(M:Int)-S=Z:=by omega
         rw[<-vx]at gG;clear la vx;go_wp2_with fail
         refine(xM.out wr).mono ?_;rintro e w' ⟨rfl,rfl⟩;go_wp2_with fail
         refine(hsz2.out _).mono ?_;rintro e w' ⟨rfl,rfl⟩;go_wp2;go_roundw
         case rel=>
          refine⟨cH+1,by omega,by go_num,?_,gG,I ((jy.out.setCell (by rw[fA.out];exact Nat.le_refl _) _).setCell (by rw[fA.out];exact Nat.le_refl _) _)⟩;rw[kO.out,<-jb,<-ez.out];go_num
         case measure=>simp[intOf];omega
        .have hnone:=Z0 U log ct cH jj;rw[ay jj]at kE;have kE:=kE.trans (ga _);have aX:((cD U log cH:Int) != (ct:Int))=true:=by simp;omega
         have kO:=I kE;have adA:=I hnone;have Ny:cD U log cH<256:=by
          obtain⟨h1,_⟩:=xZ U log cH bk.out zd;omega
         clear kE hnone jj hget sF hl zd xI;generalize ((ao.e9 U log).take cH).count ct=q at xO kO ⊢;generalize cD U log cH=cM at c1 aX Ny;go_wp2;go_roundw
         case rel=>exact⟨cH+1,by omega,by go_num,by rw[kO.out],by rw[adA.out];exact hrow2,jy⟩
         case measure=>simp[intOf];omega
       .obtain rfl:n=0:=by omega
        have UK:cH=0\/Hid (Row wr g0 248 (c3 (hY U log (ct+1) 0))):=by
         right
         have hk:∀k,k<=2^log->hY U log ct k=hY U log ct 0:=λk=>by
          induction k with
          | zero=>intro _;rfl
          | succ k ih=>
           intro eu;rw[Z0 U log ct k (λe=>?_),ih (by omega)];obtain⟨h1,af⟩:=xZ U log k bk.out (by omega);have aq:=As.out;rw[<-e,bH h1,b6]at aq;omega
         rw[hk cH (by rw[<-cI.out];exact MQ),Z1 U log ct bk.out As.out]at hrow2;exact hrow2
        have zB:Hid (Row wr g0 248 (c3 (hY U log (ct+1) 0))):=by
         rcases UK with h | h
         .subst h;rw[Z1 U log ct bk.out As.out]at hrow2;exact hrow2
         .exact h
        clear UK hrow2 xI xO;generalize 0+((ao.e9 U log).take cH).count ct=q;go_wp2;go_roundw
        case rel=>exact⟨ct+1,by omega,by go_num,zB,jy⟩
        case measure=>simp[intOf];omega
      .obtain rfl:cH=S:=by omega
       rw[cI.out,anN]at hrow2;clear xI xO;generalize n+((ao.e9 U log).take cH).count ct=q;go_wp2;go_roundw
       case rel=>exact⟨ct+1,by omega,by go_num,hrow2,jy⟩
       case measure=>simp[intOf];omega
    .obtain rfl:ct=U.length:=by omega
     rw[anL U log bk.out]at hrow;go_wp2;go_ret;exact⟨g0,rfl,by rw[fA.out];exact Nat.le_refl _,hrow,hbel⟩
namespace ao
theorem LH(l:List Int)(log:Int)(h:Fair l log):ec (l.map Int.toNat) log.toNat:=by
 obtain⟨h1,af,aq,aJ,aR⟩:=h;have ap:∀l:List Int,(∀x∈l,0<=x/\x<=1000)->(((l.map Int.toNat).sum:Nat):Int)=l.sum:=λl=>by
  induction l with
  | nil=>simp
  | cons a l ih=>
   intro hh;have:=hh a ea;rw[map_cons,sum_cons,sum_cons,Int.natCast_add,ih (λx ah=>hh x (ew _ ah))];omega
 refine⟨by omega,by omega,by simpa using aq,?_⟩;have:=ap l aJ;rw[aR]at this;exact Int.ofNat_inj.1 this
theorem Ur(l:List Int)(log:Int)(h:Fair l log):(l.map Int.toNat).map (λn:Nat=>(n:Int))=l:=by
 rw[List.map_map];have:∀l:List Int,(∀x∈l,0<=x/\x<=1000)->l.map ((λn:Nat=>(n:Int)) ∘ Int.toNat)=l:=λl=>by
  induction l with
  | nil=>simp
  | cons a l ih=>
   intro hh;have:=hh a ea;rw[map_cons,ih (λx ah=>hh x (ew _ ah))];congr 1
   simp only[Function.comp_apply];omega
 exact this l h.2.2.2.1
def q5(U:ae)(log:Nat)(st:Int):oR:=if 0<=st/\st<((2^log:Nat):Int)then(cD U log st.toNat,cc U log st.toNat,ep U log st.toNat)else(0,0,0)
def vZ(U:ae)(log:Nat)(st more:Int):Bool:=decide (0<=st/\st<((2^log:Nat):Int)/\0<=more/\more<((2^cc U log st.toNat:Nat):Int))
def xU(U:ae)(log:Nat)(st more:Int):Int:=if vZ U log st more then(ep U log st.toNat:Int)+more else 0
def xb(U:ae)(log:Nat)(st:Int)(s:Nat):Option (Nat×Nat×Nat):=
 if 0<=st/\st<((2^log:Nat):Int)then(lF U log st.toNat s).map λp=>(p,st.toNat-ep U log p,cc U log p)else none
end ao
def ql(t:oR):Value:=.agg #[.int .u8 (t.1:Int),.int .i64 (t.2.1:Int),.int .i64 (t.2.2:Int)]
def Gr:Option (Nat×Nat×Nat)->Value
 | none=>.tuple #[.int .i64 0,.int .i64 0,.int .i64 0,.bool false]
 | some (p,v,k)=>.tuple #[.int .i64 p,.int .i64 v,.int .i64 k,.bool true]
structure aeA(w8:ai->Addr->ae->Nat->Prop):Prop where
 keep:∀w W p U log,w8 w p U log->Below w.heap.size w W->w8 W p U log
 build:∀(A:a7) (c:Nat) (l:List Int) (log:Int) (w:ai),l.length<=1000000->(∀x∈l,en x)->en log->Reads w A (gL l)->ao.Fair l log ->
  Calls prog 165 #[.slice A l.length c,.int .i64 log] w λe w'=>∃p,e=.returned (.tuple #[.pointer (some p),.bool true])/\w8 w' p (l.map Int.toNat) log.toNat/\Below w.heap.size w w'
 amS:∀(A:a7) (c:Nat) (l:List Int) (log:Int) (w:ai),l.length<=1000000->(∀x∈l,en x)->en log->Reads w A (gL l)->¬ao.Fair l log ->
  Calls prog 165 #[.slice A l.length c,.int .i64 log] w λe w'=>e=.returned (.tuple #[.pointer none,.bool false])/\Below w.heap.size w w'
 cell:∀(w:ai) (p:Addr) (U:ae) (log:Nat) (st:Int),ec U log->w8 w p U log->en st ->
  Calls prog 234 #[.pointer (some p),.int .i64 st] w λe w'=>e=.returned (.tuple #[ql (q5 U log st),.bool (decide (0<=st/\st<((2^log:Nat):Int)))])/\Below w.heap.size w w'
 af7:∀(w:ai) (st:Int),en st->Calls prog 234 #[.pointer none,.int .i64 st] w λe w'=>e=.returned (.tuple #[ql (0,0,0),.bool false])/\Below w.heap.size w w'
 size:∀(w:ai) (p:Addr) (U:ae) (log:Nat),ec U log->w8 w p U log->Calls prog 213 #[.pointer (some p)] w λe w'=>e=.returned (.int .i64 ((2^log:Nat):Int))/\∃m,w'=w.drewN m
 aqL:∀w:ai,Calls prog 213 #[.pointer none] w λe w'=>e=.returned (.int .i64 0)/\∃m,w'=w.drewN m
 ama:∀(w:ai) (p:Addr) (U:ae) (log:Nat),ec U log->w8 w p U log->Calls prog 216 #[.pointer (some p)] w λe w'=>e=.returned (.int .i64 log)/\∃m,w'=w.drewN m
 al9:∀w:ai,Calls prog 216 #[.pointer none] w λe w'=>e=.returned (.int .i64 0)/\∃m,w'=w.drewN m
 next:∀(w:ai) (p:Addr) (U:ae) (log:Nat) (st more:Int),ec U log->w8 w p U log->en st->en more ->
  Calls prog 235 #[.pointer (some p),.int .i64 st,.int .i64 more] w λe w'=>e=.returned (.tuple #[.int .i64 (xU U log st more),.bool (vZ U log st more)])/\Below w.heap.size w w'
 back:∀(w:ai) (p:Addr) (U:ae) (log:Nat) (st:Int) (s:Nat),ec U log->w8 w p U log->en st->s<256 ->
  Calls prog 215 #[.pointer (some p),.int .i64 st,.int .u8 s] w λe w'=>e=.returned (Gr (xb U log st s))/\Below w.heap.size w w'
theorem Ui(U:ae)(log:Nat)(b:ae)(h:ao.encR U log b=none):∀a:ae,ao.encR U log (a++b)=none
 | []=>h
 | x :: a=>by
  rw[cons_append];simp only[ao.encR];rw[Ui U log b h a];rfl
theorem GV(A:a7)(L c q:Nat)(W:ai)(h:q<=L)(hc:L<=c):(Instr.slice 112 (.slice A L c) none (some (.int .i64 q)) none).run prog W=.ok (.slice A q c) W:=by
 have h1:q<=c:=by omega
 rcases A with _ | a
 .go_simp
 .go_simp
def nh(A:a7)(c q:Nat):a7:=if c=q then A else A.map (·.add q)
theorem Do(A:a7)(L c q:Nat)(W:ai)(h:q<=L)(hc:L<=c):(Instr.slice 112 (.slice A L c) (some (.int .i64 q)) none none).run prog W=.ok (.slice (nh A c q) (L-q) (c-q)) W:=by
 have h1:q<=c:=by omega
 unfold nh;by_cases DY:c=q
 .subst DY;rcases A with _ | a
  .go_simp
  .go_simp
 .rcases A with _ | a
  .go_simp
  .go_simp
theorem Po{w:ai}{A:a7}{l:ae}{c q:Nat}(h:Reads w A (aM l))(hc:l.length<=c):Reads w (nh A c q) (aM (l.drop q)):=λaX=>by
 have am:q<l.length:=by
  rcases eP q l.length with e | e
  .exact e
  .rw[drop_of_length_le e]at aX;simp[aM]at aX
 obtain⟨g,off,e,hcell⟩:=h (by intro e;have:=congrArg List.length e;rw[gw,length_nil]at this;omega);refine⟨g,off+q,?_,λj ar=>?_⟩
 .unfold nh;rw[ay (by omega),e];show some _=_;congr 1
  unfold Addr.add;split<;>simp_all
 .rw[gw,cC]at ar;rw[jb,hcell (q+j) (by rw[gw];omega),ja _ _ (by omega),ja _ _ (by rw[cC];omega),getElem_drop]
theorem aah{w:ai}{A:a7}{xs:b3}{p:Addr}{u:Value}(h:Reads w A xs)(hA:∀a,A=some a->a.block≠p.block):Reads (w.setCell p u) A xs:=λah=>by
 obtain⟨g,off,e,hc⟩:=h ah;refine⟨g,off,e,λj ar=>?_⟩;rw[World.cell?_of_block (a:=⟨g,off+j,none⟩) (Below.heap_setCell w p u g (hA _ e))];exact hc j ar
theorem BZ{w:ai}{base n c:Nat}{A:a7}{e:TypeId}{xs:b3}(h:w.ownsRow base e 1 (.slice A n c) n xs):n<=c/\c<=maxLen:=by
 rcases h.2 with⟨aE,am⟩ | ⟨fd,cap',fg,aE,ak,hh,h1,af,_⟩
 .injection aE with _ _ e3
  subst am e3;exact⟨Nat.le_refl _,by unfold maxLen;omega⟩
 .injection aE with _ _ e3
  subst e3;exact⟨h1,af⟩
theorem TA{w:ai}{g j:Nat}{v:Value}(h:w.cell? ⟨g,j,none⟩=some v):g<w.heap.size:=by
 rcases eP g w.heap.size with af | af
 .exact af
 .simp[World.cell?,Array.getElem?_eq_none af]at h
theorem aoJ{P:Program}{f:FuncId}{args:Array Value}{w:ai}{n:Nat}{v:Value}
  (h:Calls P f args (w.drewN n) λe w'=>e=.returned v/\w.drewN n=w'):Calls P f args (w.drewN n) λe pq=>e=.returned v/\∃m,pq=w.drewN m:=
 h.mono λ_ _ ⟨he,hm⟩=>⟨he,n,hm.symm⟩
theorem K2{w:ai}{A:a7}{X L:Nat}(h:Reads w A (aM (ao.bitsOf X L)))(am:0<L):∃g off,A=some ⟨g,off,none⟩/\∀j,j<L->w.cell? ⟨g,off+j,none⟩=some (.int .i64 ((X/2^j%2:Nat):Int)):=by
 obtain⟨g,off,e,hc⟩:=h (by intro e;have:=congrArg List.length e;rw[gw,hf,length_nil]at this;omega);refine⟨g,off,e,λj ar=>?_⟩;rw[hc j (by rw[gw,hf];exact ar),ja _ j (by rw[hf];exact ar),l3]
theorem Gw{w:ai}{A:a7}{X L q:Nat}(h:Reads w A (aM (ao.bitsOf X L)))(hq:q<=L):Reads w A (aM (ao.bitsOf (X%2^q) q)):=λaX=>by
 have am:0<q:=by
  rcases eq_zero_or_pos q with e | e
  .subst e;simp[aM,ao.bitsOf]at aX
  .exact e
 obtain⟨g,off,e,hc⟩:=K2 h (by omega);refine⟨g,off,e,λj ar=>?_⟩;rw[gw,hf]at ar;rw[hc j (by omega),afd,ja _ j (by rw[hf];exact ar),l3]
theorem K1{w:ai}{A:a7}{X L c q:Nat}(h:Reads w A (aM (ao.bitsOf X L)))(hq:q<=L)(hc:L<=c):Reads w (nh A c q) (aM (ao.bitsOf (X/2^q) (L-q))):=λaX=>by
 have am:0<L-q:=by
  rcases eq_zero_or_pos (L-q)with e | e
  .rw[e]at aX;simp[aM,ao.bitsOf]at aX
  .exact e
 obtain⟨g,off,e,hcell⟩:=K2 h (by omega);refine⟨g,off+q,?_,λj ar=>?_⟩
 .unfold nh;rw[ay (by omega),e];show some _=_;congr 1
  unfold Addr.add;split<;>simp_all
 .rw[gw,hf]at ar;rw[jb,hcell (q+j) (by omega),ja _ j (by rw[hf];exact ar),l3,km,<-dM]
theorem IJ(A:a7)(b c X:Nat)(w:ai)(ak:b<=32)(cK:X<2^b)(aj:Reads w A (aM (ao.bitsOf X b))) :
  Calls prog 83 #[.slice A b c] w λe w'=>e=.returned (.int .u32 X)/\w=w':=by
 rcases eq_zero_or_pos b with am | am
 .subst am;have:X=0:=by simpa using cK
  subst this;exact apI A c w
 .obtain⟨g,off,rfl,hc⟩:=K2 aj am;have h1:=aar g off b c X w ak am hc;rw[mod_eq_of_lt cK]at h1;exact h1
namespace ao
def sl(U:ae)(log:Nat)(ok:Bool)(M L:Nat)(n:Int):Option (ae):=
 if ok=true/\0<=n/\n<=1048576/\log<=L then ji U log n.toNat (M%2^(L-log)) (L-log) (M/2^(L-log))else none
end ao
def Qu(base:Nat)(w':ai)(e:Ending):Option (ae)->Prop
 | none=>e=.returned (.tuple #[.slice none 0 0,.bool false])
 | some l=>∃u,e=.returned (.tuple #[u,.bool true])/\w'.ownsRow base 5 1 u l.length (aN l)
theorem UF(A B:a7)(c d vY:Nat)(U:ae)(log M L:Nat)(ok:Bool)(n:Int)(w:ai)(h:ec U log)(az:en n)(bR:L<=100000)(la:M<2^L)(aj:Reads w A (c3 (nL U log)))
  (hopen:Calls prog 190 #[.slice B vY d] w λe w'=>∃de df,e=.returned (.tuple #[.slice de L df,.bool ok])/\L<=df/\df<=maxLen/\Reads w' de (aM (ao.bitsOf M L))/\Below w.heap.size w w') :
  Calls prog 157 #[.slice A (2^log) c,.int .i64 log,.slice B vY d,.int .i64 n] w λe w'=>Qu w.heap.size w' e (sl U log ok M L n)/\Below w.heap.size w w':=by
 obtain⟨i0,ax,bB,bK,bw⟩:=info_parts oG;have dm:=h.high;have hlow:=h.low;obtain⟨hp,iZ⟩:=az;obtain⟨r,hres⟩:∃r,r=sl U log ok M L n:=⟨_,rfl⟩;rw[<-hres];have bk:=I h;have aU:=I aj;have FB:=I la;have r1:=I hopen;have bt:=I hres;obtain⟨S,cu⟩:∃S,S=2^log:=⟨_,rfl⟩;have U4:S<=512:=by rw[cu];exact dD (n:=2) (by omega) dm
 have cI:=I cu;rw[<-cu];clear h aj la hopen hres cu;have c8:Hid (¬(ok=true/\0<=n/\n<=1048576/\log<=L)->r=none):=I (λah=>by rw[bt.out];unfold sl;rw[ay ah]);go_enter func157,ntmps157
 go_wp2_with fail
 refine r1.out.mono ?_;rintro e au ⟨de,df,rfl,L9,hj,bp,aH⟩;have aK:=I aH;have dB:=I bp;clear aH bp r1;cases ok with
 | false=>
  have ah:=I (c8.out (by simp));clear c8 bt;go_wp2;go_ret2;exact⟨by rw[ah.out];rfl,aK⟩
 | true=>
 by_cases c1:n<0
 .have ah:=I (c8.out (by omega));clear c8 bt;go_wp2;go_ret2;exact⟨by rw[ah.out];rfl,aK⟩
 by_cases c2:1048576<n
 .have ah:=I (c8.out (by omega));clear c8 bt;go_wp2;go_ret2;exact⟨by rw[ah.out];rfl,aK⟩
 by_cases c3:L<log
 .have ah:=I (c8.out (by omega));clear c8 bt;go_wp2;go_ret2;exact⟨by rw[ah.out];rfl,aK⟩
 obtain⟨m,rfl⟩:=Int.eq_ofNat_of_zero_le (show 0<=n by omega);obtain⟨q,rfl⟩:∃q,L=q+log:=⟨L-log,by omega⟩;have xE:r=ji U log m (M%2^q) q (M/2^q):=by
  rw[bt.out];unfold sl;rw[aA ⟨rfl,by omega,by omega,by omega⟩,cY,Nat.add_sub_cancel]
 have aQ:M/2^q<2^log:=by
  have h1:=FB.out;rw[dM,eQ]at h1;exact(div_lt_iff_lt_mul (Nat.pow_pos (by omega))).2 h1
 have vA:=λW=>Do de (q+log) df q W (by omega) L9
 have mN:=λW=>GV de (q+log) df q W (by omega) L9
 have ky:=K1 dB.out (c:=df) (q:=q) (by omega) L9;have lJ:=I (Gw dB.out (q:=q) (by omega));rw[Nat.add_sub_cancel_left]at vA ky;have ez:=I (IJ _ log (df-q) _ au (by omega) aQ ky);have zu:((q+log:Nat):Int)-log=q:=by omega
 have tE:=I xE;have cV:=I (mod_lt M (Nat.pow_pos (n:=q) (show 0<2 by omega)));rw[<-cI.out]at aQ;clear xE bt c8 FB dB ky;generalize M/2^q=st at aQ ez tE;generalize M%2^q=sd at lJ tE cV;go_wp2_with fail
 refine ez.out.mono ?_;rintro e w' ⟨rfl,rfl⟩;clear vA ez;go_wp2;clear mN;go_loopw [8,9,10,12,13,14,15,16] (λ_ _ vW pn u i _ _ wr=>∃(k N len s0:Nat) (acc:ae),k<=m/\i=.int .i64 k/\vW=.slice de len df/\pn=.int .i64 s0/\len<=q/\s0<S/\acc.length=k/\Hid (N<2^len)/\Hid (Reads au de (aM (ao.bitsOf N len)))/\Hid (wr.ownsRow au.heap.size 5 1 u k (aN acc))/\Hid (r=(ji U log (m-k) N len s0).map (acc++·))/\Hid (Below au.heap.size au wr)) (λ_ _ _ _ _ i _ _ _=>m-(intOf i).toNat)
 case atStart=>exact⟨0,sd,q,st,[],by omega,rfl,rfl,rfl,by omega,aQ,rfl,cV,lJ,I (World.ownsRow_nil _ _ _ _),I (by rw[tE.out,Nat.sub_zero];cases ji U log m sd q st<;>rfl),I dQ⟩
 case round=>
  obtain⟨k,N,len,s0,acc,hk,rfl,rfl,rfl,M2,qx,hacc,Mc,bp,hown,ff,hbel⟩:=hrel;clear tE lJ cV aQ;have Bf:=I (aK.out.trans (hbel.out.mono aK.out.size));by_cases sG:k<m
  .obtain⟨g,off,rfl,hc⟩:=apk (c9 aU.out Bf.out) (by rw[K9,<-cI.out];omega);have gT:s0<2^log:=by rw[<-cI.out];exact qx
   obtain⟨bC,bf,bM⟩:=hc s0 (by rw[K9];exact gT);rw[TC]at bC bf bM;dsimp only at bC bf bM;have dY:=AR U log s0 bk.out gT;have jx:=AQ U log s0 bk.out gT;have hsy2:cD U log s0<256:=by
    obtain⟨h1,_⟩:=xZ U log s0 bk.out gT;have:=bk.out.len;omega
   have NY:=du (le_add_right _ _) jx;rw[<-cI.out]at jx NY;have xK:ji U log (m-k) N len s0=if len<cc U log s0 then none else(ji U log (m-(k+1)) (N%2^(len-cc U log s0)) (len-cc U log s0) (ep U log s0+N/2^(len-cc U log s0))).map λl=>cD U log s0 :: l:=by
    rw[show m-k=(m-(k+1))+1 by omega,ji]
   rw[xK]at ff;clear hc xK gT;generalize cD U log s0=cM at bC ff hsy2;generalize UY:2^cc U log s0=P at jx;have JD:=I UY;clear UY;generalize cc U log s0=b at bf dY ff JD;generalize ep U log s0=z at bM jx NY ff;by_cases vM:len<b
   .rw[aA vM]at ff;have lC:=I (show r=none from ff);clear ff hown bp;go_wp2;go_ret2;exact⟨by rw[lC.out];rfl,Bf.out.alloc Bf.out.size _⟩
   .rw[ay vM]at ff;obtain⟨ft,rfl⟩:∃ft,len=ft+b:=⟨len-b,by omega⟩;rw[Nat.add_sub_cancel]at ff;have aE:N/2^ft<2^b:=by
     have h1:=Mc.out;rw[dM,eQ]at h1;exact(div_lt_iff_lt_mul (Nat.pow_pos (by omega))).2 h1
    have wE:=I (λW=>Do de (ft+b) df ft W (by omega) (by omega));have FN:=I (λW=>GV de (ft+b) df ft W (by omega) (by omega));have ky:=K1 bp.out (c:=df) (q:=ft) (by omega) (by omega);have uJ:=I (Gw bp.out (q:=ft) (by omega));rw[Nat.add_sub_cancel_left]at ky wE;have ez:=I (λW (ak:Below au.heap.size au W)=>IJ (nh de df ft) b (df-ft) (N/2^ft) W (by omega) aE (c9 ky ak));have Hq:=I (mod_lt N (Nat.pow_pos (n:=ft) (show 0<2 by omega)));rw[JD.out]at aE;clear ky bp JD Mc;generalize N/2^ft=v at aE ez ff;generalize N%2^ft=mB at uJ ff Hq;obtain⟨cf,kj⟩:∃x,x=wr.heap.size:=⟨_,rfl⟩;have Xm:Row (wr.alloc (.cells #[.int .u8 cM,.int .i64 b,.int .i64 z] 248)) cf 248 (pF (cM,b,z)):=by rw[kj];exact Row.new wr 248 (pF (cM,b,z))
    have dA:=(Below.refl wr.heap.size wr).alloc bh (.cells #[.int .u8 cM,.int .i64 b,.int .i64 z] 248);have jW:=I dA;have F4:=I (own_below hown.out dA);have Ai:=b9 hbel dA;have uI:=I kj;have R0:=I (λx (ah:u13.ownBlock=some x)=>show x<cf by rw[kj];exact(hown.out.lt x ah).2);have Ax:=I Xm;clear kj Xm dA hown hbel;go_upto_region 11 with fail
    rw[<-uI.out];clear bC bf bM;generalize (wr.alloc (.cells #[.int .u8 cM,.int .i64 b,.int .i64 z] 248))=iN at jW F4 Ai Ax ⊢;have d0:=Ax.out.cell 0;have d1:=Ax.out.cell 1;simp only[pF,dR,dU]at d0 d1;go_wp2_with (at_builtin;refine wpList_append_own _ rfl _ _ 87 rfl au.heap.size 5 i0 (.int .u8 0) 1 1 underlying87 ax bB bK bw rfl (by decide) _ _ _ rfl (F4.out.alloc _) ⟨iN.heap.size,0,none⟩ 1 1 [.int .u8 cM] rfl rfl ?d1 ?d2 ?d3 ?d4 ?d5 ?_)
    case d1=>
     intro j u ar;match j,ar with
     | 0,ar=>simp at ar;subst ar;simp[Addr.add]
    case d2=>intro u hu;simp at hu;subst hu;rfl
    case d3=>unfold maxLen;omega
    case d4=>omega
    case d5=>have:=Ai.out.size;simp;omega
    intro gZ aB hown2 rm _;have jy:Below au.heap.size au aB:=(Ai.out.alloc Ai.out.size _).grown rm (by have:=Ai.out.size;simp;omega) (λx e=>(F4.out.lt x e).1);have hrow2:Row aB cf 248 (pF (cM,b,z)):=(Ax.out.alloc _).keep (rm.block cf (by have:=Ax.out.lt;simp;omega) (λe=>by have:=R0.out cf e.symm;omega));have e:aN acc++[Value.int .u8 cM]=aN (acc++[cM]):=by simp[aN]
    rw[e]at hown2;have mv:=I hown2;have rU:=I jy;have f1:=hrow2.cell 1;have f2:=hrow2.cell 2;simp only[pF,dR,dU]at f1 f2;have vA:=wE.out;have qY:=I (λZs=>ez.out (aB.drewN Zs) (below_drewN jy Zs));clear rm hown2 jy hrow2 e d0 d1 F4 Ai jW Ax R0 wE ez;go_wp2_with fail
    go_quiet ((go_at_call 83;exact aoI (qY.out _)))
    have mN:=FN.out;clear vA;go_wp2;go_roundw
    case rel=>
     refine⟨k+1,mB,ft,z+v,acc++[cM],by omega,by go_num,rfl,by go_num,by omega,by omega,by simp[hacc],Hq,uJ,mv,?_,I (below_drewN rU.out _)⟩;rw[ff.out];refine I ?_;cases ji U log (m-(k+1)) mB ft (z+v)with
     | none=>rfl
     | some l=>simp
    case measure=>simp[intOf];omega
  .obtain rfl:k=m:=by omega
   rw[Nat.sub_self]at ff;by_cases aO:s0=0/\len=0
   .obtain⟨rfl,rfl⟩:=aO;have b2:=I (show r=some acc by rw[ff.out];simp[ji]);have e1:=I hacc;have adE:=I (anm hown.out aK.out.size);clear ff hacc hown;go_wp2;go_ret2;exact⟨by rw[b2.out];exact⟨_,rfl,by rw[e1.out];exact adE⟩,Bf⟩
   .have b2:=I (show r=none by rw[ff.out];simp only[ji];rw[ay aO];rfl);clear ff;by_cases aj8:s0=0
    .subst aj8;have vK:0<len:=by omega
     go_wp2;go_ret2;exact⟨by rw[b2.out];rfl,Bf⟩
    .have aX:((s0:Int) != 0)=true:=by simp;omega
     go_wp2;go_ret2;exact⟨by rw[b2.out];rfl,Bf⟩
namespace ao
theorem I6(V k:Nat)(h:qh V k):V.log2=k:=by
 obtain⟨h1,af⟩:=x3.1 h;have am:0<V:=by have:=eW k;omega
 have aq:=Cb V k h1 (by rw[ej];omega);rw[Fw V am]at aq;omega
def nz(bs:ae):Option (Nat×Nat):=if bs.getLast?.getD 0=0 then none else some (bd bs%2^(bd bs).log2,(bd bs).log2)
def kX(N n:Nat):ae:=bytesOf (N+2^n) (n/8+1)
theorem aaI(N n:Nat):(kX N n).length=n/8+1:=by simp[kX,bytesOf_length]
theorem aqh(N n:Nat):∀x∈kX N n,x<256:=u9 _ _
theorem afX(V m:Nat):(bytesOf V (m+1)).getLast?=some (V/256^m%256):=by
 rw[GA,getLast?_append,getLast?_singleton];rfl
theorem anb(N n:Nat)(h:N<2^n):nz (kX N n)=some (N,n):=by
 have aC:=ar7 N n h;have aE:bd (kX N n)=N+2^n:=asZ N n h;have aG:(N+2^n)/256^(n/8)%256≠0:=by
  have h1:=(x3.1 aC).1;have af:=abu N n h;rw[ej]at af;have aw:0<256^(n/8):=Nat.pow_pos (by omega);have aq:(N+2^n)/256^(n/8)<256:=(div_lt_iff_lt_mul aw).2 (by rw[eQ];exact af);have aJ:256^(n/8)<=N+2^n:=by
   refine du ?_ h1;rw[ib];exact dD (by omega) (by omega)
  have aR:1<=(N+2^n)/256^(n/8):=(le_div_iff_mul_le aw).2 (by omega);omega
 unfold nz;rw[aE,I6 _ _ aC,ay]
 .have:=aC.sum;congr 2
  omega
 .unfold kX;rw[afX,b6];exact aG
theorem Pz(bs:ae)(N n:Nat)(ak:∀x∈bs,x<256)(h:nz bs=some (N,n)):N<2^n/\bs=kX N n/\n<8*bs.length:=by
 unfold nz at h;split at h
 .cases h
 .next hl=>
  injection h with h
  injection h with h1 af
  obtain⟨front,b,rfl⟩:∃front b,bs=front++[b]:=by
   rcases eq_nil_or_concat bs with rfl | ⟨f,b,rfl⟩
   .simp at hl
   .exact⟨f,b,concat_eq_append⟩
  rw[getLast?_append,getLast?_singleton]at hl;have dg:b≠0:=by simpa using hl
  obtain⟨ca,YN,aC⟩:=P4 front b (λx ah=>ak x (mem_append_left _ ah)) (ak b (by simp)) dg;have vN:=I6 _ _ aC;rw[vN]at h1 af;have ap:=aC.sum;rw[h1,af]at ap;have cV:N<2^n:=by rw[<-h1,<-af];exact mod_lt _ (eW _)
  refine⟨cV,?_,by rw[aY,length_singleton];omega⟩;unfold kX;rw[<-ap];have hlen:n/8+1=(front++[b]).length:=by rw[aY,length_singleton];omega
  rw[hlen];exact(K5 _ ak).symm
def q6(U:ae)(log:Nat)(syms:ae):Option (Nat×Nat):=(encR U log syms).map λt=>(t.1+t.2.2*2^t.2.1,t.2.1+log)
def vm(U:ae)(log:Nat)(syms:ae):Option (ae):=(q6 U log syms).map λt=>kX t.1 t.2
def iX(U:ae)(log:Nat)(bs:ae)(n:Int):Option (ae):=(nz bs).bind λt=>sl U log true t.1 t.2 n
theorem Lg(U:ae)(log:Nat)(h:ec U log)(syms:ae)(N n:Nat)(e:q6 U log syms=some (N,n)):N<2^n/\n<=log*(syms.length+1)/\log<=n:=by
 unfold q6 at e;cases aj:encR U log syms with
 | none=>rw[aj]at e;cases e
 | some t=>
  obtain⟨sd,hC,st⟩:=t;rw[aj,map_some]at e;injection e with e
  injection e with aF e2
  subst aF e2;obtain⟨h1,af,aq,_⟩:=A1 U log h syms sd hC st aj;dsimp only;refine⟨?_,by rw[Nat.mul_add,Nat.mul_one];omega,by omega⟩;rw[dM,eQ (2^hC)];have aR:(st+1)*2^hC<=2^log*2^hC:=mul_le_mul_right _ af;rw[Nat.add_mul,Nat.one_mul]at aR;generalize st*2^hC=A at aR ⊢;generalize 2^log*2^hC=B at aR ⊢;omega
theorem agU(U:ae)(log:Nat)(h:ec U log)(syms bs:ae)(hl:syms.length<=1048576)(e:vm U log syms=some bs):iX U log bs (syms.length:Int)=some syms:=by
 unfold vm at e;cases hc:q6 U log syms with
 | none=>rw[hc]at e;cases e
 | some t=>
  obtain⟨N,n⟩:=t;rw[hc,map_some]at e;injection e with e
  subst e;obtain⟨cV,_,kR⟩:=Lg U log h syms N n hc;unfold iX;dsimp only;rw[anb N n cV,Option.bind_some];unfold q6 at hc;cases aj:encR U log syms with
  | none=>rw[aj]at hc;cases hc
  | some t=>
   obtain⟨sd,hC,st⟩:=t;rw[aj,map_some]at hc;injection hc with hc
   injection hc with aF e2
   subst aF e2;obtain⟨h1,af,aq,aJ⟩:=A1 U log h syms sd hC st aj;obtain⟨s1,s2⟩:=agu sd hC st h1;dsimp only;unfold sl;rw[aA ⟨rfl,by omega,by omega,by omega⟩,cY,Nat.add_sub_cancel,s1,s2];exact aJ
theorem ahj(U:ae)(log:Nat)(h:ec U log)(bs syms:ae)(n:Int)(ak:∀x∈bs,x<256)(e:iX U log bs n=some syms):vm U log syms=some bs/\(syms.length:Int)=n/\n<=1048576/\∀s∈syms,s<256:=by
 unfold iX at e;cases b8:nz bs with
 | none=>rw[b8]at e;cases e
 | some t=>
  obtain⟨N,L⟩:=t;rw[b8,Option.bind_some]at e;obtain⟨cV,cr,_⟩:=Pz bs N L ak b8;dsimp only at e;unfold sl at e;split at e
  .next hc=>
   obtain⟨_,am,az,Ws⟩:=hc;obtain⟨q,rfl⟩:∃q,L=q+log:=⟨L-log,by omega⟩;rw[Nat.add_sub_cancel]at e;have aQ:N/2^q<2^log:=by
    rw[dM,eQ]at cV;exact(div_lt_iff_lt_mul (Nat.pow_pos (by omega))).2 cV
   have hmod:N%2^q<2^q:=mod_lt _ (eW _);obtain⟨h1,af⟩:=T7 U log h n.toNat _ q _ syms hmod aQ e;refine⟨?_,by omega,az,?_⟩
   .unfold vm q6;rw[h1];simp only[map_some];congr 1
    rw[cr];congr 1
    have:=div_add_mod N (2^q);rw[eQ]at this;omega
   .intro s ap;have aw:0<U[s]?.getD 0:=by
     rcases eq_zero_or_pos (U[s]?.getD 0)with aq | aq
     .rw[Uk U log h s aq syms ap]at h1;cases h1
     .exact aq
    have hlen:=h.len;rcases eP s U.length with aJ | aJ
    .omega
    .rw[getElem?_eq_none aJ]at aw;simp at aw
  .cases e
end ao
def x9(w':ai)(e:Ending):Option (ae)->Prop
 | none=>∃A c,e=.returned (.tuple #[.slice A 0 c,.bool false])
 | some bs=>∃A c,e=.returned (.tuple #[.slice A bs.length c,.bool true])/\Reads w' A (aN bs)
namespace ao
theorem ary(ag:ae):(ag.map (λn:Nat=>(n:Int))).sum=((ag.sum:Nat):Int):=by
 induction ag with
 | nil=>simp
 | cons a l ih=>rw[map_cons,sum_cons,ih,sum_cons];omega
theorem Y9(l:ae)(x:Nat)(h:x∈l):x<=l.sum:=by
 induction l with
 | nil=>cases h
 | cons a l ih=>
  rw[sum_cons];rcases List.mem_cons.1 h with rfl | h1
  .omega
  .have:=ih h1;omega
theorem an1(ag:ae):lp ag=gC (ag.map (λn:Nat=>(n:Int))):=by
 unfold lp gC;rw[countP_map];apply countP_congr
 intro x _;simp
theorem aqz(bs:ae)(av:∀x∈bs,x<256)(hl:bs.length<=1048576)(am:0<bs.length) :
  ∃U:ae,pk (er bs) (fk (er bs):Int)=U.map (λn:Nat=>(n:Int))/\Fair (pk (er bs) (fk (er bs):Int)) (fk (er bs):Int)/\(∀b∈bs,0<U[b]?.getD 0)/\U.length<=256:=by
 have Ev:=(Ll bs av hl).2 am;obtain⟨aj,aR,dm,ap⟩:=Ev;have xF:pk (er bs) (fk (er bs):Int)=(wk ((er bs).map Int.toNat) (2^fk (er bs))).map (λn:Nat=>(n:Int)):=by
  unfold pk;rw[aA ⟨aj,aR,dm,ap⟩,cY]
 have hcs:(er bs).map Int.toNat=iC bs:=by
  unfold er;rw[List.map_map];conv=>rhs;rw[<-List.map_id (iC bs)]
  apply map_congr_left
  intro x _;rfl
 rw[hcs]at xF;rw[cY]at ap;have hlen:(iC bs).length=eX bs:=by simp[iC]
 have aC:=uy bs av;obtain⟨bD,dg⟩:∃b,b∈bs:=by
  cases bs with
  | nil=>simp at am
  | cons b bs=>exact⟨b,ea⟩
 have hget:∀b∈bs,(iC bs)[b]?=some (bs.count b):=λb ak=>by
  unfold iC;rw[getElem?_map,getElem?_range (x2 bs b ak)];rfl
 have hsum:0<(iC bs).sum:=by
  have h1:=mem_of_getElem? (hget bD dg);have af:=Y9 _ _ h1;have aq:=List.count_pos_iff.2 dg;omega
 have pe:=PD (iC bs) (2^fk (er bs)) hsum (by rw[an1];exact ap);have cJ:=dD (n:=2) (j:=9) (by omega) (show fk (er bs)<=9 by omega);refine⟨_,xF,?_,?_,by rw[pe.2.1,hlen];exact aC⟩
 .rw[xF];refine⟨aR,dm,by rw[cQ,pe.2.1,hlen];exact aC,?_,by rw[ary,pe.1,cY]⟩;intro x ah;obtain⟨y,hy,rfl⟩:=List.mem_map.1 ah;have:=Y9 _ _ hy;rw[pe.1]at this;omega
 .intro b ak;have h1:=pe.2.2 b;rw[hget b ak,b6]at h1;exact h1.2 (List.count_pos_iff.2 ak)
end ao
namespace ao
def fE(U:ae)(bW:Nat):Nat×Nat:=(bW-5+(eK U (2^bW)).1*2^3,3+(eK U (2^bW)).2)
def takeA(N len:Nat):Option (ae×Nat×Nat):=
 if len<3 then none else if 4<N%2^3 then none else(takeN 256 (2^(5+N%2^3)) (N/2^3) (len-3)).map λt=>(t.1,5+N%2^3,t.2)
theorem ai4(U:ae)(bW:Nat)(h:ec U bW):(fE U bW).1<2^(fE U bW).2:=by
 have h1:=VX U (2^bW) (Nat.le_of_eq h.sum);have dm:=h.high;unfold fE;dsimp only;generalize (eK U (2^bW)).1=A at h1 ⊢;generalize (eK U (2^bW)).2=k at h1 ⊢;rw[dM];have:A*2^3+2^3<=2^3*2^k:=by
  have af:=mul_le_mul_right (2^3) h1;rw[succ_mul,eQ (2^k)]at af;exact af
 omega
theorem VW:∀(l:ae) (rest:Nat),rest<=512->(eK l rest).2<=10*l.length
 | [],rest,_=>by simp[eK]
 | n :: l,rest,h=>by
  unfold eK;split
  .simp
  .have h1:=VW l (rest-n) (by omega);have af:=qN rest 10 (by omega);rw[b1];dsimp only;omega
theorem VU(U:ae)(bW:Nat)(h:ec U bW):3<=(fE U bW).2/\(fE U bW).2<=3000:=by
 have cJ:=dD (n:=2) (j:=9) (by omega) h.high;have h1:=VW U (2^bW) (by omega);have af:=h.len;unfold fE;dsimp only;omega
theorem arP(U:ae)(bW X m:Nat)(h:ec U bW):takeA ((fE U bW).1+X*2^(fE U bW).2) ((fE U bW).2+m)=some (cB U,bW,m):=by
 have aR:=h.low;have dm:=h.high;have aC:=abK U (2^bW) X m 256 h.sum h.len;unfold fE;dsimp only;generalize (eK U (2^bW)).1=A at aC ⊢;generalize (eK U (2^bW)).2=k at aC ⊢;have e:bW-5+A*2^3+X*2^(3+k)=(bW-5)+(A+X*2^k)*2^3:=by
  rw[dM,Nat.add_mul,Nat.mul_assoc X,eQ (2^3) (2^k),jb]
 have hm:(bW-5+(A+X*2^k)*2^3)%2^3=bW-5:=by rw[add_mul_mod_self_right];exact mod_eq_of_lt (by omega)
 have aG:(bW-5+(A+X*2^k)*2^3)/2^3=A+X*2^k:=by
  rw[add_mul_div_right _ _ (by omega),div_eq_of_lt (by omega),eH]
 unfold takeA;rw[e,hm,aG,ay (by omega),ay (by omega),show 5+(bW-5)=bW by omega,show 3+k+m-3=k+m by omega,aC];rfl
theorem I2(N len:Nat)(l:ae)(bW e:Nat)(h:takeA N len=some (l,bW,e)):ec l bW/\e+3<=len:=by
 unfold takeA at h;split at h
 .cases h
 .split at h
  .cases h
  .next aq aJ=>
   cases aj:takeN 256 (2^(5+N%2^3)) (N/2^3) (len-3)with
   | none=>rw[aj]at h;cases h
   | some t=>
    rw[aj,map_some]at h;injection h with h
    injection h with aF h
    injection h with e2 e3
    subst aF e2 e3;obtain⟨bf,bM,ev⟩:=abJ _ _ _ _ _ _ aj;exact⟨⟨by omega,by omega,bM,bf⟩,by omega⟩
theorem Uq(l:ae)(bW:Nat)(h:ec l bW):Fair (l.map (λn:Nat=>(n:Int))) (bW:Int):=by
 have hsum:∀l:ae,(l.map (λn:Nat=>(n:Int))).sum=((l.sum:Nat):Int):=λl=>by
  induction l with
  | nil=>simp
  | cons a l ih=>rw[map_cons,sum_cons,ih,sum_cons];omega
 have hle:∀(l:ae) (x:Nat),x∈l->x<=l.sum:=λl=>by
  induction l with
  | nil=>intro x h;cases h
  | cons a l ih=>
   intro x ah;rw[sum_cons];rcases List.mem_cons.1 ah with rfl | ah
   .omega
   .have:=ih x ah;omega
 have aR:=h.low;have dm:=h.high;have cJ:=dD (n:=2) (j:=9) (by omega) dm;refine⟨by omega,by omega,by rw[cQ];exact h.len,?_,by rw[hsum,h.sum,cY]⟩;intro x ah;obtain⟨y,hy,rfl⟩:=List.mem_map.1 ah;have h1:=hle l y hy;rw[h.sum]at h1;omega
def sizedB(log:Int):Bool:=decide (5<=log/\log<=9)
end ao
theorem Zv(log:Int)(w:ai):Calls prog 192 #[.int .i64 log] w λe w'=>e=.returned (.bool (ao.sizedB log))/\w=w':=by
 by_cases aR:5<=log
 .by_cases dm:log<=9
  .have ap:ao.sizedB log=true:=bG ⟨aR,dm⟩;rw[ap];go_enter func192,ntmps192
   go_wp2;go_ret;exact⟨rfl,rfl⟩
  .have ap:ao.sizedB log=false:=bF (λh=>dm h.2);have LV:decide (log<=9)=false:=by simpa using dm
   rw[ap];go_enter func192,ntmps192
   go_wp2;go_ret;exact⟨rfl,rfl⟩
 .have ap:ao.sizedB log=false:=bF (λh=>aR h.1);have auw:decide (5<=log)=false:=by simpa using aR
  rw[ap];go_enter func192,ntmps192
  go_wp2;go_ret;exact⟨rfl,rfl⟩
theorem rM(x:Int)(am:-9223372036854775808<=x)(h1:x<=9223372036854775807):wrap64 x=x:=by unfold wrap64;omega
namespace ao
theorem IY(l:List Int)(h:∀x∈l,0<=x):0<=l.sum:=by
 induction l with
 | nil=>simp
 | cons a l ih=>
  have h1:=ih (λx ah=>h x (ew _ ah));have af:=h a ea;rw[sum_cons];omega
theorem arz(l:List Int)(k:Nat)(h:∀x∈l,0<=x):(l.take k).sum<=l.sum:=by
 have h1:=IY (l.drop k) (λx ah=>h x (mem_of_mem_drop ah));have af:l.sum=(l.take k).sum+(l.drop k).sum:=by
  conv=>lhs;rw[<-gA k l]
  rw[sum_append_int]
 omega
theorem amF(l:List Int)(h:∀x∈l,0<=x)(x:Int)(ah:x∈l):x<=l.sum:=by
 induction l with
 | nil=>cases ah
 | cons a l ih=>
  have h1:=IY l (λx ah=>h x (ew _ ah));have af:=h a ea;rw[sum_cons];rcases List.mem_cons.1 ah with rfl | ah
  .omega
  .have:=ih (λx ah=>h x (ew _ ah)) ah;omega
theorem Pa(b:Nat)(aR:5<=b)(dm:b<=9):32<=2^b/\2^b<=512:=
 ⟨dD (n:=2) (i:=5) (by omega) aR,dD (n:=2) (j:=9) (by omega) dm⟩
end ao
theorem OH(A:a7)(c:Nat)(l:List Int)(log:Int)(w:ai)(hl:l.length<=1000000)(cW:∀x∈l,en x)(_hlog:en log)(aj:Reads w A (gL l)) :
  Calls prog 195 #[.slice A l.length c,.int .i64 log] w λe w'=>e=.returned (.bool (qp l log))/\Below w.heap.size w w':=by
 have aU:=I aj;obtain⟨r,hres⟩:∃r,r=qp l log:=⟨_,rfl⟩;rw[<-hres];have fe:∀P:Prop,(ao.Fair l log->P)->¬P->false=r:=λP h aw=>by
  rw[hres];symm;unfold qp;exact bF (λh1=>aw (h h1))
 have c8:=I fe;have bt:=I hres;have iQ:=I cW;have eT:=I (Zv log w);clear aj hres fe cW;by_cases ap:ao.sizedB log=true
 .obtain⟨aR,dm⟩:5<=log/\log<=9:=of_decide_eq_true ap;rw[ap]at eT;clear ap;by_cases aq:256<l.length
  .have aL:false=r:=c8.out (l.length<=256) (λh=>h.2.2.1) (by omega);have ah8:decide (256<l.length)=true:=bG aq;rw[<-aL];clear aL;go_enter func195,ntmps195
   go_wp2_with fail
   refine eT.out.mono ?_;rintro e w' ⟨rfl,rfl⟩;go_wp2;go_ret;exact⟨rfl,Below.refl _ _⟩
  have ah8:decide (256<l.length)=false:=bF aq;obtain⟨b,rfl⟩:=Int.eq_ofNat_of_zero_le (show 0<=log by omega);have cJ:=Pa b (by omega) (by omega);have pP:(2:Int)^b=((2^b:Nat):Int):=by simp
  obtain⟨P,Md⟩:∃P,P=2^b:=⟨_,rfl⟩;rw[<-Md]at cJ pP;have JC:=I Md;clear Md;have hw:wrap64 (P:Int)=P:=rM _ (by omega) (by omega);go_enter func195,ntmps195
  go_wp2_with fail
  refine eT.out.mono ?_;rintro e w' ⟨rfl,rfl⟩;clear eT;go_wp2;clear pP hw;go_loop [5,20] (λq i=>∃k:Nat,k<=l.length/\i=.int .i64 k/\q=.int .i64 ((P:Int)-(l.take k).sum)/\(l.take k).sum<=P/\∀x∈l.take k,0<=x) (λ_ i=>l.length-(intOf i).toNat)
  case atStart=>exact⟨0,by omega,rfl,by go_num,by simp,by simp⟩
  case round=>
   obtain⟨k,hk,rfl,rfl,hle,hall⟩:=hrel;by_cases bb:k<l.length
   .obtain⟨g,off,rfl,hc⟩:=wb aU.out (by omega);have c0:=hc k bb;have am:=IY _ hall;have EB:=iQ.out _ (b7 bb);have bU:=I (abv l k bb);have jp:=I (KT (λx=>0<=x) l k bb hall);have ci:=I (b7 bb);unfold en at EB;clear hc hall bt;have ek:Hid (ao.Fair l (b:Int)->(l.take (k+1)).sum<=P):=I (λh=>by
     have h1:=arz l (k+1) (λx ah=>(h.2.2.2.1 x ah).1);have af:=h.2.2.2.2;rw[cY,<-JC.out]at af;omega)
    generalize (l.take k).sum=m at hle am bU ⊢;generalize l[k]=z at c0 bU jp ci EB;by_cases aO:z<0
    .have aL:false=r:=c8.out (0<=z) (λh=>(h.2.2.2.1 z ci.out).1) (by omega);have bk:=I aL;clear aL;go_wp2;go_ret;exact⟨congrArg (λx=>Ending.returned (Value.bool x)) bk,Below.refl _ _⟩
    have bB:decide (z<0)=false:=bF aO;by_cases bw:(P:Int)-m<z
    .have aL:false=r:=c8.out (m+z<=P) (λh=>by rw[<-bU.out];exact ek.out h) (by omega);have bk:=I aL;have akK:decide ((P:Int)-m<z)=true:=bG bw;clear aL;go_wp2;go_ret;exact⟨congrArg (λx=>Ending.returned (Value.bool x)) bk,Below.refl _ _⟩
    have akK:decide ((P:Int)-m<z)=false:=bF bw;go_wp2;go_round
    case rel=>exact⟨k+1,by omega,by go_num,by rw[bU.out];go_num,by rw[bU.out];omega,jp.out (by omega)⟩
    case measure=>simp[intOf];omega
   .obtain rfl:k=l.length:=by omega
    rw[take_length]at hall hle ⊢;have am:=IY _ hall;have hres:((P:Int)-l.sum == 0)=r:=by
     rw[bt.out];unfold qp;rw[Bool.eq_iff_iff,beq_iff_eq,decide_eq_true_iff];constructor
     .intro h;refine⟨by omega,by omega,by omega,λx ah=>⟨hall x ah,?_⟩,?_⟩
      .have:=amF l hall x ah;omega
      .rw[cY,<-JC.out];omega
     .intro h;have af:=h.2.2.2.2;rw[cY,<-JC.out]at af;omega
    have hR:=I hres;clear aU c8 bt hall hres;generalize l.sum=q at hR am hle ⊢;go_wp2;go_ret;exact⟨congrArg (λx=>Ending.returned (Value.bool x)) hR,Below.refl _ _⟩
 .have qx:ao.sizedB log=false:=by simpa using ap
  have aL:false=r:=c8.out (5<=log/\log<=9) (λh=>⟨h.1,h.2.1⟩) (λh=>ap (bG h));rw[qx]at eT;clear ap qx;rw[<-aL];clear aL;go_enter func195,ntmps195
  go_wp2_with fail
  refine eT.out.mono ?_;rintro e w' ⟨rfl,rfl⟩;go_wp2;go_ret;exact⟨rfl,Below.refl _ _⟩
theorem Pp{w:ai}{A:a7}{l:ae}(h:Reads w A (aM l))(aX:0<l.length):∃g off,A=some ⟨g,off,none⟩/\∀j (ar:j<l.length),w.cell? ⟨g,off+j,none⟩=some (.int .i64 (l[j]:Int)):=by
 have hne':aM l≠[]:=λe=>by
  have h1:=congrArg List.length e;rw[gw,length_nil]at h1;omega
 obtain⟨g,off,e,hc⟩:=h hne';exact⟨g,off,e,λj ar=>by rw[hc j (by rw[gw];exact ar),ja l j ar]⟩
theorem Ii(A:a7)(c:Nat)(l:List Int)(w:ai)(hl:l.length<=1000000000)(aj:Reads w A (gL l)) :
  Calls prog 65 #[.slice A l.length c] w λe w'=>e=.returned (.int .i64 (gC l))/\w=w':=by
 have aU:=I aj;obtain⟨r,hres⟩:∃r,r=gC l:=⟨_,rfl⟩;rw[<-hres];have bt:=I hres;clear aj hres;go_enter func65,ntmps65
 go_wp2;go_loop [3,8] (λn i=>∃k:Nat,k<=l.length/\i=.int .i64 k/\n=.int .i64 (gC (l.take k):Int)) (λ_ i=>l.length-(intOf i).toNat)
 case atStart=>exact⟨0,by omega,rfl,rfl⟩
 case round=>
  obtain⟨k,hk,rfl,rfl⟩:=hrel;by_cases bb:k<l.length
  .obtain⟨g,off,rfl,hc⟩:=wb aU.out (by omega);have c0:=hc k bb;have ap:=arB l k bb;have hle:=I0 (l.take k);rw[cq,Nat.min_eq_left (by omega)]at hle;have bU:=I ap;clear hc ap;generalize gC (l.take k)=m at hle bU ⊢;generalize l[k]=z at c0 bU;by_cases aO:0<z
   .go_wp2;go_round
    case rel=>exact⟨k+1,by omega,by go_num,by rw[bU.out,aA aO];go_num⟩
    case measure=>simp[intOf];omega
   .go_wp2;go_round
    case rel=>exact⟨k+1,by omega,by go_num,by rw[bU.out,ay aO];go_num⟩
    case measure=>simp[intOf];omega
  .obtain rfl:k=l.length:=by omega
   rw[take_length,<-bt.out];clear aU;go_wp2;go_ret;exact⟨rfl,rfl⟩
theorem amX:ack:=λA c l w hl aj=>(Ii A c l w (by omega) aj).mono λ_ w' ⟨he,hw⟩=>⟨he,by subst hw;exact Below.refl _ _⟩
namespace ao
theorem apC(l:List Int):Right l↔l.length<=256/\(∀x∈l,0<=x/\x<=1048576)/\0<gC l:=by
 unfold Right gC;rw[countP_pos_iff];simp
def rD(l:List Int):Bool:=decide (Right l)
end ao
theorem OL(A:a7)(c:Nat)(l:List Int)(w:ai)(hl:l.length<=1000000000)(aj:Reads w A (gL l)) :
  Calls prog 136 #[.slice A l.length c] w λe w'=>e=.returned (.bool (rD l))/\w=w':=by
 have aU:=I aj;have gH:=I (Ii A c l w hl aj);obtain⟨r,hres⟩:∃r,r=rD l:=⟨_,rfl⟩;rw[<-hres];have fe:∀P:Prop,(ao.Right l->P)->¬P->false=r:=λP h aw=>by
  rw[hres];symm;unfold rD;exact bF (λh1=>aw (h h1))
 have c8:=I fe;have bt:=I hres;clear aj hres fe;by_cases aq:256<l.length
 .have aL:false=r:=c8.out (l.length<=256) (λh=>h.1) (by omega);rw[<-aL];go_enter func136,ntmps136
  go_wp2;go_ret;exact⟨rfl,rfl⟩
 go_enter func136,ntmps136
 go_wp2;go_loop [10] (λi=>∃k:Nat,k<=l.length/\i=.int .i64 k/\∀x∈l.take k,0<=x/\x<=1048576) (λi=>l.length-(intOf i).toNat)
 case atStart=>exact⟨0,by omega,rfl,by simp⟩
 case round=>
  obtain⟨k,hk,rfl,hall⟩:=hrel;by_cases bb:k<l.length
  .obtain⟨g,off,rfl,hc⟩:=wb aU.out (by omega);have c0:=hc k bb;have jp:=I (KT (λx=>0<=x/\x<=1048576) l k bb hall);have ci:=I (b7 bb);clear hc hall bt gH;generalize l[k]=z at c0 jp ci;by_cases aO:z<0
   .have aL:false=r:=c8.out (0<=z) (λh=>(h.2.1 z ci.out).1) (by omega);have bk:=I aL;clear aL;go_wp2;go_ret;exact⟨congrArg (λx=>Ending.returned (Value.bool x)) bk,rfl⟩
   by_cases bw:1048576<z
   .have aL:false=r:=c8.out (z<=1048576) (λh=>(h.2.1 z ci.out).2) (by omega);have bk:=I aL;clear aL;go_wp2;go_ret;exact⟨congrArg (λx=>Ending.returned (Value.bool x)) bk,rfl⟩
   go_wp2;go_round
   case rel=>exact⟨k+1,by omega,by go_num,jp.out (by omega)⟩
   case measure=>simp[intOf];omega
  .obtain rfl:k=l.length:=by omega
   rw[take_length]at hall;have hres:decide (0<gC l)=r:=by
    rw[bt.out];unfold rD;rw[decide_eq_decide,apC];exact⟨λh=>⟨by omega,hall,h⟩,λh=>h.2.2⟩
   clear aU c8 bt hall;generalize gC l=q at hres gH;have KB:=I gH.out;clear gH;go_wp2_with fail
   refine KB.out.mono ?_;rintro e w' ⟨rfl,rfl⟩;go_wp2;go_ret;exact⟨congrArg (λx=>Ending.returned (Value.bool x)) (by simp),rfl⟩
theorem OO(A:a7)(c:Nat)(l:ae)(w:ai)(hl:l.length<=1000000000)(ap:l.sum<=1000000000000)(aj:Reads w A (aM l)) :
  Calls prog 191 #[.slice A l.length c] w λe w'=>e=.returned (.int .i64 (l.sum:Int))/\w=w':=by
 have aU:=I aj;obtain⟨r,hres⟩:∃r,r=l.sum:=⟨_,rfl⟩;rw[<-hres]at ap ⊢;have bt:=I hres;clear aj hres;go_enter func191,ntmps191
 go_wp2;go_loop [3,8] (λn i=>∃k:Nat,k<=l.length/\i=.int .i64 k/\n=.int .i64 ((l.take k).sum:Int)) (λ_ i=>l.length-(intOf i).toNat)
 case atStart=>exact⟨0,by omega,rfl,rfl⟩
 case round=>
  obtain⟨k,hk,rfl,rfl⟩:=hrel;by_cases bb:k<l.length
  .obtain⟨g,off,rfl,hc⟩:=Pp aU.out (by omega);have c0:=hc k bb;have h1:(l.take (k+1)).sum=(l.take k).sum+l[k]:=by
    rw[gb bb,sum_append_nat,sum_singleton]
   have af:(l.take (k+1)).sum<=r:=by
    rw[bt.out];conv=>rhs;rw[<-gA (k+1) l]
    rw[sum_append_nat];omega
   rw[h1]at af;have bU:=I h1;clear hc h1;generalize (l.take k).sum=m at af bU ⊢;generalize l[k]=z at c0 af bU;go_wp2;go_round
   case rel=>exact⟨k+1,by omega,by go_num,by rw[bU.out];go_num⟩
   case measure=>simp[intOf];omega
  .obtain rfl:k=l.length:=by omega
   rw[take_length,<-bt.out];clear aU;go_wp2;go_ret;exact⟨rfl,rfl⟩
theorem Zm(A:a7)(c:Nat)(l:ae)(w:ai)(hl:l.length<=1000000000)(hm:∀x∈l,x<=1000000000000)(aj:Reads w A (aM l)) :
  Calls prog 194 #[.slice A l.length c] w λe w'=>e=.returned (.int .i64 (fR l))/\w=w':=by
 have aU:=I aj;have ci:=I hm;obtain⟨r,hres⟩:∃r,r=fR l:=⟨_,rfl⟩;rw[<-hres];have bt:=I hres;clear aj hres hm;go_enter func194,ntmps194
 go_wp2;go_loop [3,8] (λn i=>∃k:Nat,k<=l.length/\i=.int .i64 k/\n=.int .i64 (fR (l.take k):Int)) (λ_ i=>l.length-(intOf i).toNat)
 case atStart=>exact⟨0,by omega,rfl,rfl⟩
 case round=>
  obtain⟨k,hk,rfl,rfl⟩:=hrel;by_cases bb:k<l.length
  .obtain⟨g,off,rfl,hc⟩:=Pp aU.out (by omega);have c0:=hc k bb;have bB:=ci.out l[k] (b7 bb);have ah:∃f,f=fR (l.take k)/\f<l.length/\f<=k/\∃y:Nat,y<=1000000000000/\w.cell? ⟨g,off+f,none⟩=some (.int .i64 y)/\fR (l.take (k+1))=if y<l[k]then k else f:=by
    refine⟨_,rfl,?_⟩;rcases eq_zero_or_pos k with am | am
    .subst am;refine⟨by simpa [fR]using bb,by simp[fR],l[0],ci.out _ (b7 bb),by simpa [fR]using hc 0 bb,?_⟩;rw[ay (by omega),gb bb];simp[fR,jC]
    .have aX:l.take k≠[]:=λe=>by
      have h1:=congrArg List.length e;rw[cq,length_nil]at h1;omega
     have av:=Dx _ aX;have hlt2:=av;rw[cq]at hlt2;have aD:=Dw _ av;rw[getElem_take]at aD;have h1:=hc (fR (l.take k)) (by omega);rw[aD]at h1;refine⟨by omega,by omega,jC (l.take k),?_,h1,?_⟩
     .rw[<-aD];exact ci.out _ (b7 _)
     .rw[gb bb,ahJ _ _ aX,cq,Nat.min_eq_left (by omega)]
   obtain⟨f,aL,lL,ML,y,hy,c1,az⟩:=ah;rw[<-aL];have bX:=I az;clear hc az aL;generalize l[k]=z at c0 bX bB;by_cases EA:y<z
   .have ak:decide (y<z)=true:=bG EA;rw[aA EA]at bX;go_wp2;go_round
    case rel=>exact⟨k+1,by omega,by go_num,by rw[bX.out]⟩
    case measure=>simp[intOf];omega
   .have ak:decide (y<z)=false:=bF EA;rw[ay EA]at bX;go_wp2;go_round
    case rel=>exact⟨k+1,by omega,by go_num,by rw[bX.out]⟩
    case measure=>simp[intOf];omega
  .obtain rfl:k=l.length:=by omega
   rw[take_length,<-bt.out];clear aU;go_wp2;go_ret;exact⟨rfl,rfl⟩
namespace ao
theorem TS(p:Int->Bool)(l:List Int)(i j:Nat)(vG:i<j)(ar:j<l.length)(ax:p l[i]=true)(aw:p l[j]=true):2<=l.countP p:=by
 have e:l=l.take j++l[j] :: l.drop (j+1):=by rw[<-drop_eq_getElem_cons ar,gA]
 have h1:0<(l.take j).countP p:=by
  refine List.countP_pos_iff.2 ⟨l[i],?_,ax⟩;have sF:i<(l.take j).length:=by rw[cq];omega
  have:=b7 sF;rwa [getElem_take]at this
 have af:=congrArg (countP p) e;rw[countP_append,countP_cons,aA aw]at af;omega
theorem GR(s:ae)(b:Nat)(ak:b∈s):∃h:b<(er s).length,0<(er s)[b]:=by
 have aC:=x2 s b ak;refine⟨by rw[tM];exact aC,?_⟩;have:(er s)[b]'(by rw[tM];exact aC)=((s.count b:Nat):Int):=by simp[er,iC]
 rw[this];have:=List.count_pos_iff.2 ak;omega
theorem OU(s:ae)(h:gC (er s)=1):∃x,s=List.replicate s.length x/\0<s.length:=by
 cases s with
 | nil=>simp[er,iC,eX,gC]at h
 | cons x r=>
  refine⟨x,?_,by simp⟩;rw[eq_replicate_iff];refine⟨rfl,λb ak=>?_⟩;rcases Nat.lt_trichotomy b x with av | he | nr
  .exfalso
   obtain⟨h1,af⟩:=GR (x :: r) b ak;obtain⟨aq,aJ⟩:=GR (x :: r) x ea;have:=TS (λz=>decide (0<z)) (er (x :: r)) b x av aq (bG af) (bG aJ);unfold gC at h;omega
  .exact he
  .exfalso
   obtain⟨h1,af⟩:=GR (x :: r) b ak;obtain⟨aq,aJ⟩:=GR (x :: r) x ea;have:=TS (λz=>decide (0<z)) (er (x :: r)) x b nr h1 (bG aJ) (bG af);unfold gC at h;omega
theorem P3:∀bs:ae,0<eX bs->∃b∈bs,eX bs=b+1
 | [],h=>by simp[eX]at h
 | b :: bs,_=>by
  by_cases h:eX bs<=b+1
  .exact⟨b,ea,by rw[eX,Nat.max_eq_left h]⟩
  .obtain⟨x,ah,e⟩:=P3 bs (by omega);exact⟨x,ew _ ah,by rw[eX,Nat.max_eq_right (by omega),e]⟩
theorem TY(s:ae)(b:Nat)(h:b∈s):0<(iC s)[b]?.getD 0:=by
 unfold iC;rw[getElem?_map,getElem?_range (x2 s b h)];exact List.count_pos_iff.2 h
theorem GU(s:ae):(iC s).length=eX s:=by simp[iC]
theorem agI(s:ae):(er s).map Int.toNat=iC s:=by
 unfold er;rw[List.map_map];conv=>rhs;rw[<-List.map_id (iC s)]
 exact map_congr_left λx _=>rfl
end ao
theorem OM(A:a7)(c:Nat)(s:ae)(w:ai)(av:∀x∈s,x<256)(aj:Reads w A (aM (iC s))) :
  Calls prog 65 #[.slice A (eX s) c] w λe w'=>e=.returned (.int .i64 (gC (er s):Int))/\Below w.heap.size w w':=by
 have aC:=uy s av;have h:=amX A c (er s) w (by rw[tM];omega) (by unfold er;rw[jT];exact aj);rw[tM]at h;exact h
namespace ao
def oY(l:List Int):Prop:=l.length<=256/\∀x∈l,0<=x/\x<=11
instance (l:List Int):Decidable (oY l):=by unfold oY;exact inferInstance
def fl(n:Nat):Nat:=if n=0 then 0 else 2^(11-n)
def fF(l:ae):Nat:=(l.map fl).sum
def jm(l:ae):Nat:=l.countP λn=>decide (0<n)
def fw(l:ae):Prop:=l.length<=256/\(∀x∈l,x<=11)/\(fF l=2048\/(jm l=1/\fF l=1024))
instance (l:ae):Decidable (fw l):=by unfold fw;exact inferInstance
def mD(l:List Int):Prop:=oY l/\fw (l.map Int.toNat)
instance (l:List Int):Decidable (mD l):=by unfold mD;exact inferInstance
theorem H2(l:List Int)(h:oY l):l=(l.map Int.toNat).map (λn:Nat=>(n:Int))/\(∀x∈l.map Int.toNat,x<=11)/\(l.map Int.toNat).length=l.length:=by
 refine⟨?_,?_,by simp⟩
 .rw[List.map_map];conv=>lhs;rw[<-List.map_id l]
  apply map_congr_left
  intro x ah;have:=h.2 x ah;simp only[Function.comp_apply,id];omega
 .intro x ah;obtain⟨y,hy,rfl⟩:=List.mem_map.1 ah;have:=h.2 y hy;omega
def mF(l:ae)(k i:Nat):Bool:=decide (0<l[k]?.getD 0) && (decide (l[k]?.getD 0<l[i]?.getD 0) || (decide (l[k]?.getD 0=l[i]?.getD 0) && decide (k<i)))
def nK(l:ae)(i q:Nat):Nat:=((List.range q).map λk=>if mF l k i then fl (l[k]?.getD 0)else 0).sum
def pC(l:ae)(i:Nat):Nat:=nK l i l.length
def hg(l:ae)(i:Nat):Nat:=if l[i]?.getD 0=0 then 0 else pC l i/2^(11-l[i]?.getD 0)
def lH(l:ae):ae:=(List.range l.length).map (hg l)
theorem SR(l:ae)(i q:Nat):nK l i (q+1)=nK l i q+if mF l q i then fl (l[q]?.getD 0)else 0:=by
 unfold nK;rw[range_succ,map_append,sum_append_nat];simp
theorem Fi{α:Type}(f g:α->Nat):∀(L:List α),(∀x∈L,f x<=g x)->(L.map f).sum<=(L.map g).sum
 | [],_=>by simp
 | a :: L,h=>by
  have h1:=h a ea;have af:=Fi f g L (λx ah=>h x (ew _ ah));rw[map_cons,map_cons,sum_cons,sum_cons];omega
theorem xY{α:Type}(f g:α->Nat):∀(L:List α),(L.map λx=>f x+g x).sum=(L.map f).sum+(L.map g).sum
 | []=>by simp
 | a :: L=>by
  have af:=xY f g L;simp only[map_cons,sum_cons];omega
theorem HY(l:ae):fF l=((List.range l.length).map λk=>fl (l[k]?.getD 0)).sum:=by
 unfold fF;congr 1
 apply ext_getElem
 .simp
 .intro i h1 af;simp only[cQ]at h1;simp[h1]
theorem zW(i v:Nat):∀q,((List.range q).map λk=>if k=i then v else 0).sum=if i<q then v else 0
 | 0=>by simp
 | q+1=>by
  rw[range_succ,map_append,sum_append_nat,zW i v q];simp only[map_cons,map_nil,sum_cons,sum_nil];by_cases h1:i<q
  .have af:¬q=i:=by omega
   have aq:i<q+1:=by omega
   simp[h1,af,aq]
  .by_cases af:q=i
   .subst af;simp
   .have aq:¬i<q+1:=by omega
    simp[h1,af,aq]
theorem SS(l:ae)(i k:Nat)(ax:i<l.length)(h:mF l i k=true):pC l i+fl (l[i]?.getD 0)<=pC l k:=by
 have e:fl (l[i]?.getD 0)=((List.range l.length).map λq=>if q=i then fl (l[i]?.getD 0)else 0).sum:=by
  rw[zW,aA ax]
 unfold pC nK;rw[e,<-xY];apply Fi
 intro q _;by_cases hq:q=i
 .subst hq;have am:mF l q q=false:=by simp[mF]
  rw[am,h];simp
 .rw[ay hq,ga];by_cases ak:mF l q i=true
  .have hk:mF l q k=true:=by
    unfold mF at h ak ⊢;simp only[Bool.and_eq_true,Bool.or_eq_true,decide_eq_true_eq]at h ak ⊢;omega
   rw[ak,hk];exact Nat.le_refl _
  .rw[ay ak];exact zero_le _
theorem aeJ(l:ae)(i:Nat)(ax:i<l.length):pC l i+fl (l[i]?.getD 0)<=fF l:=by
 have e:fl (l[i]?.getD 0)=((List.range l.length).map λq=>if q=i then fl (l[i]?.getD 0)else 0).sum:=by
  rw[zW,aA ax]
 rw[HY];unfold pC nK;rw[e,<-xY];apply Fi
 intro q _;by_cases hq:q=i
 .subst hq;have am:mF l q q=false:=by simp[mF]
  rw[am];simp
 .rw[ay hq,ga];split<;>omega
theorem aeK(l:ae)(i:Nat):2^(11-l[i]?.getD 0)∣pC l i:=by
 unfold pC nK;have:∀L:ae,2^(11-l[i]?.getD 0)∣(L.map λk=>if mF l k i then fl (l[k]?.getD 0)else 0).sum:=λL=>by
  induction L with
  | nil=>simp
  | cons k L ih=>
   rw[map_cons,sum_cons];refine Nat.dvd_add ?_ ih;split
   .next ak=>
    unfold mF at ak;simp only[Bool.and_eq_true,Bool.or_eq_true,decide_eq_true_eq]at ak;unfold fl;rw[ay (by omega)];exact Nat.pow_dvd_pow 2 (by omega)
   .exact Nat.dvd_zero _
 exact this _
theorem GI(l:ae)(i:Nat)(ax:i<l.length)(h:fw l)(am:0<l[i]?.getD 0):hg l i<2^(l[i]?.getD 0):=by
 have dV:l[i]?.getD 0<=11:=by rw[bH ax,b6];exact h.2.1 _ (b7 ax)
 have aS:=aeJ l i ax;have hk:fF l<=2048:=by have:=h.2.2;omega
 unfold hg;rw[ay (by omega)];unfold fl at aS;rw[ay (by omega)]at aS;have aw:0<2^(11-l[i]?.getD 0):=eW _;rw[div_lt_iff_lt_mul aw,<-dM,show l[i]?.getD 0+(11-l[i]?.getD 0)=11 by omega];have:(2:Nat)^11=2048:=by decide
 omega
theorem agt(l:ae)(i k:Nat)(ax:i<l.length)(hk:k<l.length)(h:fw l)(MR:i≠k)(am:0<l[i]?.getD 0)(h1:l[i]?.getD 0<=l[k]?.getD 0):hg l k/2^(l[k]?.getD 0-l[i]?.getD 0)≠hg l i:=by
 have dV:l[k]?.getD 0<=11:=by rw[bH hk,b6];exact h.2.1 _ (b7 hk)
 have aw:0<2^(11-l[i]?.getD 0):=eW _;obtain⟨q,hq⟩:=aeK l i;have ahh:hg l i=q:=by
  unfold hg;rw[ay (by omega),hq,Nat.mul_div_cancel_left _ aw]
 have Lz:hg l k/2^(l[k]?.getD 0-l[i]?.getD 0)=pC l k/2^(11-l[i]?.getD 0):=by
  unfold hg;rw[ay (by omega),km,<-dM,show 11-l[k]?.getD 0+(l[k]?.getD 0-l[i]?.getD 0)=11-l[i]?.getD 0 by omega]
 rw[ahh,Lz];by_cases ak:mF l i k=true
 .have af:=SS l i k ax ak;unfold fl at af;rw[ay (by omega),hq]at af;have aq:q+1<=pC l k/2^(11-l[i]?.getD 0):=by
   rw[le_div_iff_mul_le aw,Nat.add_mul,Nat.one_mul,eQ];exact af
  omega
 .have aI:mF l k i=true:=by
   unfold mF at ak ⊢;simp only[Bool.and_eq_true,Bool.or_eq_true,decide_eq_true_eq]at ak ⊢;omega
  have he:l[k]?.getD 0=l[i]?.getD 0:=by
   unfold mF at aI;simp only[Bool.and_eq_true,Bool.or_eq_true,decide_eq_true_eq]at aI;omega
  have af:=SS l k i hk aI;unfold fl at af;rw[ay (by omega),hq,he]at af;have aq:pC l k/2^(11-l[i]?.getD 0)<q:=by
   rw[div_lt_iff_lt_mul aw,eQ q];omega
  omega
def AX(ag U:ae):Nat:=((List.range ag.length).map λi=>ag[i]?.getD 0*U[i]?.getD 0).sum
def Jr(ag U:ae):Prop:=∀i,i<ag.length->0<ag[i]?.getD 0->0<U[i]?.getD 0
def hJ:ae->Nat
 | []=>0
 | b :: l=>b+2*hJ l
theorem Gv:∀l:ae,(∀x∈l,x<2)->hJ l<2^l.length
 | [],_=>by simp[hJ]
 | b :: l,h=>by
  have h1:=Gv l (λx ah=>h x (ew _ ah));have af:=h b ea;rw[hJ,b1,ej];omega
theorem Tc:∀l:ae,(∀x∈l,x<2)->bitsOf (hJ l) l.length=l
 | [],_=>rfl
 | b :: l,h=>by
  have h1:=Tc l (λx ah=>h x (ew _ ah));have af:=h b ea;apply ext_getElem
  .rw[hf]
  .intro i ax zc;rw[l3];cases i with
   | zero=>rw[hJ,getElem_cons_zero];omega
   | succ j=>
    have ar:j<l.length:=by simpa using zc
    have aq:(bitsOf (hJ l) l.length)[j]'(by rw[hf];exact ar)=l[j]:=by simp only[h1]
    rw[l3]at aq;rw[hJ,getElem_cons_succ,ej,eQ (2^j),<-km,show(b+2*hJ l)/2=hJ l by omega,aq]
theorem Gu(N n:Nat)(h:N<2^n):hJ (bitsOf N n)=N:=by
 induction n generalizing N with
 | zero=>
   have:N=0:=by simpa using h
   subst this;rfl
 | succ n ih=>
  have e:bitsOf N (n+1)=N%2 :: bitsOf (N/2) n:=by
   unfold bitsOf;rw[range_succ_eq_map,map_cons,List.map_map];congr 1
   .simp
   .refine map_congr_left λi _=>?_
    simp only[Function.comp];rw[succ_eq_add_one,ej,eQ (2^i),<-km]
  rw[e,hJ,ih (N/2) (by rw[ej]at h;omega)];omega
theorem KZ:∀a b:ae,hJ (a++b)=hJ a+hJ b*2^a.length
 | [],b=>by simp[hJ]
 | x :: a,b=>by
  rw[cons_append,hJ,KZ a b,hJ,b1,ej];rw[Nat.mul_add,<-Nat.mul_assoc,eQ 2 (hJ b),Nat.mul_assoc,eQ 2 (2^a.length)];omega
theorem K0:∀l:ae,(∀x∈l,x=0)->hJ l=0
 | [],_=>rfl
 | b :: l,h=>by rw[hJ,K0 l (λx ah=>h x (ew _ ah)),h b ea]
def ph(l:ae):ae:=bytesOf (hJ l) ((l.length+7)/8)
theorem O2(l:ae):(ph l).length=(l.length+7)/8:=bytesOf_length _ _
theorem ZQ(l:ae):∀x∈ph l,x<256:=u9 _ _
theorem afi(l:ae)(h:∀x∈l,x<2):bitsOf (bd (ph l)) (8*(ph l).length)=l++List.replicate (8*((l.length+7)/8)-l.length) 0:=by
 have av:=Gv l h;have hle:2^l.length<=256^((l.length+7)/8):=by
  rw[ib];exact dD (by omega) (by omega)
 rw[O2,ph,Fu,mod_eq_of_lt (by omega)];have e:8*((l.length+7)/8)=l.length+(8*((l.length+7)/8)-l.length):=by omega
 have h1:=Ta (hJ l) l.length 0 (8*((l.length+7)/8)-l.length) av;rw[<-e,Tc l h]at h1;simp only[zero_mod,Nat.zero_mul,ga]at h1;rw[<-h1];congr 1
 apply ext_getElem
 .simp[hf]
 .intro i _ _;rw[l3,getElem_replicate,Nat.zero_div]
theorem anr(l z s:ae)(ap:∀x∈s,x<256)(h:bitsOf (bd s) (8*s.length)=l++z)(aO:∀x∈z,x=0)(c7:z.length<=7):ph l=s:=by
 have h1:=congrArg hJ h;have aE:=po s ap;rw[ib]at aE;rw[Gu _ _ aE,KZ,K0 z aO,Nat.zero_mul,ga]at h1;have af:=congrArg List.length h;rw[hf,aY]at af;unfold ph;rw[<-h1,show(l.length+7)/8=s.length by omega,K5 s ap]
def cU(U:ae)(s:Nat):ae:=(List.range (U[s]?.getD 0)).map λj=>hg U s/2^(U[s]?.getD 0-1-j)%2
theorem lG(U:ae)(s:Nat):(cU U s).length=U[s]?.getD 0:=by simp[cU]
theorem yR(U:ae)(s:Nat):∀x∈cU U s,x<2:=λx ah=>by
 unfold cU at ah;obtain⟨i,_,rfl⟩:=List.mem_map.1 ah;exact mod_lt _ (by omega)
theorem GF(U:ae)(s j:Nat)(h:j<(cU U s).length):(cU U s)[j]=hg U s/2^(U[s]?.getD 0-1-j)%2:=by simp[cU]
theorem Tw(U:ae)(i k:Nat)(ax:i<U.length)(hk:k<U.length)(h:fw U)(am:0<U[i]?.getD 0)(MR:U[i]?.getD 0<=U[k]?.getD 0)(aw:cU U i <+: cU U k):i=k:=by
 apply Classical.byContradiction
 intro aX;have gv:0<U[k]?.getD 0:=by omega
 refine agt U i k ax hk h aX am MR ?_;have rh:=GI U i ax h am;have aiQ:=GI U k hk h gv;obtain⟨d,aG⟩:∃d,U[k]?.getD 0=U[i]?.getD 0+d:=⟨U[k]?.getD 0-U[i]?.getD 0,by omega⟩;rw[aG,Nat.add_sub_cancel_left];have jO:hg U k/2^d<2^(U[i]?.getD 0):=by
  rw[div_lt_iff_lt_mul (eW d),<-dM,<-aG];exact aiQ
 rw[<-Gu _ _ jO,<-Gu _ _ rh];congr 1
 apply ext_getElem
 .simp[hf]
 .intro t h1 af;rw[hf]at h1;rw[l3,l3,km,<-dM];have ar:U[i]?.getD 0-1-t<(cU U i).length:=by rw[lG];omega
  have e:=aw.getElem ar;rw[GF,GF]at e;rw[show U[i]?.getD 0-1-(U[i]?.getD 0-1-t)=t by omega,show U[k]?.getD 0-1-(U[i]?.getD 0-1-t)=d+t by omega]at e;exact e.symm
theorem Pc(U:ae)(i k:Nat)(ax:i<U.length)(hk:k<U.length)(h:fw U)(am:0<U[i]?.getD 0)(h1:0<U[k]?.getD 0)(l:ae)(aw:cU U i <+: l)(hq:cU U k <+: l):i=k:=by
 rcases Nat.le_total (U[i]?.getD 0) (U[k]?.getD 0)with hle | hle
 .exact Tw U i k ax hk h am hle (prefix_of_prefix_length_le aw hq (by rw[lG,lG];exact hle))
 .exact(Tw U k i hk ax h h1 hle (prefix_of_prefix_length_le hq aw (by rw[lG,lG];exact hle))).symm
def encS(U:ae):ae->Option (ae)
 | []=>some []
 | b :: bs=>if 0<U[b]?.getD 0 then(encS U bs).map (cU U b++·)else none
def q7(U bs:ae):Option (ae):=(encS U bs).map ph
theorem Ue(U:ae):∀(bs l:ae),encS U bs=some l->∀x∈l,x<2
 | [],l,h=>by injection h with h;subst h;simp
 | b :: bs,l,h=>by
  unfold encS at h;split at h
  .cases aj:encS U bs with
   | none=>rw[aj]at h;cases h
   | some r=>
    rw[aj,map_some]at h;injection h with h
    subst h;intro x ah;rcases List.mem_append.1 ah with ah | ah
    .exact yR U b x ah
    .exact Ue U bs r aj x ah
  .cases h
theorem Ug(U:ae)(b:Nat):∀a:ae,encS U (a++[b])=if 0<U[b]?.getD 0 then(encS U a).map (·++cU U b)else none
 | []=>by
  simp only[nil_append,encS];split<;>simp
 | x :: a=>by
  rw[cons_append,encS,Ug U b a,encS];split<;>split<;>simp[Function.comp_def]
  all_goals cases encS U a<;>simp
theorem Uf(U:ae)(b:Nat)(am:U[b]?.getD 0=0):∀bs:ae,b∈bs->encS U bs=none
 | [],h=>by cases h
 | x :: bs,h=>by
  rw[encS];rcases List.mem_cons.1 h with rfl | h
  .rw[ay (by omega)]
  .rw[Uf U b am bs h];split<;>rfl
def GH(U bs:ae):Nat:=(bs.map λb=>U[b]?.getD 0).sum
theorem Ud(U:ae):∀(bs l:ae),encS U bs=some l->l.length=GH U bs
 | [],l,h=>by injection h with h;subst h;rfl
 | b :: bs,l,h=>by
  unfold encS at h;split at h
  .cases aj:encS U bs with
   | none=>rw[aj]at h;cases h
   | some r=>
    rw[aj,map_some]at h;injection h with h
    subst h;rw[aY,lG,Ud U bs r aj];simp[GH]
  .cases h
theorem Uh(U:ae):∀bs:ae,(∀b∈bs,0<U[b]?.getD 0)->∃l,encS U bs=some l
 | [],_=>⟨[],rfl⟩
 | b :: bs,h=>by
  obtain⟨l,hl⟩:=Uh U bs (λx ah=>h x (ew _ ah));exact⟨cU U b++l,by rw[encS,aA (h b ea),hl];rfl⟩
def rA(U l:ae):Nat->Option Nat
 | 0=>none
 | q+1=>if 0<U[q]?.getD 0/\cU U q <+: l then some q else rA U l q
def ny(U l:ae):Option Nat:=rA U l U.length
theorem OB(U l:ae):∀q k,rA U l q=some k->k<q/\0<U[k]?.getD 0/\cU U k <+: l
 | 0,k,h=>by cases h
 | q+1,k,h=>by
  unfold rA at h;split at h
  .next hc=>injection h with h;subst h;exact⟨by omega,hc.1,hc.2⟩
  .obtain⟨h1,af⟩:=OB U l q k h;exact⟨by omega,af⟩
theorem Ze(U l:ae)(k:Nat)(h:fw U)(am:0<U[k]?.getD 0)(aw:cU U k <+: l):∀q,k<q->q<=U.length->rA U l q=some k
 | 0,hk,_=>by omega
 | q+1,hk,hq=>by
  unfold rA;split
  .next hc=>rw[Pc U k q (by omega) (by omega) h am hc.1 l aw hc.2]
  .next hc=>
   by_cases e:k=q
   .subst e;exact absurd ⟨am,aw⟩ hc
   .exact Ze U l k h am aw q (by omega) (by omega)
theorem Zd(U l:ae)(k:Nat)(h:fw U)(hk:k<U.length)(am:0<U[k]?.getD 0)(aw:cU U k <+: l):ny U l=some k:=Ze U l k h am aw _ hk bh
def iY(U:ae):Nat->ae->Option (ae×ae)
 | 0,l=>some ([],l)
 | n+1,l=>(ny U l).bind λk=>(iY U n (l.drop (U[k]?.getD 0))).map λt=>(k :: t.1,t.2)
def tN(t:ae×ae):Option (ae):=if t.2.length<=7/\∀x∈t.2,x=0 then some t.1 else none
def oq(U s:ae)(n:Nat):Option (ae):=(iY U n (bitsOf (bd s) (8*s.length))).bind tN
theorem EF(U:ae)(k:Nat)(h:0<U[k]?.getD 0):k<U.length:=by
 rcases eP k U.length with h1 | h1
 .exact h1
 .rw[getElem?_eq_none h1]at h;simp at h
theorem T3(U:ae)(h:fw U)(z:ae):∀(bs l:ae),encS U bs=some l->iY U bs.length (l++z)=some (bs,z)
 | [],l,e=>by injection e with e;subst e;rfl
 | b :: bs,l,e=>by
  unfold encS at e;split at e
  .next am=>
   cases aj:encS U bs with
   | none=>rw[aj]at e;cases e
   | some r=>
    rw[aj,map_some]at e;injection e with e
    subst e;rw[b1,iY,dj,Zd U _ b h (EF U b am) am (prefix_append _ _),Option.bind_some];have aG:(cU U b++(r++z)).drop (U[b]?.getD 0)=r++z:=by rw[<-lG U b,drop_left]
    rw[aG,T3 U h z bs r aj];rfl
  .cases e
theorem agV(U bs s:ae)(h:fw U)(e:q7 U bs=some s):oq U s bs.length=some bs:=by
 unfold q7 at e;cases aj:encS U bs with
 | none=>rw[aj]at e;cases e
 | some l=>
  rw[aj,map_some]at e;injection e with e
  subst e;unfold oq;rw[afi l (Ue U bs l aj),T3 U h _ bs l aj,Option.bind_some];unfold tN;rw[aA ⟨by rw[jl];omega,λx ah=>(List.mem_replicate.1 ah).2⟩]
theorem Uj(U:ae):∀(n:Nat) (l d r:ae),iY U n l=some (d,r)->d.length=n/\(∀x∈d,x<U.length)/\∃e,encS U d=some e/\l=e++r
 | 0,l,d,r,h=>by
  unfold iY at h;injection h with h
  injection h with h1 af
  subst h1 af;exact⟨rfl,by simp,[],rfl,rfl⟩
 | n+1,l,d,r,h=>by
  unfold iY at h;cases hm:ny U l with
  | none=>rw[hm]at h;cases h
  | some k=>
   rw[hm,Option.bind_some]at h;obtain⟨hk,am,aw⟩:=OB U l _ k hm;cases aj:iY U n (l.drop (U[k]?.getD 0))with
   | none=>rw[aj]at h;cases h
   | some t=>
    obtain⟨Ln,r'⟩:=t;rw[aj,map_some]at h;injection h with h
    injection h with h1 af
    subst h1 af;obtain⟨g1,g2,e,g3,g4⟩:=Uj U n _ Ln r' aj;refine⟨by rw[b1,g1],?_,cU U k++e,by rw[encS,aA am,g3];rfl,?_⟩
    .intro x ah;rcases List.mem_cons.1 ah with rfl | ah
     .exact hk
     .exact g2 x ah
    .obtain⟨t,rfl⟩:=aw;rw[<-lG U k,drop_left]at g4;rw[g4,dj]
theorem G6(U s d:ae)(n:Nat)(ap:∀x∈s,x<256)(h:oq U s n=some d):q7 U d=some s/\d.length=n/\∀x∈d,x<U.length:=by
 unfold oq at h;cases aj:iY U n (bitsOf (bd s) (8*s.length))with
 | none=>rw[aj]at h;cases h
 | some t=>
  obtain⟨Ln,r⟩:=t;rw[aj,Option.bind_some]at h;unfold tN at h;split at h
  .next hc=>
   injection h with h
   simp only at h hc;subst h;obtain⟨g1,g2,e,g3,g4⟩:=Uj U n _ Ln r aj;refine⟨?_,g1,g2⟩;unfold q7;rw[g3,map_some,anr e r s ap g4 hc.2 hc.1]
  .cases h
end ao
end Go.Proofs.YtgiicohbigiapaaGreat
