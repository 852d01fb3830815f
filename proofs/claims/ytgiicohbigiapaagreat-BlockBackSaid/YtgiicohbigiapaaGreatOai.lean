/- Contracts. -/
import Derived.Test.YtgiicohbigiapaaGreatOad
import Derived.ProofKit
import Derived.OpenShut
import Derived.Test.YtgiicohbigiapaaGreatOz1
import Derived.Test.YtgiicohbigiapaaGreatOz0
set_option maxHeartbeats 4000000
set_option maxRecDepth 100000
open Go.Proofs.Tryz Go.Proofs.YtgiicohbigiapaaGreat.am List Nat Option
namespace Go.Proofs.YtgiicohbigiapaaGreat
open Go.ChangeShapes Go.WideShapes Go.ChangeAt Go.RowKit
def gB(l:List Int):b1:=l.map λz=>.int .i64 z
theorem Wz(l:List Int):(gB l).length=l.length:=by simp[gB]
theorem ala(l:List Int)(i:Nat)(h:i<l.length):(gB l)[i]?=some (.int .i64 l[i]):=by simp[gB,h]
theorem jF(l:ae):gB (l.map λn:Nat=>(n:Int))=aM l:=by simp[gB,aM]
theorem vq{w:ah}{A:a7}{l:List Int}(h:Reads w A (gB l))(aZ:0<l.length):∃g off,A=some ⟨g,off,none⟩/\∀j (ar:j<l.length),w.cell? ⟨g,off+j,none⟩=some (.int .i64 l[j]):=by
 have hne':gB l≠[]:=λe=>by
  have h1:=congrArg List.length e;rw[Wz,length_nil]at h1;omega
 obtain⟨g,off,e,hc⟩:=h hne';exact⟨g,off,e,λj ar=>by rw[hc j (by rw[Wz];exact ar),ala l j ar]⟩
theorem c7{w W:ah}{A:a7}{xs:b1}(h:Reads w A xs)(ak:av w W):Reads W A xs:=λaZ=>by
 obtain⟨g,off,e,hc⟩:=h aZ;refine⟨g,off,e,λj ar=>?_⟩;have h1:=hc j ar;rw[bI ar]at h1 ⊢;rw[<-h1];exact ak.cell (p:=⟨g,off+j,none⟩) (World.block_lt_of_cell? w _ h1)
theorem iA{w W:ah}{b:Nat}{t:TypeId}{ag:b1}(aj:Row w b t ag)(ak:av w W):Row W b t ag:=aj.keep (ak.block b aj.lt)
theorem oa:(prog.info? 3).map (λi=>(i.zero,i.size,i.bytes))=some (some (.int .i64 0),1,8):=by kernel_rfl
theorem tK{w:ah}{base g n:Nat}(h:w.ownsRow base 3 1 (.slice (some ⟨g,0,none⟩) n n) n (madeCells #[Value.int .i64 0] n).toList):Row w g 3 (aM (List.replicate n 0)):=by
 rcases h.2 with⟨aD,_⟩|⟨eT,cap,eW,aD,ak,hh,h1,af,aq,aK⟩
 .cases aD
 .injection aD with aG e2 e3
  injection aG with aG
  injection aG with aG
  subst aG e3;have e:eW.toList=aM (List.replicate n 0):=by
   rw[take_of_length_le (by rw[Array.length_toList];omega)]at aK;rw[aK,toList_madeCells_one];simp only[aM,map_replicate];rfl
  unfold Row;rw[<-e,Array.toArray_toList];exact hh
namespace am
def ec(z:Int):Prop:=-9223372036854775808<=z/\z<=9223372036854775807
def gv(l:List Int):Nat:=l.countP λz=>decide (0<z)
theorem arV(l:List Int)(k:Nat)(h:k<l.length):gv (l.take (k+1))=gv (l.take k)+(if 0<l[k]then 1 else 0):=by
 unfold gv;rw[fY h,countP_append,countP_singleton];simp
theorem HM(l:List Int):gv l<=l.length:=countP_le_length
def eL:ae->Nat
|[]=>0
|b::bs=>max (b+1) (eL bs)
def il(bs:ae):ae:=(List.range (eL bs)).map λs=>bs.count s
theorem asp(a b:ae):eL (a++b)=max (eL a) (eL b):=by
 induction a with
|nil=>simp[eL]
|cons x a ih=>rw[cons_append,eL,ih,eL];omega
theorem ZY(bs:ae)(k:Nat)(h:k<bs.length):eL (bs.take (k+1))=max (eL (bs.take k)) (bs[k]+1):=by
 rw[fY h,asp];simp[eL]
theorem tP(bs:ae)(h:∀x∈bs,x<256):eL bs<=256:=by
 induction bs with
|nil=>simp[eL]
|cons x a ih=>
  have h1:=ih (λy hy=>h y (eo _ hy));have af:=h x dU;rw[eL];omega
theorem w8(bs:ae)(b:Nat)(h:b∈bs):b<eL bs:=by
 induction bs with
|nil=>cases h
|cons x a ih=>
  rw[eL];rcases List.mem_cons.1 h with rfl|h1
  .omega
  .have:=ih h1;omega
def nr(bs:ae)(k:Nat):ae:=(List.range (eL bs)).map λs=>(bs.take k).count s
theorem RW(bs:ae):nr bs 0=List.replicate (eL bs) 0:=by
 unfold nr;rw[take_zero];simp only[count_nil];rw[map_const',length_range]
theorem RT(bs:ae):nr bs bs.length=il bs:=by unfold nr il;rw[take_length]
theorem ag0(bs:ae)(k:Nat):(nr bs k).length=eL bs:=by simp[nr]
theorem RU(bs:ae)(k b:Nat)(h:b<eL bs):(nr bs k)[b]?=some ((bs.take k).count b):=by simp[nr,h]
theorem RV(bs:ae)(k:Nat)(h:k<bs.length):nr bs (k+1)=(nr bs k).set bs[k] ((bs.take k).count bs[k]+1):=by
 apply ext_getElem
 .simp[ag0]
 .intro i h1 af;rw[getElem_set];simp only[nr,getElem_map,getElem_range];rw[fY h,count_append,count_singleton];by_cases e:bs[k]=i
  .subst e;simp
  .simp[e]
end am
theorem am1(T b:Nat):max ((T:Int)-1) (b:Int)=((max T (b+1):Nat):Int)-1:=by omega
theorem ve(n:Int)(w:ah)(aA:n<=40) :
  Calls prog 82 #[.int .i64 n] w λe w'=>e=.returned (.int .i64 ((2^n.toNat:Nat):Int))/\w=w':=by
 obtain⟨r,hres⟩:∃r,r=2^n.toNat:=⟨_,rfl⟩;rw[<-hres];have b4:=I hres;clear hres;go_enter func82,ntmps82
 go_wp2;go_loop [3,4] (λx i=>∃k:Nat,k<=n.toNat/\i=.int .i64 k/\x=.int .i64 ((2^k:Nat):Int)) (λ_ i=>n.toNat-(intOf i).toNat)
 case atStart=>exact⟨0,by omega,rfl,rfl⟩
 case round=>
  obtain⟨k,hk,rfl,rfl⟩:=hrel;have CM:2^k<=2^40:=dy (by omega) (by omega);have SP:(2:Nat)^40=1099511627776:=by decide
  rw[SP]at CM;clear SP;have ap:2^(k+1)=2^k*2:=ea 2 k;have ca:=I ap;have e7:Hid (k=n.toNat->2^k=r):=I (λe=>by rw[e,b4.out]);clear ap;generalize 2^k=m at CM ca e7 ⊢;by_cases a8:(k:Int)<n
  .go_wp2;go_round
   case rel=>exact⟨k+1,by omega,by go_num,by rw[ca.out];go_num⟩
   case measure=>simp[intOf];omega
  .rw[e7.out (by omega)];go_wp2;go_ret;exact⟨rfl,rfl⟩
namespace am
def Fair(l:List Int)(log:Int):Prop:=5<=log/\log<=9/\l.length<=256/\(∀x∈l,0<=x/\x<=1000)/\l.sum=((2^log.toNat:Nat):Int)
instance (l:List Int) (log:Int):Decidable (Fair l log):=by unfold Fair;exact inferInstance
def p9(l:List Int)(log:Int):Bool:=decide (Fair l log)
theorem ZB(l:List Int)(k:Nat)(h:k<l.length):(l.take (k+1)).sum=(l.take k).sum+l[k]:=by
 rw[fY h,sum_append_int,sum_singleton]
theorem JW(p:Int->Prop)(l:List Int)(k:Nat)(h:k<l.length)(ao:∀x∈l.take k,p x)(h1:p l[k]):∀x∈l.take (k+1),p x:=by
 rw[fY h];intro x ai;rcases List.mem_append.1 ai with af|af
 .exact ao x af
 .rw[List.mem_singleton.1 af];exact h1
theorem Zy(l:List Int)(h:∀x∈l,0<=x/\x<=1000):0<=l.sum/\l.sum<=1000*l.length:=by
 induction l with
|nil=>simp
|cons a l ih=>
  have h1:=ih (λx ai=>h x (eo _ ai));have af:=h a dU;rw[sum_cons,bY];omega
end am
theorem ajG(A:a7)(c:Nat)(l:List Int)(log:Int)(w:ah)(hl:l.length<=1000000000)(aj:Reads w A (gB l)) :
  Calls prog 156 #[.slice A l.length c,.int .i64 log] w λe w'=>e=.returned (.bool (p9 l log))/\w=w':=by
 have bj:=I aj;obtain⟨r,hres⟩:∃r,r=p9 l log:=⟨_,rfl⟩;rw[<-hres];have eU:∀P:Prop,(am.Fair l log->P)->¬P->false=r:=λP h ax=>by
  rw[hres];symm;unfold p9;exact bG (λh1=>ax (h h1))
 have ff:=I eU;have b4:=I hres;clear aj hres eU;by_cases h1:log<5
 .have aL:false=r:=ff.out (5<=log) (λh=>h.1) (by omega);rw[<-aL];go_enter func156,ntmps156
  go_wp2;go_ret;exact⟨rfl,rfl⟩
 by_cases af:9<log
 .have aL:false=r:=ff.out (log<=9) (λh=>h.2.1) (by omega);rw[<-aL];go_enter func156,ntmps156
  go_wp2;go_ret;exact⟨rfl,rfl⟩
 by_cases aq:256<l.length
 .have aL:false=r:=ff.out (l.length<=256) (λh=>h.2.2.1) (by omega);rw[<-aL];go_enter func156,ntmps156
  go_wp2;go_ret;exact⟨rfl,rfl⟩
 have ap:=I (ve log w (by omega));go_enter func156,ntmps156
 go_wp2;go_loop [5,6] (λn i=>∃k:Nat,k<=l.length/\i=.int .i64 k/\n=.int .i64 (l.take k).sum/\∀x∈l.take k,0<=x/\x<=1000) (λ_ i=>l.length-(intOf i).toNat)
 case atStart=>exact⟨0,by omega,rfl,rfl,by simp⟩
 case round=>
  obtain⟨k,hk,rfl,rfl,hall⟩:=hrel;by_cases a8:k<l.length
  .obtain⟨g,off,rfl,hc⟩:=vq bj.out (by omega);have c0:=hc k a8;have ak:=Zy _ hall;rw[cr,Nat.min_eq_left (by omega)]at ak;have ca:=I (ZB l k a8);have iE:=I (JW (λx=>0<=x/\x<=1000) l k a8 hall);have cj:=I (b8 a8);clear hc hall ap;generalize (l.take k).sum=m at ak ca ⊢;generalize l[k]=z at c0 ca iE cj;by_cases aQ:z<0
   .have aL:false=r:=ff.out (0<=z) (λh=>(h.2.2.2.1 z cj.out).1) (by omega);have br:=I aL;clear aL;go_wp2;go_ret;exact⟨congrArg (λx=>Ending.returned (Value.bool x)) br,rfl⟩
   by_cases bz:1000<z
   .have aL:false=r:=ff.out (z<=1000) (λh=>(h.2.2.2.1 z cj.out).2) (by omega);have br:=I aL;clear aL;go_wp2;go_ret;exact⟨congrArg (λx=>Ending.returned (Value.bool x)) br,rfl⟩
   go_wp2;go_round
   case rel=>exact⟨k+1,by omega,by go_num,by rw[ca.out],iE.out (by omega)⟩
   case measure=>simp[intOf];omega
  .obtain rfl:k=l.length:=by omega
   rw[take_length]at hall ⊢;have ak:=Zy _ hall;have hres:(l.sum==((2^log.toNat:Nat):Int))=r:=by
    rw[b4.out];unfold p9;rw[Bool.eq_iff_iff,beq_iff_eq,decide_eq_true_iff];exact⟨λh=>⟨by omega,by omega,by omega,hall,h⟩,λh=>h.2.2.2.2⟩
   clear hall;generalize 2^log.toNat=m at hres ap;generalize l.sum=q at hres ak ⊢;go_wp2_with fail
   refine ap.out.mono ?_;rintro e w' ⟨rfl,rfl⟩;go_wp2;go_ret;exact⟨rfl,rfl⟩
namespace am
def jn:ae->Nat
|[]=>0
|x::l=>max x (jn l)
def fN(l:ae):Nat:=l.idxOf (jn l)
theorem G3(l:ae):∀x∈l,x<=jn l:=by
 induction l with
|nil=>intro x h;cases h
|cons a l ih=>
  intro x h;rw[jn];rcases List.mem_cons.1 h with rfl|h
  .omega
  .have:=ih x h;omega
theorem Ny(l:ae)(h:l≠[]):jn l∈l:=by
 induction l with
|nil=>exact absurd rfl h
|cons a l ih=>
  rw[jn];by_cases hl:l=[]
  .subst hl;simp[jn]
  .have h1:=ih hl;by_cases af:jn l<=a
   .rw[Nat.max_eq_left af];exact dU
   .rw[Nat.max_eq_right (by omega)];exact eo _ h1
theorem CH(l:ae)(h:l≠[]):fN l<l.length:=idxOf_lt_length_of_mem (Ny l h)
theorem CG(l:ae)(h:fN l<l.length):l[fN l]=jn l:=getElem_idxOf h
theorem am0(a b:ae):jn (a++b)=max (jn a) (jn b):=by
 induction a with
|nil=>simp[jn]
|cons x a ih=>rw[cons_append,jn,ih,jn];omega
theorem ah2(a:ae)(x:Nat)(h:a≠[]):fN (a++[x])=if jn a<x then a.length else fN a:=by
 have hm:=Ny a h;have e:jn [x]=x:=by simp[jn]
 unfold fN;rw[am0,e];split
 .next au=>
  rw[Nat.max_eq_right (by omega),idxOf_append,az (λai=>by have:=G3 a x ai;omega)];simp
 .next au=>
  rw[Nat.max_eq_left (by omega),idxOf_append,aB hm]
theorem OX(p:ae)(k:Nat)(f:Nat->Nat)(h:k<p.length):(p.modify k f).sum+p[k]=p.sum+f p[k]:=by
 induction p generalizing k with
|nil=>simp at h
|cons a p ih=>
  cases k with
 |zero=>simp;omega
 |succ k=>
   have:=ih k (by simpa using h);simp[modify_succ_cons]at this ⊢;omega
theorem get_modify(p:ae)(k i:Nat)(f:Nat->Nat):(p.modify k f)[i]?=if k=i then p[i]?.map f else p[i]?:=by
 rw[getElem?_modify];cases h:p[i]?<;>split<;>simp
def oI(p q:ae):Prop:=p.length=q.length/\∀i:Nat,0<p[i]?.getD 0↔0<q[i]?.getD 0
theorem oI.refl(p:ae):oI p p:=⟨rfl,λ_=>Iff.rfl⟩
theorem oI.trans{p q r:ae}(h:oI p q)(k:oI q r):oI p r:=⟨h.1.trans k.1,λi=>(h.2 i).trans (k.2 i)⟩
def ld(l:ae):Nat:=l.countP λn=>decide (0<n)
theorem oI.ld:∀{p q:ae},oI p q->ld p=ld q
|[],[],_=>rfl
|[],_::_,h=>by have:=h.1;simp at this
|_::_,[],h=>by have:=h.1;simp at this
|a::p,b::q,h=>by
  have ao:=h.2 0;have h1:oI p q:=⟨by have:=h.1;simpa using this,λi=>by have:=h.2 (i+1);simpa using this⟩;have af:=h1.ld;unfold am.ld at af ⊢;rw[countP_cons,countP_cons,af];simp at ao;by_cases aV:0<a<;>simp[aV,ao.1]<;>simp_all
theorem Zz(l:ae)(h:∀x∈l,x<=1):l.sum<=ld l:=by
 induction l with
|nil=>simp
|cons a l ih=>
  have h1:=ih (λx ai=>h x (eo _ ai));have af:=h a dU;unfold ld at h1 ⊢;rw[sum_cons,countP_cons];by_cases aV:0<a
  .simp[aV];omega
  .simp[aV];omega
def decs:Nat->ae->ae
|0,p=>p
|k+1,p=>decs k (p.modify (fN p) (·-1))
theorem R6(size:Nat):∀(k:Nat) (p:ae),ld p<=size->p.sum=size+k->(decs k p).sum=size/\oI (decs k p) p
|0,p,_,ap=>⟨by simpa [decs]using ap,oI.refl p⟩
|k+1,p,ax,ap=>by
  have aZ:p≠[]:=by rintro rfl;simp at ap
  have au:=CH p aZ;have hget:=CG p au;have af:2<=jn p:=by
   rcases eF (jn p) 2 with h1|h1
   .have:=Zz p (λx ai=>by have:=G3 p x ai;omega);omega
   .exact h1
  have hsum:=OX p (fN p) (·-1) au;rw[hget]at hsum;have hsame:oI (p.modify (fN p) (·-1)) p:=by
   refine⟨by simp,λi=>?_⟩;rw[get_modify];split
   .next e=>
    subst e;rw[bI au,hget];simp;omega
   .exact Iff.rfl
  have aq:=R6 size k (p.modify (fN p) (·-1)) (by rw[hsame.ld];exact ax) (by omega);exact⟨aq.1,aq.2.trans hsame⟩
def oY(size total c:Nat):Nat:=if c*size/total=0/\0<c then 1 else c*size/total
def parts(ag:ae)(size:Nat):ae:=ag.map (oY size ag.sum)
def vv(ag:ae)(size:Nat):ae:=
 if (parts ag size).sum<size then(parts ag size).modify (fN ag) (·+(size-(parts ag size).sum))else decs ((parts ag size).sum-size) (parts ag size)
theorem anY(size total c:Nat):0<oY size total c↔0<c:=by
 unfold oY;split
 .next h=>simp[h.2]
 .next h=>
  constructor
  .intro h1;rcases eq_zero_or_pos c with af|af
   .subst af;simp at h1
   .exact af
  .intro h1;rcases eq_zero_or_pos (c*size/total)with af|af
   .exact absurd ⟨af,h1⟩ h
   .exact af
theorem X5(ag:ae)(size:Nat):oI (parts ag size) ag:=by
 refine⟨by simp[parts],λi=>?_⟩;unfold parts;rw[getElem?_map];cases h:ag[i]? with
|none=>simp
|some c=>simp[anY]
theorem OB(ag:ae)(size:Nat)(ao:0<ag.sum)(h:ld ag<=size):(vv ag size).sum=size/\oI (vv ag size) ag:=by
 have hsame:=X5 ag size;unfold vv;split
 .next au=>
  have aZ:ag≠[]:=by rintro rfl;simp at ao
  have hlt2:=CH ag aZ;have hlt3:fN ag<(parts ag size).length:=by rw[hsame.1];exact hlt2
  have ap:=OX (parts ag size) (fN ag) (·+(size-(parts ag size).sum)) hlt3;refine⟨by omega,⟨by simp[hsame.1],λi=>?_⟩⟩;rw[get_modify];split
  .next e=>
   subst e;have h1:=hsame.2 (fN ag);have ax:0<ag[fN ag]?.getD 0:=by
    rw[bI hlt2,CG ag hlt2];simp;rcases eq_zero_or_pos (jn ag)with af|af
    .have aq:ag.sum=0:=by
      have:∀(l:ae),(∀x∈l,x=0)->l.sum=0:=λl=>by
       induction l with
      |nil=>simp
      |cons a l ih=>intro hh;rw[sum_cons,hh a dU,ih (λx ai=>hh x (eo _ ai))]
      exact this ag (λx ai=>by have:=G3 ag x ai;omega)
     omega
    .exact af
   rw[bI hlt3]at h1 ⊢;simp at h1 ⊢;have:=h1.2 ax;omega
  .exact hsame.2 i
 .next au=>
  have h1:=R6 size ((parts ag size).sum-size) (parts ag size) (by rw[hsame.ld];exact h) (by omega);exact⟨h1.1,h1.2.trans hsame⟩
def Right(l:List Int):Prop:=l.length<=256/\(∀x∈l,0<=x/\x<=1048576)/\∃x∈l,0<x
def su(sym q:Nat):Nat:=
 if 4*sym<=32/\q<=32 then 5 else if 4*sym<=64/\q<=64 then 6 else if 4*sym<=128/\q<=128 then 7 else if 4*sym<=256/\q<=256 then 8 else 9
theorem W9(sym q:Nat)(h:sym<=256):5<=su sym q/\su sym q<=9/\sym<=2^su sym q:=by
 unfold su;split
 .refine⟨by omega,by omega,?_⟩;have:(2:Nat)^5=32:=by decide
  omega
 split
 .refine⟨by omega,by omega,?_⟩;have:(2:Nat)^6=64:=by decide
  omega
 split
 .refine⟨by omega,by omega,?_⟩;have:(2:Nat)^7=128:=by decide
  omega
 split
 .refine⟨by omega,by omega,?_⟩;have:(2:Nat)^8=256:=by decide
  omega
 .refine⟨by omega,by omega,?_⟩;have:(2:Nat)^9=512:=by decide
  omega
end am
namespace am
instance (l:List Int):Decidable (Right l):=by unfold Right;exact inferInstance
def rI(l:List Int)(log:Int):Prop:=Right l/\5<=log/\log<=9/\gv l<=2^log.toNat
instance (l:List Int) (log:Int):Decidable (rI l log):=by unfold rI;exact inferInstance
def o1(l:List Int)(log:Int):List Int:=if rI l log then(vv (l.map Int.toNat) (2^log.toNat)).map (λn:Nat=>(n:Int))else []
def e9(l:List Int):Nat:=if Right l then su (gv l) (l.sum.toNat/8)else 0
end am
def aap:Prop:=∀(A:a7) (c:Nat) (bs:ae) (w:ah),bs.length<=1000000->(∀x∈bs,x<256)->Reads w A (aO bs) ->
 Calls prog 64 #[.slice A bs.length c] w λe w'=>∃da db,e=.returned (.slice da (eL bs) db)/\Reads w' da (aM (il bs))/\av w w'
def aar:Prop:=∀(A:a7) (c:Nat) (l:List Int) (w:ah),l.length<=1000000->Reads w A (gB l) ->
 Calls prog 65 #[.slice A l.length c] w λe w'=>e=.returned (.int .i64 (gv l))/\av w w'
def aao:Prop:=∀(A:a7) (c:Nat) (l:List Int) (w:ah),l.length<=1000000->(∀x∈l,ec x)->Reads w A (gB l) ->
 Calls prog 162 #[.slice A l.length c] w λe w'=>e=.returned (.int .i64 (e9 l))/\av w w'
def aaq:Prop:=∀(A:a7) (c:Nat) (l:List Int) (log:Int) (w:ah),l.length<=1000000->(∀x∈l,ec x)->ec log->Reads w A (gB l) ->
 Calls prog 163 #[.slice A l.length c,.int .i64 log] w λe w'=>∃da db,e=.returned (.tuple #[.slice da (o1 l log).length db,.bool (decide (rI l log))])/\Reads w' da (gB (o1 l log))/\av w w'
namespace am
def ei(bs:ae):List Int:=(il bs).map λn:Nat=>(n:Int)
theorem s8(bs:ae):(ei bs).length=eL bs:=by simp[ei,il]
theorem FF(bs:ae)(x:Int)(h:x∈ei bs):0<=x/\x<=bs.length:=by
 unfold ei il at h;rw[List.map_map,mem_map]at h;obtain⟨s,_,rfl⟩:=h;have:=count_le_length (a:=s) (l:=bs);exact⟨Int.natCast_nonneg _,by simp only[Function.comp_apply];omega⟩
theorem RS(bs:ae)(au:∀x∈bs,x<256)(hl:bs.length<=1048576)(ao:0<bs.length):Right (ei bs):=by
 refine⟨by rw[s8];exact tP bs au,λx ai=>by have:=FF bs x ai;omega,?_⟩;obtain⟨b,ak⟩:∃b,b∈bs:=by
  cases bs with
 |nil=>simp at ao
 |cons b bs=>exact⟨b,dU⟩
 refine⟨((bs.count b:Nat):Int),?_,?_⟩
 .unfold ei il;rw[List.map_map,mem_map];exact⟨b,List.mem_range.2 (w8 bs b ak),rfl⟩
 .have:=List.count_pos_iff.2 ak;omega
theorem Kq(bs:ae)(au:∀x∈bs,x<256)(hl:bs.length<=1048576):rI (ei bs) (e9 (ei bs):Int)↔0<bs.length:=by
 constructor
 .rintro⟨⟨_,_,x,ai,ao⟩,_⟩;have:=FF bs x ai;omega
 .intro ao;have aj:=RS bs au hl ao;have ap:=HM (ei bs);rw[s8]at ap;have aE:=tP bs au;have h1:=W9 (gv (ei bs)) ((ei bs).sum.toNat/8) (by omega);unfold e9;rw[aB aj];exact⟨aj,by omega,by omega,by rw[cX];exact h1.2.2⟩
end am
abbrev oq:=Nat×Nat×Nat
def pn(t:oq):b1:=[.int .u8 (t.1:Int),.int .i64 (t.2.1:Int),.int .i64 (t.2.2:Int)]
def c3:List oq->b1
|[]=>[]
|t::l=>pn t++c3 l
theorem Ka(l:List oq):(c3 l).length=l.length*3:=by
 induction l with
|nil=>rfl
|cons t l ih=>rw[c3,aY,ih,bY];simp[pn];omega
theorem xT(l:List oq)(i:Nat)(h:i<l.length):(c3 l)[i*3]?=some (.int .u8 (l[i].1:Int))/\(c3 l)[i*3+1]?=some (.int .i64 (l[i].2.1:Int))/\(c3 l)[i*3+2]?=some (.int .i64 (l[i].2.2:Int)):=by
 induction l generalizing i with
|nil=>simp at h
|cons t l ih=>
  cases i with
 |zero=>exact⟨rfl,rfl,rfl⟩
 |succ i=>
   have h1:=ih i (by simpa using h);rw[c3];have e:∀j,(pn t++c3 l)[(i+1)*3+j]?=(c3 l)[i*3+j]?:=λj=>by
    rw[iY (by simp[pn];omega)];congr 1
    simp[pn];omega
   have e0:=e 0;rw[fX,fX]at e0;rw[e0,e 1,e 2];exact h1
theorem Fu(l:List oq)(i:Nat)(h:i<l.length)(s b z:Nat) :
  (c3 l).set (i*3) (.int .u8 s)=c3 (l.set i (s,l[i].2))/\(c3 l).set (i*3+1) (.int .i64 b)=c3 (l.set i (l[i].1,b,l[i].2.2))/\(c3 l).set (i*3+2) (.int .i64 z)=c3 (l.set i (l[i].1,l[i].2.1,z)):=by
 induction l generalizing i with
|nil=>simp at h
|cons t l ih=>
  cases i with
 |zero=>exact⟨rfl,rfl,rfl⟩
 |succ i=>
   have h1:=ih i (by simpa using h);have e:∀j v,(pn t++c3 l).set ((i+1)*3+j) v=pn t++(c3 l).set (i*3+j) v:=λj v=>by
    rw[set_append_right _ _ (by simp[pn];omega)];congr 2
    simp[pn];omega
   have e0:=λv=>e 0 v
   simp only[fX]at e0;simp only[c3,e0,e 1,e 2,set_cons_succ,getElem_cons_succ];exact⟨by rw[h1.1],by rw[h1.2.1],by rw[h1.2.2]⟩
theorem apH{w:ah}{A:a7}{l:List oq}(h:Reads w A (c3 l))(aZ:0<l.length):∃g off,A=some ⟨g,off,none⟩/\∀j (ar:j<l.length),w.cell? ⟨g,off+j*3,none⟩=some (.int .u8 (l[j].1:Int))/\w.cell? ⟨g,off+j*3+1,none⟩=some (.int .i64 (l[j].2.1:Int))/\w.cell? ⟨g,off+j*3+2,none⟩=some (.int .i64 (l[j].2.2:Int)):=by
 have hne':c3 l≠[]:=λe=>by
  have h1:=congrArg List.length e;rw[Ka,length_nil]at h1;omega
 obtain⟨g,off,e,hc⟩:=h hne';refine⟨g,off,e,λj ar=>?_⟩;obtain⟨ao,h1,af⟩:=xT l j ar;have hl:=Ka l;have bD:=hc (j*3) (by omega);have bh:=hc (j*3+1) (by omega);have bN:=hc (j*3+2) (by omega);rw[ao]at bD;rw[h1,<-iO]at bh;rw[af,<-iO]at bN;exact⟨bD,bh,bN⟩
theorem ao5{P:Program}{f:FuncId}{args:Array Value}{w:ah}{n:Nat}{v:Value}
  (h:Calls P f args (w.drewN n) λe w'=>e=.returned v/\w.drewN n=w'):Calls P f args (w.drewN n) λe o5=>e=.returned v/\∃m,o5=w.drewN m:=
 h.mono λ_ _ ⟨he,hm⟩=>⟨he,n,hm.symm⟩
namespace am
def nj(U:ae)(log:Nat):List oq:=(List.range (2^log)).map λp=>(cC U log p,cd U log p,eh U log p)
def mA(U:ae)(log K:Nat):List oq:=(List.range (2^log)).map λp=>((if q1 log p<K then cC U log p else 0),0,0)
def hN(U:ae)(log s i:Nat):List oq:=(List.range (2^log)).map λp=>if cC U log p<s\/(cC U log p=s/\p<i)then(cC U log p,cd U log p,eh U log p)else(cC U log p,0,0)
theorem Kd(U:ae)(log:Nat):(nj U log).length=2^log:=by simp[nj]
theorem Hm(U:ae)(log K:Nat):(mA U log K).length=2^log:=by simp[mA]
theorem X8(U:ae)(log s i:Nat):(hN U log s i).length=2^log:=by simp[hN]
theorem RD(U:ae)(log p:Nat)(h:p<(nj U log).length):(nj U log)[p]=(cC U log p,cd U log p,eh U log p):=by simp[nj]
theorem X7(U:ae)(log:Nat):mA U log 0=List.replicate (2^log) (0,0,0):=by
 unfold mA;simp only[not_lt_zero,if_false];rw[map_const',length_range]
theorem X6(U:ae)(log K s:Nat)(aT:5<=log)(dh:log<=9)(hK:K<2^log)(ap:(om 0 U)[K]?=some s) :
  ∃h:gI log K<(mA U log K).length,mA U log (K+1)=(mA U log K).set (gI log K) (s,(mA U log K)[gI log K].2):=by
 have ax:=Hp log K;refine⟨by rw[Hm];exact ax,?_⟩;have ay:=inv_pos log K aT dh hK;apply ext_getElem
 .simp[Hm]
 .intro p h1 af;have nz:p<2^log:=by rw[Hm]at h1;exact h1
  rw[getElem_set];simp only[mA,getElem_map,getElem_range];by_cases e:gI log K=p
  .subst e;rw[aB rfl,ay,aB (by omega)];unfold cC;rw[ay,ap];rfl
  .rw[az e];have aZ:q1 log p≠K:=λh=>e (by rw[<-h];exact N5 log p aT dh nz)
   by_cases au:q1 log p<K
   .rw[aB au,aB (by omega)]
   .rw[az au,az (by omega)]
theorem an7(U:ae)(log:Nat):mA U log (2^log)=hN U log 0 0:=by
 unfold mA hN;apply map_congr_left
 intro p _;rw[aB (M6 log p),az (by omega)]
theorem X9(U:ae)(log s i:Nat)(h:cC U log i≠s):hN U log s (i+1)=hN U log s i:=by
 unfold hN;apply map_congr_left
 intro p _;by_cases e:p=i
 .subst e;congr 1
  apply propext
  constructor<;>intro h1<;>omega
 .congr 1
  apply propext
  constructor<;>intro h1<;>omega
theorem aob(U:ae)(log i:Nat):hN U log (cC U log i) (i+1)=(hN U log (cC U log i) i).set i (cC U log i,cd U log i,eh U log i):=by
 apply ext_getElem
 .simp[X8]
 .intro p h1 af;rw[getElem_set];simp only[hN,getElem_map,getElem_range];by_cases e:i=p
  .subst e;rw[aB rfl,aB (by omega)]
  .rw[az e];congr 1
   apply propext
   constructor<;>intro aq<;>omega
theorem an9(U:ae)(log s i:Nat)(ap:cC U log i=s)(h:i<(hN U log s i).length):(hN U log s i)[i]=(s,0,0):=by
 subst ap;simp only[hN,getElem_map,getElem_range];rw[az (by omega)]
theorem aoc(U:ae)(log s i p:Nat)(h:p<(hN U log s i).length):(hN U log s i)[p].1=cC U log p:=by
 simp only[hN,getElem_map,getElem_range];split<;>rfl
theorem aoa(U:ae)(log s:Nat):hN U log s (2^log)=hN U log (s+1) 0:=by
 unfold hN;apply map_congr_left
 intro p ax;have:=List.mem_range.1 ax;congr 1
 apply propext
 constructor<;>intro h1<;>omega
theorem Ya(U:ae)(log s:Nat)(h:dW U log)(ap:U[s]?.getD 0=0):hN U log s 0=hN U log (s+1) 0:=by
 unfold hN;apply map_congr_left
 intro p ax;have aZ:cC U log p≠s:=λe=>by
  obtain⟨h1,af⟩:=w6 U log p h (List.mem_range.1 ax);have aq:U[cC U log p]?.getD 0=0:=by rw[e];exact ap
  rw[bI h1,b7]at aq;omega
 congr 1
 apply propext
 constructor<;>intro h1<;>omega
theorem an8(U:ae)(log:Nat)(h:dW U log):hN U log U.length 0=nj U log:=by
 unfold hN nj;apply map_congr_left
 intro p ax;obtain⟨h1,_⟩:=w6 U log p h (List.mem_range.1 ax);rw[aB (Or.inl h1)]
theorem ZJ(U:ae)(log p:Nat)(ax:p<2^log)(h:p<(eP U log).length):(eP U log)[p]=cC U log p:=by
 have:=y8 U log p ax;rw[bI h]at this;injection this
end am
theorem Xe(n:Nat):(madeCells #[Value.int .u8 0,.int .i64 0,.int .i64 0] (n*3)).toList=c3 (List.replicate n (0,0,0)):=by
 apply ext_getElem
 .simp[madeCells,Ka]
 .intro i h1 af;have ay:i<n*3:=by simpa [madeCells]using h1
  have hq:i/3<(List.replicate n ((0,0,0):oq)).length:=by simp;omega
  obtain⟨e0,aG,e2⟩:=xT (List.replicate n (0,0,0)) (i/3) hq;rw[getElem_replicate]at e0 aG e2;have hl:(madeCells #[Value.int .u8 0,.int .i64 0,.int .i64 0] (n*3)).toList[i]=(#[Value.int .u8 0,.int .i64 0,.int .i64 0]:Array Value)[i%3]!:=by simp[madeCells]
  have aj:i%3=0\/i%3=1\/i%3=2:=by omega
  rw[hl,<-some_inj,<-bI af];rcases aj with h|h|h
  .rw[h,show i=i/3*3 by omega,e0];rfl
  .rw[h,show i=i/3*3+1 by omega,aG];rfl
  .rw[h,show i=i/3*3+2 by omega,e2];rfl
theorem WA:(prog.info? 248).map (λi=>(i.zero,i.size,i.bytes))=some (some (.agg #[.int .u8 0,.int .i64 0,.int .i64 0]),3,24):=by kernel_rfl
theorem aqd{w:ah}{base g n:Nat}(h:w.ownsRow base 248 3 (.slice (some ⟨g,0,none⟩) n n) n (madeCells #[Value.int .u8 0,.int .i64 0,.int .i64 0] (n*3)).toList):Row w g 248 (c3 (List.replicate n (0,0,0))):=by
 rcases h.2 with⟨aD,_⟩|⟨eT,cap,eW,aD,ak,hh,h1,af,aq,aK⟩
 .cases aD
 .injection aD with aG e2 e3
  injection aG with aG
  injection aG with aG
  subst aG e3;have e:eW.toList=c3 (List.replicate n (0,0,0)):=by
   rw[take_of_length_le (by rw[Array.length_toList];omega)]at aK;rw[aK,Xe]
  unfold Row;rw[<-e,Array.toArray_toList];exact hh
namespace am
theorem ae4(U:ae)(log st s p:Nat)(h:lk U log st s=some p):p<2^log/\leads U log st s p:=by
 unfold lk at h;have h1:=find?_some h;have af:=List.mem_range.1 (mem_of_find?_eq_some h);exact⟨af,of_decide_eq_true h1⟩
end am
theorem Rs(l:List oq)(i s B Z:Nat)(h:i<l.length)(hl:l[i]=(s,0,0)):((c3 l).set (i*3+1) (.int .i64 B)).set (i*3+2) (.int .i64 Z)=c3 (l.set i (s,B,Z)):=by
 have h1:=(Fu l i h 0 B 0).2.1;rw[hl]at h1;rw[h1];have ew:i<(l.set i (s,B,0)).length:=by simpa using h
 have af:=(Fu (l.set i (s,B,0)) i ew 0 0 Z).2.2;rw[getElem_set_self,set_set]at af;exact af
theorem aru(a S:Nat):((a:Int)+S/2+(S:Int)/8+3)%(S:Int)=(((a+(S/2+S/8+3))%S:Nat):Int):=by
 rw[Int.natCast_emod];congr 1
 omega
theorem alo(A:a7)(c:Nat)(U:ae)(log:Nat)(w:ah)(aL:dW U log)(aj:Reads w A (aM U)) :
  Calls prog 158 #[.slice A U.length c,.int .i64 log] w λe w'=>∃g,e=.returned (.slice (some ⟨g,0,none⟩) (2^log) (2^log))/\w.heap.size<=g/\Row w' g 248 (c3 (nj U log))/\av w w':=by
 obtain⟨i0,ay,bC,bL,bz⟩:=info_parts WA;have br:=I aL;have Df:=aL.low;have Dg:=aL.high;have hlen:=aL.len;obtain⟨S,cD⟩:∃S,S=2^log:=⟨_,rfl⟩;have aiS:32<=S:=by rw[cD];exact dy (n:=2) (by omega) Df
 have S5:S<=512:=by rw[cD];exact dy (n:=2) (by omega) Dg
 have hsum:U.sum=S:=by rw[cD];exact aL.sum
 have hX:∀s (h:s<U.length),∃g off,A=some ⟨g,off,none⟩/\w.cell? ⟨g,off+s,none⟩=some (.int .i64 (U[s]:Int))/\g<w.heap.size:=λs h=>by
  obtain⟨g,off,e,hc⟩:=aj (by intro e;have:=congrArg List.length e;rw[gm,length_nil]at this;omega);have h1:=hc s (by rw[gm];exact h);rw[iN U s h]at h1;exact⟨g,off,e,h1,World.block_lt_of_cell? w _ h1⟩
 have bB:=I (λW=>ve (log:Int) W (by omega));rw[cX,<-cD]at bB;have qz:=I hX;have cS:=I cD;have rB:=I hsum;clear aL aj hX cD hsum;obtain⟨g0,hJ⟩:∃g,g=w.heap.size:=⟨_,rfl⟩;have fJ:=I hJ;clear hJ;rw[<-cS.out];go_enter func158,ntmps158
 go_wp2_with fail
 refine(bB.out w).mono ?_;rintro e w' ⟨rfl,rfl⟩;go_wp2_with (at_make;refine wpList_make_full _ rfl _ _ 210 rfl w.heap.size 248 i0 (.agg #[.int .u8 0,.int .i64 0,.int .i64 0]) 3 underlying210 ay bC bL .i64 .i64 _ _ S rfl rfl ?c1 ?c1 ?c2 ?c3 ?c4 ?_)
 case c1=>rfl
 case c2=>first|omega|(rw[bz];omega)
 case c3=>unfold maxLen;omega
 try case c4=>exact Nat.le_refl _
 intro aw hown1 a1;have aH:=kZ a1;have kH:=aqd hown1;rw[<-fJ.out]at kH ⊢;have cg:Row aw g0 248 (c3 (mA U log 0)):=by rw[X7,<-cS.out];exact kH
 have aN:=I aH;have fw:=I cg;clear hown1 a1 kH aH cg ay bC bL bz;go_wp2;go_loopw [7,8,9] (λa s _ wr=>∃cu:Nat,cu<=U.length/\a=.int .i64 (gI log (U.take cu).sum:Int)/\s=.int .i64 cu/\Hid (Row wr g0 248 (c3 (mA U log (U.take cu).sum)))/\Hid (av w wr)) (λ_ s _ _=>U.length-(intOf s).toNat)
 case atStart=>exact⟨0,by omega,by simp[gI],rfl,I (by rw[take_zero,sum_nil];exact fw),aN⟩
 case round=>
  obtain⟨cu,sj,rfl,rfl,hrow,hbel⟩:=hrel;by_cases au:cu<U.length
  .obtain⟨g,off,rfl,hcell,jC⟩:=qz.out cu au;obtain⟨K,hK⟩:∃K,K=(U.take cu).sum:=⟨_,rfl⟩;have x2:(U.take (cu+1)).sum=K+U[cu]:=by rw[fY au,sum_append_nat,hK];simp
   have La:K+U[cu]<=S:=by
    rw[<-x2,<-rB.out,<-gq (cu+1) U,sum_append_nat];simp
   have iv:∀k,k<U[cu]->(om 0 U)[K+k]?=some cu:=λk hk=>by
    have h1:=ZF U 0 cu k au hk;rw[ez,<-hK]at h1;exact h1
   rw[<-hK]at hrow ⊢;have ju:=I iv;have Bq:=I x2;have nO:=I hcell;clear iv x2 hK hcell;generalize U[cu]=n at ju Bq La nO;have ake:n<=512:=by omega
   go_wp2;go_loopw [7,9] (λa k wr=>∃dC:Nat,dC<=n/\a=.int .i64 (gI log (K+dC):Int)/\k=.int .i64 dC/\Hid (Row wr g0 248 (c3 (mA U log (K+dC))))/\Hid (av w wr)) (λ_ k _=>n-(intOf k).toNat)
   case atStart=>exact⟨0,by omega,rfl,rfl,hrow,hbel⟩
   case round=>
    obtain⟨dC,At,rfl,rfl,hrow2,jk⟩:=hrel;clear hrow hbel;have c0:=(jk.out.cell (p:=⟨g,off+cu,none⟩) jC).trans nO.out;by_cases kG:dC<n
    .have cn:gI log (K+dC)<S:=by rw[cS.out];exact Hp log _
     obtain⟨qV,gH⟩:=X6 U log (K+dC) cu Df Dg (by rw[<-cS.out];omega) (ju.out dC kG);have qW:=Yf log (K+dC);rw[<-cS.out]at qW;have aS:y2 log=S/2+S/8+3:=by unfold y2;rw[<-cS.out]
     rw[aS,show K+dC+1=K+(dC+1) by omega]at qW;rw[show K+dC+1=K+(dC+1) by omega]at gH;have hcs:=(Fu (mA U log (K+dC)) (gI log (K+dC)) qV cu 0 0).1;rw[<-gH]at hcs;have hget:=(xT (mA U log (K+dC)) (gI log (K+dC)) qV).1;have c1:=(hrow2.out.cell (gI log (K+dC)*3)).trans hget;have f1:=hrow2.out.free (gI log (K+dC)*3);have h4:=I (hrow2.out.bq (gI log (K+dC)*3) (.int .u8 cu));rw[hcs]at h4;generalize (mA U log (K+dC))[gI log (K+dC)].1=old at c1;have xB:=I qW;clear gH qW aS hcs hget qV hrow2;generalize gI log (K+dC)=a at cn c1 f1 h4 xB ⊢;go_wp2;go_roundw
     case rel=>
      refine⟨dC+1,by omega,?_,by go_num,h4,I (jk.out.setCell (by rw[fJ.out];exact Nat.le_refl _) _)⟩;rw[xB.out,aru]
     case measure=>simp[intOf];omega
    .obtain rfl:dC=n:=by omega
     rw[<-Bq.out]at hrow2 ⊢;go_wp2;go_roundw
     case rel=>exact⟨cu+1,by omega,rfl,by go_num,hrow2,jk⟩
     case measure=>simp[intOf];omega
  .obtain rfl:cu=U.length:=by omega
   rw[take_length,rB.out,cS.out,an7]at hrow;have E1:=hrow;clear hrow;generalize gI log (U.take U.length).sum=aeX;go_wp2;go_loopw [10,11,12] (λs _ _ wr=>∃cu:Nat,cu<=U.length/\s=.int .i64 cu/\Hid (Row wr g0 248 (c3 (hN U log cu 0)))/\Hid (av w wr)) (λs _ _ _=>U.length-(intOf s).toNat)
   case atStart=>exact⟨0,by omega,rfl,E1,hbel⟩
   case round=>
    obtain⟨cu,sj,rfl,hrow,hbel⟩:=hrel;by_cases au:cu<U.length
    .obtain⟨g,off,rfl,hcell,jC⟩:=qz.out cu au;have UV:U[cu]?.getD 0=U[cu]:=by simp[au]
     have akf:U[cu]<=512:=by
      have h1:(U.take (cu+1)).sum=(U.take cu).sum+U[cu]:=by rw[fY au,sum_append_nat];simp
      have af:(U.take (cu+1)).sum+(U.drop (cu+1)).sum=S:=by rw[<-sum_append_nat,gq];exact rB.out
      omega
     have zu:=I UV;have nO:=I hcell;have c0:=(hbel.out.cell (p:=⟨g,off+cu,none⟩) jC).trans hcell;clear hcell UV;generalize U[cu]=n at zu akf nO c0;go_wp2;clear c0;go_loopw [11,12] (λx i wr=>∃cI:Nat,cI<=S/\i=.int .i64 cI/\x=.int .i64 ((n+((am.eP U log).take cI).count cu:Nat):Int)/\Hid (Row wr g0 248 (c3 (hN U log cu cI)))/\Hid (av w wr)) (λ_ i _=>S-(intOf i).toNat)
     case atStart=>exact⟨0,by omega,rfl,by simp,hrow,hbel⟩
     case round=>
      obtain⟨cI,LU,rfl,rfl,hrow2,jk⟩:=hrel;clear hrow hbel;have c0:=(jk.out.cell (p:=⟨g,off+cu,none⟩) jC).trans nO.out;have wU:=Kp (am.eP U log) cI cu;have wO:=y7 U log cu br.out;rw[zu.out]at wO;rw[wO]at wU;by_cases LS:cI<S
      .by_cases g6:0<n
       .have yj:cI<2^log:=by rw[<-cS.out];exact LS
        have r4:cI<(hN U log cu cI).length:=by rw[X8];exact yj
        have hget:=(xT (hN U log cu cI) cI r4).1;rw[aoc]at hget;have c1:=(hrow2.out.cell (cI*3)).trans hget;have hl:cI<(am.eP U log).length:=by rw[qt];exact yj
        have ku:=FE (am.eP U log) cI cu hl;rw[ZJ U log cI yj hl]at ku;by_cases iX:cC U log cI=cu
        .have et:=an9 U log cu cI iX r4;have hsome:=aob U log cI;obtain⟨DZ,aG,e2,e3,e4,e5,gG⟩:=A1 U log cI br.out yj;have jD:hC U log cI=n+((am.eP U log).take cI).count cu:=by
          unfold hC sB;rw[iX,zu.out]
         have hle:=qx _ _ gG;have fj:=sK (hC U log cI) (by omega);have mv:=Cq log _ (by omega) gG;have ny:=JX log _ (by omega) gG;have nz:2^(log+1)=2^log*2:=ea 2 log;rw[nz,<-cS.out]at gG ny;rw[<-cS.out]at mv;have F5:dR log (hC U log cI)<=9:=by unfold dR;omega
         have F6:(log:Int)-(am.wid (hC U log cI):Int)+1=(dR log (hC U log cI):Int):=by unfold dR;omega
         have CX:eh U log cI=hC U log cI*2^dR log (hC U log cI)-S:=by unfold eh s7;rw[cS.out]
         have SW:cd U log cI=dR log (hC U log cI):=rfl;have hsz2:=I (λW=>ve (dR log (hC U log cI):Int) W (by omega));rw[cX]at hsz2;have wS:=I (λW=>YH (hC U log cI) W (by omega));have tk:hC U log cI*2^dR log (hC U log cI)<=S*2:=by
          rw[Nat.add_mul,Nat.one_mul]at ny;exact dl (le_add_right _ _) ny
         rw[SW,CX]at hsome;rw[iX]at hsome;have MH:=Rs (hN U log cu cI) cI cu (dR log (hC U log cI)) (hC U log cI*2^dR log (hC U log cI)-S) r4 et;rw[<-hsome]at MH;have hset:=(hrow2.out.bq (cI*3+1) (.int .i64 (dR log (hC U log cI):Int))).bq (cI*3+2) (.int .i64 ((hC U log cI*2^dR log (hC U log cI)-S:Nat):Int));rw[MH]at hset;have h4:=I hset;obtain⟨aic,g1,g2⟩:=xT (hN U log cu cI) cI r4;rw[et]at g1 g2;have c2:=(hrow2.out.cell (cI*3+1)).trans g1;have agk:=(hrow2.out.cell (cI*3+2)).trans g2;dsimp only at c2 agk;have f2:=hrow2.out.free (cI*3+1);have f3:=hrow2.out.free (cI*3+2);rw[aB iX]at ku;rw[iX]at c1;have lJ:=I ku;have aZ:((cu:Int) != (cu:Int))=false:=by simp
         have fv:=I jD;clear hset MH et hsome CX SW ny nz aG e2 e3 e4 e5 ku jD iX hget r4 hl yj wO aic g1 g2 wU hrow2;rw[<-fv.out];generalize hC U log cI=X at gG hle fj mv F5 F6 hsz2 wS tk h4 fv ⊢;generalize am.wid X=xb at hle fj F6 wS;generalize dR log X=B at mv F5 F6 hsz2 tk h4;generalize 2^B=P at mv hsz2 tk h4;obtain⟨M,k1⟩:∃M,M=X*P:=⟨_,rfl⟩;have Gb:(X:Int)*P=M:=by rw[k1,Int.natCast_mul]
         rw[<-k1]at mv tk h4;obtain⟨Z,uO⟩:∃Z,Z=M-S:=⟨_,rfl⟩;have aiY:(M:Int)-S=Z:=by omega
         rw[<-uO]at h4;clear k1 uO;go_wp2_with fail
         refine(wS.out wr).mono ?_;rintro e w' ⟨rfl,rfl⟩;go_wp2_with fail
         refine(hsz2.out _).mono ?_;rintro e w' ⟨rfl,rfl⟩;go_wp2;go_roundw
         case rel=>
          refine⟨cI+1,by omega,by go_num,?_,h4,I ((jk.out.setCell (by rw[fJ.out];exact Nat.le_refl _) _).setCell (by rw[fJ.out];exact Nat.le_refl _) _)⟩;rw[lJ.out,<-iO,<-fv.out];go_num
         case measure=>simp[intOf];omega
        .have hnone:=X9 U log cu cI iX;rw[az iX]at ku;have ku:=ku.trans (fX _);have aZ:((cC U log cI:Int) != (cu:Int))=true:=by simp;omega
         have lJ:=I ku;have ac8:=I hnone;have Mz:cC U log cI<256:=by
          obtain⟨h1,_⟩:=w6 U log cI br.out yj;omega
         clear ku hnone iX hget r4 hl yj wO;generalize ((am.eP U log).take cI).count cu=q at wU lJ ⊢;generalize cC U log cI=cM at c1 aZ Mz;go_wp2;go_roundw
         case rel=>exact⟨cI+1,by omega,by go_num,by rw[lJ.out],by rw[ac8.out];exact hrow2,jk⟩
         case measure=>simp[intOf];omega
       .obtain rfl:n=0:=by omega
        have SK:cI=0\/Hid (Row wr g0 248 (c3 (hN U log (cu+1) 0))):=by
         right
         have hk:∀k,k<=2^log->hN U log cu k=hN U log cu 0:=λk=>by
          induction k with
         |zero=>intro _;rfl
         |succ k ih=>
           intro ek;rw[X9 U log cu k (λe=>?_),ih (by omega)];obtain⟨h1,af⟩:=w6 U log k br.out (by omega);have aq:=zu.out;rw[<-e,bI h1,b7]at aq;omega
         rw[hk cI (by rw[<-cS.out];exact LU),Ya U log cu br.out zu.out]at hrow2;exact hrow2
        have yJ:Hid (Row wr g0 248 (c3 (hN U log (cu+1) 0))):=by
         rcases SK with h|h
         .subst h;rw[Ya U log cu br.out zu.out]at hrow2;exact hrow2
         .exact h
        clear SK hrow2 wO wU;generalize 0+((am.eP U log).take cI).count cu=q;go_wp2;go_roundw
        case rel=>exact⟨cu+1,by omega,by go_num,yJ,jk⟩
        case measure=>simp[intOf];omega
      .obtain rfl:cI=S:=by omega
       rw[cS.out,aoa]at hrow2;clear wO wU;generalize n+((am.eP U log).take cI).count cu=q;go_wp2;go_roundw
       case rel=>exact⟨cu+1,by omega,by go_num,hrow2,jk⟩
       case measure=>simp[intOf];omega
    .obtain rfl:cu=U.length:=by omega
     rw[an8 U log br.out]at hrow;go_wp2;go_ret;exact⟨g0,rfl,by rw[fJ.out];exact Nat.le_refl _,hrow,hbel⟩
namespace am
theorem KK(l:List Int)(log:Int)(h:Fair l log):dW (l.map Int.toNat) log.toNat:=by
 obtain⟨h1,af,aq,aK,aT⟩:=h;have ap:∀l:List Int,(∀x∈l,0<=x/\x<=1000)->(((l.map Int.toNat).sum:Nat):Int)=l.sum:=λl=>by
  induction l with
 |nil=>simp
 |cons a l ih=>
   intro hh;have:=hh a dU;rw[map_cons,sum_cons,sum_cons,Int.natCast_add,ih (λx ai=>hh x (eo _ ai))];omega
 refine⟨by omega,by omega,by simpa using aq,?_⟩;have:=ap l aK;rw[aT]at this;exact Int.ofNat_inj.1 this
theorem Sq(l:List Int)(log:Int)(h:Fair l log):(l.map Int.toNat).map (λn:Nat=>(n:Int))=l:=by
 rw[List.map_map];have:∀l:List Int,(∀x∈l,0<=x/\x<=1000)->l.map ((λn:Nat=>(n:Int)) ∘ Int.toNat)=l:=λl=>by
  induction l with
 |nil=>simp
 |cons a l ih=>
   intro hh;have:=hh a dU;rw[map_cons,ih (λx ai=>hh x (eo _ ai))];congr 1
   simp only[Function.comp_apply];omega
 exact this l h.2.2.2.1
def qE(U:ae)(log:Nat)(st:Int):oq:=if 0<=st/\st<((2^log:Nat):Int)then(cC U log st.toNat,cd U log st.toNat,eh U log st.toNat)else(0,0,0)
def vl(U:ae)(log:Nat)(st more:Int):Bool:=decide (0<=st/\st<((2^log:Nat):Int)/\0<=more/\more<((2^cd U log st.toNat:Nat):Int))
def w1(U:ae)(log:Nat)(st more:Int):Int:=if vl U log st more then(eh U log st.toNat:Int)+more else 0
def wb(U:ae)(log:Nat)(st:Int)(s:Nat):Option (Nat×Nat×Nat):=
 if 0<=st/\st<((2^log:Nat):Int)then(lk U log st.toNat s).map λp=>(p,st.toNat-eh U log p,cd U log p)else none
end am
def p5(t:oq):Value:=.agg #[.int .u8 (t.1:Int),.int .i64 (t.2.1:Int),.int .i64 (t.2.2:Int)]
def Fj:Option (Nat×Nat×Nat)->Value
|none=>.tuple #[.int .i64 0,.int .i64 0,.int .i64 0,.bool false]
|some (p,v,k)=>.tuple #[.int .i64 p,.int .i64 v,.int .i64 k,.bool true]
structure aeM(v7:ah->Addr->ae->Nat->Prop):Prop where
 keep:∀w W p U log,v7 w p U log->av w W->v7 W p U log
 build:∀(A:a7) (c:Nat) (l:List Int) (log:Int) (w:ah),l.length<=1000000->(∀x∈l,ec x)->ec log->Reads w A (gB l)->am.Fair l log ->
  Calls prog 165 #[.slice A l.length c,.int .i64 log] w λe w'=>∃p,e=.returned (.tuple #[.pointer (some p),.bool true])/\v7 w' p (l.map Int.toNat) log.toNat/\av w w'
 ang:∀(A:a7) (c:Nat) (l:List Int) (log:Int) (w:ah),l.length<=1000000->(∀x∈l,ec x)->ec log->Reads w A (gB l)->¬am.Fair l log ->
  Calls prog 165 #[.slice A l.length c,.int .i64 log] w λe w'=>e=.returned (.tuple #[.pointer none,.bool false])/\av w w'
 cell:∀(w:ah) (p:Addr) (U:ae) (log:Nat) (st:Int),dW U log->v7 w p U log->ec st ->
  Calls prog 234 #[.pointer (some p),.int .i64 st] w λe w'=>e=.returned (.tuple #[p5 (qE U log st),.bool (decide (0<=st/\st<((2^log:Nat):Int)))])/\av w w'
 agq:∀(w:ah) (st:Int),ec st->Calls prog 234 #[.pointer none,.int .i64 st] w λe w'=>e=.returned (.tuple #[p5 (0,0,0),.bool false])/\av w w'
 size:∀(w:ah) (p:Addr) (U:ae) (log:Nat),dW U log->v7 w p U log->Calls prog 213 #[.pointer (some p)] w λe w'=>e=.returned (.int .i64 ((2^log:Nat):Int))/\∃m,w'=w.drewN m
 aq6:∀w:ah,Calls prog 213 #[.pointer none] w λe w'=>e=.returned (.int .i64 0)/\∃m,w'=w.drewN m
 amx:∀(w:ah) (p:Addr) (U:ae) (log:Nat),dW U log->v7 w p U log->Calls prog 216 #[.pointer (some p)] w λe w'=>e=.returned (.int .i64 log)/\∃m,w'=w.drewN m
 amw:∀w:ah,Calls prog 216 #[.pointer none] w λe w'=>e=.returned (.int .i64 0)/\∃m,w'=w.drewN m
 next:∀(w:ah) (p:Addr) (U:ae) (log:Nat) (st more:Int),dW U log->v7 w p U log->ec st->ec more ->
  Calls prog 235 #[.pointer (some p),.int .i64 st,.int .i64 more] w λe w'=>e=.returned (.tuple #[.int .i64 (w1 U log st more),.bool (vl U log st more)])/\av w w'
 back:∀(w:ah) (p:Addr) (U:ae) (log:Nat) (st:Int) (s:Nat),dW U log->v7 w p U log->ec st->s<256 ->
  Calls prog 215 #[.pointer (some p),.int .i64 st,.int .u8 s] w λe w'=>e=.returned (Fj (wb U log st s))/\av w w'
theorem Sh(U:ae)(log:Nat)(b:ae)(h:am.encR U log b=none):∀a:ae,am.encR U log (a++b)=none
|[]=>h
|x::a=>by
  rw[cons_append];simp only[am.encR];rw[Sh U log b h a];rfl
theorem FI(A:a7)(L c q:Nat)(W:ah)(h:q<=L)(hc:L<=c):(Instr.slice 112 (.slice A L c) none (some (.int .i64 q)) none).run prog W=.ok (.slice A q c) W:=by
 have h1:q<=c:=by omega
 rcases A with _|a
 .go_simp
 .go_simp
def mN(A:a7)(c q:Nat):a7:=if c=q then A else A.map (·.add q)
theorem Cw(A:a7)(L c q:Nat)(W:ah)(h:q<=L)(hc:L<=c):(Instr.slice 112 (.slice A L c) (some (.int .i64 q)) none none).run prog W=.ok (.slice (mN A c q) (L-q) (c-q)) W:=by
 have h1:q<=c:=by omega
 unfold mN;by_cases C6:c=q
 .subst C6;rcases A with _|a
  .go_simp
  .go_simp
 .rcases A with _|a
  .go_simp
  .go_simp
theorem Ol{w:ah}{A:a7}{l:ae}{c q:Nat}(h:Reads w A (aM l))(hc:l.length<=c):Reads w (mN A c q) (aM (l.drop q)):=λaZ=>by
 have ao:q<l.length:=by
  rcases eF q l.length with e|e
  .exact e
  .rw[drop_of_length_le e]at aZ;simp[aM]at aZ
 obtain⟨g,off,e,hcell⟩:=h (by intro e;have:=congrArg List.length e;rw[gm,length_nil]at this;omega);refine⟨g,off+q,?_,λj ar=>?_⟩
 .unfold mN;rw[az (by omega),e];show some _=_;congr 1
  unfold Addr.add;split<;>simp_all
 .rw[gm,cB]at ar;rw[iO,hcell (q+j) (by rw[gm];omega),iN _ _ (by omega),iN _ _ (by rw[cB];omega),getElem_drop]
theorem Yp{w:ah}{A:a7}{xs:b1}{p:Addr}{u:Value}(h:Reads w A xs)(hA:∀a,A=some a->a.block≠p.block):Reads (w.setCell p u) A xs:=λai=>by
 obtain⟨g,off,e,hc⟩:=h ai;refine⟨g,off,e,λj ar=>?_⟩;rw[World.cell?_of_block (a:=⟨g,off+j,none⟩) (Below.heap_setCell w p u g (hA _ e))];exact hc j ar
theorem A5{w:ah}{base n c:Nat}{A:a7}{e:TypeId}{xs:b1}(h:w.ownsRow base e 1 (.slice A n c) n xs):n<=c/\c<=maxLen:=by
 rcases h.2 with⟨aD,ao⟩|⟨eT,cap',eW,aD,ak,hh,h1,af,_⟩
 .injection aD with _ _ e3
  subst ao e3;exact⟨Nat.le_refl _,by unfold maxLen;omega⟩
 .injection aD with _ _ e3
  subst e3;exact⟨h1,af⟩
theorem RB{w:ah}{g j:Nat}{v:Value}(h:w.cell? ⟨g,j,none⟩=some v):g<w.heap.size:=by
 rcases eF g w.heap.size with af|af
 .exact af
 .simp[World.cell?,Array.getElem?_eq_none af]at h
theorem ao6{P:Program}{f:FuncId}{args:Array Value}{w:ah}{n:Nat}{v:Value}
  (h:Calls P f args (w.drewN n) λe w'=>e=.returned v/\w.drewN n=w'):Calls P f args (w.drewN n) λe o5=>e=.returned v/\∃m,o5=w.drewN m:=
 h.mono λ_ _ ⟨he,hm⟩=>⟨he,n,hm.symm⟩
theorem J6{w:ah}{A:a7}{X L:Nat}(h:Reads w A (aM (am.bitsOf X L)))(ao:0<L):∃g off,A=some ⟨g,off,none⟩/\∀j,j<L->w.cell? ⟨g,off+j,none⟩=some (.int .i64 ((X/2^j%2:Nat):Int)):=by
 obtain⟨g,off,e,hc⟩:=h (by intro e;have:=congrArg List.length e;rw[gm,gV,length_nil]at this;omega);refine⟨g,off,e,λj ar=>?_⟩;rw[hc j (by rw[gm,gV];exact ar),iN _ j (by rw[gV];exact ar),lM]
theorem Fp{w:ah}{A:a7}{X L q:Nat}(h:Reads w A (aM (am.bitsOf X L)))(hq:q<=L):Reads w A (aM (am.bitsOf (X%2^q) q)):=λaZ=>by
 have ao:0<q:=by
  rcases eq_zero_or_pos q with e|e
  .subst e;simp[aM,am.bitsOf]at aZ
  .exact e
 obtain⟨g,off,e,hc⟩:=J6 h (by omega);refine⟨g,off,e,λj ar=>?_⟩;rw[gm,gV]at ar;rw[hc j (by omega),afu,iN _ j (by rw[gV];exact ar),lM]
theorem J5{w:ah}{A:a7}{X L c q:Nat}(h:Reads w A (aM (am.bitsOf X L)))(hq:q<=L)(hc:L<=c):Reads w (mN A c q) (aM (am.bitsOf (X/2^q) (L-q))):=λaZ=>by
 have ao:0<L-q:=by
  rcases eq_zero_or_pos (L-q)with e|e
  .rw[e]at aZ;simp[aM,am.bitsOf]at aZ
  .exact e
 obtain⟨g,off,e,hcell⟩:=J6 h (by omega);refine⟨g,off+q,?_,λj ar=>?_⟩
 .unfold mN;rw[az (by omega),e];show some _=_;congr 1
  unfold Addr.add;split<;>simp_all
 .rw[gm,gV]at ar;rw[iO,hcell (q+j) (by omega),iN _ j (by rw[gV];exact ar),lM,jX,<-dI]
theorem HA(A:a7)(b c X:Nat)(w:ah)(ak:b<=32)(ck:X<2^b)(aj:Reads w A (aM (am.bitsOf X b))) :
  Calls prog 83 #[.slice A b c] w λe w'=>e=.returned (.int .u32 X)/\w=w':=by
 rcases eq_zero_or_pos b with ao|ao
 .subst ao;have:X=0:=by simpa using ck
  subst this;exact ap4 A c w
 .obtain⟨g,off,rfl,hc⟩:=J6 aj ao;have h1:=Yz g off b c X w ak ao hc;rw[mod_eq_of_lt ck]at h1;exact h1
namespace am
def rN(U:ae)(log:Nat)(ok:Bool)(M L:Nat)(n:Int):Option (ae):=
 if ok=true/\0<=n/\n<=1048576/\log<=L then iW U log n.toNat (M%2^(L-log)) (L-log) (M/2^(L-log))else none
end am
def Px(base:Nat)(w':ah)(e:Ending):Option (ae)->Prop
|none=>e=.returned (.tuple #[.slice none 0 0,.bool false])
|some l=>∃u,e=.returned (.tuple #[u,.bool true])/\w'.ownsRow base 5 1 u l.length (aO l)
theorem SE(A B:a7)(c d tF:Nat)(U:ae)(log M L:Nat)(ok:Bool)(n:Int)(w:ah)(h:dW U log)(aA:ec n)(bR:L<=100000)(k1:M<2^L)(aj:Reads w A (c3 (nj U log)))
  (hopen:Calls prog 190 #[.slice B tF d] w λe w'=>∃da db,e=.returned (.tuple #[.slice da L db,.bool ok])/\L<=db/\db<=maxLen/\Reads w' da (aM (am.bitsOf M L))/\av w w') :
  Calls prog 157 #[.slice A (2^log) c,.int .i64 log,.slice B tF d,.int .i64 n] w λe w'=>Px w.heap.size w' e (rN U log ok M L n)/\av w w':=by
 obtain⟨i0,ay,bC,bL,bz⟩:=info_parts ob;have dh:=h.high;have hlow:=h.low;obtain⟨g6,iK⟩:=aA;obtain⟨r,hres⟩:∃r,r=rN U log ok M L n:=⟨_,rfl⟩;rw[<-hres];have br:=I h;have bj:=I aj;have Ip:=I k1;have xx:=I hopen;have b4:=I hres;obtain⟨S,cD⟩:∃S,S=2^log:=⟨_,rfl⟩;have S5:S<=512:=by rw[cD];exact dy (n:=2) (by omega) dh
 have cS:=I cD;rw[<-cD];clear h aj k1 hopen hres cD;have ff:Hid (¬(ok=true/\0<=n/\n<=1048576/\log<=L)->r=none):=I (λai=>by rw[b4.out];unfold rN;rw[az ai]);go_enter func157,ntmps157
 go_wp2_with fail
 refine xx.out.mono ?_;rintro e aw ⟨da,db,rfl,Ld,gX,bt,aH⟩;have aN:=I aH;have ep:=I bt;clear aH bt;cases ok with
|false=>
  have ai:=I (ff.out (by simp));go_wp2;go_ret2;exact⟨by rw[ai.out];rfl,aN⟩
|true=>
 by_cases c1:n<0
 .have ai:=I (ff.out (by omega));go_wp2;go_ret2;exact⟨by rw[ai.out];rfl,aN⟩
 by_cases c2:1048576<n
 .have ai:=I (ff.out (by omega));go_wp2;go_ret2;exact⟨by rw[ai.out];rfl,aN⟩
 by_cases c3:L<log
 .have ai:=I (ff.out (by omega));go_wp2;go_ret2;exact⟨by rw[ai.out];rfl,aN⟩
 obtain⟨m,rfl⟩:=Int.eq_ofNat_of_zero_le (show 0<=n by omega);obtain⟨q,rfl⟩:∃q,L=q+log:=⟨L-log,by omega⟩;have wK:r=iW U log m (M%2^q) q (M/2^q):=by
  rw[b4.out];unfold rN;rw[aB ⟨rfl,by omega,by omega,by omega⟩,cX,Nat.add_sub_cancel]
 have aS:M/2^q<2^log:=by
  have h1:=Ip.out;rw[dI,eG]at h1;exact(div_lt_iff_lt_mul (Nat.pow_pos (by omega))).2 h1
 have uR:=λW=>Cw da (q+log) db q W (by omega) Ld
 have mr:=λW=>FI da (q+log) db q W (by omega) Ld
 have kn:=J5 ep.out (c:=db) (q:=q) (by omega) Ld;have lp:=I (Fp ep.out (q:=q) (by omega));rw[Nat.add_sub_cancel_left]at uR kn;have fv:=I (HA _ log (db-q) _ aw (by omega) aS kn);have yC:((q+log:Nat):Int)-log=q:=by omega
 have xD:=I wK;have cU:=I (mod_lt M (Nat.pow_pos (n:=q) (show 0<2 by omega)));rw[<-cS.out]at aS;clear wK kn;generalize M/2^q=st at aS fv xD;generalize M%2^q=rF at lp xD cU;go_wp2_with fail
 refine fv.out.mono ?_;rintro e w' ⟨rfl,rfl⟩;clear uR;go_wp2;clear mr;go_loopw [8,9,10,12,13,14,15,16] (λ_ _ vj o3 u i _ _ wr=>∃(k N len s0:Nat) (acc:ae),k<=m/\i=.int .i64 k/\vj=.slice da len db/\o3=.int .i64 s0/\len<=q/\s0<S/\acc.length=k/\Hid (N<2^len)/\Hid (Reads aw da (aM (am.bitsOf N len)))/\Hid (wr.ownsRow aw.heap.size 5 1 u k (aO acc))/\Hid (r=(iW U log (m-k) N len s0).map (acc++·))/\Hid (av aw wr)) (λ_ _ _ _ _ i _ _ _=>m-(intOf i).toNat)
 case atStart=>exact⟨0,rF,q,st,[],by omega,rfl,rfl,rfl,by omega,aS,rfl,cU,lp,I (World.ownsRow_nil _ _ _ _),I (by rw[xD.out,Nat.sub_zero];cases iW U log m rF q st<;>rfl),I dM⟩
 case round=>
  obtain⟨k,N,len,s0,acc,hk,rfl,rfl,rfl,L5,qh,hacc,Lg,bt,hown,eV,hbel⟩:=hrel;clear lp cU aS;have Ak:=I (aN.out.trans (hbel.out.mono aN.out.size));by_cases r5:k<m
  .obtain⟨g,off,rfl,hc⟩:=apH (c7 bj.out Ak.out) (by rw[Kd,<-cS.out];omega);have gd:s0<2^log:=by rw[<-cS.out];exact qh
   obtain⟨bD,bh,bN⟩:=hc s0 (by rw[Kd];exact gd);rw[RD]at bD bh bN;dsimp only at bD bh bN;have eu:=zS U log s0 br.out gd;have jj:=zR U log s0 br.out gd;have hsy2:cC U log s0<256:=by
    obtain⟨h1,_⟩:=w6 U log s0 br.out gd;have:=br.out.len;omega
   have MY:=dl (le_add_right _ _) jj;rw[<-cS.out]at jj MY;have wQ:iW U log (m-k) N len s0=if len<cd U log s0 then none else(iW U log (m-(k+1)) (N%2^(len-cd U log s0)) (len-cd U log s0) (eh U log s0+N/2^(len-cd U log s0))).map λl=>cC U log s0::l:=by
    rw[show m-k=(m-(k+1))+1 by omega,iW]
   rw[wQ]at eV;clear hc wQ gd;generalize cC U log s0=cM at bD eV hsy2;generalize SZ:2^cd U log s0=P at jj;have PB:=I SZ;clear SZ;generalize cd U log s0=b at bh eu eV PB;generalize eh U log s0=z at bN jj MY eV;by_cases u7:len<b
   .rw[aB u7]at eV;have mJ:=I (show r=none from eV);clear eV hown bt;go_wp2;go_ret2;exact⟨by rw[mJ.out];rfl,Ak.out.alloc Ak.out.size _⟩
   .rw[az u7]at eV;obtain⟨fl,rfl⟩:∃fl,len=fl+b:=⟨len-b,by omega⟩;rw[Nat.add_sub_cancel]at eV;have aD:N/2^fl<2^b:=by
     have h1:=Lg.out;rw[dI,eG]at h1;exact(div_lt_iff_lt_mul (Nat.pow_pos (by omega))).2 h1
    have zl:=I (λW=>Cw da (fl+b) db fl W (by omega) (by omega));have II:=I (λW=>FI da (fl+b) db fl W (by omega) (by omega));have kn:=J5 bt.out (c:=db) (q:=fl) (by omega) (by omega);have vH:=I (Fp bt.out (q:=fl) (by omega));rw[Nat.add_sub_cancel_left]at kn zl;have fv:=I (λW (ak:av aw W)=>HA (mN da db fl) b (db-fl) (N/2^fl) W (by omega) aD (c7 kn ak));have Gc:=I (mod_lt N (Nat.pow_pos (n:=fl) (show 0<2 by omega)));rw[PB.out]at aD;clear kn bt Lg;generalize N/2^fl=v at aD fv eV;generalize N%2^fl=l9 at vH eV Gc;obtain⟨ch,ka⟩:∃x,x=wr.heap.size:=⟨_,rfl⟩;have Vs:Row (wr.alloc (.cells #[.int .u8 cM,.int .i64 b,.int .i64 z] 248)) ch 248 (pn (cM,b,z)):=by rw[ka];exact Row.new wr 248 (pn (cM,b,z))
    have dw:=(Below.refl wr.heap.size wr).alloc bl (.cells #[.int .u8 cM,.int .i64 b,.int .i64 z] 248);have lG:=I dw;have Jl:=I (own_below hown.out dw);have Bz:=b3 hbel dw;have xm:=I ka;have adb:=I (λx (ai:u13.ownBlock=some x)=>show x<ch by rw[ka];exact(hown.out.lt x ai).2);have B6:=I Vs;clear ka Vs dw hown hbel;go_upto_region 11 with fail
    rw[<-xm.out];clear bD bh bN;generalize (wr.alloc (.cells #[.int .u8 cM,.int .i64 b,.int .i64 z] 248))=h2 at lG Jl Bz B6 ⊢;have d0:=B6.out.cell 0;have d1:=B6.out.cell 1;simp only[pn,dH,dJ]at d0 d1;go_wp2_with (at_builtin;refine wpList_append_own _ rfl _ _ 87 rfl aw.heap.size 5 i0 (.int .u8 0) 1 1 underlying87 ay bC bL bz rfl (by decide) _ _ _ rfl (Jl.out.alloc _) ⟨h2.heap.size,0,none⟩ 1 1 [.int .u8 cM] rfl rfl ?d1 ?d2 ?d3 ?d4 ?d5 ?_)
    case d1=>
     intro j u ar;match j,ar with
    |0,ar=>simp at ar;subst ar;simp[Addr.add]
    case d2=>intro u hu;simp at hu;subst hu;rfl
    case d3=>unfold maxLen;omega
    case d4=>omega
    case d5=>have:=Bz.out.size;simp;omega
    intro gN aC hown2 qR _;have jk:av aw aC:=(Bz.out.alloc Bz.out.size _).grown qR (by have:=Bz.out.size;simp;omega) (λx e=>(Jl.out.lt x e).1);have hrow2:Row aC ch 248 (pn (cM,b,z)):=(B6.out.alloc _).keep (qR.block ch (by have:=B6.out.lt;simp;omega) (λe=>by have:=adb.out ch e.symm;omega));have e:aO acc++[Value.int .u8 cM]=aO (acc++[cM]):=by simp[aO]
    rw[e]at hown2;have oz:=I hown2;have ru:=I jk;have f1:=hrow2.cell 1;have f2:=hrow2.cell 2;simp only[pn,dH,dJ]at f1 f2;have uR:=zl.out;have ud:=I (λXA=>fv.out (aC.drewN XA) (below_drewN jk XA));clear qR hown2 jk hrow2 e d0 d1;go_wp2_with fail
    go_quiet ((go_at_call 83;exact ao5 (ud.out _)))
    have mr:=II.out;clear uR;go_wp2;go_roundw
    case rel=>
     refine⟨k+1,l9,fl,z+v,acc++[cM],by omega,by go_num,rfl,by go_num,by omega,by omega,by simp[hacc],Gc,vH,oz,?_,I (below_drewN ru.out _)⟩;rw[eV.out];refine I ?_;cases iW U log (m-(k+1)) l9 fl (z+v)with
    |none=>rfl
    |some l=>simp
    case measure=>simp[intOf];omega
  .obtain rfl:k=m:=by omega
   rw[Nat.sub_self]at eV;by_cases aQ:s0=0/\len=0
   .obtain⟨rfl,rfl⟩:=aQ;have cc:=I (show r=some acc by rw[eV.out];simp[iW]);have gj:=I hacc;have adg:=I (anK hown.out aN.out.size);clear eV hacc hown;go_wp2;go_ret2;exact⟨by rw[cc.out];exact⟨_,rfl,by rw[gj.out];exact adg⟩,Ak⟩
   .have cc:=I (show r=none by rw[eV.out];simp only[iW];rw[az aQ];rfl);clear eV;by_cases akv:s0=0
    .subst akv;have u5:0<len:=by omega
     go_wp2;go_ret2;exact⟨by rw[cc.out];rfl,Ak⟩
    .have aZ:((s0:Int) != 0)=true:=by simp;omega
     go_wp2;go_ret2;exact⟨by rw[cc.out];rfl,Ak⟩
namespace am
theorem HS(V k:Nat)(h:p1 V k):V.log2=k:=by
 obtain⟨h1,af⟩:=w9.1 h;have ao:0<V:=by have:=eK k;omega
 have aq:=Bi V k h1 (by rw[ea];omega);rw[EB V ao]at aq;omega
def m8(bs:ae):Option (Nat×Nat):=if bs.getLast?.getD 0=0 then none else some (bd bs%2^(bd bs).log2,(bd bs).log2)
def kN(N n:Nat):ae:=bytesOf (N+2^n) (n/8+1)
theorem YR(N n:Nat):(kN N n).length=n/8+1:=by simp[kN,bytesOf_length]
theorem aqC(N n:Nat):∀x∈kN N n,x<256:=ut _ _
theorem agf(V m:Nat):(bytesOf V (m+1)).getLast?=some (V/256^m%256):=by
 rw[Cs,getLast?_append,getLast?_singleton];rfl
theorem anA(N n:Nat)(h:N<2^n):m8 (kN N n)=some (N,n):=by
 have aE:=ass N n h;have aD:bd (kN N n)=N+2^n:=atj N n h;have aI:(N+2^n)/256^(n/8)%256≠0:=by
  have h1:=(w9.1 aE).1;have af:=ZA N n h;rw[ea]at af;have ax:0<256^(n/8):=Nat.pow_pos (by omega);have aq:(N+2^n)/256^(n/8)<256:=(div_lt_iff_lt_mul ax).2 (by rw[eG];exact af);have aK:256^(n/8)<=N+2^n:=by
   refine dl ?_ h1;rw[h0];exact dy (by omega) (by omega)
  have aT:1<=(N+2^n)/256^(n/8):=(le_div_iff_mul_le ax).2 (by omega);omega
 unfold m8;rw[aD,HS _ _ aE,az]
 .have:=aE.sum;congr 2
  omega
 .unfold kN;rw[agf,b7];exact aI
theorem Oy(bs:ae)(N n:Nat)(ak:∀x∈bs,x<256)(h:m8 bs=some (N,n)):N<2^n/\bs=kN N n/\n<8*bs.length:=by
 unfold m8 at h;split at h
 .cases h
 .next hl=>
  injection h with h
  injection h with h1 af
  obtain⟨front,b,rfl⟩:∃front b,bs=front++[b]:=by
   rcases eq_nil_or_concat bs with rfl|⟨f,b,rfl⟩
   .simp at hl
   .exact⟨f,b,concat_eq_append⟩
  rw[getLast?_append,getLast?_singleton]at hl;have dc:b≠0:=by simpa using hl
  obtain⟨cb,WU,aE⟩:=O6 front b (λx ai=>ak x (mem_append_left _ ai)) (ak b (by simp)) dc;have u9:=HS _ _ aE;rw[u9]at h1 af;have ap:=aE.sum;rw[h1,af]at ap;have cU:N<2^n:=by rw[<-h1,<-af];exact mod_lt _ (eK _)
  refine⟨cU,?_,by rw[aY,length_singleton];omega⟩;unfold kN;rw[<-ap];have hlen:n/8+1=(front++[b]).length:=by rw[aY,length_singleton];omega
  rw[hlen];exact(J9 _ ak).symm
def qF(U:ae)(log:Nat)(syms:ae):Option (Nat×Nat):=(encR U log syms).map λt=>(t.1+t.2.2*2^t.2.1,t.2.1+log)
def uF(U:ae)(log:Nat)(syms:ae):Option (ae):=(qF U log syms).map λt=>kN t.1 t.2
def iI(U:ae)(log:Nat)(bs:ae)(n:Int):Option (ae):=(m8 bs).bind λt=>rN U log true t.1 t.2 n
theorem Kk(U:ae)(log:Nat)(h:dW U log)(syms:ae)(N n:Nat)(e:qF U log syms=some (N,n)):N<2^n/\n<=log*(syms.length+1)/\log<=n:=by
 unfold qF at e;cases aj:encR U log syms with
|none=>rw[aj]at e;cases e
|some t=>
  obtain⟨rF,hp,st⟩:=t;rw[aj,map_some]at e;injection e with e
  injection e with aG e2
  subst aG e2;obtain⟨h1,af,aq,_⟩:=z1 U log h syms rF hp st aj;dsimp only;refine⟨?_,by rw[Nat.mul_add,Nat.mul_one];omega,by omega⟩;rw[dI,eG (2^hp)];have aT:(st+1)*2^hp<=2^log*2^hp:=mul_le_mul_right _ af;rw[Nat.add_mul,Nat.one_mul]at aT;generalize st*2^hp=A at aT ⊢;generalize 2^log*2^hp=B at aT ⊢;omega
theorem ahd(U:ae)(log:Nat)(h:dW U log)(syms bs:ae)(hl:syms.length<=1048576)(e:uF U log syms=some bs):iI U log bs (syms.length:Int)=some syms:=by
 unfold uF at e;cases hc:qF U log syms with
|none=>rw[hc]at e;cases e
|some t=>
  obtain⟨N,n⟩:=t;rw[hc,map_some]at e;injection e with e
  subst e;obtain⟨cU,_,kb⟩:=Kk U log h syms N n hc;unfold iI;dsimp only;rw[anA N n cU,Option.bind_some];unfold qF at hc;cases aj:encR U log syms with
 |none=>rw[aj]at hc;cases hc
 |some t=>
   obtain⟨rF,hp,st⟩:=t;rw[aj,map_some]at hc;injection hc with hc
   injection hc with aG e2
   subst aG e2;obtain⟨h1,af,aq,aK⟩:=z1 U log h syms rF hp st aj;obtain⟨s1,s2⟩:=agN rF hp st h1;dsimp only;unfold rN;rw[aB ⟨rfl,by omega,by omega,by omega⟩,cX,Nat.add_sub_cancel,s1,s2];exact aK
theorem ahC(U:ae)(log:Nat)(h:dW U log)(bs syms:ae)(n:Int)(ak:∀x∈bs,x<256)(e:iI U log bs n=some syms):uF U log syms=some bs/\(syms.length:Int)=n/\n<=1048576/\∀s∈syms,s<256:=by
 unfold iI at e;cases b9:m8 bs with
|none=>rw[b9]at e;cases e
|some t=>
  obtain⟨N,L⟩:=t;rw[b9,Option.bind_some]at e;obtain⟨cU,cs,_⟩:=Oy bs N L ak b9;dsimp only at e;unfold rN at e;split at e
  .next hc=>
   obtain⟨_,ao,aA,Uw⟩:=hc;obtain⟨q,rfl⟩:∃q,L=q+log:=⟨L-log,by omega⟩;rw[Nat.add_sub_cancel]at e;have aS:N/2^q<2^log:=by
    rw[dI,eG]at cU;exact(div_lt_iff_lt_mul (Nat.pow_pos (by omega))).2 cU
   have hmod:N%2^q<2^q:=mod_lt _ (eK _);obtain⟨h1,af⟩:=R5 U log h n.toNat _ q _ syms hmod aS e;refine⟨?_,by omega,aA,?_⟩
   .unfold uF qF;rw[h1];simp only[map_some];congr 1
    rw[cs];congr 1
    have:=div_add_mod N (2^q);rw[eG]at this;omega
   .intro s ap;have ax:0<U[s]?.getD 0:=by
     rcases eq_zero_or_pos (U[s]?.getD 0)with aq|aq
     .rw[Sj U log h s aq syms ap]at h1;cases h1
     .exact aq
    have hlen:=h.len;rcases eF s U.length with aK|aK
    .omega
    .rw[getElem?_eq_none aK]at ax;simp at ax
  .cases e
end am
def xe(w':ah)(e:Ending):Option (ae)->Prop
|none=>∃A c,e=.returned (.tuple #[.slice A 0 c,.bool false])
|some bs=>∃A c,e=.returned (.tuple #[.slice A bs.length c,.bool true])/\Reads w' A (aO bs)
namespace am
theorem arS(ag:ae):(ag.map (λn:Nat=>(n:Int))).sum=((ag.sum:Nat):Int):=by
 induction ag with
|nil=>simp
|cons a l ih=>rw[map_cons,sum_cons,ih,sum_cons];omega
theorem Xh(l:ae)(x:Nat)(h:x∈l):x<=l.sum:=by
 induction l with
|nil=>cases h
|cons a l ih=>
  rw[sum_cons];rcases List.mem_cons.1 h with rfl|h1
  .omega
  .have:=ih h1;omega
theorem aoo(ag:ae):ld ag=gv (ag.map (λn:Nat=>(n:Int))):=by
 unfold ld gv;rw[countP_map];apply countP_congr
 intro x _;simp
theorem aqU(bs:ae)(au:∀x∈bs,x<256)(hl:bs.length<=1048576)(ao:0<bs.length) :
  ∃U:ae,o1 (ei bs) (e9 (ei bs):Int)=U.map (λn:Nat=>(n:Int))/\Fair (o1 (ei bs) (e9 (ei bs):Int)) (e9 (ei bs):Int)/\(∀b∈bs,0<U[b]?.getD 0)/\U.length<=256:=by
 have DB:=(Kq bs au hl).2 ao;obtain⟨aj,aT,dh,ap⟩:=DB;have wL:o1 (ei bs) (e9 (ei bs):Int)=(vv ((ei bs).map Int.toNat) (2^e9 (ei bs))).map (λn:Nat=>(n:Int)):=by
  unfold o1;rw[aB ⟨aj,aT,dh,ap⟩,cX]
 have hcs:(ei bs).map Int.toNat=il bs:=by
  unfold ei;rw[List.map_map];conv=>rhs;rw[<-List.map_id (il bs)]
  apply map_congr_left
  intro x _;rfl
 rw[hcs]at wL;rw[cX]at ap;have hlen:(il bs).length=eL bs:=by simp[il]
 have aE:=tP bs au;obtain⟨bF,dc⟩:∃b,b∈bs:=by
  cases bs with
 |nil=>simp at ao
 |cons b bs=>exact⟨b,dU⟩
 have hget:∀b∈bs,(il bs)[b]?=some (bs.count b):=λb ak=>by
  unfold il;rw[getElem?_map,getElem?_range (w8 bs b ak)];rfl
 have hsum:0<(il bs).sum:=by
  have h1:=mem_of_getElem? (hget bF dc);have af:=Xh _ _ h1;have aq:=List.count_pos_iff.2 dc;omega
 have oU:=OB (il bs) (2^e9 (ei bs)) hsum (by rw[aoo];exact ap);have cJ:=dy (n:=2) (j:=9) (by omega) (show e9 (ei bs)<=9 by omega);refine⟨_,wL,?_,?_,by rw[oU.2.1,hlen];exact aE⟩
 .rw[wL];refine⟨aT,dh,by rw[cQ,oU.2.1,hlen];exact aE,?_,by rw[arS,oU.1,cX]⟩;intro x ai;obtain⟨y,hy,rfl⟩:=List.mem_map.1 ai;have:=Xh _ _ hy;rw[oU.1]at this;omega
 .intro b ak;have h1:=oU.2.2 b;rw[hget b ak,b7]at h1;exact h1.2 (List.count_pos_iff.2 ak)
end am
namespace am
def fy(U:ae)(bT:Nat):Nat×Nat:=(bT-5+(eC U (2^bT)).1*2^3,3+(eC U (2^bT)).2)
def takeA(N len:Nat):Option (ae×Nat×Nat):=
 if len<3 then none else if 4<N%2^3 then none else(takeN 256 (2^(5+N%2^3)) (N/2^3) (len-3)).map λt=>(t.1,5+N%2^3,t.2)
theorem ajq(U:ae)(bT:Nat)(h:dW U bT):(fy U bT).1<2^(fy U bT).2:=by
 have h1:=T3 U (2^bT) (Nat.le_of_eq h.sum);have dh:=h.high;unfold fy;dsimp only;generalize (eC U (2^bT)).1=A at h1 ⊢;generalize (eC U (2^bT)).2=k at h1 ⊢;rw[dI];have:A*2^3+2^3<=2^3*2^k:=by
  have af:=mul_le_mul_right (2^3) h1;rw[succ_mul,eG (2^k)]at af;exact af
 omega
theorem T2:∀(l:ae) (rest:Nat),rest<=512->(eC l rest).2<=10*l.length
|[],rest,_=>by simp[eC]
|n::l,rest,h=>by
  unfold eC;split
  .simp
  .have h1:=T2 l (rest-n) (by omega);have af:=qx rest 10 (by omega);rw[bY];dsimp only;omega
theorem T1(U:ae)(bT:Nat)(h:dW U bT):3<=(fy U bT).2/\(fy U bT).2<=3000:=by
 have cJ:=dy (n:=2) (j:=9) (by omega) h.high;have h1:=T2 U (2^bT) (by omega);have af:=h.len;unfold fy;dsimp only;omega
theorem ar9(U:ae)(bT X m:Nat)(h:dW U bT):takeA ((fy U bT).1+X*2^(fy U bT).2) ((fy U bT).2+m)=some (cA U,bT,m):=by
 have aT:=h.low;have dh:=h.high;have aE:=ZQ U (2^bT) X m 256 h.sum h.len;unfold fy;dsimp only;generalize (eC U (2^bT)).1=A at aE ⊢;generalize (eC U (2^bT)).2=k at aE ⊢;have e:bT-5+A*2^3+X*2^(3+k)=(bT-5)+(A+X*2^k)*2^3:=by
  rw[dI,Nat.add_mul,Nat.mul_assoc X,eG (2^3) (2^k),iO]
 have hm:(bT-5+(A+X*2^k)*2^3)%2^3=bT-5:=by rw[add_mul_mod_self_right];exact mod_eq_of_lt (by omega)
 have aI:(bT-5+(A+X*2^k)*2^3)/2^3=A+X*2^k:=by
  rw[add_mul_div_right _ _ (by omega),div_eq_of_lt (by omega),ez]
 unfold takeA;rw[e,hm,aI,az (by omega),az (by omega),show 5+(bT-5)=bT by omega,show 3+k+m-3=k+m by omega,aE];rfl
theorem HO(N len:Nat)(l:ae)(bT e:Nat)(h:takeA N len=some (l,bT,e)):dW l bT/\e+3<=len:=by
 unfold takeA at h;split at h
 .cases h
 .split at h
  .cases h
  .next aq aK=>
   cases aj:takeN 256 (2^(5+N%2^3)) (N/2^3) (len-3)with
  |none=>rw[aj]at h;cases h
  |some t=>
    rw[aj,map_some]at h;injection h with h
    injection h with aG h
    injection h with e2 e3
    subst aG e2 e3;obtain⟨bh,bN,en⟩:=ZP _ _ _ _ _ _ aj;exact⟨⟨by omega,by omega,bN,bh⟩,by omega⟩
theorem Sp(l:ae)(bT:Nat)(h:dW l bT):Fair (l.map (λn:Nat=>(n:Int))) (bT:Int):=by
 have hsum:∀l:ae,(l.map (λn:Nat=>(n:Int))).sum=((l.sum:Nat):Int):=λl=>by
  induction l with
 |nil=>simp
 |cons a l ih=>rw[map_cons,sum_cons,ih,sum_cons];omega
 have hle:∀(l:ae) (x:Nat),x∈l->x<=l.sum:=λl=>by
  induction l with
 |nil=>intro x h;cases h
 |cons a l ih=>
   intro x ai;rw[sum_cons];rcases List.mem_cons.1 ai with rfl|ai
   .omega
   .have:=ih x ai;omega
 have aT:=h.low;have dh:=h.high;have cJ:=dy (n:=2) (j:=9) (by omega) dh;refine⟨by omega,by omega,by rw[cQ];exact h.len,?_,by rw[hsum,h.sum,cX]⟩;intro x ai;obtain⟨y,hy,rfl⟩:=List.mem_map.1 ai;have h1:=hle l y hy;rw[h.sum]at h1;omega
def sizedB(log:Int):Bool:=decide (5<=log/\log<=9)
end am
theorem XD(log:Int)(w:ah):Calls prog 192 #[.int .i64 log] w λe w'=>e=.returned (.bool (am.sizedB log))/\w=w':=by
 by_cases aT:5<=log
 .by_cases dh:log<=9
  .have ap:am.sizedB log=true:=bE ⟨aT,dh⟩;rw[ap];go_enter func192,ntmps192
   go_wp2;go_ret;exact⟨rfl,rfl⟩
  .have ap:am.sizedB log=false:=bG (λh=>dh h.2);have KZ:decide (log<=9)=false:=by simpa using dh
   rw[ap];go_enter func192,ntmps192
   go_wp2;go_ret;exact⟨rfl,rfl⟩
 .have ap:am.sizedB log=false:=bG (λh=>aT h.1);have auT:decide (5<=log)=false:=by simpa using aT
  rw[ap];go_enter func192,ntmps192
  go_wp2;go_ret;exact⟨rfl,rfl⟩
theorem ri(x:Int)(ao:-9223372036854775808<=x)(h1:x<=9223372036854775807):wrap64 x=x:=by unfold wrap64;omega
namespace am
theorem HK(l:List Int)(h:∀x∈l,0<=x):0<=l.sum:=by
 induction l with
|nil=>simp
|cons a l ih=>
  have h1:=ih (λx ai=>h x (eo _ ai));have af:=h a dU;rw[sum_cons];omega
theorem arT(l:List Int)(k:Nat)(h:∀x∈l,0<=x):(l.take k).sum<=l.sum:=by
 have h1:=HK (l.drop k) (λx ai=>h x (mem_of_mem_drop ai));have af:l.sum=(l.take k).sum+(l.drop k).sum:=by
  conv=>lhs;rw[<-gq k l]
  rw[sum_append_int]
 omega
theorem am2(l:List Int)(h:∀x∈l,0<=x)(x:Int)(ai:x∈l):x<=l.sum:=by
 induction l with
|nil=>cases ai
|cons a l ih=>
  have h1:=HK l (λx ai=>h x (eo _ ai));have af:=h a dU;rw[sum_cons];rcases List.mem_cons.1 ai with rfl|ai
  .omega
  .have:=ih (λx ai=>h x (eo _ ai)) ai;omega
theorem N7(b:Nat)(aT:5<=b)(dh:b<=9):32<=2^b/\2^b<=512:=
 ⟨dy (n:=2) (i:=5) (by omega) aT,dy (n:=2) (j:=9) (by omega) dh⟩
end am
theorem NF(A:a7)(c:Nat)(l:List Int)(log:Int)(w:ah)(hl:l.length<=1000000)(cV:∀x∈l,ec x)(_hlog:ec log)(aj:Reads w A (gB l)) :
  Calls prog 195 #[.slice A l.length c,.int .i64 log] w λe w'=>e=.returned (.bool (p9 l log))/\av w w':=by
 have bj:=I aj;obtain⟨r,hres⟩:∃r,r=p9 l log:=⟨_,rfl⟩;rw[<-hres];have eU:∀P:Prop,(am.Fair l log->P)->¬P->false=r:=λP h ax=>by
  rw[hres];symm;unfold p9;exact bG (λh1=>ax (h h1))
 have ff:=I eU;have b4:=I hres;have kh:=I cV;have fS:=I (XD log w);clear aj hres eU cV;by_cases ap:am.sizedB log=true
 .obtain⟨aT,dh⟩:5<=log/\log<=9:=of_decide_eq_true ap;rw[ap]at fS;clear ap;by_cases aq:256<l.length
  .have aL:false=r:=ff.out (l.length<=256) (λh=>h.2.2.1) (by omega);have ait:decide (256<l.length)=true:=bE aq;rw[<-aL];clear aL;go_enter func195,ntmps195
   go_wp2_with fail
   refine fS.out.mono ?_;rintro e w' ⟨rfl,rfl⟩;go_wp2;go_ret;exact⟨rfl,Below.refl _ _⟩
  have ait:decide (256<l.length)=false:=bG aq;obtain⟨b,rfl⟩:=Int.eq_ofNat_of_zero_le (show 0<=log by omega);have cJ:=N7 b (by omega) (by omega);have pA:(2:Int)^b=((2^b:Nat):Int):=by simp
  obtain⟨P,Lh⟩:∃P,P=2^b:=⟨_,rfl⟩;rw[<-Lh]at cJ pA;have Is:=I Lh;clear Lh;have hw:wrap64 (P:Int)=P:=ri _ (by omega) (by omega);go_enter func195,ntmps195
  go_wp2_with fail
  refine fS.out.mono ?_;rintro e w' ⟨rfl,rfl⟩;go_wp2;clear pA hw;go_loop [5,20] (λq i=>∃k:Nat,k<=l.length/\i=.int .i64 k/\q=.int .i64 ((P:Int)-(l.take k).sum)/\(l.take k).sum<=P/\∀x∈l.take k,0<=x) (λ_ i=>l.length-(intOf i).toNat)
  case atStart=>exact⟨0,by omega,rfl,by go_num,by simp,by simp⟩
  case round=>
   obtain⟨k,hk,rfl,rfl,hle,hall⟩:=hrel;by_cases a8:k<l.length
   .obtain⟨g,off,rfl,hc⟩:=vq bj.out (by omega);have c0:=hc k a8;have ao:=HK _ hall;have DI:=kh.out _ (b8 a8);have ca:=I (ZB l k a8);have iE:=I (JW (λx=>0<=x) l k a8 hall);have cj:=I (b8 a8);unfold ec at DI;clear hc hall;have hE:Hid (am.Fair l (b:Int)->(l.take (k+1)).sum<=P):=I (λh=>by
     have h1:=arT l (k+1) (λx ai=>(h.2.2.2.1 x ai).1);have af:=h.2.2.2.2;rw[cX,<-Is.out]at af;omega)
    generalize (l.take k).sum=m at hle ao ca ⊢;generalize l[k]=z at c0 ca iE cj DI;by_cases aQ:z<0
    .have aL:false=r:=ff.out (0<=z) (λh=>(h.2.2.2.1 z cj.out).1) (by omega);have br:=I aL;clear aL;go_wp2;go_ret;exact⟨congrArg (λx=>Ending.returned (Value.bool x)) br,Below.refl _ _⟩
    have bC:decide (z<0)=false:=bG aQ;by_cases bz:(P:Int)-m<z
    .have aL:false=r:=ff.out (m+z<=P) (λh=>by rw[<-ca.out];exact hE.out h) (by omega);have br:=I aL;have ak7:decide ((P:Int)-m<z)=true:=bE bz;clear aL;go_wp2;go_ret;exact⟨congrArg (λx=>Ending.returned (Value.bool x)) br,Below.refl _ _⟩
    have ak7:decide ((P:Int)-m<z)=false:=bG bz;go_wp2;go_round
    case rel=>exact⟨k+1,by omega,by go_num,by rw[ca.out];go_num,by rw[ca.out];omega,iE.out (by omega)⟩
    case measure=>simp[intOf];omega
   .obtain rfl:k=l.length:=by omega
    rw[take_length]at hall hle ⊢;have ao:=HK _ hall;have hres:((P:Int)-l.sum==0)=r:=by
     rw[b4.out];unfold p9;rw[Bool.eq_iff_iff,beq_iff_eq,decide_eq_true_iff];constructor
     .intro h;refine⟨by omega,by omega,by omega,λx ai=>⟨hall x ai,?_⟩,?_⟩
      .have:=am2 l hall x ai;omega
      .rw[cX,<-Is.out];omega
     .intro h;have af:=h.2.2.2.2;rw[cX,<-Is.out]at af;omega
    have ii:=I hres;clear hall hres;generalize l.sum=q at ii ao hle ⊢;go_wp2;go_ret;exact⟨congrArg (λx=>Ending.returned (Value.bool x)) ii,Below.refl _ _⟩
 .have qh:am.sizedB log=false:=by simpa using ap
  have aL:false=r:=ff.out (5<=log/\log<=9) (λh=>⟨h.1,h.2.1⟩) (λh=>ap (bE h));rw[qh]at fS;clear ap qh;rw[<-aL];clear aL;go_enter func195,ntmps195
  go_wp2_with fail
  refine fS.out.mono ?_;rintro e w' ⟨rfl,rfl⟩;go_wp2;go_ret;exact⟨rfl,Below.refl _ _⟩
theorem Om{w:ah}{A:a7}{l:ae}(h:Reads w A (aM l))(aZ:0<l.length):∃g off,A=some ⟨g,off,none⟩/\∀j (ar:j<l.length),w.cell? ⟨g,off+j,none⟩=some (.int .i64 (l[j]:Int)):=by
 have hne':aM l≠[]:=λe=>by
  have h1:=congrArg List.length e;rw[gm,length_nil]at h1;omega
 obtain⟨g,off,e,hc⟩:=h hne';exact⟨g,off,e,λj ar=>by rw[hc j (by rw[gm];exact ar),iN l j ar]⟩
theorem Hc(A:a7)(c:Nat)(l:List Int)(w:ah)(hl:l.length<=1000000000)(aj:Reads w A (gB l)) :
  Calls prog 65 #[.slice A l.length c] w λe w'=>e=.returned (.int .i64 (gv l))/\w=w':=by
 have bj:=I aj;obtain⟨r,hres⟩:∃r,r=gv l:=⟨_,rfl⟩;rw[<-hres];have b4:=I hres;clear aj hres;go_enter func65,ntmps65
 go_wp2;go_loop [3,8] (λn i=>∃k:Nat,k<=l.length/\i=.int .i64 k/\n=.int .i64 (gv (l.take k):Int)) (λ_ i=>l.length-(intOf i).toNat)
 case atStart=>exact⟨0,by omega,rfl,rfl⟩
 case round=>
  obtain⟨k,hk,rfl,rfl⟩:=hrel;by_cases a8:k<l.length
  .obtain⟨g,off,rfl,hc⟩:=vq bj.out (by omega);have c0:=hc k a8;have ap:=arV l k a8;have hle:=HM (l.take k);rw[cr,Nat.min_eq_left (by omega)]at hle;have ca:=I ap;clear hc ap;generalize gv (l.take k)=m at hle ca ⊢;generalize l[k]=z at c0 ca;by_cases aQ:0<z
   .go_wp2;go_round
    case rel=>exact⟨k+1,by omega,by go_num,by rw[ca.out,aB aQ];go_num⟩
    case measure=>simp[intOf];omega
   .go_wp2;go_round
    case rel=>exact⟨k+1,by omega,by go_num,by rw[ca.out,az aQ];go_num⟩
    case measure=>simp[intOf];omega
  .obtain rfl:k=l.length:=by omega
   rw[take_length,<-b4.out];go_wp2;go_ret;exact⟨rfl,rfl⟩
theorem anl:aar:=λA c l w hl aj=>(Hc A c l w (by omega) aj).mono λ_ w' ⟨he,hw⟩=>⟨he,by subst hw;exact Below.refl _ _⟩
namespace am
theorem apY(l:List Int):Right l↔l.length<=256/\(∀x∈l,0<=x/\x<=1048576)/\0<gv l:=by
 unfold Right gv;rw[countP_pos_iff];simp
def q5(l:List Int):Bool:=decide (Right l)
end am
theorem NI(A:a7)(c:Nat)(l:List Int)(w:ah)(hl:l.length<=1000000000)(aj:Reads w A (gB l)) :
  Calls prog 136 #[.slice A l.length c] w λe w'=>e=.returned (.bool (q5 l))/\w=w':=by
 have bj:=I aj;have ju:=I (Hc A c l w hl aj);obtain⟨r,hres⟩:∃r,r=q5 l:=⟨_,rfl⟩;rw[<-hres];have eU:∀P:Prop,(am.Right l->P)->¬P->false=r:=λP h ax=>by
  rw[hres];symm;unfold q5;exact bG (λh1=>ax (h h1))
 have ff:=I eU;have b4:=I hres;clear aj hres eU;by_cases aq:256<l.length
 .have aL:false=r:=ff.out (l.length<=256) (λh=>h.1) (by omega);rw[<-aL];go_enter func136,ntmps136
  go_wp2;go_ret;exact⟨rfl,rfl⟩
 go_enter func136,ntmps136
 go_wp2;go_loop [10] (λi=>∃k:Nat,k<=l.length/\i=.int .i64 k/\∀x∈l.take k,0<=x/\x<=1048576) (λi=>l.length-(intOf i).toNat)
 case atStart=>exact⟨0,by omega,rfl,by simp⟩
 case round=>
  obtain⟨k,hk,rfl,hall⟩:=hrel;by_cases a8:k<l.length
  .obtain⟨g,off,rfl,hc⟩:=vq bj.out (by omega);have c0:=hc k a8;have iE:=I (JW (λx=>0<=x/\x<=1048576) l k a8 hall);have cj:=I (b8 a8);clear hc hall;generalize l[k]=z at c0 iE cj;by_cases aQ:z<0
   .have aL:false=r:=ff.out (0<=z) (λh=>(h.2.1 z cj.out).1) (by omega);have br:=I aL;clear aL;go_wp2;go_ret;exact⟨congrArg (λx=>Ending.returned (Value.bool x)) br,rfl⟩
   by_cases bz:1048576<z
   .have aL:false=r:=ff.out (z<=1048576) (λh=>(h.2.1 z cj.out).2) (by omega);have br:=I aL;clear aL;go_wp2;go_ret;exact⟨congrArg (λx=>Ending.returned (Value.bool x)) br,rfl⟩
   go_wp2;go_round
   case rel=>exact⟨k+1,by omega,by go_num,iE.out (by omega)⟩
   case measure=>simp[intOf];omega
  .obtain rfl:k=l.length:=by omega
   rw[take_length]at hall;have hres:decide (0<gv l)=r:=by
    rw[b4.out];unfold q5;rw[decide_eq_decide,apY];exact⟨λh=>⟨by omega,hall,h⟩,λh=>h.2.2⟩
   clear hall;generalize gv l=q at hres ju;have JB:=I ju.out;go_wp2_with fail
   refine JB.out.mono ?_;rintro e w' ⟨rfl,rfl⟩;go_wp2;go_ret;exact⟨congrArg (λx=>Ending.returned (Value.bool x)) (by simp),rfl⟩
theorem NK(A:a7)(c:Nat)(l:ae)(w:ah)(hl:l.length<=1000000000)(ap:l.sum<=1000000000000)(aj:Reads w A (aM l)) :
  Calls prog 191 #[.slice A l.length c] w λe w'=>e=.returned (.int .i64 (l.sum:Int))/\w=w':=by
 have bj:=I aj;obtain⟨r,hres⟩:∃r,r=l.sum:=⟨_,rfl⟩;rw[<-hres]at ap ⊢;have b4:=I hres;clear aj hres;go_enter func191,ntmps191
 go_wp2;go_loop [3,8] (λn i=>∃k:Nat,k<=l.length/\i=.int .i64 k/\n=.int .i64 ((l.take k).sum:Int)) (λ_ i=>l.length-(intOf i).toNat)
 case atStart=>exact⟨0,by omega,rfl,rfl⟩
 case round=>
  obtain⟨k,hk,rfl,rfl⟩:=hrel;by_cases a8:k<l.length
  .obtain⟨g,off,rfl,hc⟩:=Om bj.out (by omega);have c0:=hc k a8;have h1:(l.take (k+1)).sum=(l.take k).sum+l[k]:=by
    rw[fY a8,sum_append_nat,sum_singleton]
   have af:(l.take (k+1)).sum<=r:=by
    rw[b4.out];conv=>rhs;rw[<-gq (k+1) l]
    rw[sum_append_nat];omega
   rw[h1]at af;have ca:=I h1;clear hc h1;generalize (l.take k).sum=m at af ca ⊢;generalize l[k]=z at c0 af ca;go_wp2;go_round
   case rel=>exact⟨k+1,by omega,by go_num,by rw[ca.out];go_num⟩
   case measure=>simp[intOf];omega
  .obtain rfl:k=l.length:=by omega
   rw[take_length,<-b4.out];go_wp2;go_ret;exact⟨rfl,rfl⟩
theorem Xu(A:a7)(c:Nat)(l:ae)(w:ah)(hl:l.length<=1000000000)(hm:∀x∈l,x<=1000000000000)(aj:Reads w A (aM l)) :
  Calls prog 194 #[.slice A l.length c] w λe w'=>e=.returned (.int .i64 (fN l))/\w=w':=by
 have bj:=I aj;have cj:=I hm;obtain⟨r,hres⟩:∃r,r=fN l:=⟨_,rfl⟩;rw[<-hres];have b4:=I hres;clear aj hres hm;go_enter func194,ntmps194
 go_wp2;go_loop [3,8] (λn i=>∃k:Nat,k<=l.length/\i=.int .i64 k/\n=.int .i64 (fN (l.take k):Int)) (λ_ i=>l.length-(intOf i).toNat)
 case atStart=>exact⟨0,by omega,rfl,rfl⟩
 case round=>
  obtain⟨k,hk,rfl,rfl⟩:=hrel;by_cases a8:k<l.length
  .obtain⟨g,off,rfl,hc⟩:=Om bj.out (by omega);have c0:=hc k a8;have bC:=cj.out l[k] (b8 a8);have ai:∃f,f=fN (l.take k)/\f<l.length/\f<=k/\∃y:Nat,y<=1000000000000/\w.cell? ⟨g,off+f,none⟩=some (.int .i64 y)/\fN (l.take (k+1))=if y<l[k]then k else f:=by
    refine⟨_,rfl,?_⟩;rcases eq_zero_or_pos k with ao|ao
    .subst ao;refine⟨by simpa [fN]using a8,by simp[fN],l[0],cj.out _ (b8 a8),by simpa [fN]using hc 0 a8,?_⟩;rw[az (by omega),fY a8];simp[fN,jn]
    .have aZ:l.take k≠[]:=λe=>by
      have h1:=congrArg List.length e;rw[cr,length_nil]at h1;omega
     have au:=CH _ aZ;have hlt2:=au;rw[cr]at hlt2;have aF:=CG _ au;rw[getElem_take]at aF;have h1:=hc (fN (l.take k)) (by omega);rw[aF]at h1;refine⟨by omega,by omega,jn (l.take k),?_,h1,?_⟩
     .rw[<-aF];exact cj.out _ (b8 _)
     .rw[fY a8,ah2 _ _ aZ,cr,Nat.min_eq_left (by omega)]
   obtain⟨f,aL,lr,LP,y,hy,c1,aA⟩:=ai;rw[<-aL];have b0:=I aA;clear hc aA aL;generalize l[k]=z at c0 b0 bC;by_cases DH:y<z
   .have ak:decide (y<z)=true:=bE DH;rw[aB DH]at b0;go_wp2;go_round
    case rel=>exact⟨k+1,by omega,by go_num,by rw[b0.out]⟩
    case measure=>simp[intOf];omega
   .have ak:decide (y<z)=false:=bG DH;rw[az DH]at b0;go_wp2;go_round
    case rel=>exact⟨k+1,by omega,by go_num,by rw[b0.out]⟩
    case measure=>simp[intOf];omega
  .obtain rfl:k=l.length:=by omega
   rw[take_length,<-b4.out];go_wp2;go_ret;exact⟨rfl,rfl⟩
namespace am
theorem RR(p:Int->Bool)(l:List Int)(i j:Nat)(uX:i<j)(ar:j<l.length)(ay:p l[i]=true)(ax:p l[j]=true):2<=l.countP p:=by
 have e:l=l.take j++l[j]::l.drop (j+1):=by rw[<-drop_eq_getElem_cons ar,gq]
 have h1:0<(l.take j).countP p:=by
  refine List.countP_pos_iff.2 ⟨l[i],?_,ay⟩;have r4:i<(l.take j).length:=by rw[cr];omega
  have:=b8 r4;rwa [getElem_take]at this
 have af:=congrArg (countP p) e;rw[countP_append,countP_cons,aB ax]at af;omega
theorem FG(s:ae)(b:Nat)(ak:b∈s):∃h:b<(ei s).length,0<(ei s)[b]:=by
 have aE:=w8 s b ak;refine⟨by rw[s8];exact aE,?_⟩;have:(ei s)[b]'(by rw[s8];exact aE)=((s.count b:Nat):Int):=by simp[ei,il]
 rw[this];have:=List.count_pos_iff.2 ak;omega
theorem NQ(s:ae)(h:gv (ei s)=1):∃x,s=List.replicate s.length x/\0<s.length:=by
 cases s with
|nil=>simp[ei,il,eL,gv]at h
|cons x r=>
  refine⟨x,?_,by simp⟩;rw[eq_replicate_iff];refine⟨rfl,λb ak=>?_⟩;rcases Nat.lt_trichotomy b x with au|he|mT
  .exfalso
   obtain⟨h1,af⟩:=FG (x::r) b ak;obtain⟨aq,aK⟩:=FG (x::r) x dU;have:=RR (λz=>decide (0<z)) (ei (x::r)) b x au aq (bE af) (bE aK);unfold gv at h;omega
  .exact he
  .exfalso
   obtain⟨h1,af⟩:=FG (x::r) b ak;obtain⟨aq,aK⟩:=FG (x::r) x dU;have:=RR (λz=>decide (0<z)) (ei (x::r)) x b mT h1 (bE aK) (bE af);unfold gv at h;omega
theorem O5:∀bs:ae,0<eL bs->∃b∈bs,eL bs=b+1
|[],h=>by simp[eL]at h
|b::bs,_=>by
  by_cases h:eL bs<=b+1
  .exact⟨b,dU,by rw[eL,Nat.max_eq_left h]⟩
  .obtain⟨x,ai,e⟩:=O5 bs (by omega);exact⟨x,eo _ ai,by rw[eL,Nat.max_eq_right (by omega),e]⟩
theorem RX(s:ae)(b:Nat)(h:b∈s):0<(il s)[b]?.getD 0:=by
 unfold il;rw[getElem?_map,getElem?_range (w8 s b h)];exact List.count_pos_iff.2 h
theorem FH(s:ae):(il s).length=eL s:=by simp[il]
theorem ag1(s:ae):(ei s).map Int.toNat=il s:=by
 unfold ei;rw[List.map_map];conv=>rhs;rw[<-List.map_id (il s)]
 exact map_congr_left λx _=>rfl
end am
theorem NJ(A:a7)(c:Nat)(s:ae)(w:ah)(au:∀x∈s,x<256)(aj:Reads w A (aM (il s))) :
  Calls prog 65 #[.slice A (eL s) c] w λe w'=>e=.returned (.int .i64 (gv (ei s):Int))/\av w w':=by
 have aE:=tP s au;have h:=anl A c (ei s) w (by rw[s8];omega) (by unfold ei;rw[jF];exact aj);rw[s8]at h;exact h
namespace am
def oG(l:List Int):Prop:=l.length<=256/\∀x∈l,0<=x/\x<=11
instance (l:List Int):Decidable (oG l):=by unfold oG;exact inferInstance
def fa(n:Nat):Nat:=if n=0 then 0 else 2^(11-n)
def fz(l:ae):Nat:=(l.map fa).sum
def i6(l:ae):Nat:=l.countP λn=>decide (0<n)
def fq(l:ae):Prop:=l.length<=256/\(∀x∈l,x<=11)/\(fz l=2048\/(i6 l=1/\fz l=1024))
instance (l:ae):Decidable (fq l):=by unfold fq;exact inferInstance
def mb(l:List Int):Prop:=oG l/\fq (l.map Int.toNat)
instance (l:List Int):Decidable (mb l):=by unfold mb;exact inferInstance
theorem GX(l:List Int)(h:oG l):l=(l.map Int.toNat).map (λn:Nat=>(n:Int))/\(∀x∈l.map Int.toNat,x<=11)/\(l.map Int.toNat).length=l.length:=by
 refine⟨?_,?_,by simp⟩
 .rw[List.map_map];conv=>lhs;rw[<-List.map_id l]
  apply map_congr_left
  intro x ai;have:=h.2 x ai;simp only[Function.comp_apply,id];omega
 .intro x ai;obtain⟨y,hy,rfl⟩:=List.mem_map.1 ai;have:=h.2 y hy;omega
def me(l:ae)(k i:Nat):Bool:=decide (0<l[k]?.getD 0) && (decide (l[k]?.getD 0<l[i]?.getD 0) || (decide (l[k]?.getD 0=l[i]?.getD 0) && decide (k<i)))
def ni(l:ae)(i q:Nat):Nat:=((List.range q).map λk=>if me l k i then fa (l[k]?.getD 0)else 0).sum
def pj(l:ae)(i:Nat):Nat:=ni l i l.length
def gW(l:ae)(i:Nat):Nat:=if l[i]?.getD 0=0 then 0 else pj l i/2^(11-l[i]?.getD 0)
def lm(l:ae):ae:=(List.range l.length).map (gW l)
theorem QU(l:ae)(i q:Nat):ni l i (q+1)=ni l i q+if me l q i then fa (l[q]?.getD 0)else 0:=by
 unfold ni;rw[range_succ,map_append,sum_append_nat];simp
theorem Ep{α:Type}(f g:α->Nat):∀(L:List α),(∀x∈L,f x<=g x)->(L.map f).sum<=(L.map g).sum
|[],_=>by simp
|a::L,h=>by
  have h1:=h a dU;have af:=Ep f g L (λx ai=>h x (eo _ ai));rw[map_cons,map_cons,sum_cons,sum_cons];omega
theorem w5{α:Type}(f g:α->Nat):∀(L:List α),(L.map λx=>f x+g x).sum=(L.map f).sum+(L.map g).sum
|[]=>by simp
|a::L=>by
  have af:=w5 f g L;simp only[map_cons,sum_cons];omega
theorem GR(l:ae):fz l=((List.range l.length).map λk=>fa (l[k]?.getD 0)).sum:=by
 unfold fz;congr 1
 apply ext_getElem
 .simp
 .intro i h1 af;simp only[cQ]at h1;simp[h1]
theorem y4(i v:Nat):∀q,((List.range q).map λk=>if k=i then v else 0).sum=if i<q then v else 0
|0=>by simp
|q+1=>by
  rw[range_succ,map_append,sum_append_nat,y4 i v q];simp only[map_cons,map_nil,sum_cons,sum_nil];by_cases h1:i<q
  .have af:¬q=i:=by omega
   have aq:i<q+1:=by omega
   simp[h1,af,aq]
  .by_cases af:q=i
   .subst af;simp
   .have aq:¬i<q+1:=by omega
    simp[h1,af,aq]
theorem QV(l:ae)(i k:Nat)(ay:i<l.length)(h:me l i k=true):pj l i+fa (l[i]?.getD 0)<=pj l k:=by
 have e:fa (l[i]?.getD 0)=((List.range l.length).map λq=>if q=i then fa (l[i]?.getD 0)else 0).sum:=by
  rw[y4,aB ay]
 unfold pj ni;rw[e,<-w5];apply Ep
 intro q _;by_cases hq:q=i
 .subst hq;have ao:me l q q=false:=by simp[me]
  rw[ao,h];simp
 .rw[az hq,fX];by_cases ak:me l q i=true
  .have hk:me l q k=true:=by
    unfold me at h ak ⊢;simp only[Bool.and_eq_true,Bool.or_eq_true,decide_eq_true_eq]at h ak ⊢;omega
   rw[ak,hk];exact Nat.le_refl _
  .rw[az ak];exact zero_le _
theorem aeV(l:ae)(i:Nat)(ay:i<l.length):pj l i+fa (l[i]?.getD 0)<=fz l:=by
 have e:fa (l[i]?.getD 0)=((List.range l.length).map λq=>if q=i then fa (l[i]?.getD 0)else 0).sum:=by
  rw[y4,aB ay]
 rw[GR];unfold pj ni;rw[e,<-w5];apply Ep
 intro q _;by_cases hq:q=i
 .subst hq;have ao:me l q q=false:=by simp[me]
  rw[ao];simp
 .rw[az hq,fX];split<;>omega
theorem aeW(l:ae)(i:Nat):2^(11-l[i]?.getD 0)∣pj l i:=by
 unfold pj ni;have:∀L:ae,2^(11-l[i]?.getD 0)∣(L.map λk=>if me l k i then fa (l[k]?.getD 0)else 0).sum:=λL=>by
  induction L with
 |nil=>simp
 |cons k L ih=>
   rw[map_cons,sum_cons];refine Nat.dvd_add ?_ ih;split
   .next ak=>
    unfold me at ak;simp only[Bool.and_eq_true,Bool.or_eq_true,decide_eq_true_eq]at ak;unfold fa;rw[az (by omega)];exact Nat.pow_dvd_pow 2 (by omega)
   .exact Nat.dvd_zero _
 exact this _
theorem Fz(l:ae)(i:Nat)(ay:i<l.length)(h:fq l)(ao:0<l[i]?.getD 0):gW l i<2^(l[i]?.getD 0):=by
 have dQ:l[i]?.getD 0<=11:=by rw[bI ay,b7];exact h.2.1 _ (b8 ay)
 have aV:=aeV l i ay;have hk:fz l<=2048:=by have:=h.2.2;omega
 unfold gW;rw[az (by omega)];unfold fa at aV;rw[az (by omega)]at aV;have ax:0<2^(11-l[i]?.getD 0):=eK _;rw[div_lt_iff_lt_mul ax,<-dI,show l[i]?.getD 0+(11-l[i]?.getD 0)=11 by omega];have:(2:Nat)^11=2048:=by decide
 omega
theorem agM(l:ae)(i k:Nat)(ay:i<l.length)(hk:k<l.length)(h:fq l)(LV:i≠k)(ao:0<l[i]?.getD 0)(h1:l[i]?.getD 0<=l[k]?.getD 0):gW l k/2^(l[k]?.getD 0-l[i]?.getD 0)≠gW l i:=by
 have dQ:l[k]?.getD 0<=11:=by rw[bI hk,b7];exact h.2.1 _ (b8 hk)
 have ax:0<2^(11-l[i]?.getD 0):=eK _;obtain⟨q,hq⟩:=aeW l i;have ahA:gW l i=q:=by
  unfold gW;rw[az (by omega),hq,Nat.mul_div_cancel_left _ ax]
 have KD:gW l k/2^(l[k]?.getD 0-l[i]?.getD 0)=pj l k/2^(11-l[i]?.getD 0):=by
  unfold gW;rw[az (by omega),jX,<-dI,show 11-l[k]?.getD 0+(l[k]?.getD 0-l[i]?.getD 0)=11-l[i]?.getD 0 by omega]
 rw[ahA,KD];by_cases ak:me l i k=true
 .have af:=QV l i k ay ak;unfold fa at af;rw[az (by omega),hq]at af;have aq:q+1<=pj l k/2^(11-l[i]?.getD 0):=by
   rw[le_div_iff_mul_le ax,Nat.add_mul,Nat.one_mul,eG];exact af
  omega
 .have aJ:me l k i=true:=by
   unfold me at ak ⊢;simp only[Bool.and_eq_true,Bool.or_eq_true,decide_eq_true_eq]at ak ⊢;omega
  have he:l[k]?.getD 0=l[i]?.getD 0:=by
   unfold me at aJ;simp only[Bool.and_eq_true,Bool.or_eq_true,decide_eq_true_eq]at aJ;omega
  have af:=QV l k i hk aJ;unfold fa at af;rw[az (by omega),hq,he]at af;have aq:pj l k/2^(11-l[i]?.getD 0)<q:=by
   rw[div_lt_iff_lt_mul ax,eG q];omega
  omega
def zX(ag U:ae):Nat:=((List.range ag.length).map λi=>ag[i]?.getD 0*U[i]?.getD 0).sum
def If(ag U:ae):Prop:=∀i,i<ag.length->0<ag[i]?.getD 0->0<U[i]?.getD 0
def hx:ae->Nat
|[]=>0
|b::l=>b+2*hx l
theorem Fo:∀l:ae,(∀x∈l,x<2)->hx l<2^l.length
|[],_=>by simp[hx]
|b::l,h=>by
  have h1:=Fo l (λx ai=>h x (eo _ ai));have af:=h b dU;rw[hx,bY,ea];omega
theorem Rg:∀l:ae,(∀x∈l,x<2)->bitsOf (hx l) l.length=l
|[],_=>rfl
|b::l,h=>by
  have h1:=Rg l (λx ai=>h x (eo _ ai));have af:=h b dU;apply ext_getElem
  .rw[gV]
  .intro i ay yi;rw[lM];cases i with
  |zero=>rw[hx,getElem_cons_zero];omega
  |succ j=>
    have ar:j<l.length:=by simpa using yi
    have aq:(bitsOf (hx l) l.length)[j]'(by rw[gV];exact ar)=l[j]:=by simp only[h1]
    rw[lM]at aq;rw[hx,getElem_cons_succ,ea,eG (2^j),<-jX,show(b+2*hx l)/2=hx l by omega,aq]
theorem Fm(N n:Nat)(h:N<2^n):hx (bitsOf N n)=N:=by
 induction n generalizing N with
|zero=>
   have:N=0:=by simpa using h
   subst this;rfl
|succ n ih=>
  have e:bitsOf N (n+1)=N%2::bitsOf (N/2) n:=by
   unfold bitsOf;rw[range_succ_eq_map,map_cons,List.map_map];congr 1
   .simp
   .refine map_congr_left λi _=>?_
    simp only[Function.comp];rw[succ_eq_add_one,ea,eG (2^i),<-jX]
  rw[e,hx,ih (N/2) (by rw[ea]at h;omega)];omega
theorem J3:∀a b:ae,hx (a++b)=hx a+hx b*2^a.length
|[],b=>by simp[hx]
|x::a,b=>by
  rw[cons_append,hx,J3 a b,hx,bY,ea];rw[Nat.mul_add,<-Nat.mul_assoc,eG 2 (hx b),Nat.mul_assoc,eG 2 (2^a.length)];omega
theorem J4:∀l:ae,(∀x∈l,x=0)->hx l=0
|[],_=>rfl
|b::l,h=>by rw[hx,J4 l (λx ai=>h x (eo _ ai)),h b dU]
def oX(l:ae):ae:=bytesOf (hx l) ((l.length+7)/8)
theorem NZ(l:ae):(oX l).length=(l.length+7)/8:=bytesOf_length _ _
theorem XZ(l:ae):∀x∈oX l,x<256:=ut _ _
theorem afz(l:ae)(h:∀x∈l,x<2):bitsOf (bd (oX l)) (8*(oX l).length)=l++List.replicate (8*((l.length+7)/8)-l.length) 0:=by
 have au:=Fo l h;have hle:2^l.length<=256^((l.length+7)/8):=by
  rw[h0];exact dy (by omega) (by omega)
 rw[NZ,oX,Ez,mod_eq_of_lt (by omega)];have e:8*((l.length+7)/8)=l.length+(8*((l.length+7)/8)-l.length):=by omega
 have h1:=Re (hx l) l.length 0 (8*((l.length+7)/8)-l.length) au;rw[<-e,Rg l h]at h1;simp only[zero_mod,Nat.zero_mul,fX]at h1;rw[<-h1];congr 1
 apply ext_getElem
 .simp[gV]
 .intro i _ _;rw[lM,getElem_replicate,Nat.zero_div]
theorem anP(l z s:ae)(ap:∀x∈s,x<256)(h:bitsOf (bd s) (8*s.length)=l++z)(aQ:∀x∈z,x=0)(c6:z.length<=7):oX l=s:=by
 have h1:=congrArg hx h;have aD:=o4 s ap;rw[h0]at aD;rw[Fm _ _ aD,J3,J4 z aQ,Nat.zero_mul,fX]at h1;have af:=congrArg List.length h;rw[gV,aY]at af;unfold oX;rw[<-h1,show(l.length+7)/8=s.length by omega,J9 s ap]
def cT(U:ae)(s:Nat):ae:=(List.range (U[s]?.getD 0)).map λj=>gW U s/2^(U[s]?.getD 0-1-j)%2
theorem ll(U:ae)(s:Nat):(cT U s).length=U[s]?.getD 0:=by simp[cT]
theorem xV(U:ae)(s:Nat):∀x∈cT U s,x<2:=λx ai=>by
 unfold cT at ai;obtain⟨i,_,rfl⟩:=List.mem_map.1 ai;exact mod_lt _ (by omega)
theorem Fw(U:ae)(s j:Nat)(h:j<(cT U s).length):(cT U s)[j]=gW U s/2^(U[s]?.getD 0-1-j)%2:=by simp[cT]
theorem Rx(U:ae)(i k:Nat)(ay:i<U.length)(hk:k<U.length)(h:fq U)(ao:0<U[i]?.getD 0)(LV:U[i]?.getD 0<=U[k]?.getD 0)(ax:cT U i <+: cT U k):i=k:=by
 apply Classical.byContradiction
 intro aZ;have gl:0<U[k]?.getD 0:=by omega
 refine agM U i k ay hk h aZ ao LV ?_;have qN:=Fz U i ay h ao;have ajc:=Fz U k hk h gl;obtain⟨d,aI⟩:∃d,U[k]?.getD 0=U[i]?.getD 0+d:=⟨U[k]?.getD 0-U[i]?.getD 0,by omega⟩;rw[aI,Nat.add_sub_cancel_left];have jA:gW U k/2^d<2^(U[i]?.getD 0):=by
  rw[div_lt_iff_lt_mul (eK d),<-dI,<-aI];exact ajc
 rw[<-Fm _ _ jA,<-Fm _ _ qN];congr 1
 apply ext_getElem
 .simp[gV]
 .intro t h1 af;rw[gV]at h1;rw[lM,lM,jX,<-dI];have ar:U[i]?.getD 0-1-t<(cT U i).length:=by rw[ll];omega
  have e:=ax.getElem ar;rw[Fw,Fw]at e;rw[show U[i]?.getD 0-1-(U[i]?.getD 0-1-t)=t by omega,show U[k]?.getD 0-1-(U[i]?.getD 0-1-t)=d+t by omega]at e;exact e.symm
theorem N9(U:ae)(i k:Nat)(ay:i<U.length)(hk:k<U.length)(h:fq U)(ao:0<U[i]?.getD 0)(h1:0<U[k]?.getD 0)(l:ae)(ax:cT U i <+: l)(hq:cT U k <+: l):i=k:=by
 rcases Nat.le_total (U[i]?.getD 0) (U[k]?.getD 0)with hle|hle
 .exact Rx U i k ay hk h ao hle (prefix_of_prefix_length_le ax hq (by rw[ll,ll];exact hle))
 .exact(Rx U k i hk ay h h1 hle (prefix_of_prefix_length_le hq ax (by rw[ll,ll];exact hle))).symm
def encS(U:ae):ae->Option (ae)
|[]=>some []
|b::bs=>if 0<U[b]?.getD 0 then(encS U bs).map (cT U b++·)else none
def qG(U bs:ae):Option (ae):=(encS U bs).map oX
theorem Sd(U:ae):∀(bs l:ae),encS U bs=some l->∀x∈l,x<2
|[],l,h=>by injection h with h;subst h;simp
|b::bs,l,h=>by
  unfold encS at h;split at h
  .cases aj:encS U bs with
  |none=>rw[aj]at h;cases h
  |some r=>
    rw[aj,map_some]at h;injection h with h
    subst h;intro x ai;rcases List.mem_append.1 ai with ai|ai
    .exact xV U b x ai
    .exact Sd U bs r aj x ai
  .cases h
theorem Sf(U:ae)(b:Nat):∀a:ae,encS U (a++[b])=if 0<U[b]?.getD 0 then(encS U a).map (·++cT U b)else none
|[]=>by
  simp only[nil_append,encS];split<;>simp
|x::a=>by
  rw[cons_append,encS,Sf U b a,encS];split<;>split<;>simp[Function.comp_def]
  all_goals cases encS U a<;>simp
theorem Se(U:ae)(b:Nat)(ao:U[b]?.getD 0=0):∀bs:ae,b∈bs->encS U bs=none
|[],h=>by cases h
|x::bs,h=>by
  rw[encS];rcases List.mem_cons.1 h with rfl|h
  .rw[az (by omega)]
  .rw[Se U b ao bs h];split<;>rfl
def Fy(U bs:ae):Nat:=(bs.map λb=>U[b]?.getD 0).sum
theorem Sc(U:ae):∀(bs l:ae),encS U bs=some l->l.length=Fy U bs
|[],l,h=>by injection h with h;subst h;rfl
|b::bs,l,h=>by
  unfold encS at h;split at h
  .cases aj:encS U bs with
  |none=>rw[aj]at h;cases h
  |some r=>
    rw[aj,map_some]at h;injection h with h
    subst h;rw[aY,ll,Sc U bs r aj];simp[Fy]
  .cases h
theorem Sg(U:ae):∀bs:ae,(∀b∈bs,0<U[b]?.getD 0)->∃l,encS U bs=some l
|[],_=>⟨[],rfl⟩
|b::bs,h=>by
  obtain⟨l,hl⟩:=Sg U bs (λx ai=>h x (eo _ ai));exact⟨cT U b++l,by rw[encS,aB (h b dU),hl];rfl⟩
def q2(U l:ae):Nat->Option Nat
|0=>none
|q+1=>if 0<U[q]?.getD 0/\cT U q <+: l then some q else q2 U l q
def m7(U l:ae):Option Nat:=q2 U l U.length
theorem NA(U l:ae):∀q k,q2 U l q=some k->k<q/\0<U[k]?.getD 0/\cT U k <+: l
|0,k,h=>by cases h
|q+1,k,h=>by
  unfold q2 at h;split at h
  .next hc=>injection h with h;subst h;exact⟨by omega,hc.1,hc.2⟩
  .obtain⟨h1,af⟩:=NA U l q k h;exact⟨by omega,af⟩
theorem Xm(U l:ae)(k:Nat)(h:fq U)(ao:0<U[k]?.getD 0)(ax:cT U k <+: l):∀q,k<q->q<=U.length->q2 U l q=some k
|0,hk,_=>by omega
|q+1,hk,hq=>by
  unfold q2;split
  .next hc=>rw[N9 U k q (by omega) (by omega) h ao hc.1 l ax hc.2]
  .next hc=>
   by_cases e:k=q
   .subst e;exact absurd ⟨ao,ax⟩ hc
   .exact Xm U l k h ao ax q (by omega) (by omega)
theorem Xl(U l:ae)(k:Nat)(h:fq U)(hk:k<U.length)(ao:0<U[k]?.getD 0)(ax:cT U k <+: l):m7 U l=some k:=Xm U l k h ao ax _ hk bl
def iJ(U:ae):Nat->ae->Option (ae×ae)
|0,l=>some ([],l)
|n+1,l=>(m7 U l).bind λk=>(iJ U n (l.drop (U[k]?.getD 0))).map λt=>(k::t.1,t.2)
def s9(t:ae×ae):Option (ae):=if t.2.length<=7/\∀x∈t.2,x=0 then some t.1 else none
def nX(U s:ae)(n:Nat):Option (ae):=(iJ U n (bitsOf (bd s) (8*s.length))).bind s9
theorem DM(U:ae)(k:Nat)(h:0<U[k]?.getD 0):k<U.length:=by
 rcases eF k U.length with h1|h1
 .exact h1
 .rw[getElem?_eq_none h1]at h;simp at h
theorem R1(U:ae)(h:fq U)(z:ae):∀(bs l:ae),encS U bs=some l->iJ U bs.length (l++z)=some (bs,z)
|[],l,e=>by injection e with e;subst e;rfl
|b::bs,l,e=>by
  unfold encS at e;split at e
  .next ao=>
   cases aj:encS U bs with
  |none=>rw[aj]at e;cases e
  |some r=>
    rw[aj,map_some]at e;injection e with e
    subst e;rw[bY,iJ,df,Xl U _ b h (DM U b ao) ao (prefix_append _ _),Option.bind_some];have aI:(cT U b++(r++z)).drop (U[b]?.getD 0)=r++z:=by rw[<-ll U b,drop_left]
    rw[aI,R1 U h z bs r aj];rfl
  .cases e
theorem ahe(U bs s:ae)(h:fq U)(e:qG U bs=some s):nX U s bs.length=some bs:=by
 unfold qG at e;cases aj:encS U bs with
|none=>rw[aj]at e;cases e
|some l=>
  rw[aj,map_some]at e;injection e with e
  subst e;unfold nX;rw[afz l (Sd U bs l aj),R1 U h _ bs l aj,Option.bind_some];unfold s9;rw[aB ⟨by rw[iZ];omega,λx ai=>(List.mem_replicate.1 ai).2⟩]
theorem Si(U:ae):∀(n:Nat) (l d r:ae),iJ U n l=some (d,r)->d.length=n/\(∀x∈d,x<U.length)/\∃e,encS U d=some e/\l=e++r
|0,l,d,r,h=>by
  unfold iJ at h;injection h with h
  injection h with h1 af
  subst h1 af;exact⟨rfl,by simp,[],rfl,rfl⟩
|n+1,l,d,r,h=>by
  unfold iJ at h;cases hm:m7 U l with
 |none=>rw[hm]at h;cases h
 |some k=>
   rw[hm,Option.bind_some]at h;obtain⟨hk,ao,ax⟩:=NA U l _ k hm;cases aj:iJ U n (l.drop (U[k]?.getD 0))with
  |none=>rw[aj]at h;cases h
  |some t=>
    obtain⟨Ks,r'⟩:=t;rw[aj,map_some]at h;injection h with h
    injection h with h1 af
    subst h1 af;obtain⟨g1,g2,e,g3,g4⟩:=Si U n _ Ks r' aj;refine⟨by rw[bY,g1],?_,cT U k++e,by rw[encS,aB ao,g3];rfl,?_⟩
    .intro x ai;rcases List.mem_cons.1 ai with rfl|ai
     .exact hk
     .exact g2 x ai
    .obtain⟨t,rfl⟩:=ax;rw[<-ll U k,drop_left]at g4;rw[g4,df]
theorem FS(U s d:ae)(n:Nat)(ap:∀x∈s,x<256)(h:nX U s n=some d):qG U d=some s/\d.length=n/\∀x∈d,x<U.length:=by
 unfold nX at h;cases aj:iJ U n (bitsOf (bd s) (8*s.length))with
|none=>rw[aj]at h;cases h
|some t=>
  obtain⟨Ks,r⟩:=t;rw[aj,Option.bind_some]at h;unfold s9 at h;split at h
  .next hc=>
   injection h with h
   simp only at h hc;subst h;obtain⟨g1,g2,e,g3,g4⟩:=Si U n _ Ks r aj;refine⟨?_,g1,g2⟩;unfold qG;rw[g3,map_some,anP e r s ap g4 hc.2 hc.1]
  .cases h
end am
end Go.Proofs.YtgiicohbigiapaaGreat
