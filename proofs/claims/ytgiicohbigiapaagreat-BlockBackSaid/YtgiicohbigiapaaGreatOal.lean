/- Contracts. -/
import Derived.Test.YtgiicohbigiapaaGreatOak
import Derived.Deep.DrawnRows
import Derived.Shelf.RegionOpenPlain
import Derived.Test.YtgiicohbigiapaaGreatOz2
import Derived.Test.YtgiicohbigiapaaGreatOz1
import Derived.Test.YtgiicohbigiapaaGreatOz0
set_option maxHeartbeats 4000000
set_option maxRecDepth 100000
open Go.Proofs.Tryz Go.Proofs.YtgiicohbigiapaaGreat.am List Nat Option
namespace Go.Proofs.YtgiicohbigiapaaGreat
open Go.RowKit
theorem atL(A:a7)(c:Nat)(U:ae)(w:ah)(hl:U.length<=256)(dQ:∀x∈U,x<=11)(aZ:0<(cA U).length)(hc:U.length<=c)(aj:Reads w A (aM U)) :
  Calls prog 117 #[.slice A U.length c] w λe w'=>e=.returned (.string (strOf (gM (cA U))))/\av w w':=by
 obtain⟨i0,ay,bC,bL,bz⟩:=info_parts ob;have mW:=ail A c (U.map λn:Nat=>(n:Int)) w (by simp;omega) (by simpa using hc) (by rw[jF];exact aj);rw[cQ]at mW;have s3:=I (mW.mono λe w' ⟨k,he,hk,hw⟩=>(show e=Ending.returned (.slice A (cA U).length c)/\w=w' from by
  obtain⟨_,e2,_⟩:=YZ U k hk;exact⟨by rw[<-e2];exact he,hw⟩))
 obtain⟨m0,h8⟩:=w3 U;have bt:Reads w A (aM (cA U)):=by
  have h:=Ys aj (cA U).length;have e:∀cb cR:ae,(aM (cb++cR)).take cb.length=aM cb:=λcb cR=>by rw[<-DJ,<-gm cb,take_left]
  have e2:=e (cA U) (List.replicate m0 0);rw[<-h8]at e2;rwa [e2]at h
 have Vy:∀x∈cA U,x<=11:=λx ai=>dQ x (by rw[h8];exact mem_append_left _ ai)
 have fQ:(cA U).length<=256:=by
  have:=congrArg List.length h8;rw[aY]at this;omega
 clear mW h8 aj dQ;generalize cA U=l at *;have eu:(l.length:Int)-1=((l.length-1:Nat):Int):=by omega
 have ep:=I bt;have mE:=I Vy;clear bt Vy;go_enter func117,ntmps117
 go_wp2_with fail
 refine s3.out.mono ?_;rintro e w' ⟨rfl,rfl⟩;have hown0:(w.alloc (.cells #[.int .u8 ((l.length-1:Nat):Int)] 5)).ownsRow w.heap.size 5 1 (.slice (some ⟨w.heap.size,0,none⟩) 1 1) 1 (aO [l.length-1]):=NU (Row.new w 5 (aO [l.length-1])) bl (by simp);have vQ:=I hown0;have lG:=I ((Below.refl w.heap.size w).alloc bl (.cells #[.int .u8 ((l.length-1:Nat):Int)] 5));clear hown0;go_wp2;go_loopw [4,5,6] (λu bV _ wr=>∃k:Nat,k<=(l.length+1)/2/\bV=.int .i64 (2*(k:Int))/\Hid (wr.ownsRow w.heap.size 5 1 u (1+k) (aO ((l.length-1)::(List.range k).map (lA l))))/\Hid (av w wr)) (λ_ bV _ _=>l.length+1-(intOf bV).toNat)
 case atStart=>exact⟨0,by omega,rfl,vQ,lG⟩
 case round=>
  obtain⟨k,hk,rfl,hown,hbel⟩:=hrel;by_cases a8:2*k<l.length
  .obtain⟨g1,off1,rfl,bM⟩:=kL (c7 ep.out hbel.out) (by omega);have c1:=bM (2*k) a8;have SM:=X0 mE.out k;have Wl:=mE.out l[2*k] (b8 a8);have VP:aO ((l.length-1)::(List.range k).map (lA l))++[Value.int .u8 (lA l k)]=aO ((l.length-1)::(List.range (k+1)).map (lA l)):=by simp[aO,range_succ]
   have ad2:=I VP;clear VP;have hfin:∀(gN:Value) (aC:ah),aC.ownsRow w.heap.size 5 1 gN (1+k+1) (aO ((l.length-1)::(List.range k).map (lA l))++[Value.int .u8 (lA l k)])->Hid (aC.ownsRow w.heap.size 5 1 gN (1+(k+1)) (aO ((l.length-1)::(List.range (k+1)).map (lA l)))):=λgN aC h=>by
    rw[ad2.out]at h;exact I h
   have fe:=I hfin;clear hfin;by_cases ft:2*k+1<l.length
   .have c2:=bM (2*k+1) ft;have aw5:=mE.out l[2*k+1] (b8 ft);have Dq:lA l k=l[2*k]+16*l[2*k+1]:=by rw[lA,bI a8,bI ft];rfl
    have d2:decide (2*(k:Int)+1<(l.length:Int))=true:=cf;clear bM;generalize l[2*k]=x at *;generalize l[2*k+1]=y at *;rw[Dq]at fe SM;clear Dq;have lw:(x:Int)+16*y=((x+16*y:Nat):Int):=by omega
    have zG:=I lw;clear lw;go_wp2_with (at_builtin;refine wpList_append_own _ rfl _ _ 87 rfl w.heap.size 5 i0 (.int .u8 0) 1 1 underlying87 ay bC bL bz rfl (by decide) _ _ _ rfl (hown.out.alloc _) ⟨wr.heap.size,0,none⟩ 1 1 [.int .u8 ((x:Int)+16*y)] rfl rfl ?d1 ?d2 ?d3 ?d4 ?d5 ?_)
    case d1=>
     intro j u ar;match j,ar with
    |0,ar=>simp at ar;subst ar;simp[Addr.add]
    case d2=>intro u hu;simp at hu;subst hu;rfl
    case d3=>unfold maxLen;omega
    case d4=>omega
    case d5=>have:=hbel.out.size;simp;omega
    intro gN dk de di _;have jz:av w dk:=(hbel.out.alloc hbel.out.size _).grown di (by have:=hbel.out.size;simp;omega) (λx e=>(hown.out.lt x e).1);rw[zG.out]at de;have js:=fe.out gN dk de;have nb:=I jz;clear de di jz hown hbel;go_wp2;go_roundw
    case rel=>exact⟨k+1,by omega,by go_num,js,nb⟩
    case measure=>simp[intOf];omega
   .have Dq:lA l k=l[2*k]:=by rw[lA,bI a8,getElem?_eq_none (by omega)];rfl
    have d2:decide (2*(k:Int)+1<(l.length:Int))=false:=aU;clear bM;generalize l[2*k]=x at *;rw[Dq]at fe SM;clear Dq;go_wp2_with (at_builtin;refine wpList_append_own _ rfl _ _ 87 rfl w.heap.size 5 i0 (.int .u8 0) 1 1 underlying87 ay bC bL bz rfl (by decide) _ _ _ rfl (hown.out.alloc _) ⟨wr.heap.size,0,none⟩ 1 1 [.int .u8 x] rfl rfl ?d1 ?d2 ?d3 ?d4 ?d5 ?_)
    case d1=>
     intro j u ar;match j,ar with
    |0,ar=>simp at ar;subst ar;simp[Addr.add]
    case d2=>intro u hu;simp at hu;subst hu;rfl
    case d3=>unfold maxLen;omega
    case d4=>omega
    case d5=>have:=hbel.out.size;simp;omega
    intro gN dk de di _;have jz:av w dk:=(hbel.out.alloc hbel.out.size _).grown di (by have:=hbel.out.size;simp;omega) (λx e=>(hown.out.lt x e).1);have js:=fe.out gN dk de;have nb:=I jz;clear de di jz hown hbel;go_wp2;go_roundw
    case rel=>exact⟨k+1,by omega,by go_num,js,nb⟩
    case measure=>simp[intOf];omega
  .obtain rfl:k=(l.length+1)/2:=by omega
   have e1:(l.length-1)::(List.range ((l.length+1)/2)).map (lA l)=gM l:=rfl;rw[e1]at hown;have htlt:=Et l mE.out fQ;have akG:=w7 l;obtain⟨Bm,Ct,rfl,Du,_⟩:=kJ hown.out;have hcv:=oL wr Bm Ct (gM l) htlt Du;rw[akG]at hcv;clear hown e1 htlt Du;go_wp2;go_ret;exact⟨rfl,hbel⟩
def aeH(w':ah)(e:Ending):Option (ae×Nat)->Prop
|none=>e=.returned (.tuple #[.slice none 0 0,.int .i64 0])
|some t=>∃A c,e=.returned (.tuple #[.slice A t.1.length c,.int .i64 (t.2:Int)])/\Reads w' A (aM t.1)
theorem KE(bs:ae):(strOf bs).toList.isEmpty=decide (bs=[]):=by
 rw[HI];cases bs<;>simp
theorem HW(l:ae):mb (l.map λn:Nat=>(n:Int))↔fq l:=by
 have e:(l.map λn:Nat=>(n:Int)).map Int.toNat=l:=by
  rw[List.map_map];conv=>rhs;rw[<-List.map_id l]
  exact map_congr_left λx _=>by simp
 unfold mb;rw[e];constructor
 .exact λh=>h.2
 .intro h;refine⟨⟨by rw[cQ];exact h.1,λx ai=>?_⟩,h⟩;obtain⟨n,aA,rfl⟩:=List.mem_map.1 ai;have:=h.2.1 n aA;omega
theorem atK(bs:ae)(w:ah)(hl:bs.length<=10000)(ak:∀x∈bs,x<256) :
  Calls prog 76 #[.string (strOf bs)] w λe w'=>aeH w' e (iP bs)/\av w w':=by
 obtain⟨i0,ay,bC,bL,bz⟩:=info_parts oa;have eY:=KE bs;have bB:=cy bs;by_cases aZ:bs=[]
 .rw[bE aZ]at eY;have ai:iP bs=none:=by unfold iP;rw[aB aZ]
  rw[ai];clear ai ak bB;generalize strOf bs=w2 at *;go_enter func76,ntmps76
  go_wp2;go_ret2;exact⟨rfl,Below.refl _ _⟩
 .rw[bG aZ]at eY;have ao:0<bs.length:=List.length_pos_iff.2 aZ;have LR:∀W:ah,(Instr.index 9 (.string (strOf bs)) (.int .i64 0)).run prog W=.ok (.int .u8 ((bs[0]:Nat):Int)) W:=λW=>pE bs 0 W ao (ak _ (b8 ao))
  have tg:=ak _ (b8 ao);have e0:bs[0]?.getD 0=bs[0]:=by rw[bI ao,b7]
  obtain⟨res,hres⟩:∃r,r=iP bs:=⟨_,rfl⟩;rw[<-hres];have hres2:=hres;unfold iP at hres2;rw[az aZ,e0]at hres2;have b4:=I hres2;have kC:=I (λW j (h:j<bs.length)=>pE bs j W h (ak _ (b8 h)));have pU:=I (λW j (h:j<=bs.length)=>rb bs j h W);have b5:=I ak;clear hres hres2 e0 ak aZ;generalize bs[0]=x at *;obtain⟨hS,et⟩:∃a,a=1+(x+2)/2:=⟨_,rfl⟩;rw[<-et]at b4;have avz:1+((x:Int)+1+1)/2=(hS:Int):=by omega
  by_cases lq:bs.length<hS
  .have ai:res=none:=by rw[b4.out,aB lq]
   have d1:decide ((bs.length:Int)<hS)=true:=cf;have cc:=I ai;clear ai;generalize strOf bs=w2 at *;go_enter func76,ntmps76
   go_wp2;go_ret2;exact⟨by rw[cc.out];rfl,Below.refl _ _⟩
  .have d1:decide ((bs.length:Int)<hS)=false:=aU;have yH:res=if fq (fB bs (x+1))/\gM (cA (fB bs (x+1)))=bs.take hS then some (fB bs (x+1),hS)else none:=by rw[b4.out,az lq]
   have kT:=I yH;have rr:=I et;clear yH et;go_enter func76,ntmps76
   go_wp2;go_loopw [6,7,8] (λu bV _ wr=>∃k:Nat,k<=x+1/\bV=.int .i64 k/\Hid (wr.ownsRow w.heap.size 3 1 u k (aM (fB bs k)))/\Hid (av w wr)) (λ_ bV _ _=>x+1-(intOf bV).toNat)
   case atStart=>exact⟨0,by omega,rfl,I (World.ownsRow_nil _ _ _ _),I dM⟩
   case round=>
    obtain⟨k,hk,rfl,hown,hbel⟩:=hrel;by_cases awa:k<x+1
    .have et:=rr.out;obtain⟨j,ar⟩:∃j,j=1+k/2:=⟨_,rfl⟩;have fk:j<bs.length:=by omega
     have pr:1+(k:Int)/2=(j:Int):=by omega
     have hidx:=λW=>kC.out W j fk
     have hy:=b5.out bs[j] (b8 fk);obtain⟨v,aD⟩:∃v,v=oc bs k:=⟨_,rfl⟩;have n6:=aD;unfold oc at n6;rw[<-ar,bI fk,b7]at n6;have gR:Hid (oc bs k=v):=I aD.symm;clear et ar aD;generalize bs[j]=y at *;by_cases hodd:k%2=1
     .rw[aB hodd]at n6;have dq:((k:Int)%2==1)=true:=by rw[beq_iff_eq];omega
      have V8:(y:Int)/16%16=(v:Int):=by omega
      clear n6;go_wp2_with (at_builtin;refine wpList_append_own _ rfl _ _ 112 rfl w.heap.size 3 i0 (.int .i64 0) 1 8 underlying112 ay bC bL bz rfl (by decide) _ _ _ rfl (hown.out.alloc _) ⟨wr.heap.size,0,none⟩ 1 1 [.int .i64 v] rfl rfl ?d1 ?d2 ?d3 ?d4 ?d5 ?_)
      case d1=>
       intro j u ar;match j,ar with
      |0,ar=>simp at ar;subst ar;simp[Addr.add]
      case d2=>intro u hu;simp at hu;subst hu;rfl
      case d3=>unfold maxLen;omega
      case d4=>omega
      case d5=>have:=hbel.out.size;simp;omega
      intro gN dk de di _;have jz:av w dk:=(hbel.out.alloc hbel.out.size _).grown di (by have:=hbel.out.size;simp;omega) (λx e=>(hown.out.lt x e).1);have e:aM (fB bs k)++[Value.int .i64 v]=aM (fB bs (k+1)):=by rw[Xy,gR.out];simp[aM]
      rw[e]at de;have js:=I de;have nb:=I jz;clear de di jz hown hbel e;go_wp2;go_roundw
      case rel=>exact⟨k+1,by omega,by go_num,js,nb⟩
      case measure=>simp[intOf];omega
     .rw[az hodd]at n6;have dq:((k:Int)%2==1)=false:=cz
      have V8:(y:Int)%16=(v:Int):=by omega
      clear n6;go_wp2_with (at_builtin;refine wpList_append_own _ rfl _ _ 112 rfl w.heap.size 3 i0 (.int .i64 0) 1 8 underlying112 ay bC bL bz rfl (by decide) _ _ _ rfl (hown.out.alloc _) ⟨wr.heap.size,0,none⟩ 1 1 [.int .i64 v] rfl rfl ?d1 ?d2 ?d3 ?d4 ?d5 ?_)
      case d1=>
       intro j u ar;match j,ar with
      |0,ar=>simp at ar;subst ar;simp[Addr.add]
      case d2=>intro u hu;simp at hu;subst hu;rfl
      case d3=>unfold maxLen;omega
      case d4=>omega
      case d5=>have:=hbel.out.size;simp;omega
      intro gN dk de di _;have jz:av w dk:=(hbel.out.alloc hbel.out.size _).grown di (by have:=hbel.out.size;simp;omega) (λx e=>(hown.out.lt x e).1);have e:aM (fB bs k)++[Value.int .i64 v]=aM (fB bs (k+1)):=by rw[Xy,gR.out];simp[aM]
      rw[e]at de;have js:=I de;have nb:=I jz;clear de di jz hown hbel e;go_wp2;go_roundw
      case rel=>exact⟨k+1,by omega,by go_num,js,nb⟩
      case measure=>simp[intOf];omega
    .obtain rfl:k=x+1:=by omega
     have yH:=kT.out;obtain⟨eA,c1,rfl,bt,_⟩:=kJ hown.out;obtain⟨bM,_⟩:=A5 hown.out;have pz:=yS bs (x+1);have lY:=λW (ak:av wr W)=>atp eA c1 ((fB bs (x+1)).map λn:Nat=>(n:Int)) W (by rw[cQ,pz];omega) (by rw[jF];exact c7 bt ak)
     rw[cQ,pz,decide_eq_decide.2 (HW _)]at lY;have oF:=I lY;have ep:=I bt;by_cases bk:fq (fB bs (x+1))
     .rw[bE bk]at oF;obtain⟨dT,vg⟩:=HX _ bk;have MF:=λW (ak:av wr W)=>atL eA c1 (fB bs (x+1)) W bk.1 bk.2.1 vg (by rw[pz];exact bM) (c7 bt ak)
      rw[pz]at MF;have e1:=Et (cA (fB bs (x+1))) dT.2.1 dT.1;have aZ:=El (gM (cA (fB bs (x+1)))) (bs.take hS) e1 (pN b5.out hS);obtain⟨r,aj⟩:∃r,r=decide (gM (cA (fB bs (x+1)))=bs.take hS):=⟨_,rfl⟩;rw[<-aj]at aZ;have hfin:res=if r=true then some (fB bs (x+1),hS)else none:=by
       rw[yH,aj];by_cases cq:gM (cA (fB bs (x+1)))=bs.take hS
       .rw[aB ⟨bk,cq⟩,aB (bE cq)]
       .rw[az (λh=>cq h.2),az (by rw[bG cq];exact Bool.false_ne_true)]
      have mr:=λW=>pU.out W hS (by omega)
      have JD:=I MF;have fe:=I hfin;clear lY MF e1 aj hfin yH dT vg hown bt;generalize fB bs (x+1)=l at *;generalize strOf (gM (cA l))=YM at *;generalize strOf (bs.take hS)=axx at *;go_upto_region 15 with fail
      go_region_held3 (λW=>av wr W) (first|with_reducible assumption|exact(Below.refl wr.heap.size wr).drew) (first
      |(go_at_call 116;(with_reducible refine(oF.out _ (by first|with_reducible assumption|exact(Below.refl wr.heap.size wr).drew)).mono ?_);rintro e w' ⟨rfl,rfl⟩)
      |(go_at_call 117;(with_reducible refine(JD.out _ (by first|with_reducible assumption|exact(Below.refl wr.heap.size wr).drew)).mono ?_);rintro e xb ⟨rfl,C1⟩;have ib:av wr xb:=Below.trans (by first|with_reducible assumption|exact(Below.refl wr.heap.size wr).drew) (C1.mono bl);clear C1))
      have PO:=b3 hbel ib;have ady:=I (c7 ep.out ib);have Qk:=I pz;clear hbel mr pz;cases r with
     |true=>
       have br:Hid (res=some (l,hS)):=I (by rw[fe.out,aB rfl]);go_wp2;go_ret2;rw[br.out];exact⟨⟨eA,c1,by show _=Ending.returned (Value.tuple #[.slice eA l.length c1,.int .i64 hS]);rw[Qk.out];rfl,ady⟩,PO⟩
     |false=>
       have br:Hid (res=none):=I (by rw[fe.out,az Bool.false_ne_true]);go_wp2;go_ret2;rw[br.out];exact⟨rfl,PO⟩
     .rw[bG bk]at oF;have ai:res=none:=by rw[yH,az (λh=>bk h.1)]
      have cc:=I ai;have aeg:=I (λm=>oF.out (wr.drewN m) (below_drewN dM m));clear ai lY yH hown bt;go_wp2_with fail
      go_quiet ((go_at_call 116;exact ao6 (aeg.out _)))
      go_wp2;go_ret2;exact⟨by rw[cc.out];rfl,below_drewN hbel.out _⟩
def aeA:Prop:=∀(w:ah) (A:a7) (c:Nat) (l:List Int),l.length<=1000000000->l.length<=c->(∀x∈l,ec x)->Reads w A (gB l) ->
 Calls prog 107 #[.slice A l.length c] w λe w'=>e=.returned (En (if mb l then some (gM (cA (l.map Int.toNat)))else none))/\av w w'
def Ff(w':ah)(b:Nat)(bs:ae)(e:Ending):Option (ae×Nat)->Prop
|none=>∃A c,e=.returned (.tuple #[.slice A 0 c,.bool false])
|some t=>∃A c,e=.returned (.tuple #[.slice A t.1.length c,.bool true])/\Reads w' A (aM t.1)/\bK w' b (some (bs.drop t.2))
def aey:Prop:=∀(w:ah) (b:Nat) (bs:ae),bs.length<=10000->(∀x∈bs,x<256)->bK w b (some bs) ->
 Calls prog 144 #[.pointer (some ⟨b,0,none⟩)] w λe w'=>Ff w' b bs e (iP bs)/\w.grownBy w' (some b)
theorem TP(A:a7)(c:Nat)(l:List Int)(w:ah)(hl:l.length<=1000000000)(aj:Reads w A (gB l))(bk:mb l) :
  Calls prog 142 #[.slice A l.length c] w λe w'=>∃g,e=.returned (.tuple #[.slice (some ⟨g,0,none⟩) l.length l.length,.bool true])/\Reads w' (some ⟨g,0,none⟩) (aM (lm (l.map Int.toNat)))/\w.heap.size<=g/\av w w':=by
 have h:=Pg A c l w (by omega) aj;rw[bE bk]at h;obtain⟨e,dQ,kb⟩:=GX l bk.1;have ts:fz (l.map Int.toNat)<=2048:=by have:=bk.2.2.2;omega
 have h1:=asz A c (l.map Int.toNat) w (by have:=bk.1.1;omega) dQ ts (by rw[<-jF,<-e];exact aj) (by rw[kb];exact h);rw[kb]at h1;exact h1.mono λe w' ⟨g,h1,af,aq,aK⟩=>⟨g,h1,og af,aq,aK⟩
namespace am
theorem ahD(l h5:ae)(h:∀x∈h5,x<2):hx l+hx h5%2^h5.length*2^l.length=hx (l++h5):=by
 rw[J3,mod_eq_of_lt (Fo h5 h)]
theorem ahB(l:ae):bytesOf (hx l) ((l.length+7)/8)=oX l:=rfl
end am
theorem amc(A B:a7)(c d:Nat)(U bs:ae)(w:ah)(bk:fq U)(eu:bs.length<=10000)(au:∀x∈bs,x<256)(aj:Reads w A (aM U))(ap:Reads w B (aO bs))
  (jA:Calls prog 142 #[.slice A U.length c] w λe w'=>∃g,e=.returned (.tuple #[.slice (some ⟨g,0,none⟩) U.length U.length,.bool true])/\Reads w' (some ⟨g,0,none⟩) (aM (lm U))/\w.heap.size<=g/\av w w') :
  Calls prog 108 #[.slice A U.length c,.slice B bs.length d] w λe w'=>e=.returned (En (qG U bs))/\av w w':=by
 obtain⟨res,hres⟩:∃r,r=qG U bs:=⟨_,rfl⟩;rw[<-hres];have b4:=I hres;have kB:=I bk;have u6:=bk.1;have ce:=I au;have bj:=I aj;have ca:=I ap;have kg:=I jA;have ff:Hid (∀k,k<bs.length->U[bs[k]?.getD 0]?.getD 0=0->res=none):=I (λk hk ao=>by
  rw[hres];unfold qG;rw[bI hk,b7]at ao;rw[Se U bs[k] ao bs (b8 hk)];rfl)
 have oB:Hid (∀(W:ah) (b N n v m:Nat),n<=1000000000->v<4294967296->m<=32->dL W b 0 N n->Calls prog 99 #[.pointer (some ⟨b,0,none⟩),.int .u32 v,.int .i64 m] W λe w'=>e=.returned (.bool true)/\dL w' b 0 (N+v%2^m*2^n) (n+m)/\W.grownBy w' (some b)):=I (λW b N n v m h1 af aq aK=>D8 b 0 N n v m W h1 af aq aK);have zo:=I (λn c W h1 af=>amo n c W h1 af);clear hres bk au aj ap jA;go_enter func108,ntmps108
 go_wp2_with fail
 refine kg.out.mono ?_;rintro e aw ⟨gc,rfl,iu,ajO,aH⟩;have B4:=I iu;have fw:=I (c7 bj.out aH);have nQ:=I (c7 ca.out aH);have aN:=I aH;have pf:=I (dL.new aw 153 (by decide));have lG:=I ((Below.refl aw.heap.size aw).alloc bl (.cells #[.pointer none,.int .u64 0,.int .i64 0] 153));clear iu aH;go_wp2;go_loopw [20] (λbV wr=>∃(k:Nat) (acc:ae),k<=bs.length/\bV=.int .i64 k/\acc.length<=11*k/\Hid (am.encS U (bs.take k)=some acc)/\Hid (dL wr aw.heap.size 0 (hx acc) acc.length)/\Hid (av aw wr)) (λbV _=>bs.length-(intOf bV).toNat)
 case atStart=>exact⟨0,[],by omega,rfl,by simp,I (by rw[take_zero];rfl),pf,lG⟩
 case round=>
  obtain⟨k,acc,hk,rfl,hacc,henc,dT,hbel⟩:=hrel;by_cases a8:k<bs.length
  .obtain⟨hU,He,rfl,fh⟩:=m9 (c7 nQ.out hbel) (by intro e;rw[e]at a8;simp at a8);have c0:=fh k a8;have eU:=ff.out k a8;rw[bI a8,b7]at eU;have C4:=ce.out bs[k] (b8 a8);have iw:bs.take (k+1)=bs.take k++[bs[k]]:=fY a8;have mu:=Sf U bs[k] (bs.take k);rw[<-iw,henc.out,map_some]at mu;have EQ:=I mu;have Jd:=I eU;clear fh eU iw mu henc;generalize bs[k]=y at *;by_cases hy:y<U.length
   .obtain⟨h7,XS,rfl,hz⟩:=kL (c7 fw.out hbel.out) (by omega);have c1:=hz y hy;have fj:U[y]?.getD 0=U[y]:=by rw[bI hy,b7]
    have dQ:=kB.out.2.1 U[y] (b8 hy);have IL:Hid (∀W,av aw W->W.cell? ⟨h7,XS+y,none⟩=some (.int .i64 (U[y]:Int))):=I (λW ak=>by
     obtain⟨g2,off2,e,c8⟩:=kL (c7 fw.out ak) (by omega);injection e with e
     injection e with aG e2
     subst aG e2;exact c8 y hy)
    have abJ:Hid (∀W,av aw W->W.cell? ⟨gc,y,none⟩=some (.int .i64 (gW U y))):=I (λW ak=>by
     obtain⟨g2,off2,e,c8⟩:=kL (c7 B4.out ak) (by rw[FB];omega);injection e with e
     injection e with aG e2
     subst aG e2;have:=c8 y (by rw[FB];exact hy);rw[RL U y hy,ez]at this;exact this)
    have PW:=I (λh=>Fz U y hy kB.out h);have EK:=I (ll U y);have PV:=I (ago U y);have PU:=I (xV U y);rw[fj]at Jd EQ PW EK PV;clear hz fj;generalize ajb:cT U y=h5 at *;generalize gW U y=wk at *;generalize U[y]=x at *;clear ajb;by_cases ai:x=0
    .have eO:res=none:=Jd.out ai;subst ai;have oD:=I eO;have tW:=I (aN.out.trans (hbel.out.mono aN.out.size));clear eO;go_wp2;go_ret2;rw[oD.out];exact⟨rfl,tW⟩
    .have mY:0<x:=by omega
     have mu:=EQ.out;rw[aB mY]at mu;have acf:=I mu;have lR:=PW.out mY;have lr:=zo.out x wk;have Dp:=oB.out wr.drew aw.heap.size (hx acc) acc.length (hx h5) x (by omega) (by have:=Fo h5 PU.out;rw[EK.out]at this;exact Nat.lt_trans (gJ this (dy (n:=2) (j:=11) (by omega) dQ)) (by decide)) (by omega) dT.out.drew;have ev:=ahD acc h5 PU.out;rw[EK.out]at ev;rw[ev]at Dp;rw[<-PV.out]at lr;have Qu:=I Dp;have acl:=I (λW=>lr W dQ lR);have hz:=IL.out;have qM:=abJ.out;have Hlen:Hid ((acc++h5).length=acc.length+x):=I (by rw[aY,EK.out]);clear mu Dp ev lr dT;generalize hx h5=axI at *;have n2:decide (U.length<=y)=false:=aU;have r1:((x:Int)==0)=false:=cz
     go_wp2_with fail
     refine wp_region_held_drew (S:=(λW=>av aw W)) (by kernel_rfl) (by exact hbel.out.drew) (λhHeld=>?_);refine bJ 0 {dst:=some 36,op:=.move (.tmp 6),type:=112,pos:= "litcode.go:64",after:=#[],guard:=none} ?_ rfl (Or.inl ⟨by rfl,?_⟩) ?_;rotate_left
     ·(intro w hSw;(try dsimp only at hSw);go_simp;(try with_reducible rfl))
     try simp only[bf]
     refine bJ 1 {dst:=some 37,op:=.move (.tmp 10),type:=5,pos:= "litcode.go:64",after:=#[],guard:=none} ?_ rfl (Or.inl ⟨by rfl,?_⟩) ?_;rotate_left
     ·(intro w hSw;(try dsimp only at hSw);go_simp;(try with_reducible rfl))
     try simp only[bf]
     refine bJ 2 {dst:=some 38,op:=.indexAddr 112 (.tmp 36) (.tmp 37),type:=0,pos:= "litcode.go:64",after:=#[{on:=0,ground:=.data},{on:=1,ground:=.data}],guard:=none} ?_ rfl (Or.inl ⟨by rfl,?_⟩) ?_;rotate_left
     ·(intro w hSw;(try dsimp only at hSw);go_simp;(try with_reducible rfl))
     try simp only[bf]
     refine bJ 3 {dst:=some 39,op:=.load 3 (.tmp 38),type:=3,pos:= "litcode.go:64",after:=#[{on:=2,ground:=.data}],guard:=none} ?_ rfl (Or.inl ⟨by rfl,?_⟩) ?_;rotate_left
     ·(intro w hSw;(try dsimp only at hSw);go_simp;(try with_reducible rfl))
     try simp only[bf]
     refine bJ 4 {dst:=some 40,op:=.move (.tmp 0),type:=112,pos:= "litcode.go:64",after:=#[],guard:=none} ?_ rfl (Or.inl ⟨by rfl,?_⟩) ?_;rotate_left
     ·(intro w hSw;(try dsimp only at hSw);go_simp;(try with_reducible rfl))
     try simp only[bf]
     refine bJ 5 {dst:=some 41,op:=.move (.tmp 10),type:=5,pos:= "litcode.go:64",after:=#[],guard:=none} ?_ rfl (Or.inl ⟨by rfl,?_⟩) ?_;rotate_left
     ·(intro w hSw;(try dsimp only at hSw);go_simp;(try with_reducible rfl))
     try simp only[bf]
     refine bJ 6 {dst:=some 42,op:=.indexAddr 112 (.tmp 40) (.tmp 41),type:=0,pos:= "litcode.go:64",after:=#[{on:=4,ground:=.data},{on:=5,ground:=.data}],guard:=none} ?_ rfl (Or.inl ⟨by rfl,?_⟩) ?_;rotate_left
     ·(intro w hSw;(try dsimp only at hSw);go_simp;(try with_reducible rfl))
     try simp only[bf]
     refine bJ 7 {dst:=some 43,op:=.load 3 (.tmp 42),type:=3,pos:= "litcode.go:64",after:=#[{on:=6,ground:=.data}],guard:=none} ?_ rfl (Or.inl ⟨by rfl,?_⟩) ?_;rotate_left
     ·(intro w hSw;(try dsimp only at hSw);go_simp;(try with_reducible rfl))
     try simp only[bf]
     refine bJ 9 {dst:=some 45,op:=.move (.tmp 0),type:=112,pos:= "litcode.go:64",after:=#[],guard:=none} ?_ rfl (Or.inl ⟨by rfl,?_⟩) ?_;rotate_left
     ·(intro w hSw;(try dsimp only at hSw);go_simp;(try with_reducible rfl))
     try simp only[bf]
     refine bJ 10 {dst:=some 46,op:=.move (.tmp 10),type:=5,pos:= "litcode.go:64",after:=#[],guard:=none} ?_ rfl (Or.inl ⟨by rfl,?_⟩) ?_;rotate_left
     ·(intro w hSw;(try dsimp only at hSw);go_simp;(try with_reducible rfl))
     try simp only[bf]
     refine bJ 11 {dst:=some 47,op:=.indexAddr 112 (.tmp 45) (.tmp 46),type:=0,pos:= "litcode.go:64",after:=#[{on:=9,ground:=.data},{on:=10,ground:=.data}],guard:=none} ?_ rfl (Or.inl ⟨by rfl,?_⟩) ?_;rotate_left
     ·(intro w hSw;(try dsimp only at hSw);go_simp;(try with_reducible rfl))
     try simp only[bf]
     refine bJ 12 {dst:=some 48,op:=.load 3 (.tmp 47),type:=3,pos:= "litcode.go:64",after:=#[{on:=11,ground:=.data}],guard:=none} ?_ rfl (Or.inl ⟨by rfl,?_⟩) ?_;rotate_left
     ·(intro w hSw;(try dsimp only at hSw);go_simp;(try with_reducible rfl))
     try simp only[bf]
     refine hd 8 {dst:=some 44,op:=.call {callee:=.value (.func 143),args:=#[.tmp 39,.tmp 43],argTypes:=#[3,3]},type:=132,pos:= "litcode.go:64",after:=#[{on:=3,ground:=.data},{on:=7,ground:=.data}],guard:=none} rfl (λK hK=>?_);go_simp
     (go_at_call 143;refine(acl.out _).mono ?_;rintro e w' ⟨rfl,rfl⟩)
     go_simp;refine hK.out _ _ (by with_reducible assumption) (λhHeld=>?_);clear hK K
     try simp only[bf]
     refine hd 13 {dst:=some 49,op:=.call {callee:=.value (.func 99),args:=#[.tmp 8,.tmp 44,.tmp 48],argTypes:=#[153,132,3]},type:=4,pos:= "litcode.go:64",after:=#[{on:=8,ground:=.data},{on:=12,ground:=.data},{on:=8,ground:=.chain}],guard:=none} rfl (λK hK=>?_);go_simp
     (go_at_call 99;refine Qu.out.mono ?_;rintro e a6 ⟨rfl,wT,ct⟩;have zH:=I wT;have b6:Hid (av aw a6):=I (hbel.out.drew.grown ct hbel.out.size (λk e=>by injection e with e;omega));clear wT ct Qu)
     go_simp;refine hK.out _ _ (by exact b6) (λhHeld=>?_);clear hK K
     try simp only[bf]
     refine wpAnyH_done (by kernel_rfl) ?_ _;rw[<-Hlen.out]at zH;clear hz qM n2 r1;go_wp2;go_roundw
     case rel=>exact⟨k+1,acc++h5,by omega,by go_num,by rw[Hlen.out];omega,acf,zH,b6⟩
     case measure=>simp[intOf];omega
   .have n2:decide (U.length<=y)=true:=cf;have eO:res=none:=Jd.out (by rw[getElem?_eq_none (by omega)];rfl);have oD:=I eO;have tW:=I (aN.out.trans (hbel.out.mono aN.out.size));clear eO;go_wp2;go_ret2;rw[oD.out];exact⟨rfl,tW⟩
  .obtain rfl:k=bs.length:=by omega
   rw[take_length]at henc;have cO:res=some (oX acc):=by rw[b4.out,qG,henc.out,map_some]
   have oE:=I cO;have jl:=zT aw.heap.size 0 _ _ wr (by omega) dT.out;rw[ahB,<-NZ]at jl;have lH:=I jl;have hlt2:=XZ acc;have nP:Hid (∀W A c,Reads W A (aO (oX acc))->(convert 87 9 (.slice A (oX acc).length c)).run prog W=.ok (.string (strOf (oX acc))) W):=I (λW A c bt=>oL W A c _ hlt2 bt);clear cO jl dT henc hlt2;generalize oX acc=rf at *;go_wp2_with fail
   refine lH.out.mono ?_;rintro e bH ⟨g4,rfl,cx,jS,bc⟩;have hcv:=nP.out bH _ rf.length (og jS);have dt:=I (aN.out.trans ((hbel.out.trans (bc.mono hbel.out.size)).mono aN.out.size));clear jS bc hbel;go_wp2;go_ret2;rw[oE.out];exact⟨rfl,dt⟩
namespace am
theorem ats(U:ae):mb (U.map λn:Nat=>(n:Int))↔fq U:=by
 have e:(U.map λn:Nat=>(n:Int)).map Int.toNat=U:=by
  rw[List.map_map];conv=>rhs;rw[<-List.map_id U]
  apply map_congr_left
  intro x _;simp
 unfold mb;rw[e];refine⟨λh=>h.2,λh=>⟨⟨by rw[cQ];exact h.1,λx ai=>?_⟩,h⟩⟩;obtain⟨y,hy,rfl⟩:=List.mem_map.1 ai;have:=h.2.1 y hy;omega
def oZ(F:Nat->Nat)(n i:Nat):ae:=(List.range i).map F++List.replicate (n-i) 0
theorem ap3(F:Nat->Nat)(n:Nat):oZ F n 0=List.replicate n 0:=by simp[oZ]
theorem ap0(F:Nat->Nat)(n:Nat):oZ F n n=(List.range n).map F:=by simp[oZ]
theorem ap1(F:Nat->Nat)(n i:Nat)(h:i<=n):(oZ F n i).length=n:=by simp[oZ];omega
theorem ap2(F:Nat->Nat)(n i:Nat)(h:i<n):oZ F n (i+1)=(oZ F n i).set i (F i):=by
 unfold oZ;have h1:((List.range i).map F).length=i:=by simp
 rw[set_append_right _ _ (by omega),h1,Nat.sub_self,range_succ,map_append,df];congr 1
 obtain⟨m,hm⟩:∃m,n-i=m+1:=⟨n-i-1,by omega⟩;rw[hm,show n-(i+1)=m by omega,replicate_succ];simp
end am
theorem Xb(w:ah)(b x k:Nat)(bs f bO l:ae)(w4 vy:Left)(F P:Nat->Nat)(res:Option (ae×Nat))(ai:x=bd f)(n7:x<256)(hk:k=(x+2)/2)(cs:∀y∈bs,y<256)(eu:bs.length<=10000)
  (h1:eH 1 (some bs)=(f,w4))(af:eH k w4=(bO,vy))(cW:∀y∈bO,y<256)(pD:bO.length<=10000)(hl:l=(List.range (x+1)).map F)(hF:∀i,F i<16)(uK:P 0=0)(S0:P (x+1)<=8*bO.length)
  (cq:∀(W:ah)(dG i:Nat),i<x+1->er W dG 0 bO (P i)->Calls prog 177 #[.pointer (some ⟨dG,0,none⟩),.int .i64 4] W λe w'=>(∃ok,e=.returned (.tuple #[.int .u32 (F i),.bool ok]))/\er w' dG 0 bO (P (i+1))/\W.grownBy w' (some dG))
  (cg:∀t,vy=some t->oP bO (P (x+1))->fq l->l[x]?.getD 0≠0->∃q,res=some (l,q)/\bs.drop q=t)
  (kH:(vy=none\/¬oP bO (P (x+1))\/¬fq l\/l[x]?.getD 0=0)->res=none)
  (hc:bK w b (some bs)) :
  Calls prog 144 #[.pointer (some ⟨b,0,none⟩)] w λe w'=>Ff w' b bs e res/\w.grownBy w' (some b):=by
 obtain⟨i0,ay,bC,bL,bz⟩:=info_parts oa;have c0:=Row.cell hc 0;have c1:=Row.cell hc 1;simp only[qp,dH,dJ]at c0 c1;have gO:=I hc;obtain⟨w0,vg⟩:∃w0,w0=w.alloc (.cells #[.string (strOf bs),.bool false] 73):=⟨_,rfl⟩;have uS:bK w0 w.heap.size (some bs):=by rw[vg];exact Row.new w 73 _
 have dc:av w w0:=by rw[vg];exact dM.alloc bl _
 have dZ:=Ee w.heap.size (some bs) 1 w0 (by omega) (by omega) ⟨cs,by omega⟩ uS;rw[show fO 1=1 from by decide,h1]at dZ;dsimp only at dZ;rw[<-ai]at dZ;have jI:=I dZ;have fD:Hid (∀(W:ah) (z:Int),z=(k:Int)->bK W w.heap.size w4->Calls prog 42 #[.pointer (some ⟨w.heap.size,0,none⟩),.int .i64 z] W λe w'=>e=.returned (.string (strOf bO))/\bK w' w.heap.size vy/\W.grownBy w' (some w.heap.size)):=I (λW z aQ eX=>by
  have h:=sC w.heap.size w4 z W eX;rw[aQ,cX,af]at h;rw[aQ];exact h)
 have fd:=I dc;have nL:=I cq;have fw:=I cg;have E3:=I kH;have lF:=I hF;have gj:=I hl;have l7:=I cW;have aaN:=I uK;clear hc uS dc dZ ai cq cg kH hF hl h1 af cW uK cs;go_enter func144,ntmps144
 go_wp2_with fail
 rw[<-vg];clear vg c0 c1;refine jI.out.mono ?_;rintro e h2 ⟨rfl,TS,tq⟩;have abT:=I TS;have zi:Hid (av w h2):=I (fd.out.grown tq fd.out.size (λk e=>by injection e with e;omega));clear TS tq;go_wp2_with fail
 refine(fD.out _ _ (by omega) abT.out).mono ?_;rintro e hP ⟨rfl,LD,ls⟩;obtain⟨wc,cap,dS,hcells,ka⟩:=nW hP bO l7.out;have Vl:Reads wc (some ⟨hP.heap.size,0,none⟩) (aO bO):=λ_=>⟨_,_,rfl,λj ar=>by
  rw[i7]at ar;rw[ez,hcells j ar,jq bO j ar]⟩
 have kn:av w hP:=zi.out.grown ls zi.out.size (λk e=>by injection e with e;omega);have hbc2:=kn.trans (ka.mono kn.size);have abU:=I (LD.below ka);have Jf:=I (D0 (some ⟨hP.heap.size,0,none⟩) cap bO wc l7.out Vl);have xm:=I hbc2;have awk:w.heap.size<wc.heap.size:=gJ LD.lt ka.size;clear LD ls hcells ka Vl kn hbc2;go_wp2_with fail
 refine Jf.out.mono ?_;rintro e wd ⟨rfl,cO,mS⟩;have oE:=I cO;have abV:=I (abU.out.below mS);have By:=b3 xm mS;have awf:wc.heap.size<wd.heap.size:=cO.2.2.2;clear cO mS dS;go_wp2_with (at_make;refine wpList_make_full _ rfl _ _ 112 rfl w.heap.size 3 i0 (.int .i64 0) 1 underlying112 ay bC bL .i64 .i64 _ _ (x+1) rfl rfl ?c1 ?c1 ?c2 ?c3 ?c4 ?_)
 case c1=>omega
 case c2=>first|omega|(rw[bz];omega)
 case c3=>unfold maxLen;omega
 try case c4=>omega
 intro we U0 fj;have wz:=kZ fj;have wK:=tK U0;have xD:=I wK;have adN:=I (oE.out.keep fj (by simp));have abW:=I (abV.out.below wz);have abs:=b3 By wz;clear U0 fj wz wK ay bC bL bz;generalize wd.heap.size=h7 at *;generalize wc.heap.size=dG at *;go_wp2;go_loopw [29] (λbV wr=>∃i:Nat,i<=x+1/\bV=.int .i64 i/\Hid (er wr dG 0 bO (P i))/\Hid (Row wr h7 3 (aM (oZ F (x+1) i)))/\Hid (bK wr w.heap.size vy)/\Hid (av w wr)) (λbV _=>x+1-(intOf bV).toNat)
 case atStart=>exact⟨0,by omega,rfl,I (by rw[aaN.out];exact adN.out),I (by rw[ap3];exact xD),abW,abs⟩
 case round=>
  obtain⟨i,ajV,rfl,cO,hrow,eX,hbel⟩:=hrel;by_cases Gt:i<x+1
  .have iw:=nL.out wr dG i Gt cO.out;have au8:=lF.out i;have gH:=ap2 F (x+1) i Gt;have kb:=ap1 F (x+1) i (by omega);have hE:=I iw;have h4:Hid (∀W,Row W h7 3 (aM (oZ F (x+1) i))->Row (W.setCell ⟨h7,i,none⟩ (.int .i64 (F i))) h7 3 (aM (oZ F (x+1) (i+1)))):=I (λW h=>by
    have h1:=h.bq i (.int .i64 (F i));rw[gH,show aM ((oZ F (x+1) i).set i (F i))=(aM (oZ F (x+1) i)).set i (.int .i64 (F i)) by simp[aM,map_set]];exact h1)
   have BQ:=I kb;clear iw gH kb;generalize F i=v at *;go_wp2_with fail
   refine hE.out.mono ?_;rintro e aC ⟨⟨ok,rfl⟩,qX,bp⟩;have hrow2:Row aC h7 3 (aM (oZ F (x+1) i)):=hrow.out.keep (bp.block h7 hrow.out.lt (λe=>by injection e with e;omega));have hcell:∃u,aC.cell? ⟨h7,i,none⟩=some u:=⟨_,(hrow2.cell i).trans (bI (by rw[gm,BQ.out];omega))⟩;obtain⟨u0,jA⟩:=hcell;have Gn:aC.frozen? ⟨h7,i,none⟩=false:=hrow2.free i;have kU:=I (h4.out aC hrow2);have gb:bK aC w.heap.size vy:=eX.out.keep bp (λe=>by injection e with e;omega);have qY:er (aC.setCell ⟨h7,i,none⟩ (.int .i64 v)) dG 0 bO (P (i+1)):=qX.keep (row:=some h7) (ho (dg aC (some h7)) i _) (λe=>by injection e with e;omega);have B8:=I qY;have abR:Hid (bK (aC.setCell ⟨h7,i,none⟩ (.int .i64 v)) w.heap.size vy):=I (gb.keep (row:=some h7) (ho (dg aC (some h7)) i _) (λe=>by injection e with e;omega));have aJ:av w aC:=hbel.out.grown bp hbel.out.size (λk e=>by injection e with e;omega);have b6:=I (aJ.setCell (p:=⟨h7,i,none⟩) (by show w.heap.size<=h7;omega) (.int .i64 v));clear hrow hrow2 eX gb cO qX qY bp hbel aJ;go_wp2;go_roundw
   case rel=>exact⟨i+1,by omega,by go_num,B8,kU,abR,b6⟩
   case measure=>simp[intOf];omega
  .obtain rfl:i=x+1:=by omega
   rw[ap0,<-gj.out]at hrow;have iq:l.length=x+1:=by rw[gj.out];simp
   have sQ:=I (gu w.heap.size vy wr eX);cases vy with
  |none=>
    have b4:=I (E3.out (.inl rfl));go_wp2_with fail
    refine sQ.out.mono ?_;rintro e w' ⟨rfl,rfl⟩;go_wp2;go_ret2;rw[b4.out];exact⟨⟨_,_,rfl⟩,dj hbel.out _⟩
  |some t=>
    have dO:=I (W7 dG bO (P (x+1)) wr pD l7.out S0 cO);clear cO;by_cases fx:oP bO (P (x+1))
    .rw[bE fx]at dO;have oF:Hid (∀W,Row W h7 3 (aM l)->Calls prog 140 #[.slice (some ⟨h7,0,none⟩) (x+1) (x+1)] W λe w'=>e=.returned (.bool (decide (fq l)))/\W=w'):=I (λW h=>by
      have h1:=Pg (some ⟨h7,0,none⟩) (x+1) (l.map λn:Nat=>(n:Int)) W (by rw[cQ];omega) (by rw[jF];exact og h);rw[cQ,iq,decide_eq_decide.2 (ats l)]at h1;exact h1)
     by_cases bk:fq l
     .rw[bE bk]at oF;have fj:l[x]?.getD 0=l[x]:=by rw[bI (by omega),b7]
      have cg:=fw.out t rfl fx bk;have kH:=λh=>E3.out (.inr (.inr (.inr h)))
      rw[fj]at cg kH;have xC:=I cg;have B2:=I kH;have ov:Hid (∀W,Row W h7 3 (aM l)->W.cell? ⟨h7,x,none⟩=some (.int .i64 (l[x]:Int))):=I (λW h=>by rw[h.cell x,iN l x (by omega)]);clear fj cg kH;generalize l[x]=z at *;go_wp2_with fail
      refine sQ.out.mono ?_;rintro e w' ⟨rfl,rfl⟩;go_wp2_with fail
      refine dO.out.mono ?_;rintro e aC ⟨rfl,bp⟩;have aJ:=hbel.out.grown bp hbel.out.size (λk e=>by injection e with e;omega);have hrow2:Row aC h7 3 (aM l):=hrow.out.keep (bp.block h7 hrow.out.lt (λe=>by injection e with e;omega));have gb:bK aC w.heap.size (some t):=eX.out.keep bp (λe=>by injection e with e;omega);have bm:=I aJ;have hi:=I hrow2;have pd:=I gb;have uA:=ov.out aC hrow2;have d0:=Row.cell gb 0;have d1:=Row.cell gb 1;simp only[qp,dH,dJ]at d0 d1;have fh:bK aC b (some bs):=gO.out.below aJ;have e0:=Row.cell fh 0;have aG:=Row.cell fh 1;simp only[qp,dH,dJ]at e0 aG;have f0:=Row.free fh 0;have f1:=Row.free fh 1;have h4:Hid (bK ((aC.setCell ⟨b,0,none⟩ (.string (strOf t))).setCell ⟨b,1,none⟩ (.bool false)) b (some t)):=I (by
       have h:=(Row.bq fh 0 (.string (strOf t))).bq 1 (.bool false);exact h)
      have acA:Hid (w.grownBy ((aC.setCell ⟨b,0,none⟩ (.string (strOf t))).setCell ⟨b,1,none⟩ (.bool false)) (some b)):=I (ho (ho (dj aJ (some b)) 0 _) 1 _);have mq:b<w.heap.size:=gO.out.lt;have ep:Hid (Reads ((aC.setCell ⟨b,0,none⟩ (.string (strOf t))).setCell ⟨b,1,none⟩ (.bool false)) (some ⟨h7,0,none⟩) (aM l)):=I (og ((hrow2.cG (p:=⟨b,0,none⟩) (by show h7≠b;omega) _).cG (p:=⟨b,1,none⟩) (by show h7≠b;omega) _));have Fb:=I (oF.out aC hrow2);have akY:(x:Int)+1-1=x:=by omega
      clear bp aJ hrow2 gb fh hbel hrow eX;by_cases aQ:z=0
      .subst aQ;have b4:=I (B2.out rfl);clear d0 d1 e0 aG f0 f1;go_wp2_with fail
       refine Fb.out.mono ?_;rintro e w' ⟨rfl,rfl⟩;go_wp2;go_ret2;rw[b4.out];exact⟨⟨_,_,rfl⟩,dj bm.out _⟩
      .have aI:((z:Int)==0)=false:=cz
       obtain⟨q,hres,T0⟩:=xC.out aQ;have b4:=I hres;have ab8:=I T0;have I7:=I iq;clear hres T0 iq;go_wp2_with fail
       refine Fb.out.mono ?_;rintro e w' ⟨rfl,rfl⟩;go_wp2;go_ret2;rw[b4.out];exact⟨⟨some ⟨h7,0,none⟩,x+1,by rw[I7.out];rfl,ep.out,by rw[ab8.out];exact h4⟩,acA⟩
     .rw[bG bk]at oF;have b4:=I (E3.out (.inr (.inr (.inl bk))));go_wp2_with fail
      refine sQ.out.mono ?_;rintro e w' ⟨rfl,rfl⟩;go_wp2_with fail
      refine dO.out.mono ?_;rintro e aC ⟨rfl,bp⟩;have hrow2:Row aC h7 3 (aM l):=hrow.out.keep (bp.block h7 hrow.out.lt (λe=>by injection e with e;omega));have Fb:=I (oF.out aC hrow2);have bm:=I (hbel.out.grown bp hbel.out.size (λk e=>by injection e with e;omega));clear bp hrow2;go_wp2_with fail
      refine Fb.out.mono ?_;rintro e w' ⟨rfl,rfl⟩;go_wp2;go_ret2;rw[b4.out];exact⟨⟨_,_,rfl⟩,dj bm.out _⟩
    .rw[bG fx]at dO;have b4:=I (E3.out (.inr (.inl fx)));go_wp2_with fail
     refine sQ.out.mono ?_;rintro e w' ⟨rfl,rfl⟩;go_wp2_with fail
     refine dO.out.mono ?_;rintro e aC ⟨rfl,bp⟩;have bm:=I (hbel.out.grown bp hbel.out.size (λk e=>by injection e with e;omega));clear bp;go_wp2;go_ret2;rw[b4.out];exact⟨⟨_,_,rfl⟩,dj bm.out _⟩
namespace am
theorem Pk(s:ae)(h:∀x∈s,x<256)(j:Nat):bd s/256^j%256=s[j]?.getD 0:=by
 rcases eF j s.length with ar|ar
 .have e:=J9 s h;have h1:(bytesOf (bd s) s.length)[j]?=s[j]?:=by rw[e]
  rw[agc _ _ _ ar]at h1;rw[<-h1,b7]
 .have aD:=o4 s h;have:=dy (n:=256) (by omega) ar;rw[div_eq_of_lt (by omega),getElem?_eq_none ar];rfl
theorem Xw(s:ae)(h:∀x∈s,x<256)(i:Nat):bd s/2^(4*i)%2^4=if i%2=1 then s[i/2]?.getD 0/16%16 else s[i/2]?.getD 0%16:=by
 have e:=Pk s h (i/2);rw[h0]at e;split
 .next b9=>
  rw[<-e,show 4*i=8*(i/2)+4 by omega,dI,<-jX];omega
 .next b9=>
  rw[<-e,show 4*i=8*(i/2) by omega];omega
theorem Y1:∀l:ae,0<(cA l).length->(cA l)[(cA l).length-1]?.getD 0≠0
|[],h=>by simp[cA]at h
|n::l,h=>by
  unfold cA at h ⊢;split
  .next ao=>rw[aB ao]at h;simp at h
  .next ao=>
   rcases eq_zero_or_pos (cA l).length with h1|h1
   .have af:=lf h1;rw[af];have aq:l.sum=0:=by
     have:=short_zero l af;have aQ:∀l:ae,(∀x∈l,x=0)->l.sum=0:=λl=>by
      induction l with
     |nil=>simp
     |cons a l ih=>
       intro h;rw[sum_cons,h a dU,ih (λx ai=>h x (eo _ ai))]
     exact aQ l this
    simp only[bY,length_nil,dH,ez,Nat.sub_self,b7];omega
   .have ih:=Y1 l h1;obtain⟨q,hq⟩:∃q,(cA l).length=q+1:=⟨(cA l).length-1,by omega⟩;rw[hq,Nat.add_sub_cancel]at ih;rw[bY,hq,Nat.add_sub_cancel,dJ];exact ih
theorem aq3(l:ae)(h:(cA l).length=l.length):cA l=l:=by
 obtain⟨m,hm⟩:=w3 l;have e:=congrArg List.length hm;rw[aY,iZ]at e;have h8:m=0:=by omega
 subst h8;rw[replicate_zero,append_nil]at hm;exact hm.symm
theorem Y0(l:ae)(h:l[l.length-1]?.getD 0≠0):cA l=l:=by
 have ao:0<l.length:=by
  rcases eq_zero_or_pos l.length with h1|h1
  .rw[lf h1]at h;simp at h
  .exact h1
 have:=OC l l.length bl (λj ar=>by rw[getElem?_eq_none ar];rfl) (.inr h);rwa [take_length]at this
section
variable (y:Nat) (rest bO:ae) (hy:y<256) (ak:∀x∈y::rest,x<256) (hk:(y+2)/2<=rest.length) (cW:bO=rest.take ((y+2)/2))
include cW in
theorem Oh(j:Nat)(ar:j<(y+2)/2):bO[j]?.getD 0=(y::rest)[1+j]?.getD 0:=by
 rw[cW,getElem?_take_of_lt ar,Nat.add_comm,dJ]
include hk cW in
theorem Oi:bO.length=(y+2)/2:=by rw[cW,cr];omega
include ak cW in
theorem Hu:∀x∈bO,x<256:=λx ai=>ak x (eo _ (mem_of_mem_take (by rw[<-cW];exact ai)))
include ak cW in
theorem ana(i:Nat)(ay:i<y+1):bd bO/2^(4*i)%2^4=oc (y::rest) i:=by
 rw[Xw bO (Hu y rest bO ak cW),oc,Oh y rest bO cW (i/2) (by omega)]
include ak cW in
theorem anc:(List.range (y+1)).map (λi=>bd bO/2^(4*i)%2^4)=fB (y::rest) (y+1):=by
 unfold fB;apply map_congr_left
 intro i ay;exact ana y rest bO ak cW i (List.mem_range.1 ay)
theorem Xx(i:Nat)(ay:i<y+1):(fB (y::rest) (y+1))[i]?.getD 0=oc (y::rest) i:=by
 unfold fB;rw[getElem?_map,getElem?_range ay];rfl
include ak hk cW in
theorem ahF:oP bO (4*(y+1))↔(y%2=0->bO[y/2]?.getD 0/16=0):=by
 have hl:=Oi y rest bO hk cW;have au:=Hu y rest bO ak cW;have hm:bO[y/2]?.getD 0<256:=by
  rcases h:bO[y/2]? with _|v
  .simp
  .exact au v (mem_of_getElem? h)
 rw[W2 bO au _ (by omega),hl];by_cases he:y%2=0
 .have e:=Xw bO au (y+1);rw[aB (by omega),show(y+1)/2=y/2 by omega]at e;rw[show 8*((y+2)/2)-4*(y+1)=4 by omega,e];constructor
  .intro h _;omega
  .intro h;have:=h he;omega
 .rw[show 8*((y+2)/2)-4*(y+1)=0 by omega];constructor
  .intro _ h;omega
  .intro _;exact⟨by omega,by rw[Nat.pow_zero,mod_one]⟩
include ak hk cW in
theorem ZL:gM (fB (y::rest) (y+1))=(y::rest).take (1+(y+2)/2)↔oP bO (4*(y+1)):=by
 rw[ahF y rest bO ak hk cW];have hl:=Oi y rest bO hk cW;have au:=Hu y rest bO ak cW;have aA:=yS (y::rest) (y+1);have aE:(y::rest).take (1+(y+2)/2)=y::bO:=by rw[Nat.add_comm,take_succ_cons,cW]
 have hlt2:∀j:Nat,bO[j]?.getD 0<256:=λj=>by
  rcases h:bO[j]? with _|v
  .simp
  .exact au v (mem_of_getElem? h)
 have U2:∀j:Nat,j<(y+2)/2->(lA (fB (y::rest) (y+1)) j=bO[j]?.getD 0↔(2*j=y->bO[j]?.getD 0/16=0)):=λj ar=>by
  have aG:=Xx y rest (2*j) (by omega);have b2:oc (y::rest) (2*j)=bO[j]?.getD 0%16:=by
   rw[oc,az (by omega),Oh y rest bO cW j ar,show 2*j/2=j by omega]
  have:=hlt2 j;unfold lA;rw[aG,b2];by_cases af:2*j=y
  .have e0:(fB (y::rest) (y+1))[2*j+1]?.getD 0=0:=by rw[getElem?_eq_none (by rw[aA];omega),getD_none]
   rw[e0];constructor
   .intro h _;omega
   .intro h;have:=h af;omega
  .have e2:=Xx y rest (2*j+1) (by omega);have bU:oc (y::rest) (2*j+1)=bO[j]?.getD 0/16%16:=by
    rw[oc,aB (by omega),Oh y rest bO cW j ar,show(2*j+1)/2=j by omega]
   rw[e2,bU];constructor
   .intro _ h;exact absurd h af
   .intro _;omega
 rw[aE];unfold gM;rw[aA,Nat.add_sub_cancel,show(y+1+1)/2=(y+2)/2 by omega];constructor
 .intro h he;injection h with _ h
  have ar:y/2<(y+2)/2:=by omega
  have h1:((List.range ((y+2)/2)).map (lA (fB (y::rest) (y+1))))[y/2]?=bO[y/2]?:=by rw[h]
  rw[getElem?_map,getElem?_range ar,map_some]at h1;exact(U2 (y/2) ar).1 (by rw[<-h1,b7]) (by omega)
 .intro h;congr 1
  apply ext_getElem
  .rw[cQ,length_range,hl]
  .intro j h1 af;rw[cQ,length_range]at h1;rw[getElem_map,getElem_range,(U2 j h1).2 (λe=>by rw[show j=y/2 by omega];exact h (by omega)),bI af,b7]
include ak hk cW in
theorem apz(fx:oP bO (4*(y+1)))(bk:fq (fB (y::rest) (y+1)))(aA:(fB (y::rest) (y+1))[y]?.getD 0≠0):iP (y::rest)=some (fB (y::rest) (y+1),1+(y+2)/2):=by
 have hl:=yS (y::rest) (y+1);have ap:=Y0 (fB (y::rest) (y+1)) (by rw[hl,Nat.add_sub_cancel];exact aA);unfold iP;rw[dH,b7,az (by simp),az (by rw[bY];omega),ap,aB ⟨bk,(ZL y rest bO ak hk cW).2 fx⟩]
include ak hk cW in
theorem apy(h:¬oP bO (4*(y+1))\/¬fq (fB (y::rest) (y+1))\/(fB (y::rest) (y+1))[y]?.getD 0=0):iP (y::rest)=none:=by
 have hl:=yS (y::rest) (y+1);unfold iP;rw[dH,b7,az (by simp),az (by rw[bY];omega)];split
 .next hc=>
  exfalso
  obtain⟨bk,aE⟩:=hc;have ao:=(HX _ bk).2;have hh:(cA (fB (y::rest) (y+1))).length-1=y:=by
   have:=congrArg (λl=>l[0]?.getD 0) aE;rw[Nat.add_comm 1,take_succ_cons]at this;simpa [gM]using this
  have ap:=aq3 (fB (y::rest) (y+1)) (by rw[hl];omega);rw[ap]at aE;have fx:=(ZL y rest bO ak hk cW).1 aE;have hlast:=Y1 _ ao;rw[ap,hl,Nat.add_sub_cancel]at hlast;rcases h with h|h|h
  .exact h fx
  .exact h bk
  .exact hlast h
 .rfl
end
end am
theorem Xa(w:ah)(b x:Nat)(bs f:ae)(w4:Left)(ai:x=bd f)(n7:x<256)(cs:∀y∈bs,y<256)(eu:bs.length<=10000)
  (h1:eH 1 (some bs)=(f,w4))(af:eH ((x+2)/2) w4=([],none))(hres:iP bs=none)(hc:bK w b (some bs)) :
  Calls prog 144 #[.pointer (some ⟨b,0,none⟩)] w λe w'=>Ff w' b bs e (iP bs)/\w.grownBy w' (some b):=by
 refine Xb w b x ((x+2)/2) bs f [] ((List.range (x+1)).map λ_=>0) w4 none (λ_=>0) (λ_=>0) _ ai n7 rfl cs eu h1 af (λ_ h=>by cases h) (by simp) rfl (λ_=>by omega) rfl (by simp) ?_ ?_ (λ_=>hres) hc
 .intro W dG i _ cO;refine(Eu dG 0 [] 0 4 W (by simp) (by simp) (by omega) (by simp) cO).mono ?_;rintro e w' ⟨rfl,k,rfl⟩;exact⟨⟨false,rfl⟩,cO.drewN k,qa (dg _ _) k⟩
 .intro t aE;cases aE
theorem amB:aey:=by
 intro w b bs hl ak hc;rcases bs with _|⟨y,rest⟩
 .exact Xa w b 0 [] [] none rfl (by omega) ak hl rfl rfl rfl hc
 .have hy:y<256:=ak y dU;have h1:eH 1 (some (y::rest))=([y],some rest):=by simp[eH]
  have aD:y=bd [y]:=by simp[bd]
  by_cases hk:(y+2)/2<=rest.length
  .have af:eH ((y+2)/2) (some rest)=(rest.take ((y+2)/2),some (rest.drop ((y+2)/2))):=by exact aB hk
   obtain⟨bO,cW⟩:∃bO,bO=rest.take ((y+2)/2):=⟨_,rfl⟩;have pD:=Oi y rest bO hk cW;have lv:=Hu y rest bO ak cW;have lT:=anc y rest bO ak cW;have hyes:=apz y rest bO ak hk cW;have eU:=apy y rest bO ak hk cW;rw[<-cW]at af;refine Xb w b y ((y+2)/2) (y::rest) [y] bO (fB (y::rest) (y+1)) (some rest) (some (rest.drop ((y+2)/2))) (λi=>bd bO/2^(4*i)%2^4) (λi=>4*i) _ aD hy rfl ak hl h1 af lv (by omega) lT.symm (λi=>mod_lt _ (by decide)) rfl (by omega) ?_ ?_ ?_ hc
   .intro W dG i ay cO;refine(tO dG 0 bO (4*i) 4 W (by omega) lv (by omega) (by omega) cO).mono ?_;rintro e w' ⟨rfl,aq,aK⟩;exact⟨⟨true,rfl⟩,by rw[show 4*(i+1)=4*i+4 by omega];exact aq,aK⟩
   .intro t aE fx bk aA;injection aE with aE
    exact⟨_,hyes fx bk aA,by rw[Nat.add_comm,drop_succ_cons];exact aE⟩
   .rintro(h|h)
    .cases h
    .exact eU h
  .have af:eH ((y+2)/2) (some rest)=([],none):=by exact az hk
   refine Xa w b y (y::rest) [y] (some rest) aD hy ak hl h1 af ?_ hc;unfold iP;rw[dH,b7,az (by simp),aB (by rw[bY];omega)]
def hG{α:Type}(f h:α->Value):List α->b1
|[]=>[]
|x::l=>f x::h x::hG f h l
section
variable {α:Type} {f h:α->Value}
theorem wi(l:List α):(hG f h l).length=l.length*2:=by
 induction l with
|nil=>rfl
|cons x l ih=>rw[hG,bY,bY,ih,bY];omega
theorem Kc(l m:List α):hG f h (l++m)=hG f h l++hG f h m:=by
 induction l with
|nil=>rfl
|cons x l ih=>rw[cons_append,hG,ih,hG];rfl
theorem Ry(l:List α)(i:Nat)(ay:i<l.length):(hG f h l)[i*2]?=some (f l[i])/\(hG f h l)[i*2+1]?=some (h l[i]):=by
 induction l generalizing i with
|nil=>simp at ay
|cons x l ih=>
  cases i with
 |zero=>exact⟨rfl,rfl⟩
 |succ i=>
   have h1:=ih i (by simpa using ay);rw[hG,show(i+1)*2=i*2+1+1 by omega];exact h1
theorem RA(l:List α)(i:Nat)(x:α)(ay:i<l.length):((hG f h l).set (i*2) (f x)).set (i*2+1) (h x)=hG f h (l.set i x):=by
 induction l generalizing i with
|nil=>simp at ay
|cons y l ih=>
  cases i with
 |zero=>rfl
 |succ i=>
   have h1:=ih i (by simpa using ay);rw[hG,show(i+1)*2=i*2+1+1 by omega,set_cons_succ,set_cons_succ,set_cons_succ,set_cons_succ,h1];rfl
theorem agp(l:List α)(k:Nat):hG f h (l.take k)=(hG f h l).take (k*2):=by
 induction l generalizing k with
|nil=>simp[hG]
|cons x l ih=>
  cases k with
 |zero=>simp[hG]
 |succ k=>
   rw[take_succ_cons,hG,ih,hG,show(k+1)*2=k*2+1+1 by omega,take_succ_cons,take_succ_cons]
end
def swp{α:Type}(d:α)(l:List α)(i j:Nat):List α:=(l.set i (l[j]?.getD d)).set j (l[i]?.getD d)
theorem HL{α:Type}(d:α)(l:List α)(i j:Nat):(swp d l i j).length=l.length:=by simp[swp]
section
variable {α:Type} {f h:α->Value} {w w':ah} {g:Nat} {t:TypeId} {post:b1}
theorem vt{l:List α}(aj:Row w g t (hG f h l++post))(i:Nat)(ay:i<l.length):w.cell? ⟨g,i*2,none⟩=some (f l[i])/\w.cell? ⟨g,i*2+1,none⟩=some (h l[i]):=by
 obtain⟨h1,af⟩:=Ry (f:=f) (h:=h) l i ay;have hl:=wi (f:=f) (h:=h) l;rw[aj.cell,aj.cell,hO (by omega),hO (by omega)];exact⟨h1,af⟩
theorem YA{l:List α}(aj:Row w g t (hG f h l++post))(i:Nat)(ay:i<l.length)(x:α):Row ((w.setCell ⟨g,i*2,none⟩ (f x)).setCell ⟨g,i*2+1,none⟩ (h x)) g t (hG f h (l.set i x)++post):=by
 have hl:=wi (f:=f) (h:=h) l;have h1:=(aj.bq (i*2) (f x)).bq (i*2+1) (h x);rw[set_append_left _ _ (by omega),set_append_left _ _ (by rw[length_set];omega),RA l i x ay]at h1;exact h1
theorem YB{l:List α}{d:α}(aj:Row w g t (hG f h l++post))(i j:Nat)(ay:i<l.length)(ar:j<l.length) :
  Row ((((w.setCell ⟨g,i*2,none⟩ (f l[j])).setCell ⟨g,i*2+1,none⟩ (h l[j])).setCell ⟨g,j*2,none⟩ (f l[i])).setCell ⟨g,j*2+1,none⟩ (h l[i])) g t (hG f h (swp d l i j)++post):=by
 have h1:=YA (YA aj i ay l[j]) j (by simpa using ar) l[i];unfold swp;rw[bI ay,bI ar];exact h1
theorem CK(w:ah)(g a b c d:Nat)(u v x y:Value):w.grownBy ((((w.setCell ⟨g,a,none⟩ u).setCell ⟨g,b,none⟩ v).setCell ⟨g,c,none⟩ x).setCell ⟨g,d,none⟩ y) (some g):=
 ho (ho (ho (ho (dg w (some g)) _ _) _ _) _ _) _ _
end
abbrev hR:=Nat×Nat
def nC(t:hR):Value:=.int .i64 (t.1:Int)
def nB(t:hR):Value:=.int .i64 (t.2:Int)
def bU(l:List hR):b1:=hG nC nB l
namespace am
def gD(a b:Nat×Nat):Prop:=a.1<b.1\/(a.1=b.1/\a.2<b.2)
instance (a b:Nat×Nat):Decidable (gD a b):=by unfold gD;exact inferInstance
end am
theorem HU(A:a7)(n c:Nat)(w:ah):Calls prog 168 #[.slice A n c] w λe w'=>e=.returned (.int .i64 n)/\w=w':=by
 go_enter func168,ntmps168
 go_wp2;go_ret;exact⟨rfl,rfl⟩
theorem as0(g n c i j:Nat)(x y:hR)(w:ah)(ay:i<n)(ar:j<n)(ao:w.cell? ⟨g,i*2,none⟩=some (nC x)/\w.cell? ⟨g,i*2+1,none⟩=some (nB x))(h1:w.cell? ⟨g,j*2,none⟩=some (nC y)/\w.cell? ⟨g,j*2+1,none⟩=some (nB y)) :
  Calls prog 255 #[.slice (some ⟨g,0,none⟩) n c,.int .i64 i,.int .i64 j] w λe w'=>e=.returned (.bool (decide (gD x y)))/\av w w':=by
 obtain⟨a,p⟩:=x;obtain⟨b,q⟩:=y;obtain⟨c0,c1⟩:=ao;obtain⟨bD,bh⟩:=h1;simp only[nC,nB]at c0 c1 bD bh;obtain⟨r,aj⟩:∃r,r=decide (gD (a,p) (b,q)):=⟨_,rfl⟩;rw[<-aj];have bj:=I aj;clear aj;by_cases mR:a=b
 .subst mR;have jP:((a:Int)==(a:Int))=true:=by simp
  have br:Hid (decide (p<q)=r):=I (by rw[bj.out,decide_eq_decide];unfold gD;simp);go_enter func255,ntmps255
  go_wp2_with fail
  go_quiet (fail)
  go_wp2_with fail
  go_quiet (fail)
  go_wp2;go_ret;exact⟨congrArg (λx=>Ending.returned (Value.bool x)) br,below_drewN (below_drewN dM _) _⟩
 .have jP:((a:Int)==(b:Int))=false:=by simp;omega
  have br:Hid (decide (a<b)=r):=I (by rw[bj.out,decide_eq_decide];unfold gD;simp;omega);go_enter func255,ntmps255
  go_wp2_with fail
  go_quiet (fail)
  go_wp2_with fail
  go_quiet (fail)
  go_wp2;go_ret;exact⟨congrArg (λx=>Ending.returned (Value.bool x)) br,below_drewN (below_drewN dM _) _⟩
theorem as3(g c i j:Nat)(L:List hR)(post:b1)(w:ah)(ay:i<L.length)(ar:j<L.length)(aj:Row w g 223 (bU L++post)) :
  Calls prog 258 #[.slice (some ⟨g,0,none⟩) L.length c,.int .i64 i,.int .i64 j] w λe w'=>e=.returned (.tuple #[])/\Row w' g 223 (bU (swp (0,0) L i j)++post)/\w.grownBy w' (some g):=by
 obtain⟨c0,c1⟩:=vt (f:=nC) (h:=nB) aj i ay;obtain⟨bD,bh⟩:=vt (f:=nC) (h:=nB) aj j ar;have f0:=aj.free (i*2);have f1:=aj.free (i*2+1);have f2:=aj.free (j*2);have f3:=aj.free (j*2+1);have ap:=YB (f:=nC) (h:=nB) (d:=(0,0)) aj i j ay ar;have ca:=I ap;clear ap aj;generalize swp (0,0) L i j=iF at *;simp only[nC,nB]at c0 c1 bD bh ca;generalize L[i].1=a at *;generalize L[i].2=p at *;generalize L[j].1=b at *;generalize L[j].2=q at *;obtain⟨v1,tB⟩:=cell?_setCell_some (w:=w) (p:=⟨g,i*2,none⟩) (x:=.int .i64 b) (q:=⟨g,j*2,none⟩) bD;obtain⟨v2,n9⟩:=cell?_setCell_some (w:=w) (p:=⟨g,i*2,none⟩) (x:=.int .i64 b) (q:=⟨g,j*2+1,none⟩) bh;obtain⟨v3,Wo⟩:=cell?_setCell_some (w:=w.setCell ⟨g,i*2,none⟩ (.int .i64 b)) (p:=⟨g,i*2+1,none⟩) (x:=.int .i64 q) (q:=⟨g,j*2+1,none⟩) n9;clear n9;go_enter func258,ntmps258
 go_wp2_with fail
 go_region
 all_goals (try go_wp2)
 all_goals go_end0
 all_goals exact⟨rfl,ca,ns (CK _ _ _ _ _ _ _ _ _ _)⟩
theorem N2(name:String)(i f:Nat)(p n c:Nat)(A:a7)(w:ah)(h:w.cell? ⟨p,0,none⟩=some (.slice A n c))
  (h1:∀w,(typeInfo 220).run prog w=.ok prog.types[220]! w)
  (af:(prog.types[220]!).methods.find? (λm=>m.name==name)=some ((prog.types[220]!).methods[i]!))
  (ax:((prog.types[220]!).methods[i]!).path=#[])(aL:((prog.types[220]!).methods[i]!).func=some (f,false))
  (ap:∀s w,(Builtin.ssaWrapNilChk_ #[220] 220 #[.pointer (some ⟨p,0,none⟩),strVal "",strVal s]).run prog w=.ok (.pointer (some ⟨p,0,none⟩)) w) :
  (method 418 220 (.pointer (some ⟨p,0,none⟩)) name).run prog w=.ok (f,.slice A n c) w:=by
 rw[method];simp only[Sem.run_bind,h1,Result.andThen_ok,af,ax,aL,follow,receiverAt,underlying,Sem.run_pure,Place.get];simp[loadVar,isAgg,underlying,underlying258,underlying220,h,Result.andThen,ap,asAddr]
theorem N3:∀w,(typeInfo 220).run prog w=.ok prog.types[220]! w:=λ_=>by kernel_rfl
theorem Yd(p n c:Nat)(A:a7)(w:ah)(h:w.cell? ⟨p,0,none⟩=some (.slice A n c)):(method 418 220 (.pointer (some ⟨p,0,none⟩)) "Len").run prog w=.ok (168,.slice A n c) w:=
 N2 "Len" 0 168 p n c A w h N3 (by kernel_rfl) (by kernel_rfl) (by kernel_rfl) (λ_ _=>by kernel_rfl)
theorem D5(p n c:Nat)(A:a7)(w:ah)(h:w.cell? ⟨p,0,none⟩=some (.slice A n c)):(method 418 220 (.pointer (some ⟨p,0,none⟩)) "Less").run prog w=.ok (255,.slice A n c) w:=
 N2 "Less" 1 255 p n c A w h N3 (by kernel_rfl) (by kernel_rfl) (by kernel_rfl) (λ_ _=>by kernel_rfl)
theorem D6(p n c:Nat)(A:a7)(w:ah)(h:w.cell? ⟨p,0,none⟩=some (.slice A n c)):(method 418 220 (.pointer (some ⟨p,0,none⟩)) "Swap").run prog w=.ok (258,.slice A n c) w:=
 N2 "Swap" 4 258 p n c A w h N3 (by kernel_rfl) (by kernel_rfl) (by kernel_rfl) (λ_ _=>by kernel_rfl)
theorem aog(p:Nat)(w:ah):(method 418 220 (.pointer (some ⟨p,0,none⟩)) "Push").run prog w=.ok (257,.pointer (some ⟨p,0,none⟩)) w:=by kernel_rfl
theorem aof(p:Nat)(w:ah):(method 418 220 (.pointer (some ⟨p,0,none⟩)) "Pop").run prog w=.ok (256,.pointer (some ⟨p,0,none⟩)) w:=by kernel_rfl
structure fE(w:ah)(base p g cap:Nat)(L:List hR):Prop where
 yR:base<=p
 yQ:base<=g
 fits:L.length<=cap
 most:cap<=maxLen
 var:Row w p 258 [.slice (some ⟨g,0,none⟩) L.length cap]
 row:∃post,post.length+L.length*2=cap*2/\Row w g 223 (bU L++post)
structure ki(base:Nat)(w w':ah):Prop where
 dn:Below base w w'
 rows:∀(b:Nat) (t:TypeId) (ag:b1),t≠258->t≠223->Row w b t ag->Row w' b t ag
section
variable {w w' o5:ah} {base p g cap:Nat} {L:List hR}
theorem ki.trans(h:ki base w w')(j7:ki base w' o5):ki base w o5:=⟨h.dn.trans j7.dn,λb t ag h1 af aq=>j7.rows b t ag h1 af (h.rows b t ag h1 af aq)⟩
theorem ki.below(h:av w w')(ak:base<=w.heap.size):ki base w w':=⟨h.mono ak,λ_ _ _ _ _ aj=>iA aj h⟩
theorem ki.grown{t:TypeId}{ag:b1}{b:Nat}(h:w.grownBy w' (some b))(aj:Row w b t ag)(aE:t=258\/t=223)(ak:base<=b):ki base w w':=
 ⟨below_grown h ak (dl ak (Nat.le_of_lt aj.lt)),λkk Es RY h1 af mV=>mV.keep (h.block kk mV.lt (λe=>by
  injection e with e
  subst e;unfold Row at aj mV;rw[aj]at mV;injection mV with mV
  injection mV with _ e
  rcases aE with rfl|rfl
  .exact h1 e.symm
  .exact af e.symm))⟩
structure ga(base p g:Nat)(w w':ah):Prop where
 dn:Below base w w'
 Fq:∀b,b<w.heap.size->b≠p->b≠g->w'.heap[b]?=w.heap[b]?
theorem ga.refl(base p g:Nat)(w:ah):ga base p g w w:=⟨Below.refl _ _,λ_ _ _ _=>rfl⟩
theorem ga.trans(h:ga base p g w w')(j7:ga base p g w' o5):ga base p g w o5:=
 ⟨h.dn.trans j7.dn,λb h1 af aq=>(j7.Fq b (gJ h1 h.dn.size) af aq).trans (h.Fq b h1 af aq)⟩
theorem ga.below(h:av w w')(ak:base<=w.heap.size):ga base p g w w':=⟨h.mono ak,λb ak _ _=>h.block b ak⟩
theorem ga.grown{b:Nat}(h:w.grownBy w' (some b))(au:b<w.heap.size)(aE:b=p\/b=g)(ak:base<=b):ga base p g w w':=
 ⟨below_grown h ak (dl ak (Nat.le_of_lt au)),λkk h1 af aq=>h.block kk h1 (λe=>by
  injection e with e
  rcases aE with h|h
  .exact af (e.trans h)
  .exact aq (e.trans h))⟩
theorem ga.kept(h:ga base p g w w')(ax:fE w base p g cap L):ki base w w':=by
 refine⟨h.dn,λb t ag h1 af aj=>aj.keep (h.Fq b aj.lt ?_ ?_)⟩
 .rintro rfl;have aD:=ax.var;unfold Row at aD aj;rw[aj]at aD;injection aD with aD
  injection aD with _ e
  exact h1 e
 .rintro rfl;obtain⟨_,_,aD⟩:=ax.row;unfold Row at aD aj;rw[aj]at aD;injection aD with aD
  injection aD with _ e
  exact af e
theorem fE.ne(h:fE w base p g cap L):p≠g:=by
 obtain⟨post,_,aj⟩:=h.row;rintro rfl;have aD:=h.var;unfold Row at aj aD;rw[aj]at aD;injection aD with aD
 injection aD with _ e
 exact absurd e (by decide)
theorem fE.below(h:fE w base p g cap L)(ak:av w w'):fE w' base p g cap L:=by
 obtain⟨post,h1,aj⟩:=h.row;exact⟨h.yR,h.yQ,h.fits,h.most,iA h.var ak,post,h1,iA aj ak⟩
theorem fE.same{L':List hR}(h:fE w base p g cap L)(hl:L'.length=L.length)(aF:w.grownBy w' (some g)){post:b1}(ax:post.length+L.length*2=cap*2)(aj:Row w' g 223 (bU L'++post)):fE w' base p g cap L':=
 ⟨h.yR,h.yQ,by rw[hl];exact h.fits,h.most,by rw[hl];exact h.var.keep (aF.block p h.var.lt (λe=>by injection e with e;exact h.ne e)),post,by rw[hl];exact ax,aj⟩
theorem fE.cell(h:fE w base p g cap L):w.cell? ⟨p,0,none⟩=some (.slice (some ⟨g,0,none⟩) L.length cap):=h.var.cell 0
theorem fE.own(h:fE w base p g cap L):w.ownsRow base 223 2 (.slice (some ⟨g,0,none⟩) L.length cap) L.length (bU L):=by
 obtain⟨post,h1,aj⟩:=h.row;have hl:=wi (f:=nC) (h:=nB) L;refine⟨hl,.inr ⟨g,cap,(bU L++post).toArray,rfl,h.yQ,aj,h.fits,h.most,?_,?_⟩⟩
 .rw[List.size_toArray,aY];unfold bU;omega
 .rw[List.toList_toArray,take_left' (by exact hl)]
theorem aod(ax:Row w p 258 [.slice (some ⟨g,0,none⟩) L.length cap])(ak:base<=p)(h:w.ownsRow base 223 2 (.slice (some ⟨g,0,none⟩) L.length cap) L.length (bU L)):fE w base p g cap L:=by
 have hl:=wi (f:=nC) (h:=nB) L;rcases h.2 with⟨h1,_⟩|⟨eT,cap',eW,e,aJ,aF,qf,gX,hcs,aE⟩
 .cases h1
 .injection e with aG _ e3
  injection aG with aG
  injection aG with aG
  subst aG e3;refine⟨ak,aJ,qf,gX,ax,eW.toList.drop (L.length*2),?_,?_⟩
  .have hz:eW.toList.length=eW.size:=Array.length_toList;rw[cB];omega
  .unfold Row;rw[<-aE,gq,Array.toArray_toList];exact aF
end
def FX(t:Int×Int):Value:=.int .i64 t.1
def FY(t:Int×Int):Value:=.int .i64 t.2
def rQ(F:List (Int×Int)):b1:=hG FX FY F
structure jH(w:ah)(base g cap:Nat)(F:List (Int×Int)):Prop where
 low:base<=g
 fits:F.length<=cap
 most:cap<=maxLen
 row:∃post,post.length+F.length*2=cap*2/\Row w g 271 (rQ F++post)
theorem KO(F:List (Int×Int)):(rQ F).length=F.length*2:=wi F
section
variable {w w':ah} {base g cap:Nat} {F:List (Int×Int)}
theorem jH.lt(h:jH w base g cap F):g<w.heap.size:=by
 obtain⟨post,_,aj⟩:=h.row;exact aj.lt
theorem jH.keep{row:Option Nat}(h:jH w base g cap F)(aF:w.grownBy w' row)(aZ:row≠some g):jH w' base g cap F:=by
 obtain⟨post,h1,aj⟩:=h.row;exact⟨h.low,h.fits,h.most,post,h1,aj.keep (aF.block g aj.lt (λe=>aZ e.symm))⟩
theorem jH.below(h:jH w base g cap F)(ak:av w w'):jH w' base g cap F:=h.keep (row:=none) (dj ak none) (by simp)
theorem jH.cell(h:jH w base g cap F){a b:Nat}(aV:a<F.length)(ak:b<2):w.cell? ⟨g,a*2+b,none⟩=some (.int .i64 (hI F a b)):=by
 obtain⟨post,_,aj⟩:=h.row;obtain⟨h1,af⟩:=vt (f:=FX) (h:=FY) aj a aV;unfold hI;rw[bI aV,b7];rcases eF b 1 with e|e
 .obtain rfl:b=0:=by omega
  exact h1
 .obtain rfl:b=1:=by omega
  exact af
theorem jH.free(h:jH w base g cap F)(i:Nat):w.frozen? ⟨g,i,none⟩=false:=by
 obtain⟨post,_,aj⟩:=h.row;exact aj.free i
theorem Rz{α:Type}{f h:α->Value}(l:List α)(i:Nat)(x:α)(ay:i<l.length) :
  (h x=h l[i]->(hG f h l).set (i*2) (f x)=hG f h (l.set i x))/\(f x=f l[i]->(hG f h l).set (i*2+1) (h x)=hG f h (l.set i x)):=by
 have e:=RA (f:=f) (h:=h) l i x ay;obtain⟨g1,g2⟩:=Ry (f:=f) (h:=h) l i ay;have hl:=wi (f:=f) (h:=h) l;constructor
 .intro ai;rw[<-e];apply ext_getElem?
  intro j;rw[getElem?_set];by_cases ar:i*2+1=j
  .subst ar;rw[getElem?_set_self (by rw[length_set];omega),az (by omega),g2,ai]
  .rw[getElem?_set_ne ar,getElem?_set]
 .intro ai;rw[<-e];congr 1
  apply ext_getElem?
  intro j;by_cases ar:i*2=j
  .subst ar;rw[getElem?_set_self (by omega),g1,ai]
  .rw[getElem?_set_ne ar]
theorem ah4(F:List (Int×Int))(a b:Nat)(z:Int)(aV:a<F.length)(ak:b<2):(rQ F).set (a*2+b) (.int .i64 z)=rQ (pK F a b z):=by
 unfold pK;rw[bI aV,b7];rcases eF b 1 with e|e
 .obtain rfl:b=0:=by omega
  exact(Rz (f:=FX) (h:=FY) F a (z,F[a].2) aV).1 rfl
 .obtain rfl:b=1:=by omega
  exact(Rz (f:=FX) (h:=FY) F a (F[a].1,z) aV).2 rfl
theorem jH.set(h:jH w base g cap F){a b:Nat}(z:Int)(aV:a<F.length)(ak:b<2):jH (w.setCell ⟨g,a*2+b,none⟩ (.int .i64 z)) base g cap (pK F a b z):=by
 obtain⟨post,h1,aj⟩:=h.row;have ap:=aj.bq (a*2+b) (.int .i64 z);rw[set_append_left _ _ (by rw[KO];omega),ah4 F a b z aV ak]at ap;exact⟨h.low,by rw[tM];exact h.fits,h.most,post,by rw[tM];exact h1,ap⟩
theorem jH.own(h:jH w base g cap F):w.ownsRow base 271 2 (.slice (some ⟨g,0,none⟩) F.length cap) F.length (rQ F):=by
 obtain⟨post,h1,aj⟩:=h.row;have hl:=KO F;refine⟨hl,.inr ⟨g,cap,(rQ F++post).toArray,rfl,h.low,aj,h.fits,h.most,?_,?_⟩⟩
 .rw[List.size_toArray,aY];omega
 .rw[List.toList_toArray,take_left' hl]
theorem SD{n:Nat}(aA:n=F.length)(h:w.ownsRow base 271 2 (.slice (some ⟨g,0,none⟩) n cap) n (rQ F)):jH w base g cap F:=by
 subst aA;have hl:=KO F;rcases h.2 with⟨h1,_⟩|⟨eT,cap',eW,e,aJ,aF,qf,gX,hcs,aE⟩
 .cases h1
 .injection e with aG _ e3
  injection aG with aG
  injection aG with aG
  subst aG e3;refine⟨aJ,qf,gX,eW.toList.drop (F.length*2),?_,?_⟩
  .have hz:eW.toList.length=eW.size:=Array.length_toList;rw[cB];omega
  .unfold Row;rw[<-aE,gq,Array.toArray_toList];exact aF
theorem ah3(F:List (Int×Int)):rQ F++[.int .i64 0,.int .i64 0]=rQ (F++[(0,0)]):=by
 unfold rQ;rw[Kc];rfl
end
theorem alf:(prog.info? 271).map (λi=>(i.zero,i.size,i.bytes))=some (some (.agg #[.int .i64 0,.int .i64 0]),2,16):=by kernel_rfl
theorem ah5:(madeCells #[Value.int .i64 0,.int .i64 0] 2).toList=rQ [(0,0)]:=by kernel_rfl
theorem ae0(W b:Nat)(bk:W<4294967296)(ak:b<32):bits .and .i64 (W:Int) (((2^b:Nat):Int)-1)=((W%2^b:Nat):Int):=by
 have ax:2^b<2^32:=Nat.pow_lt_pow_right (by omega) ak;have hpos:=eK b;have h1:∀a:Nat,a<4294967296->(BitVec.ofInt 64 (a:Int)).toNat=a:=λa aV=>by
  rw[BitVec.ofInt_natCast,BitVec.toNat_ofNat];exact mod_eq_of_lt (by omega)
 rw[show((2^b:Nat):Int)-1=((2^b-1:Nat):Int) by omega];show IntKind.i64.wrap ((BitVec.ofInt 64 (W:Int) &&& BitVec.ofInt 64 ((2^b-1:Nat):Int)).toNat:Int)=_;rw[BitVec.toNat_and,h1 W bk,h1 _ (by omega),and_two_pow_sub_one_eq_mod,IntKind.wrap_i64];have af:=mod_lt W hpos;omega
theorem and_one(x:Nat)(ai:x<4294967296):bits .and .i64 (x:Int) 1=((x%2:Nat):Int):=by
 have h:=ae0 x 1 ai (by omega);exact h
theorem amt(A B:a7)(c d:Nat)(U:ae)(w:ah)(bk:fq U)(aj:Reads w A (aM U))(ap:Reads w B (aM (lm U))) :
  Calls prog 179 #[.slice A U.length c,.slice B U.length d] w λe w'=>∃g cap P F,e=.returned (.slice (some ⟨g,0,none⟩) (F:List (Int×Int)).length cap)/\jH w' w.heap.size g cap F/\am.je U U.length P F/\av w w':=by
 obtain⟨i0,ay,bC,bL,bz⟩:=info_parts alf;have bj:=I aj;have ca:=I ap;have kB:=I bk;have u6:=bk.1;clear aj ap bk;go_enter func179,ntmps179
 go_wp2_with (at_make;refine wpList_make_full _ rfl _ _ 235 rfl w.heap.size 271 i0 (.agg #[.int .i64 0,.int .i64 0]) 2 underlying235 ay bC bL .i64 .i64 _ _ 1 rfl rfl ?c1 ?c1 ?c2 ?c3 ?c4 ?_)
 case c1=>omega
 case c2=>first|omega|(rw[bz];omega)
 case c3=>unfold maxLen;omega
 try case c4=>omega
 intro aw hown1 a1;have aH:=kZ a1;have Ua:jH aw w.heap.size w.heap.size 1 [(0,0)]:=SD (n:=1) rfl (by rw[<-ah5];exact hown1);have acq:=I Ua;have aN:=I aH;have ad7:=I (am.je.start U);clear hown1 a1 aH Ua;go_wp2;go_loopw [5,15] (λKR bV wr=>∃(q g cap:Nat) (P:List (ae)) (F:List (Int×Int)),q<=U.length/\bV=.int .i64 q/\KR=.slice (some ⟨g,0,none⟩) F.length cap/\F.length<=1+11*q/\Hid (jH wr w.heap.size g cap F)/\Hid (am.je U q P F)/\Hid (av w wr)) (λ_ bV _=>U.length-(intOf bV).toNat)
 case atStart=>exact⟨0,w.heap.size,1,[[]],[(0,0)],by omega,rfl,rfl,by simp,acq,ad7,aN⟩
 case round=>
  obtain⟨q,g,cap,P,F,hq,rfl,rfl,aiC,gY,nA,hbel⟩:=hrel;by_cases hL:q<U.length
  .obtain⟨h7,XS,rfl,hc⟩:=kL (c7 bj.out hbel.out) (by omega);have c0:=hc q hL;have fj:U[q]?.getD 0=U[q]:=by rw[bI hL,b7]
   have dQ:=kB.out.2.1 U[q] (b8 hL);have Ca:=I (λh=>nA.out.skip h);have ov:=I (ll U q);have EJ:=I (λh=>Fz U q hL kB.out h);have EL:=I (λj h=>Fw U q j h);rw[fj]at Ca ov EJ EL;clear hc fj;by_cases ai:U[q]=0
   .rw[ai]at c0;have JE:=I (Ca.out ai);clear nA;go_wp2;go_roundw
    case rel=>exact⟨q+1,g,cap,P,F,by omega,by go_num,rfl,by omega,gY,JE,hbel⟩
    case measure=>simp[intOf];omega
   .have mY:0<U[q]:=by omega
    obtain⟨gc,axi,rfl,qM⟩:=kL (c7 ca.out hbel.out) (by rw[FB];omega);have c1:=qM q (by rw[FB];exact hL);rw[RL U q hL]at c1;have rZ:=EJ.out mY;clear qM;generalize gW U q=wk at *;obtain⟨n,aA⟩:∃n,U[q]=n+1:=⟨U[q]-1,by omega⟩;rw[aA]at c0 rZ dQ ov EL;have jP:((n:Int)+1==0)=false:=cz
    clear ai mY aA;have avF:wk<2048:=gJ rZ (dy (n:=2) (j:=11) (by omega) dQ);go_wp2;go_loopw [5,9,10] (λKR iV bV wr=>∃(j a g cap:Nat) (P:List (ae)) (F:List (Int×Int)),j<=n/\bV=.int .i64 ((n-j:Nat):Int)/\iV=.int .i64 a/\KR=.slice (some ⟨g,0,none⟩) F.length cap/\F.length<=1+11*q+j/\Hid (jH wr w.heap.size g cap F)/\Hid (am.je U q P F)/\Hid (av w wr)/\Hid (P[a]?=some ((cT U q).take j))/\Hid (∀i,i<=j->(cT U q).take i∈P)) (λ_ _ bV _=>(intOf bV).toNat)
    case atStart=>
     refine⟨0,0,g,cap,P,F,by omega,rfl,rfl,rfl,by omega,gY,nA,hbel,I (by rw[take_zero];exact nA.out.root),I (λi ay=>?_)⟩;obtain rfl:i=0:=by omega
     rw[take_zero];exact mem_of_getElem? nA.out.root
    case round=>
     clear gY nA hbel c0 c1;obtain⟨j,a,g,cap,P,F,ar,rfl,rfl,rfl,aiC,gY,nA,hbel,et,hall⟩:=hrel;rename ah=>eQ
     have dw:a<F.length:=by rw[nA.out.len];exact xQ et.out
     by_cases As:j<n
     .have ym:j<(cT U q).length:=by rw[ov.out];omega
      have lp:=EL.out j ym;rw[Nat.add_sub_cancel]at lp;have aJ:=xV U q _ (b8 ym);have hpos:=nA.out.pos kB.out hL ym et.out;have gH:=HP (cT U q) j ym;have ajW:j+1<(cT U q).length:=by rw[ov.out];omega
      have kS:=I (λ(h:hI F a (cT U q)[j]=0)=>nA.out.grow ajW et.out h);have PQ:=I (λ(h:0<hI F a (cT U q)[j])=>nA.out.on et.out aJ h);have hbit:bits .and .i64 ((wk:Int)/2^(n-j)) 1=(((cT U q)[j]:Nat):Int):=by
       have h:=and_one (wk/2^(n-j)) (Nat.lt_of_le_of_lt (div_le_self _ _) (by omega));rw[lp,<-h];simp
      rw[<-gH]at PQ;clear lp gH;generalize (cT U q)[j]=iH at *;have uA:=gY.out.cell dw aJ;have qI:=gY.out.free (a*2+iH);have IE:=I (λ(z:Int)=>KG F a iH z dw);have h4:=I (λz=>gY.out.set z dw aJ);have hlen:=nA.out.len;by_cases aQ:hI F a iH=0
      .rw[aQ]at uA;have JE:=I (kS.out aQ);have Ub:=(h4.out (P.length:Int)).below (dM.alloc bl (.cells #[.int .i64 0,.int .i64 0] 271));have hown2:=Ub.own;rw[tM]at hown2;have oz:=I hown2;have bm:=I ((hbel.out.setCell (p:=⟨g,a*2+iH,none⟩) gY.out.low (.int .i64 (P.length:Int))).alloc (by simpa using hbel.out.size) (.cells #[.int .i64 0,.int .i64 0] 271));have au9:F.length<=1+11*256+11:=by omega
       rw[<-hlen]at oz bm;have Hlen:=I hlen;have eO:=Row.new (eQ.setCell ⟨g,a*2+iH,none⟩ (.int .i64 (F.length:Int))) 271 [.int .i64 0,.int .i64 0];rw[show(eQ.setCell ⟨g,a*2+iH,none⟩ (.int .i64 (F.length:Int))).heap.size=eQ.heap.size by simp]at eO;have j3:=I (apK (og eO));clear eO hlen Ub hown2 hpos gY nA hbel;go_wp2_with (at_builtin;refine wpList_append_lies _ rfl _ _ 235 rfl w.heap.size 271 i0 (.agg #[.int .i64 0,.int .i64 0]) 2 16 underlying235 ay bC bL bz rfl (by decide) _ _ _ rfl oz.out ⟨eQ.heap.size,0,none⟩ 1 1 [.int .i64 0,.int .i64 0] rfl rfl ?d1 ?d2 (by decide) ?d3 ?d4 ?d5 _ rfl ?_)
       case d1=>exact j3.out
       case d2=>intro u hu;simp at hu;subst hu;rfl
       case d3=>unfold maxLen;omega
       case d4=>omega
       case d5=>have:=bm.out.size;simpa using this
       intro g7 Rv dk de di Gi UJ;rw[ah3]at de;have r6:(pK F a iH (F.length:Int)++[(0,0)]).length=F.length+1:=by rw[aY,tM];rfl
       have Ap:=SD r6.symm de;have Kb:=Ap.cell (a:=a) (b:=iH) (by omega) aJ;rw[Sl _ _ _ _ (by rw[tM];exact dw),IE.out]at Kb;have I0:=I Ap;have ic:Hid (av w dk):=I (bm.out.grown di bm.out.size (λk e=>by have:=(oz.out.lt k e).1;exact this));have Qc:=I r6;clear r6 de di Gi Ap ay bC bL bz uA qI;go_wp2;go_roundw
       case rel=>
        refine⟨j+1,F.length,g7,Rv,P++[(cT U q).take (j+1)],_,by omega,by go_num,rfl,by rw[Qc.out],by rw[Qc.out];omega,I0,?_,ic,I ?_,I (λi ay=>?_)⟩
        .rw[Hlen.out];exact JE
        .rw[Hlen.out,iY bl,Nat.sub_self];rfl
        .by_cases e:i=j+1
         .subst e;simp
         .exact mem_append_left _ (hall.out i (by omega))
       case measure=>simp[intOf];omega
      .have Wu:0<hI F a iH:=by omega
       have n2:(hI F a iH==0)=false:=by rw[beq_eq_false_iff_ne];exact aQ
       have Gh:=PQ.out Wu;obtain⟨z,kc⟩:∃z:Nat,hI F a iH=(z:Int):=⟨(hI F a iH).toNat,by omega⟩;rw[kc]at uA n2 Gh;rw[cX]at Gh;have PR:=I Gh;clear hpos hlen kc aQ Wu qI Gh;go_wp2;go_roundw
       case rel=>
        refine⟨j+1,z,g,cap,P,F,by omega,by go_num,rfl,rfl,by omega,gY,nA,hbel,PR,I (λi ay=>?_)⟩;by_cases e:i=j+1
        .subst e;exact G4 PR.out
        .exact hall.out i (by omega)
       case measure=>simp[intOf];omega
     .obtain rfl:j=n:=by omega
      rw[Nat.sub_self];have ym:j<(cT U q).length:=by rw[ov.out];omega
      have lp:=EL.out j ym;rw[Nat.add_sub_cancel,Nat.sub_self,Nat.pow_zero,Nat.div_one]at lp;have aJ:=xV U q _ (b8 ym);have Qf:=I (nA.out.leaf ov.out.symm et.out hall);have hbit:bits .and .i64 (wk:Int) 1=(((cT U q)[j]:Nat):Int):=by
       rw[lp];exact and_one wk (by omega)
      clear lp;generalize (cT U q)[j]=iH at *;have uA:=gY.out.cell dw aJ;have qI:=gY.out.free (a*2+iH);have h4:=I (gY.out.set (-1-(q:Int)) dw aJ);have b6:=I (hbel.out.setCell (p:=⟨g,a*2+iH,none⟩) gY.out.low (.int .i64 (-1-(q:Int))));have fQ:=tM F a iH (-1-(q:Int));have E5:=I fQ;clear gY nA hbel et hall fQ;go_wp2;go_roundw
      case rel=>exact⟨q+1,g,cap,P,_,by omega,by go_num,by rw[E5.out],by rw[E5.out];omega,h4,Qf,b6⟩
      case measure=>simp[intOf];omega
  .obtain rfl:q=U.length:=by omega
   go_wp2;go_ret;exact⟨g,cap,P,F,rfl,gY,nA,hbel⟩
theorem Ui{w aw aC:ah}{row:Option Nat}(h:w.grownBy aw row)(af:aw.grownBy aC row):w.grownBy aC row:=
 ⟨af.os.trans h.os,af.tape.trans h.tape,af.output.trans h.output,dl h.size af.size,λi ay aZ=>(af.block i (gJ ay h.size) aZ).trans (h.block i ay aZ)⟩
namespace am
theorem Kv(U:ae):∀(i:Nat) (l:ae),iJ U (i+1) l=(iJ U i l).bind λt=>(m7 U t.2).map λk=>(t.1++[k],t.2.drop (U[k]?.getD 0))
|0,l=>by
  rw[iJ,iJ,Option.bind_some];cases h:m7 U l with
 |none=>rfl
 |some k=>rw[Option.bind_some,iJ,map_some];rfl
|i+1,l=>by
  rw[iJ];conv=>rhs;rw[iJ]
  cases h:m7 U l with
 |none=>rfl
 |some k=>
   rw[Option.bind_some,Option.bind_some,Kv U i];cases af:iJ U i (l.drop (U[k]?.getD 0))with
  |none=>rfl
  |some t=>
    rw[Option.bind_some,map_some,Option.bind_some];cases aq:m7 U t.2 with
   |none=>simp
   |some bN=>simp
theorem R2(U l:ae)(i:Nat)(h:iJ U i l=none):∀m,iJ U (i+m) l=none
|0=>h
|m+1=>by rw[<-iO,Kv,R2 U l i h m];rfl
theorem drop_cons(l:ae)(p:Nat)(h:p<l.length):l.drop p=l[p]::l.drop (p+1):=drop_eq_getElem_cons h
end am
def j4(s:ae):ae:=am.bitsOf (bd s) (8*s.length)
theorem afx(s:ae):(j4 s).length=8*s.length:=gV _ _
theorem afw(s:ae)(p:Nat)(h:p<(j4 s).length):(j4 s)[p]=bd s/2^p%2:=lM _ _ _ h
def aez(U s:ae)(dG pos:Nat)(e:Ending)(w':ah):Option Nat->Prop
|none=>e=.returned (.tuple #[.int .u8 0,.bool false])
|some k=>e=.returned (.tuple #[.int .u8 k,.bool true])/\k<U.length/\pos+U[k]?.getD 0<=8*s.length/\er w' dG 0 s (pos+U[k]?.getD 0)
theorem ams(base g cap dG pos:Nat)(U s:ae)(P:List (ae))(F:List (Int×Int))(w:ah)(bk:fq U)(cq:am.je U U.length P F)(gY:jH w base g cap F)(hl:s.length<=10000)(ap:∀x∈s,x<256)(ax:pos<=8*s.length)(cO:er w dG 0 s pos)(aZ:g≠dG) :
  Calls prog 180 #[.slice (some ⟨g,0,none⟩) F.length cap,.pointer (some ⟨dG,0,none⟩)] w λe w'=>aez U s dG pos e w' (m7 U ((j4 s).drop pos))/\w.grownBy w' (some dG):=by
 have CQ:=afx s;have u6:=bk.1;obtain⟨res,hres⟩:∃r,r=m7 U ((j4 s).drop pos):=⟨_,rfl⟩;rw[<-hres];have b4:=I hres;have kB:=I bk;have nL:=I cq;have acp:=I gY;have ca:=I ap;have oE:=I cO;have Br:=I CQ;clear hres bk cq gY ap cO CQ;go_enter func180,ntmps180
 go_wp2;go_loopw [6] (λiV wr=>∃(m a:Nat),pos+m<=8*s.length/\iV=.int .i64 a/\Hid (P[a]?=some (((j4 s).drop pos).take m))/\Hid (er wr dG 0 s (pos+m))/\Hid (w.grownBy wr (some dG))) (λ_ wr=>8*s.length-(intOf ((wr.cell? ⟨dG,0+1,none⟩).getD undef)).toNat)
 case atStart=>exact⟨0,0,by omega,rfl,I (by rw[take_zero];exact nL.out.root),oE,I (dg _ _)⟩
 case round=>
  obtain⟨m,a,hm,rfl,et,cO,cP⟩:=hrel;have UO:wr.cell? ⟨dG,0+1,none⟩=some (.int .i64 ((pos+m:Nat):Int)):=cO.out.2.1;have acW:=I UO;clear UO;by_cases au:pos+m<8*s.length
  .have iw:=tO dG 0 s (pos+m) 1 wr (by omega) ca.out (by omega) (by omega) cO.out;have fj:=afw s (pos+m) (by rw[Br.out];exact au);have uT:(j4 s).drop (pos+m)=(j4 s)[pos+m]'(by rw[Br.out];exact au)::(j4 s).drop (pos+m+1):=am.drop_cons _ _ _;rw[fj]at uT;have oU:(j4 s).drop pos=((j4 s).drop pos).take m++(j4 s).drop (pos+m):=by
    rw[<-drop_drop];exact(gq m _).symm
   have gH:((j4 s).drop pos).take (m+1)=((j4 s).drop pos).take m++[bd s/2^(pos+m)%2]:=by
    rw[fY (by rw[cB,Br.out];omega),getElem_drop,fj]
   have aJ:bd s/2^(pos+m)%2<2:=mod_lt _ (by decide);rw[Nat.pow_one]at iw;rw[uT]at oU;have hE:=I iw;have Ce:=I oU;have pX:=I gH;clear iw oU gH uT fj;generalize bd s/2^(pos+m)%2=iH at *;go_wp2_with fail
   refine hE.out.mono ?_;rintro e aC ⟨rfl,qX,bp⟩;have dw:a<F.length:=by rw[nL.out.len];exact xQ et.out
   have uA:=(acp.out.keep (Ui cP.out bp) (λe=>aZ (by injection e with e;exact e.symm))).cell dw aJ;have xF:=I qX;have du:=I (Ui cP.out bp);have L8:(((j4 s).drop pos).take m).length=m:=by rw[cr,cB,Br.out];omega
   have acZ:=I L8;clear qX bp cO cP L8;rcases Int.lt_trichotomy (hI F a iH) 0 with aQ|aQ|aQ
   .obtain⟨k,hk,Wt,px,r8⟩:=nL.out.apB kB.out et.out aJ aQ ((j4 s).drop (pos+m+1));rw[<-Ce.out,<-b4.out]at r8;rw[acZ.out]at px;rw[Wt]at uA;have BT:=I r8;have BP:=I px;clear aQ Wt r8 px;go_wp2;go_ret2;rw[BT.out];refine⟨⟨?_,hk,by rw[BP.out];omega,by rw[BP.out];exact xF⟩,du⟩;exact congrArg (λz:Int=>Ending.returned (Value.tuple #[.int .u8 z,.bool true])) (show -1-(-1-(k:Int))=(k:Int) by omega)
   .rw[aQ]at uA;have r8:=nL.out.apE kB.out et.out aJ aQ ((j4 s).drop (pos+m+1));rw[<-Ce.out,<-b4.out]at r8;have BT:=I r8;clear aQ r8;go_wp2;go_ret2;rw[BT.out];exact⟨rfl,du⟩
   .obtain⟨z,kc⟩:∃z:Nat,hI F a iH=(z:Int):=⟨(hI F a iH).toNat,by omega⟩;have Me:=nL.out.on et.out aJ aQ;rw[kc,cX,<-pX.out]at Me;rw[kc]at uA aQ;have bC:((z:Int)==0)=false:=cz
    have adc:=I Me;clear Me kc;go_wp2;go_roundw
    case rel=>exact⟨m+1,z,by omega,rfl,adc,xF,du⟩
    case measure=>rw[acW.out,show aC.cell? ⟨dG,0+1,none⟩=some (.int .i64 ((pos+m+1:Nat):Int))from xF.out.2.1];simp[intOf];omega
  .have iw:=Eu dG 0 s (pos+m) 1 wr (by omega) (by omega) (by omega) (by omega) cO.out;have r8:=nL.out.apA kB.out (G4 et);rw[take_of_length_le (by rw[cB,Br.out];omega),<-b4.out]at r8;have hE:=I iw;have BT:=I r8;clear iw r8 cO;go_wp2_with fail
   refine hE.out.mono ?_;rintro e aC ⟨rfl,k,rfl⟩;go_wp2;go_ret2;rw[BT.out];exact⟨rfl,qa cP.out k⟩
theorem al7(A:a7)(c:Nat)(U s:ae)(N:Nat)(w:ah)(bk:fq U)(cU:N<=1048576)(hl:s.length<=1000)(ap:∀x∈s,x<256)(aj:Reads w A (aM U))
  (jA:Calls prog 142 #[.slice A U.length c] w λe w'=>∃g,e=.returned (.tuple #[.slice (some ⟨g,0,none⟩) U.length U.length,.bool true])/\Reads w' (some ⟨g,0,none⟩) (aM (lm U))/\w.heap.size<=g/\av w w') :
  Calls prog 145 #[.slice A U.length c,.string (strOf s),.int .i64 N] w λe w'=>ED w' e (nX U s N)/\av w w':=by
 obtain⟨i0,ay,bC,bL,bz⟩:=info_parts ob;obtain⟨res,hres⟩:∃r,r=nX U s N:=⟨_,rfl⟩;rw[<-hres];have b4:Hid (res=(iJ U N (j4 s)).bind s9):=I hres;have kB:=I bk;have kg:=I jA;have bj:=I aj;have ca:=I ap;clear hres bk aj jA ap;go_enter func145,ntmps145
 go_wp2_with fail
 refine kg.out.mono ?_;rintro e aw ⟨gc,rfl,iu,ajO,aH⟩;have ad6:=I (amt A (some ⟨gc,0,none⟩) c U.length U aw kB.out (c7 bj.out aH) iu);have aN:=I aH;clear iu aH;go_wp2_with fail
 refine ad6.out.mono ?_;rintro e aC ⟨g,cap,P,F,rfl,gY,cq,aJ⟩;obtain⟨a6,Ru,dS,hcells,bA⟩:=nW aC s ca.out;have pC:Reads a6 (some ⟨aC.heap.size,0,none⟩) (aO s):=λ_=>⟨_,_,rfl,λj ar=>by
  rw[i7]at ar;rw[ez,hcells j ar,jq s j ar]⟩
 have jC:g<aC.heap.size:=gY.lt;have Lx:=aN.out.trans (aJ.mono aN.out.size);have TC:=Lx.trans (bA.mono Lx.size);have acr:=I (gY.below bA);have Jf:=I (D0 (some ⟨aC.heap.size,0,none⟩) Ru s a6 ca.out pC);have b6:=I TC;have nL:=I cq;have avW:g<a6.heap.size:=gJ jC bA.size;clear gY cq aJ hcells bA pC Lx TC jC;go_wp2_with fail
 refine Jf.out.mono ?_;rintro e bH ⟨rfl,cO,bc⟩;have adL:=I cO;have acs:=I (acr.out.below bc);have dt:=b3 b6 bc;have awc:a6.heap.size<bH.heap.size:=cO.2.2.2;clear cO bc dS;go_wp2_with (at_make;refine wpList_make_full _ rfl _ _ 87 rfl w.heap.size 5 i0 (.int .u8 0) 1 underlying87 ay bC bL .i64 .i64 _ _ N rfl rfl ?c1 ?c1 ?c2 ?c3 ?c4 ?_)
 case c1=>omega
 case c2=>first|omega|(rw[bz];omega)
 case c3=>unfold maxLen;omega
 try case c4=>exact dt.out.size
 intro dp hown5 fi;have cL:=kZ fi;have qB:=I (Ef hown5);have adM:=I (adL.out.keep fi (by simp));have act:=I (acs.out.below cL);have dX:=b3 dt cL;have hlow:w.heap.size<=a6.heap.size:=b6.out.size;clear hown5 fi cL ay bC bL bz;generalize bH.heap.size=hU at *;generalize a6.heap.size=dG at *;go_wp2;go_loopw [39] (λbV wr=>∃(i pos:Nat) (d:ae),i<=N/\bV=.int .i64 i/\d.length=i/\pos<=8*s.length/\Hid (iJ U i (j4 s)=some (d,(j4 s).drop pos))/\Hid (er wr dG 0 s pos)/\Hid (Row wr hU 5 (aO (d++List.replicate (N-i) 0)))/\Hid (jH wr aw.heap.size g cap F)/\Hid (av w wr)) (λbV _=>N-(intOf bV).toNat)
 case atStart=>exact⟨0,0,[],by omega,rfl,rfl,by omega,I (by rw[drop_zero];rfl),adM,I (by rw[nil_append,Nat.sub_zero];exact qB),act,dX⟩
 case round=>
  obtain⟨i,pos,d,avX,rfl,ko,hpos,hdec,cO,hrow,gY,hbel⟩:=hrel;by_cases eZ:i<N
  .have iv:=ams aw.heap.size g cap dG pos U s P F wr kB.out nL.out gY.out (by omega) ca.out hpos cO.out (by omega);have DA:=Kv U i (j4 s);rw[hdec.out,Option.bind_some]at DA;dsimp only at DA;have eU:iJ U (i+1) (j4 s)=none->res=none:=λh=>by
    have:=R2 U (j4 s) (i+1) h (N-(i+1));rw[show i+1+(N-(i+1))=N by omega]at this;rw[b4.out,this];rfl
   have hset:∀W (k:Nat),Row W hU 5 (aO (d++List.replicate (N-i) 0))->Row (W.setCell ⟨hU,i,none⟩ (.int .u8 k)) hU 5 (aO ((d++[k])++List.replicate (N-(i+1)) 0)):=λW k h=>by
    have h1:=h.bq i (.int .u8 k);obtain⟨m,hm⟩:∃m,N-i=m+1:=⟨N-i-1,by omega⟩;rw[Bg,hm,replicate_succ,set_append_right _ _ (by omega),ko,Nat.sub_self,set_cons_zero]at h1;rw[show N-(i+1)=m by omega,df];exact h1
   have hz:∀W,Row W hU 5 (aO (d++List.replicate (N-i) 0))->∃v,W.cell? ⟨hU,i,none⟩=some v:=λW h=>⟨_,(h.cell i).trans (bI (by rw[i7,aY,iZ];omega))⟩
   have ju:=I iv;have Cd:=I DA;have ff:=I eU;have h4:=I hset;have ov:=I hz;clear iv DA eU hset hz hdec cO;cases py:m7 U ((j4 s).drop pos)with
  |none=>
    rw[py]at ju Cd;have cc:=I (ff.out Cd);clear py;go_wp2_with fail
    refine ju.out.mono ?_;rintro e dB ⟨he,gk⟩;have uU:e=.returned (.tuple #[.int .u8 0,.bool false]):=he;subst uU;have sg:Row dB hU 5 (aO (d++List.replicate (N-i) 0)):=hrow.out.keep (gk.block hU hrow.out.lt (λe=>by injection e with e;omega));obtain⟨v0,jA⟩:=ov.out dB sg;have Gn:dB.frozen? ⟨hU,i,none⟩=false:=sg.free i;have gA:av w dB:=hbel.out.grown gk hbel.out.size (λk e=>by injection e with e;omega);have ic:=I (gA.setCell (p:=⟨hU,i,none⟩) (by show w.heap.size<=hU;omega) (.int .u8 0));clear he gk gA sg hrow gY hbel;go_wp2;go_ret2;rw[cc.out];exact⟨⟨_,_,rfl⟩,ic⟩
  |some k=>
    rw[py]at ju Cd;rw[map_some,drop_drop]at Cd;clear py;go_wp2_with fail
    refine ju.out.mono ?_;rintro e dB ⟨⟨he,hk,Mj,Vw⟩,gk⟩;subst he;have sg:Row dB hU 5 (aO (d++List.replicate (N-i) 0)):=hrow.out.keep (gk.block hU hrow.out.lt (λe=>by injection e with e;omega));obtain⟨v0,jA⟩:=ov.out dB sg;have Gn:dB.frozen? ⟨hU,i,none⟩=false:=sg.free i;have gA:av w dB:=hbel.out.grown gk hbel.out.size (λk e=>by injection e with e;omega);have ic:=I (gA.setCell (p:=⟨hU,i,none⟩) (by show w.heap.size<=hU;omega) (.int .u8 k));have Js:=I (h4.out dB k sg);have Uc:jH dB aw.heap.size g cap F:=gY.out.keep gk (λe=>by injection e with e;omega);have Ap:jH (dB.setCell ⟨hU,i,none⟩ (.int .u8 k)) aw.heap.size g cap F:=Uc.keep (row:=some hU) (ho (dg dB (some hU)) i _) (λe=>by injection e with e;omega);have Vx:er (dB.setCell ⟨hU,i,none⟩ (.int .u8 k)) dG 0 s (pos+U[k]?.getD 0):=Vw.keep (row:=some hU) (ho (dg dB (some hU)) i _) (λe=>by injection e with e;omega);have I0:=I Ap;have Jt:=I Vx;clear gk gA sg hrow gY hbel Uc Ap Vw Vx;go_wp2;go_roundw
    case rel=>exact⟨i+1,pos+U[k]?.getD 0,d++[k],by omega,by go_num,by simp[ko],Mj,Cd,Jt,Js,I0,ic⟩
    case measure=>simp[intOf];omega
  .obtain rfl:i=N:=by omega
   rw[Nat.sub_self,replicate_zero,append_nil]at hrow;have hend:=W7 dG s pos wr (by omega) ca.out hpos cO.out;have eV:res=s9 (d,(j4 s).drop pos):=by rw[b4.out,hdec.out];rfl
   have dO:=I hend;have dr:=I hrow.out;by_cases fx:oP s pos
   .have ai:res=some d:=by rw[eV];exact aB fx
    rw[bE fx]at dO;have cc:=I ai;have BG:=I ko;clear hend eV ai cO hdec hrow gY;go_wp2_with fail
    refine dO.out.mono ?_;rintro e dB ⟨rfl,gk⟩;have sg:Row dB hU 5 (aO d):=dr.out.keep (gk.block hU dr.out.lt (λe=>by injection e with e;omega));have kf:=I (hbel.out.grown gk hbel.out.size (λk e=>by injection e with e;omega));have ep:=I (og sg);clear gk sg;go_wp2;go_ret2;rw[cc.out];exact⟨⟨some ⟨hU,0,none⟩,i,by rw[BG.out];rfl,by rw[BG.out];omega,ep.out⟩,kf.out⟩
   .have ai:res=none:=by rw[eV];exact az fx
    rw[bG fx]at dO;have cc:=I ai;clear hend eV ai cO hdec hrow gY;go_wp2_with fail
    refine dO.out.mono ?_;rintro e dB ⟨rfl,gk⟩;have kf:=I (hbel.out.grown gk hbel.out.size (λk e=>by injection e with e;omega));clear gk;go_wp2;go_ret2;rw[cc.out];exact⟨⟨_,_,rfl⟩,kf⟩
namespace am
theorem oV(a b:Nat×Nat):gD a b↔(a.1<b.1\/(a.1=b.1/\a.2<b.2)):=Iff.rfl
abbrev bZ(l:List (Nat×Nat))(i:Nat):Nat×Nat:=l[i]?.getD (0,0)
theorem y5(l:List (Nat×Nat))(i j k:Nat)(ay:i<l.length)(ar:j<l.length):bZ (swp (0,0) l i j) k=if k=j then bZ l i else if k=i then bZ l j else bZ l k:=by
 unfold bZ swp;rw[getElem?_set,length_set];by_cases h1:j=k
 .subst h1;rw[aB rfl,aB rfl,aB ar,b7]
 .rw[az h1,az (λh=>h1 h.symm),getElem?_set];by_cases af:i=k
  .subst af;rw[aB rfl,aB rfl,aB ay,b7]
  .rw[az af,az (λh=>af h.symm)]
theorem Er(l:List (Nat×Nat))(i j:Nat)(ay:i<l.length)(ar:j<l.length):(swp (0,0) l i j).Perm l:=by
 unfold swp;rw[bI ay,bI ar,b7,b7];rcases Nat.lt_trichotomy i j with h|h|h
 .exact set_set_perm ay ar
 .subst h;exact set_set_perm ay ar
 .exact set_set_perm ay ar
def kR(l:List (Nat×Nat))(n:Nat):Prop:=∀k,0<k->k<n->¬gD (bZ l k) (bZ l ((k-1)/2))
def v8(l:List (Nat×Nat))(n j:Nat):Prop:=(∀k,0<k->k<n->k≠j->¬gD (bZ l k) (bZ l ((k-1)/2)))/\(0<j->∀k,0<k->k<n->(k-1)/2=j->¬gD (bZ l k) (bZ l ((j-1)/2)))
def zd(l:List (Nat×Nat))(n i:Nat):Prop:=(∀k,0<k->k<n->(k-1)/2≠i->¬gD (bZ l k) (bZ l ((k-1)/2)))/\(0<i->∀k,0<k->k<n->(k-1)/2=i->¬gD (bZ l k) (bZ l ((i-1)/2)))
theorem asY(l:List (Nat×Nat))(n:Nat)(h:v8 l n 0):kR l n:=λk ao hk=>h.1 k ao hk (by omega)
theorem asX(l:List (Nat×Nat))(n j:Nat)(h:v8 l n j)(ar:¬gD (bZ l j) (bZ l ((j-1)/2))):kR l n:=λk ao hk=>by
 by_cases e:k=j
 .subst e;exact ar
 .exact h.1 k ao hk e
theorem asZ(l:List (Nat×Nat))(n j:Nat)(aA:n<=l.length)(ar:j<n)(ao:0<j)(h:v8 l n j)(au:gD (bZ l j) (bZ l ((j-1)/2))):v8 (swp (0,0) l ((j-1)/2) j) n ((j-1)/2):=by
 obtain⟨p,ax⟩:∃p,p=(j-1)/2:=⟨_,rfl⟩;rw[<-ax]at au ⊢;obtain⟨h1,af⟩:=h;rw[<-ax]at af;have ap:=λk=>y5 l p j k (by omega) (by omega)
 refine⟨λk bD jU tC=>?_,λlz k bD jU tC=>?_⟩
 .rw[ap,ap];by_cases e:k=j
  .subst e;rw[aB rfl,<-ax,az (by omega),aB rfl];rw[oV]at au ⊢;omega
  .rw[az e,az tC];by_cases e2:(k-1)/2=j
   .rw[aB e2];exact af ao k bD jU e2
   .rw[az e2];by_cases e3:(k-1)/2=p
    .rw[aB e3];have:=h1 k bD jU e;rw[e3]at this;rw[oV]at au this ⊢;omega
    .rw[az e3];exact h1 k bD jU e
 .rw[ap,ap,az (show ¬(p-1)/2=j by omega),az (show ¬(p-1)/2=p by omega)];have nz:=h1 p lz (by omega) (by omega);by_cases e:k=j
  .rw[aB e];exact nz
  .rw[az e,az (show ¬k=p by omega)];have:=h1 k bD jU e;rw[tC]at this;rw[oV]at this nz ⊢;omega
theorem FO(l:List (Nat×Nat))(n i:Nat)(h:zd l n i)(ay:∀k,0<k->k<n->(k-1)/2=i->¬gD (bZ l k) (bZ l i)):kR l n:=λk ao hk=>by
 by_cases e:(k-1)/2=i
 .rw[e];exact ay k ao hk e
 .exact h.1 k ao hk e
theorem Ky(l:List (Nat×Nat))(n i j:Nat)(aA:n<=l.length)(ar:j<n)(ao:0<j)(pr:(j-1)/2=i)(h:zd l n i)(au:gD (bZ l j) (bZ l i))(aj3:∀k,0<k->k<n->(k-1)/2=i->¬gD (bZ l k) (bZ l j)) :
  zd (swp (0,0) l i j) n j:=by
 obtain⟨h1,af⟩:=h;have ap:=λk=>y5 l i j k (by omega) (by omega)
 refine⟨λk bD jU tC=>?_,λ_ k bD jU tC=>?_⟩
 .rw[ap,ap];by_cases e:k=j
  .subst e;rw[aB rfl,pr,az (by omega),aB rfl];rw[oV]at au ⊢;omega
  .rw[az e,az tC];by_cases e2:(k-1)/2=i
   .rw[aB e2,az (show ¬k=i by omega)];exact aj3 k bD jU e2
   .rw[az e2];by_cases e3:k=i
    .rw[aB e3];have:=af (by omega) j ao ar pr;rw[e3];exact this
    .rw[az e3];exact h1 k bD jU e2
 .rw[ap,ap,pr,az (show ¬k=j by omega),az (show ¬k=i by omega),az (show ¬i=j by omega),aB rfl];have:=h1 k bD jU (by omega);rw[tC]at this;exact this
theorem ajA(l:List (Nat×Nat))(n:Nat)(h:kR l n):∀k,k<n->¬gD (bZ l k) (bZ l 0):=by
 intro k;induction k using Nat.strongRecOn with
|_ k ih=>
  intro hk;by_cases e:k=0
  .subst e;rw[oV];omega
  .have h1:=h k (by omega) hk;have af:=ih ((k-1)/2) (by omega) (by omega);rw[oV]at h1 af ⊢;omega
theorem ajC(l:List (Nat×Nat))(x:Nat×Nat)(h:kR l l.length):v8 (l++[x]) (l.length+1) l.length:=by
 have aF:∀k,k<l.length->bZ (l++[x]) k=bZ l k:=λk hk=>by
  unfold bZ;rw[hO hk]
 refine⟨λk bD jU axc=>?_,λao k bD jU tC=>by omega⟩;rw[aF k (by omega),aF ((k-1)/2) (by omega)];exact h k bD (by omega)
theorem ajB(l:List (Nat×Nat))(n:Nat)(aA:l.length=n+1)(h:kR l (n+1)):zd (swp (0,0) l 0 n) n 0:=by
 have ap:=λk=>y5 l 0 n k (by omega) (by omega)
 refine⟨λk bD jU tC=>?_,λao=>by omega⟩;rw[ap,ap,az (by omega),az (by omega),az (by omega),az tC];exact h k bD (by omega)
theorem ajD(l:List (Nat×Nat))(n:Nat)(h:kR l n):kR (l.take n) n:=λk bD jU=>by
 have aF:∀k,k<n->bZ (l.take n) k=bZ l k:=λk hk=>by
  unfold bZ;rw[getElem?_take,aB hk]
 rw[aF k jU,aF _ (by omega)];exact h k bD jU
def kx(ag:ae)(k:Nat):List (Nat×Nat):=(List.range k).flatMap λi=>if 0<ag[i]?.getD 0 then [(ag[i]?.getD 0,i)]else []
def fA(ag:ae):List (Nat×Nat):=kx ag ag.length
theorem AX(ag:ae)(k:Nat):kx ag (k+1)=kx ag k++if 0<ag[k]?.getD 0 then [(ag[k]?.getD 0,k)]else []:=by
 unfold kx;rw[range_succ,flatMap_append];simp
theorem AW(ag:ae):∀k,(kx ag k).length<=k
|0=>by simp[kx]
|k+1=>by
  have:=AW ag k;rw[AX,aY];split<;>simp<;>omega
theorem pG(ag:ae)(k:Nat)(t:Nat×Nat):t∈kx ag k↔t.2<k/\t.1=ag[t.2]?.getD 0/\0<t.1:=by
 unfold kx;rw[mem_flatMap];constructor
 .rintro⟨i,ay,aE⟩;have ay:=List.mem_range.1 ay;split at aE
  .next h=>simp at aE;subst aE;exact⟨ay,rfl,h⟩
  .simp at aE
 .rintro⟨h1,af,aq⟩;refine⟨t.2,List.mem_range.2 h1,?_⟩;rw[aB (by omega),<-af];simp
theorem G2(ag:ae)(F:Nat×Nat->Nat):∀k,((kx ag k).map F).sum=((List.range k).map λi=>if 0<ag[i]?.getD 0 then F (ag[i]?.getD 0,i)else 0).sum
|0=>by simp[kx]
|k+1=>by
  rw[AX,map_append,sum_append_nat,G2 ag F k,range_succ,map_append,sum_append_nat];split<;>simp_all
theorem Xd(ag:ae):∀k,k<=ag.length->(kx ag k).map (·.1)=fu (ag.take k)
|0,_=>by simp[kx,fu]
|k+1,h=>by
  rw[AX,map_append,Xd ag k (by omega),aon ag k (by omega),bI (by omega),b7];congr 1
  split<;>simp
theorem wX(ag:ae):(fA ag).map (·.1)=fu ag:=by
 unfold fA;rw[Xd ag ag.length bl,take_length]
abbrev bX(l:ae)(i:Nat):Nat:=l[i]?.getD 0
def Bo(A:ae)(d:Nat->Nat):Prop:=∀i,i<A.length->bX A i≠0->d i=d (bX A i)+1
def re(L:List (Nat×Nat))(d:Nat->Nat):Nat:=(L.map λt=>t.1*d t.2).sum
def qs(D:Nat)(L:List (Nat×Nat))(d:Nat->Nat):Nat:=(L.map λt=>2^(D-d t.2)).sum
structure ul(ag A:ae)(L:List (Nat×Nat))(C:Nat):Prop where
 len:ag.length<=A.length
 free:∀t∈L,t.2<A.length/\bX A t.2=0
 apart:(L.map (·.2)).Nodup
 above:∀i,i<A.length->bX A i≠0->i<bX A i/\bX A i<A.length
 none:∀i,i<ag.length->bX ag i=0->bX A i=0
 some:∀i,i<ag.length->0<bX ag i->bX A i≠0\/i∈L.map (·.2)
 cost:∀d,Bo A d->re (fA ag) d=re L d+C
 Nd:∀d D,Bo A d->(∀i,d i<=D)->qs D (fA ag) d=qs D L d
 best:C+n1 (L.map (·.1))=n1 (fu ag)
 last:ag.length<A.length->A.length-1∈L.map (·.2)
 count:L.length+(A.length-ag.length)=(fA ag).length
 total:(L.map (·.1)).sum=(fu ag).sum
 pos:∀t∈L,t.2<ag.length->0<bX ag t.2
theorem Ha(ag:ae):∀k,((kx ag k).map (·.2)).Nodup
|0=>by simp[kx]
|k+1=>by
  rw[AX,map_append];have ih:=Ha ag k;split
  .rw[nodup_append];refine⟨ih,by simp,?_⟩;intro a aV b ak;obtain⟨t,aE,rfl⟩:=List.mem_map.1 aV;have:=((pG ag k t).1 aE).1;simp at ak;omega
  .simpa using ih
theorem y0(n i:Nat):bX (List.replicate n 0) i=0:=by
 unfold bX;rw[getElem?_replicate];split<;>rfl
theorem alu(ag:ae)(L:List (Nat×Nat))(h:L.Perm (fA ag)):ul ag (List.replicate ag.length 0) L 0 where
 len:=by simp
 free:=λt aE=>by
  have:=(pG ag _ t).1 (h.mem_iff.1 aE);exact⟨by simpa using this.1,y0 _ _⟩
 apart:=(h.map _).nodup_iff.2 (Ha ag _)
 above:=λi _ h=>absurd (y0 _ _) h
 none:=λi _ _=>y0 _ _
 some:=λi ay ao=>.inr ((h.map _).mem_iff.2 (List.mem_map.2 ⟨(bX ag i,i),(pG ag _ _).2 ⟨ay,rfl,ao⟩,rfl⟩))
 cost:=λd _=>by unfold re;rw[(h.map _).sum_nat];rfl
 Nd:=λd D _ _=>by unfold qs;rw[(h.map _).sum_nat]
 best:=by rw[ez,C3 (h.map _),wX]
 last:=λh=>by simp at h
 count:=by simp[h.length_eq]
 total:=by rw[(h.map _).sum_nat,wX]
 pos:=λt aE _=>by
  have:=(pG ag _ t).1 (h.mem_iff.1 aE);unfold bX;omega
theorem aqT(A:ae)(a b P i:Nat)(aV:a<A.length)(ak:b<A.length):bX ((A.set a P).set b P++[0]) i=if i=a\/i=b then P else bX A i:=by
 unfold bX;by_cases h1:i<A.length
 .rw[hO (by simpa using h1),getElem?_set,getElem?_set,length_set];by_cases aG:b=i
  .subst aG;rw[aB rfl,aB ak,aB (.inr rfl)];rfl
  .rw[az aG];by_cases e2:a=i
   .subst e2;rw[aB rfl,aB aV,aB (.inl rfl)];rfl
   .rw[az e2,az (by omega)]
 .rw[iY (by simpa using h1),az (by omega),getElem?_eq_none (show A.length<=i by omega),getElem?_singleton];split<;>rfl
theorem join_step{ag A:ae}{L R L':List (Nat×Nat)}{C h2 a hP b:Nat}(h:ul ag A L C)(ax:L.Perm ((h2,a)::(hP,b)::R))(mR:h2<=hP)(cK:∀y∈R,hP<=y.1)(af:2<=A.length)(tj:L'.Perm ((h2+hP,A.length)::R)) :
  ul ag ((A.set a A.length).set b A.length++[0]) L' (C+(h2+hP)):=by
 have DV:=h.free (h2,a) (ax.mem_iff.2 (by simp));have DW:=h.free (hP,b) (ax.mem_iff.2 (by simp));have Li:∀t∈R,t.2<A.length/\bX A t.2=0:=λt aE=>h.free t (ax.mem_iff.2 (by simp[aE]))
 have mU:=(ax.map (·.2)).nodup_iff.1 h.apart;simp only[map_cons,nodup_cons,mem_cons,not_or]at mU;obtain⟨⟨aZ,aiZ⟩,ai4,aiQ⟩:=mU;have ap:=λi=>aqT A a b A.length i DV.1 DW.1
 have hlen:((A.set a A.length).set b A.length++[0]).length=A.length+1:=by simp
 have TX:∀d,Bo ((A.set a A.length).set b A.length++[0]) d->Bo A d/\d a=d A.length+1/\d b=d A.length+1:=λd aI=>by
  refine⟨λi ay hA=>?_,?_,?_⟩
  .have h1:=aI i (by omega);rw[ap,az (by
    rintro(rfl|rfl)
    .exact hA DV.2
    .exact hA DW.2)]at h1
   exact h1 hA
  .have h1:=aI a (by have:=DV.1;omega);rw[ap,aB (.inl rfl)]at h1;exact h1 (by omega)
  .have h1:=aI b (by have:=DW.1;omega);rw[ap,aB (.inr rfl)]at h1;exact h1 (by omega)
 refine⟨by rw[hlen];have:=h.len;omega,λt aE=>?_,?_,λi ay hA=>?_,λi ay ao=>?_,λi ay ao=>?_,λd aI=>?_,λd D aI cH=>?_,?_,λ_=>?_,?_,?_,λt aE hc=>?_⟩
 .rw[hlen,ap];rcases List.mem_cons.1 (tj.mem_iff.1 aE)with rfl|aE
  .refine⟨by show A.length<A.length+1;omega,?_⟩;rw[az (by have:=DV.1;have:=DW.1;simp only;omega)];unfold bX;rw[getElem?_eq_none (by exact Nat.le_refl _)];rfl
  .have h1:=Li t aE;refine⟨by omega,?_⟩;rw[az (by
    rintro(e|e)
    .exact aiZ (List.mem_map.2 ⟨t,aE,e⟩)
    .exact ai4 (List.mem_map.2 ⟨t,aE,e⟩))]
   exact h1.2
 .refine(tj.map (·.2)).nodup_iff.2 ?_;rw[map_cons,nodup_cons];refine⟨λhm=>?_,aiQ⟩;obtain⟨t,aE,e⟩:=List.mem_map.1 hm;have:=(Li t aE).1;simp only at e;omega
 .rw[ap]at hA ⊢;rw[hlen]at ay ⊢;split at hA
  .next hc=>
   rw[aB hc];have:=DV.1;have:=DW.1;omega
  .next hc=>
   rw[az hc];have yi:i<A.length:=by
    rcases eF i A.length with h1|h1
    .exact h1
    .exfalso
     apply hA
     unfold bX;rw[getElem?_eq_none h1];rfl
   have:=h.above i yi hA;omega
 .rw[ap];have h1:=h.none i ay ao;rw[az ?_]
  .exact h1
  .rintro(rfl|rfl)
   .have:=h.pos (h2,i) (ax.mem_iff.2 (by simp)) ay;simp only at this;omega
   .have:=h.pos (hP,i) (ax.mem_iff.2 (by simp)) ay;simp only at this;omega
 .rw[ap];have:=h.len;rcases h.some i ay ao with h1|h1
  .left
   split
   .omega
   .exact h1
  .rw[(ax.map _).mem_iff]at h1;simp only[map_cons,mem_cons]at h1;rcases h1 with h1|h1|h1
   .left;rw[aB (.inl h1)];omega
   .left;rw[aB (.inr h1)];omega
   .right
    rw[(tj.map _).mem_iff];simp[h1]
 .obtain⟨h1,aq,aK⟩:=TX d aI;have aG:re L d=h2*d a+(hP*d b+re R d):=by
   unfold re;rw[(ax.map _).sum_nat,map_cons,map_cons,sum_cons,sum_cons]
  have e2:re L' d=(h2+hP)*d A.length+re R d:=by
   unfold re;rw[(tj.map _).sum_nat,map_cons,sum_cons]
  rw[h.cost d h1,aG,e2,aq,aK,mul_succ,mul_succ,Nat.add_mul];omega
 .obtain⟨h1,aq,aK⟩:=TX d aI;have aG:qs D L d=2^(D-d a)+(2^(D-d b)+qs D R d):=by
   unfold qs;rw[(ax.map _).sum_nat,map_cons,map_cons,sum_cons,sum_cons]
  have e2:qs D L' d=2^(D-d A.length)+qs D R d:=by
   unfold qs;rw[(tj.map _).sum_nat,map_cons,sum_cons]
  have au4:=cH a;rw[h.Nd d D h1 cH,aG,e2,aq,aK,show D-d A.length=(D-(d A.length+1))+1 by omega,ea];omega
 .have aG:n1 (L.map (·.1))=(h2+hP)+n1 (R.map (·.1)++[h2+hP]):=by
   rw[C3 (ax.map _)];simp only[map_cons];exact ai8 h2 hP (R.map (·.1)) mR (λx ai=>by
    obtain⟨y,hy,rfl⟩:=List.mem_map.1 ai;exact cK y hy)
  have e2:n1 (L'.map (·.1))=n1 (R.map (·.1)++[h2+hP]):=by
   rw[C3 (tj.map _)];simp only[map_cons];exact C3 (perm_append_singleton _ _).symm
  have:=h.best;omega
 .rw[hlen,Nat.add_sub_cancel,(tj.map _).mem_iff];simp
 .have h1:=h.count;have aq:=ax.length_eq;have aK:=tj.length_eq;have:=h.len;simp only[bY]at aq aK;rw[hlen];omega
 .have h1:=h.total;rw[(ax.map _).sum_nat]at h1;rw[(tj.map _).sum_nat,<-h1];simp only[map_cons,sum_cons];omega
 .rcases List.mem_cons.1 (tj.mem_iff.1 aE)with rfl|aE
  .have:=h.len;simp only at hc;omega
  .exact h.pos t (ax.mem_iff.2 (by simp[aE])) hc
structure xP(ag U:ae):Prop where
 len:U.length=ag.length
 just:∀i,i<ag.length->(0<U[i]?.getD 0↔0<ag[i]?.getD 0)
 whole:(∀x∈U,x<=11)->fq U
 cost:zX ag U=Fk ag
 most:∀x∈U,x<=512
theorem FD(ag U:ae):zX ag U=((fA ag).map λt=>t.1*bX U t.2).sum:=by
 unfold fA;rw[G2];unfold zX;congr 1
 apply map_congr_left
 intro i _;split
 .rfl
 .next h=>rw[show ag[i]?.getD 0=0 by omega,Nat.zero_mul]
theorem WP(ag U:ae)(hl:U.length=ag.length)(ar:∀i,i<ag.length->(0<U[i]?.getD 0↔0<ag[i]?.getD 0)):fz U=((fA ag).map λt=>2^(11-bX U t.2)).sum:=by
 unfold fA;rw[G2,GR,hl];congr 1
 apply map_congr_left
 intro i ay;have h1:=ar i (List.mem_range.1 ay);unfold fa bX;by_cases h:0<ag[i]?.getD 0
 .rw[aB h,az (by omega)]
 .rw[az h,aB (by omega)]
structure H7(A U:ae):Prop where
 len:U.length=A.length
 none:∀i,i<A.length->bX A i=0->bX U i=0
 some:∀i,i<A.length->bX A i≠0->bX U i=bX U (bX A i)+1
 most:∀i,i<A.length->bX U i<=A.length-i
theorem alr{ag A U:ae}{t:Nat×Nat}{C:Nat}(h:ul ag A [t] C)(aI:H7 A U)(af:2<=(fA ag).length)(tg:ag.length<=256)(hA:A.length<=512):xP ag (U.take ag.length):=by
 have hcnt:=h.count;have hlen:=h.len;simp only[length_singleton]at hcnt;have hlast:=h.last (by omega);simp only[map_cons,map_nil,mem_singleton]at hlast;have hfree:=h.free t (by simp);have cV:Bo A (bX U):=λi ay ao=>aI.some i ay ao
 have qc:bX U t.2=0:=aI.none t.2 hfree.1 hfree.2;have aF:∀i,i<ag.length->(U.take ag.length)[i]?.getD 0=bX U i:=λi ay=>by rw[getElem?_take,aB ay]
 have Gu:∀i,i<ag.length->(0<(U.take ag.length)[i]?.getD 0↔0<ag[i]?.getD 0):=λi ay=>by
  rw[aF i ay];constructor
  .intro h1;rcases eq_zero_or_pos (ag[i]?.getD 0)with ao|ao
   .have:=aI.none i (by omega) (h.none i ay ao);omega
   .exact ao
  .intro ao;rcases h.some i ay ao with h1|h1
   .have:=aI.some i (by omega) h1;omega
   .simp only[map_cons,map_nil,mem_singleton]at h1;omega
 have e1:(U.take ag.length).length=ag.length:=by rw[cr,aI.len];omega
 have hmem:∀u∈fA ag,u.2<ag.length:=λu hu=>((pG ag _ u).1 hu).1
 refine⟨e1,Gu,λdQ=>⟨by omega,dQ,.inl ?_⟩,?_,?_⟩
 .rw[WP ag _ e1 Gu];obtain⟨D,cH,au3⟩:∃D,(∀i,bX U i<=D)/\11<=D:=⟨512,λi=>by
   rcases eF i A.length with ay|ay
   .have:=aI.most i ay;omega
   .unfold bX;rw[getElem?_eq_none (by rw[aI.len];exact ay)];exact zero_le _,by omega⟩
  have hk:=h.Nd (bX U) D cV cH;have aG:qs D [t] (bX U)=2^D:=by simp[qs,qc]
  have e2:qs D (fA ag) (bX U)=2^(D-11)*((fA ag).map λu=>2^(11-bX (U.take ag.length) u.2)).sum:=by
   unfold qs;have:∀L:List (Nat×Nat),(∀u∈L,u∈fA ag)->(L.map λu=>2^(D-bX U u.2)).sum=2^(D-11)*(L.map λu=>2^(11-bX (U.take ag.length) u.2)).sum:=λL=>by
    induction L with
   |nil=>intro _;rfl
   |cons u L ih=>
     intro bR;have hu:=hmem u (bR u (by simp));have aT:bX (U.take ag.length) u.2<=11:=by
      unfold bX;rw[bI (by omega),b7];exact dQ _ (b8 _)
     rw[map_cons,sum_cons,map_cons,sum_cons,ih (λv aD=>bR v (by simp[aD])),Nat.mul_add,<-dI];have e3:bX (U.take ag.length) u.2=bX U u.2:=aF u.2 hu;rw[e3]at aT ⊢;rw[show D-11+(11-bX U u.2)=D-bX U u.2 by omega]
   exact this _ (λ_ h=>h)
  rw[aG,e2,show D=(D-11)+11 by omega,dI,Nat.add_sub_cancel]at hk;have aiq:(2:Nat)^11=2048:=by decide
  rw[aiq]at hk;exact Nat.eq_of_mul_eq_mul_left (eK _) hk
 .rw[FD];have hc:=h.cost (bX U) cV;have aG:re [t] (bX U)=0:=by simp[re,qc]
  have ak:=h.best;have dc:n1 ([t].map (·.1))=0:=ai7 _ (by simp);have aZ:(fu ag).length≠1:=by rw[<-wX,cQ];omega
  unfold Fk;rw[az aZ,<-ak,dc,fX];rw[aG,ez]at hc;rw[<-hc];unfold re;congr 1
  apply map_congr_left
  intro u hu;rw[show bX (U.take ag.length) u.2=bX U u.2 from aF u.2 (hmem u hu)]
 .intro x ai;obtain⟨i,ay,rfl⟩:=List.mem_iff_getElem.1 ai;rw[e1]at ay;have aT:=aI.most i (by omega);have ci:=aF i ay;rw[bI (by omega),b7]at ci;rw[ci];omega
theorem Z4{ag:ae}{c i:Nat}(h:fA ag=[(c,i)])(tg:ag.length<=256):xP ag ((List.replicate ag.length 0).set i 1):=by
 have hm:=(pG ag ag.length (c,i)).1 (show(c,i)∈fA ag by rw[h];simp);simp only at hm;obtain⟨ay,hc,ao⟩:=hm;have aF:∀k,k<ag.length->((List.replicate ag.length 0).set i 1)[k]?.getD 0=if k=i then 1 else 0:=λk hk=>by
  rw[getElem?_set];by_cases e:i=k
  .subst e;rw[aB rfl,aB (by simpa using hk),aB rfl];rfl
  .rw[az e,az (λh=>e h.symm)];exact y0 _ _
 have hl:((List.replicate ag.length 0).set i 1).length=ag.length:=by simp
 have ar:∀k,k<ag.length->(0<((List.replicate ag.length 0).set i 1)[k]?.getD 0↔0<ag[k]?.getD 0):=λk hk=>by
  rw[aF k hk];by_cases e:k=i
  .subst e;rw[aB rfl];omega
  .rw[az e];constructor
   .intro h;omega
   .intro h1;have:(ag[k]?.getD 0,k)∈fA ag:=(pG ag _ _).2 ⟨hk,rfl,h1⟩;rw[h]at this;simp at this;omega
 have py:∀x∈(List.replicate ag.length 0).set i 1,x<=1:=λx ai=>by
  obtain⟨k,hk,rfl⟩:=List.mem_iff_getElem.1 ai;have h1:=aF k (by omega);rw[bI (by omega),b7]at h1;rw[h1];split<;>omega
 have iK:bX ((List.replicate ag.length 0).set i 1) i=1:=by rw[bX,aF i ay,aB rfl]
 have ts:fz ((List.replicate ag.length 0).set i 1)=1024:=by
  rw[WP ag _ hl ar,h];simp[iK]
 refine⟨hl,ar,λdQ=>⟨by omega,dQ,.inr ⟨?_,ts⟩⟩,?_,λx ai=>by have:=py x ai;omega⟩
 .unfold i6;have:∀(n k:Nat),k<n->((List.replicate n 0).set k 1).countP (λn=>decide (0<n))=1:=λn=>by
   induction n with
  |zero=>intro k hk;omega
  |succ n ih=>
    intro k hk;rw[replicate_succ];cases k with
   |zero=>simp[countP_replicate]
   |succ k=>
     rw[set_cons_succ,countP_cons,ih k (by omega)];simp
  exact this _ _ ay
 .rw[FD,h];have ax:fu ag=[c]:=by rw[<-wX,h];rfl
  unfold Fk;rw[ax];simp[iK]
end am
end Go.Proofs.YtgiicohbigiapaaGreat
