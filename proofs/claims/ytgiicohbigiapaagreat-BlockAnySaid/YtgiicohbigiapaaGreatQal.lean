/- Contracts. -/
import Derived.Test.YtgiicohbigiapaaGreatQak
import Derived.Deep.DrawnRows
import Derived.Shelf.RegionOpenPlain
import Derived.Test.YtgiicohbigiapaaGreatQz2
import Derived.Test.YtgiicohbigiapaaGreatQz1
import Derived.Test.YtgiicohbigiapaaGreatQz0
set_option maxHeartbeats 4000000
set_option maxRecDepth 100000
open Go.Proofs.Tryz Go.Proofs.YtgiicohbigiapaaGreat.ao List Nat Option
namespace Go.Proofs.YtgiicohbigiapaaGreat
open Go.RowKit
theorem atr(A:a7)(c:Nat)(U:ae)(w:ai)(hl:U.length<=256)(dV:∀x∈U,x<=11)(aX:0<(cB U).length)(hc:U.length<=c)(aj:Reads w A (aM U)) :
  Calls prog 117 #[.slice A U.length c] w λe w'=>e=.returned (.string (strOf (gY (cB U))))/\Below w.heap.size w w':=by
 obtain⟨i0,ax,bB,bK,bw⟩:=info_parts oG;have nu:=ah0 A c (U.map λn:Nat=>(n:Int)) w (by simp;omega) (by simpa using hc) (by rw[jT];exact aj);rw[cQ]at nu;have oW:=I (nu.mono λe w' ⟨k,he,hk,hw⟩=>(show e=Ending.returned (.slice A (cB U).length c)/\w=w' from by
  obtain⟨_,e2,_⟩:=aaQ U k hk;exact⟨by rw[<-e2];exact he,hw⟩))
 obtain⟨m0,ip⟩:=xW U;have bp:Reads w A (aM (cB U)):=by
  have h:=aak aj (cB U).length;have e:∀ca cT:ae,(aM (ca++cT)).take ca.length=aM ca:=λca cT=>by rw[<-EC,<-gw ca,take_left]
  have e2:=e (cB U) (List.replicate m0 0);rw[<-ip]at e2;rwa [e2]at h
 have Xs:∀x∈cB U,x<=11:=λx ah=>dV x (by rw[ip];exact mem_append_left _ ah)
 have fU:(cB U).length<=256:=by
  have:=congrArg List.length ip;rw[aY]at this;omega
 clear nu ip aj dV;generalize cB U=l at *;have dY:(l.length:Int)-1=((l.length-1:Nat):Int):=by omega
 have dB:=I bp;have lw:=I Xs;clear bp Xs;go_enter func117,ntmps117
 go_wp2_with fail
 refine oW.out.mono ?_;rintro e w' ⟨rfl,rfl⟩;have hown0:(w.alloc (.cells #[.int .u8 ((l.length-1:Nat):Int)] 5)).ownsRow w.heap.size 5 1 (.slice (some ⟨w.heap.size,0,none⟩) 1 1) 1 (aN [l.length-1]):=OY (Row.new w 5 (aN [l.length-1])) bh (by simp);have tD:=I hown0;have jW:=I ((Below.refl w.heap.size w).alloc bh (.cells #[.int .u8 ((l.length-1:Nat):Int)] 5));clear hown0;go_wp2;go_loopw [4,5,6] (λu bV _ wr=>∃k:Nat,k<=(l.length+1)/2/\bV=.int .i64 (2*(k:Int))/\Hid (wr.ownsRow w.heap.size 5 1 u (1+k) (aN ((l.length-1) :: (List.range k).map (lS l))))/\Hid (Below w.heap.size w wr)) (λ_ bV _ _=>l.length+1-(intOf bV).toNat)
 case atStart=>exact⟨0,by omega,rfl,tD,jW⟩
 case round=>
  obtain⟨k,hk,rfl,hown,hbel⟩:=hrel;by_cases bb:2*k<l.length
  .obtain⟨g1,off1,rfl,bL⟩:=kW (c9 dB.out hbel.out) (by omega);have c1:=bL (2*k) bb;have UM:=ZR lw.out k;have Ye:=lw.out l[2*k] (b7 bb);have XJ:aN ((l.length-1) :: (List.range k).map (lS l))++[Value.int .u8 (lS l k)]=aN ((l.length-1) :: (List.range (k+1)).map (lS l)):=by simp[aN,range_succ]
   have Ss:=I XJ;clear XJ;have hfin:∀(gZ:Value) (aB:ai),aB.ownsRow w.heap.size 5 1 gZ (1+k+1) (aN ((l.length-1) :: (List.range k).map (lS l))++[Value.int .u8 (lS l k)])->Hid (aB.ownsRow w.heap.size 5 1 gZ (1+(k+1)) (aN ((l.length-1) :: (List.range (k+1)).map (lS l)))):=λgZ aB h=>by
    rw[Ss.out]at h;exact I h
   have ey:=I hfin;clear hfin Ss;by_cases fy:2*k+1<l.length
   .have c2:=bL (2*k+1) fy;have awI:=lw.out l[2*k+1] (b7 fy);have Ej:lS l k=l[2*k]+16*l[2*k+1]:=by rw[lS,bH bb,bH fy];rfl
    have d2:decide (2*(k:Int)+1<(l.length:Int))=true:=cl;clear bL;generalize l[2*k]=x at *;generalize l[2*k+1]=y at *;rw[Ej]at ey UM;clear Ej;have lP:(x:Int)+16*y=((x+16*y:Nat):Int):=by omega
    have w5:=I lP;clear lP;go_wp2_with (at_builtin;refine wpList_append_own _ rfl _ _ 87 rfl w.heap.size 5 i0 (.int .u8 0) 1 1 underlying87 ax bB bK bw rfl (by decide) _ _ _ rfl (hown.out.alloc _) ⟨wr.heap.size,0,none⟩ 1 1 [.int .u8 ((x:Int)+16*y)] rfl rfl ?d1 ?d2 ?d3 ?d4 ?d5 ?_)
    case d1=>
     intro j u ar;match j,ar with
     | 0,ar=>simp at ar;subst ar;simp[Addr.add]
    case d2=>intro u hu;simp at hu;subst hu;rfl
    case d3=>unfold maxLen;omega
    case d4=>omega
    case d5=>have:=hbel.out.size;simp;omega
    intro gZ dt di dn _;have jN:Below w.heap.size w dt:=(hbel.out.alloc hbel.out.size _).grown dn (by have:=hbel.out.size;simp;omega) (λx e=>(hown.out.lt x e).1);rw[w5.out]at di;have jq:=ey.out gZ dt di;have nE:=I jN;clear di dn jN hown hbel ey;go_wp2;go_roundw
    case rel=>exact⟨k+1,by omega,by go_num,jq,nE⟩
    case measure=>simp[intOf];omega
   .have Ej:lS l k=l[2*k]:=by rw[lS,bH bb,getElem?_eq_none (by omega)];rfl
    have d2:decide (2*(k:Int)+1<(l.length:Int))=false:=aT;clear bL;generalize l[2*k]=x at *;rw[Ej]at ey UM;clear Ej;go_wp2_with (at_builtin;refine wpList_append_own _ rfl _ _ 87 rfl w.heap.size 5 i0 (.int .u8 0) 1 1 underlying87 ax bB bK bw rfl (by decide) _ _ _ rfl (hown.out.alloc _) ⟨wr.heap.size,0,none⟩ 1 1 [.int .u8 x] rfl rfl ?d1 ?d2 ?d3 ?d4 ?d5 ?_)
    case d1=>
     intro j u ar;match j,ar with
     | 0,ar=>simp at ar;subst ar;simp[Addr.add]
    case d2=>intro u hu;simp at hu;subst hu;rfl
    case d3=>unfold maxLen;omega
    case d4=>omega
    case d5=>have:=hbel.out.size;simp;omega
    intro gZ dt di dn _;have jN:Below w.heap.size w dt:=(hbel.out.alloc hbel.out.size _).grown dn (by have:=hbel.out.size;simp;omega) (λx e=>(hown.out.lt x e).1);have jq:=ey.out gZ dt di;have nE:=I jN;clear di dn jN hown hbel ey;go_wp2;go_roundw
    case rel=>exact⟨k+1,by omega,by go_num,jq,nE⟩
    case measure=>simp[intOf];omega
  .obtain rfl:k=(l.length+1)/2:=by omega
   have fj:(l.length-1) :: (List.range ((l.length+1)/2)).map (lS l)=gY l:=rfl;rw[fj]at hown;have htlt:=Fl l lw.out fU;have akj:=x1 l;obtain⟨Cf,Dl,rfl,En,_⟩:=kU hown.out;have hcv:=o3 wr Cf Dl (gY l) htlt En;rw[akj]at hcv;clear hown fj htlt En lw;go_wp2;go_ret;exact⟨rfl,hbel⟩
def aev(w':ai)(e:Ending):Option (ae×Nat)->Prop
 | none=>e=.returned (.tuple #[.slice none 0 0,.int .i64 0])
 | some t=>∃A c,e=.returned (.tuple #[.slice A t.1.length c,.int .i64 (t.2:Int)])/\Reads w' A (aM t.1)
theorem LA(bs:ae):(strOf bs).toList.isEmpty=decide (bs=[]):=by
 rw[IW];cases bs<;>simp
theorem Ja(l:ae):mD (l.map λn:Nat=>(n:Int))↔fw l:=by
 have e:(l.map λn:Nat=>(n:Int)).map Int.toNat=l:=by
  rw[List.map_map];conv=>rhs;rw[<-List.map_id l]
  exact map_congr_left λx _=>by simp
 unfold mD;rw[e];constructor
 .exact λh=>h.2
 .intro h;refine⟨⟨by rw[cQ];exact h.1,λx ah=>?_⟩,h⟩;obtain⟨n,az,rfl⟩:=List.mem_map.1 ah;have:=h.2.1 n az;omega
theorem atq(bs:ae)(w:ai)(hl:bs.length<=10000)(ak:∀x∈bs,x<256) :
  Calls prog 76 #[.string (strOf bs)] w λe w'=>aev w' e (jc bs)/\Below w.heap.size w w':=by
 obtain⟨i0,ax,bB,bK,bw⟩:=info_parts oF;have fi:=LA bs;have bI:=cZ bs;by_cases aX:bs=[]
 .rw[bG aX]at fi;have ah:jc bs=none:=by unfold jc;rw[aA aX]
  rw[ah];clear ah ak bI;generalize strOf bs=xV at *;go_enter func76,ntmps76
  go_wp2;go_ret2;exact⟨rfl,Below.refl _ _⟩
 .rw[bF aX]at fi;have am:0<bs.length:=List.length_pos_iff.2 aX;have MO:∀W:ai,(Instr.index 9 (.string (strOf bs)) (.int .i64 0)).run prog W=.ok (.int .u8 ((bs[0]:Nat):Int)) W:=λW=>pT bs 0 W am (ak _ (b7 am))
  have tS:=ak _ (b7 am);have e0:bs[0]?.getD 0=bs[0]:=by rw[bH am,b6]
  obtain⟨res,hres⟩:∃r,r=jc bs:=⟨_,rfl⟩;rw[<-hres];have hres2:=hres;unfold jc at hres2;rw[ay aX,e0]at hres2;have bt:=I hres2;have ic:=I (λW j (h:j<bs.length)=>pT bs j W h (ak _ (b7 h)));have k2:=I (λW j (h:j<=bs.length)=>ti bs j h W);have bO:=I ak;clear hres hres2 e0 ak aX;generalize bs[0]=x at *;obtain⟨ig,eC⟩:∃a,a=1+(x+2)/2:=⟨_,rfl⟩;rw[<-eC]at bt;have avd:1+((x:Int)+1+1)/2=(ig:Int):=by omega
  by_cases lK:bs.length<ig
  .have ah:res=none:=by rw[bt.out,aA lK]
   have d1:decide ((bs.length:Int)<ig)=true:=cl;have b2:=I ah;clear ah ic k2;generalize strOf bs=xV at *;go_enter func76,ntmps76
   go_wp2;go_ret2;exact⟨by rw[b2.out];rfl,Below.refl _ _⟩
  .have d1:decide ((bs.length:Int)<ig)=false:=aT;have zz:res=if fw (fH bs (x+1))/\gY (cB (fH bs (x+1)))=bs.take ig then some (fH bs (x+1),ig)else none:=by rw[bt.out,ay lK]
   have jI:=I zz;have pw:=I eC;clear zz bt eC;go_enter func76,ntmps76
   go_wp2;go_loopw [6,7,8] (λu bV _ wr=>∃k:Nat,k<=x+1/\bV=.int .i64 k/\Hid (wr.ownsRow w.heap.size 3 1 u k (aM (fH bs k)))/\Hid (Below w.heap.size w wr)) (λ_ bV _ _=>x+1-(intOf bV).toNat)
   case atStart=>exact⟨0,by omega,rfl,I (World.ownsRow_nil _ _ _ _),I dQ⟩
   case round=>
    obtain⟨k,hk,rfl,hown,hbel⟩:=hrel;by_cases avO:k<x+1
    .have eC:=pw.out;obtain⟨j,ar⟩:∃j,j=1+k/2:=⟨_,rfl⟩;have fr:j<bs.length:=by omega
     have pI:1+(k:Int)/2=(j:Int):=by omega
     have hidx:=λW=>ic.out W j fr
     have hy:=bO.out bs[j] (b7 fr);obtain⟨v,aE⟩:∃v,v=oH bs k:=⟨_,rfl⟩;have oB:=aE;unfold oH at oB;rw[<-ar,bH fr,b6]at oB;have fI:Hid (oH bs k=v):=I aE.symm;clear eC ar aE;generalize bs[j]=y at *;by_cases hodd:k%2=1
     .rw[aA hodd]at oB;have dq:((k:Int)%2 == 1)=true:=by rw[beq_iff_eq];omega
      have X2:(y:Int)/16%16=(v:Int):=by omega
      clear oB;go_wp2_with (at_builtin;refine wpList_append_own _ rfl _ _ 112 rfl w.heap.size 3 i0 (.int .i64 0) 1 8 underlying112 ax bB bK bw rfl (by decide) _ _ _ rfl (hown.out.alloc _) ⟨wr.heap.size,0,none⟩ 1 1 [.int .i64 v] rfl rfl ?d1 ?d2 ?d3 ?d4 ?d5 ?_)
      case d1=>
       intro j u ar;match j,ar with
       | 0,ar=>simp at ar;subst ar;simp[Addr.add]
      case d2=>intro u hu;simp at hu;subst hu;rfl
      case d3=>unfold maxLen;omega
      case d4=>omega
      case d5=>have:=hbel.out.size;simp;omega
      intro gZ dt di dn _;have jN:Below w.heap.size w dt:=(hbel.out.alloc hbel.out.size _).grown dn (by have:=hbel.out.size;simp;omega) (λx e=>(hown.out.lt x e).1);have e:aM (fH bs k)++[Value.int .i64 v]=aM (fH bs (k+1)):=by rw[Zq,fI.out];simp[aM]
      rw[e]at di;have jq:=I di;have nE:=I jN;clear di dn jN hown hbel e;go_wp2;go_roundw
      case rel=>exact⟨k+1,by omega,by go_num,jq,nE⟩
      case measure=>simp[intOf];omega
     .rw[ay hodd]at oB;have dq:((k:Int)%2 == 1)=false:=cz
      have X2:(y:Int)%16=(v:Int):=by omega
      clear oB;go_wp2_with (at_builtin;refine wpList_append_own _ rfl _ _ 112 rfl w.heap.size 3 i0 (.int .i64 0) 1 8 underlying112 ax bB bK bw rfl (by decide) _ _ _ rfl (hown.out.alloc _) ⟨wr.heap.size,0,none⟩ 1 1 [.int .i64 v] rfl rfl ?d1 ?d2 ?d3 ?d4 ?d5 ?_)
      case d1=>
       intro j u ar;match j,ar with
       | 0,ar=>simp at ar;subst ar;simp[Addr.add]
      case d2=>intro u hu;simp at hu;subst hu;rfl
      case d3=>unfold maxLen;omega
      case d4=>omega
      case d5=>have:=hbel.out.size;simp;omega
      intro gZ dt di dn _;have jN:Below w.heap.size w dt:=(hbel.out.alloc hbel.out.size _).grown dn (by have:=hbel.out.size;simp;omega) (λx e=>(hown.out.lt x e).1);have e:aM (fH bs k)++[Value.int .i64 v]=aM (fH bs (k+1)):=by rw[Zq,fI.out];simp[aM]
      rw[e]at di;have jq:=I di;have nE:=I jN;clear di dn jN hown hbel e;go_wp2;go_roundw
      case rel=>exact⟨k+1,by omega,by go_num,jq,nE⟩
      case measure=>simp[intOf];omega
    .obtain rfl:k=x+1:=by omega
     have zz:=jI.out;obtain⟨eI,c1,rfl,bp,_⟩:=kU hown.out;obtain⟨bL,_⟩:=BZ hown.out;have pO:=zK bs (x+1);have mg:=λW (ak:Below wr.heap.size wr W)=>as5 eI c1 ((fH bs (x+1)).map λn:Nat=>(n:Int)) W (by rw[cQ,pO];omega) (by rw[jT];exact c9 bp ak)
     rw[cQ,pO,decide_eq_decide.2 (Ja _)]at mg;have lD:=I mg;have dB:=I bp;by_cases bg:fw (fH bs (x+1))
     .rw[bG bg]at lD;obtain⟨dZ,vT⟩:=Jb _ bg;have NE:=λW (ak:Below wr.heap.size wr W)=>atr eI c1 (fH bs (x+1)) W bg.1 bg.2.1 vT (by rw[pO];exact bL) (c9 bp ak)
      rw[pO]at NE;have fj:=Fl (cB (fH bs (x+1))) dZ.2.1 dZ.1;have aX:=Fe (gY (cB (fH bs (x+1)))) (bs.take ig) fj (p3 bO.out ig);obtain⟨r,aj⟩:∃r,r=decide (gY (cB (fH bs (x+1)))=bs.take ig):=⟨_,rfl⟩;rw[<-aj]at aX;have hfin:res=if r=true then some (fH bs (x+1),ig)else none:=by
       rw[zz,aj];by_cases cp:gY (cB (fH bs (x+1)))=bs.take ig
       .rw[aA ⟨bg,cp⟩,aA (bG cp)]
       .rw[ay (λh=>cp h.2),ay (by rw[bF cp];exact Bool.false_ne_true)]
      have mN:=λW=>k2.out W ig (by omega)
      have C9:=I NE;have ey:=I hfin;clear mg NE fj aj hfin zz jI dZ vT hown bp ic k2;generalize fH bs (x+1)=l at *;generalize strOf (gY (cB l))=aaD at *;generalize strOf (bs.take ig)=aw6 at *;go_upto_region 15 with fail
      go_region_held3 (λW=>Below wr.heap.size wr W) (first | with_reducible assumption | exact(Below.refl wr.heap.size wr).drew) (first
       | (go_at_call 116;(with_reducible refine(lD.out _ (by first | with_reducible assumption | exact(Below.refl wr.heap.size wr).drew)).mono ?_);rintro e w' ⟨rfl,rfl⟩)
       | (go_at_call 117;(with_reducible refine(C9.out _ (by first | with_reducible assumption | exact(Below.refl wr.heap.size wr).drew)).mono ?_);rintro e x5 ⟨rfl,DT⟩;have hP:Below wr.heap.size wr x5:=Below.trans (by first | with_reducible assumption | exact(Below.refl wr.heap.size wr).drew) (DT.mono bh);clear DT))
      have QU:=b9 hbel hP;have adP:=I (c9 dB.out hP);have RY:=I pO;clear hP dB hbel lD C9 mN pO;cases r with
      | true=>
       have bk:Hid (res=some (l,ig)):=I (by rw[ey.out,aA rfl]);clear ey;go_wp2;go_ret2;rw[bk.out];exact⟨⟨eI,c1,by show _=Ending.returned (Value.tuple #[.slice eI l.length c1,.int .i64 ig]);rw[RY.out];rfl,adP⟩,QU⟩
      | false=>
       have bk:Hid (res=none):=I (by rw[ey.out,ay Bool.false_ne_true]);clear ey;go_wp2;go_ret2;rw[bk.out];exact⟨rfl,QU⟩
     .rw[bF bg]at lD;have ah:res=none:=by rw[zz,ay (λh=>bg h.1)]
      have b2:=I ah;have ad7:=I (λm=>lD.out (wr.drewN m) (below_drewN dQ m));clear ah mg zz jI hown bp ic k2;go_wp2_with fail
      go_quiet ((go_at_call 116;exact aoJ (ad7.out _)))
      go_wp2;go_ret2;exact⟨by rw[b2.out];rfl,below_drewN hbel.out _⟩
def aeo:Prop:=∀(w:ai) (A:a7) (c:Nat) (l:List Int),l.length<=1000000000->l.length<=c->(∀x∈l,en x)->Reads w A (gL l) ->
 Calls prog 107 #[.slice A l.length c] w λe w'=>e=.returned (Fg (if mD l then some (gY (cB (l.map Int.toNat)))else none))/\Below w.heap.size w w'
def Gm(w':ai)(b:Nat)(bs:ae)(e:Ending):Option (ae×Nat)->Prop
 | none=>∃A c,e=.returned (.tuple #[.slice A 0 c,.bool false])
 | some t=>∃A c,e=.returned (.tuple #[.slice A t.1.length c,.bool true])/\Reads w' A (aM t.1)/\bJ w' b (some (bs.drop t.2))
def aem:Prop:=∀(w:ai) (b:Nat) (bs:ae),bs.length<=10000->(∀x∈bs,x<256)->bJ w b (some bs) ->
 Calls prog 144 #[.pointer (some ⟨b,0,none⟩)] w λe w'=>Gm w' b bs e (jc bs)/\w.grownBy w' (some b)
theorem VJ(A:a7)(c:Nat)(l:List Int)(w:ai)(hl:l.length<=1000000000)(aj:Reads w A (gL l))(bg:mD l) :
  Calls prog 142 #[.slice A l.length c] w λe w'=>∃g,e=.returned (.tuple #[.slice (some ⟨g,0,none⟩) l.length l.length,.bool true])/\Reads w' (some ⟨g,0,none⟩) (aM (lH (l.map Int.toNat)))/\w.heap.size<=g/\Below w.heap.size w w':=by
 have h:=Qe A c l w (by omega) aj;rw[bG bg]at h;obtain⟨e,dV,kR⟩:=H2 l bg.1;have ud:fF (l.map Int.toNat)<=2048:=by have:=bg.2.2.2;omega
 have h1:=ase A c (l.map Int.toNat) w (by have:=bg.1.1;omega) dV ud (by rw[<-jT,<-e];exact aj) (by rw[kR];exact h);rw[kR]at h1;exact h1.mono λe w' ⟨g,h1,af,aq,aJ⟩=>⟨g,h1,oK af,aq,aJ⟩
namespace ao
theorem ahk(l ij:ae)(h:∀x∈ij,x<2):hJ l+hJ ij%2^ij.length*2^l.length=hJ (l++ij):=by
 rw[KZ,mod_eq_of_lt (Gv ij h)]
theorem ahi(l:ae):bytesOf (hJ l) ((l.length+7)/8)=ph l:=rfl
end ao
theorem alQ(A B:a7)(c d:Nat)(U bs:ae)(w:ai)(bg:fw U)(dY:bs.length<=10000)(av:∀x∈bs,x<256)(aj:Reads w A (aM U))(ap:Reads w B (aN bs))
  (jO:Calls prog 142 #[.slice A U.length c] w λe w'=>∃g,e=.returned (.tuple #[.slice (some ⟨g,0,none⟩) U.length U.length,.bool true])/\Reads w' (some ⟨g,0,none⟩) (aM (lH U))/\w.heap.size<=g/\Below w.heap.size w w') :
  Calls prog 108 #[.slice A U.length c,.slice B bs.length d] w λe w'=>e=.returned (Fg (q7 U bs))/\Below w.heap.size w w':=by
 obtain⟨res,hres⟩:∃r,r=q7 U bs:=⟨_,rfl⟩;rw[<-hres];have bt:=I hres;have jG:=I bg;have vL:=bg.1;have b5:=I av;have aU:=I aj;have bU:=I ap;have ix:=I jO;have c8:Hid (∀k,k<bs.length->U[bs[k]?.getD 0]?.getD 0=0->res=none):=I (λk hk am=>by
  rw[hres];unfold q7;rw[bH hk,b6]at am;rw[Uf U bs[k] am bs (b7 hk)];rfl)
 have mA:Hid (∀(W:ai) (b N n v m:Nat),n<=1000000000->v<4294967296->m<=32->dP W b 0 N n->Calls prog 99 #[.pointer (some ⟨b,0,none⟩),.int .u32 v,.int .i64 m] W λe w'=>e=.returned (.bool true)/\dP w' b 0 (N+v%2^m*2^n) (n+m)/\W.grownBy w' (some b)):=I (λW b N n v m h1 af aq aJ=>E0 b 0 N n v m W h1 af aq aJ);have tB:=I (λn c W h1 af=>al2 n c W h1 af);clear hres bg av aj ap jO;go_enter func108,ntmps108
 go_wp2_with fail
 refine ix.out.mono ?_;rintro e au ⟨gc,rfl,iF,ajr,aH⟩;have yx:=I iF;have dx:=I (c9 aU.out aH);have nI:=I (c9 bU.out aH);have aK:=I aH;have lB:=I (dP.new au 153 (by decide));have jW:=I ((Below.refl au.heap.size au).alloc bh (.cells #[.pointer none,.int .u64 0,.int .i64 0] 153));clear iF aH aU bU ix;go_wp2;go_loopw [20] (λbV wr=>∃(k:Nat) (acc:ae),k<=bs.length/\bV=.int .i64 k/\acc.length<=11*k/\Hid (ao.encS U (bs.take k)=some acc)/\Hid (dP wr au.heap.size 0 (hJ acc) acc.length)/\Hid (Below au.heap.size au wr)) (λbV _=>bs.length-(intOf bV).toNat)
 case atStart=>exact⟨0,[],by omega,rfl,by simp,I (by rw[take_zero];rfl),lB,jW⟩
 case round=>
  obtain⟨k,acc,hk,rfl,hacc,henc,dZ,hbel⟩:=hrel;clear lB jW;by_cases bb:k<bs.length
  .obtain⟨h5,Ik,rfl,fo⟩:=nA (c9 nI.out hbel) (by intro e;rw[e]at bb;simp at bb);have c0:=fo k bb;have fe:=c8.out k bb;rw[bH bb,b6]at fe;have DW:=b5.out bs[k] (b7 bb);have iH:bs.take (k+1)=bs.take k++[bs[k]]:=gb bb;have mO:=Ug U bs[k] (bs.take k);rw[<-iH,henc.out,map_some]at mO;have yn:=I mO;have CS:=I fe;clear fo fe iH mO henc c8;generalize bs[k]=y at *;by_cases hy:y<U.length
   .obtain⟨il,ZJ,rfl,hL⟩:=kW (c9 dx.out hbel.out) (by omega);have c1:=hL y hy;have fq:U[y]?.getD 0=U[y]:=by rw[bH hy,b6]
    have dV:=jG.out.2.1 U[y] (b7 hy);have FP:Hid (∀W,Below au.heap.size au W->W.cell? ⟨il,ZJ+y,none⟩=some (.int .i64 (U[y]:Int))):=I (λW ak=>by
     obtain⟨g2,off2,e,db⟩:=kW (c9 dx.out ak) (by omega);injection e with e
     injection e with aF e2
     subst aF e2;exact db y hy)
    have Rc:Hid (∀W,Below au.heap.size au W->W.cell? ⟨gc,y,none⟩=some (.int .i64 (hg U y))):=I (λW ak=>by
     obtain⟨g2,off2,e,db⟩:=kW (c9 yx.out ak) (by rw[GK];omega);injection e with e
     injection e with aF e2
     subst aF e2;have:=db y (by rw[GK];exact hy);rw[TK U y hy,eH]at this;exact this)
    have JT:=I (λh=>GI U y hy jG.out h);have Cr:=I (lG U y);have JS:=I (af5 U y);have JR:=I (yR U y);rw[fq]at CS yn JT Cr JS;clear hL fq;generalize aiP:cU U y=ij at *;generalize hg U y=xf at *;generalize U[y]=x at *;clear aiP;by_cases ah:x=0
    .have e8:res=none:=CS.out ah;subst ah;have nb:=I e8;have ts:=I (aK.out.trans (hbel.out.mono aK.out.size));clear e8;go_wp2;go_ret2;rw[nb.out];exact⟨rfl,ts⟩
    .have nw:0<x:=by omega
     have mO:=yn.out;rw[aA nw]at mO;have ac3:=I mO;have l7:=JT.out nw;have lL:=tB.out x xf;have Ei:=mA.out wr.drew au.heap.size (hJ acc) acc.length (hJ ij) x (by omega) (by have:=Gv ij JR.out;rw[Cr.out]at this;exact Nat.lt_trans (gV this (dD (n:=2) (j:=11) (by omega) dV)) (by decide)) (by omega) dZ.out.drew;have eE:=ahk acc ij JR.out;rw[Cr.out]at eE;rw[eE]at Ei;rw[<-JS.out]at lL;have Sb:=I Ei;have ac5:=I (λW=>lL W dV l7);have hL:=FP.out;have rf:=Rc.out;have Hlen:Hid ((acc++ij).length=acc.length+x):=I (by rw[aY,Cr.out]);clear mO Ei eE lL yn CS JT tB mA dZ FP Rc Cr JS JR;generalize hJ ij=axg at *;have ox:decide (U.length<=y)=false:=aT;have sC:((x:Int) == 0)=false:=cz
     go_wp2_with fail
     refine wp_region_held_drew (S:=(λW=>Below au.heap.size au W)) (by kernel_rfl) (by exact hbel.out.drew) (λhHeld=>?_);refine ch 0 {dst:=some 36,op:=.move (.tmp 6),type:=112,pos:= "litcode.go:64",after:=#[],guard:=none} ?_ rfl (Or.inl ⟨by rfl,?_⟩) ?_;rotate_left
     ·(intro w hSw;(try dsimp only at hSw);go_simp;(try with_reducible rfl))
     try simp only[bx]
     refine ch 1 {dst:=some 37,op:=.move (.tmp 10),type:=5,pos:= "litcode.go:64",after:=#[],guard:=none} ?_ rfl (Or.inl ⟨by rfl,?_⟩) ?_;rotate_left
     ·(intro w hSw;(try dsimp only at hSw);go_simp;(try with_reducible rfl))
     try simp only[bx]
     refine ch 2 {dst:=some 38,op:=.indexAddr 112 (.tmp 36) (.tmp 37),type:=0,pos:= "litcode.go:64",after:=#[{on:=0,ground:=.data},{on:=1,ground:=.data}],guard:=none} ?_ rfl (Or.inl ⟨by rfl,?_⟩) ?_;rotate_left
     ·(intro w hSw;(try dsimp only at hSw);go_simp;(try with_reducible rfl))
     try simp only[bx]
     refine ch 3 {dst:=some 39,op:=.load 3 (.tmp 38),type:=3,pos:= "litcode.go:64",after:=#[{on:=2,ground:=.data}],guard:=none} ?_ rfl (Or.inl ⟨by rfl,?_⟩) ?_;rotate_left
     ·(intro w hSw;(try dsimp only at hSw);go_simp;(try with_reducible rfl))
     try simp only[bx]
     refine ch 4 {dst:=some 40,op:=.move (.tmp 0),type:=112,pos:= "litcode.go:64",after:=#[],guard:=none} ?_ rfl (Or.inl ⟨by rfl,?_⟩) ?_;rotate_left
     ·(intro w hSw;(try dsimp only at hSw);go_simp;(try with_reducible rfl))
     try simp only[bx]
     refine ch 5 {dst:=some 41,op:=.move (.tmp 10),type:=5,pos:= "litcode.go:64",after:=#[],guard:=none} ?_ rfl (Or.inl ⟨by rfl,?_⟩) ?_;rotate_left
     ·(intro w hSw;(try dsimp only at hSw);go_simp;(try with_reducible rfl))
     try simp only[bx]
     refine ch 6 {dst:=some 42,op:=.indexAddr 112 (.tmp 40) (.tmp 41),type:=0,pos:= "litcode.go:64",after:=#[{on:=4,ground:=.data},{on:=5,ground:=.data}],guard:=none} ?_ rfl (Or.inl ⟨by rfl,?_⟩) ?_;rotate_left
     ·(intro w hSw;(try dsimp only at hSw);go_simp;(try with_reducible rfl))
     try simp only[bx]
     refine ch 7 {dst:=some 43,op:=.load 3 (.tmp 42),type:=3,pos:= "litcode.go:64",after:=#[{on:=6,ground:=.data}],guard:=none} ?_ rfl (Or.inl ⟨by rfl,?_⟩) ?_;rotate_left
     ·(intro w hSw;(try dsimp only at hSw);go_simp;(try with_reducible rfl))
     try simp only[bx]
     refine ch 9 {dst:=some 45,op:=.move (.tmp 0),type:=112,pos:= "litcode.go:64",after:=#[],guard:=none} ?_ rfl (Or.inl ⟨by rfl,?_⟩) ?_;rotate_left
     ·(intro w hSw;(try dsimp only at hSw);go_simp;(try with_reducible rfl))
     try simp only[bx]
     refine ch 10 {dst:=some 46,op:=.move (.tmp 10),type:=5,pos:= "litcode.go:64",after:=#[],guard:=none} ?_ rfl (Or.inl ⟨by rfl,?_⟩) ?_;rotate_left
     ·(intro w hSw;(try dsimp only at hSw);go_simp;(try with_reducible rfl))
     try simp only[bx]
     refine ch 11 {dst:=some 47,op:=.indexAddr 112 (.tmp 45) (.tmp 46),type:=0,pos:= "litcode.go:64",after:=#[{on:=9,ground:=.data},{on:=10,ground:=.data}],guard:=none} ?_ rfl (Or.inl ⟨by rfl,?_⟩) ?_;rotate_left
     ·(intro w hSw;(try dsimp only at hSw);go_simp;(try with_reducible rfl))
     try simp only[bx]
     refine ch 12 {dst:=some 48,op:=.load 3 (.tmp 47),type:=3,pos:= "litcode.go:64",after:=#[{on:=11,ground:=.data}],guard:=none} ?_ rfl (Or.inl ⟨by rfl,?_⟩) ?_;rotate_left
     ·(intro w hSw;(try dsimp only at hSw);go_simp;(try with_reducible rfl))
     try simp only[bx]
     refine iq 8 {dst:=some 44,op:=.call {callee:=.value (.func 143),args:=#[.tmp 39,.tmp 43],argTypes:=#[3,3]},type:=132,pos:= "litcode.go:64",after:=#[{on:=3,ground:=.data},{on:=7,ground:=.data}],guard:=none} rfl (λK hK=>?_);go_simp
     (go_at_call 143;refine(ac5.out _).mono ?_;rintro e w' ⟨rfl,rfl⟩)
     go_simp;refine hK.out _ _ (by with_reducible assumption) (λhHeld=>?_);clear hK K
     try simp only[bx]
     refine iq 13 {dst:=some 49,op:=.call {callee:=.value (.func 99),args:=#[.tmp 8,.tmp 44,.tmp 48],argTypes:=#[153,132,3]},type:=4,pos:= "litcode.go:64",after:=#[{on:=8,ground:=.data},{on:=12,ground:=.data},{on:=8,ground:=.chain}],guard:=none} rfl (λK hK=>?_);go_simp
     (go_at_call 99;refine Sb.out.mono ?_;rintro e a1 ⟨rfl,xN,cs⟩;have AF:=I xN;have bE:Hid (Below au.heap.size au a1):=I (hbel.out.drew.grown cs hbel.out.size (λk e=>by injection e with e;omega));clear xN cs Sb)
     go_simp;refine hK.out _ _ (by exact bE) (λhHeld=>?_);clear hK K
     try simp only[bx]
     refine wpAnyH_done (by kernel_rfl) ?_ _;rw[<-Hlen.out]at AF;clear hL rf ox sC;go_wp2;go_roundw
     case rel=>exact⟨k+1,acc++ij,by omega,by go_num,by rw[Hlen.out];omega,ac3,AF,bE⟩
     case measure=>simp[intOf];omega
   .have ox:decide (U.length<=y)=true:=cl;have e8:res=none:=CS.out (by rw[getElem?_eq_none (by omega)];rfl);have nb:=I e8;have ts:=I (aK.out.trans (hbel.out.mono aK.out.size));clear e8 CS yn;go_wp2;go_ret2;rw[nb.out];exact⟨rfl,ts⟩
  .obtain rfl:k=bs.length:=by omega
   rw[take_length]at henc;have cO:res=some (ph acc):=by rw[bt.out,q7,henc.out,map_some]
   have l1:=I cO;have jz:=AS au.heap.size 0 _ _ wr (by omega) dZ.out;rw[ahi,<-O2]at jz;have jX:=I jz;have hlt2:=ZQ acc;have kL:Hid (∀W A c,Reads W A (aN (ph acc))->(convert 87 9 (.slice A (ph acc).length c)).run prog W=.ok (.string (strOf (ph acc))) W):=I (λW A c bp=>o3 W A c _ hlt2 bp);clear cO jz dZ henc hlt2 c8 mA tB;generalize ph acc=rK at *;go_wp2_with fail
   refine jX.out.mono ?_;rintro e bA ⟨g4,rfl,cA,j6,a8⟩;have hcv:=kL.out bA _ rK.length (oK j6);have cx:=I (aK.out.trans ((hbel.out.trans (a8.mono hbel.out.size)).mono aK.out.size));clear j6 a8 hbel jX kL;go_wp2;go_ret2;rw[l1.out];exact⟨rfl,cx⟩
namespace ao
theorem as8(U:ae):mD (U.map λn:Nat=>(n:Int))↔fw U:=by
 have e:(U.map λn:Nat=>(n:Int)).map Int.toNat=U:=by
  rw[List.map_map];conv=>rhs;rw[<-List.map_id U]
  apply map_congr_left
  intro x _;simp
 unfold mD;rw[e];refine⟨λh=>h.2,λh=>⟨⟨by rw[cQ];exact h.1,λx ah=>?_⟩,h⟩⟩;obtain⟨y,hy,rfl⟩:=List.mem_map.1 ah;have:=h.2.1 y hy;omega
def pj(F:Nat->Nat)(n i:Nat):ae:=(List.range i).map F++List.replicate (n-i) 0
theorem apH(F:Nat->Nat)(n:Nat):pj F n 0=List.replicate n 0:=by simp[pj]
theorem apE(F:Nat->Nat)(n:Nat):pj F n n=(List.range n).map F:=by simp[pj]
theorem apF(F:Nat->Nat)(n i:Nat)(h:i<=n):(pj F n i).length=n:=by simp[pj];omega
theorem apG(F:Nat->Nat)(n i:Nat)(h:i<n):pj F n (i+1)=(pj F n i).set i (F i):=by
 unfold pj;have h1:((List.range i).map F).length=i:=by simp
 rw[set_append_right _ _ (by omega),h1,Nat.sub_self,range_succ,map_append,dj];congr 1
 obtain⟨m,hm⟩:∃m,n-i=m+1:=⟨n-i-1,by omega⟩;rw[hm,show n-(i+1)=m by omega,replicate_succ];simp
end ao
theorem Y3(w:ai)(b x k:Nat)(bs f bN l:ae)(xX wn:Left)(F P:Nat->Nat)(res:Option (ae×Nat))(ah:x=bd f)(oC:x<256)(hk:k=(x+2)/2)(cr:∀y∈bs,y<256)(dY:bs.length<=10000)
  (h1:eR 1 (some bs)=(f,xX)) (af:eR k xX=(bN,wn)) (cX:∀y∈bN,y<256) (pS:bN.length<=10000) (hl:l=(List.range (x+1)).map F) (hF:∀i,F i<16) (vt:P 0=0) (UZ:P (x+1)<=8*bN.length)
  (cp:∀(W:ai) (dL i:Nat),i<x+1->eB W dL 0 bN (P i)->Calls prog 177 #[.pointer (some ⟨dL,0,none⟩),.int .i64 4] W λe w'=>(∃ok,e=.returned (.tuple #[.int .u32 (F i),.bool ok]))/\eB w' dL 0 bN (P (i+1))/\W.grownBy w' (some dL))
  (cd:∀t,wn=some t->o7 bN (P (x+1))->fw l->l[x]?.getD 0≠0->∃q,res=some (l,q)/\bs.drop q=t)
  (kS:(wn=none\/¬o7 bN (P (x+1))\/¬fw l\/l[x]?.getD 0=0)->res=none)
  (hc:bJ w b (some bs)) :
  Calls prog 144 #[.pointer (some ⟨b,0,none⟩)] w λe w'=>Gm w' b bs e res/\w.grownBy w' (some b):=by
 obtain⟨i0,ax,bB,bK,bw⟩:=info_parts oF;have c0:=Row.cell hc 0;have c1:=Row.cell hc 1;simp only[qF,dR,dU]at c0 c1;have gn:=I hc;obtain⟨w0,vT⟩:∃w0,w0=w.alloc (.cells #[.string (strOf bs),.bool false] 73):=⟨_,rfl⟩;have vB:bJ w0 w.heap.size (some bs):=by rw[vT];exact Row.new w 73 _
 have dg:Below w.heap.size w w0:=by rw[vT];exact dQ.alloc bh _
 have eh:=E6 w.heap.size (some bs) 1 w0 (by omega) (by omega) ⟨cr,by omega⟩ vB;rw[show hi 1=1 from by decide,h1]at eh;dsimp only at eh;rw[<-ah]at eh;have gq:=I eh;have ef:Hid (∀(W:ai) (z:Int),z=(k:Int)->bJ W w.heap.size xX->Calls prog 42 #[.pointer (some ⟨w.heap.size,0,none⟩),.int .i64 z] W λe w'=>e=.returned (.string (strOf bN))/\bJ w' w.heap.size wn/\W.grownBy w' (some w.heap.size)):=I (λW z aO fh=>by
  have h:=tc w.heap.size xX z W fh;rw[aO,cY,af]at h;rw[aO];exact h)
 have dW:=I dg;have mW:=I cp;have dx:=I cd;have wS:=I kS;have jo:=I hF;have e1:=I hl;have jZ:=I cX;have QC:=I vt;clear hc vB dg eh ah cp cd kS hF hl h1 af cX vt cr;go_enter func144,ntmps144
 go_wp2_with fail
 rw[<-vT];clear vT c0 c1;refine gq.out.mono ?_;rintro e iN ⟨rfl,VM,ub⟩;have Ri:=I VM;have uH:Hid (Below w.heap.size w iN):=I (dW.out.grown ub dW.out.size (λk e=>by injection e with e;omega));clear VM ub gq dW;go_wp2_with fail
 refine(ef.out _ _ (by omega) Ri.out).mono ?_;rintro e iv ⟨rfl,MA,lM⟩;obtain⟨wc,cap,eD,hcells,kj⟩:=oo iv bN jZ.out;have Xf:Reads wc (some ⟨iv.heap.size,0,none⟩) (aN bN):=λ_=>⟨_,_,rfl,λj ar=>by
  rw[jn]at ar;rw[eH,hcells j ar,jF bN j ar]⟩
 have ky:Below w.heap.size w iv:=uH.out.grown lM uH.out.size (λk e=>by injection e with e;omega);have hbc2:=ky.trans (kj.mono ky.size);have Rj:=I (MA.below kj);have CT:=I (ES (some ⟨iv.heap.size,0,none⟩) cap bN wc jZ.out Xf);have uI:=I hbc2;have avY:w.heap.size<wc.heap.size:=gV MA.lt kj.size;clear MA lM hcells kj Xf ky hbc2 uH Ri ef;go_wp2_with fail
 refine CT.out.mono ?_;rintro e wd ⟨rfl,cO,np⟩;have l1:=I cO;have Rk:=I (Rj.out.below np);have wz:=b9 uI np;have avT:wc.heap.size<wd.heap.size:=cO.2.2.2;clear cO np Rj uI CT eD;go_wp2_with (at_make;refine wpList_make_full _ rfl _ _ 112 rfl w.heap.size 3 i0 (.int .i64 0) 1 underlying112 ax bB bK .i64 .i64 _ _ (x+1) rfl rfl ?c1 ?c1 ?c2 ?c3 ?c4 ?_)
 case c1=>omega
 case c2=>first | omega | (rw[bw];omega)
 case c3=>unfold maxLen;omega
 try case c4=>omega
 intro we WU fq;have xr:=k8 fq;have xE:=ut WU;have tE:=I xE;have Sm:=I (l1.out.keep fq (by simp));have Rl:=I (Rk.out.below xr);have QZ:=b9 wz xr;clear WU fq xr xE ax bB bK bw l1 Rk wz;generalize wd.heap.size=il at *;generalize wc.heap.size=dL at *;go_wp2;go_loopw [29] (λbV wr=>∃i:Nat,i<=x+1/\bV=.int .i64 i/\Hid (eB wr dL 0 bN (P i))/\Hid (Row wr il 3 (aM (pj F (x+1) i)))/\Hid (bJ wr w.heap.size wn)/\Hid (Below w.heap.size w wr)) (λbV _=>x+1-(intOf bV).toNat)
 case atStart=>exact⟨0,by omega,rfl,I (by rw[QC.out];exact Sm.out),I (by rw[apH];exact tE),Rl,QZ⟩
 case round=>
  obtain⟨i,ajy,rfl,cO,hrow,fh,hbel⟩:=hrel;clear Sm tE Rl QZ;by_cases HF:i<x+1
  .have iH:=mW.out wr dL i HF cO.out;have auL:=jo.out i;have gS:=apG F (x+1) i HF;have kR:=apF F (x+1) i (by omega);have ek:=I iH;have gG:Hid (∀W,Row W il 3 (aM (pj F (x+1) i))->Row (W.setCell ⟨il,i,none⟩ (.int .i64 (F i))) il 3 (aM (pj F (x+1) (i+1)))):=I (λW h=>by
    have h1:=h.bm i (.int .i64 (F i));rw[gS,show aM ((pj F (x+1) i).set i (F i))=(aM (pj F (x+1) i)).set i (.int .i64 (F i)) by simp[aM,map_set]];exact h1)
   have Ao:=I kR;clear iH gS kR;generalize F i=v at *;go_wp2_with fail
   refine ek.out.mono ?_;rintro e aB ⟨⟨ok,rfl⟩,ru,bl⟩;have hrow2:Row aB il 3 (aM (pj F (x+1) i)):=hrow.out.keep (bl.block il hrow.out.lt (λe=>by injection e with e;omega));have hcell:∃u,aB.cell? ⟨il,i,none⟩=some u:=⟨_,(hrow2.cell i).trans (bH (by rw[gw,Ao.out];omega))⟩;obtain⟨u0,jO⟩:=hcell;have HA:aB.frozen? ⟨il,i,none⟩=false:=hrow2.free i;have kq:=I (gG.out aB hrow2);have gj:bJ aB w.heap.size wn:=fh.out.keep bl (λe=>by injection e with e;omega);have rv:eB (aB.setCell ⟨il,i,none⟩ (.int .i64 v)) dL 0 bN (P (i+1)):=ru.keep (row:=some il) (hz (dl aB (some il)) i _) (λe=>by injection e with e;omega);have yA:=I rv;have acX:Hid (bJ (aB.setCell ⟨il,i,none⟩ (.int .i64 v)) w.heap.size wn):=I (gj.keep (row:=some il) (hz (dl aB (some il)) i _) (λe=>by injection e with e;omega));have aI:Below w.heap.size w aB:=hbel.out.grown bl hbel.out.size (λk e=>by injection e with e;omega);have bE:=I (aI.setCell (p:=⟨il,i,none⟩) (by show w.heap.size<=il;omega) (.int .i64 v));clear hrow hrow2 fh gj cO ru rv bl hbel aI ek gG Ao;go_wp2;go_roundw
   case rel=>exact⟨i+1,by omega,by go_num,yA,kq,acX,bE⟩
   case measure=>simp[intOf];omega
  .obtain rfl:i=x+1:=by omega
   rw[apE,<-e1.out]at hrow;have iE:l.length=x+1:=by rw[e1.out];simp
   clear mW jo QC e1;have p8:=I (gB w.heap.size wn wr fh);cases wn with
   | none=>
    have bt:=I (wS.out (.inl rfl));clear wS dx;go_wp2_with fail
    refine p8.out.mono ?_;rintro e w' ⟨rfl,rfl⟩;go_wp2;go_ret2;rw[bt.out];exact⟨⟨_,_,rfl⟩,dr hbel.out _⟩
   | some t=>
    have dw:=I (YZ dL bN (P (x+1)) wr pS jZ.out UZ cO);clear cO;by_cases fD:o7 bN (P (x+1))
    .rw[bG fD]at dw;have lD:Hid (∀W,Row W il 3 (aM l)->Calls prog 140 #[.slice (some ⟨il,0,none⟩) (x+1) (x+1)] W λe w'=>e=.returned (.bool (decide (fw l)))/\W=w'):=I (λW h=>by
      have h1:=Qe (some ⟨il,0,none⟩) (x+1) (l.map λn:Nat=>(n:Int)) W (by rw[cQ];omega) (by rw[jT];exact oK h);rw[cQ,iE,decide_eq_decide.2 (as8 l)]at h1;exact h1)
     by_cases bg:fw l
     .rw[bG bg]at lD;have fq:l[x]?.getD 0=l[x]:=by rw[bH (by omega),b6]
      have cd:=dx.out t rfl fD bg;have kS:=λh=>wS.out (.inr (.inr (.inr h)))
      rw[fq]at cd kS;have r2:=I cd;have uS:=I kS;have ly:Hid (∀W,Row W il 3 (aM l)->W.cell? ⟨il,x,none⟩=some (.int .i64 (l[x]:Int))):=I (λW h=>by rw[h.cell x,ja l x (by omega)]);clear fq cd kS wS dx;generalize l[x]=z at *;go_wp2_with fail
      refine p8.out.mono ?_;rintro e w' ⟨rfl,rfl⟩;go_wp2_with fail
      refine dw.out.mono ?_;rintro e aB ⟨rfl,bl⟩;have aI:=hbel.out.grown bl hbel.out.size (λk e=>by injection e with e;omega);have hrow2:Row aB il 3 (aM l):=hrow.out.keep (bl.block il hrow.out.lt (λe=>by injection e with e;omega));have gj:bJ aB w.heap.size (some t):=fh.out.keep bl (λe=>by injection e with e;omega);have aV:=I aI;have gh:=I hrow2;have kK:=I gj;have vh:=ly.out aB hrow2;have d0:=Row.cell gj 0;have d1:=Row.cell gj 1;simp only[qF,dR,dU]at d0 d1;have fo:bJ aB b (some bs):=gn.out.below aI;have e0:=Row.cell fo 0;have aF:=Row.cell fo 1;simp only[qF,dR,dU]at e0 aF;have f0:=Row.free fo 0;have f1:=Row.free fo 1;have gG:Hid (bJ ((aB.setCell ⟨b,0,none⟩ (.string (strOf t))).setCell ⟨b,1,none⟩ (.bool false)) b (some t)):=I (by
       have h:=(Row.bm fo 0 (.string (strOf t))).bm 1 (.bool false);exact h)
      have adg:Hid (w.grownBy ((aB.setCell ⟨b,0,none⟩ (.string (strOf t))).setCell ⟨b,1,none⟩ (.bool false)) (some b)):=I (hz (hz (dr aI (some b)) 0 _) 1 _);have mM:b<w.heap.size:=gn.out.lt;have dB:Hid (Reads ((aB.setCell ⟨b,0,none⟩ (.string (strOf t))).setCell ⟨b,1,none⟩ (.bool false)) (some ⟨il,0,none⟩) (aM l)):=I (oK ((hrow2.cG (p:=⟨b,0,none⟩) (by show il≠b;omega) _).cG (p:=⟨b,1,none⟩) (by show il≠b;omega) _));have Gj:=I (lD.out aB hrow2);have akB:(x:Int)+1-1=x:=by omega
      clear bl aI hrow2 gj fo hbel hrow fh lD ly;by_cases aO:z=0
      .subst aO;have bt:=I (uS.out rfl);clear uS r2 d0 d1 e0 aF f0 f1;go_wp2_with fail
       refine Gj.out.mono ?_;rintro e w' ⟨rfl,rfl⟩;go_wp2;go_ret2;rw[bt.out];exact⟨⟨_,_,rfl⟩,dr aV.out _⟩
      .have aG:((z:Int) == 0)=false:=cz
       obtain⟨q,hres,VT⟩:=r2.out aO;have bt:=I hres;have acZ:=I VT;have FX:=I iE;clear uS r2 hres VT iE;go_wp2_with fail
       refine Gj.out.mono ?_;rintro e w' ⟨rfl,rfl⟩;go_wp2;go_ret2;rw[bt.out];exact⟨⟨some ⟨il,0,none⟩,x+1,by rw[FX.out];rfl,dB.out,by rw[acZ.out];exact gG⟩,adg⟩
     .rw[bF bg]at lD;have bt:=I (wS.out (.inr (.inr (.inl bg))));clear wS dx;go_wp2_with fail
      refine p8.out.mono ?_;rintro e w' ⟨rfl,rfl⟩;go_wp2_with fail
      refine dw.out.mono ?_;rintro e aB ⟨rfl,bl⟩;have hrow2:Row aB il 3 (aM l):=hrow.out.keep (bl.block il hrow.out.lt (λe=>by injection e with e;omega));have Gj:=I (lD.out aB hrow2);have aV:=I (hbel.out.grown bl hbel.out.size (λk e=>by injection e with e;omega));clear bl hrow2 lD;go_wp2_with fail
      refine Gj.out.mono ?_;rintro e w' ⟨rfl,rfl⟩;go_wp2;go_ret2;rw[bt.out];exact⟨⟨_,_,rfl⟩,dr aV.out _⟩
    .rw[bF fD]at dw;have bt:=I (wS.out (.inr (.inl fD)));clear wS dx;go_wp2_with fail
     refine p8.out.mono ?_;rintro e w' ⟨rfl,rfl⟩;go_wp2_with fail
     refine dw.out.mono ?_;rintro e aB ⟨rfl,bl⟩;have aV:=I (hbel.out.grown bl hbel.out.size (λk e=>by injection e with e;omega));clear bl;go_wp2;go_ret2;rw[bt.out];exact⟨⟨_,_,rfl⟩,dr aV.out _⟩
namespace ao
theorem Qh(s:ae)(h:∀x∈s,x<256)(j:Nat):bd s/256^j%256=s[j]?.getD 0:=by
 rcases eP j s.length with ar | ar
 .have e:=K5 s h;have h1:(bytesOf (bd s) s.length)[j]?=s[j]?:=by rw[e]
  rw[afU _ _ _ ar]at h1;rw[<-h1,b6]
 .have aE:=po s h;have:=dD (n:=256) (by omega) ar;rw[div_eq_of_lt (by omega),getElem?_eq_none ar];rfl
theorem Zo(s:ae)(h:∀x∈s,x<256)(i:Nat):bd s/2^(4*i)%2^4=if i%2=1 then s[i/2]?.getD 0/16%16 else s[i/2]?.getD 0%16:=by
 have e:=Qh s h (i/2);rw[ib]at e;split
 .next b8=>
  rw[<-e,show 4*i=8*(i/2)+4 by omega,dM,<-km];omega
 .next b8=>
  rw[<-e,show 4*i=8*(i/2) by omega];omega
theorem aaS:∀l:ae,0<(cB l).length->(cB l)[(cB l).length-1]?.getD 0≠0
 | [],h=>by simp[cB]at h
 | n :: l,h=>by
  unfold cB at h ⊢;split
  .next am=>rw[aA am]at h;simp at h
  .next am=>
   rcases eq_zero_or_pos (cB l).length with h1 | h1
   .have af:=lq h1;rw[af];have aq:l.sum=0:=by
     have:=short_zero l af;have aO:∀l:ae,(∀x∈l,x=0)->l.sum=0:=λl=>by
      induction l with
      | nil=>simp
      | cons a l ih=>
       intro h;rw[sum_cons,h a ea,ih (λx ah=>h x (ew _ ah))]
     exact aO l this
    simp only[b1,length_nil,dR,eH,Nat.sub_self,b6];omega
   .have ih:=aaS l h1;obtain⟨q,hq⟩:∃q,(cB l).length=q+1:=⟨(cB l).length-1,by omega⟩;rw[hq,Nat.add_sub_cancel]at ih;rw[b1,hq,Nat.add_sub_cancel,dU];exact ih
theorem aqI(l:ae)(h:(cB l).length=l.length):cB l=l:=by
 obtain⟨m,hm⟩:=xW l;have e:=congrArg List.length hm;rw[aY,jl]at e;have ip:m=0:=by omega
 subst ip;rw[replicate_zero,append_nil]at hm;exact hm.symm
theorem aaR(l:ae)(h:l[l.length-1]?.getD 0≠0):cB l=l:=by
 have am:0<l.length:=by
  rcases eq_zero_or_pos l.length with h1 | h1
  .rw[lq h1]at h;simp at h
  .exact h1
 have:=PE l l.length bh (λj ar=>by rw[getElem?_eq_none ar];rfl) (.inr h);rwa [take_length]at this
section
variable (y:Nat) (rest bN:ae) (hy:y<256) (ak:∀x∈y :: rest,x<256) (hk:(y+2)/2<=rest.length) (cX:bN=rest.take ((y+2)/2))
include cX in
theorem Pk(j:Nat)(ar:j<(y+2)/2):bN[j]?.getD 0=(y :: rest)[1+j]?.getD 0:=by
 rw[cX,getElem?_take_of_lt ar,Nat.add_comm,dU]
include hk cX in
theorem Pl:bN.length=(y+2)/2:=by rw[cX,cq];omega
include ak cX in
theorem IC:∀x∈bN,x<256:=λx ah=>ak x (ew _ (mem_of_mem_take (by rw[<-cX];exact ah)))
include ak cX in
theorem amN(i:Nat)(ax:i<y+1):bd bN/2^(4*i)%2^4=oH (y :: rest) i:=by
 rw[Zo bN (IC y rest bN ak cX),oH,Pk y rest bN cX (i/2) (by omega)]
include ak cX in
theorem amP:(List.range (y+1)).map (λi=>bd bN/2^(4*i)%2^4)=fH (y :: rest) (y+1):=by
 unfold fH;apply map_congr_left
 intro i ax;exact amN y rest bN ak cX i (List.mem_range.1 ax)
theorem Zp(i:Nat)(ax:i<y+1):(fH (y :: rest) (y+1))[i]?.getD 0=oH (y :: rest) i:=by
 unfold fH;rw[getElem?_map,getElem?_range ax];rfl
include ak hk cX in
theorem ahm:o7 bN (4*(y+1))↔(y%2=0->bN[y/2]?.getD 0/16=0):=by
 have hl:=Pl y rest bN hk cX;have av:=IC y rest bN ak cX;have hm:bN[y/2]?.getD 0<256:=by
  rcases h:bN[y/2]? with _ | v
  .simp
  .exact av v (mem_of_getElem? h)
 rw[YU bN av _ (by omega),hl];by_cases he:y%2=0
 .have e:=Zo bN av (y+1);rw[aA (by omega),show(y+1)/2=y/2 by omega]at e;rw[show 8*((y+2)/2)-4*(y+1)=4 by omega,e];constructor
  .intro h _;omega
  .intro h;have:=h he;omega
 .rw[show 8*((y+2)/2)-4*(y+1)=0 by omega];constructor
  .intro _ h;omega
  .intro _;exact⟨by omega,by rw[Nat.pow_zero,mod_one]⟩
include ak hk cX in
theorem abF:gY (fH (y :: rest) (y+1))=(y :: rest).take (1+(y+2)/2)↔o7 bN (4*(y+1)):=by
 rw[ahm y rest bN ak hk cX];have hl:=Pl y rest bN hk cX;have av:=IC y rest bN ak cX;have az:=zK (y :: rest) (y+1);have aC:(y :: rest).take (1+(y+2)/2)=y :: bN:=by rw[Nat.add_comm,take_succ_cons,cX]
 have hlt2:∀j:Nat,bN[j]?.getD 0<256:=λj=>by
  rcases h:bN[j]? with _ | v
  .simp
  .exact av v (mem_of_getElem? h)
 have WW:∀j:Nat,j<(y+2)/2->(lS (fH (y :: rest) (y+1)) j=bN[j]?.getD 0↔(2*j=y->bN[j]?.getD 0/16=0)):=λj ar=>by
  have aF:=Zp y rest (2*j) (by omega);have b4:oH (y :: rest) (2*j)=bN[j]?.getD 0%16:=by
   rw[oH,ay (by omega),Pk y rest bN cX j ar,show 2*j/2=j by omega]
  have:=hlt2 j;unfold lS;rw[aF,b4];by_cases af:2*j=y
  .have e0:(fH (y :: rest) (y+1))[2*j+1]?.getD 0=0:=by rw[getElem?_eq_none (by rw[az];omega),getD_none]
   rw[e0];constructor
   .intro h _;omega
   .intro h;have:=h af;omega
  .have e2:=Zp y rest (2*j+1) (by omega);have bT:oH (y :: rest) (2*j+1)=bN[j]?.getD 0/16%16:=by
    rw[oH,aA (by omega),Pk y rest bN cX j ar,show(2*j+1)/2=j by omega]
   rw[e2,bT];constructor
   .intro _ h;exact absurd h af
   .intro _;omega
 rw[aC];unfold gY;rw[az,Nat.add_sub_cancel,show(y+1+1)/2=(y+2)/2 by omega];constructor
 .intro h he;injection h with _ h
  have ar:y/2<(y+2)/2:=by omega
  have h1:((List.range ((y+2)/2)).map (lS (fH (y :: rest) (y+1))))[y/2]?=bN[y/2]?:=by rw[h]
  rw[getElem?_map,getElem?_range ar,map_some]at h1;exact(WW (y/2) ar).1 (by rw[<-h1,b6]) (by omega)
 .intro h;congr 1
  apply ext_getElem
  .rw[cQ,length_range,hl]
  .intro j h1 af;rw[cQ,length_range]at h1;rw[getElem_map,getElem_range,(WW j h1).2 (λe=>by rw[show j=y/2 by omega];exact h (by omega)),bH af,b6]
include ak hk cX in
theorem apb(fD:o7 bN (4*(y+1)))(bg:fw (fH (y :: rest) (y+1)))(az:(fH (y :: rest) (y+1))[y]?.getD 0≠0):jc (y :: rest)=some (fH (y :: rest) (y+1),1+(y+2)/2):=by
 have hl:=zK (y :: rest) (y+1);have ap:=aaR (fH (y :: rest) (y+1)) (by rw[hl,Nat.add_sub_cancel];exact az);unfold jc;rw[dR,b6,ay (by simp),ay (by rw[b1];omega),ap,aA ⟨bg,(abF y rest bN ak hk cX).2 fD⟩]
include ak hk cX in
theorem apa(h:¬o7 bN (4*(y+1))\/¬fw (fH (y :: rest) (y+1))\/(fH (y :: rest) (y+1))[y]?.getD 0=0):jc (y :: rest)=none:=by
 have hl:=zK (y :: rest) (y+1);unfold jc;rw[dR,b6,ay (by simp),ay (by rw[b1];omega)];split
 .next hc=>
  exfalso
  obtain⟨bg,aC⟩:=hc;have am:=(Jb _ bg).2;have hh:(cB (fH (y :: rest) (y+1))).length-1=y:=by
   have:=congrArg (λl=>l[0]?.getD 0) aC;rw[Nat.add_comm 1,take_succ_cons]at this;simpa [gY]using this
  have ap:=aqI (fH (y :: rest) (y+1)) (by rw[hl];omega);rw[ap]at aC;have fD:=(abF y rest bN ak hk cX).1 aC;have hlast:=aaS _ am;rw[ap,hl,Nat.add_sub_cancel]at hlast;rcases h with h | h | h
  .exact h fD
  .exact h bg
  .exact hlast h
 .rfl
end
end ao
theorem Y2(w:ai)(b x:Nat)(bs f:ae)(xX:Left)(ah:x=bd f)(oC:x<256)(cr:∀y∈bs,y<256)(dY:bs.length<=10000)
  (h1:eR 1 (some bs)=(f,xX)) (af:eR ((x+2)/2) xX=([],none)) (hres:jc bs=none) (hc:bJ w b (some bs)) :
  Calls prog 144 #[.pointer (some ⟨b,0,none⟩)] w λe w'=>Gm w' b bs e (jc bs)/\w.grownBy w' (some b):=by
 refine Y3 w b x ((x+2)/2) bs f [] ((List.range (x+1)).map λ_=>0) xX none (λ_=>0) (λ_=>0) _ ah oC rfl cr dY h1 af (by simp) (by simp) rfl (λ_=>by omega) rfl (by simp) ?_ ?_ (λ_=>hres) hc
 .intro W dL i _ cO;refine(Fm dL 0 [] 0 4 W (by simp) (by simp) (by omega) (by simp) cO).mono ?_;rintro e w' ⟨rfl,k,rfl⟩;exact⟨⟨false,rfl⟩,cO.drewN k,qq (dl _ _) k⟩
 .intro t aC;cases aC
theorem ame:aem:=by
 intro w b bs hl ak hc;rcases bs with _ | ⟨y,rest⟩
 .exact Y2 w b 0 [] [] none rfl (by omega) ak hl rfl rfl rfl hc
 .have hy:y<256:=ak y ea;have h1:eR 1 (some (y :: rest))=([y],some rest):=by simp[eR]
  have aE:y=bd [y]:=by simp[bd]
  by_cases hk:(y+2)/2<=rest.length
  .have af:eR ((y+2)/2) (some rest)=(rest.take ((y+2)/2),some (rest.drop ((y+2)/2))):=by exact aA hk
   obtain⟨bN,cX⟩:∃bN,bN=rest.take ((y+2)/2):=⟨_,rfl⟩;have pS:=Pl y rest bN hk cX;have lO:=IC y rest bN ak cX;have l9:=amP y rest bN ak cX;have hyes:=apb y rest bN ak hk cX;have fe:=apa y rest bN ak hk cX;rw[<-cX]at af;refine Y3 w b y ((y+2)/2) (y :: rest) [y] bN (fH (y :: rest) (y+1)) (some rest) (some (rest.drop ((y+2)/2))) (λi=>bd bN/2^(4*i)%2^4) (λi=>4*i) _ aE hy rfl ak hl h1 af lO (by omega) l9.symm (λi=>mod_lt _ (by decide)) rfl (by omega) ?_ ?_ ?_ hc
   .intro W dL i ax cO;refine(ux dL 0 bN (4*i) 4 W (by omega) lO (by omega) (by omega) cO).mono ?_;rintro e w' ⟨rfl,aq,aJ⟩;exact⟨⟨true,rfl⟩,by rw[show 4*(i+1)=4*i+4 by omega];exact aq,aJ⟩
   .intro t aC fD bg az;injection aC with aC
    exact⟨_,hyes fD bg az,by rw[Nat.add_comm,drop_succ_cons];exact aC⟩
   .rintro(h | h)
    .cases h
    .exact fe h
  .have af:eR ((y+2)/2) (some rest)=([],none):=by exact ay hk
   refine Y2 w b y (y :: rest) [y] (some rest) aE hy ak hl h1 af ?_ hc;unfold jc;rw[dR,b6,ay (by simp),aA (by rw[b1];omega)]
def hT{α:Type}(f h:α->Value):List α->b3
 | []=>[]
 | x :: l=>f x :: h x :: hT f h l
section
variable {α:Type} {f h:α->Value}
theorem xd(l:List α):(hT f h l).length=l.length*2:=by
 induction l with
 | nil=>rfl
 | cons x l ih=>rw[hT,b1,b1,ih,b1];omega
theorem K8(l m:List α):hT f h (l++m)=hT f h l++hT f h m:=by
 induction l with
 | nil=>rfl
 | cons x l ih=>rw[cons_append,hT,ih,hT];rfl
theorem Tx(l:List α)(i:Nat)(ax:i<l.length):(hT f h l)[i*2]?=some (f l[i])/\(hT f h l)[i*2+1]?=some (h l[i]):=by
 induction l generalizing i with
 | nil=>simp at ax
 | cons x l ih=>
  cases i with
  | zero=>exact⟨rfl,rfl⟩
  | succ i=>
   have h1:=ih i (by simpa using ax);rw[hT,show(i+1)*2=i*2+1+1 by omega];exact h1
theorem Tz(l:List α)(i:Nat)(x:α)(ax:i<l.length):((hT f h l).set (i*2) (f x)).set (i*2+1) (h x)=hT f h (l.set i x):=by
 induction l generalizing i with
 | nil=>simp at ax
 | cons y l ih=>
  cases i with
  | zero=>rfl
  | succ i=>
   have h1:=ih i (by simpa using ax);rw[hT,show(i+1)*2=i*2+1+1 by omega,set_cons_succ,set_cons_succ,set_cons_succ,set_cons_succ,h1];rfl
theorem af6(l:List α)(k:Nat):hT f h (l.take k)=(hT f h l).take (k*2):=by
 induction l generalizing k with
 | nil=>simp[hT]
 | cons x l ih=>
  cases k with
  | zero=>simp[hT]
  | succ k=>
   rw[take_succ_cons,hT,ih,hT,show(k+1)*2=k*2+1+1 by omega,take_succ_cons,take_succ_cons]
end
def swp{α:Type}(d:α)(l:List α)(i j:Nat):List α:=(l.set i (l[j]?.getD d)).set j (l[i]?.getD d)
theorem IZ{α:Type}(d:α)(l:List α)(i j:Nat):(swp d l i j).length=l.length:=by simp[swp]
section
variable {α:Type} {f h:α->Value} {w w':ai} {g:Nat} {t:TypeId} {post:b3}
theorem wi{l:List α}(aj:Row w g t (hT f h l++post))(i:Nat)(ax:i<l.length):w.cell? ⟨g,i*2,none⟩=some (f l[i])/\w.cell? ⟨g,i*2+1,none⟩=some (h l[i]):=by
 obtain⟨h1,af⟩:=Tx (f:=f) (h:=h) l i ax;have hl:=xd (f:=f) (h:=h) l;rw[aj.cell,aj.cell,hZ (by omega),hZ (by omega)];exact⟨h1,af⟩
theorem aas{l:List α}(aj:Row w g t (hT f h l++post))(i:Nat)(ax:i<l.length)(x:α):Row ((w.setCell ⟨g,i*2,none⟩ (f x)).setCell ⟨g,i*2+1,none⟩ (h x)) g t (hT f h (l.set i x)++post):=by
 have hl:=xd (f:=f) (h:=h) l;have h1:=(aj.bm (i*2) (f x)).bm (i*2+1) (h x);rw[set_append_left _ _ (by omega),set_append_left _ _ (by rw[length_set];omega),Tz l i x ax]at h1;exact h1
theorem aat{l:List α}{d:α}(aj:Row w g t (hT f h l++post))(i j:Nat)(ax:i<l.length)(ar:j<l.length) :
  Row ((((w.setCell ⟨g,i*2,none⟩ (f l[j])).setCell ⟨g,i*2+1,none⟩ (h l[j])).setCell ⟨g,j*2,none⟩ (f l[i])).setCell ⟨g,j*2+1,none⟩ (h l[i])) g t (hT f h (swp d l i j)++post):=by
 have h1:=aas (aas aj i ax l[j]) j (by simpa using ar) l[i];unfold swp;rw[bH ax,bH ar];exact h1
theorem DA(w:ai)(g a b c d:Nat)(u v x y:Value):w.grownBy ((((w.setCell ⟨g,a,none⟩ u).setCell ⟨g,b,none⟩ v).setCell ⟨g,c,none⟩ x).setCell ⟨g,d,none⟩ y) (some g):=
 hz (hz (hz (hz (dl w (some g)) _ _) _ _) _ _) _ _
end
abbrev h3:=Nat×Nat
def n2(t:h3):Value:=.int .i64 (t.1:Int)
def n1(t:h3):Value:=.int .i64 (t.2:Int)
def bT(l:List h3):b3:=hT n2 n1 l
namespace ao
def gN(a b:Nat×Nat):Prop:=a.1<b.1\/(a.1=b.1/\a.2<b.2)
instance (a b:Nat×Nat):Decidable (gN a b):=by unfold gN;exact inferInstance
end ao
theorem I8(A:a7)(n c:Nat)(w:ai):Calls prog 168 #[.slice A n c] w λe w'=>e=.returned (.int .i64 n)/\w=w':=by
 go_enter func168,ntmps168
 go_wp2;go_ret;exact⟨rfl,rfl⟩
theorem asG(g n c i j:Nat)(x y:h3)(w:ai)(ax:i<n)(ar:j<n)(am:w.cell? ⟨g,i*2,none⟩=some (n2 x)/\w.cell? ⟨g,i*2+1,none⟩=some (n1 x))(h1:w.cell? ⟨g,j*2,none⟩=some (n2 y)/\w.cell? ⟨g,j*2+1,none⟩=some (n1 y)) :
  Calls prog 255 #[.slice (some ⟨g,0,none⟩) n c,.int .i64 i,.int .i64 j] w λe w'=>e=.returned (.bool (decide (gN x y)))/\Below w.heap.size w w':=by
 obtain⟨a,p⟩:=x;obtain⟨b,q⟩:=y;obtain⟨c0,c1⟩:=am;obtain⟨bC,bf⟩:=h1;simp only[n2,n1]at c0 c1 bC bf;obtain⟨r,aj⟩:∃r,r=decide (gN (a,p) (b,q)):=⟨_,rfl⟩;rw[<-aj];have aU:=I aj;clear aj;by_cases nl:a=b
 .subst nl;have j3:((a:Int) == (a:Int))=true:=by simp
  have bk:Hid (decide (p<q)=r):=I (by rw[aU.out,decide_eq_decide];unfold gN;simp);go_enter func255,ntmps255
  go_wp2_with fail
  go_quiet (fail)
  go_wp2_with fail
  go_quiet (fail)
  go_wp2;go_ret;exact⟨congrArg (λx=>Ending.returned (Value.bool x)) bk,below_drewN (below_drewN dQ _) _⟩
 .have j3:((a:Int) == (b:Int))=false:=by simp;omega
  have bk:Hid (decide (a<b)=r):=I (by rw[aU.out,decide_eq_decide];unfold gN;simp;omega);go_enter func255,ntmps255
  go_wp2_with fail
  go_quiet (fail)
  go_wp2_with fail
  go_quiet (fail)
  go_wp2;go_ret;exact⟨congrArg (λx=>Ending.returned (Value.bool x)) bk,below_drewN (below_drewN dQ _) _⟩
theorem asJ(g c i j:Nat)(L:List h3)(post:b3)(w:ai)(ax:i<L.length)(ar:j<L.length)(aj:Row w g 223 (bT L++post)) :
  Calls prog 258 #[.slice (some ⟨g,0,none⟩) L.length c,.int .i64 i,.int .i64 j] w λe w'=>e=.returned (.tuple #[])/\Row w' g 223 (bT (swp (0,0) L i j)++post)/\w.grownBy w' (some g):=by
 obtain⟨c0,c1⟩:=wi (f:=n2) (h:=n1) aj i ax;obtain⟨bC,bf⟩:=wi (f:=n2) (h:=n1) aj j ar;have f0:=aj.free (i*2);have f1:=aj.free (i*2+1);have f2:=aj.free (j*2);have f3:=aj.free (j*2+1);have ap:=aat (f:=n2) (h:=n1) (d:=(0,0)) aj i j ax ar;have bU:=I ap;clear ap aj;generalize swp (0,0) L i j=iU at *;simp only[n2,n1]at c0 c1 bC bf bU;generalize L[i].1=a at *;generalize L[i].2=p at *;generalize L[j].1=b at *;generalize L[j].2=q at *;obtain⟨v1,uj⟩:=cell?_setCell_some (w:=w) (p:=⟨g,i*2,none⟩) (x:=.int .i64 b) (q:=⟨g,j*2,none⟩) bC;obtain⟨v2,oE⟩:=cell?_setCell_some (w:=w) (p:=⟨g,i*2,none⟩) (x:=.int .i64 b) (q:=⟨g,j*2+1,none⟩) bf;obtain⟨v3,Yh⟩:=cell?_setCell_some (w:=w.setCell ⟨g,i*2,none⟩ (.int .i64 b)) (p:=⟨g,i*2+1,none⟩) (x:=.int .i64 q) (q:=⟨g,j*2+1,none⟩) oE;clear oE;go_enter func258,ntmps258
 go_wp2_with fail
 go_region
 all_goals (try go_wp2)
 all_goals go_end0
 all_goals exact⟨rfl,bU,nR (DA _ _ _ _ _ _ _ _ _ _)⟩
theorem O5(name:String)(i f:Nat)(p n c:Nat)(A:a7)(w:ai)(h:w.cell? ⟨p,0,none⟩=some (.slice A n c))
  (h1:∀w,(typeInfo 220).run prog w=.ok prog.types[220]! w)
  (af:(prog.types[220]!).methods.find? (λm=>m.name == name)=some ((prog.types[220]!).methods[i]!))
  (aw:((prog.types[220]!).methods[i]!).path=#[]) (aL:((prog.types[220]!).methods[i]!).func=some (f,false))
  (ap:∀s w,(Builtin.ssaWrapNilChk_ #[220] 220 #[.pointer (some ⟨p,0,none⟩),strVal "",strVal s]).run prog w=.ok (.pointer (some ⟨p,0,none⟩)) w) :
  (method 418 220 (.pointer (some ⟨p,0,none⟩)) name).run prog w=.ok (f,.slice A n c) w:=by
 rw[method];simp only[Sem.run_bind,h1,Result.andThen_ok,af,aw,aL,follow,receiverAt,underlying,Sem.run_pure,Place.get];simp[loadVar,isAgg,underlying,underlying258,underlying220,h,Result.andThen,ap,asAddr]
theorem O6:∀w,(typeInfo 220).run prog w=.ok prog.types[220]! w:=λ_=>by kernel_rfl
theorem Z4(p n c:Nat)(A:a7)(w:ai)(h:w.cell? ⟨p,0,none⟩=some (.slice A n c)):(method 418 220 (.pointer (some ⟨p,0,none⟩)) "Len").run prog w=.ok (168,.slice A n c) w:=
 O5 "Len" 0 168 p n c A w h O6 (by kernel_rfl) (by kernel_rfl) (by kernel_rfl) (λ_ _=>by kernel_rfl)
theorem EX(p n c:Nat)(A:a7)(w:ai)(h:w.cell? ⟨p,0,none⟩=some (.slice A n c)):(method 418 220 (.pointer (some ⟨p,0,none⟩)) "Less").run prog w=.ok (255,.slice A n c) w:=
 O5 "Less" 1 255 p n c A w h O6 (by kernel_rfl) (by kernel_rfl) (by kernel_rfl) (λ_ _=>by kernel_rfl)
theorem EY(p n c:Nat)(A:a7)(w:ai)(h:w.cell? ⟨p,0,none⟩=some (.slice A n c)):(method 418 220 (.pointer (some ⟨p,0,none⟩)) "Swap").run prog w=.ok (258,.slice A n c) w:=
 O5 "Swap" 4 258 p n c A w h O6 (by kernel_rfl) (by kernel_rfl) (by kernel_rfl) (λ_ _=>by kernel_rfl)
theorem anT(p:Nat)(w:ai):(method 418 220 (.pointer (some ⟨p,0,none⟩)) "Push").run prog w=.ok (257,.pointer (some ⟨p,0,none⟩)) w:=by kernel_rfl
theorem anS(p:Nat)(w:ai):(method 418 220 (.pointer (some ⟨p,0,none⟩)) "Pop").run prog w=.ok (256,.pointer (some ⟨p,0,none⟩)) w:=by kernel_rfl
structure fJ(w:ai)(base p g cap:Nat)(L:List h3):Prop where
 zJ:base<=p
 zI:base<=g
 fits:L.length<=cap
 most:cap<=maxLen
 var:Row w p 258 [.slice (some ⟨g,0,none⟩) L.length cap]
 row:∃post,post.length+L.length*2=cap*2/\Row w g 223 (bT L++post)
structure kr(base:Nat)(w w':ai):Prop where
 dy:Below base w w'
 rows:∀(b:Nat) (t:TypeId) (ag:b3),t≠258->t≠223->Row w b t ag->Row w' b t ag
section
variable {w w' pq:ai} {base p g cap:Nat} {L:List h3}
theorem kr.trans(h:kr base w w')(kg:kr base w' pq):kr base w pq:=⟨h.dy.trans kg.dy,λb t ag h1 af aq=>kg.rows b t ag h1 af (h.rows b t ag h1 af aq)⟩
theorem kr.below(h:Below w.heap.size w w')(ak:base<=w.heap.size):kr base w w':=⟨h.mono ak,λ_ _ _ _ _ aj=>iL aj h⟩
theorem kr.grown{t:TypeId}{ag:b3}{b:Nat}(h:w.grownBy w' (some b))(aj:Row w b t ag)(aC:t=258\/t=223)(ak:base<=b):kr base w w':=
 ⟨below_grown h ak (du ak (Nat.le_of_lt aj.lt)),λku Fk T0 h1 af nt=>nt.keep (h.block ku nt.lt (λe=>by
  injection e with e
  subst e;unfold Row at aj nt;rw[aj]at nt;injection nt with nt
  injection nt with _ e
  rcases aC with rfl | rfl
  .exact h1 e.symm
  .exact af e.symm))⟩
structure gi(base p g:Nat)(w w':ai):Prop where
 dy:Below base w w'
 Gx:∀b,b<w.heap.size->b≠p->b≠g->w'.heap[b]?=w.heap[b]?
theorem gi.refl(base p g:Nat)(w:ai):gi base p g w w:=⟨Below.refl _ _,λ_ _ _ _=>rfl⟩
theorem gi.trans(h:gi base p g w w')(kg:gi base p g w' pq):gi base p g w pq:=
 ⟨h.dy.trans kg.dy,λb h1 af aq=>(kg.Gx b (gV h1 h.dy.size) af aq).trans (h.Gx b h1 af aq)⟩
theorem gi.below(h:Below w.heap.size w w')(ak:base<=w.heap.size):gi base p g w w':=⟨h.mono ak,λb ak _ _=>h.block b ak⟩
theorem gi.grown{b:Nat}(h:w.grownBy w' (some b))(av:b<w.heap.size)(aC:b=p\/b=g)(ak:base<=b):gi base p g w w':=
 ⟨below_grown h ak (du ak (Nat.le_of_lt av)),λku h1 af aq=>h.block ku h1 (λe=>by
  injection e with e
  rcases aC with h | h
  .exact af (e.trans h)
  .exact aq (e.trans h))⟩
theorem gi.kept(h:gi base p g w w')(aw:fJ w base p g cap L):kr base w w':=by
 refine⟨h.dy,λb t ag h1 af aj=>aj.keep (h.Gx b aj.lt ?_ ?_)⟩
 .rintro rfl;have aE:=aw.var;unfold Row at aE aj;rw[aj]at aE;injection aE with aE
  injection aE with _ e
  exact h1 e
 .rintro rfl;obtain⟨_,_,aE⟩:=aw.row;unfold Row at aE aj;rw[aj]at aE;injection aE with aE
  injection aE with _ e
  exact af e
theorem fJ.ne(h:fJ w base p g cap L):p≠g:=by
 obtain⟨post,_,aj⟩:=h.row;rintro rfl;have aE:=h.var;unfold Row at aj aE;rw[aj]at aE;injection aE with aE
 injection aE with _ e
 exact absurd e (by decide)
theorem fJ.below(h:fJ w base p g cap L)(ak:Below w.heap.size w w'):fJ w' base p g cap L:=by
 obtain⟨post,h1,aj⟩:=h.row;exact⟨h.zJ,h.zI,h.fits,h.most,iL h.var ak,post,h1,iL aj ak⟩
theorem fJ.same{L':List h3}(h:fJ w base p g cap L)(hl:L'.length=L.length)(aD:w.grownBy w' (some g)){post:b3}(aw:post.length+L.length*2=cap*2)(aj:Row w' g 223 (bT L'++post)):fJ w' base p g cap L':=
 ⟨h.zJ,h.zI,by rw[hl];exact h.fits,h.most,by rw[hl];exact h.var.keep (aD.block p h.var.lt (λe=>by injection e with e;exact h.ne e)),post,by rw[hl];exact aw,aj⟩
theorem fJ.cell(h:fJ w base p g cap L):w.cell? ⟨p,0,none⟩=some (.slice (some ⟨g,0,none⟩) L.length cap):=h.var.cell 0
theorem fJ.own(h:fJ w base p g cap L):w.ownsRow base 223 2 (.slice (some ⟨g,0,none⟩) L.length cap) L.length (bT L):=by
 obtain⟨post,h1,aj⟩:=h.row;have hl:=xd (f:=n2) (h:=n1) L;refine⟨hl,.inr ⟨g,cap,(bT L++post).toArray,rfl,h.zI,aj,h.fits,h.most,?_,?_⟩⟩
 .rw[List.size_toArray,aY];unfold bT;omega
 .rw[List.toList_toArray,take_left' (by exact hl)]
theorem anQ(aw:Row w p 258 [.slice (some ⟨g,0,none⟩) L.length cap])(ak:base<=p)(h:w.ownsRow base 223 2 (.slice (some ⟨g,0,none⟩) L.length cap) L.length (bT L)):fJ w base p g cap L:=by
 have hl:=xd (f:=n2) (h:=n1) L;rcases h.2 with⟨h1,_⟩ | ⟨fd,cap',fg,e,aI,aD,qv,hj,hcs,aC⟩
 .cases h1
 .injection e with aF _ e3
  injection aF with aF
  injection aF with aF
  subst aF e3;refine⟨ak,aI,qv,hj,aw,fg.toList.drop (L.length*2),?_,?_⟩
  .have hL:fg.toList.length=fg.size:=Array.length_toList;rw[cC];omega
  .unfold Row;rw[<-aC,gA,Array.toArray_toList];exact aD
end
def Hb(t:Int×Int):Value:=.int .i64 t.1
def Hc(t:Int×Int):Value:=.int .i64 t.2
def sp(F:List (Int×Int)):b3:=hT Hb Hc F
structure jV(w:ai)(base g cap:Nat)(F:List (Int×Int)):Prop where
 low:base<=g
 fits:F.length<=cap
 most:cap<=maxLen
 row:∃post,post.length+F.length*2=cap*2/\Row w g 271 (sp F++post)
theorem LK(F:List (Int×Int)):(sp F).length=F.length*2:=xd F
section
variable {w w':ai} {base g cap:Nat} {F:List (Int×Int)}
theorem jV.lt(h:jV w base g cap F):g<w.heap.size:=by
 obtain⟨post,_,aj⟩:=h.row;exact aj.lt
theorem jV.keep{row:Option Nat}(h:jV w base g cap F)(aD:w.grownBy w' row)(aX:row≠some g):jV w' base g cap F:=by
 obtain⟨post,h1,aj⟩:=h.row;exact⟨h.low,h.fits,h.most,post,h1,aj.keep (aD.block g aj.lt (λe=>aX e.symm))⟩
theorem jV.below(h:jV w base g cap F)(ak:Below w.heap.size w w'):jV w' base g cap F:=h.keep (row:=none) (dr ak none) (by simp)
theorem jV.cell(h:jV w base g cap F){a b:Nat}(aS:a<F.length)(ak:b<2):w.cell? ⟨g,a*2+b,none⟩=some (.int .i64 (hV F a b)):=by
 obtain⟨post,_,aj⟩:=h.row;obtain⟨h1,af⟩:=wi (f:=Hb) (h:=Hc) aj a aS;unfold hV;rw[bH aS,b6];rcases eP b 1 with e | e
 .obtain rfl:b=0:=by omega
  exact h1
 .obtain rfl:b=1:=by omega
  exact af
theorem jV.free(h:jV w base g cap F)(i:Nat):w.frozen? ⟨g,i,none⟩=false:=by
 obtain⟨post,_,aj⟩:=h.row;exact aj.free i
theorem Ty{α:Type}{f h:α->Value}(l:List α)(i:Nat)(x:α)(ax:i<l.length) :
  (h x=h l[i]->(hT f h l).set (i*2) (f x)=hT f h (l.set i x))/\(f x=f l[i]->(hT f h l).set (i*2+1) (h x)=hT f h (l.set i x)):=by
 have e:=Tz (f:=f) (h:=h) l i x ax;obtain⟨g1,g2⟩:=Tx (f:=f) (h:=h) l i ax;have hl:=xd (f:=f) (h:=h) l;constructor
 .intro ah;rw[<-e];apply ext_getElem?
  intro j;rw[getElem?_set];by_cases ar:i*2+1=j
  .subst ar;rw[getElem?_set_self (by rw[length_set];omega),ay (by omega),g2,ah]
  .rw[getElem?_set_ne ar,getElem?_set]
 .intro ah;rw[<-e];congr 1
  apply ext_getElem?
  intro j;by_cases ar:i*2=j
  .subst ar;rw[getElem?_set_self (by omega),g1,ah]
  .rw[getElem?_set_ne ar]
theorem ahL(F:List (Int×Int))(a b:Nat)(z:Int)(aS:a<F.length)(ak:b<2):(sp F).set (a*2+b) (.int .i64 z)=sp (p0 F a b z):=by
 unfold p0;rw[bH aS,b6];rcases eP b 1 with e | e
 .obtain rfl:b=0:=by omega
  exact(Ty (f:=Hb) (h:=Hc) F a (z,F[a].2) aS).1 rfl
 .obtain rfl:b=1:=by omega
  exact(Ty (f:=Hb) (h:=Hc) F a (F[a].1,z) aS).2 rfl
theorem jV.set(h:jV w base g cap F){a b:Nat}(z:Int)(aS:a<F.length)(ak:b<2):jV (w.setCell ⟨g,a*2+b,none⟩ (.int .i64 z)) base g cap (p0 F a b z):=by
 obtain⟨post,h1,aj⟩:=h.row;have ap:=aj.bm (a*2+b) (.int .i64 z);rw[set_append_left _ _ (by rw[LK];omega),ahL F a b z aS ak]at ap;exact⟨h.low,by rw[uv];exact h.fits,h.most,post,by rw[uv];exact h1,ap⟩
theorem jV.own(h:jV w base g cap F):w.ownsRow base 271 2 (.slice (some ⟨g,0,none⟩) F.length cap) F.length (sp F):=by
 obtain⟨post,h1,aj⟩:=h.row;have hl:=LK F;refine⟨hl,.inr ⟨g,cap,(sp F++post).toArray,rfl,h.low,aj,h.fits,h.most,?_,?_⟩⟩
 .rw[List.size_toArray,aY];omega
 .rw[List.toList_toArray,take_left' hl]
theorem UD{n:Nat}(az:n=F.length)(h:w.ownsRow base 271 2 (.slice (some ⟨g,0,none⟩) n cap) n (sp F)):jV w base g cap F:=by
 subst az;have hl:=LK F;rcases h.2 with⟨h1,_⟩ | ⟨fd,cap',fg,e,aI,aD,qv,hj,hcs,aC⟩
 .cases h1
 .injection e with aF _ e3
  injection aF with aF
  injection aF with aF
  subst aF e3;refine⟨aI,qv,hj,fg.toList.drop (F.length*2),?_,?_⟩
  .have hL:fg.toList.length=fg.size:=Array.length_toList;rw[cC];omega
  .unfold Row;rw[<-aC,gA,Array.toArray_toList];exact aD
theorem ahK(F:List (Int×Int)):sp F++[.int .i64 0,.int .i64 0]=sp (F++[(0,0)]):=by
 unfold sp;rw[K8];rfl
end
theorem akS:(prog.info? 271).map (λi=>(i.zero,i.size,i.bytes))=some (some (.agg #[.int .i64 0,.int .i64 0]),2,16):=by kernel_rfl
theorem ahM:(madeCells #[Value.int .i64 0,.int .i64 0] 2).toList=sp [(0,0)]:=by kernel_rfl
theorem aeO(W b:Nat)(bg:W<4294967296)(ak:b<32):bits .and .i64 (W:Int) (((2^b:Nat):Int)-1)=((W%2^b:Nat):Int):=by
 have aw:2^b<2^32:=Nat.pow_lt_pow_right (by omega) ak;have hpos:=eW b;have h1:∀a:Nat,a<4294967296->(BitVec.ofInt 64 (a:Int)).toNat=a:=λa aS=>by
  rw[BitVec.ofInt_natCast,BitVec.toNat_ofNat];exact mod_eq_of_lt (by omega)
 rw[show((2^b:Nat):Int)-1=((2^b-1:Nat):Int) by omega];show IntKind.i64.wrap ((BitVec.ofInt 64 (W:Int) &&& BitVec.ofInt 64 ((2^b-1:Nat):Int)).toNat:Int)=_;rw[BitVec.toNat_and,h1 W bg,h1 _ (by omega),and_two_pow_sub_one_eq_mod,IntKind.wrap_i64];have af:=mod_lt W hpos;omega
theorem and_one(x:Nat)(ah:x<4294967296):bits .and .i64 (x:Int) 1=((x%2:Nat):Int):=by
 have h:=aeO x 1 ah (by omega);exact h
theorem al6(A B:a7)(c d:Nat)(U:ae)(w:ai)(bg:fw U)(aj:Reads w A (aM U))(ap:Reads w B (aM (lH U))) :
  Calls prog 179 #[.slice A U.length c,.slice B U.length d] w λe w'=>∃g cap P F,e=.returned (.slice (some ⟨g,0,none⟩) (F:List (Int×Int)).length cap)/\jV w' w.heap.size g cap F/\ao.jt U U.length P F/\Below w.heap.size w w':=by
 obtain⟨i0,ax,bB,bK,bw⟩:=info_parts akS;have aU:=I aj;have bU:=I ap;have jG:=I bg;have vL:=bg.1;clear aj ap bg;go_enter func179,ntmps179
 go_wp2_with (at_make;refine wpList_make_full _ rfl _ _ 235 rfl w.heap.size 271 i0 (.agg #[.int .i64 0,.int .i64 0]) 2 underlying235 ax bB bK .i64 .i64 _ _ 1 rfl rfl ?c1 ?c1 ?c2 ?c3 ?c4 ?_)
 case c1=>omega
 case c2=>first | omega | (rw[bw];omega)
 case c3=>unfold maxLen;omega
 try case c4=>omega
 intro au hown1 aZ;have aH:=k8 aZ;have V5:jV au w.heap.size w.heap.size 1 [(0,0)]:=UD (n:=1) rfl (by rw[<-ahM];exact hown1);have RA:=I V5;have aK:=I aH;have Sz:=I (ao.jt.start U);clear hown1 aZ aH V5;go_wp2;go_loopw [5,15] (λLN bV wr=>∃(q g cap:Nat) (P:List (ae)) (F:List (Int×Int)),q<=U.length/\bV=.int .i64 q/\LN=.slice (some ⟨g,0,none⟩) F.length cap/\F.length<=1+11*q/\Hid (jV wr w.heap.size g cap F)/\Hid (ao.jt U q P F)/\Hid (Below w.heap.size w wr)) (λ_ bV _=>U.length-(intOf bV).toNat)
 case atStart=>exact⟨0,w.heap.size,1,[[]],[(0,0)],by omega,rfl,rfl,by simp,RA,Sz,aK⟩
 case round=>
  obtain⟨q,g,cap,P,F,hq,rfl,rfl,aih,hn,n0,hbel⟩:=hrel;clear RA Sz aK;by_cases hX:q<U.length
  .obtain⟨il,ZJ,rfl,hc⟩:=kW (c9 aU.out hbel.out) (by omega);have c0:=hc q hX;have fq:U[q]?.getD 0=U[q]:=by rw[bH hX,b6]
   have dV:=jG.out.2.1 U[q] (b7 hX);have wX:=I (λh=>n0.out.skip h);have ly:=I (lG U q);have Aj:=I (λh=>GI U q hX jG.out h);have Ct:=I (λj h=>GF U q j h);rw[fq]at wX ly Aj Ct;clear hc fq;by_cases ah:U[q]=0
   .rw[ah]at c0;have KD:=I (wX.out ah);clear wX ly Aj Ct n0;go_wp2;go_roundw
    case rel=>exact⟨q+1,g,cap,P,F,by omega,by go_num,rfl,by omega,hn,KD,hbel⟩
    case measure=>simp[intOf];omega
   .have nw:0<U[q]:=by omega
    obtain⟨gc,awU,rfl,rf⟩:=kW (c9 bU.out hbel.out) (by rw[GK];omega);have c1:=rf q (by rw[GK];exact hX);rw[TK U q hX]at c1;have sA:=Aj.out nw;clear rf wX Aj;generalize hg U q=xf at *;obtain⟨n,az⟩:∃n,U[q]=n+1:=⟨U[q]-1,by omega⟩;rw[az]at c0 sA dV ly Ct;have j3:((n:Int)+1 == 0)=false:=cz
    clear ah nw az;have avj:xf<2048:=gV sA (dD (n:=2) (j:=11) (by omega) dV);go_wp2;go_loopw [5,9,10] (λLN jh bV wr=>∃(j a g cap:Nat) (P:List (ae)) (F:List (Int×Int)),j<=n/\bV=.int .i64 ((n-j:Nat):Int)/\jh=.int .i64 a/\LN=.slice (some ⟨g,0,none⟩) F.length cap/\F.length<=1+11*q+j/\Hid (jV wr w.heap.size g cap F)/\Hid (ao.jt U q P F)/\Hid (Below w.heap.size w wr)/\Hid (P[a]?=some ((cU U q).take j))/\Hid (∀i,i<=j->(cU U q).take i∈P)) (λ_ _ bV _=>(intOf bV).toNat)
    case atStart=>
     refine⟨0,0,g,cap,P,F,by omega,rfl,rfl,rfl,by omega,hn,n0,hbel,I (by rw[take_zero];exact n0.out.root),I (λi ax=>?_)⟩;obtain rfl:i=0:=by omega
     rw[take_zero];exact mem_of_getElem? n0.out.root
    case round=>
     clear hn n0 hbel c0 c1;obtain⟨j,a,g,cap,P,F,ar,rfl,rfl,rfl,aih,hn,n0,hbel,eC,hall⟩:=hrel;rename ai=>eY
     have dA:a<F.length:=by rw[n0.out.len];exact yM eC.out
     by_cases Bn:j<n
     .have zg:j<(cU U q).length:=by rw[ly.out];omega
      have lJ:=Ct.out j zg;rw[Nat.add_sub_cancel]at lJ;have aI:=yR U q _ (b7 zg);have hpos:=n0.out.pos jG.out hX zg eC.out;have gS:=I3 (cU U q) j zg;have ajz:j+1<(cU U q).length:=by rw[ly.out];omega
      have jH:=I (λ(h:hV F a (cU U q)[j]=0)=>n0.out.grow ajz eC.out h);have FH:=I (λ(h:0<hV F a (cU U q)[j])=>n0.out.on eC.out aI h);have hbit:bits .and .i64 ((xf:Int)/2^(n-j)) 1=(((cU U q)[j]:Nat):Int):=by
       have h:=and_one (xf/2^(n-j)) (Nat.lt_of_le_of_lt (div_le_self _ _) (by omega));rw[lJ,<-h];simp
      rw[<-gS]at FH;clear lJ gS;generalize (cU U q)[j]=iW at *;have vh:=hn.out.cell dA aI;have q9:=hn.out.free (a*2+iW);have FL:=I (λ(z:Int)=>LC F a iW z dA);have gG:=I (λz=>hn.out.set z dA aI);have hlen:=n0.out.len;by_cases aO:hV F a iW=0
      .rw[aO]at vh;have KD:=I (jH.out aO);have V6:=(gG.out (P.length:Int)).below (dQ.alloc bh (.cells #[.int .i64 0,.int .i64 0] 271));have hown2:=V6.own;rw[uv]at hown2;have mv:=I hown2;have aV:=I ((hbel.out.setCell (p:=⟨g,a*2+iW,none⟩) hn.out.low (.int .i64 (P.length:Int))).alloc (by simpa using hbel.out.size) (.cells #[.int .i64 0,.int .i64 0] 271));have auM:F.length<=1+11*256+11:=by omega
       rw[<-hlen]at mv aV;have Hlen:=I hlen;have e8:=Row.new (eY.setCell ⟨g,a*2+iW,none⟩ (.int .i64 (F.length:Int))) 271 [.int .i64 0,.int .i64 0];rw[show(eY.setCell ⟨g,a*2+iW,none⟩ (.int .i64 (F.length:Int))).heap.size=eY.heap.size by simp]at e8;have hH:=I (apn (oK e8));clear e8 hlen V6 hown2 gG jH FH hpos hn n0 hbel;go_wp2_with (at_builtin;refine wpList_append_lies _ rfl _ _ 235 rfl w.heap.size 271 i0 (.agg #[.int .i64 0,.int .i64 0]) 2 16 underlying235 ax bB bK bw rfl (by decide) _ _ _ rfl mv.out ⟨eY.heap.size,0,none⟩ 1 1 [.int .i64 0,.int .i64 0] rfl rfl ?d1 ?d2 (by decide) ?d3 ?d4 ?d5 _ rfl ?_)
       case d1=>exact hH.out
       case d2=>intro u hu;simp at hu;subst hu;rfl
       case d3=>unfold maxLen;omega
       case d4=>omega
       case d5=>have:=aV.out.size;simpa using this
       intro g7 Tt dt di dn Hv WF;rw[ahK]at di;have sH:(p0 F a iW (F.length:Int)++[(0,0)]).length=F.length+1:=by rw[aY,uv];rfl
       have Bk:=UD sH.symm di;have K7:=Bk.cell (a:=a) (b:=iW) (by omega) aI;rw[Um _ _ _ _ (by rw[uv];exact dA),FL.out]at K7;have J6:=I Bk;have h2:Hid (Below w.heap.size w dt):=I (aV.out.grown dn aV.out.size (λk e=>by have:=(mv.out.lt k e).1;exact this));have RK:=I sH;clear sH di dn Hv Bk aV mv ax bB bK bw vh q9;go_wp2;go_roundw
       case rel=>
        refine⟨j+1,F.length,g7,Tt,P++[(cU U q).take (j+1)],_,by omega,by go_num,rfl,by rw[RK.out],by rw[RK.out];omega,J6,?_,h2,I ?_,I (λi ax=>?_)⟩
        .rw[Hlen.out];exact KD
        .rw[Hlen.out,jk bh,Nat.sub_self];rfl
        .by_cases e:i=j+1
         .subst e;simp
         .exact mem_append_left _ (hall.out i (by omega))
       case measure=>simp[intOf];omega
      .have Yn:0<hV F a iW:=by omega
       have ox:(hV F a iW == 0)=false:=by rw[beq_eq_false_iff_ne];exact aO
       have Hu:=FH.out Yn;obtain⟨z,kk⟩:∃z:Nat,hV F a iW=(z:Int):=⟨(hV F a iW).toNat,by omega⟩;rw[kk]at vh ox Hu;rw[cY]at Hu;have QV:=I Hu;clear gG jH FH hpos hlen kk aO Yn FL q9 Hu;go_wp2;go_roundw
       case rel=>
        refine⟨j+1,z,g,cap,P,F,by omega,by go_num,rfl,rfl,by omega,hn,n0,hbel,QV,I (λi ax=>?_)⟩;by_cases e:i=j+1
        .subst e;exact H9 QV.out
        .exact hall.out i (by omega)
       case measure=>simp[intOf];omega
     .obtain rfl:j=n:=by omega
      rw[Nat.sub_self];have zg:j<(cU U q).length:=by rw[ly.out];omega
      have lJ:=Ct.out j zg;rw[Nat.add_sub_cancel,Nat.sub_self,Nat.pow_zero,Nat.div_one]at lJ;have aI:=yR U q _ (b7 zg);have RO:=I (n0.out.leaf ly.out.symm eC.out hall);have hbit:bits .and .i64 (xf:Int) 1=(((cU U q)[j]:Nat):Int):=by
       rw[lJ];exact and_one xf (by omega)
      clear lJ;generalize (cU U q)[j]=iW at *;have vh:=hn.out.cell dA aI;have q9:=hn.out.free (a*2+iW);have gG:=I (hn.out.set (-1-(q:Int)) dA aI);have bE:=I (hbel.out.setCell (p:=⟨g,a*2+iW,none⟩) hn.out.low (.int .i64 (-1-(q:Int))));have fU:=uv F a iW (-1-(q:Int));have Az:=I fU;clear hn n0 hbel eC hall fU;go_wp2;go_roundw
      case rel=>exact⟨q+1,g,cap,P,_,by omega,by go_num,by rw[Az.out],by rw[Az.out];omega,gG,RO,bE⟩
      case measure=>simp[intOf];omega
  .obtain rfl:q=U.length:=by omega
   go_wp2;go_ret;exact⟨g,cap,P,F,rfl,hn,n0,hbel⟩
theorem Wd{w au aB:ai}{row:Option Nat}(h:w.grownBy au row)(af:au.grownBy aB row):w.grownBy aB row:=
 ⟨af.os.trans h.os,af.tape.trans h.tape,af.output.trans h.output,du h.size af.size,λi ax aX=>(af.block i (gV ax h.size) aX).trans (h.block i ax aX)⟩
namespace ao
theorem Lr(U:ae):∀(i:Nat) (l:ae),iY U (i+1) l=(iY U i l).bind λt=>(ny U t.2).map λk=>(t.1++[k],t.2.drop (U[k]?.getD 0))
 | 0,l=>by
  rw[iY,iY,Option.bind_some];cases h:ny U l with
  | none=>rfl
  | some k=>rw[Option.bind_some,iY,map_some];rfl
 | i+1,l=>by
  rw[iY];conv=>rhs;rw[iY]
  cases h:ny U l with
  | none=>rfl
  | some k=>
   rw[Option.bind_some,Option.bind_some,Lr U i];cases af:iY U i (l.drop (U[k]?.getD 0))with
   | none=>rfl
   | some t=>
    rw[Option.bind_some,map_some,Option.bind_some];cases aq:ny U t.2 with
    | none=>simp
    | some bM=>simp
theorem T4(U l:ae)(i:Nat)(h:iY U i l=none):∀m,iY U (i+m) l=none
 | 0=>h
 | m+1=>by rw[<-jb,Lr,T4 U l i h m];rfl
theorem drop_cons(l:ae)(p:Nat)(h:p<l.length):l.drop p=l[p] :: l.drop (p+1):=drop_eq_getElem_cons h
end ao
def ke(s:ae):ae:=ao.bitsOf (bd s) (8*s.length)
theorem afg(s:ae):(ke s).length=8*s.length:=hf _ _
theorem aff(s:ae)(p:Nat)(h:p<(ke s).length):(ke s)[p]=bd s/2^p%2:=l3 _ _ _ h
def aen(U s:ae)(dL pos:Nat)(e:Ending)(w':ai):Option Nat->Prop
 | none=>e=.returned (.tuple #[.int .u8 0,.bool false])
 | some k=>e=.returned (.tuple #[.int .u8 k,.bool true])/\k<U.length/\pos+U[k]?.getD 0<=8*s.length/\eB w' dL 0 s (pos+U[k]?.getD 0)
theorem al5(base g cap dL pos:Nat)(U s:ae)(P:List (ae))(F:List (Int×Int))(w:ai)(bg:fw U)(cp:ao.jt U U.length P F)(hn:jV w base g cap F)(hl:s.length<=10000)(ap:∀x∈s,x<256)(aw:pos<=8*s.length)(cO:eB w dL 0 s pos)(aX:g≠dL) :
  Calls prog 180 #[.slice (some ⟨g,0,none⟩) F.length cap,.pointer (some ⟨dL,0,none⟩)] w λe w'=>aen U s dL pos e w' (ny U ((ke s).drop pos))/\w.grownBy w' (some dL):=by
 have DH:=afg s;have vL:=bg.1;obtain⟨res,hres⟩:∃r,r=ny U ((ke s).drop pos):=⟨_,rfl⟩;rw[<-hres];have bt:=I hres;have jG:=I bg;have mW:=I cp;have ac8:=I hn;have bU:=I ap;have l1:=I cO;have Cj:=I DH;clear hres bg cp hn ap cO DH;go_enter func180,ntmps180
 go_wp2;go_loopw [6] (λjh wr=>∃(m a:Nat),pos+m<=8*s.length/\jh=.int .i64 a/\Hid (P[a]?=some (((ke s).drop pos).take m))/\Hid (eB wr dL 0 s (pos+m))/\Hid (w.grownBy wr (some dL))) (λ_ wr=>8*s.length-(intOf ((wr.cell? ⟨dL,0+1,none⟩).getD undef)).toNat)
 case atStart=>exact⟨0,0,by omega,rfl,I (by rw[take_zero];exact mW.out.root),l1,I (dl _ _)⟩
 case round=>
  obtain⟨m,a,hm,rfl,eC,cO,cP⟩:=hrel;clear l1;have WJ:wr.cell? ⟨dL,0+1,none⟩=some (.int .i64 ((pos+m:Nat):Int)):=cO.out.2.1;have adv:=I WJ;clear WJ;by_cases av:pos+m<8*s.length
  .have iH:=ux dL 0 s (pos+m) 1 wr (by omega) bU.out (by omega) (by omega) cO.out;have fq:=aff s (pos+m) (by rw[Cj.out];exact av);have vC:(ke s).drop (pos+m)=(ke s)[pos+m]'(by rw[Cj.out];exact av) :: (ke s).drop (pos+m+1):=ao.drop_cons _ _ _;rw[fq]at vC;have pe:(ke s).drop pos=((ke s).drop pos).take m++(ke s).drop (pos+m):=by
    rw[<-drop_drop];exact(gA m _).symm
   have gS:((ke s).drop pos).take (m+1)=((ke s).drop pos).take m++[bd s/2^(pos+m)%2]:=by
    rw[gb (by rw[cC,Cj.out];omega),getElem_drop,fq]
   have aI:bd s/2^(pos+m)%2<2:=mod_lt _ (by decide);rw[Nat.pow_one]at iH;rw[vC]at pe;have ek:=I iH;have AE:=I pe;have nG:=I gS;clear iH pe gS vC fq;generalize bd s/2^(pos+m)%2=iW at *;go_wp2_with fail
   refine ek.out.mono ?_;rintro e aB ⟨rfl,ru,bl⟩;have dA:a<F.length:=by rw[mW.out.len];exact yM eC.out
   have vh:=(ac8.out.keep (Wd cP.out bl) (λe=>aX (by injection e with e;exact e.symm))).cell dA aI;have wU:=I ru;have cN:=I (Wd cP.out bl);have M5:(((ke s).drop pos).take m).length=m:=by rw[cq,cC,Cj.out];omega
   have adw:=I M5;clear ru bl cO cP ek M5;rcases Int.lt_trichotomy (hV F a iW) 0 with aO | aO | aO
   .obtain⟨k,hk,Ym,pM,sJ⟩:=mW.out.apd jG.out eC.out aI aO ((ke s).drop (pos+m+1));rw[<-AE.out,<-bt.out]at sJ;rw[adw.out]at pM;rw[Ym]at vh;have CO:=I sJ;have Am:=I pM;clear aO Ym sJ pM;go_wp2;go_ret2;rw[CO.out];refine⟨⟨?_,hk,by rw[Am.out];omega,by rw[Am.out];exact wU⟩,cN⟩;exact congrArg (λz:Int=>Ending.returned (Value.tuple #[.int .u8 z,.bool true])) (show -1-(-1-(k:Int))=(k:Int) by omega)
   .rw[aO]at vh;have sJ:=mW.out.apg jG.out eC.out aI aO ((ke s).drop (pos+m+1));rw[<-AE.out,<-bt.out]at sJ;have CO:=I sJ;clear aO sJ;go_wp2;go_ret2;rw[CO.out];exact⟨rfl,cN⟩
   .obtain⟨z,kk⟩:∃z:Nat,hV F a iW=(z:Int):=⟨(hV F a iW).toNat,by omega⟩;have Nb:=mW.out.on eC.out aI aO;rw[kk,cY,<-nG.out]at Nb;rw[kk]at vh aO;have bB:((z:Int) == 0)=false:=cz
    have adB:=I Nb;clear Nb kk;go_wp2;go_roundw
    case rel=>exact⟨m+1,z,by omega,rfl,adB,wU,cN⟩
    case measure=>rw[adv.out,show aB.cell? ⟨dL,0+1,none⟩=some (.int .i64 ((pos+m+1:Nat):Int))from wU.out.2.1];simp[intOf];omega
  .have iH:=Fm dL 0 s (pos+m) 1 wr (by omega) (by omega) (by omega) (by omega) cO.out;have sJ:=mW.out.apc jG.out (H9 eC);rw[take_of_length_le (by rw[cC,Cj.out];omega),<-bt.out]at sJ;have ek:=I iH;have CO:=I sJ;clear iH sJ cO;go_wp2_with fail
   refine ek.out.mono ?_;rintro e aB ⟨rfl,k,rfl⟩;go_wp2;go_ret2;rw[CO.out];exact⟨rfl,qq cP.out k⟩
theorem alL(A:a7)(c:Nat)(U s:ae)(N:Nat)(w:ai)(bg:fw U)(cV:N<=1048576)(hl:s.length<=1000)(ap:∀x∈s,x<256)(aj:Reads w A (aM U))
  (jO:Calls prog 142 #[.slice A U.length c] w λe w'=>∃g,e=.returned (.tuple #[.slice (some ⟨g,0,none⟩) U.length U.length,.bool true])/\Reads w' (some ⟨g,0,none⟩) (aM (lH U))/\w.heap.size<=g/\Below w.heap.size w w') :
  Calls prog 145 #[.slice A U.length c,.string (strOf s),.int .i64 N] w λe w'=>Fy w' e (oq U s N)/\Below w.heap.size w w':=by
 obtain⟨i0,ax,bB,bK,bw⟩:=info_parts oG;obtain⟨res,hres⟩:∃r,r=oq U s N:=⟨_,rfl⟩;rw[<-hres];have bt:Hid (res=(iY U N (ke s)).bind tN):=I hres;have jG:=I bg;have ix:=I jO;have aU:=I aj;have bU:=I ap;clear hres bg aj jO ap;go_enter func145,ntmps145
 go_wp2_with fail
 refine ix.out.mono ?_;rintro e au ⟨gc,rfl,iF,ajr,aH⟩;have Sy:=I (al6 A (some ⟨gc,0,none⟩) c U.length U au jG.out (c9 aU.out aH) iF);have aK:=I aH;clear iF aH ix aU;go_wp2_with fail
 refine Sy.out.mono ?_;rintro e aB ⟨g,cap,P,F,rfl,hn,cp,aI⟩;obtain⟨a1,Ts,eD,hcells,bz⟩:=oo aB s bU.out;have pR:Reads a1 (some ⟨aB.heap.size,0,none⟩) (aN s):=λ_=>⟨_,_,rfl,λj ar=>by
  rw[jn]at ar;rw[eH,hcells j ar,jF s j ar]⟩
 have jQ:g<aB.heap.size:=hn.lt;have Mu:=aK.out.trans (aI.mono aK.out.size);have Vx:=Mu.trans (bz.mono Mu.size);have RB:=I (hn.below bz);have CT:=I (ES (some ⟨aB.heap.size,0,none⟩) Ts s a1 bU.out pR);have bE:=I Vx;have mW:=I cp;have avA:g<a1.heap.size:=gV jQ bz.size;clear hn cp aI hcells bz pR Mu Vx Sy aK jQ;go_wp2_with fail
 refine CT.out.mono ?_;rintro e bA ⟨rfl,cO,a8⟩;have Sk:=I cO;have RC:=I (RB.out.below a8);have cx:=b9 bE a8;have avQ:a1.heap.size<bA.heap.size:=cO.2.2.2;clear cO a8 CT RB eD;go_wp2_with (at_make;refine wpList_make_full _ rfl _ _ 87 rfl w.heap.size 5 i0 (.int .u8 0) 1 underlying87 ax bB bK .i64 .i64 _ _ N rfl rfl ?c1 ?c1 ?c2 ?c3 ?c4 ?_)
 case c1=>omega
 case c2=>first | omega | (rw[bw];omega)
 case c3=>unfold maxLen;omega
 try case c4=>exact cx.out.size
 intro dG hown5 fp;have cL:=k8 fp;have na:=I (E7 hown5);have Sl:=I (Sk.out.keep fp (by simp));have RD:=I (RC.out.below cL);have dh:=b9 cx cL;have hlow:w.heap.size<=a1.heap.size:=bE.out.size;clear hown5 fp cL ax bB bK bw Sk RC cx bE;generalize bA.heap.size=h5 at *;generalize a1.heap.size=dL at *;go_wp2;go_loopw [39] (λbV wr=>∃(i pos:Nat) (d:ae),i<=N/\bV=.int .i64 i/\d.length=i/\pos<=8*s.length/\Hid (iY U i (ke s)=some (d,(ke s).drop pos))/\Hid (eB wr dL 0 s pos)/\Hid (Row wr h5 5 (aN (d++List.replicate (N-i) 0)))/\Hid (jV wr au.heap.size g cap F)/\Hid (Below w.heap.size w wr)) (λbV _=>N-(intOf bV).toNat)
 case atStart=>exact⟨0,0,[],by omega,rfl,rfl,by omega,I (by rw[drop_zero];rfl),Sl,I (by rw[nil_append,Nat.sub_zero];exact na),RD,dh⟩
 case round=>
  obtain⟨i,pos,d,avB,rfl,kz,hpos,hdec,cO,hrow,hn,hbel⟩:=hrel;clear Sl na RD dh;by_cases eO:i<N
  .have iG:=al5 au.heap.size g cap dL pos U s P F wr jG.out mW.out hn.out (by omega) bU.out hpos cO.out (by omega);have Eu:=Lr U i (ke s);rw[hdec.out,Option.bind_some]at Eu;dsimp only at Eu;have fe:iY U (i+1) (ke s)=none->res=none:=λh=>by
    have:=T4 U (ke s) (i+1) h (N-(i+1));rw[show i+1+(N-(i+1))=N by omega]at this;rw[bt.out,this];rfl
   have hset:∀W (k:Nat),Row W h5 5 (aN (d++List.replicate (N-i) 0))->Row (W.setCell ⟨h5,i,none⟩ (.int .u8 k)) h5 5 (aN ((d++[k])++List.replicate (N-(i+1)) 0)):=λW k h=>by
    have h1:=h.bm i (.int .u8 k);obtain⟨m,hm⟩:∃m,N-i=m+1:=⟨N-i-1,by omega⟩;rw[B9,hm,replicate_succ,set_append_right _ _ (by omega),kz,Nat.sub_self,set_cons_zero]at h1;rw[show N-(i+1)=m by omega,dj];exact h1
   have hL:∀W,Row W h5 5 (aN (d++List.replicate (N-i) 0))->∃v,W.cell? ⟨h5,i,none⟩=some v:=λW h=>⟨_,(h.cell i).trans (bH (by rw[jn,aY,jl];omega))⟩
   have gH:=I iG;have AB:=I Eu;have c8:=I fe;have gG:=I hset;have ly:=I hL;clear iG Eu fe hset hL hdec cO;cases pN:ny U ((ke s).drop pos)with
   | none=>
    rw[pN]at gH AB;have b2:=I (c8.out AB);clear pN c8 AB gG;go_wp2_with fail
    refine gH.out.mono ?_;rintro e dp ⟨he,gu⟩;have vD:e=.returned (.tuple #[.int .u8 0,.bool false]):=he;subst vD;have sR:Row dp h5 5 (aN (d++List.replicate (N-i) 0)):=hrow.out.keep (gu.block h5 hrow.out.lt (λe=>by injection e with e;omega));obtain⟨v0,jO⟩:=ly.out dp sR;have HA:dp.frozen? ⟨h5,i,none⟩=false:=sR.free i;have fS:Below w.heap.size w dp:=hbel.out.grown gu hbel.out.size (λk e=>by injection e with e;omega);have h2:=I (fS.setCell (p:=⟨h5,i,none⟩) (by show w.heap.size<=h5;omega) (.int .u8 0));clear he gu fS sR hrow hn hbel gH ly;go_wp2;go_ret2;rw[b2.out];exact⟨⟨_,_,rfl⟩,h2⟩
   | some k=>
    rw[pN]at gH AB;rw[map_some,drop_drop]at AB;clear pN c8;go_wp2_with fail
    refine gH.out.mono ?_;rintro e dp ⟨⟨he,hk,Nh,Xq⟩,gu⟩;subst he;have sR:Row dp h5 5 (aN (d++List.replicate (N-i) 0)):=hrow.out.keep (gu.block h5 hrow.out.lt (λe=>by injection e with e;omega));obtain⟨v0,jO⟩:=ly.out dp sR;have HA:dp.frozen? ⟨h5,i,none⟩=false:=sR.free i;have fS:Below w.heap.size w dp:=hbel.out.grown gu hbel.out.size (λk e=>by injection e with e;omega);have h2:=I (fS.setCell (p:=⟨h5,i,none⟩) (by show w.heap.size<=h5;omega) (.int .u8 k));have F9:=I (gG.out dp k sR);have V7:jV dp au.heap.size g cap F:=hn.out.keep gu (λe=>by injection e with e;omega);have Bk:jV (dp.setCell ⟨h5,i,none⟩ (.int .u8 k)) au.heap.size g cap F:=V7.keep (row:=some h5) (hz (dl dp (some h5)) i _) (λe=>by injection e with e;omega);have Xr:eB (dp.setCell ⟨h5,i,none⟩ (.int .u8 k)) dL 0 s (pos+U[k]?.getD 0):=Xq.keep (row:=some h5) (hz (dl dp (some h5)) i _) (λe=>by injection e with e;omega);have J6:=I Bk;have Ku:=I Xr;clear gu fS sR hrow hn hbel gH ly gG V7 Bk Xq Xr;go_wp2;go_roundw
    case rel=>exact⟨i+1,pos+U[k]?.getD 0,d++[k],by omega,by go_num,by simp[kz],Nh,AB,Ku,F9,J6,h2⟩
    case measure=>simp[intOf];omega
  .obtain rfl:i=N:=by omega
   rw[Nat.sub_self,replicate_zero,append_nil]at hrow;have hend:=YZ dL s pos wr (by omega) bU.out hpos cO.out;have ff:res=tN (d,(ke s).drop pos):=by rw[bt.out,hdec.out];rfl
   have dw:=I hend;have da:=I hrow.out;by_cases fD:o7 s pos
   .have ah:res=some d:=by rw[ff];exact aA fD
    rw[bG fD]at dw;have b2:=I ah;have yl:=I kz;clear hend ff ah cO hdec hrow hn;go_wp2_with fail
    refine dw.out.mono ?_;rintro e dp ⟨rfl,gu⟩;have sR:Row dp h5 5 (aN d):=da.out.keep (gu.block h5 da.out.lt (λe=>by injection e with e;omega));have iP:=I (hbel.out.grown gu hbel.out.size (λk e=>by injection e with e;omega));have dB:=I (oK sR);clear gu sR;go_wp2;go_ret2;rw[b2.out];exact⟨⟨some ⟨h5,0,none⟩,i,by rw[yl.out];rfl,by rw[yl.out];omega,dB.out⟩,iP.out⟩
   .have ah:res=none:=by rw[ff];exact ay fD
    rw[bF fD]at dw;have b2:=I ah;clear hend ff ah cO hdec hrow hn;go_wp2_with fail
    refine dw.out.mono ?_;rintro e dp ⟨rfl,gu⟩;have iP:=I (hbel.out.grown gu hbel.out.size (λk e=>by injection e with e;omega));clear gu;go_wp2;go_ret2;rw[b2.out];exact⟨⟨_,_,rfl⟩,iP⟩
namespace ao
theorem pf(a b:Nat×Nat):gN a b↔(a.1<b.1\/(a.1=b.1/\a.2<b.2)):=Iff.rfl
abbrev b0(l:List (Nat×Nat))(i:Nat):Nat×Nat:=l[i]?.getD (0,0)
theorem zX(l:List (Nat×Nat))(i j k:Nat)(ax:i<l.length)(ar:j<l.length):b0 (swp (0,0) l i j) k=if k=j then b0 l i else if k=i then b0 l j else b0 l k:=by
 unfold b0 swp;rw[getElem?_set,length_set];by_cases h1:j=k
 .subst h1;rw[aA rfl,aA rfl,aA ar,b6]
 .rw[ay h1,ay (λh=>h1 h.symm),getElem?_set];by_cases af:i=k
  .subst af;rw[aA rfl,aA rfl,aA ax,b6]
  .rw[ay af,ay (λh=>af h.symm)]
theorem Fj(l:List (Nat×Nat))(i j:Nat)(ax:i<l.length)(ar:j<l.length):(swp (0,0) l i j).Perm l:=by
 unfold swp;rw[bH ax,bH ar,b6,b6];rcases Nat.lt_trichotomy i j with h | h | h
 .exact set_set_perm ax ar
 .subst h;exact set_set_perm ax ar
 .exact set_set_perm ax ar
def k3(l:List (Nat×Nat))(n:Nat):Prop:=∀k,0<k->k<n->¬gN (b0 l k) (b0 l ((k-1)/2))
def w9(l:List (Nat×Nat))(n j:Nat):Prop:=(∀k,0<k->k<n->k≠j->¬gN (b0 l k) (b0 l ((k-1)/2)))/\(0<j->∀k,0<k->k<n->(k-1)/2=j->¬gN (b0 l k) (b0 l ((j-1)/2)))
def Ab(l:List (Nat×Nat))(n i:Nat):Prop:=(∀k,0<k->k<n->(k-1)/2≠i->¬gN (b0 l k) (b0 l ((k-1)/2)))/\(0<i->∀k,0<k->k<n->(k-1)/2=i->¬gN (b0 l k) (b0 l ((i-1)/2)))
theorem asE(l:List (Nat×Nat))(n:Nat)(h:w9 l n 0):k3 l n:=λk am hk=>h.1 k am hk (by omega)
theorem asD(l:List (Nat×Nat))(n j:Nat)(h:w9 l n j)(ar:¬gN (b0 l j) (b0 l ((j-1)/2))):k3 l n:=λk am hk=>by
 by_cases e:k=j
 .subst e;exact ar
 .exact h.1 k am hk e
theorem asF(l:List (Nat×Nat))(n j:Nat)(az:n<=l.length)(ar:j<n)(am:0<j)(h:w9 l n j)(av:gN (b0 l j) (b0 l ((j-1)/2))):w9 (swp (0,0) l ((j-1)/2) j) n ((j-1)/2):=by
 obtain⟨p,aw⟩:∃p,p=(j-1)/2:=⟨_,rfl⟩;rw[<-aw]at av ⊢;obtain⟨h1,af⟩:=h;rw[<-aw]at af;have ap:=λk=>zX l p j k (by omega) (by omega)
 refine⟨λk bC j8 uk=>?_,λml k bC j8 uk=>?_⟩
 .rw[ap,ap];by_cases e:k=j
  .subst e;rw[aA rfl,<-aw,ay (by omega),aA rfl];rw[pf]at av ⊢;omega
  .rw[ay e,ay uk];by_cases e2:(k-1)/2=j
   .rw[aA e2];exact af am k bC j8 e2
   .rw[ay e2];by_cases e3:(k-1)/2=p
    .rw[aA e3];have:=h1 k bC j8 e;rw[e3]at this;rw[pf]at av this ⊢;omega
    .rw[ay e3];exact h1 k bC j8 e
 .rw[ap,ap,ay (show ¬(p-1)/2=j by omega),ay (show ¬(p-1)/2=p by omega)];have nZ:=h1 p ml (by omega) (by omega);by_cases e:k=j
  .rw[aA e];exact nZ
  .rw[ay e,ay (show ¬k=p by omega)];have:=h1 k bC j8 e;rw[uk]at this;rw[pf]at this nZ ⊢;omega
theorem G2(l:List (Nat×Nat))(n i:Nat)(h:Ab l n i)(ax:∀k,0<k->k<n->(k-1)/2=i->¬gN (b0 l k) (b0 l i)):k3 l n:=λk am hk=>by
 by_cases e:(k-1)/2=i
 .rw[e];exact ax k am hk e
 .exact h.1 k am hk e
theorem Lu(l:List (Nat×Nat))(n i j:Nat)(az:n<=l.length)(ar:j<n)(am:0<j)(pI:(j-1)/2=i)(h:Ab l n i)(av:gN (b0 l j) (b0 l i))(ajG:∀k,0<k->k<n->(k-1)/2=i->¬gN (b0 l k) (b0 l j)) :
  Ab (swp (0,0) l i j) n j:=by
 obtain⟨h1,af⟩:=h;have ap:=λk=>zX l i j k (by omega) (by omega)
 refine⟨λk bC j8 uk=>?_,λ_ k bC j8 uk=>?_⟩
 .rw[ap,ap];by_cases e:k=j
  .subst e;rw[aA rfl,pI,ay (by omega),aA rfl];rw[pf]at av ⊢;omega
  .rw[ay e,ay uk];by_cases e2:(k-1)/2=i
   .rw[aA e2,ay (show ¬k=i by omega)];exact ajG k bC j8 e2
   .rw[ay e2];by_cases e3:k=i
    .rw[aA e3];have:=af (by omega) j am ar pI;rw[e3];exact this
    .rw[ay e3];exact h1 k bC j8 e2
 .rw[ap,ap,pI,ay (show ¬k=j by omega),ay (show ¬k=i by omega),ay (show ¬i=j by omega),aA rfl];have:=h1 k bC j8 (by omega);rw[uk]at this;exact this
theorem ajd(l:List (Nat×Nat))(n:Nat)(h:k3 l n):∀k,k<n->¬gN (b0 l k) (b0 l 0):=by
 intro k;induction k using Nat.strongRecOn with
 | _ k ih=>
  intro hk;by_cases e:k=0
  .subst e;rw[pf];omega
  .have h1:=h k (by omega) hk;have af:=ih ((k-1)/2) (by omega) (by omega);rw[pf]at h1 af ⊢;omega
theorem ajf(l:List (Nat×Nat))(x:Nat×Nat)(h:k3 l l.length):w9 (l++[x]) (l.length+1) l.length:=by
 have aD:∀k,k<l.length->b0 (l++[x]) k=b0 l k:=λk hk=>by
  unfold b0;rw[hZ hk]
 refine⟨λk bC j8 awP=>?_,λam k bC j8 uk=>by omega⟩;rw[aD k (by omega),aD ((k-1)/2) (by omega)];exact h k bC (by omega)
theorem aje(l:List (Nat×Nat))(n:Nat)(az:l.length=n+1)(h:k3 l (n+1)):Ab (swp (0,0) l 0 n) n 0:=by
 have ap:=λk=>zX l 0 n k (by omega) (by omega)
 refine⟨λk bC j8 uk=>?_,λam=>by omega⟩;rw[ap,ap,ay (by omega),ay (by omega),ay (by omega),ay uk];exact h k bC (by omega)
theorem ajg(l:List (Nat×Nat))(n:Nat)(h:k3 l n):k3 (l.take n) n:=λk bC j8=>by
 have aD:∀k,k<n->b0 (l.take n) k=b0 l k:=λk hk=>by
  unfold b0;rw[getElem?_take,aA hk]
 rw[aD k j8,aD _ (by omega)];exact h k bC j8
def kG(ag:ae)(k:Nat):List (Nat×Nat):=(List.range k).flatMap λi=>if 0<ag[i]?.getD 0 then [(ag[i]?.getD 0,i)]else []
def fG(ag:ae):List (Nat×Nat):=kG ag ag.length
theorem BQ(ag:ae)(k:Nat):kG ag (k+1)=kG ag k++if 0<ag[k]?.getD 0 then [(ag[k]?.getD 0,k)]else []:=by
 unfold kG;rw[range_succ,flatMap_append];simp
theorem BP(ag:ae):∀k,(kG ag k).length<=k
 | 0=>by simp[kG]
 | k+1=>by
  have:=BP ag k;rw[BQ,aY];split<;>simp<;>omega
theorem pV(ag:ae)(k:Nat)(t:Nat×Nat):t∈kG ag k↔t.2<k/\t.1=ag[t.2]?.getD 0/\0<t.1:=by
 unfold kG;rw[mem_flatMap];constructor
 .rintro⟨i,ax,aC⟩;have ax:=List.mem_range.1 ax;split at aC
  .next h=>simp at aC;subst aC;exact⟨ax,rfl,h⟩
  .simp at aC
 .rintro⟨h1,af,aq⟩;refine⟨t.2,List.mem_range.2 h1,?_⟩;rw[aA (by omega),<-af];simp
theorem H7(ag:ae)(F:Nat×Nat->Nat):∀k,((kG ag k).map F).sum=((List.range k).map λi=>if 0<ag[i]?.getD 0 then F (ag[i]?.getD 0,i)else 0).sum
 | 0=>by simp[kG]
 | k+1=>by
  rw[BQ,map_append,sum_append_nat,H7 ag F k,range_succ,map_append,sum_append_nat];split<;>simp_all
theorem Y5(ag:ae):∀k,k<=ag.length->(kG ag k).map (·.1)=fz (ag.take k)
 | 0,_=>by simp[kG,fz]
 | k+1,h=>by
  rw[BQ,map_append,Y5 ag k (by omega),an0 ag k (by omega),bH (by omega),b6];congr 1
  split<;>simp
theorem xR(ag:ae):(fG ag).map (·.1)=fz ag:=by
 unfold fG;rw[Y5 ag ag.length bh,take_length]
abbrev bZ(l:ae)(i:Nat):Nat:=l[i]?.getD 0
def Ch(A:ae)(d:Nat->Nat):Prop:=∀i,i<A.length->bZ A i≠0->d i=d (bZ A i)+1
def rJ(L:List (Nat×Nat))(d:Nat->Nat):Nat:=(L.map λt=>t.1*d t.2).sum
def qI(D:Nat)(L:List (Nat×Nat))(d:Nat->Nat):Nat:=(L.map λt=>2^(D-d t.2)).sum
structure uY(ag A:ae)(L:List (Nat×Nat))(C:Nat):Prop where
 len:ag.length<=A.length
 free:∀t∈L,t.2<A.length/\bZ A t.2=0
 apart:(L.map (·.2)).Nodup
 above:∀i,i<A.length->bZ A i≠0->i<bZ A i/\bZ A i<A.length
 none:∀i,i<ag.length->bZ ag i=0->bZ A i=0
 some:∀i,i<ag.length->0<bZ ag i->bZ A i≠0\/i∈L.map (·.2)
 cost:∀d,Ch A d->rJ (fG ag) d=rJ L d+C
 Od:∀d D,Ch A d->(∀i,d i<=D)->qI D (fG ag) d=qI D L d
 best:C+ow (L.map (·.1))=ow (fz ag)
 last:ag.length<A.length->A.length-1∈L.map (·.2)
 count:L.length+(A.length-ag.length)=(fG ag).length
 total:(L.map (·.1)).sum=(fz ag).sum
 pos:∀t∈L,t.2<ag.length->0<bZ ag t.2
theorem Ig(ag:ae):∀k,((kG ag k).map (·.2)).Nodup
 | 0=>by simp[kG]
 | k+1=>by
  rw[BQ,map_append];have ih:=Ig ag k;split
  .rw[nodup_append];refine⟨ih,by simp,?_⟩;intro a aS b ak;obtain⟨t,aC,rfl⟩:=List.mem_map.1 aS;have:=((pV ag k t).1 aC).1;simp at ak;omega
  .simpa using ih
theorem zS(n i:Nat):bZ (List.replicate n 0) i=0:=by
 unfold bZ;rw[getElem?_replicate];split<;>rfl
theorem ak5(ag:ae)(L:List (Nat×Nat))(h:L.Perm (fG ag)):uY ag (List.replicate ag.length 0) L 0 where
 len:=by simp
 free:=λt aC=>by
  have:=(pV ag _ t).1 (h.mem_iff.1 aC);exact⟨by simpa using this.1,zS _ _⟩
 apart:=(h.map _).nodup_iff.2 (Ig ag _)
 above:=λi _ h=>absurd (zS _ _) h
 none:=λi _ _=>zS _ _
 some:=λi ax am=>.inr ((h.map _).mem_iff.2 (List.mem_map.2 ⟨(bZ ag i,i),(pV ag _ _).2 ⟨ax,rfl,am⟩,rfl⟩))
 cost:=λd _=>by unfold rJ;rw[(h.map _).sum_nat];rfl
 Od:=λd D _ _=>by unfold qI;rw[(h.map _).sum_nat]
 best:=by rw[eH,DV (h.map _),xR]
 last:=λh=>by simp at h
 count:=by simp[h.length_eq]
 total:=by rw[(h.map _).sum_nat,xR]
 pos:=λt aC _=>by
  have:=(pV ag _ t).1 (h.mem_iff.1 aC);unfold bZ;omega
theorem aqy(A:ae)(a b P i:Nat)(aS:a<A.length)(ak:b<A.length):bZ ((A.set a P).set b P++[0]) i=if i=a\/i=b then P else bZ A i:=by
 unfold bZ;by_cases h1:i<A.length
 .rw[hZ (by simpa using h1),getElem?_set,getElem?_set,length_set];by_cases aF:b=i
  .subst aF;rw[aA rfl,aA ak,aA (.inr rfl)];rfl
  .rw[ay aF];by_cases e2:a=i
   .subst e2;rw[aA rfl,aA aS,aA (.inl rfl)];rfl
   .rw[ay e2,ay (by omega)]
 .rw[jk (by simpa using h1),ay (by omega),getElem?_eq_none (show A.length<=i by omega),getElem?_singleton];split<;>rfl
theorem join_step{ag A:ae}{L R L':List (Nat×Nat)}{C iN a iv b:Nat}(h:uY ag A L C)(aw:L.Perm ((iN,a) :: (iv,b) :: R))(nl:iN<=iv)(cS:∀y∈R,iv<=y.1)(af:2<=A.length)(tU:L'.Perm ((iN+iv,A.length) :: R)) :
  uY ag ((A.set a A.length).set b A.length++[0]) L' (C+(iN+iv)):=by
 have EN:=h.free (iN,a) (aw.mem_iff.2 (by simp));have EO:=h.free (iv,b) (aw.mem_iff.2 (by simp));have Me:∀t∈R,t.2<A.length/\bZ A t.2=0:=λt aC=>h.free t (aw.mem_iff.2 (by simp[aC]))
 have ns:=(aw.map (·.2)).nodup_iff.1 h.apart;simp only[map_cons,nodup_cons,mem_cons,not_or]at ns;obtain⟨⟨aX,aiD⟩,aiI,aiv⟩:=ns;have ap:=λi=>aqy A a b A.length i EN.1 EO.1
 have hlen:((A.set a A.length).set b A.length++[0]).length=A.length+1:=by simp
 have VR:∀d,Ch ((A.set a A.length).set b A.length++[0]) d->Ch A d/\d a=d A.length+1/\d b=d A.length+1:=λd aG=>by
  refine⟨λi ax hA=>?_,?_,?_⟩
  .have h1:=aG i (by omega);rw[ap,ay (by
    rintro(rfl | rfl)
    .exact hA EN.2
    .exact hA EO.2)]at h1
   exact h1 hA
  .have h1:=aG a (by have:=EN.1;omega);rw[ap,aA (.inl rfl)]at h1;exact h1 (by omega)
  .have h1:=aG b (by have:=EO.1;omega);rw[ap,aA (.inr rfl)]at h1;exact h1 (by omega)
 refine⟨by rw[hlen];have:=h.len;omega,λt aC=>?_,?_,λi ax hA=>?_,λi ax am=>?_,λi ax am=>?_,λd aG=>?_,λd D aG cR=>?_,?_,λ_=>?_,?_,?_,λt aC hc=>?_⟩
 .rw[hlen,ap];rcases List.mem_cons.1 (tU.mem_iff.1 aC)with rfl | aC
  .refine⟨by show A.length<A.length+1;omega,?_⟩;rw[ay (by have:=EN.1;have:=EO.1;simp only;omega)];unfold bZ;rw[getElem?_eq_none (by exact Nat.le_refl _)];rfl
  .have h1:=Me t aC;refine⟨by omega,?_⟩;rw[ay (by
    rintro(e | e)
    .exact aiD (List.mem_map.2 ⟨t,aC,e⟩)
    .exact aiI (List.mem_map.2 ⟨t,aC,e⟩))]
   exact h1.2
 .refine(tU.map (·.2)).nodup_iff.2 ?_;rw[map_cons,nodup_cons];refine⟨λhm=>?_,aiv⟩;obtain⟨t,aC,e⟩:=List.mem_map.1 hm;have:=(Me t aC).1;simp only at e;omega
 .rw[ap]at hA ⊢;rw[hlen]at ax ⊢;split at hA
  .next hc=>
   rw[aA hc];have:=EN.1;have:=EO.1;omega
  .next hc=>
   rw[ay hc];have zc:i<A.length:=by
    rcases eP i A.length with h1 | h1
    .exact h1
    .exfalso
     apply hA
     unfold bZ;rw[getElem?_eq_none h1];rfl
   have:=h.above i zc hA;omega
 .rw[ap];have h1:=h.none i ax am;rw[ay ?_]
  .exact h1
  .rintro(rfl | rfl)
   .have:=h.pos (iN,i) (aw.mem_iff.2 (by simp)) ax;simp only at this;omega
   .have:=h.pos (iv,i) (aw.mem_iff.2 (by simp)) ax;simp only at this;omega
 .rw[ap];have:=h.len;rcases h.some i ax am with h1 | h1
  .left
   split
   .omega
   .exact h1
  .rw[(aw.map _).mem_iff]at h1;simp only[map_cons,mem_cons]at h1;rcases h1 with h1 | h1 | h1
   .left;rw[aA (.inl h1)];omega
   .left;rw[aA (.inr h1)];omega
   .right
    rw[(tU.map _).mem_iff];simp[h1]
 .obtain⟨h1,aq,aJ⟩:=VR d aG;have aF:rJ L d=iN*d a+(iv*d b+rJ R d):=by
   unfold rJ;rw[(aw.map _).sum_nat,map_cons,map_cons,sum_cons,sum_cons]
  have e2:rJ L' d=(iN+iv)*d A.length+rJ R d:=by
   unfold rJ;rw[(tU.map _).sum_nat,map_cons,sum_cons]
  rw[h.cost d h1,aF,e2,aq,aJ,mul_succ,mul_succ,Nat.add_mul];omega
 .obtain⟨h1,aq,aJ⟩:=VR d aG;have aF:qI D L d=2^(D-d a)+(2^(D-d b)+qI D R d):=by
   unfold qI;rw[(aw.map _).sum_nat,map_cons,map_cons,sum_cons,sum_cons]
  have e2:qI D L' d=2^(D-d A.length)+qI D R d:=by
   unfold qI;rw[(tU.map _).sum_nat,map_cons,sum_cons]
  have auH:=cR a;rw[h.Od d D h1 cR,aF,e2,aq,aJ,show D-d A.length=(D-(d A.length+1))+1 by omega,ej];omega
 .have aF:ow (L.map (·.1))=(iN+iv)+ow (R.map (·.1)++[iN+iv]):=by
   rw[DV (aw.map _)];simp only[map_cons];exact aiM iN iv (R.map (·.1)) nl (λx ah=>by
    obtain⟨y,hy,rfl⟩:=List.mem_map.1 ah;exact cS y hy)
  have e2:ow (L'.map (·.1))=ow (R.map (·.1)++[iN+iv]):=by
   rw[DV (tU.map _)];simp only[map_cons];exact DV (perm_append_singleton _ _).symm
  have:=h.best;omega
 .rw[hlen,Nat.add_sub_cancel,(tU.map _).mem_iff];simp
 .have h1:=h.count;have aq:=aw.length_eq;have aJ:=tU.length_eq;have:=h.len;simp only[b1]at aq aJ;rw[hlen];omega
 .have h1:=h.total;rw[(aw.map _).sum_nat]at h1;rw[(tU.map _).sum_nat,<-h1];simp only[map_cons,sum_cons];omega
 .rcases List.mem_cons.1 (tU.mem_iff.1 aC)with rfl | aC
  .have:=h.len;simp only at hc;omega
  .exact h.pos t (aw.mem_iff.2 (by simp[aC])) hc
structure yL(ag U:ae):Prop where
 len:U.length=ag.length
 just:∀i,i<ag.length->(0<U[i]?.getD 0↔0<ag[i]?.getD 0)
 whole:(∀x∈U,x<=11)->fw U
 cost:AX ag U=Gs ag
 most:∀x∈U,x<=512
theorem GM(ag U:ae):AX ag U=((fG ag).map λt=>t.1*bZ U t.2).sum:=by
 unfold fG;rw[H7];unfold AX;congr 1
 apply map_congr_left
 intro i _;split
 .rfl
 .next h=>rw[show ag[i]?.getD 0=0 by omega,Nat.zero_mul]
theorem YI(ag U:ae)(hl:U.length=ag.length)(ar:∀i,i<ag.length->(0<U[i]?.getD 0↔0<ag[i]?.getD 0)):fF U=((fG ag).map λt=>2^(11-bZ U t.2)).sum:=by
 unfold fG;rw[H7,HY,hl];congr 1
 apply map_congr_left
 intro i ax;have h1:=ar i (List.mem_range.1 ax);unfold fl bZ;by_cases h:0<ag[i]?.getD 0
 .rw[aA h,ay (by omega)]
 .rw[ay h,aA (by omega)]
structure Jk(A U:ae):Prop where
 len:U.length=A.length
 none:∀i,i<A.length->bZ A i=0->bZ U i=0
 some:∀i,i<A.length->bZ A i≠0->bZ U i=bZ U (bZ A i)+1
 most:∀i,i<A.length->bZ U i<=A.length-i
theorem ak3{ag A U:ae}{t:Nat×Nat}{C:Nat}(h:uY ag A [t] C)(aG:Jk A U)(af:2<=(fG ag).length)(tS:ag.length<=256)(hA:A.length<=512):yL ag (U.take ag.length):=by
 have hcnt:=h.count;have hlen:=h.len;simp only[length_singleton]at hcnt;have hlast:=h.last (by omega);simp only[map_cons,map_nil,mem_singleton]at hlast;have hfree:=h.free t (by simp);have cW:Ch A (bZ U):=λi ax am=>aG.some i ax am
 have qs:bZ U t.2=0:=aG.none t.2 hfree.1 hfree.2;have aD:∀i,i<ag.length->(U.take ag.length)[i]?.getD 0=bZ U i:=λi ax=>by rw[getElem?_take,aA ax]
 have HG:∀i,i<ag.length->(0<(U.take ag.length)[i]?.getD 0↔0<ag[i]?.getD 0):=λi ax=>by
  rw[aD i ax];constructor
  .intro h1;rcases eq_zero_or_pos (ag[i]?.getD 0)with am | am
   .have:=aG.none i (by omega) (h.none i ax am);omega
   .exact am
  .intro am;rcases h.some i ax am with h1 | h1
   .have:=aG.some i (by omega) h1;omega
   .simp only[map_cons,map_nil,mem_singleton]at h1;omega
 have fj:(U.take ag.length).length=ag.length:=by rw[cq,aG.len];omega
 have hmem:∀u∈fG ag,u.2<ag.length:=λu hu=>((pV ag _ u).1 hu).1
 refine⟨fj,HG,λdV=>⟨by omega,dV,.inl ?_⟩,?_,?_⟩
 .rw[YI ag _ fj HG];obtain⟨D,cR,auG⟩:∃D,(∀i,bZ U i<=D)/\11<=D:=⟨512,λi=>by
   rcases eP i A.length with ax | ax
   .have:=aG.most i ax;omega
   .unfold bZ;rw[getElem?_eq_none (by rw[aG.len];exact ax)];exact zero_le _,by omega⟩
  have hk:=h.Od (bZ U) D cW cR;have aF:qI D [t] (bZ U)=2^D:=by simp[qI,qs]
  have e2:qI D (fG ag) (bZ U)=2^(D-11)*((fG ag).map λu=>2^(11-bZ (U.take ag.length) u.2)).sum:=by
   unfold qI;have:∀L:List (Nat×Nat),(∀u∈L,u∈fG ag)->(L.map λu=>2^(D-bZ U u.2)).sum=2^(D-11)*(L.map λu=>2^(11-bZ (U.take ag.length) u.2)).sum:=λL=>by
    induction L with
    | nil=>intro _;rfl
    | cons u L ih=>
     intro bR;have hu:=hmem u (bR u (by simp));have aR:bZ (U.take ag.length) u.2<=11:=by
      unfold bZ;rw[bH (by omega),b6];exact dV _ (b7 _)
     rw[map_cons,sum_cons,map_cons,sum_cons,ih (λv aE=>bR v (by simp[aE])),Nat.mul_add,<-dM];have e3:bZ (U.take ag.length) u.2=bZ U u.2:=aD u.2 hu;rw[e3]at aR ⊢;rw[show D-11+(11-bZ U u.2)=D-bZ U u.2 by omega]
   exact this _ (λ_ h=>h)
  rw[aF,e2,show D=(D-11)+11 by omega,dM,Nat.add_sub_cancel]at hk;have ah5:(2:Nat)^11=2048:=by decide
  rw[ah5]at hk;exact Nat.eq_of_mul_eq_mul_left (eW _) hk
 .rw[GM];have hc:=h.cost (bZ U) cW;have aF:rJ [t] (bZ U)=0:=by simp[rJ,qs]
  have ak:=h.best;have dg:ow ([t].map (·.1))=0:=aiL _ (by simp);have aX:(fz ag).length≠1:=by rw[<-xR,cQ];omega
  unfold Gs;rw[ay aX,<-ak,dg,ga];rw[aF,eH]at hc;rw[<-hc];unfold rJ;congr 1
  apply map_congr_left
  intro u hu;rw[show bZ (U.take ag.length) u.2=bZ U u.2 from aD u.2 (hmem u hu)]
 .intro x ah;obtain⟨i,ax,rfl⟩:=List.mem_iff_getElem.1 ah;rw[fj]at ax;have aR:=aG.most i (by omega);have cg:=aD i ax;rw[bH (by omega),b6]at cg;rw[cg];omega
theorem abY{ag:ae}{c i:Nat}(h:fG ag=[(c,i)])(tS:ag.length<=256):yL ag ((List.replicate ag.length 0).set i 1):=by
 have hm:=(pV ag ag.length (c,i)).1 (show(c,i)∈fG ag by rw[h];simp);simp only at hm;obtain⟨ax,hc,am⟩:=hm;have aD:∀k,k<ag.length->((List.replicate ag.length 0).set i 1)[k]?.getD 0=if k=i then 1 else 0:=λk hk=>by
  rw[getElem?_set];by_cases e:i=k
  .subst e;rw[aA rfl,aA (by simpa using hk),aA rfl];rfl
  .rw[ay e,ay (λh=>e h.symm)];exact zS _ _
 have hl:((List.replicate ag.length 0).set i 1).length=ag.length:=by simp
 have ar:∀k,k<ag.length->(0<((List.replicate ag.length 0).set i 1)[k]?.getD 0↔0<ag[k]?.getD 0):=λk hk=>by
  rw[aD k hk];by_cases e:k=i
  .subst e;rw[aA rfl];omega
  .rw[ay e];constructor
   .intro h;omega
   .intro h1;have:(ag[k]?.getD 0,k)∈fG ag:=(pV ag _ _).2 ⟨hk,rfl,h1⟩;rw[h]at this;simp at this;omega
 have pN:∀x∈(List.replicate ag.length 0).set i 1,x<=1:=λx ah=>by
  obtain⟨k,hk,rfl⟩:=List.mem_iff_getElem.1 ah;have h1:=aD k (by omega);rw[bH (by omega),b6]at h1;rw[h1];split<;>omega
 have iZ:bZ ((List.replicate ag.length 0).set i 1) i=1:=by rw[bZ,aD i ax,aA rfl]
 have ud:fF ((List.replicate ag.length 0).set i 1)=1024:=by
  rw[YI ag _ hl ar,h];simp[iZ]
 refine⟨hl,ar,λdV=>⟨by omega,dV,.inr ⟨?_,ud⟩⟩,?_,λx ah=>by have:=pN x ah;omega⟩
 .unfold jm;have:∀(n k:Nat),k<n->((List.replicate n 0).set k 1).countP (λn=>decide (0<n))=1:=λn=>by
   induction n with
   | zero=>intro k hk;omega
   | succ n ih=>
    intro k hk;rw[replicate_succ];cases k with
    | zero=>simp[countP_replicate]
    | succ k=>
     rw[set_cons_succ,countP_cons,ih k (by omega)];simp
  exact this _ _ ax
 .rw[GM,h];have aw:fz ag=[c]:=by rw[<-xR,h];rfl
  unfold Gs;rw[aw];simp[iZ]
end ao
end Go.Proofs.YtgiicohbigiapaaGreat
