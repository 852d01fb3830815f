/- Contracts. -/
import Derived.Test.YtgiicohbigiapaaGreatQad
import Derived.Test.YtgiicohbigiapaaGreatQac
import Derived.Shelf.Strings.Repeat
import Derived.Shelf.Strings.BuilderK
import Derived.Test.YtgiicohbigiapaaGreatQz1
import Derived.Test.YtgiicohbigiapaaGreatQz0
set_option maxHeartbeats 4000000
set_option maxRecDepth 100000
open Go.Proofs.Tryz Go.Proofs.YtgiicohbigiapaaGreat.ao List Nat Option
namespace Go.Proofs.YtgiicohbigiapaaGreat
open Go.Shelf Go.RowKit
def aax:Go.Shelf.Ren:=⟨fun | 99=>51 | 105=>30 | 165=>52 | 166=>53 | 169=>55 | 170=>54 | 206=>89 | 212=>50 | 240=>90 | 241=>91 | 263=>87 | 264=>88 | 276=>123 | 277=>124 | n=>n,fun | 0=>0 | 3=>3 | 4=>4 | 5=>5 | 9=>9 | 20=>20 | 37=>87 | 46=>88 | 51=>132 | 53=>31 | 70=>92 | 72=>94 | 75=>97 | 76=>98 | 80=>67 | 109=>89 | 127=>141 | 146=>137 | 148=>139 | 164=>182 | n=>n,λn=>n⟩
theorem aaw:Lays.n105 prog aax:={
 mixed:=by kernel_rfl
 f99:=Tryz.func51.trans (congrArg some (by kernel_rfl))
 f105:=Tryz.func30.trans (congrArg some (by kernel_rfl))
 f165:=Tryz.func52.trans (congrArg some (by kernel_rfl))
 f166:=Tryz.func53.trans (congrArg some (by kernel_rfl))
 f169:=Tryz.func55.trans (congrArg some (by kernel_rfl))
 f170:=Tryz.func54.trans (congrArg some (by kernel_rfl))
 f206:=Tryz.func89.trans (congrArg some (by kernel_rfl))
 f212:=Tryz.func50.trans (congrArg some (by kernel_rfl))
 f240:=Tryz.func90.trans (congrArg some (by kernel_rfl))
 f241:=Tryz.func91.trans (congrArg some (by kernel_rfl))
 f263:=Tryz.func87.trans (congrArg some (by kernel_rfl))
 f264:=Tryz.func88.trans (congrArg some (by kernel_rfl))
 f276:=Tryz.func123.trans (congrArg some (by kernel_rfl))
 f277:=func124.trans (congrArg some (by kernel_rfl))
 t0:=underlying0
 a0:=Tryz.isAgg0
 z0:=Tryz.sizeOf0
 v0:=Tryz.zeroValue0
 t3:=underlying3
 a3:=Tryz.isAgg3
 z3:=Tryz.sizeOf3
 v3:=Tryz.zeroValue3
 t4:=underlying4
 a4:=Tryz.isAgg4
 z4:=Tryz.sizeOf4
 v4:=Tryz.zeroValue4
 t5:=underlying5
 a5:=Tryz.isAgg5
 z5:=Tryz.sizeOf5
 v5:=Tryz.zeroValue5
 t9:=underlying9
 a9:=Tryz.isAgg9
 z9:=Tryz.sizeOf9
 v9:=Tryz.zeroValue9
 t20:=underlying20
 a20:=Tryz.isAgg20
 z20:=Tryz.sizeOf20
 v20:=Tryz.zeroValue20
 t37:=underlying87
 a37:=Tryz.isAgg87
 z37:=Tryz.sizeOf87
 v37:=Tryz.zeroValue87
 t46:=underlying88
 a46:=Tryz.isAgg88
 z46:=Tryz.sizeOf88
 v46:=Tryz.zeroValue88
 t51:=underlying132
 a51:=Tryz.isAgg132
 z51:=Tryz.sizeOf132
 v51:=Tryz.zeroValue132
 t53:=underlying31
 a53:=Tryz.isAgg31
 z53:=Tryz.sizeOf31
 v53:=Tryz.zeroValue31
 t70:=underlying92
 a70:=Tryz.isAgg92
 z70:=Tryz.sizeOf92
 v70:=Tryz.zeroValue92
 t72:=underlying94
 a72:=Tryz.isAgg94
 z72:=Tryz.sizeOf94
 v72:=Tryz.zeroValue94
 t75:=underlying97
 a75:=Tryz.isAgg97
 z75:=Tryz.sizeOf97
 v75:=Tryz.zeroValue97
 t76:=underlying98
 a76:=Tryz.isAgg98
 z76:=Tryz.sizeOf98
 v76:=Tryz.zeroValue98
 t109:=underlying89
 a109:=Tryz.isAgg89
 z109:=Tryz.sizeOf89
 v109:=Tryz.zeroValue89
 t127:=underlying141
 a127:=Tryz.isAgg141
 z127:=Tryz.sizeOf141
 v127:=Tryz.zeroValue141
 t146:=underlying137
 a146:=Tryz.isAgg137
 z146:=Tryz.sizeOf137
 v146:=Tryz.zeroValue137
 t148:=underlying139
 a148:=Tryz.isAgg139
 z148:=Tryz.sizeOf139
 v148:=Tryz.zeroValue139
 t164:=underlying182
 a164:=Tryz.isAgg182
 z164:=Tryz.sizeOf182
 v164:=Tryz.zeroValue182}
theorem aav:Builder.Extra prog aax:={
 sizeBuilder:=by kernel_rfl
 liesBuilder:=by kernel_rfl
 t5:=underlying5
 a5:=Tryz.isAgg5
 z5:=Tryz.sizeOf5
 v5:=Tryz.zeroValue5
 infoByte:=by kernel_rfl
 cellsByte:=by kernel_rfl
 sizeByte:=by kernel_rfl
 neB5:=by decide}
theorem aap(x:UInt8):∀n:Nat,Lib.repeatL [x] n=List.replicate n x
 | 0=>rfl
 | n+1=>by
  rw[replicate_succ,<-aap x n];rfl
theorem aao:∀n:Nat,Lib.repeatL [] n=[]
 | 0=>rfl
 | n+1=>by
  have:=aao n;rw[Lib.repeatL,this];rfl
theorem PJ(x n:Nat)(w:ai)(az:n<=1000000000) :
  Calls prog 30 #[.string (strOf [x]),.int .i64 n] w λe w'=>e=.returned (.string (strOf (List.replicate n x)))/\Below w.heap.size w w':=by
 have h:Calls prog 30 #[.string (strOf [x]),.int .i64 n] w _:=Any.strings_Repeat aaw aav (strOf [x]) n w (by omega) (by rw[cZ];simp;omega);refine h.mono λe w' ⟨he,ak⟩=>⟨?_,ak⟩
 rw[he,show(strOf [x]).data.toList=[UInt8.ofNat x]from rfl,aap];unfold strOf;rw[map_replicate]
theorem aa2(n:Nat)(w:ai)(az:n<=1000000000) :
  Calls prog 30 #[.string (strOf []),.int .i64 n] w λe w'=>e=.returned (.string (strOf []))/\Below w.heap.size w w':=by
 have h:Calls prog 30 #[.string (strOf []),.int .i64 n] w _:=Any.strings_Repeat aaw aav (strOf []) n w (by omega) (by rw[cZ];simp);refine h.mono λe w' ⟨he,ak⟩=>⟨?_,ak⟩
 rw[he,show(strOf []).data.toList=[]from rfl,aao];rfl
theorem atb(x:Nat)(w:ai)(ah:x<4294967296) :
  Calls prog 130 #[.int .u32 x] w λe w'=>e=.returned (.int .i64 (Lib.bitLen x))/\w=w':=by
 have h:=Tryz.bits_Len32 (x:Int) w (by omega) (by omega);rw[cY]at h;have H:=I h;clear h;go_enter func130,ntmps130
 go_wp2_with fail
 refine H.out.mono ?_;rintro e w' ⟨rfl,rfl⟩;go_wp2;go_ret;exact⟨rfl,rfl⟩
theorem agl(g off n c:Nat)(bs:ae)(w:ai)(am:0<n)(az:n<=100000000)(hl:bs.length=n)(bp:Reads w (some ⟨g,off,none⟩) (aN bs))(aD:g<w.heap.size) :
  Calls prog 233 #[.slice (some ⟨g,off,none⟩) n c] w λe w'=>∃u,e=.returned u/\w'.ownsRow w.heap.size 5 1 u n (aN bs)/\Below w.heap.size w w':=by
 obtain⟨i0,ax,bB,bK,bw⟩:=info_parts oG;have hown0:(w.alloc (.cells #[] 5)).ownsRow w.heap.size 5 1 (.slice (some ⟨w.heap.size,0,none⟩) 0 0) 0 []:=World.ownsRow_lit w #[] 0 bh (by unfold maxLen;omega) rfl;have hnews:∀j u,(aN bs)[j]?=some u->(w.alloc (.cells #[] 5)).cell? ((⟨g,off,none⟩:Addr).add j)=some u:=by
  intro j u ar;have fr:j<(aN bs).length:=by
   rcases eP j (aN bs).length with h1 | h1
   .exact h1
   .rw[getElem?_eq_none h1]at ar;cases ar
  obtain⟨fd,off',e,hc⟩:=bp (by intro e;rw[e]at fr;simp at fr);injection e with e
  injection e with aF e2
  subst aF e2;have e:((⟨g,off,none⟩:Addr).add j)=⟨g,off+j,none⟩:=by unfold Addr.add;split<;>simp_all
  rw[e,World.cell?_alloc_lt _ _ _ (by exact aD),hc j fr,ar]
 have hnil:∀W,(binOp .eql 87 (.slice (some ⟨g,off,none⟩) n c) (.slice none 0 0)).run prog W=.ok (.bool false) W:=λW=>Lib.run_eql_slice_nil W _ _ _ _ _ _ _ underlying87
 have hH:=I hnews;have tD:=I hown0;have e1:=I hl;clear hnews hown0 bp hl;go_enter func233,ntmps233
 go_wp2_with (at_builtin;refine wpList_append_own _ rfl _ _ 87 rfl w.heap.size 5 i0 (.int .u8 0) 1 1 underlying87 ax bB bK bw rfl (by decide) _ _ _ rfl tD.out ⟨g,off,none⟩ n c (aN bs) rfl ?c0 hH.out ?c2 ?c3 ?c4 ?c5 ?_)
 case c0=>rw[jn,e1.out,Nat.mul_one]
 case c2=>intro u hu;simp[aN]at hu;obtain⟨a,_,rfl⟩:=hu;rfl
 case c3=>unfold maxLen;omega
 case c4=>omega
 case c5=>simp
 intro tm aB hown2 rm _;have aI:Below w.heap.size w aB:=((Below.refl w.heap.size w).alloc bh _).grown rm (by simp) (λk e=>by
  have:k=w.heap.size:=by simpa [Value.ownBlock]using e.symm
  rw[this];exact Nat.le_refl _)
 have hQ:=I hown2;have bO:=I aI;clear hown2 aI rm tD hH;go_wp2;go_ret;exact⟨_,rfl,hQ,bO⟩
theorem ana(A:a7)(c:Nat)(w:ai) :
  Calls prog 224 #[.slice A 0 c] w λe w'=>e=.returned (.tuple #[.pointer none,.bool false])/\w=w':=by
 go_enter func224,ntmps224
 go_wp2;go_ret2;exact⟨rfl,rfl⟩
theorem ane(g off q c:Nat)(w:ai)(hq:q<=100000000)(hc:w.cell? ⟨g,off+q,none⟩=some (.int .u8 0)) :
  Calls prog 224 #[.slice (some ⟨g,off,none⟩) (q+1) c] w λe w'=>e=.returned (.tuple #[.pointer none,.bool false])/\w=w':=by
 go_enter func224,ntmps224
 go_wp2;go_ret2;exact⟨rfl,rfl⟩
theorem ar8{w aB:ai}{g cap q left:Nat}{bs:ae}(hown:aB.ownsRow w.heap.size 5 1 (.slice (some ⟨g,0,none⟩) q cap) q (aN bs))(hl:bs.length=q)(aD:w.heap.size<=g)(bl:g<aB.heap.size)(ap:w.heap.size<=aB.heap.size)(t:TypeId) :
  js (aB.alloc (.cells #[.slice (some ⟨g,0,none⟩) q cap,.int .i64 left] t)) w.heap.size aB.heap.size bs left:=by
 have hrow:Row (aB.alloc (.cells #[.slice (some ⟨g,0,none⟩) q cap,.int .i64 left] t)) aB.heap.size t [.slice (some ⟨g,0,none⟩) q cap,.int .i64 left]:=Row.new aB t _;have bp:Reads aB (some ⟨g,0,none⟩) (aN bs):=by
  obtain⟨A,df,e,h,_⟩:=kU hown;injection e with aF e2 e3
  subst aF;exact h
 obtain⟨bL,db⟩:=ZK hown;subst hl;exact⟨g,cap,hrow.cell 0,hrow.cell 1,hrow.free 1,ap,hrow.lt,aD,by simp;omega,by omega,bL,db,aph bp bl _⟩
theorem anc(g off q c:Nat)(bs:ae)(x:Nat)(w:ai)(hq:q<=10000000)(ah:x<256)(nw:x≠0)(hl:bs.length=q+1)(hlast:bs[q]'(by omega)=x)
  (bp:Reads w (some ⟨g,off,none⟩) (aN bs)) (aD:g<w.heap.size) :
  Calls prog 224 #[.slice (some ⟨g,off,none⟩) (q+1) c] w λe w'=>∃b,e=.returned (.tuple #[.pointer (some ⟨b,0,none⟩),.bool true]) /\
   js w' w.heap.size b bs (8*q+(Lib.bitLen x-1))/\Below w.heap.size w w':=by
 obtain⟨h1,fK,_,_⟩:=S6 ⟨x,ah⟩ nw;simp only at h1 fK;have hc:w.cell? ⟨g,off+q,none⟩=some (.int .u8 x):=by
  obtain⟨fd,off',e,hc⟩:=nA bp (by intro e;rw[e]at hl;simp at hl);injection e with e
  injection e with aF e2
  subst aF e2;rw[hc q (by omega),hlast]
 have hL:=agl g off (q+1) c bs w (by omega) (by omega) hl bp aD;have xM:=atb x w (by omega);have akF:((x:Int) == 0)=false:=by simp;omega
 have ly:=I hL;have e1:=I hl;have r8:=I xM;clear hL hl xM bp hlast nw;generalize Lib.bitLen x=L at h1 fK r8;obtain⟨left,hleft⟩:∃l,l=8*q+(L-1):=⟨_,rfl⟩;have ap:8*(q:Int)+((L:Int)-1)=(left:Int):=by omega
 have bU:=I ap;have CK:=I hleft;clear ap hleft;go_enter func224,ntmps224
 go_wp2_with fail
 refine r8.out.mono ?_;rintro e au ⟨rfl,rfl⟩;go_wp2_with fail
 refine ly.out.mono ?_;rintro e aB ⟨u,rfl,hown,aI⟩;obtain⟨g2,cap2,hu,bl,ajq⟩:=Iq hown (by omega);rw[hu]at hown ⊢;have kE:=ar8 (left:=left) hown e1.out bl ajq aI.size 302;have kO:=I kE;have aV:=I aI;clear kE aI hown hu ly r8;go_wp2;go_ret2;rw[bU.out,<-CK.out];exact⟨_,rfl,kO,aV.out.alloc aV.out.size _⟩
theorem aqm(b off N n:Nat)(w:ai)(az:n<=100000000)(cV:N<2^n)(fK:n%8=0)(h:dP w b off N n) :
  Calls prog 201 #[.pointer (some ⟨b,off,none⟩)] w λe w'=>∃g cap,e=.returned (.slice (some ⟨g,0,none⟩) (n/8+1) cap) /\
   w'.ownsRow w.heap.size 5 1 (.slice (some ⟨g,0,none⟩) (n/8+1) cap) (n/8+1) (aN (ao.bytesOf (N+2^n) (n/8+1)))/\Below w.heap.size w w':=by
 obtain⟨i0,ax,bB,bK,bw⟩:=info_parts oG;have jz:=AS b off N n w (by omega) h;obtain⟨q,hq⟩:∃q,q=n/8:=⟨_,rfl⟩;have eG:(n+7)/8=q:=by omega
 have W8:q<=100000000:=by omega
 have oA:=aql N n cV fK;rw[<-hq,eG]at oA;rw[eG]at jz;rw[<-hq];have dZ:∀w',Below w.heap.size w w'->dP w' b off N n:=λw' ak=>h.keep (dr ak none) (by simp) (by simp)
 have aib:((n:Int)%8 == 0)=true:=by simp;omega
 have jX:=I jz;have r9:=I dZ;have yD:=I oA;clear jz dZ oA cV h hq eG fK;go_enter func201,ntmps201
 go_wp2_with fail
 refine jX.out.mono ?_;rintro e au ⟨g,rfl,aD,hrow,aH⟩;have hlen:=YX b off (n:Int) au (r9.out au aH).YY;have hown:=OY hrow aD (by rw[ao.bytesOf_length];omega);rw[ao.bytesOf_length]at hown;have Hlen:=I hlen;have hQ:=I hown;have aK:=I aH;clear hlen hown aH hrow jX r9;go_wp2_with fail
 refine Hlen.out.mono ?_;rintro e aB ⟨rfl,rfl⟩;go_wp2_with (at_builtin;refine wpList_append_own _ rfl _ _ 87 rfl w.heap.size 5 i0 (.int .u8 0) 1 1 underlying87 ax bB bK bw rfl (by decide) _ _ _ rfl (hQ.out.alloc _) ⟨au.heap.size,0,none⟩ 1 1 [.int .u8 1] rfl rfl ?c1 ?c2 ?c3 ?c4 ?c5 ?_)
 case c1=>
  intro j u ar;match j,ar with
  | 0,ar=>simp at ar;subst ar;simp[Addr.add]
 case c2=>intro u hu;simp at hu;subst hu;rfl
 case c3=>unfold maxLen;omega
 case c4=>omega
 case c5=>have:=aK.out.size;simp;omega
 intro gZ a1 hown' hgrow _;have e:aN (ao.bytesOf N q)++[Value.int .u8 1]=aN (ao.bytesOf (N+2^n) (q+1)):=by
  rw[<-yD.out];simp[aN]
 rw[e]at hown';have h6:Below w.heap.size w a1:=(aK.out.alloc aK.out.size _).grown hgrow (by have:=aK.out.size;simp;omega) (λk e=>by
  have:k=g:=by simpa [Value.ownBlock]using e.symm
  omega)
 obtain⟨g3,Ts,hu,_,_⟩:=Iq hown' (by omega);rw[hu]at hown' ⊢;have adC:=I hown';have acN:=I h6;clear hown' h6 hgrow hu e;go_wp2;go_ret;exact⟨_,_,rfl,adC,acN⟩
theorem or_bit(x r:Nat)(ah:x<2^r)(aj:r<8):bits .or .u8 (x:Int) (2^r%256)=((x+2^r:Nat):Int):=by
 have af:2^r<=128:=dD (n:=2) (j:=7) (by omega) (by omega);have e2:(2:Int)^r=((2^r:Nat):Int):=by simp
 have aJ:=zN r x 1 ah;rw[Nat.one_mul]at aJ;rw[e2];generalize 2^r=y at ah af aJ ⊢;rw[show((y:Nat):Int)%256=((y:Nat):Int) by omega,u8_or_nat _ _ (by omega) (by omega),aJ]
theorem aqk(b off N n:Nat)(w:ai)(az:n<=100000000)(cV:N<2^n)(fK:n%8≠0)(h:dP w b off N n) :
  Calls prog 201 #[.pointer (some ⟨b,off,none⟩)] w λe w'=>∃g cap,e=.returned (.slice (some ⟨g,0,none⟩) (n/8+1) cap) /\
   w'.ownsRow w.heap.size 5 1 (.slice (some ⟨g,0,none⟩) (n/8+1) cap) (n/8+1) (aN (ao.bytesOf (N+2^n) (n/8+1)))/\Below w.heap.size w w':=by
 have jz:=AS b off N n w (by omega) h;rw[show(n+7)/8=n/8+1 by omega]at jz;have oA:=aqj N n cV;have dZ:∀w',Below w.heap.size w w'->dP w' b off N n:=λw' ak=>h.keep (dr ak none) (by simp) (by simp)
 have aib:((n:Int)%8 == 0)=false:=by simp;omega
 have kF:N/256^(n/8)%256<2^(n%8):=by
  refine Nat.lt_of_le_of_lt (mod_le _ _) ?_;rw[ib,div_lt_iff_lt_mul (eW _),<-dM,mod_add_div];exact cV
 have hget:(aN (ao.bytesOf N (n/8+1)))[n/8]?=some (.int .u8 ((N/256^(n/8)%256:Nat):Int)):=by
  rw[jF _ _ (by rw[ao.bytesOf_length];omega),yO]
 have sL:=or_bit _ _ kF (by omega);generalize N/256^(n/8)%256=x at oA hget sL kF;have jX:=I jz;have r9:=I dZ;have yD:=I oA;have qS:=I hget;have wN:=I sL;clear jz dZ oA cV h fK hget sL kF;go_enter func201,ntmps201
 go_wp2_with fail
 refine jX.out.mono ?_;rintro e au ⟨g,rfl,aD,hrow,aH⟩;have hlen:=YX b off (n:Int) au (r9.out au aH).YY;have hcell:=(hrow.cell (n/8)).trans qS.out;have hfree:=hrow.free (n/8);have hset:=hrow.bm (n/8) (.int .u8 ((x+2^(n%8):Nat):Int));rw[B9,yD.out]at hset;have hown:=OY hset aD (by rw[ao.bytesOf_length];omega);rw[ao.bytesOf_length]at hown;have Hlen:=I hlen;have hQ:=I hown;have aK:=I aH;clear hlen hown aH hrow jX r9 hset;go_wp2_with fail
 refine Hlen.out.mono ?_;rintro e aB ⟨rfl,rfl⟩;go_wp2;go_region
 all_goals go_wp2
 go_ret;rw[wN.out];exact⟨_,_,rfl,hQ,(aK.out.setCell aD _).drew⟩
theorem aqi(b off N n:Nat)(w:ai)(az:n<=100000000)(cV:N<2^n)(h:dP w b off N n) :
  Calls prog 201 #[.pointer (some ⟨b,off,none⟩)] w λe w'=>∃g cap,e=.returned (.slice (some ⟨g,0,none⟩) (n/8+1) cap) /\
   w'.ownsRow w.heap.size 5 1 (.slice (some ⟨g,0,none⟩) (n/8+1) cap) (n/8+1) (aN (ao.bytesOf (N+2^n) (n/8+1)))/\Below w.heap.size w w':=by
 by_cases fK:n%8=0
 .exact aqm b off N n w az cV fK h
 .exact aqk b off N n w az cV fK h
theorem apM(A:a7)(c:Nat)(w:ai) :
  Calls prog 190 #[.slice A 0 c] w λe w'=>e=.returned (.tuple #[.slice none 0 0,.bool false])/\w=w':=by
 go_enter func190,ntmps190
 go_wp2;go_ret2;exact⟨rfl,rfl⟩
theorem apO(g off q c:Nat)(w:ai)(hq:q<=100000000)(hc:w.cell? ⟨g,off+q,none⟩=some (.int .u8 0)) :
  Calls prog 190 #[.slice (some ⟨g,off,none⟩) (q+1) c] w λe w'=>e=.returned (.tuple #[.slice none 0 0,.bool false])/\w=w':=by
 go_enter func190,ntmps190
 go_wp2;go_ret2;exact⟨rfl,rfl⟩
theorem apN(g off q c top:Nat)(bs:ae)(x:Nat)(w:ai)(hq:q<=10000)(cr:∀b∈bs,b<256)(nw:x≠0)(hl:bs.length=q+1)(hlast:bs[q]'(by omega)=x)
  (bp:Reads w (some ⟨g,off,none⟩) (aN bs)) (aD:g<w.heap.size) (htop:ao.qh (bd bs) top) (fj:top<8*(q+1)) :
  Calls prog 190 #[.slice (some ⟨g,off,none⟩) (q+1) c] w λe w'=>∃A df,e=.returned (.tuple #[.slice A top df,.bool true])/\top<=df/\df<=maxLen /\
   Rest w' w.heap.size A (bd bs) top/\Below w.heap.size w w':=by
 have hc:w.cell? ⟨g,off+q,none⟩=some (.int .u8 x):=by
  obtain⟨fd,off',e,hc⟩:=nA bp (by intro e;rw[e]at hl;simp at hl);injection e with e
  injection e with aF e2
  subst aF e2;rw[hc q (by omega),hlast]
 have cX:=aoR (some ⟨g,off,none⟩) (q+1) c bs w hl (by omega) cr bp (λa e _=>by injection e with e;subst e;exact aD);have av:=po bs cr;rw[hl,ib]at av;have akF:((x:Int) == 0)=false:=by simp;omega
 obtain⟨n,az⟩:∃n,n=8*(q+1):=⟨_,rfl⟩;rw[<-az]at cX av fj;have iZ:(n:Int)-1=((n-1:Nat):Int):=by omega
 have l9:n<=80008:=by omega
 have hp:0<n:=by omega
 generalize bd bs=V at cX av htop ⊢;have jZ:=I cX;have b5:=I av;have Sx:=I htop;have qX:=I iZ;clear cX av htop bp hl hlast az iZ cr;go_enter func190,ntmps190
 go_wp2_with fail
 refine jZ.out.mono ?_;rintro e au ⟨u,rfl,hu,aH⟩;obtain⟨A,df,hform,re,hcm',hrest⟩:=OZ hu;rw[hform];obtain⟨g1,off1,rfl,aZ,ajp,hcells⟩:∃g off,A=some ⟨g,off,none⟩/\w.heap.size<=g/\g<au.heap.size/\∀j,j<n->au.cell? ⟨g,off+j,none⟩=some (.int .i64 ((V/2^j%2:Nat):Int)):=by
  rcases hrest with h | ⟨g,off,e,h1,af,aq⟩
  .omega
  .exact⟨g,off,e,h1,af,aq⟩
 have qR:=I hcells;have aK:=I aH;have qy:∀k,k<=n->∀W,(Instr.slice 112 (.slice (some ⟨g1,off1,none⟩) n df) none (some (.int .i64 k)) none).run prog W=.ok (.slice (some ⟨g1,off1,none⟩) k df) W:=λk hk W=>aqT _ n df k W hk re
 have Gf:=I qy;have lz:=I hcm';clear hu hform hrest hcells aH qy hcm' jZ;go_wp2;rw[qX.out];go_loop [5] (λi=>∃k:Nat,k<n/\i=.int .i64 k/\Hid (V<2^(k+1))) (λi=>(intOf i).toNat)
 case atStart=>exact⟨n-1,by omega,rfl,by rw[show n-1+1=n by omega];exact b5⟩
 case round=>
  obtain⟨k,hk,rfl,bY⟩:=hrel;have hcell:=qR.out k hk;by_cases am:V/2^k%2=0
  .have Mm:=ar6 V k bY.out am;have gv:0<k:=by
    rcases eq_zero_or_pos k with aO | aO
    .rw[aO]at Mm;have:=(x3.1 Sx).1;have:=eW top;omega
    .exact aO
   obtain⟨j,rfl⟩:∃j,k=j+1:=⟨k-1,by omega⟩;rw[am]at hcell;have acG:=I Mm;clear bY Mm am;go_wp2;go_round
   case rel=>exact⟨j,by omega,by go_num,acG⟩
   case measure=>simp[intOf]
  .have zi:k=top:=(ar5 V k bY.out am).uniq Sx.out;have h1:V/2^k%2=1:=by omega
   rw[h1]at hcell;have qy:=Gf.out k (by omega);have adn:=I zi;clear bY am h1 zi;go_wp2;go_ret2;rw[adn.out];refine⟨_,df,rfl,by omega,lz.out,.inr ⟨g1,off1,rfl,aZ,ajp,λj ar=>qR.out j (by omega)⟩,aK.out⟩
theorem x6(x:Nat)(w:ai)(ah:x<4294967296) :
  Calls prog 130 #[.int .u32 x] w λe w'=>e=.returned (.int .i64 (ao.wid x))/\w=w':=by
 have h:=Tryz.bits_Len32 (x:Int) w (by omega) (by omega);rw[cY,S7 x (by omega)]at h;have H:=I h;clear h;go_enter func130,ntmps130
 go_wp2_with fail
 refine H.out.mono ?_;rintro e w' ⟨rfl,rfl⟩;go_wp2;go_ret;exact⟨rfl,rfl⟩
theorem E5{w w':ai}{A:a7}{xs:b3}{b:Nat}(h:Reads w A xs)(hA:∀a,A=some a->a.block≠b)(aD:w.grownBy w' (some b)):Reads w' A xs:=λaX=>by
 obtain⟨g,off,rfl,hc⟩:=h aX;have lM:g≠b:=hA _ rfl;refine⟨g,off,rfl,λj ar=>?_⟩;have h1:=hc j ar;have av:j<xs.length:=ar;rw[bH av]at h1 ⊢;exact aD.cell h1 (λe=>by injection e with e;exact lM e)
theorem o8(W:ai)(p:Addr)(u:Value):W.grownBy (W.setCell p u) (some p.block):=⟨rfl,rfl,rfl,by simp[World.setCell],λi _ aX=>Below.heap_setCell W p u i (λe=>aX (by rw[e]))⟩
def aeh:Prop:=(∀(w:ai) (v:Nat),v<=65535->Calls prog 98 #[.int .i64 v] w λe w'=>e=.returned (.tuple #[.int .u8 (mH v),.int .i64 (mj v),.int .i64 (ju v),.bool true])/\Below w.heap.size w w') /\
 ∀(w:ai) (v:Int),-9223372036854775808<=v/\v<=9223372036854775807->(v<0\/65535<v)->Calls prog 98 #[.int .i64 v] w λe w'=>e=.returned (.tuple #[.int .u8 0,.int .i64 0,.int .i64 0,.bool false])/\Below w.heap.size w w'
def ael:Prop:=∀(w:ai) (c m:Nat),c<256->m<4294967296->Calls prog 186 #[.int .u8 c,.int .u32 m] w λe w'=>e=.returned (match n8 c m with | some g=>.tuple #[.int .i64 g,.bool true] | none=>.tuple #[.int .i64 0,.bool false])/\Below w.heap.size w w'
def aei:Prop:=∀w:ai,Calls prog 96 #[] w λe w'=>e=.returned (.agg #[.int .i64 1,.int .i64 2,.int .i64 4])/\Below w.heap.size w w'
def hI(x:Int):Prop:=-9223372036854775808<=x/\x<=9223372036854775807
def aej:Prop:=∀(w:ai) (a b c x:Int),hI a->hI b->hI c->hI x->Calls prog 129 #[.agg #[.int .i64 a,.int .i64 b,.int .i64 c],.int .i64 x] w λe w'=>
 (0<=ht a b c x->e=.returned (.tuple #[.int .i64 (ht a b c x),.agg #[.int .i64 (hx a b c x).1,.int .i64 (hx a b c x).2.1,.int .i64 (hx a b c x).2.2],.bool true])) /\
 (ht a b c x<0->e=.returned (.tuple #[.int .i64 0,.agg #[.int .i64 a,.int .i64 b,.int .i64 c],.bool false]))/\Below w.heap.size w w'
def aek:Prop:=∀(w:ai) (a b c n:Int),hI a->hI b->hI c->hI n->Calls prog 187 #[.agg #[.int .i64 a,.int .i64 b,.int .i64 c],.int .i64 n] w λe w'=>
 (∀x,ka a b c n=some x->e=.returned (.tuple #[.int .i64 x,.agg #[.int .i64 (hx a b c x).1,.int .i64 (hx a b c x).2.1,.int .i64 (hx a b c x).2.2],.bool true])) /\
 (ka a b c n=none->e=.returned (.tuple #[.int .i64 0,.agg #[.int .i64 a,.int .i64 b,.int .i64 c],.bool false]))/\Below w.heap.size w w'
theorem aln(w:ai)(v:Int)(h:v<0\/65535<v):Calls prog 98 #[.int .i64 v] w λe w'=>e=.returned (.tuple #[.int .u8 0,.int .i64 0,.int .i64 0,.bool false])/\w=w':=by
 go_enter func98,ntmps98
 by_cases am:v<0
 .have d0:decide (v<0)=true:=bG am;go_wp2;exact bodyPost_ret (by simp[results,results98,go_sem]) rfl ⟨rfl,rfl⟩
 .have d0:decide (v<0)=false:=bF am;have d1:decide (65535<v)=true:=cl;go_wp2;exact bodyPost_ret (by simp[results,results98,go_sem]) rfl ⟨rfl,rfl⟩
theorem alo(w:ai)(v:Nat)(h:v<16):Calls prog 98 #[.int .i64 v] w λe w'=>e=.returned (.tuple #[.int .u8 v,.int .i64 0,.int .i64 0,.bool true])/\w=w':=by
 have hc:IntKind.u8.wrap (v:Int)=v:=by simp[IntKind.wrap,IntKind.bits,IntKind.signed];omega
 have d2:decide (v<16)=true:=bG h;have d3:decide ((v:Int)<16)=true:=cl;have d0:decide ((v:Int)<0)=false:=aT;have d1:decide (65535<(v:Int))=false:=aT;have Dp:decide (65535<v)=false:=aT;go_enter func98,ntmps98
 go_wp2;exact bodyPost_ret (by simp[results,results98,go_sem]) rfl ⟨rfl,rfl⟩
theorem alk(v P r:Nat)(aj:r=v-P)(h:P<=v)(aE:v<=65535):IntKind.i64.wrap ((v:Int)-P)=(r:Int):=by
 have e:(v:Int)-P=r:=by omega
 rw[e];exact IntWalk.i64_in _ (by omega)
theorem alj(k c:Nat)(hc:c=11+(k+1))(hk:k<=15):IntKind.i64.wrap (16+(k:Int))=16+(k:Int)/\IntKind.i64.wrap (16+(k:Int)-4)=(c:Int)/\IntKind.u8.wrap (c:Int)=c:=by
 have e:16+(k:Int)-4=c:=by omega
 refine⟨IntWalk.i64_in _ (by omega),?_,?_⟩
 .rw[e];exact IntWalk.i64_in _ (by omega)
 .simp[IntKind.wrap,IntKind.bits,IntKind.signed];omega
theorem alm(w:ai)(v k P:Nat)(hk:4<=k/\k<=15)(cJ:(2:Int)^k=(P:Int))(air:16<=P/\P<=32768)(aE:v<=65535)(eU:16<=v)(ais:P<=v)(hw:ao.wid v=k+1) :
  Calls prog 98 #[.int .i64 v] w λe w'=>e=.returned (.tuple #[.int .u8 ((11+(k+1):Nat):Int),.int .i64 ((v-P:Nat):Int),.int .i64 k,.bool true])/\∃m,w'=w.drewN m:=by
 have qO:=I cJ;clear cJ;have fP:=I (λW=>x6 v W (by omega));rw[hw]at fP;obtain⟨c,hc⟩:∃c,c=11+(k+1):=⟨_,rfl⟩;obtain⟨r,aj⟩:∃r,r=v-P:=⟨_,rfl⟩;rw[<-hc,<-aj];have hcv:IntKind.u32.wrap (v:Int)=v:=by simp[IntKind.wrap,IntKind.bits,IntKind.signed];omega
 have d2:decide (v<16)=false:=aT;have d3:decide ((v:Int)<16)=false:=aT;have d0:decide ((v:Int)<0)=false:=aT;have d1:decide (65535<(v:Int))=false:=aT;have Dp:decide (65535<v)=false:=aT;have eu:((k+1:Nat):Int)-1=k:=by omega
 have fy:IntKind.i64.wrap ((k:Int))=(k:Int):=IntWalk.i64_in _ (by omega);obtain⟨aF,e2,e3⟩:=alj k c hc hk.2;have e4:IntKind.i64.wrap ((P:Nat):Int)=((P:Nat):Int):=IntWalk.i64_in _ (by omega);have ag6:wrap64 ((P:Nat):Int)=((P:Nat):Int):=by unfold wrap64;omega
 have e5:=alk v P r aj ais aE;have gv:0<=(k:Int):=by omega
 have cJ:=qO.out;clear hw hc aj qO;go_enter func98,ntmps98
 go_wp2_with fail
 refine(fP.out w).mono ?_;rintro e w' ⟨rfl,rfl⟩;go_wp2;go_quiet (fail)
 go_wp2;exact bodyPost_ret (by simp[results,results98,go_sem]) rfl ⟨rfl,_,rfl⟩
theorem YB:aeh:=by
 refine⟨λw v aE=>?_,λw v _ h=>(aln w v h).mono λe w' ⟨he,hw⟩=>⟨he,hw▸Below.refl _ _⟩⟩;by_cases eU:v<16
 .unfold mH mj ju;rw[aA eU,aA eU,aA eU];exact(alo w v eU).mono λe w' ⟨he,hw⟩=>⟨he,hw▸Below.refl _ _⟩
 .obtain⟨k,bf,bM,h1,af,hw⟩:=Qj v (by omega) aE;unfold mH mj ju;rw[ay eU,ay eU,ay eU,hw,Nat.add_sub_cancel];have aw:2^(k+1)=2^k+2^k:=by rw[ej];omega
  have hm:v%2^k=v-2^k:=by rw[mod_eq_sub_mod h1,mod_eq_of_lt (by omega)]
  rw[hm];have aJ:2^4<=2^k:=dD (by omega) bf;have UL:2^k<=2^15:=dD (by omega) bM;exact(alm w v k (2^k) ⟨bf,bM⟩ (by simp) ⟨by omega,by omega⟩ aE (by omega) h1 hw).mono λe w' ⟨he,m,akr⟩=>⟨he,by rw[akr];exact below_drewN dQ m⟩
theorem BO(w:ai)(c:Nat)(hc:c<256):Calls prog 185 #[.int .u8 c] w λe w'=>e=.returned (.tuple #[.int .i64 (max (h4 c) 0),.bool (decide (0<=h4 c))])/\w=w':=by
 obtain⟨r,aj⟩:∃r,r=max (h4 c) 0:=⟨_,rfl⟩;obtain⟨t,aC⟩:∃t,t=decide (0<=h4 c):=⟨_,rfl⟩;rw[<-aj,<-aC];unfold h4 at aj aC;by_cases ou:27<c
 .rw[ay (by omega),aA ou]at aj aC;have nt:r=0:=by rw[aj];rfl
  have xG:t=false:=by rw[aC];rfl
  clear aj aC;subst nt xG;have d1:decide (27<c)=true:=bG ou;have Dp:decide (27<(c:Int))=true:=cl;go_enter func185,ntmps185
  go_wp2;go_ret2;exact⟨rfl,rfl⟩
 .have d1:decide (27<c)=false:=bF ou;have Dp:decide (27<(c:Int))=false:=aT;by_cases eU:c<16
  .rw[aA eU]at aj aC;have nt:r=0:=by rw[aj];rfl
   have xG:t=true:=by rw[aC];rfl
   clear aj aC;subst nt xG;have d2:decide (c<16)=true:=bG eU;have vi:decide ((c:Int)<16)=true:=cl;go_enter func185,ntmps185
   go_wp2;go_ret2;exact⟨rfl,rfl⟩
  .rw[ay eU,ay ou]at aj aC;have xG:t=true:=by rw[aC];exact bG (by omega)
   have nt:(c:Int)-16+4=r:=by rw[aj];omega
   clear aj aC;subst xG;have d2:decide (c<16)=false:=bF eU;have vi:decide ((c:Int)<16)=false:=aT;have aU:=I nt;clear nt;go_enter func185,ntmps185
   go_wp2;rw[aU.out];go_ret2;exact⟨rfl,rfl⟩
theorem alD(w:ai)(c m:Nat)(hc:c<256)(h:h4 c<0):Calls prog 186 #[.int .u8 c,.int .u32 m] w λe w'=>e=.returned (.tuple #[.int .i64 0,.bool false])/\w=w':=by
 have eS:=I (BO w c hc);rw[Int.max_eq_right (by omega),bF (by omega)]at eS;clear h;go_enter func186,ntmps186
 go_wp2_with fail
 refine eS.out.mono ?_;rintro e w' ⟨rfl,rfl⟩;go_wp2;go_ret2;exact⟨rfl,rfl⟩
theorem alE(w:ai)(c m k q:Nat)(hc:c<256)(hm:m<4294967296)(h:h4 c=(k:Int))(hq:ao.wid m=q)(Wr:k<q):Calls prog 186 #[.int .u8 c,.int .u32 m] w λe w'=>e=.returned (.tuple #[.int .i64 0,.bool false])/\w=w':=by
 have eS:=I (BO w c hc);rw[h,Int.max_eq_left (by omega),bG (by omega)]at eS;have fP:=I (x6 m w hm);rw[hq]at fP;have d1:decide (k<q)=true:=bG Wr;have Dp:decide ((k:Int)<q)=true:=cl;clear h hq;go_enter func186,ntmps186
 go_wp2_with fail
 refine eS.out.mono ?_;rintro e w' ⟨rfl,rfl⟩;go_wp2_with fail
 refine fP.out.mono ?_;rintro e w' ⟨rfl,rfl⟩;go_wp2;go_ret2;exact⟨rfl,rfl⟩
theorem alG(w:ai)(c:Nat)(hc:c<16):Calls prog 186 #[.int .u8 c,.int .u32 0] w λe w'=>e=.returned (.tuple #[.int .i64 c,.bool true])/\w=w':=by
 have eS:=I (BO w c (by omega));have h:h4 c=0:=by unfold h4;rw[aA hc]
 rw[h]at eS;have hmx:max (0:Int) 0=0:=rfl;rw[hmx,bG (by omega)]at eS;have fP:=I (x6 0 w (by omega));have hq:ao.wid 0=0:=rfl;rw[hq]at fP;have rj:wrap64 (c:Int)=c:=by unfold wrap64;omega
 clear h hq hmx;go_enter func186,ntmps186
 go_wp2_with fail
 refine eS.out.mono ?_;rintro e w' ⟨rfl,rfl⟩;go_wp2_with fail
 refine fP.out.mono ?_;rintro e w' ⟨rfl,rfl⟩;go_wp2;go_ret2;exact⟨rfl,rfl⟩
theorem alF(w:ai)(c m k q P:Nat)(hc:c<256)(h:h4 c=(k:Int))(hk:4<=k/\k<=15)(cJ:(2:Int)^k=(P:Int))(air:16<=P/\P<=32768)(hm:m<P)(hq:ao.wid m=q)(awe:q<=k):Calls prog 186 #[.int .u8 c,.int .u32 m] w λe w'=>e=.returned (.tuple #[.int .i64 ((P+m:Nat):Int),.bool true])/\w=w':=by
 have qO:=I cJ;clear cJ;have eS:=I (BO w c hc);rw[h,Int.max_eq_left (by omega),bG (by omega)]at eS;have fP:=I (x6 m w (by omega));rw[hq]at fP;have d1:decide (k<q)=false:=aT;have Dp:decide ((k:Int)<q)=false:=aT;have d2:((k:Int) == 0)=false:=by simp;omega
 have av3:wrap64 (m:Int)=m:=by unfold wrap64;omega
 have ag6:wrap64 ((P:Nat):Int)=((P:Nat):Int):=by unfold wrap64;omega
 have e5:wrap64 ((P:Int)+m)=(P:Int)+m:=by unfold wrap64;omega
 have gv:0<=(k:Int):=by omega
 rw[Int.natCast_add];have cJ:=qO.out;clear h hq qO;go_enter func186,ntmps186
 go_wp2_with fail
 refine eS.out.mono ?_;rintro e w' ⟨rfl,rfl⟩;go_wp2_with fail
 refine fP.out.mono ?_;rintro e w' ⟨rfl,rfl⟩;go_wp2;go_ret2;exact⟨rfl,rfl⟩
theorem YK:ael:=by
 intro w c m hc hm;rcases ahy c with h | ⟨k,h,hk⟩
 .rw[as1 c m (by omega)];exact(alD w c m hc (by omega)).mono λe w' ⟨he,hw⟩=>⟨he,hw▸Below.refl _ _⟩
 .by_cases qu:m<2^k
  .have akv:=qN m k qu;by_cases eU:c<16
   .have gv:k=0:=by unfold h4 at h;rw[aA eU]at h;omega
    subst gv;have ip:m=0:=by omega
    subst ip;have aE:n8 c 0=some c:=by unfold n8;rw[aA eU,aA rfl]
    rw[aE];exact(alG w c eU).mono λe w' ⟨he,hw⟩=>⟨he,hw▸Below.refl _ _⟩
   .have ou:¬27<c:=λou=>by unfold h4 at h;rw[ay eU,aA ou]at h;omega
    have uc:c-12=k:=by unfold h4 at h;rw[ay eU,ay ou]at h;omega
    have aE:n8 c m=some (2^k+m):=by unfold n8;rw[ay eU,ay ou,uc,aA qu]
    rw[aE];have aJ:2^4<=2^k:=dD (by omega) (by omega);have UL:2^k<=2^15:=dD (by omega) hk;exact(alF w c m k _ (2^k) hc h ⟨by omega,hk⟩ (by simp) ⟨by omega,by omega⟩ qu rfl akv).mono λe w' ⟨he,hw⟩=>⟨he,hw▸Below.refl _ _⟩
  .have az:n8 c m=none:=(as2 c m k h).2 (by
    have:=eW k;rw[ne_eq,Nat.div_eq_zero_iff];omega)
   rw[az];have hq:k<ao.wid m:=by
    rcases eP k (ao.wid m)with hq | hq
    .exact hq
    .exact absurd (gV (wu m) (dD (by omega) hq)) qu
   exact(alE w c m k _ hc hm h rfl hq).mono λe w' ⟨he,hw⟩=>⟨he,hw▸Below.refl _ _⟩
def KV:Go.Shelf.Ren:=⟨fun | 166=>53 | 169=>55 | 240=>90 | 276=>123 | n=>n,fun | 0=>0 | 3=>3 | 4=>4 | 5=>5 | 9=>9 | 20=>20 | 37=>87 | 70=>92 | 72=>94 | 75=>97 | 80=>67 | 127=>141 | 164=>182 | n=>n,λn=>n⟩
theorem ae1:Lays.n166 prog KV:={
 mixed:=by kernel_rfl
 f166:=Tryz.func53.trans (congrArg some (by kernel_rfl))
 f240:=Tryz.func90.trans (congrArg some (by kernel_rfl))
 f276:=Tryz.func123.trans (congrArg some (by kernel_rfl))
 t0:=underlying0
 a0:=Tryz.isAgg0
 z0:=Tryz.sizeOf0
 v0:=Tryz.zeroValue0
 t3:=underlying3
 a3:=Tryz.isAgg3
 z3:=Tryz.sizeOf3
 v3:=Tryz.zeroValue3
 t4:=underlying4
 a4:=Tryz.isAgg4
 z4:=Tryz.sizeOf4
 v4:=Tryz.zeroValue4
 t9:=underlying9
 a9:=Tryz.isAgg9
 z9:=Tryz.sizeOf9
 v9:=Tryz.zeroValue9
 t20:=underlying20
 a20:=Tryz.isAgg20
 z20:=Tryz.sizeOf20
 v20:=Tryz.zeroValue20
 t37:=underlying87
 a37:=Tryz.isAgg87
 z37:=Tryz.sizeOf87
 v37:=Tryz.zeroValue87
 t70:=underlying92
 a70:=Tryz.isAgg92
 z70:=Tryz.sizeOf92
 v70:=Tryz.zeroValue92
 t72:=underlying94
 a72:=Tryz.isAgg94
 z72:=Tryz.sizeOf94
 v72:=Tryz.zeroValue94
 t75:=underlying97
 a75:=Tryz.isAgg97
 z75:=Tryz.sizeOf97
 v75:=Tryz.zeroValue97
 t164:=underlying182
 a164:=Tryz.isAgg182
 z164:=Tryz.sizeOf182
 v164:=Tryz.zeroValue182}
theorem ae2:Lays.n169 prog KV:={
 mixed:=by kernel_rfl
 f169:=Tryz.func55.trans (congrArg some (by kernel_rfl))
 t0:=underlying0
 a0:=Tryz.isAgg0
 z0:=Tryz.sizeOf0
 v0:=Tryz.zeroValue0
 t3:=underlying3
 a3:=Tryz.isAgg3
 z3:=Tryz.sizeOf3
 v3:=Tryz.zeroValue3
 t9:=underlying9
 a9:=Tryz.isAgg9
 z9:=Tryz.sizeOf9
 v9:=Tryz.zeroValue9
 t37:=underlying87
 a37:=Tryz.isAgg87
 z37:=Tryz.sizeOf87
 v37:=Tryz.zeroValue87
 t70:=underlying92
 a70:=Tryz.isAgg92
 z70:=Tryz.sizeOf92
 v70:=Tryz.zeroValue92
 t72:=underlying94
 a72:=Tryz.isAgg94
 z72:=Tryz.sizeOf94
 v72:=Tryz.zeroValue94
 t127:=underlying141
 a127:=Tryz.isAgg141
 z127:=Tryz.sizeOf141
 v127:=Tryz.zeroValue141}
theorem S2:Builder.Extra prog KV:={
 sizeBuilder:=by kernel_rfl
 liesBuilder:=by kernel_rfl
 t5:=underlying5
 a5:=Tryz.isAgg5
 z5:=Tryz.sizeOf5
 v5:=Tryz.zeroValue5
 infoByte:=by kernel_rfl
 cellsByte:=by kernel_rfl
 sizeByte:=by kernel_rfl
 neB5:=by decide}
def pu(w:ai)(B b:Nat)(l:ae):Prop:=Lib.IsBuilderF 94 5 B b (aN l) w
theorem abV(l:ae)(h:∀x∈l,x<256):aN l=Lib.byteCells (l.map UInt8.ofNat):=by
 rw[aN,Lib.byteCells,List.map_map];refine map_congr_left λx ah=>?_
 rw[Function.comp_apply,UInt8.toNat_ofNat_of_lt' (h x ah)]
theorem asc(l:ae)(h:∀x∈l,x<256):Lib.strCells (strOf l)=aN l:=by
 rw[abV l h,Lib.strCells_eq];rfl
theorem asb(a b:ae):aN a++aN b=aN (a++b):=by simp[aN]
theorem pu.new(w:ai)(B:Nat)(bu:B<=w.heap.size):pu (w.alloc (.cells #[.pointer none,.slice none 0 0] 94)) B w.heap.size []:=
 .inl ⟨bu,.slice none 0 0,heap_alloc_new w _,⟨rfl,.inl ⟨rfl,rfl⟩⟩,by simp[Value.ownBlock]⟩
theorem pu.below{w w':ai}{B b:Nat}{l:ae}(h:pu w B b l)(ak:Below w.heap.size w w'):pu w' B b l:=by
 have key:∀p,Lib.BuilderAtF 94 5 B b p (aN l) w->Lib.BuilderAtF 94 5 B b p (aN l) w':=λp h=>by
  have av:=h.lt;obtain⟨bu,v,aE,hown,aX⟩:=h;exact⟨bu,v,(ak.block b av).trans aE,hown.kept (row:=none) ⟨ak.os,ak.tape,ak.output,ak.size,λk hk _=>ak.block k hk⟩ (Classical.em _),aX⟩
 exact h.elim (λx=>.inl (key _ x)) (λx=>.inr (key _ x))
theorem pu.lt{w:ai}{B b:Nat}{l:ae}(h:pu w B b l):B<=b/\b<w.heap.size:=h.elim (λh=>⟨h.1,h.lt⟩) (λh=>⟨h.1,h.lt⟩)
theorem apS{w w':ai}{b g:Nat}{t:TypeId}{ag:b3}(h:Row w g t ag)(aC:t≠5)(aD:g≠b)(b8:Lib.OthersKept 5 (some b) w w'):Row w' g t ag:=
 b8 g _ h (λe=>aD (by injection e)) (λc q9 e=>by injection e with _ e;exact aC e)
theorem To(B b:Nat)(l s:ae)(w:ai)(hl:l.length+s.length<=1000000000)(ap:∀x∈s,x<256)(bu:B<=w.heap.size)(h:pu w B b l) :
  Calls prog 53 #[.pointer (some ⟨b,0,none⟩),.string (strOf s)] w λe w'=>e=.returned (.tuple #[.int .i64 (s.length:Int),.nilIface])/\pu w' B b (l++s)/\Below B w w'/\Lib.OthersKept 5 (some b) w w':=by
 have hc:Calls prog 53 #[.pointer (some ⟨b,0,none⟩),.string (strOf s)] w _:=Any.Builder_WriteString_k ae1 S2 B b (aN l) (strOf s) w h (by rw[cZ,jn];omega) bu;refine hc.mono ?_;rintro e w' ⟨rfl,ak,hbel,hk⟩;rw[asc s ap,asb]at ak;exact⟨by rw[cZ],.inr ak,hbel,hk⟩
theorem afP(B b:Nat)(l:ae)(w:ai)(hl:∀x∈l,x<256)(bu:B<=w.heap.size)(h:pu w B b l) :
  Calls prog 55 #[.pointer (some ⟨b,0,none⟩)] w λe w'=>e=.returned (.string (strOf l))/\Below B w w':=by
 unfold pu at h;rw[abV l hl]at h;have hc:Calls prog 55 #[.pointer (some ⟨b,0,none⟩)] w _:=Any.Builder_String_any_k ae2 S2 B b (l.map UInt8.ofNat) w h bu;refine hc.mono ?_;rintro e w' ⟨rfl,_,hbel,_⟩;exact⟨rfl,hbel⟩
end Go.Proofs.YtgiicohbigiapaaGreat
