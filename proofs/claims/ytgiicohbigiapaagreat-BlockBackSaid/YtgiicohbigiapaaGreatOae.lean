/- Contracts. -/
import Derived.Test.YtgiicohbigiapaaGreatOad
import Derived.Test.YtgiicohbigiapaaGreatOac
import Derived.Shelf.Strings.Repeat
import Derived.Shelf.Strings.BuilderK
import Derived.Test.YtgiicohbigiapaaGreatOz1
import Derived.Test.YtgiicohbigiapaaGreatOz0
set_option maxHeartbeats 4000000
set_option maxRecDepth 100000
open Go.Proofs.Tryz Go.Proofs.YtgiicohbigiapaaGreat.am List Nat Option
namespace Go.Proofs.YtgiicohbigiapaaGreat
open Go.Shelf Go.RowKit
def YF:Go.Shelf.Ren:=⟨fun|99=>51|105=>30|165=>52|166=>53|169=>55|170=>54|206=>89|212=>50|240=>90|241=>91|263=>87|264=>88|276=>123|277=>124|n=>n,fun|0=>0|3=>3|4=>4|5=>5|9=>9|20=>20|37=>87|46=>88|51=>132|53=>31|70=>92|72=>94|75=>97|76=>98|80=>67|109=>89|127=>141|146=>137|148=>139|164=>182|n=>n,λn=>n⟩
theorem YE:Lays.n105 prog YF:={
 mixed:=by kernel_rfl
 f99:=Tryz.func51.trans (congrArg some (by kernel_rfl))
 f105:=Tryz.func30.trans (congrArg some (by kernel_rfl))
 f165:=Tryz.func52.trans (congrArg some (by kernel_rfl))
 f166:=Tryz.func53.trans (congrArg some (by kernel_rfl))
 f169:=Tryz.func55.trans (congrArg some (by kernel_rfl))
 f170:=Tryz.func54.trans (congrArg some (by kernel_rfl))
 f206:=Tryz.func89.trans (congrArg some (by kernel_rfl))
 f212:=Tryz.func50.trans (congrArg some (by kernel_rfl))
 f240:=Tryz.func90.trans (congrArg some (by kernel_rfl))
 f241:=Tryz.func91.trans (congrArg some (by kernel_rfl))
 f263:=Tryz.func87.trans (congrArg some (by kernel_rfl))
 f264:=Tryz.func88.trans (congrArg some (by kernel_rfl))
 f276:=Tryz.func123.trans (congrArg some (by kernel_rfl))
 f277:=func124.trans (congrArg some (by kernel_rfl))
 t0:=underlying0
 a0:=Tryz.isAgg0
 z0:=Tryz.sizeOf0
 v0:=Tryz.zeroValue0
 t3:=underlying3
 a3:=Tryz.isAgg3
 z3:=Tryz.sizeOf3
 v3:=Tryz.zeroValue3
 t4:=underlying4
 a4:=Tryz.isAgg4
 z4:=Tryz.sizeOf4
 v4:=Tryz.zeroValue4
 t5:=underlying5
 a5:=Tryz.isAgg5
 z5:=Tryz.sizeOf5
 v5:=Tryz.zeroValue5
 t9:=underlying9
 a9:=Tryz.isAgg9
 z9:=Tryz.sizeOf9
 v9:=Tryz.zeroValue9
 t20:=underlying20
 a20:=Tryz.isAgg20
 z20:=Tryz.sizeOf20
 v20:=Tryz.zeroValue20
 t37:=underlying87
 a37:=Tryz.isAgg87
 z37:=Tryz.sizeOf87
 v37:=Tryz.zeroValue87
 t46:=underlying88
 a46:=Tryz.isAgg88
 z46:=Tryz.sizeOf88
 v46:=Tryz.zeroValue88
 t51:=underlying132
 a51:=Tryz.isAgg132
 z51:=Tryz.sizeOf132
 v51:=Tryz.zeroValue132
 t53:=underlying31
 a53:=Tryz.isAgg31
 z53:=Tryz.sizeOf31
 v53:=Tryz.zeroValue31
 t70:=underlying92
 a70:=Tryz.isAgg92
 z70:=Tryz.sizeOf92
 v70:=Tryz.zeroValue92
 t72:=underlying94
 a72:=Tryz.isAgg94
 z72:=Tryz.sizeOf94
 v72:=Tryz.zeroValue94
 t75:=underlying97
 a75:=Tryz.isAgg97
 z75:=Tryz.sizeOf97
 v75:=Tryz.zeroValue97
 t76:=underlying98
 a76:=Tryz.isAgg98
 z76:=Tryz.sizeOf98
 v76:=Tryz.zeroValue98
 t109:=underlying89
 a109:=Tryz.isAgg89
 z109:=Tryz.sizeOf89
 v109:=Tryz.zeroValue89
 t127:=underlying141
 a127:=Tryz.isAgg141
 z127:=Tryz.sizeOf141
 v127:=Tryz.zeroValue141
 t146:=underlying137
 a146:=Tryz.isAgg137
 z146:=Tryz.sizeOf137
 v146:=Tryz.zeroValue137
 t148:=underlying139
 a148:=Tryz.isAgg139
 z148:=Tryz.sizeOf139
 v148:=Tryz.zeroValue139
 t164:=underlying182
 a164:=Tryz.isAgg182
 z164:=Tryz.sizeOf182
 v164:=Tryz.zeroValue182}
theorem YD:Builder.Extra prog YF:={
 sizeBuilder:=by kernel_rfl
 liesBuilder:=by kernel_rfl
 t5:=underlying5
 a5:=Tryz.isAgg5
 z5:=Tryz.sizeOf5
 v5:=Tryz.zeroValue5
 infoByte:=by kernel_rfl
 cellsByte:=by kernel_rfl
 sizeByte:=by kernel_rfl
 neB5:=by decide}
theorem Yx(x:UInt8):∀n:Nat,Lib.repeatL [x] n=List.replicate n x
|0=>rfl
|n+1=>by
  rw[replicate_succ,<-Yx x n];rfl
theorem Yw:∀n:Nat,Lib.repeatL [] n=[]
|0=>rfl
|n+1=>by
  have:=Yw n;rw[Lib.repeatL,this];rfl
theorem OI(x n:Nat)(w:ah)(aA:n<=1000000000) :
  Calls prog 30 #[.string (strOf [x]),.int .i64 n] w λe w'=>e=.returned (.string (strOf (List.replicate n x)))/\av w w':=by
 have h:Calls prog 30 #[.string (strOf [x]),.int .i64 n] w _:=Any.strings_Repeat YE YD (strOf [x]) n w (by omega) (by rw[cy];simp;omega);refine h.mono λe w' ⟨he,ak⟩=>⟨?_,ak⟩
 rw[he,show(strOf [x]).data.toList=[UInt8.ofNat x]from rfl,Yx];unfold strOf;rw[map_replicate]
theorem Zb(n:Nat)(w:ah)(aA:n<=1000000000) :
  Calls prog 30 #[.string (strOf []),.int .i64 n] w λe w'=>e=.returned (.string (strOf []))/\av w w':=by
 have h:Calls prog 30 #[.string (strOf []),.int .i64 n] w _:=Any.strings_Repeat YE YD (strOf []) n w (by omega) (by rw[cy];simp);refine h.mono λe w' ⟨he,ak⟩=>⟨?_,ak⟩
 rw[he,show(strOf []).data.toList=[]from rfl,Yw];rfl
theorem atv(x:Nat)(w:ah)(ai:x<4294967296) :
  Calls prog 130 #[.int .u32 x] w λe w'=>e=.returned (.int .i64 (Lib.bitLen x))/\w=w':=by
 have h:=Tryz.bits_Len32 (x:Int) w (by omega) (by omega);rw[cX]at h;have H:=I h;clear h;go_enter func130,ntmps130
 go_wp2_with fail
 refine H.out.mono ?_;rintro e w' ⟨rfl,rfl⟩;go_wp2;go_ret;exact⟨rfl,rfl⟩
theorem agE(g off n c:Nat)(bs:ae)(w:ah)(ao:0<n)(aA:n<=100000000)(hl:bs.length=n)(bt:Reads w (some ⟨g,off,none⟩) (aO bs))(aF:g<w.heap.size) :
  Calls prog 233 #[.slice (some ⟨g,off,none⟩) n c] w λe w'=>∃u,e=.returned u/\w'.ownsRow w.heap.size 5 1 u n (aO bs)/\av w w':=by
 obtain⟨i0,ay,bC,bL,bz⟩:=info_parts ob;have hown0:(w.alloc (.cells #[] 5)).ownsRow w.heap.size 5 1 (.slice (some ⟨w.heap.size,0,none⟩) 0 0) 0 []:=World.ownsRow_lit w #[] 0 bl (by unfold maxLen;omega) rfl;have hnews:∀j u,(aO bs)[j]?=some u->(w.alloc (.cells #[] 5)).cell? ((⟨g,off,none⟩:Addr).add j)=some u:=by
  intro j u ar;have fk:j<(aO bs).length:=by
   rcases eF j (aO bs).length with h1|h1
   .exact h1
   .rw[getElem?_eq_none h1]at ar;cases ar
  obtain⟨eT,off',e,hc⟩:=bt (by intro e;rw[e]at fk;simp at fk);injection e with e
  injection e with aG e2
  subst aG e2;have e:((⟨g,off,none⟩:Addr).add j)=⟨g,off+j,none⟩:=by unfold Addr.add;split<;>simp_all
  rw[e,World.cell?_alloc_lt _ _ _ (by exact aF),hc j fk,ar]
 have hnil:∀W,(binOp .eql 87 (.slice (some ⟨g,off,none⟩) n c) (.slice none 0 0)).run prog W=.ok (.bool false) W:=λW=>Lib.run_eql_slice_nil W _ _ _ _ _ _ _ underlying87
 have j3:=I hnews;have vQ:=I hown0;have gj:=I hl;clear hnews hown0 bt hl;go_enter func233,ntmps233
 go_wp2_with (at_builtin;refine wpList_append_own _ rfl _ _ 87 rfl w.heap.size 5 i0 (.int .u8 0) 1 1 underlying87 ay bC bL bz rfl (by decide) _ _ _ rfl vQ.out ⟨g,off,none⟩ n c (aO bs) rfl ?c0 j3.out ?c2 ?c3 ?c4 ?c5 ?_)
 case c0=>rw[i7,gj.out,Nat.mul_one]
 case c2=>intro u hu;simp[aO]at hu;obtain⟨a,_,rfl⟩:=hu;rfl
 case c3=>unfold maxLen;omega
 case c4=>omega
 case c5=>simp
 intro sJ aC hown2 qR _;have aJ:av w aC:=((Below.refl w.heap.size w).alloc bl _).grown qR (by simp) (λk e=>by
  have:k=w.heap.size:=by simpa [Value.ownBlock]using e.symm
  rw[this];exact Nat.le_refl _)
 have iR:=I hown2;have b5:=I aJ;clear hown2 aJ qR;go_wp2;go_ret;exact⟨_,rfl,iR,b5⟩
theorem anz(A:a7)(c:Nat)(w:ah) :
  Calls prog 224 #[.slice A 0 c] w λe w'=>e=.returned (.tuple #[.pointer none,.bool false])/\w=w':=by
 go_enter func224,ntmps224
 go_wp2;go_ret2;exact⟨rfl,rfl⟩
theorem anC(g off q c:Nat)(w:ah)(hq:q<=100000000)(hc:w.cell? ⟨g,off+q,none⟩=some (.int .u8 0)) :
  Calls prog 224 #[.slice (some ⟨g,off,none⟩) (q+1) c] w λe w'=>e=.returned (.tuple #[.pointer none,.bool false])/\w=w':=by
 go_enter func224,ntmps224
 go_wp2;go_ret2;exact⟨rfl,rfl⟩
theorem ast{w aC:ah}{g cap q left:Nat}{bs:ae}(hown:aC.ownsRow w.heap.size 5 1 (.slice (some ⟨g,0,none⟩) q cap) q (aO bs))(hl:bs.length=q)(aF:w.heap.size<=g)(bp:g<aC.heap.size)(ap:w.heap.size<=aC.heap.size)(t:TypeId) :
  jd (aC.alloc (.cells #[.slice (some ⟨g,0,none⟩) q cap,.int .i64 left] t)) w.heap.size aC.heap.size bs left:=by
 have hrow:Row (aC.alloc (.cells #[.slice (some ⟨g,0,none⟩) q cap,.int .i64 left] t)) aC.heap.size t [.slice (some ⟨g,0,none⟩) q cap,.int .i64 left]:=Row.new aC t _;have bt:Reads aC (some ⟨g,0,none⟩) (aO bs):=by
  obtain⟨A,db,e,h,_⟩:=kJ hown;injection e with aG e2 e3
  subst aG;exact h
 obtain⟨bM,c8⟩:=XT hown;subst hl;exact⟨g,cap,hrow.cell 0,hrow.cell 1,hrow.free 1,ap,hrow.lt,aF,by simp;omega,by omega,bM,c8,apF bt bp _⟩
theorem anB(g off q c:Nat)(bs:ae)(x:Nat)(w:ah)(hq:q<=10000000)(ai:x<256)(mY:x≠0)(hl:bs.length=q+1)(hlast:bs[q]'(by omega)=x)
  (bt:Reads w (some ⟨g,off,none⟩) (aO bs))(aF:g<w.heap.size) :
  Calls prog 224 #[.slice (some ⟨g,off,none⟩) (q+1) c] w λe w'=>∃b,e=.returned (.tuple #[.pointer (some ⟨b,0,none⟩),.bool true]) /\
   jd w' w.heap.size b bs (8*q+(Lib.bitLen x-1))/\av w w':=by
 obtain⟨h1,e8,_,_⟩:=Ra ⟨x,ai⟩ mY;simp only at h1 e8;have hc:w.cell? ⟨g,off+q,none⟩=some (.int .u8 x):=by
  obtain⟨eT,off',e,hc⟩:=m9 bt (by intro e;rw[e]at hl;simp at hl);injection e with e
  injection e with aG e2
  subst aG e2;rw[hc q (by omega),hlast]
 have hz:=agE g off (q+1) c bs w (by omega) (by omega) hl bt aF;have wS:=atv x w (by omega);have ak2:((x:Int)==0)=false:=by simp;omega
 have ov:=I hz;have gj:=I hl;have uj:=I wS;clear hz hl wS bt hlast mY;generalize Lib.bitLen x=L at h1 e8 uj;obtain⟨left,hleft⟩:∃l,l=8*q+(L-1):=⟨_,rfl⟩;have ap:8*(q:Int)+((L:Int)-1)=(left:Int):=by omega
 have ca:=I ap;have BO:=I hleft;clear ap hleft;go_enter func224,ntmps224
 go_wp2_with fail
 refine uj.out.mono ?_;rintro e aw ⟨rfl,rfl⟩;go_wp2_with fail
 refine ov.out.mono ?_;rintro e aC ⟨u,rfl,hown,aJ⟩;obtain⟨g2,cap2,hu,bp,ajN⟩:=Hj hown (by omega);rw[hu]at hown ⊢;have ku:=ast (left:=left) hown gj.out bp ajN aJ.size 302;have lJ:=I ku;have bm:=I aJ;clear ku aJ hown hu;go_wp2;go_ret2;rw[ca.out,<-BO.out];exact⟨_,rfl,lJ,bm.out.alloc bm.out.size _⟩
theorem aqH(b off N n:Nat)(w:ah)(aA:n<=100000000)(cU:N<2^n)(e8:n%8=0)(h:dL w b off N n) :
  Calls prog 201 #[.pointer (some ⟨b,off,none⟩)] w λe w'=>∃g cap,e=.returned (.slice (some ⟨g,0,none⟩) (n/8+1) cap) /\
   w'.ownsRow w.heap.size 5 1 (.slice (some ⟨g,0,none⟩) (n/8+1) cap) (n/8+1) (aO (am.bytesOf (N+2^n) (n/8+1)))/\av w w':=by
 obtain⟨i0,ay,bC,bL,bz⟩:=info_parts ob;have jl:=zT b off N n w (by omega) h;obtain⟨q,hq⟩:∃q,q=n/8:=⟨_,rfl⟩;have ey:(n+7)/8=q:=by omega
 have Ve:q<=100000000:=by omega
 have n5:=aqG N n cU e8;rw[<-hq,ey]at n5;rw[ey]at jl;rw[<-hq];have dT:∀w',av w w'->dL w' b off N n:=λw' ak=>h.keep (dj ak none) (by simp) (by simp)
 have aiw:((n:Int)%8==0)=true:=by simp;omega
 have lH:=I jl;have xK:=I dT;have zD:=I n5;clear jl dT n5 cU h hq ey e8;go_enter func201,ntmps201
 go_wp2_with fail
 refine lH.out.mono ?_;rintro e aw ⟨g,rfl,aF,hrow,aH⟩;have hlen:=W5 b off (n:Int) aw (xK.out aw aH).W6;have hown:=NU hrow aF (by rw[am.bytesOf_length];omega);rw[am.bytesOf_length]at hown;have Hlen:=I hlen;have iR:=I hown;have aN:=I aH;clear hlen hown aH hrow;go_wp2_with fail
 refine Hlen.out.mono ?_;rintro e aC ⟨rfl,rfl⟩;go_wp2_with (at_builtin;refine wpList_append_own _ rfl _ _ 87 rfl w.heap.size 5 i0 (.int .u8 0) 1 1 underlying87 ay bC bL bz rfl (by decide) _ _ _ rfl (iR.out.alloc _) ⟨aw.heap.size,0,none⟩ 1 1 [.int .u8 1] rfl rfl ?c1 ?c2 ?c3 ?c4 ?c5 ?_)
 case c1=>
  intro j u ar;match j,ar with
 |0,ar=>simp at ar;subst ar;simp[Addr.add]
 case c2=>intro u hu;simp at hu;subst hu;rfl
 case c3=>unfold maxLen;omega
 case c4=>omega
 case c5=>have:=aN.out.size;simp;omega
 intro gN a6 hown' hgrow _;have e:aO (am.bytesOf N q)++[Value.int .u8 1]=aO (am.bytesOf (N+2^n) (q+1)):=by
  rw[<-zD.out];simp[aO]
 rw[e]at hown';have hV:av w a6:=(aN.out.alloc aN.out.size _).grown hgrow (by have:=aN.out.size;simp;omega) (λk e=>by
  have:k=g:=by simpa [Value.ownBlock]using e.symm
  omega)
 obtain⟨g3,Ru,hu,_,_⟩:=Hj hown' (by omega);rw[hu]at hown' ⊢;have ade:=I hown';have abm:=I hV;clear hown' hV hgrow hu e;go_wp2;go_ret;exact⟨_,_,rfl,ade,abm⟩
theorem or_bit(x r:Nat)(ai:x<2^r)(aj:r<8):bits .or .u8 (x:Int) (2^r%256)=((x+2^r:Nat):Int):=by
 have af:2^r<=128:=dy (n:=2) (j:=7) (by omega) (by omega);have e2:(2:Int)^r=((2^r:Nat):Int):=by simp
 have aK:=yV r x 1 ai;rw[Nat.one_mul]at aK;rw[e2];generalize 2^r=y at ai af aK ⊢;rw[show((y:Nat):Int)%256=((y:Nat):Int) by omega,u8_or_nat _ _ (by omega) (by omega),aK]
theorem aqF(b off N n:Nat)(w:ah)(aA:n<=100000000)(cU:N<2^n)(e8:n%8≠0)(h:dL w b off N n) :
  Calls prog 201 #[.pointer (some ⟨b,off,none⟩)] w λe w'=>∃g cap,e=.returned (.slice (some ⟨g,0,none⟩) (n/8+1) cap) /\
   w'.ownsRow w.heap.size 5 1 (.slice (some ⟨g,0,none⟩) (n/8+1) cap) (n/8+1) (aO (am.bytesOf (N+2^n) (n/8+1)))/\av w w':=by
 have jl:=zT b off N n w (by omega) h;rw[show(n+7)/8=n/8+1 by omega]at jl;have n5:=aqE N n cU;have dT:∀w',av w w'->dL w' b off N n:=λw' ak=>h.keep (dj ak none) (by simp) (by simp)
 have aiw:((n:Int)%8==0)=false:=by simp;omega
 have kv:N/256^(n/8)%256<2^(n%8):=by
  refine Nat.lt_of_le_of_lt (mod_le _ _) ?_;rw[h0,div_lt_iff_lt_mul (eK _),<-dI,mod_add_div];exact cU
 have hget:(aO (am.bytesOf N (n/8+1)))[n/8]?=some (.int .u8 ((N/256^(n/8)%256:Nat):Int)):=by
  rw[jq _ _ (by rw[am.bytesOf_length];omega),xS]
 have sa:=or_bit _ _ kv (by omega);generalize N/256^(n/8)%256=x at n5 hget sa kv;have lH:=I jl;have xK:=I dT;have zD:=I n5;have tZ:=I hget;have vP:=I sa;clear jl dT n5 cU h e8 hget sa kv;go_enter func201,ntmps201
 go_wp2_with fail
 refine lH.out.mono ?_;rintro e aw ⟨g,rfl,aF,hrow,aH⟩;have hlen:=W5 b off (n:Int) aw (xK.out aw aH).W6;have hcell:=(hrow.cell (n/8)).trans tZ.out;have hfree:=hrow.free (n/8);have hset:=hrow.bq (n/8) (.int .u8 ((x+2^(n%8):Nat):Int));rw[Bg,zD.out]at hset;have hown:=NU hset aF (by rw[am.bytesOf_length];omega);rw[am.bytesOf_length]at hown;have Hlen:=I hlen;have iR:=I hown;have aN:=I aH;clear hlen hown aH hrow hset;go_wp2_with fail
 refine Hlen.out.mono ?_;rintro e aC ⟨rfl,rfl⟩;go_wp2;go_region
 all_goals go_wp2
 go_ret;rw[vP.out];exact⟨_,_,rfl,iR,(aN.out.setCell aF _).drew⟩
theorem aqD(b off N n:Nat)(w:ah)(aA:n<=100000000)(cU:N<2^n)(h:dL w b off N n) :
  Calls prog 201 #[.pointer (some ⟨b,off,none⟩)] w λe w'=>∃g cap,e=.returned (.slice (some ⟨g,0,none⟩) (n/8+1) cap) /\
   w'.ownsRow w.heap.size 5 1 (.slice (some ⟨g,0,none⟩) (n/8+1) cap) (n/8+1) (aO (am.bytesOf (N+2^n) (n/8+1)))/\av w w':=by
 by_cases e8:n%8=0
 .exact aqH b off N n w aA cU e8 h
 .exact aqF b off N n w aA cU e8 h
theorem ap8(A:a7)(c:Nat)(w:ah) :
  Calls prog 190 #[.slice A 0 c] w λe w'=>e=.returned (.tuple #[.slice none 0 0,.bool false])/\w=w':=by
 go_enter func190,ntmps190
 go_wp2;go_ret2;exact⟨rfl,rfl⟩
theorem aqa(g off q c:Nat)(w:ah)(hq:q<=100000000)(hc:w.cell? ⟨g,off+q,none⟩=some (.int .u8 0)) :
  Calls prog 190 #[.slice (some ⟨g,off,none⟩) (q+1) c] w λe w'=>e=.returned (.tuple #[.slice none 0 0,.bool false])/\w=w':=by
 go_enter func190,ntmps190
 go_wp2;go_ret2;exact⟨rfl,rfl⟩
theorem ap9(g off q c top:Nat)(bs:ae)(x:Nat)(w:ah)(hq:q<=10000)(cs:∀b∈bs,b<256)(mY:x≠0)(hl:bs.length=q+1)(hlast:bs[q]'(by omega)=x)
  (bt:Reads w (some ⟨g,off,none⟩) (aO bs))(aF:g<w.heap.size)(htop:am.p1 (bd bs) top)(e1:top<8*(q+1)) :
  Calls prog 190 #[.slice (some ⟨g,off,none⟩) (q+1) c] w λe w'=>∃A db,e=.returned (.tuple #[.slice A top db,.bool true])/\top<=db/\db<=maxLen /\
   Rest w' w.heap.size A (bd bs) top/\av w w':=by
 have hc:w.cell? ⟨g,off+q,none⟩=some (.int .u8 x):=by
  obtain⟨eT,off',e,hc⟩:=m9 bt (by intro e;rw[e]at hl;simp at hl);injection e with e
  injection e with aG e2
  subst aG e2;rw[hc q (by omega),hlast]
 have cW:=apd (some ⟨g,off,none⟩) (q+1) c bs w hl (by omega) cs bt (λa e _=>by injection e with e;subst e;exact aF);have au:=o4 bs cs;rw[hl,h0]at au;have ak2:((x:Int)==0)=false:=by simp;omega
 obtain⟨n,aA⟩:∃n,n=8*(q+1):=⟨_,rfl⟩;rw[<-aA]at cW au e1;have iK:(n:Int)-1=((n-1:Nat):Int):=by omega
 have lT:n<=80008:=by omega
 have g6:0<n:=by omega
 generalize bd bs=V at cW au htop ⊢;have l7:=I cW;have ce:=I au;have QI:=I htop;have sX:=I iK;clear cW au htop bt hl hlast aA iK cs;go_enter func190,ntmps190
 go_wp2_with fail
 refine l7.out.mono ?_;rintro e aw ⟨u,rfl,hu,aH⟩;obtain⟨A,db,hform,qL,hcm',hrest⟩:=NV hu;rw[hform];obtain⟨g1,off1,rfl,a1,ajM,hcells⟩:∃g off,A=some ⟨g,off,none⟩/\w.heap.size<=g/\g<aw.heap.size/\∀j,j<n->aw.cell? ⟨g,off+j,none⟩=some (.int .i64 ((V/2^j%2:Nat):Int)):=by
  rcases hrest with h|⟨g,off,e,h1,af,aq⟩
  .omega
  .exact⟨g,off,e,h1,af,aq⟩
 have sT:=I hcells;have aN:=I aH;have qi:∀k,k<=n->∀W,(Instr.slice 112 (.slice (some ⟨g1,off1,none⟩) n db) none (some (.int .i64 k)) none).run prog W=.ok (.slice (some ⟨g1,off1,none⟩) k db) W:=λk hk W=>arf _ n db k W hk qL
 have E9:=I qi;have pS:=I hcm';clear hu hform hrest hcells aH qi hcm';go_wp2;rw[sX.out];go_loop [5] (λi=>∃k:Nat,k<n/\i=.int .i64 k/\Hid (V<2^(k+1))) (λi=>(intOf i).toNat)
 case atStart=>exact⟨n-1,by omega,rfl,by rw[show n-1+1=n by omega];exact ce⟩
 case round=>
  obtain⟨k,hk,rfl,bW⟩:=hrel;have hcell:=sT.out k hk;by_cases ao:V/2^k%2=0
  .have Lr:=asr V k bW.out ao;have gl:0<k:=by
    rcases eq_zero_or_pos k with aQ|aQ
    .rw[aQ]at Lr;have:=(w9.1 QI).1;have:=eK top;omega
    .exact aQ
   obtain⟨j,rfl⟩:∃j,k=j+1:=⟨k-1,by omega⟩;rw[ao]at hcell;have aa6:=I Lr;clear bW Lr ao;go_wp2;go_round
   case rel=>exact⟨j,by omega,by go_num,aa6⟩
   case measure=>simp[intOf]
  .have yo:k=top:=(asq V k bW.out ao).uniq QI.out;have h1:V/2^k%2=1:=by omega
   rw[h1]at hcell;have qi:=E9.out k (by omega);have acK:=I yo;clear bW ao h1 yo;go_wp2;go_ret2;rw[acK.out];refine⟨_,db,rfl,by omega,pS.out,.inr ⟨g1,off1,rfl,a1,ajM,λj ar=>sT.out j (by omega)⟩,aN.out⟩
theorem xc(x:Nat)(w:ah)(ai:x<4294967296) :
  Calls prog 130 #[.int .u32 x] w λe w'=>e=.returned (.int .i64 (am.wid x))/\w=w':=by
 have h:=Tryz.bits_Len32 (x:Int) w (by omega) (by omega);rw[cX,Rb x (by omega)]at h;have H:=I h;clear h;go_enter func130,ntmps130
 go_wp2_with fail
 refine H.out.mono ?_;rintro e w' ⟨rfl,rfl⟩;go_wp2;go_ret;exact⟨rfl,rfl⟩
theorem Ed{w w':ah}{A:a7}{xs:b1}{b:Nat}(h:Reads w A xs)(hA:∀a,A=some a->a.block≠b)(aF:w.grownBy w' (some b)):Reads w' A xs:=λaZ=>by
 obtain⟨g,off,rfl,hc⟩:=h aZ;have ls:g≠b:=hA _ rfl;refine⟨g,off,rfl,λj ar=>?_⟩;have h1:=hc j ar;have au:j<xs.length:=ar;rw[bI au]at h1 ⊢;exact aF.cell h1 (λe=>by injection e with e;exact ls e)
theorem oQ(W:ah)(p:Addr)(u:Value):W.grownBy (W.setCell p u) (some p.block):=⟨rfl,rfl,rfl,by simp[World.setCell],λi _ aZ=>Below.heap_setCell W p u i (λe=>aZ (by rw[e]))⟩
def aet:Prop:=(∀(w:ah) (v:Nat),v<=65535->Calls prog 98 #[.int .i64 v] w λe w'=>e=.returned (.tuple #[.int .u8 (mg v),.int .i64 (l0 v),.int .i64 (jf v),.bool true])/\av w w') /\
 ∀(w:ah) (v:Int),-9223372036854775808<=v/\v<=9223372036854775807->(v<0\/65535<v)->Calls prog 98 #[.int .i64 v] w λe w'=>e=.returned (.tuple #[.int .u8 0,.int .i64 0,.int .i64 0,.bool false])/\av w w'
def aex:Prop:=∀(w:ah) (c m:Nat),c<256->m<4294967296->Calls prog 186 #[.int .u8 c,.int .u32 m] w λe w'=>e=.returned (match nI c m with|some g=>.tuple #[.int .i64 g,.bool true]|none=>.tuple #[.int .i64 0,.bool false])/\av w w'
def aeu:Prop:=∀w:ah,Calls prog 96 #[] w λe w'=>e=.returned (.agg #[.int .i64 1,.int .i64 2,.int .i64 4])/\av w w'
def hv(x:Int):Prop:=-9223372036854775808<=x/\x<=9223372036854775807
def aev:Prop:=∀(w:ah) (a b c x:Int),hv a->hv b->hv c->hv x->Calls prog 129 #[.agg #[.int .i64 a,.int .i64 b,.int .i64 c],.int .i64 x] w λe w'=>
 (0<=hb a b c x->e=.returned (.tuple #[.int .i64 (hb a b c x),.agg #[.int .i64 (hn a b c x).1,.int .i64 (hn a b c x).2.1,.int .i64 (hn a b c x).2.2],.bool true])) /\
 (hb a b c x<0->e=.returned (.tuple #[.int .i64 0,.agg #[.int .i64 a,.int .i64 b,.int .i64 c],.bool false]))/\av w w'
def aew:Prop:=∀(w:ah) (a b c n:Int),hv a->hv b->hv c->hv n->Calls prog 187 #[.agg #[.int .i64 a,.int .i64 b,.int .i64 c],.int .i64 n] w λe w'=>
 (∀x,jW a b c n=some x->e=.returned (.tuple #[.int .i64 x,.agg #[.int .i64 (hn a b c x).1,.int .i64 (hn a b c x).2.1,.int .i64 (hn a b c x).2.2],.bool true])) /\
 (jW a b c n=none->e=.returned (.tuple #[.int .i64 0,.agg #[.int .i64 a,.int .i64 b,.int .i64 c],.bool false]))/\av w w'
theorem alL(w:ah)(v:Int)(h:v<0\/65535<v):Calls prog 98 #[.int .i64 v] w λe w'=>e=.returned (.tuple #[.int .u8 0,.int .i64 0,.int .i64 0,.bool false])/\w=w':=by
 go_enter func98,ntmps98
 by_cases ao:v<0
 .have d0:decide (v<0)=true:=bE ao;go_wp2;exact bodyPost_ret (by simp[results,results98,go_sem]) rfl ⟨rfl,rfl⟩
 .have d0:decide (v<0)=false:=bG ao;have d1:decide (65535<v)=true:=cf;go_wp2;exact bodyPost_ret (by simp[results,results98,go_sem]) rfl ⟨rfl,rfl⟩
theorem alM(w:ah)(v:Nat)(h:v<16):Calls prog 98 #[.int .i64 v] w λe w'=>e=.returned (.tuple #[.int .u8 v,.int .i64 0,.int .i64 0,.bool true])/\w=w':=by
 have hc:IntKind.u8.wrap (v:Int)=v:=by simp[IntKind.wrap,IntKind.bits,IntKind.signed];omega
 have d2:decide (v<16)=true:=bE h;have d3:decide ((v:Int)<16)=true:=cf;have d0:decide ((v:Int)<0)=false:=aU;have d1:decide (65535<(v:Int))=false:=aU;have Cx:decide (65535<v)=false:=aU;go_enter func98,ntmps98
 go_wp2;exact bodyPost_ret (by simp[results,results98,go_sem]) rfl ⟨rfl,rfl⟩
theorem alJ(v P r:Nat)(aj:r=v-P)(h:P<=v)(aD:v<=65535):IntKind.i64.wrap ((v:Int)-P)=(r:Int):=by
 have e:(v:Int)-P=r:=by omega
 rw[e];exact IntWalk.i64_in _ (by omega)
theorem alI(k c:Nat)(hc:c=11+(k+1))(hk:k<=15):IntKind.i64.wrap (16+(k:Int))=16+(k:Int)/\IntKind.i64.wrap (16+(k:Int)-4)=(c:Int)/\IntKind.u8.wrap (c:Int)=c:=by
 have e:16+(k:Int)-4=c:=by omega
 refine⟨IntWalk.i64_in _ (by omega),?_,?_⟩
 .rw[e];exact IntWalk.i64_in _ (by omega)
 .simp[IntKind.wrap,IntKind.bits,IntKind.signed];omega
theorem alK(w:ah)(v k P:Nat)(hk:4<=k/\k<=15)(cJ:(2:Int)^k=(P:Int))(aiM:16<=P/\P<=32768)(aD:v<=65535)(eI:16<=v)(aiN:P<=v)(hw:am.wid v=k+1) :
  Calls prog 98 #[.int .i64 v] w λe w'=>e=.returned (.tuple #[.int .u8 ((11+(k+1):Nat):Int),.int .i64 ((v-P:Nat):Int),.int .i64 k,.bool true])/\∃m,w'=w.drewN m:=by
 have sO:=I cJ;clear cJ;have fm:=I (λW=>xc v W (by omega));rw[hw]at fm;obtain⟨c,hc⟩:∃c,c=11+(k+1):=⟨_,rfl⟩;obtain⟨r,aj⟩:∃r,r=v-P:=⟨_,rfl⟩;rw[<-hc,<-aj];have hcv:IntKind.u32.wrap (v:Int)=v:=by simp[IntKind.wrap,IntKind.bits,IntKind.signed];omega
 have d2:decide (v<16)=false:=aU;have d3:decide ((v:Int)<16)=false:=aU;have d0:decide ((v:Int)<0)=false:=aU;have d1:decide (65535<(v:Int))=false:=aU;have Cx:decide (65535<v)=false:=aU;have ek:((k+1:Nat):Int)-1=k:=by omega
 have ft:IntKind.i64.wrap ((k:Int))=(k:Int):=IntWalk.i64_in _ (by omega);obtain⟨aG,e2,e3⟩:=alI k c hc hk.2;have e4:IntKind.i64.wrap ((P:Nat):Int)=((P:Nat):Int):=IntWalk.i64_in _ (by omega);have ahp:wrap64 ((P:Nat):Int)=((P:Nat):Int):=by unfold wrap64;omega
 have e5:=alJ v P r aj aiN aD;have gl:0<=(k:Int):=by omega
 have cJ:=sO.out;clear hw hc aj;go_enter func98,ntmps98
 go_wp2_with fail
 refine(fm.out w).mono ?_;rintro e w' ⟨rfl,rfl⟩;go_wp2;go_quiet (fail)
 go_wp2;exact bodyPost_ret (by simp[results,results98,go_sem]) rfl ⟨rfl,_,rfl⟩
theorem WI:aet:=by
 refine⟨λw v aD=>?_,λw v _ h=>(alL w v h).mono λe w' ⟨he,hw⟩=>⟨he,hw▸Below.refl _ _⟩⟩;by_cases eI:v<16
 .unfold mg l0 jf;rw[aB eI,aB eI,aB eI];exact(alM w v eI).mono λe w' ⟨he,hw⟩=>⟨he,hw▸Below.refl _ _⟩
 .obtain⟨k,bh,bN,h1,af,hw⟩:=Pm v (by omega) aD;unfold mg l0 jf;rw[az eI,az eI,az eI,hw,Nat.add_sub_cancel];have ax:2^(k+1)=2^k+2^k:=by rw[ea];omega
  have hm:v%2^k=v-2^k:=by rw[mod_eq_sub_mod h1,mod_eq_of_lt (by omega)]
  rw[hm];have aK:2^4<=2^k:=dy (by omega) bh;have SL:2^k<=2^15:=dy (by omega) bN;exact(alK w v k (2^k) ⟨bh,bN⟩ (by simp) ⟨by omega,by omega⟩ aD (by omega) h1 hw).mono λe w' ⟨he,m,akO⟩=>⟨he,by rw[akO];exact below_drewN dM m⟩
theorem AV(w:ah)(c:Nat)(hc:c<256):Calls prog 185 #[.int .u8 c] w λe w'=>e=.returned (.tuple #[.int .i64 (max (hT c) 0),.bool (decide (0<=hT c))])/\w=w':=by
 obtain⟨r,aj⟩:∃r,r=max (hT c) 0:=⟨_,rfl⟩;obtain⟨t,aE⟩:∃t,t=decide (0<=hT c):=⟨_,rfl⟩;rw[<-aj,<-aE];unfold hT at aj aE;by_cases nZ:27<c
 .rw[az (by omega),aB nZ]at aj aE;have mV:r=0:=by rw[aj];rfl
  have wM:t=false:=by rw[aE];rfl
  clear aj aE;subst mV wM;have d1:decide (27<c)=true:=bE nZ;have Cx:decide (27<(c:Int))=true:=cf;go_enter func185,ntmps185
  go_wp2;go_ret2;exact⟨rfl,rfl⟩
 .have d1:decide (27<c)=false:=bG nZ;have Cx:decide (27<(c:Int))=false:=aU;by_cases eI:c<16
  .rw[aB eI]at aj aE;have mV:r=0:=by rw[aj];rfl
   have wM:t=true:=by rw[aE];rfl
   clear aj aE;subst mV wM;have d2:decide (c<16)=true:=bE eI;have uB:decide ((c:Int)<16)=true:=cf;go_enter func185,ntmps185
   go_wp2;go_ret2;exact⟨rfl,rfl⟩
  .rw[az eI,az nZ]at aj aE;have wM:t=true:=by rw[aE];exact bE (by omega)
   have mV:(c:Int)-16+4=r:=by rw[aj];omega
   clear aj aE;subst wM;have d2:decide (c<16)=false:=bG eI;have uB:decide ((c:Int)<16)=false:=aU;have bj:=I mV;clear mV;go_enter func185,ntmps185
   go_wp2;rw[bj.out];go_ret2;exact⟨rfl,rfl⟩
theorem al0(w:ah)(c m:Nat)(hc:c<256)(h:hT c<0):Calls prog 186 #[.int .u8 c,.int .u32 m] w λe w'=>e=.returned (.tuple #[.int .i64 0,.bool false])/\w=w':=by
 have e7:=I (AV w c hc);rw[Int.max_eq_right (by omega),bG (by omega)]at e7;clear h;go_enter func186,ntmps186
 go_wp2_with fail
 refine e7.out.mono ?_;rintro e w' ⟨rfl,rfl⟩;go_wp2;go_ret2;exact⟨rfl,rfl⟩
theorem al1(w:ah)(c m k q:Nat)(hc:c<256)(hm:m<4294967296)(h:hT c=(k:Int))(hq:am.wid m=q)(Uv:k<q):Calls prog 186 #[.int .u8 c,.int .u32 m] w λe w'=>e=.returned (.tuple #[.int .i64 0,.bool false])/\w=w':=by
 have e7:=I (AV w c hc);rw[h,Int.max_eq_left (by omega),bE (by omega)]at e7;have fm:=I (xc m w hm);rw[hq]at fm;have d1:decide (k<q)=true:=bE Uv;have Cx:decide ((k:Int)<q)=true:=cf;clear h hq;go_enter func186,ntmps186
 go_wp2_with fail
 refine e7.out.mono ?_;rintro e w' ⟨rfl,rfl⟩;go_wp2_with fail
 refine fm.out.mono ?_;rintro e w' ⟨rfl,rfl⟩;go_wp2;go_ret2;exact⟨rfl,rfl⟩
theorem al3(w:ah)(c:Nat)(hc:c<16):Calls prog 186 #[.int .u8 c,.int .u32 0] w λe w'=>e=.returned (.tuple #[.int .i64 c,.bool true])/\w=w':=by
 have e7:=I (AV w c (by omega));have h:hT c=0:=by unfold hT;rw[aB hc]
 rw[h]at e7;have hmx:max (0:Int) 0=0:=rfl;rw[hmx,bE (by omega)]at e7;have fm:=I (xc 0 w (by omega));have hq:am.wid 0=0:=rfl;rw[hq]at fm;have qP:wrap64 (c:Int)=c:=by unfold wrap64;omega
 clear h hq hmx;go_enter func186,ntmps186
 go_wp2_with fail
 refine e7.out.mono ?_;rintro e w' ⟨rfl,rfl⟩;go_wp2_with fail
 refine fm.out.mono ?_;rintro e w' ⟨rfl,rfl⟩;go_wp2;go_ret2;exact⟨rfl,rfl⟩
theorem al2(w:ah)(c m k q P:Nat)(hc:c<256)(h:hT c=(k:Int))(hk:4<=k/\k<=15)(cJ:(2:Int)^k=(P:Int))(aiM:16<=P/\P<=32768)(hm:m<P)(hq:am.wid m=q)(awA:q<=k):Calls prog 186 #[.int .u8 c,.int .u32 m] w λe w'=>e=.returned (.tuple #[.int .i64 ((P+m:Nat):Int),.bool true])/\w=w':=by
 have sO:=I cJ;clear cJ;have e7:=I (AV w c hc);rw[h,Int.max_eq_left (by omega),bE (by omega)]at e7;have fm:=I (xc m w (by omega));rw[hq]at fm;have d1:decide (k<q)=false:=aU;have Cx:decide ((k:Int)<q)=false:=aU;have d2:((k:Int)==0)=false:=by simp;omega
 have awo:wrap64 (m:Int)=m:=by unfold wrap64;omega
 have ahp:wrap64 ((P:Nat):Int)=((P:Nat):Int):=by unfold wrap64;omega
 have e5:wrap64 ((P:Int)+m)=(P:Int)+m:=by unfold wrap64;omega
 have gl:0<=(k:Int):=by omega
 rw[Int.natCast_add];have cJ:=sO.out;clear h hq;go_enter func186,ntmps186
 go_wp2_with fail
 refine e7.out.mono ?_;rintro e w' ⟨rfl,rfl⟩;go_wp2_with fail
 refine fm.out.mono ?_;rintro e w' ⟨rfl,rfl⟩;go_wp2;go_ret2;exact⟨rfl,rfl⟩
theorem WR:aex:=by
 intro w c m hc hm;rcases ahR c with h|⟨k,h,hk⟩
 .rw[atl c m (by omega)];exact(al0 w c m hc (by omega)).mono λe w' ⟨he,hw⟩=>⟨he,hw▸Below.refl _ _⟩
 .by_cases qe:m<2^k
  .have akS:=qx m k qe;by_cases eI:c<16
   .have gl:k=0:=by unfold hT at h;rw[aB eI]at h;omega
    subst gl;have h8:m=0:=by omega
    subst h8;have aD:nI c 0=some c:=by unfold nI;rw[aB eI,aB rfl]
    rw[aD];exact(al3 w c eI).mono λe w' ⟨he,hw⟩=>⟨he,hw▸Below.refl _ _⟩
   .have nZ:¬27<c:=λnZ=>by unfold hT at h;rw[az eI,aB nZ]at h;omega
    have tr:c-12=k:=by unfold hT at h;rw[az eI,az nZ]at h;omega
    have aD:nI c m=some (2^k+m):=by unfold nI;rw[az eI,az nZ,tr,aB qe]
    rw[aD];have aK:2^4<=2^k:=dy (by omega) (by omega);have SL:2^k<=2^15:=dy (by omega) hk;exact(al2 w c m k _ (2^k) hc h ⟨by omega,hk⟩ (by simp) ⟨by omega,by omega⟩ qe rfl akS).mono λe w' ⟨he,hw⟩=>⟨he,hw▸Below.refl _ _⟩
  .have aA:nI c m=none:=(atm c m k h).2 (by
    have:=eK k;rw[ne_eq,Nat.div_eq_zero_iff];omega)
   rw[aA];have hq:k<am.wid m:=by
    rcases eF k (am.wid m)with hq|hq
    .exact hq
    .exact absurd (gJ (vB m) (dy (by omega) hq)) qe
   exact(al1 w c m k _ hc hm h rfl hq).mono λe w' ⟨he,hw⟩=>⟨he,hw▸Below.refl _ _⟩
def JZ:Go.Shelf.Ren:=⟨fun|166=>53|169=>55|240=>90|276=>123|n=>n,fun|0=>0|3=>3|4=>4|5=>5|9=>9|20=>20|37=>87|70=>92|72=>94|75=>97|80=>67|127=>141|164=>182|n=>n,λn=>n⟩
theorem aff:Lays.n166 prog JZ:={
 mixed:=by kernel_rfl
 f166:=Tryz.func53.trans (congrArg some (by kernel_rfl))
 f240:=Tryz.func90.trans (congrArg some (by kernel_rfl))
 f276:=Tryz.func123.trans (congrArg some (by kernel_rfl))
 t0:=underlying0
 a0:=Tryz.isAgg0
 z0:=Tryz.sizeOf0
 v0:=Tryz.zeroValue0
 t3:=underlying3
 a3:=Tryz.isAgg3
 z3:=Tryz.sizeOf3
 v3:=Tryz.zeroValue3
 t4:=underlying4
 a4:=Tryz.isAgg4
 z4:=Tryz.sizeOf4
 v4:=Tryz.zeroValue4
 t9:=underlying9
 a9:=Tryz.isAgg9
 z9:=Tryz.sizeOf9
 v9:=Tryz.zeroValue9
 t20:=underlying20
 a20:=Tryz.isAgg20
 z20:=Tryz.sizeOf20
 v20:=Tryz.zeroValue20
 t37:=underlying87
 a37:=Tryz.isAgg87
 z37:=Tryz.sizeOf87
 v37:=Tryz.zeroValue87
 t70:=underlying92
 a70:=Tryz.isAgg92
 z70:=Tryz.sizeOf92
 v70:=Tryz.zeroValue92
 t72:=underlying94
 a72:=Tryz.isAgg94
 z72:=Tryz.sizeOf94
 v72:=Tryz.zeroValue94
 t75:=underlying97
 a75:=Tryz.isAgg97
 z75:=Tryz.sizeOf97
 v75:=Tryz.zeroValue97
 t164:=underlying182
 a164:=Tryz.isAgg182
 z164:=Tryz.sizeOf182
 v164:=Tryz.zeroValue182}
theorem afg:Lays.n169 prog JZ:={
 mixed:=by kernel_rfl
 f169:=Tryz.func55.trans (congrArg some (by kernel_rfl))
 t0:=underlying0
 a0:=Tryz.isAgg0
 z0:=Tryz.sizeOf0
 v0:=Tryz.zeroValue0
 t3:=underlying3
 a3:=Tryz.isAgg3
 z3:=Tryz.sizeOf3
 v3:=Tryz.zeroValue3
 t9:=underlying9
 a9:=Tryz.isAgg9
 z9:=Tryz.sizeOf9
 v9:=Tryz.zeroValue9
 t37:=underlying87
 a37:=Tryz.isAgg87
 z37:=Tryz.sizeOf87
 v37:=Tryz.zeroValue87
 t70:=underlying92
 a70:=Tryz.isAgg92
 z70:=Tryz.sizeOf92
 v70:=Tryz.zeroValue92
 t72:=underlying94
 a72:=Tryz.isAgg94
 z72:=Tryz.sizeOf94
 v72:=Tryz.zeroValue94
 t127:=underlying141
 a127:=Tryz.isAgg141
 z127:=Tryz.sizeOf141
 v127:=Tryz.zeroValue141}
theorem Q7:Builder.Extra prog JZ:={
 sizeBuilder:=by kernel_rfl
 liesBuilder:=by kernel_rfl
 t5:=underlying5
 a5:=Tryz.isAgg5
 z5:=Tryz.sizeOf5
 v5:=Tryz.zeroValue5
 infoByte:=by kernel_rfl
 cellsByte:=by kernel_rfl
 sizeByte:=by kernel_rfl
 neB5:=by decide}
def o7(w:ah)(B b:Nat)(l:ae):Prop:=Lib.IsBuilderF 94 5 B b (aO l) w
theorem Z1(l:ae)(h:∀x∈l,x<256):aO l=Lib.byteCells (l.map UInt8.ofNat):=by
 rw[aO,Lib.byteCells,List.map_map];refine map_congr_left λx ai=>?_
 rw[Function.comp_apply,UInt8.toNat_ofNat_of_lt' (h x ai)]
theorem asx(l:ae)(h:∀x∈l,x<256):Lib.strCells (strOf l)=aO l:=by
 rw[Z1 l h,Lib.strCells_eq];rfl
theorem asw(a b:ae):aO a++aO b=aO (a++b):=by simp[aO]
theorem o7.new(w:ah)(B:Nat)(bx:B<=w.heap.size):o7 (w.alloc (.cells #[.pointer none,.slice none 0 0] 94)) B w.heap.size []:=
 .inl ⟨bx,.slice none 0 0,heap_alloc_new w _,⟨rfl,.inl ⟨rfl,rfl⟩⟩,by simp[Value.ownBlock]⟩
theorem o7.below{w w':ah}{B b:Nat}{l:ae}(h:o7 w B b l)(ak:av w w'):o7 w' B b l:=by
 have key:∀p,Lib.BuilderAtF 94 5 B b p (aO l) w->Lib.BuilderAtF 94 5 B b p (aO l) w':=λp h=>by
  have au:=h.lt;obtain⟨bx,v,aD,hown,aZ⟩:=h;exact⟨bx,v,(ak.block b au).trans aD,hown.kept (row:=none) ⟨ak.os,ak.tape,ak.output,ak.size,λk hk _=>ak.block k hk⟩ (Classical.em _),aZ⟩
 exact h.elim (λx=>.inl (key _ x)) (λx=>.inr (key _ x))
theorem o7.lt{w:ah}{B b:Nat}{l:ae}(h:o7 w B b l):B<=b/\b<w.heap.size:=h.elim (λh=>⟨h.1,h.lt⟩) (λh=>⟨h.1,h.lt⟩)
theorem aqe{w w':ah}{b g:Nat}{t:TypeId}{ag:b1}(h:Row w g t ag)(aE:t≠5)(aF:g≠b)(b9:Lib.OthersKept 5 (some b) w w'):Row w' g t ag:=
 b9 g _ h (λe=>aF (by injection e)) (λc qI e=>by injection e with _ e;exact aE e)
theorem Rq(B b:Nat)(l s:ae)(w:ah)(hl:l.length+s.length<=1000000000)(ap:∀x∈s,x<256)(bx:B<=w.heap.size)(h:o7 w B b l) :
  Calls prog 53 #[.pointer (some ⟨b,0,none⟩),.string (strOf s)] w λe w'=>e=.returned (.tuple #[.int .i64 (s.length:Int),.nilIface])/\o7 w' B b (l++s)/\Below B w w'/\Lib.OthersKept 5 (some b) w w':=by
 have hc:Calls prog 53 #[.pointer (some ⟨b,0,none⟩),.string (strOf s)] w _:=Any.Builder_WriteString_k aff Q7 B b (aO l) (strOf s) w h (by rw[cy,i7];omega) bx;refine hc.mono ?_;rintro e w' ⟨rfl,ak,hbel,hk⟩;rw[asx s ap,asw]at ak;exact⟨by rw[cy],.inr ak,hbel,hk⟩
theorem af7(B b:Nat)(l:ae)(w:ah)(hl:∀x∈l,x<256)(bx:B<=w.heap.size)(h:o7 w B b l) :
  Calls prog 55 #[.pointer (some ⟨b,0,none⟩)] w λe w'=>e=.returned (.string (strOf l))/\Below B w w':=by
 unfold o7 at h;rw[Z1 l hl]at h;have hc:Calls prog 55 #[.pointer (some ⟨b,0,none⟩)] w _:=Any.Builder_String_any_k afg Q7 B b (l.map UInt8.ofNat) w h bx;refine hc.mono ?_;rintro e w' ⟨rfl,_,hbel,_⟩;exact⟨rfl,hbel⟩
end Go.Proofs.YtgiicohbigiapaaGreat
