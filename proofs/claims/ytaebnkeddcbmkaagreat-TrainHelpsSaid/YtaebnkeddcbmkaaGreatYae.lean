/- Contracts, and what they rest on. Conditions: the theorems' premises. -/
import Derived.Test.YtaebnkeddcbmkaaGreatYad
import Derived.Test.YtaebnkeddcbmkaaGreatYac
import Derived.Shelf.Strings.Shaped
import Derived.Shelf.Strings.Repeat
import Derived.Shelf.Strings.BuilderK
set_option maxHeartbeats 4000000
set_option maxRecDepth 100000
open Go.Lib(hid)
open Go.Proofs.Tryz Go.Proofs.YtaebnkeddcbmkaaGreat.Bm
namespace Go.Proofs.YtaebnkeddcbmkaaGreat
open Go.Shelf Go.RowKit Go.Lib
def ama:Go.Shelf.Ren:=⟨fun | 143=>79 | 219=>110 | 217=>137 | 225=>138 | 224=>139 | 267=>140 | 266=>171 | 314=>172 | n=>n,fun | 9=>9 | 3=>3 | 4=>4 | 5=>5 | 46=>100 | 146=>140 | 51=>139 | n=>n,fun | 1=>0 | n=>n⟩
theorem adb:LaysM.n143 prog ama:={
 mixed:=by kernel_rfl
 f143:=Tryz.func79.trans (congrArg some (by kernel_rfl))
 f217:=Tryz.func137.trans (congrArg some (by kernel_rfl))
 f219:=Tryz.func110.trans (congrArg some (by kernel_rfl))
 f224:=Tryz.func139.trans (congrArg some (by kernel_rfl))
 f225:=Tryz.func138.trans (congrArg some (by kernel_rfl))
 f266:=Tryz.func171.trans (congrArg some (by kernel_rfl))
 f267:=Tryz.func140.trans (congrArg some (by kernel_rfl))
 f314:=Tryz.func172.trans (congrArg some (by kernel_rfl))
 t3:=underlying3
 a3:=Tryz.isAgg3
 z3:=Tryz.sizeOf3
 v3:=Tryz.zeroValue3
 t4:=underlying4
 a4:=Tryz.isAgg4
 z4:=Tryz.sizeOf4
 v4:=Tryz.zeroValue4
 t5:=underlying5
 a5:=Tryz.isAgg5
 z5:=Tryz.sizeOf5
 v5:=Tryz.zeroValue5
 t9:=underlying9
 a9:=Tryz.isAgg9
 z9:=Tryz.sizeOf9
 v9:=Tryz.zeroValue9
 t46:=underlying100
 a46:=Tryz.isAgg100
 z46:=Tryz.sizeOf100
 v46:=Tryz.zeroValue100
 t51:=underlying139
 a51:=Tryz.isAgg139
 z51:=Tryz.sizeOf139
 v51:=Tryz.zeroValue139
 t146:=underlying140
 a146:=Tryz.isAgg140
 z146:=Tryz.sizeOf140
 v146:=Tryz.zeroValue140
 g1:=by kernel_rfl
 i3:=by kernel_rfl
 i4:=by kernel_rfl
 i5:=by kernel_rfl
 i9:=by kernel_rfl
 i46:=by kernel_rfl
 i51:=by kernel_rfl
 i146:=by kernel_rfl
 m1:=by kernel_rfl
 s1_3:=fun w h=>Go.Proofs.cell_of_shapedOpen_int (zero:=#[.int .i64 0]) (t:=3) h (of_decide_eq_true (by kernel_rfl)) (by kernel_rfl) rfl (by kernel_rfl) (by kernel_rfl) underlying3}
def zx(base:Nat)(w:World):Prop:=(∃m,w.cell? ⟨0,0,none⟩=some (.int .i64 m))/\0<base
theorem OI{w:World}(h:w.ShapedOpen prog):zx w.heap.size w:=by
 obtain⟨m,hm⟩:=adb.s1_3 w h;exact⟨⟨m,hm⟩,World.block_lt_of_cell? w (⟨0,0,none⟩:Addr) hm⟩
theorem zx.below{base:Nat}{w w':World}(h:zx base w)(hb:Below base w w'):zx base w':=by
 obtain⟨⟨m,hm⟩,h2⟩:=h;exact⟨⟨m,(hb.cell (p:=⟨0,0,none⟩) h2).trans hm⟩,h2⟩
theorem zx.mono{base base':Nat}{w:World}(h:zx base w)(hb:base<=base'):zx base' w:=⟨h.1,Nat.lt_of_lt_of_le h.2 hb⟩
theorem Mv(s:ByteArray)(i j:Nat)(hi:i<=j)(hj:j<=s.size)(W:World):(Instr.slice 9 (.string s) (some (.int .i64 (i:Int))) (some (.int .i64 (j:Int))) none).run prog W=.ok (.string (s.extract i j)) W:=by
 rw[run_slice_string_if W 9 s .i64 .i64 (i:Int) (j:Int) underlying9,if_pos ⟨by omega,by omega⟩,if_pos ⟨by omega,by omega⟩,Int.toNat_natCast,Int.toNat_natCast]
theorem aly(s:ByteArray)(i:Nat)(h:i+6<=s.size)(W:World):(Instr.slice 9 (.string s) (some (.int .i64 (i:Int))) (some (.int .i64 ((i:Int)+6))) none).run prog W=.ok (.string (Bm.gr s i)) W:=by
 have h1:=Mv s i (i+6) (by omega) h W;rw[show((i+6:Nat):Int)=(i:Int)+6 by omega]at h1;exact h1
theorem PO(s sub:ByteArray)(base:Nat)(w:World)(hs:s.size<4294967281)(hm:zx base w) :
  Calls prog 79 #[.string s,.string sub] w fun e w'=>e=.returned (.int .i64 (Lib.index s.data.toList sub.data.toList))/\w'=w:=by
 obtain⟨⟨m,h⟩,_⟩:=hm;exact Any.strings_Index {adb with} s sub m w hs h
def ajG:Go.Shelf.Ren:=⟨fun | 99=>57 | 105=>30 | 165=>27 | 166=>28 | 169=>29 | 170=>58 | 206=>86 | 212=>56 | 240=>54 | 241=>55 | 263=>84 | 264=>85 | 276=>82 | 277=>83 | n=>n,fun | 0=>0 | 3=>3 | 4=>4 | 5=>5 | 9=>9 | 20=>20 | 37=>60 | 46=>100 | 51=>139 | 53=>36 | 70=>59 | 72=>62 | 75=>65 | 76=>66 | 80=>68 | 109=>101 | 127=>99 | 146=>140 | 148=>142 | 164=>136 | n=>n,fun n=>n⟩
theorem adq:Lays.n105 prog ajG:={
 mixed:=by kernel_rfl
 f99:=Tryz.func57.trans (congrArg some (by kernel_rfl))
 f105:=Tryz.func30.trans (congrArg some (by kernel_rfl))
 f165:=Tryz.func27.trans (congrArg some (by kernel_rfl))
 f166:=Tryz.func28.trans (congrArg some (by kernel_rfl))
 f169:=Tryz.func29.trans (congrArg some (by kernel_rfl))
 f170:=Tryz.func58.trans (congrArg some (by kernel_rfl))
 f206:=Tryz.func86.trans (congrArg some (by kernel_rfl))
 f212:=Tryz.func56.trans (congrArg some (by kernel_rfl))
 f240:=Tryz.func54.trans (congrArg some (by kernel_rfl))
 f241:=Tryz.func55.trans (congrArg some (by kernel_rfl))
 f263:=Tryz.func84.trans (congrArg some (by kernel_rfl))
 f264:=Tryz.func85.trans (congrArg some (by kernel_rfl))
 f276:=Tryz.func82.trans (congrArg some (by kernel_rfl))
 f277:=func83.trans (congrArg some (by kernel_rfl))
 t0:=underlying0
 a0:=Tryz.isAgg0
 z0:=Tryz.sizeOf0
 v0:=Tryz.zeroValue0
 t3:=underlying3
 a3:=Tryz.isAgg3
 z3:=Tryz.sizeOf3
 v3:=Tryz.zeroValue3
 t4:=underlying4
 a4:=Tryz.isAgg4
 z4:=Tryz.sizeOf4
 v4:=Tryz.zeroValue4
 t5:=underlying5
 a5:=Tryz.isAgg5
 z5:=Tryz.sizeOf5
 v5:=Tryz.zeroValue5
 t9:=underlying9
 a9:=Tryz.isAgg9
 z9:=Tryz.sizeOf9
 v9:=Tryz.zeroValue9
 t20:=underlying20
 a20:=Tryz.isAgg20
 z20:=Tryz.sizeOf20
 v20:=Tryz.zeroValue20
 t37:=underlying60
 a37:=Tryz.isAgg60
 z37:=Tryz.sizeOf60
 v37:=Tryz.zeroValue60
 t46:=underlying100
 a46:=Tryz.isAgg100
 z46:=Tryz.sizeOf100
 v46:=Tryz.zeroValue100
 t51:=underlying139
 a51:=Tryz.isAgg139
 z51:=Tryz.sizeOf139
 v51:=Tryz.zeroValue139
 t53:=underlying36
 a53:=Tryz.isAgg36
 z53:=Tryz.sizeOf36
 v53:=Tryz.zeroValue36
 t70:=underlying59
 a70:=Tryz.isAgg59
 z70:=Tryz.sizeOf59
 v70:=Tryz.zeroValue59
 t72:=underlying62
 a72:=Tryz.isAgg62
 z72:=Tryz.sizeOf62
 v72:=Tryz.zeroValue62
 t75:=underlying65
 a75:=Tryz.isAgg65
 z75:=Tryz.sizeOf65
 v75:=Tryz.zeroValue65
 t76:=underlying66
 a76:=Tryz.isAgg66
 z76:=Tryz.sizeOf66
 v76:=Tryz.zeroValue66
 t109:=underlying101
 a109:=Tryz.isAgg101
 z109:=Tryz.sizeOf101
 v109:=Tryz.zeroValue101
 t127:=underlying99
 a127:=Tryz.isAgg99
 z127:=Tryz.sizeOf99
 v127:=Tryz.zeroValue99
 t146:=underlying140
 a146:=Tryz.isAgg140
 z146:=Tryz.sizeOf140
 v146:=Tryz.zeroValue140
 t148:=underlying142
 a148:=Tryz.isAgg142
 z148:=Tryz.sizeOf142
 v148:=Tryz.zeroValue142
 t164:=underlying136
 a164:=Tryz.isAgg136
 z164:=Tryz.sizeOf136
 v164:=Tryz.zeroValue136}
theorem VU:Builder.Extra prog ajG:={
 sizeBuilder:=by kernel_rfl
 liesBuilder:=by kernel_rfl
 t5:=underlying5
 a5:=Tryz.isAgg5
 z5:=Tryz.sizeOf5
 v5:=Tryz.zeroValue5
 infoByte:=by kernel_rfl
 cellsByte:=by kernel_rfl
 sizeByte:=by kernel_rfl
 neB5:=by decide}
theorem Av(x:UInt8):∀n:Nat,Lib.repeatL [x] n=List.replicate n x
 | 0=>rfl
 | n+1=>by
  rw[List.replicate_succ,<-Av x n];rfl
theorem Au:∀n:Nat,Lib.repeatL [] n=[]
 | 0=>rfl
 | n+1=>by
  have:=Au n;rw[Lib.repeatL,this];rfl
theorem pV(x n:Nat)(w:World)(hn:n<=1000000000) :
  Calls prog 30 #[.string (strOf [x]),.int .i64 (n:Int)] w fun e w'=>e=.returned (.string (strOf (List.replicate n x)))/\Below w.heap.size w w':=by
 have h:Calls prog 30 #[.string (strOf [x]),.int .i64 (n:Int)] w _:=Any.strings_Repeat adq VU (strOf [x]) n w (by omega) (by rw[aA];simp;omega);refine h.mono fun e w' ⟨he,hb⟩=>⟨?_,hb⟩
 rw[he,show(strOf [x]).data.toList=[UInt8.ofNat x]from rfl,Av];unfold strOf;rw[List.map_replicate]
theorem yt(n:Nat)(w:World)(hn:n<=1000000000) :
  Calls prog 30 #[.string (strOf []),.int .i64 (n:Int)] w fun e w'=>e=.returned (.string (strOf []))/\Below w.heap.size w w':=by
 have h:Calls prog 30 #[.string (strOf []),.int .i64 (n:Int)] w _:=Any.strings_Repeat adq VU (strOf []) n w (by omega) (by rw[aA];simp);refine h.mono fun e w' ⟨he,hb⟩=>⟨?_,hb⟩
 rw[he,show(strOf []).data.toList=[]from rfl,Au];rfl
theorem Xy(x:Nat)(w:World)(hx:x<4294967296) :
  Calls prog 115 #[.int .u32 (x:Int)] w fun e w'=>e=.returned (.int .i64 (Lib.bitLen x:Int))/\w=w':=by
 have h:=Tryz.bits_Len32 (x:Int) w (by omega) (by omega);rw[Int.toNat_natCast]at h;have H:=hid h;clear h;go_enter func115,ntmps115
 go_wp2_with fail
 refine H.out.mono ?_;rintro e w' ⟨rfl,rfl⟩;go_wp2;go_ret;exact⟨rfl,rfl⟩
theorem Ny(g off n c:Nat)(bs:List Nat)(w:World)(h0:0<n)(hn:n<=100000000)(hl:bs.length=n)(hrd:Reads w (some ⟨g,off,none⟩) (u8s bs))(hg:g<w.heap.size) :
  Calls prog 211 #[.slice (some ⟨g,off,none⟩) n c] w fun e w'=>∃u,e=.returned u/\w'.ownsRow w.heap.size 5 1 u n (u8s bs)/\Below w.heap.size w w':=by
 obtain⟨i0,hi,hz0,hz1,hz2⟩:=info_parts jh;have hown0:(w.alloc (.cells #[] 5)).ownsRow w.heap.size 5 1 (.slice (some ⟨w.heap.size,0,none⟩) 0 0) 0 []:=World.ownsRow_lit w #[] 0 (Nat.le_refl _) (by unfold maxLen;omega) rfl;have hnews:∀j u,(u8s bs)[j]?=some u->(w.alloc (.cells #[] 5)).cell? ((⟨g,off,none⟩:Addr).add j)=some u:=by
  intro j u hj;have hjl:j<(u8s bs).length:=by
   rcases Nat.lt_or_ge j (u8s bs).length with h1 | h1
   ·exact h1
   ·rw[List.getElem?_eq_none h1]at hj;cases hj
  obtain⟨g',off',e,hc⟩:=hrd (by intro e;rw[e]at hjl;simp at hjl);injection e with e
  injection e with e1 e2
  subst e1 e2;have e:((⟨g,off,none⟩:Addr).add j)=⟨g,off+j,none⟩:=by unfold Addr.add;split<;>simp_all
  rw[e,World.cell?_alloc_lt _ _ _ (by exact hg),hc j hjl,hj]
 have hnil:∀W,(binOp .eql 60 (.slice (some ⟨g,off,none⟩) n c) (.slice none 0 0)).run prog W=.ok (.bool false) W:=fun W=>Lib.run_eql_slice_nil W _ _ _ _ _ _ _ underlying60
 have dx:=hid hnews;have vY:=hid hown0;have Hl:=hid hl;clear hnews hown0 hrd hl;go_enter func211,ntmps211
 go_wp2_with (at_builtin;refine wpList_append_own _ rfl _ _ 60 rfl w.heap.size 5 i0 (.int .u8 0) 1 1 underlying60 hi hz0 hz1 hz2 rfl (by decide) _ _ _ rfl vY.out ⟨g,off,none⟩ n c (u8s bs) rfl ?c0 dx.out ?c2 ?c3 ?c4 ?c5 ?_)
 case c0=>rw[aO,Hl.out,Nat.mul_one]
 case c2=>intro u hu;simp[u8s]at hu;obtain⟨a,_,rfl⟩:=hu;rfl
 case c3=>unfold maxLen;omega
 case c4=>omega
 case c5=>simp
 intro v' w2 hown2 aiS _;have hb2:Below w.heap.size w w2:=((Below.refl w.heap.size w).alloc (Nat.le_refl _) _).grown aiS (by simp) (fun k e=>by
  have:k=w.heap.size:=by simpa [Value.ownBlock]using e.symm
  rw[this];exact Nat.le_refl _)
 have qg:=hid hown2;have Hb:=hid hb2;clear hown2 hb2 aiS vY dx;go_wp2;go_ret;exact⟨_,rfl,qg.out,Hb.out⟩
theorem OQ(A:Option Addr)(c:Nat)(w:World) :
  Calls prog 202 #[.slice A 0 c] w fun e w'=>e=.returned (.tuple #[.pointer none,.bool false])/\w=w':=by
 go_enter func202,ntmps202
 go_wp2;go_ret2;exact⟨rfl,rfl⟩
theorem UW(g off q c:Nat)(w:World)(hq:q<=100000000)(hc:w.cell? ⟨g,off+q,none⟩=some (.int .u8 0)) :
  Calls prog 202 #[.slice (some ⟨g,off,none⟩) (q+1) c] w fun e w'=>e=.returned (.tuple #[.pointer none,.bool false])/\w=w':=by
 go_enter func202,ntmps202
 go_wp2;go_ret2;exact⟨rfl,rfl⟩
theorem ajR{w w2:World}{g cap q left:Nat}{bs:List Nat}(hown:w2.ownsRow w.heap.size 5 1 (.slice (some ⟨g,0,none⟩) q cap) q (u8s bs))(hl:bs.length=q)(hg:w.heap.size<=g)(hg2:g<w2.heap.size)(hs:w.heap.size<=w2.heap.size)(t:TypeId) :
  TS (w2.alloc (.cells #[.slice (some ⟨g,0,none⟩) q cap,.int .i64 (left:Int)] t)) w.heap.size w2.heap.size bs left:=by
 have hrow:Row (w2.alloc (.cells #[.slice (some ⟨g,0,none⟩) q cap,.int .i64 (left:Int)] t)) w2.heap.size t [.slice (some ⟨g,0,none⟩) q cap,.int .i64 (left:Int)]:=Row.new w2 t _;have hrd:Reads w2 (some ⟨g,0,none⟩) (u8s bs):=by
  obtain⟨A,c',e,h,_⟩:=dP hown;injection e with e1 e2 e3
  subst e1;exact h
 obtain⟨hc1,hc2⟩:=UZ hown;subst hl;exact⟨g,cap,hrow.cell 0,hrow.cell 1,hrow.free 1,hs,hrow.lt,hg,by simp;omega,by omega,hc1,hc2,JD hrd hg2 _⟩
theorem UU(g off q c:Nat)(bs:List Nat)(x:Nat)(w:World)(hq:q<=10000000)(hx:x<256)(hx0:x≠0)(hl:bs.length=q+1)(hlast:bs[q]'(by omega)=x)
  (hrd:Reads w (some ⟨g,off,none⟩) (u8s bs)) (hg:g<w.heap.size) :
  Calls prog 202 #[.slice (some ⟨g,off,none⟩) (q+1) c] w fun e w'=>∃b,e=.returned (.tuple #[.pointer (some ⟨b,0,none⟩),.bool true]) /\
   TS w' w.heap.size b bs (8*q+(Lib.bitLen x-1))/\Below w.heap.size w w':=by
 obtain⟨h1,h8,_,_⟩:=zB ⟨x,hx⟩ hx0;simp only at h1 h8;have hc:w.cell? ⟨g,off+q,none⟩=some (.int .u8 (x:Int)):=by
  obtain⟨g',off',e,hc⟩:=gu hrd (by intro e;rw[e]at hl;simp at hl);injection e with e
  injection e with e1 e2
  subst e1 e2;rw[hc q (by omega),hlast]
 have hcl:=Ny g off (q+1) c bs w (by omega) (by omega) hl hrd hg;have hwd:=Xy x w (by omega);have hxz:((x:Int) == 0)=false:=by simp;omega
 have Hcl:=hid hcl;have Hl:=hid hl;have Hwd:=hid hwd;clear hcl hl hwd hrd hlast hx0;generalize Lib.bitLen x=L at h1 h8 Hwd;obtain⟨left,hleft⟩:∃l,l=8*q+(L-1):=⟨_,rfl⟩;have hs:8*(q:Int)+((L:Int)-1)=(left:Int):=by omega
 have Hs:=hid hs;have QY:=hid hleft;clear hs hleft;go_enter func202,ntmps202
 go_wp2_with fail
 refine Hwd.out.mono ?_;rintro e w1 ⟨rfl,rfl⟩;go_wp2_with fail
 refine Hcl.out.mono ?_;rintro e w2 ⟨u,rfl,hown,hb2⟩;obtain⟨g2,cap2,hu,hg2,aqc⟩:=Cx hown (by omega);rw[hu]at hown ⊢;have hts:=ajR (left:=left) hown Hl.out hg2 aqc hb2.size 287;have Hts:=hid hts;have Hb2:=hid hb2;clear hts hb2 hown hu Hcl Hwd;go_wp2;go_ret2;rw[Hs.out,<-QY.out];exact⟨_,rfl,Hts.out,Hb2.out.alloc Hb2.out.size _⟩
theorem zo(b off N n:Nat)(w:World)(hn:n<=100000000)(hN:N<2^n)(h8:n%8=0)(h:WS w b off N n) :
  Calls prog 183 #[.pointer (some ⟨b,off,none⟩)] w fun e w'=>∃g cap,e=.returned (.slice (some ⟨g,0,none⟩) (n/8+1) cap) /\
   w'.ownsRow w.heap.size 5 1 (.slice (some ⟨g,0,none⟩) (n/8+1) cap) (n/8+1) (u8s (Bm.bytesOf (N+2^n) (n/8+1)))/\Below w.heap.size w w':=by
 obtain⟨i0,hi,hz0,hz1,hz2⟩:=info_parts jh;have hby:=kr b off N n w (by omega) h;obtain⟨q,hq⟩:∃q,q=n/8:=⟨_,rfl⟩;have hq2:(n+7)/8=q:=by omega
 have hqb:q<=100000000:=by omega
 have hsw:=PD N n hN h8;rw[<-hq,hq2]at hsw;rw[hq2]at hby;rw[<-hq];have hws:∀w',Below w.heap.size w w'->WS w' b off N n:=fun w' hb=>h.keep (ak hb none) (by simp) (by simp)
 have h8b:((n:Int)%8 == 0)=true:=by simp;omega
 have Hby:=hid hby;have Hws:=hid hws;have Hsw:=hid hsw;clear hby hws hsw hN h hq hq2 h8;go_enter func183,ntmps183
 go_wp2_with fail
 refine Hby.out.mono ?_;rintro e w1 ⟨g,rfl,hg,hrow,hb1⟩;have hlen:=Um b off (n:Int) w1 (Hws.out w1 hb1).LB;have hown:=Am hrow hg (by rw[Bm.bytesOf_length];omega);rw[Bm.bytesOf_length]at hown;have Hlen:=hid hlen;have qg:=hid hown;have Hb1:=hid hb1;clear hlen hown hb1 hrow Hby Hws;go_wp2_with fail
 refine Hlen.out.mono ?_;rintro e w2 ⟨rfl,rfl⟩;go_wp2_with (at_builtin;refine wpList_append_own _ rfl _ _ 60 rfl w.heap.size 5 i0 (.int .u8 0) 1 1 underlying60 hi hz0 hz1 hz2 rfl (by decide) _ _ _ rfl (qg.out.alloc _) ⟨w1.heap.size,0,none⟩ 1 1 [.int .u8 1] rfl rfl ?c1 ?c2 ?c3 ?c4 ?c5 ?_)
 case c1=>
  intro j u hj;match j,hj with
  | 0,hj=>simp at hj;subst hj;simp[Addr.add]
 case c2=>intro u hu;simp at hu;subst hu;rfl
 case c3=>unfold maxLen;omega
 case c4=>omega
 case c5=>have:=Hb1.out.size;simp;omega
 intro u' w3 hown' hgrow _;have e:u8s (Bm.bytesOf N q)++[Value.int .u8 1]=u8s (Bm.bytesOf (N+2^n) (q+1)):=by
  rw[<-Hsw.out];simp[u8s]
 rw[e]at hown';have hb':Below w.heap.size w w3:=(Hb1.out.alloc Hb1.out.size _).grown hgrow (by have:=Hb1.out.size;simp;omega) (fun k e=>by
  have:k=g:=by simpa [Value.ownBlock]using e.symm
  omega)
 obtain⟨g3,ani,hu,_,_⟩:=Cx hown' (by omega);rw[hu]at hown' ⊢;have akP:=hid hown';have Hb':=hid hb';clear hown' hb' hgrow hu e;go_wp2;go_ret;exact⟨_,_,rfl,akP.out,Hb'.out⟩
theorem or_bit(x r:Nat)(hx:x<2^r)(hr:r<8):bits .or .u8 (x:Int) (2^r%256)=((x+2^r:Nat):Int):=by
 have h2:2^r<=128:=Nat.pow_le_pow_right (n:=2) (j:=7) (by omega) (by omega);have e2:(2:Int)^r=((2^r:Nat):Int):=by simp
 have h4:=xI r x 1 hx;rw[Nat.one_mul]at h4;rw[e2];generalize 2^r=y at hx h2 h4 ⊢;rw[show((y:Nat):Int)%256=((y:Nat):Int) by omega,u8_or_nat _ _ (by omega) (by omega),h4]
theorem CO(b off N n:Nat)(w:World)(hn:n<=100000000)(hN:N<2^n)(h8:n%8≠0)(h:WS w b off N n) :
  Calls prog 183 #[.pointer (some ⟨b,off,none⟩)] w fun e w'=>∃g cap,e=.returned (.slice (some ⟨g,0,none⟩) (n/8+1) cap) /\
   w'.ownsRow w.heap.size 5 1 (.slice (some ⟨g,0,none⟩) (n/8+1) cap) (n/8+1) (u8s (Bm.bytesOf (N+2^n) (n/8+1)))/\Below w.heap.size w w':=by
 have hby:=kr b off N n w (by omega) h;rw[show(n+7)/8=n/8+1 by omega]at hby;have hsw:=Wi N n hN;have hws:∀w',Below w.heap.size w w'->WS w' b off N n:=fun w' hb=>h.keep (ak hb none) (by simp) (by simp)
 have h8b:((n:Int)%8 == 0)=false:=by simp;omega
 have hxl:N/256^(n/8)%256<2^(n%8):=by
  refine Nat.lt_of_le_of_lt (Nat.mod_le _ _) ?_;rw[tH,Nat.div_lt_iff_lt_mul (Nat.two_pow_pos _),<-Nat.pow_add,Nat.mod_add_div];exact hN
 have hget:(u8s (Bm.bytesOf N (n/8+1)))[n/8]?=some (.int .u8 ((N/256^(n/8)%256:Nat):Int)):=by
  rw[bD _ _ (by rw[Bm.bytesOf_length];omega),fE]
 have hor:=or_bit _ _ hxl (by omega);generalize N/256^(n/8)%256=x at hsw hget hor hxl;have Hby:=hid hby;have Hws:=hid hws;have Hsw:=hid hsw;have adK:=hid hget;have Hor:=hid hor;clear hby hws hsw hN h h8 hget hor hxl;go_enter func183,ntmps183
 go_wp2_with fail
 refine Hby.out.mono ?_;rintro e w1 ⟨g,rfl,hg,hrow,hb1⟩;have hlen:=Um b off (n:Int) w1 (Hws.out w1 hb1).LB;have hcell:=(hrow.cell (n/8)).trans adK.out;have hfree:=hrow.free (n/8);have hset:=hrow.aT (n/8) (.int .u8 ((x+2^(n%8):Nat):Int));rw[yK,Hsw.out]at hset;have hown:=Am hset hg (by rw[Bm.bytesOf_length];omega);rw[Bm.bytesOf_length]at hown;have Hlen:=hid hlen;have qg:=hid hown;have Hb1:=hid hb1;clear hlen hown hb1 hrow Hby Hws hset;go_wp2_with fail
 refine Hlen.out.mono ?_;rintro e w2 ⟨rfl,rfl⟩;go_wp2;go_region
 all_goals go_wp2
 go_ret;rw[Hor.out];exact⟨_,_,rfl,qg.out,(Hb1.out.setCell hg _).drew⟩
theorem abm(b off N n:Nat)(w:World)(hn:n<=100000000)(hN:N<2^n)(h:WS w b off N n) :
  Calls prog 183 #[.pointer (some ⟨b,off,none⟩)] w fun e w'=>∃g cap,e=.returned (.slice (some ⟨g,0,none⟩) (n/8+1) cap) /\
   w'.ownsRow w.heap.size 5 1 (.slice (some ⟨g,0,none⟩) (n/8+1) cap) (n/8+1) (u8s (Bm.bytesOf (N+2^n) (n/8+1)))/\Below w.heap.size w w':=by
 by_cases h8:n%8=0
 ·exact zo b off N n w hn hN h8 h
 ·exact CO b off N n w hn hN h8 h
theorem iK(x:Nat)(w:World)(hx:x<4294967296) :
  Calls prog 115 #[.int .u32 (x:Int)] w fun e w'=>e=.returned (.int .i64 (Bm.wid x:Int))/\w=w':=by
 have h:=Tryz.bits_Len32 (x:Int) w (by omega) (by omega);rw[Int.toNat_natCast,Nj x (by omega)]at h;have H:=hid h;clear h;go_enter func115,ntmps115
 go_wp2_with fail
 refine H.out.mono ?_;rintro e w' ⟨rfl,rfl⟩;go_wp2;go_ret;exact⟨rfl,rfl⟩
theorem ZJ(w:World)(v:Int)(h:v<0\/65535<v):Calls prog 92 #[.int .i64 v] w fun e w'=>e=.returned (.tuple #[.int .u8 0,.int .i64 0,.int .i64 0,.bool false])/\w=w':=by
 go_enter func92,ntmps92
 by_cases h0:v<0
 ·have d0:decide (v<0)=true:=decide_eq_true h0;go_wp2;exact bodyPost_ret (by simp[results,results92,go_sem]) rfl ⟨rfl,rfl⟩
 ·have d0:decide (v<0)=false:=decide_eq_false h0;have d1:decide (65535<v)=true:=decide_eq_true (by omega);go_wp2;exact bodyPost_ret (by simp[results,results92,go_sem]) rfl ⟨rfl,rfl⟩
theorem IE(w:World)(v:Nat)(h:v<16):Calls prog 92 #[.int .i64 (v:Int)] w fun e w'=>e=.returned (.tuple #[.int .u8 (v:Int),.int .i64 0,.int .i64 0,.bool true])/\w=w':=by
 have hc:IntKind.u8.wrap (v:Int)=(v:Int):=by simp[IntKind.wrap,IntKind.bits,IntKind.signed];omega
 have d2:decide (v<16)=true:=decide_eq_true h;have d3:decide ((v:Int)<16)=true:=decide_eq_true (by omega);have d0:decide ((v:Int)<0)=false:=decide_eq_false (by omega);have d1:decide (65535<(v:Int))=false:=decide_eq_false (by omega);have d1':decide (65535<v)=false:=decide_eq_false (by omega);go_enter func92,ntmps92
 go_wp2;exact bodyPost_ret (by simp[results,results92,go_sem]) rfl ⟨rfl,rfl⟩
theorem ajw(v P r:Nat)(hr:r=v-P)(h:P<=v)(hv:v<=65535):IntKind.i64.wrap ((v:Int)-(P:Int))=(r:Int):=by
 have e:(v:Int)-(P:Int)=(r:Int):=by omega
 rw[e];exact IntWalk.i64_in _ (by omega)
theorem afh(k c:Nat)(hc:c=11+(k+1))(hk:k<=15):IntKind.i64.wrap (16+(k:Int))=16+(k:Int)/\IntKind.i64.wrap (16+(k:Int)-4)=(c:Int)/\IntKind.u8.wrap (c:Int)=(c:Int):=by
 have e:16+(k:Int)-4=(c:Int):=by omega
 refine⟨IntWalk.i64_in _ (by omega),?_,?_⟩
 ·rw[e];exact IntWalk.i64_in _ (by omega)
 ·simp[IntKind.wrap,IntKind.bits,IntKind.signed];omega
theorem IC(w:World)(v k P:Nat)(hk:4<=k/\k<=15)(hP:(2:Int)^k=(P:Int))(hPk:16<=P/\P<=32768)(hv:v<=65535)(h16:16<=v)(hPv:P<=v)(hw:Bm.wid v=k+1) :
  Calls prog 92 #[.int .i64 (v:Int)] w fun e w'=>e=.returned (.tuple #[.int .u8 ((11+(k+1):Nat):Int),.int .i64 ((v-P:Nat):Int),.int .i64 (k:Int),.bool true])/\∃m,w'=w.drewN m:=by
 have HP:=hid hP;clear hP;have Hw:=hid (fun W=>iK v W (by omega));rw[hw]at Hw;obtain⟨c,hc⟩:∃c,c=11+(k+1):=⟨_,rfl⟩;obtain⟨r,hr⟩:∃r,r=v-P:=⟨_,rfl⟩;rw[<-hc,<-hr];have hcv:IntKind.u32.wrap (v:Int)=(v:Int):=by simp[IntKind.wrap,IntKind.bits,IntKind.signed];omega
 have d2:decide (v<16)=false:=decide_eq_false (by omega);have d3:decide ((v:Int)<16)=false:=decide_eq_false (by omega);have d0:decide ((v:Int)<0)=false:=decide_eq_false (by omega);have d1:decide (65535<(v:Int))=false:=decide_eq_false (by omega);have d1':decide (65535<v)=false:=decide_eq_false (by omega);have hk1:((k+1:Nat):Int)-1=(k:Int):=by omega
 have hk2:IntKind.i64.wrap ((k:Int))=(k:Int):=IntWalk.i64_in _ (by omega);obtain⟨e1,e2,e3⟩:=afh k c hc hk.2;have e4:IntKind.i64.wrap ((P:Nat):Int)=((P:Nat):Int):=IntWalk.i64_in _ (by omega);have e4':wrap64 ((P:Nat):Int)=((P:Nat):Int):=by unfold wrap64;omega
 have e5:=ajw v P r hr hPv hv;have hk0:0<=(k:Int):=by omega
 have hP:=HP.out;clear hw hc hr HP;go_enter func92,ntmps92
 go_wp2_with fail
 refine(Hw.out w).mono ?_;rintro e w' ⟨rfl,rfl⟩;go_wp2;go_quiet (fail)
 go_wp2;exact bodyPost_ret (by simp[results,results92,go_sem]) rfl ⟨rfl,_,rfl⟩
theorem Lr:ali:=by
 refine⟨fun w v hv=>?_,fun w v _ h=>(ZJ w v h).mono fun e w' ⟨he,hw⟩=>⟨he,hw▸Below.refl _ _⟩⟩;by_cases h16:v<16
 ·unfold kX kI gG;rw[if_pos h16,if_pos h16,if_pos h16];exact(IE w v h16).mono fun e w' ⟨he,hw⟩=>⟨he,hw▸Below.refl _ _⟩
 ·obtain⟨k,k1,k2,h1,h2,hw⟩:=Ky v (by omega) hv;unfold kX kI gG;rw[if_neg h16,if_neg h16,if_neg h16,hw,Nat.add_sub_cancel];have hp:2^(k+1)=2^k+2^k:=by rw[Nat.pow_succ];omega
  have hm:v%2^k=v-2^k:=by rw[Nat.mod_eq_sub_mod h1,Nat.mod_eq_of_lt (by omega)]
  rw[hm];have h4:2^4<=2^k:=Nat.pow_le_pow_right (by omega) k1;have h15:2^k<=2^15:=Nat.pow_le_pow_right (by omega) k2;exact(IC w v k (2^k) ⟨k1,k2⟩ (by simp) ⟨by omega,by omega⟩ hv (by omega) h1 hw).mono fun e w' ⟨he,m,hw'⟩=>⟨he,by rw[hw'];exact below_drewN (Below.refl _ _) m⟩
theorem kG(w:World)(c:Nat)(hc:c<256):Calls prog 167 #[.int .u8 (c:Int)] w fun e w'=>e=.returned (.tuple #[.int .i64 (max (cK c) 0),.bool (decide (0<=cK c))])/\w=w':=by
 obtain⟨r,hr⟩:∃r,r=max (cK c) 0:=⟨_,rfl⟩;obtain⟨t,ht⟩:∃t,t=decide (0<=cK c):=⟨_,rfl⟩;rw[<-hr,<-ht];unfold cK at hr ht;by_cases h27:27<c
 ·rw[if_neg (by omega),if_pos h27]at hr ht;have hr':r=0:=by rw[hr];rfl
  have ht':t=false:=by rw[ht];rfl
  clear hr ht;subst hr' ht';have d1:decide (27<c)=true:=decide_eq_true h27;have d1':decide (27<(c:Int))=true:=decide_eq_true (by omega);go_enter func167,ntmps167
  go_wp2;go_ret2;exact⟨rfl,rfl⟩
 ·have d1:decide (27<c)=false:=decide_eq_false h27;have d1':decide (27<(c:Int))=false:=decide_eq_false (by omega);by_cases h16:c<16
  ·rw[if_pos h16]at hr ht;have hr':r=0:=by rw[hr];rfl
   have ht':t=true:=by rw[ht];rfl
   clear hr ht;subst hr' ht';have d2:decide (c<16)=true:=decide_eq_true h16;have d2':decide ((c:Int)<16)=true:=decide_eq_true (by omega);go_enter func167,ntmps167
   go_wp2;go_ret2;exact⟨rfl,rfl⟩
  ·rw[if_neg h16,if_neg h27]at hr ht;have ht':t=true:=by rw[ht];exact decide_eq_true (by omega)
   have hr':(c:Int)-16+4=r:=by rw[hr];omega
   clear hr ht;subst ht';have d2:decide (c<16)=false:=decide_eq_false h16;have d2':decide ((c:Int)<16)=false:=decide_eq_false (by omega);have Hr:=hid hr';clear hr';go_enter func167,ntmps167
   go_wp2;rw[Hr.out];go_ret2;exact⟨rfl,rfl⟩
theorem OB(w:World)(c m:Nat)(hc:c<256)(h:cK c<0):Calls prog 168 #[.int .u8 (c:Int),.int .u32 (m:Int)] w fun e w'=>e=.returned (.tuple #[.int .i64 0,.bool false])/\w=w':=by
 have He:=hid (kG w c hc);rw[Int.max_eq_right (by omega),decide_eq_false (by omega)]at He;clear h;go_enter func168,ntmps168
 go_wp2_with fail
 refine He.out.mono ?_;rintro e w' ⟨rfl,rfl⟩;go_wp2;go_ret2;exact⟨rfl,rfl⟩
theorem IJ(w:World)(c m k q:Nat)(hc:c<256)(hm:m<4294967296)(h:cK c=(k:Int))(hq:Bm.wid m=q)(hkq:k<q):Calls prog 168 #[.int .u8 (c:Int),.int .u32 (m:Int)] w fun e w'=>e=.returned (.tuple #[.int .i64 0,.bool false])/\w=w':=by
 have He:=hid (kG w c hc);rw[h,Int.max_eq_left (by omega),decide_eq_true (by omega)]at He;have Hw:=hid (iK m w hm);rw[hq]at Hw;have d1:decide (k<q)=true:=decide_eq_true hkq;have d1':decide ((k:Int)<(q:Int))=true:=decide_eq_true (by omega);clear h hq;go_enter func168,ntmps168
 go_wp2_with fail
 refine He.out.mono ?_;rintro e w' ⟨rfl,rfl⟩;go_wp2_with fail
 refine Hw.out.mono ?_;rintro e w' ⟨rfl,rfl⟩;go_wp2;go_ret2;exact⟨rfl,rfl⟩
theorem EK(w:World)(c:Nat)(hc:c<16):Calls prog 168 #[.int .u8 (c:Int),.int .u32 0] w fun e w'=>e=.returned (.tuple #[.int .i64 (c:Int),.bool true])/\w=w':=by
 have He:=hid (kG w c (by omega));have h:cK c=0:=by unfold cK;rw[if_pos hc]
 rw[h]at He;have hmx:max (0:Int) 0=0:=rfl;rw[hmx,decide_eq_true (by omega)]at He;have Hw:=hid (iK 0 w (by omega));have hq:Bm.wid 0=0:=rfl;rw[hq]at Hw;have hcw:wrap64 (c:Int)=(c:Int):=by unfold wrap64;omega
 clear h hq hmx;go_enter func168,ntmps168
 go_wp2_with fail
 refine He.out.mono ?_;rintro e w' ⟨rfl,rfl⟩;go_wp2_with fail
 refine Hw.out.mono ?_;rintro e w' ⟨rfl,rfl⟩;go_wp2;go_ret2;exact⟨rfl,rfl⟩
theorem IK(w:World)(c m k q P:Nat)(hc:c<256)(h:cK c=(k:Int))(hk:4<=k/\k<=15)(hP:(2:Int)^k=(P:Int))(hPk:16<=P/\P<=32768)(hm:m<P)(hq:Bm.wid m=q)(hqk:q<=k):Calls prog 168 #[.int .u8 (c:Int),.int .u32 (m:Int)] w fun e w'=>e=.returned (.tuple #[.int .i64 ((P+m:Nat):Int),.bool true])/\w=w':=by
 have HP:=hid hP;clear hP;have He:=hid (kG w c hc);rw[h,Int.max_eq_left (by omega),decide_eq_true (by omega)]at He;have Hw:=hid (iK m w (by omega));rw[hq]at Hw;have d1:decide (k<q)=false:=decide_eq_false (by omega);have d1':decide ((k:Int)<(q:Int))=false:=decide_eq_false (by omega);have d2:((k:Int) == 0)=false:=by simp;omega
 have hmw:wrap64 (m:Int)=(m:Int):=by unfold wrap64;omega
 have e4':wrap64 ((P:Nat):Int)=((P:Nat):Int):=by unfold wrap64;omega
 have e5:wrap64 ((P:Int)+(m:Int))=(P:Int)+(m:Int):=by unfold wrap64;omega
 have hk0:0<=(k:Int):=by omega
 rw[Int.natCast_add];have hP:=HP.out;clear h hq HP;go_enter func168,ntmps168
 go_wp2_with fail
 refine He.out.mono ?_;rintro e w' ⟨rfl,rfl⟩;go_wp2_with fail
 refine Hw.out.mono ?_;rintro e w' ⟨rfl,rfl⟩;go_wp2;go_ret2;exact⟨rfl,rfl⟩
theorem EJ:aij:=by
 intro w c m hc hm;rcases Zd c with h | ⟨k,h,hk⟩
 ·rw[acf c m (by omega)];exact(OB w c m hc (by omega)).mono fun e w' ⟨he,hw⟩=>⟨he,hw▸Below.refl _ _⟩
 ·by_cases hmk:m<2^k
  ·have hwm:=eF m k hmk;by_cases h16:c<16
   ·have hk0:k=0:=by unfold cK at h;rw[if_pos h16]at h;omega
    subst hk0;have hm0:m=0:=by omega
    subst hm0;have hv:iJ c 0=some c:=by unfold iJ;rw[if_pos h16,if_pos rfl]
    rw[hv];exact(EK w c h16).mono fun e w' ⟨he,hw⟩=>⟨he,hw▸Below.refl _ _⟩
   ·have h27:¬27<c:=fun h27=>by unfold cK at h;rw[if_neg h16,if_pos h27]at h;omega
    have hkc:c-12=k:=by unfold cK at h;rw[if_neg h16,if_neg h27]at h;omega
    have hv:iJ c m=some (2^k+m):=by unfold iJ;rw[if_neg h16,if_neg h27,hkc,if_pos hmk]
    rw[hv];have h4:2^4<=2^k:=Nat.pow_le_pow_right (by omega) (by omega);have h15:2^k<=2^15:=Nat.pow_le_pow_right (by omega) hk;exact(IK w c m k _ (2^k) hc h ⟨by omega,hk⟩ (by simp) ⟨by omega,by omega⟩ hmk rfl hwm).mono fun e w' ⟨he,hw⟩=>⟨he,hw▸Below.refl _ _⟩
  ·have hn:iJ c m=none:=(Qp c m k h).2 (by
    have:=Nat.two_pow_pos k;rw[ne_eq,Nat.div_eq_zero_iff];omega)
   rw[hn];have hq:k<Bm.wid m:=by
    rcases Nat.lt_or_ge k (Bm.wid m)with hq | hq
    ·exact hq
    ·exact absurd (Nat.lt_of_lt_of_le (rV m) (Nat.pow_le_pow_right (by omega) hq)) hmk
   exact(IJ w c m k _ hc hm h rfl hq).mono fun e w' ⟨he,hw⟩=>⟨he,hw▸Below.refl _ _⟩
def aee:Go.Shelf.Ren:=⟨fun | 166=>28 | 169=>29 | 240=>54 | 276=>82 | n=>n,fun | 0=>0 | 3=>3 | 4=>4 | 5=>5 | 9=>9 | 20=>20 | 37=>60 | 70=>59 | 72=>62 | 75=>65 | 80=>68 | 127=>99 | 164=>136 | n=>n,fun n=>n⟩
theorem RA:Lays.n166 prog aee:={
 mixed:=by kernel_rfl
 f166:=Tryz.func28.trans (congrArg some (by kernel_rfl))
 f240:=Tryz.func54.trans (congrArg some (by kernel_rfl))
 f276:=Tryz.func82.trans (congrArg some (by kernel_rfl))
 t0:=underlying0
 a0:=Tryz.isAgg0
 z0:=Tryz.sizeOf0
 v0:=Tryz.zeroValue0
 t3:=underlying3
 a3:=Tryz.isAgg3
 z3:=Tryz.sizeOf3
 v3:=Tryz.zeroValue3
 t4:=underlying4
 a4:=Tryz.isAgg4
 z4:=Tryz.sizeOf4
 v4:=Tryz.zeroValue4
 t9:=underlying9
 a9:=Tryz.isAgg9
 z9:=Tryz.sizeOf9
 v9:=Tryz.zeroValue9
 t20:=underlying20
 a20:=Tryz.isAgg20
 z20:=Tryz.sizeOf20
 v20:=Tryz.zeroValue20
 t37:=underlying60
 a37:=Tryz.isAgg60
 z37:=Tryz.sizeOf60
 v37:=Tryz.zeroValue60
 t70:=underlying59
 a70:=Tryz.isAgg59
 z70:=Tryz.sizeOf59
 v70:=Tryz.zeroValue59
 t72:=underlying62
 a72:=Tryz.isAgg62
 z72:=Tryz.sizeOf62
 v72:=Tryz.zeroValue62
 t75:=underlying65
 a75:=Tryz.isAgg65
 z75:=Tryz.sizeOf65
 v75:=Tryz.zeroValue65
 t164:=underlying136
 a164:=Tryz.isAgg136
 z164:=Tryz.sizeOf136
 v164:=Tryz.zeroValue136}
theorem RB:Lays.n169 prog aee:={
 mixed:=by kernel_rfl
 f169:=Tryz.func29.trans (congrArg some (by kernel_rfl))
 t0:=underlying0
 a0:=Tryz.isAgg0
 z0:=Tryz.sizeOf0
 v0:=Tryz.zeroValue0
 t3:=underlying3
 a3:=Tryz.isAgg3
 z3:=Tryz.sizeOf3
 v3:=Tryz.zeroValue3
 t9:=underlying9
 a9:=Tryz.isAgg9
 z9:=Tryz.sizeOf9
 v9:=Tryz.zeroValue9
 t37:=underlying60
 a37:=Tryz.isAgg60
 z37:=Tryz.sizeOf60
 v37:=Tryz.zeroValue60
 t70:=underlying59
 a70:=Tryz.isAgg59
 z70:=Tryz.sizeOf59
 v70:=Tryz.zeroValue59
 t72:=underlying62
 a72:=Tryz.isAgg62
 z72:=Tryz.sizeOf62
 v72:=Tryz.zeroValue62
 t127:=underlying99
 a127:=Tryz.isAgg99
 z127:=Tryz.sizeOf99
 v127:=Tryz.zeroValue99}
theorem Rz:Builder.Extra prog aee:={
 sizeBuilder:=by kernel_rfl
 liesBuilder:=by kernel_rfl
 t5:=underlying5
 a5:=Tryz.isAgg5
 z5:=Tryz.sizeOf5
 v5:=Tryz.zeroValue5
 infoByte:=by kernel_rfl
 cellsByte:=by kernel_rfl
 sizeByte:=by kernel_rfl
 neB5:=by decide}
def BD(w:World)(B b:Nat)(l:List Nat):Prop:=Lib.IsBuilderF 62 5 B b (u8s l) w
theorem Gb(l:List Nat)(h:∀x∈l,x<256):u8s l=Lib.byteCells (l.map UInt8.ofNat):=by
 rw[u8s,Lib.byteCells,List.map_map];refine List.map_congr_left fun x hx=>?_
 rw[Function.comp_apply,UInt8.toNat_ofNat_of_lt' (h x hx)]
theorem agF(l:List Nat)(h:∀x∈l,x<256):Lib.strCells (strOf l)=u8s l:=by
 rw[Gb l h,Lib.strCells_eq];rfl
theorem Qg(a b:List Nat):u8s a++u8s b=u8s (a++b):=by simp[u8s]
theorem BD.new(w:World)(B:Nat)(hB:B<=w.heap.size):BD (w.alloc (.cells #[.pointer none,.slice none 0 0] 62)) B w.heap.size []:=
 .inl ⟨hB,.slice none 0 0,heap_alloc_new w _,⟨rfl,.inl ⟨rfl,rfl⟩⟩,by simp[Value.ownBlock]⟩
theorem BD.below{w w':World}{B b:Nat}{l:List Nat}(h:BD w B b l)(hb:Below w.heap.size w w'):BD w' B b l:=by
 have key:∀p,Lib.BuilderAtF 62 5 B b p (u8s l) w->Lib.BuilderAtF 62 5 B b p (u8s l) w':=fun p h=>by
  have hlt:=h.lt;obtain⟨hB,v,hv,hown,hne⟩:=h;exact⟨hB,v,(hb.block b hlt).trans hv,hown.kept (row:=none) ⟨hb.os,hb.tape,hb.output,hb.size,fun k hk _=>hb.block k hk⟩ (Classical.em _),hne⟩
 exact h.elim (fun x=>.inl (key _ x)) (fun x=>.inr (key _ x))
theorem BD.lt{w:World}{B b:Nat}{l:List Nat}(h:BD w B b l):B<=b/\b<w.heap.size:=h.elim (fun h=>⟨h.1,h.lt⟩) (fun h=>⟨h.1,h.lt⟩)
theorem Pw{w w':World}{b g:Nat}{t:TypeId}{cs:List Value}(h:Row w g t cs)(ht:t≠5)(hg:g≠b)(ho:Lib.OthersKept 5 (some b) w w'):Row w' g t cs:=
 ho g _ h (fun e=>hg (by injection e)) (fun c fz e=>by injection e with _ e;exact ht e)
theorem zG(B b:Nat)(l s:List Nat)(w:World)(hl:l.length+s.length<=1000000000)(hs:∀x∈s,x<256)(hB:B<=w.heap.size)(h:BD w B b l) :
  Calls prog 28 #[.pointer (some ⟨b,0,none⟩),.string (strOf s)] w fun e w'=>e=.returned (.tuple #[.int .i64 (s.length:Int),.nilIface])/\BD w' B b (l++s)/\Below B w w'/\Lib.OthersKept 5 (some b) w w':=by
 have hc:Calls prog 28 #[.pointer (some ⟨b,0,none⟩),.string (strOf s)] w _:=Any.Builder_WriteString_k RA Rz B b (u8s l) (strOf s) w h (by rw[aA,aO];omega) hB;refine hc.mono ?_;rintro e w' ⟨rfl,hb,hbel,hk⟩;rw[agF s hs,Qg]at hb;exact⟨by rw[aA],.inr hb,hbel,hk⟩
theorem Gy(B b:Nat)(l:List Nat)(w:World)(hl:∀x∈l,x<256)(hB:B<=w.heap.size)(h:BD w B b l) :
  Calls prog 29 #[.pointer (some ⟨b,0,none⟩)] w fun e w'=>e=.returned (.string (strOf l))/\Below B w w':=by
 unfold BD at h;rw[Gb l hl]at h;have hc:Calls prog 29 #[.pointer (some ⟨b,0,none⟩)] w _:=Any.Builder_String_any_k RB Rz B b (l.map UInt8.ofNat) w h hB;refine hc.mono ?_;rintro e w' ⟨rfl,_,hbel,_⟩;exact⟨rfl,hbel⟩
end Go.Proofs.YtaebnkeddcbmkaaGreat
