/- Contracts. -/
import Derived.Test.YtgiicohbigiapaaGreatQal
import Derived.Test.YtgiicohbigiapaaGreatQaf
import Derived.Test.YtgiicohbigiapaaGreatQz1
import Derived.Test.YtgiicohbigiapaaGreatQz0
set_option maxHeartbeats 4000000
set_option maxRecDepth 100000
open Go.Proofs.Tryz Go.Proofs.YtgiicohbigiapaaGreat.ao List Nat Option
namespace Go.Proofs.YtgiicohbigiapaaGreat
open Go.RowKit
theorem akV:(prog.info? 223).map (λi=>(i.zero,i.size,i.bytes))=some (some (.agg #[.int .i64 0,.int .i64 0]),2,16):=by kernel_rfl
theorem abC(v:Value)(W:ai):(Instr.typeAssert (.iface 223 v) 20 223 true).run prog W=.ok (.tuple #[v,.bool true]) W:=by kernel_rfl
theorem amJ(L:List h3)(a q:Nat):bT L++[.int .i64 a,.int .i64 q]=bT (L++[(a,q)]):=by
 unfold bT;rw[K8];rfl
theorem aob{base p g cap a q gK iB:Nat}{L:List h3}{w au fm:ai}(aw:fJ au base p g cap L)(hw:Below w.heap.size w au)(ak:base<=w.heap.size)
  (b8:fm.ownsRow base 223 2 (.slice (some ⟨gK,0,none⟩) (L.length+1) iB) (L.length+1) (bT L++[.int .i64 a,.int .i64 q])) (aD:au.grownBy fm (some g)) :
  fJ (fm.setCell ⟨p,0,none⟩ (.slice (some ⟨gK,0,none⟩) (L.length+1) iB)) base p gK iB (L++[(a,q)])/\kr base w (fm.setCell ⟨p,0,none⟩ (.slice (some ⟨gK,0,none⟩) (L.length+1) iB)):=by
 obtain⟨post,cm,hrow⟩:=aw.row;have aE:Row fm p 258 [.slice (some ⟨g,0,none⟩) L.length cap]:=aw.var.keep (aD.block p aw.var.lt (λe=>by injection e with e;exact aw.ne e));have oB:=aE.bm 0 (.slice (some ⟨gK,0,none⟩) (L.length+1) iB);have BJ:Row (fm.setCell ⟨p,0,none⟩ (.slice (some ⟨gK,0,none⟩) (L.length+1) iB)) p 258 [.slice (some ⟨gK,0,none⟩) (L++[(a,q)]).length iB]:=by
  rw[aY];exact oB
 rw[amJ]at b8;have aX:(Value.slice (some ⟨gK,0,none⟩) (L.length+1) iB).ownBlock≠some p:=λe=>by
  obtain⟨c,q9,hk⟩:=Lib.ownsRow_kind b8 p e;unfold Row at aE;rw[aE]at hk;injection hk with hk
  injection hk with _ hk
  exact absurd hk (by decide)
 have WR:=ownsRow_setCell_other b8 (a:=⟨p,0,none⟩) aX (.slice (some ⟨gK,0,none⟩) (L.length+1) iB);refine⟨anQ BJ aw.zJ (by rw[aY];exact WR),?_⟩;have bf:kr base w au:=kr.below hw ak;have bM:kr base au fm:=kr.grown aD hrow (.inr rfl) aw.zI;have ev:kr base fm (fm.setCell ⟨p,0,none⟩ (.slice (some ⟨gK,0,none⟩) (L.length+1) iB)):=kr.grown (hz (dl fm (some p)) 0 _) aE (.inl rfl) aw.zJ;exact(bf.trans bM).trans ev
theorem asI(base p g cap a q:Nat)(L:List h3)(w:ai)(ak:base<=w.heap.size)(bR:L.length<=100000)(aw:fJ w base p g cap L) :
  Calls prog 257 #[.pointer (some ⟨p,0,none⟩),.iface 223 (.agg #[.int .i64 a,.int .i64 q])] w λe w'=>e=.returned (.tuple #[])/\∃fd cap',fJ w' base p fd cap' (L++[(a,q)])/\kr base w w':=by
 obtain⟨i0,ax,bB,bK,bw⟩:=info_parts akV;have gF:=I aw;clear aw;go_enter func257,ntmps257
 have XP:=λW=>abC (.agg #[.int .i64 a,.int .i64 q]) W
 go_wp2_with fail
 clear XP;obtain⟨au,hd⟩:∃au,au=w.alloc (.cells #[.int .i64 a,.int .i64 q] 223):=⟨_,rfl⟩;have dY:Below w.heap.size w au:=by rw[hd];exact dQ.alloc bh _
 have i6:=gF.out.below dY;have xt:Row au w.heap.size 223 [.int .i64 a,.int .i64 q]:=by rw[hd];exact Row.new w _ _
 have lM:g<w.heap.size:=by
  obtain⟨_,_,aj⟩:=gF.out.row;exact aj.lt
 rw[<-hd];have jB:au.heap.size=w.heap.size+1:=by rw[hd];simp
 clear hd;have li:∀W,au.grownBy W (some g)->W.cell? ⟨p,0,none⟩=some (.slice (some ⟨g,0,none⟩) L.length cap):=λW bg=>by
  rw[bg.cell_far _ (by exact i6.var.lt) (λe=>i6.ne (by injection e)),i6.cell]
 have y5:∀W,au.grownBy W (some g)->W.frozen? ⟨p,0,none⟩=false:=λW bg=>by
  rw[bg.frozen_far _ (by exact i6.var.lt) (λe=>i6.ne (by injection e)),i6.var.free]
 have dg:∀W,au.grownBy W (some g)->W.cell? ⟨w.heap.size,0,none⟩=some (.int .i64 a):=λW bg=>by
  rw[bg.cell_far _ (by exact xt.lt) (λe=>by injection e with e;exact absurd (show w.heap.size=g from e) (by omega)),xt.cell];rfl
 have aH:∀W,au.grownBy W (some g)->W.cell? ⟨w.heap.size,1,none⟩=some (.int .i64 q):=λW bg=>by
  rw[bg.cell_far _ (by exact xt.lt) (λe=>by injection e with e;exact absurd (show w.heap.size=g from e) (by omega)),xt.cell];rfl
 have c0:=li au (dl au _);have c1:=dg au (dl au _);have c2:=aH au (dl au _);have at1:=li (au.alloc (.cells #[.int .i64 a,.int .i64 q] 223)) (iD (dl au _) _);have acW:=I li;have ac7:=I y5;have tt:=I dY;have CY:=I i6;have Ki:Hid ((au.alloc (.cells #[.int .i64 a,.int .i64 q] 223)).drew.ownsRow base 223 2 (.slice (some ⟨g,0,none⟩) L.length cap) L.length (bT L)):=I (i6.own.alloc _);have hH:Hid (∀(j:Nat) (u:Value),[Value.int .i64 a,Value.int .i64 q][j]?=some u->(au.alloc (.cells #[.int .i64 a,.int .i64 q] 223)).drew.cell? ((⟨au.heap.size,0,none⟩:Addr).add j)=some u):=I (λj u hu=>by
  match j,hu with
  | 0,hu=>simp at hu;subst hu;simp[Addr.add]
  | 1,hu=>simp at hu;subst hu;simp[Addr.add])
 have qx:base<=au.heap.size:=by omega
 clear li y5 dg aH dY i6 xt gF jB lM;go_region_law ((refine step_append_lies ((au.alloc (.cells #[.int .i64 a,.int .i64 q] 223)).drew) (by rfl) _ _ _ (by rfl) base 223 i0 (.agg #[.int .i64 0,.int .i64 0]) 2 16 underlying258 ax bB bK bw rfl (by omega) (.slice (some ⟨g,0,none⟩) L.length cap) L.length (bT L) (by rfl) Ki.out ⟨au.heap.size,0,none⟩ 1 1 [.int .i64 a,.int .i64 q] (by rfl) (by rfl) hH.out (by intro u hu;simp at hu;rcases hu with rfl | rfl<;>rfl) (by omega) (by unfold maxLen;omega) (by omega) (by simp;omega) (au.heap.size+1) (by simp) ?_;intro gK iB fm ma j4 ra _;have Au:=I ma;have yf:Hid (au.grownBy fm (some g)):=I ((nR (iD (dl au (some g)) _)).trans j4);have agJ:=acW.out fm yf.out;have ahO:=ac7.out fm yf.out;clear ma j4 ra))
 all_goals
  go_wp2_with fail
  go_end0
  obtain⟨gO,dc⟩:=aob CY.out tt.out ak Au.out yf.out;exact⟨rfl,gK,iB,gO,dc⟩
theorem amK(L:List h3)(k:Nat):bT (L.take k)=(bT L).take (k*2):=af6 L k
theorem anV{base p g cap n:Nat}{L:List h3}{w au:ai}(aw:fJ au base p g cap L)(hw:Below w.heap.size w au)(ak:base<=w.heap.size)(az:L.length=n+1) :
  fJ (au.setCell ⟨p,0,none⟩ (.slice (some ⟨g,0,none⟩) n cap)) base p g cap (L.take n)/\gi base p g w (au.setCell ⟨p,0,none⟩ (.slice (some ⟨g,0,none⟩) n cap)):=by
 obtain⟨post,cm,hrow⟩:=aw.row;have aE:=aw.var;have oB:=aE.bm 0 (.slice (some ⟨g,0,none⟩) n cap);have av:(L.take n).length=n:=by rw[cq];omega
 have BJ:Row (au.setCell ⟨p,0,none⟩ (.slice (some ⟨g,0,none⟩) n cap)) p 258 [.slice (some ⟨g,0,none⟩) (L.take n).length cap]:=by
  rw[av];exact oB
 have aL:=aw.fits;have hl:=xd (f:=n2) (h:=n1) L;have bf:gi base p g w au:=gi.below hw ak;have ev:gi base p g au (au.setCell ⟨p,0,none⟩ (.slice (some ⟨g,0,none⟩) n cap)):=gi.grown (hz (dl au (some p)) 0 _) aE.lt (.inl rfl) aw.zJ;refine⟨⟨aw.zJ,aw.zI,by omega,aw.most,BJ,(bT L).drop (n*2)++post,?_,?_⟩,bf.trans ev⟩
 .rw[aY,cC,av];unfold bT;omega
 .rw[amK,<-dj,gA];exact hrow.cG (λe=>aw.ne e.symm) _
theorem asH(base p g cap n:Nat)(L:List h3)(w:ai)(ak:base<=w.heap.size)(bR:L.length<=100000)(az:L.length=n+1)(aw:fJ w base p g cap L) :
  Calls prog 256 #[.pointer (some ⟨p,0,none⟩)] w λe w'=>e=.returned (.iface 223 (.agg #[n2 (L[n]?.getD (0,0)),n1 (L[n]?.getD (0,0))]))/\fJ w' base p g cap (L.take n)/\gi base p g w w':=by
 have gF:=I aw;have c0:=aw.cell;obtain⟨post,cm,hrow⟩:=aw.row;obtain⟨bC,bf⟩:=wi (f:=n2) (h:=n1) hrow n (by omega);have fq:L[n]?.getD (0,0)=L[n]:=by rw[bH (by omega),b6]
 rw[fq];have dw:=I (anV aw dQ ak az);have rk:w.frozen? ⟨p,0,none⟩=false:=aw.var.free 0;have Ee:=aw.var.lt;have lM:=hrow.lt;have hn:=aw.fits;have bX:Hid (L.length=n+1):=I az;clear aw hrow cm fq;simp only[n2,n1]at bC bf ⊢;generalize L[n].1=a at *;generalize L[n].2=q at *;rw[az]at c0 hn;have iZ:n<=100000:=by omega
 clear az bR gF;go_enter func256,ntmps256
 go_wp2_with fail
 go_ret;obtain⟨gO,dc⟩:=dw.out;have aI:=(Below.refl (w.setCell ⟨p,0,none⟩ (.slice (some ⟨g,0,none⟩) n cap)).heap.size _).alloc bh (.cells #[.int .i64 a,.int .i64 q] 223);exact⟨rfl,gO.below aI,dc.trans (gi.below aI (du ak dc.dy.size))⟩
section
variable {w:ai} {base p g cap n c:Nat} {L:List h3}
theorem EV(h:fJ w base p g cap L)(i j:Nat)(ax:i<L.length)(ar:j<L.length) :
  Calls prog 255 #[.slice (some ⟨g,0,none⟩) L.length cap,.int .i64 i,.int .i64 j] w λe w'=>e=.returned (.bool (decide (gN (ao.b0 L i) (ao.b0 L j))))/\Below w.heap.size w w':=by
 obtain⟨post,_,aj⟩:=h.row;have h1:=wi (f:=n2) (h:=n1) aj i ax;have af:=wi (f:=n2) (h:=n1) aj j ar;unfold ao.b0;rw[bH ax,bH ar,b6,b6];exact asG g L.length cap i j L[i] L[j] w ax ar h1 af
theorem EW(h:fJ w base p g cap L)(i j:Nat)(ax:i<L.length)(ar:j<L.length) :
  Calls prog 258 #[.slice (some ⟨g,0,none⟩) L.length cap,.int .i64 i,.int .i64 j] w λe w'=>e=.returned (.tuple #[])/\fJ w' base p g cap (swp (0,0) L i j)/\gi base p g w w':=by
 obtain⟨post,hl,aj⟩:=h.row;refine(asJ g cap i j L post w ax ar aj).mono ?_;rintro e w' ⟨he,h1,af⟩;exact⟨he,h.same (IZ _ _ _ _) af hl h1,gi.grown af aj.lt (.inr rfl) h.zI⟩
end
theorem Du:∀args w,(callFunc 255 args).run prog w=.ok (.enter 255 args) w:=enters_of func255 (by kernel_rfl) rfl
theorem Dv:∀args w,(callFunc 258 args).run prog w=.ok (.enter 258 args) w:=enters_of func258 (by kernel_rfl) rfl
theorem Un:∀args w,(callFunc 168 args).run prog w=.ok (.enter 168 args) w:=enters_of func168 (by kernel_rfl) rfl
theorem ahr:∀args w,(callFunc 257 args).run prog w=.ok (.enter 257 args) w:=enters_of func257 (by kernel_rfl) rfl
theorem ahq:∀args w,(callFunc 256 args).run prog w=.ok (.enter 256 args) w:=enters_of func256 (by kernel_rfl) rfl
theorem aj2(base p g cap j:Nat)(L:List h3)(w:ai)(ak:base<=w.heap.size)(bR:L.length<=100000)(ar:j<L.length)(aw:fJ w base p g cap L)(hu:w9 L L.length j) :
  Calls prog 218 #[.iface 220 (.pointer (some ⟨p,0,none⟩)),.int .i64 j] w λe w'=>e=.returned (.tuple #[])/\∃L',L'.Perm L/\k3 L' L'.length/\fJ w' base p g cap L'/\gi base p g w w':=by
 obtain⟨n,az⟩:∃n,n=L.length:=⟨_,rfl⟩;rw[<-az]at bR ar hu;have bX:=I az;have gF:=I aw;have w3:=I hu;clear az aw hu;go_enter func218,ntmps218
 go_wp2;go_loopw [1] (λhM wr=>∃(j:Nat) (L':List h3),hM=.int .i64 j/\j<n/\Hid (L'.Perm L)/\Hid (w9 L' n j)/\Hid (fJ wr base p g cap L')/\Hid (gi base p g w wr)) (λhM _=>(intOf hM).toNat)
 case atStart=>exact⟨j,L,rfl,ar,I (List.Perm.refl _),w3,gF,I (gi.refl _ _ _ _)⟩
 case round=>
  obtain⟨j,L',rfl,ar,hperm,rx,cm,hk⟩:=hrel;clear gF w3;have hlen:L'.length=n:=by rw[hperm.out.length_eq,bX.out]
  have Hlen:=I hlen;have c0:=cm.out.cell;rw[hlen]at c0;clear hlen;by_cases am:j=0
  .subst am;have hfin:∃L',L'.Perm L/\k3 L' L'.length/\fJ wr base p g cap L'/\gi base p g w wr:=⟨L',hperm.out,by rw[Hlen.out];exact asE _ _ rx,cm,hk⟩;have bk:=I hfin;clear hfin;go_wp2;go_end0
   exact⟨rfl,bk⟩
  .have Ov:=EX p n cap (some ⟨g,0,none⟩) wr c0;have Lx:=Du;obtain⟨i,ax⟩:∃i,i=(j-1)/2:=⟨_,rfl⟩;have hq:((j-1:Nat):Int)/2=(i:Int):=by omega
   have eG:((j:Int)-1)/2=(i:Int):=by omega
   have vG:i<j:=by omega
   have hl:=EV cm.out j i (by rw[Hlen.out];exact ar) (by rw[Hlen.out];omega);rw[Hlen.out]at hl;have e1:=I hl;have qV:=I ax;clear hl ax;obtain⟨r,aj⟩:∃r,r=decide (gN (ao.b0 L' j) (ao.b0 L' i)):=⟨_,rfl⟩;rw[<-aj]at e1;have aU:=I aj;clear aj;go_wp2_with fail
   refine e1.out.mono ?_;rintro e au ⟨rfl,aH⟩;clear hq eG;have lN:=cm.out.below aH;have oT:=I (hk.out.trans (gi.below aH (du ak hk.out.dy.size)));have c1:=lN.cell;rw[Hlen.out]at c1;have uR:=I lN;clear aH lN Ov Lx c0 hk cm e1;cases r with
   | false=>
    have av:¬gN (ao.b0 L' j) (ao.b0 L' i):=by have:=aU.out;simpa using this.symm
    rw[qV.out]at av;have hfin:∃L',L'.Perm L/\k3 L' L'.length/\fJ au base p g cap L'/\gi base p g w au:=⟨L',hperm.out,by rw[Hlen.out];exact asD _ _ _ rx.out av,uR,oT⟩;have bk:=I hfin;clear hfin av;go_wp2;go_end0
    exact⟨rfl,bk⟩
   | true=>
    have av:gN (ao.b0 L' j) (ao.b0 L' i):=by have:=aU.out;simpa using this.symm
    have b5:=I av;have vX:=EY p n cap (some ⟨g,0,none⟩) au c1;have vk:=Dv;have ap:=EW uR.out i j (by rw[Hlen.out];omega) (by rw[Hlen.out];exact ar);rw[Hlen.out]at ap;have bU:=I ap;clear ap av;go_wp2_with fail
    refine bU.out.mono ?_;rintro e aB ⟨rfl,qw,fy⟩;have XX:w9 (swp (0,0) L' i j) n i:=by
     have h1:=asF L' n j (by rw[Hlen.out];exact Nat.le_refl _) ar (by omega) rx.out (by rw[<-qV.out];exact b5);rw[<-qV.out]at h1;exact h1
    have ad5:=I XX;have adJ:=I qw;have rZ:=I (oT.out.trans fy);have adL:=I ((Fj L' i j (by rw[Hlen.out];omega) (by rw[Hlen.out];exact ar)).trans hperm);clear XX qw fy vX vk bU c1;go_wp2;go_roundw
    case rel=>exact⟨i,swp (0,0) L' i j,rfl,by omega,adL,ad5,adJ,rZ⟩
    case measure=>simp[intOf];omega
def Qr(e:Ending):Prop:=∃b,e=.returned (.bool b)
theorem Gy(b:Bool):Qr (.returned (.bool b)):=⟨b,rfl⟩
theorem ajY(base p g cap n:Nat)(L:List h3)(w:ai)(ak:base<=w.heap.size)(bR:L.length<=100000)(az:n<L.length)(aw:fJ w base p g cap L)(aG:Ab L n 0) :
  Calls prog 219 #[.iface 220 (.pointer (some ⟨p,0,none⟩)),.int .i64 0,.int .i64 n] w λe w'=>Qr e/\∃L',L'.Perm L/\k3 L' n/\(∀k,n<=k->ao.b0 L' k=ao.b0 L k)/\fJ w' base p g cap L'/\gi base p g w w':=by
 obtain⟨um,M7⟩:∃um,um=L.length:=⟨_,rfl⟩;rw[<-M7]at bR az;have adx:=I M7;have gF:=I aw;have dS:=I aG;clear M7 aw aG;go_enter func219,ntmps219
 go_wp2;go_loopw [7] (λbV wr=>∃(i:Nat) (L':List h3),bV=.int .i64 i/\i<=n/\Hid (L'.Perm L)/\Hid (∀k,n<=k->ao.b0 L' k=ao.b0 L k)/\Hid (Ab L' n i)/\Hid (fJ wr base p g cap L')/\Hid (gi base p g w wr)) (λbV _=>n-(intOf bV).toNat)
 case atStart=>exact⟨0,L,rfl,by omega,I (List.Perm.refl _),I (λ_ _=>rfl),dS,gF,I (gi.refl _ _ _ _)⟩
 case round=>
  obtain⟨i,L',rfl,ax,hperm,hsame,sE,cm,hk⟩:=hrel;clear gF dS;have hlen:L'.length=um:=by rw[hperm.out.length_eq,adx.out]
  have Hlen:=I hlen;have c0:=cm.out.cell;rw[hlen]at c0;clear hlen;by_cases h1:n<=2*i+1
  .have hfin:∃L',L'.Perm L/\k3 L' n/\(∀k,n<=k->ao.b0 L' k=ao.b0 L k)/\fJ wr base p g cap L'/\gi base p g w wr:=⟨L',hperm.out,G2 _ _ _ sE.out (λk bC j8 dH=>by omega),hsame.out,cm.out,hk.out⟩;have bk:=I hfin;clear hfin;go_wp2;go_ret;exact⟨Gy _,bk⟩
  .by_cases af:n<=2*i+2
   .have wK:Hid (∀k,0<k->k<n->(k-1)/2=i->¬gN (ao.b0 L' k) (ao.b0 L' (2*i+1))):=I (λk bC j8 dH=>by
     obtain rfl:k=2*i+1:=by omega
     rw[pf];omega)
    have EM:=EX p um cap (some ⟨g,0,none⟩) wr c0;have Dq:=Du;have eF:=EV cm.out (2*i+1) i (by rw[Hlen.out];omega) (by rw[Hlen.out];omega);rw[Hlen.out]at eF;obtain⟨dc,bS⟩:∃dc,dc=decide (gN (ao.b0 L' (2*i+1)) (ao.b0 L' i)):=⟨_,rfl⟩;rw[<-bS]at eF;have eA:=I bS;have nF:=I eF;clear bS eF;have hcast:Value.int IntKind.i64 (((2*i+1:Nat)):Int)=.int .i64 (2*(i:Int)+1):=by go_num
    rw[hcast]at nF;clear hcast;go_wp2_with fail
    refine nF.out.mono ?_;rintro e a1 ⟨rfl,bz⟩;have pQ:=cm.out.below bz;have mu:=I (hk.out.trans (gi.below bz (du ak hk.out.dy.size)));have c3:=pQ.cell;rw[Hlen.out]at c3;have wQ:=I pQ;clear bz pQ EM Dq c0 nF;cases dc with
    | false=>
     have av:¬gN (ao.b0 L' (2*i+1)) (ao.b0 L' i):=by have:=eA.out;simpa using this.symm
     have hfin:∃L',L'.Perm L/\k3 L' n/\(∀k,n<=k->ao.b0 L' k=ao.b0 L k)/\fJ a1 base p g cap L'/\gi base p g w a1:=⟨L',hperm,G2 _ _ _ sE.out (λk bC j8 dH=>by
      have h1:=wK.out k bC j8 dH;rw[pf]at h1 av ⊢;omega),hsame.out,wQ.out,mu.out⟩
     have bk:=I hfin;clear hfin av;go_wp2;go_ret;exact⟨Gy _,bk⟩
    | true=>
     have av:gN (ao.b0 L' (2*i+1)) (ao.b0 L' i):=by have:=eA.out;simpa using this.symm
     have b5:=I av;have vX:=EY p um cap (some ⟨g,0,none⟩) a1 c3;have vk:=Dv;have ap:=EW wQ.out i (2*i+1) (by rw[Hlen.out];omega) (by rw[Hlen.out];omega);rw[Hlen.out]at ap;have bU:=I ap;clear ap av;go_wp2_with fail
     refine bU.out.mono ?_;rintro e bA ⟨rfl,xC,vJ⟩;have CA:=I (Lu L' n i (2*i+1) (by rw[Hlen.out];omega) (by omega) (by omega) (by omega) sE.out b5.out wK.out);have C0:=I xC;have yq:=I (mu.out.trans vJ);have C1:=I ((Fj L' i (2*i+1) (by rw[Hlen.out];omega) (by rw[Hlen.out];omega)).trans hperm.out);have C5:Hid (∀k,n<=k->ao.b0 (swp (0,0) L' i (2*i+1)) k=ao.b0 L k):=I (λk hk=>by
      rw[zX L' i (2*i+1) k (by rw[Hlen.out];omega) (by rw[Hlen.out];omega),ay (by omega),ay (by omega)];exact hsame.out k hk)
     clear xC vJ vX vk bU c3;go_wp2;go_roundw
     case rel=>exact⟨(2*i+1),swp (0,0) L' i (2*i+1),by go_num,by omega,C1,C5,CA,C0,yq⟩
     case measure=>simp[intOf];omega
   .have Ov:=EX p um cap (some ⟨g,0,none⟩) wr c0;have Lx:=Du;have hl:=EV cm.out (2*i+2) (2*i+1) (by rw[Hlen.out];omega) (by rw[Hlen.out];omega);rw[Hlen.out]at hl;obtain⟨r,aj⟩:∃r,r=decide (gN (ao.b0 L' (2*i+2)) (ao.b0 L' (2*i+1))):=⟨_,rfl⟩;rw[<-aj]at hl;have aU:=I aj;rw[show((2*i+2:Nat):Int)=2*(i:Int)+1+1 by omega,show((2*i+1:Nat):Int)=2*(i:Int)+1 by omega]at hl;have e1:=I hl;clear aj hl;go_wp2_with fail
    refine e1.out.mono ?_;rintro e au ⟨rfl,aH⟩;have lN:=cm.out.below aH;have oT:=I (hk.out.trans (gi.below aH (du ak hk.out.dy.size)));have c1:=lN.cell;rw[Hlen.out]at c1;have uR:=I lN;clear aH lN Ov Lx c0 hk cm e1;cases r with
    | false=>
     have av:¬gN (ao.b0 L' (2*i+2)) (ao.b0 L' (2*i+1)):=by have:=aU.out;simpa using this.symm
     have wK:Hid (∀k,0<k->k<n->(k-1)/2=i->¬gN (ao.b0 L' k) (ao.b0 L' (2*i+1))):=I (λk bC j8 dH=>by
      obtain rfl | rfl:k=2*i+1\/k=2*i+2:=by omega
      .rw[pf];omega
      .exact av)
     clear av;have EM:=EX p um cap (some ⟨g,0,none⟩) au c1;have Dq:=Du;have eF:=EV uR.out (2*i+1) i (by rw[Hlen.out];omega) (by rw[Hlen.out];omega);rw[Hlen.out]at eF;obtain⟨dc,bS⟩:∃dc,dc=decide (gN (ao.b0 L' (2*i+1)) (ao.b0 L' i)):=⟨_,rfl⟩;rw[<-bS]at eF;have eA:=I bS;have nF:=I eF;clear bS eF;have hcast:Value.int IntKind.i64 (((2*i+1:Nat)):Int)=.int .i64 (2*(i:Int)+1):=by go_num
     rw[hcast]at nF;clear hcast;go_wp2_with fail
     refine nF.out.mono ?_;rintro e a1 ⟨rfl,bz⟩;have pQ:=uR.out.below bz;have mu:=I (oT.out.trans (gi.below bz (du ak oT.out.dy.size)));have c3:=pQ.cell;rw[Hlen.out]at c3;have wQ:=I pQ;clear bz pQ EM Dq c1 nF;cases dc with
     | false=>
      have av:¬gN (ao.b0 L' (2*i+1)) (ao.b0 L' i):=by have:=eA.out;simpa using this.symm
      have hfin:∃L',L'.Perm L/\k3 L' n/\(∀k,n<=k->ao.b0 L' k=ao.b0 L k)/\fJ a1 base p g cap L'/\gi base p g w a1:=⟨L',hperm,G2 _ _ _ sE.out (λk bC j8 dH=>by
       have h1:=wK.out k bC j8 dH;rw[pf]at h1 av ⊢;omega),hsame.out,wQ.out,mu.out⟩
      have bk:=I hfin;clear hfin av;go_wp2;go_ret;exact⟨Gy _,bk⟩
     | true=>
      have av:gN (ao.b0 L' (2*i+1)) (ao.b0 L' i):=by have:=eA.out;simpa using this.symm
      have b5:=I av;have vX:=EY p um cap (some ⟨g,0,none⟩) a1 c3;have vk:=Dv;have ap:=EW wQ.out i (2*i+1) (by rw[Hlen.out];omega) (by rw[Hlen.out];omega);rw[Hlen.out]at ap;have bU:=I ap;clear ap av;go_wp2_with fail
      refine bU.out.mono ?_;rintro e bA ⟨rfl,xC,vJ⟩;have CA:=I (Lu L' n i (2*i+1) (by rw[Hlen.out];omega) (by omega) (by omega) (by omega) sE.out b5.out wK.out);have C0:=I xC;have yq:=I (mu.out.trans vJ);have C1:=I ((Fj L' i (2*i+1) (by rw[Hlen.out];omega) (by rw[Hlen.out];omega)).trans hperm.out);have C5:Hid (∀k,n<=k->ao.b0 (swp (0,0) L' i (2*i+1)) k=ao.b0 L k):=I (λk hk=>by
       rw[zX L' i (2*i+1) k (by rw[Hlen.out];omega) (by rw[Hlen.out];omega),ay (by omega),ay (by omega)];exact hsame.out k hk)
      clear xC vJ vX vk bU c3;go_wp2;go_roundw
      case rel=>exact⟨(2*i+1),swp (0,0) L' i (2*i+1),by go_num,by omega,C1,C5,CA,C0,yq⟩
      case measure=>simp[intOf];omega
    | true=>
     have av:gN (ao.b0 L' (2*i+2)) (ao.b0 L' (2*i+1)):=by have:=aU.out;simpa using this.symm
     have wK:Hid (∀k,0<k->k<n->(k-1)/2=i->¬gN (ao.b0 L' k) (ao.b0 L' (2*i+2))):=I (λk bC j8 dH=>by
      obtain rfl | rfl:k=2*i+1\/k=2*i+2:=by omega
      .rw[pf]at av ⊢;omega
      .rw[pf];omega)
     clear av;have EM:=EX p um cap (some ⟨g,0,none⟩) au c1;have Dq:=Du;have eF:=EV uR.out (2*i+2) i (by rw[Hlen.out];omega) (by rw[Hlen.out];omega);rw[Hlen.out]at eF;obtain⟨dc,bS⟩:∃dc,dc=decide (gN (ao.b0 L' (2*i+2)) (ao.b0 L' i)):=⟨_,rfl⟩;rw[<-bS]at eF;have eA:=I bS;have nF:=I eF;clear bS eF;have hcast:Value.int IntKind.i64 (((2*i+2:Nat)):Int)=.int .i64 (2*(i:Int)+1+1):=by go_num
     rw[hcast]at nF;clear hcast;go_wp2_with fail
     refine nF.out.mono ?_;rintro e a1 ⟨rfl,bz⟩;have pQ:=uR.out.below bz;have mu:=I (oT.out.trans (gi.below bz (du ak oT.out.dy.size)));have c3:=pQ.cell;rw[Hlen.out]at c3;have wQ:=I pQ;clear bz pQ EM Dq c1 nF;cases dc with
     | false=>
      have av:¬gN (ao.b0 L' (2*i+2)) (ao.b0 L' i):=by have:=eA.out;simpa using this.symm
      have hfin:∃L',L'.Perm L/\k3 L' n/\(∀k,n<=k->ao.b0 L' k=ao.b0 L k)/\fJ a1 base p g cap L'/\gi base p g w a1:=⟨L',hperm,G2 _ _ _ sE.out (λk bC j8 dH=>by
       have h1:=wK.out k bC j8 dH;rw[pf]at h1 av ⊢;omega),hsame.out,wQ.out,mu.out⟩
      have bk:=I hfin;clear hfin av;go_wp2;go_ret;exact⟨Gy _,bk⟩
     | true=>
      have av:gN (ao.b0 L' (2*i+2)) (ao.b0 L' i):=by have:=eA.out;simpa using this.symm
      have b5:=I av;have vX:=EY p um cap (some ⟨g,0,none⟩) a1 c3;have vk:=Dv;have ap:=EW wQ.out i (2*i+2) (by rw[Hlen.out];omega) (by rw[Hlen.out];omega);rw[Hlen.out]at ap;have bU:=I ap;clear ap av;go_wp2_with fail
      refine bU.out.mono ?_;rintro e bA ⟨rfl,xC,vJ⟩;have CA:=I (Lu L' n i (2*i+2) (by rw[Hlen.out];omega) (by omega) (by omega) (by omega) sE.out b5.out wK.out);have C0:=I xC;have yq:=I (mu.out.trans vJ);have C1:=I ((Fj L' i (2*i+2) (by rw[Hlen.out];omega) (by rw[Hlen.out];omega)).trans hperm.out);have C5:Hid (∀k,n<=k->ao.b0 (swp (0,0) L' i (2*i+2)) k=ao.b0 L k):=I (λk hk=>by
       rw[zX L' i (2*i+2) k (by rw[Hlen.out];omega) (by rw[Hlen.out];omega),ay (by omega),ay (by omega)];exact hsame.out k hk)
      clear xC vJ vX vk bU c3;go_wp2;go_roundw
      case rel=>exact⟨(2*i+2),swp (0,0) L' i (2*i+2),by go_num,by omega,C1,C5,CA,C0,yq⟩
      case measure=>simp[intOf];omega
def oZ(w:ai)(base p:Nat)(L:List h3):Prop:=k3 L L.length/\∃g cap,fJ w base p g cap L
theorem W5(base p a q:Nat)(L:List h3)(w:ai)(ak:base<=w.heap.size)(bR:L.length<100000)(aw:oZ w base p L) :
  Calls prog 202 #[.iface 220 (.pointer (some ⟨p,0,none⟩)),.iface 223 (.agg #[.int .i64 a,.int .i64 q])] w λe w'=>e=.returned (.tuple #[])/\∃L',L'.Perm ((a,q) :: L)/\oZ w' base p L'/\kr base w w':=by
 obtain⟨hh,g,cap,cm⟩:=aw;have yw:=I (asI base p g cap a q L w ak (by omega) cm);have fB:=I hh;clear hh cm;have Ox:=anT p w;have Ly:=ahr;go_enter func202,ntmps202
 go_wp2_with fail
 refine yw.out.mono ?_;rintro e au ⟨rfl,g1,AU,lN,eu⟩;have hlen:(L++[(a,q)]).length=L.length+1:=by simp
 have c1:=lN.cell;rw[hlen]at c1;have rx:=aj2 base p g1 AU L.length (L++[(a,q)]) au (du ak eu.dy.size) (by omega) (by omega) lN (by rw[hlen];exact ajf L (a,q) fB);have pz:=I rx;have oT:=I eu;have uR:=I lN;have Ow:=Z4 p (L.length+1) AU (some ⟨g1,0,none⟩) au c1;have A0:=Un;have Hlen:Hid (∀W,Calls prog 168 #[.slice (some ⟨g1,0,none⟩) (L.length+1) AU] W λe w'=>e=.returned (.int .i64 ((L.length:Int)+1))/\W=w'):=I (λW=>by
  have h1:=I8 (some ⟨g1,0,none⟩) (L.length+1) AU W;rw[Int.natCast_add]at h1;exact h1)
 clear rx eu lN hlen Ox Ly yw fB;go_wp2_with fail
 refine(Hlen.out _).mono ?_;rintro e aB ⟨rfl,rfl⟩;clear Ow A0 c1 Hlen;go_wp2_with fail
 refine pz.out.mono ?_;rintro e aB ⟨rfl,L',j5,zb,qw,fy⟩;have hfin:∃L',L'.Perm ((a,q) :: L)/\oZ aB base p L'/\kr base w aB:=⟨L',j5.trans (perm_append_singleton _ _),⟨zb,_,_,qw⟩,oT.out.trans (fy.kept uR)⟩;have bk:=I hfin;clear hfin j5 zb qw fy pz;go_wp2;go_end0
 exact⟨rfl,bk⟩
def KO(w w':ai)(base p g cap:Nat)(L:List h3)(a q:Nat):Prop:=∃L',L.Perm ((a,q) :: L')/\(∀y∈L',¬gN y (a,q))/\k3 L' L'.length/\fJ w' base p g cap L'/\gi base p g w w'
def aeu(w w':ai)(base p:Nat)(L:List h3)(a q:Nat):Prop:=∃L',L.Perm ((a,q) :: L')/\(∀y∈L',¬gN y (a,q))/\oZ w' base p L'/\kr base w w'
theorem anU{w w':ai}{base p g cap n:Nat}{L iU:List h3}(az:L.length=n+1)(hh:k3 L L.length)(j5:iU.Perm (swp (0,0) L 0 n))(HE:k3 iU n)(eC:∀k,n<=k->ao.b0 iU k=ao.b0 (swp (0,0) L 0 n) k)(cm:fJ w' base p g cap (iU.take n))(hk:gi base p g w w') :
  iU[n]?.getD (0,0)=ao.b0 L 0/\KO w w' base p g cap L (ao.b0 L 0).1 (ao.b0 L 0).2:=by
 have Bw:=j5.trans (Fj L 0 n (by omega) (by omega));have eF:iU.length=n+1:=by rw[Bw.length_eq,az]
 have he:ao.b0 iU n=ao.b0 L 0:=by
  rw[eC n bh,zX L 0 n n (by omega) (by omega),aA rfl]
 have A9:iU=iU.take n++[ao.b0 L 0]:=by
  rw[<-he];unfold ao.b0;rw[bH (by omega),b6,<-gb (by omega),take_of_length_le (by omega)]
 have hperm:L.Perm (ao.b0 L 0 :: iU.take n):=Bw.symm.trans (by
  conv=>lhs;rw[A9]
  exact perm_append_singleton _ _)
 refine⟨he,iU.take n,hperm,λy hy=>?_,?_,cm,hk⟩
 .have oE:y∈L:=hperm.mem_iff.2 (ew _ hy);obtain⟨k,hk,rfl⟩:=List.mem_iff_getElem.1 oE;have h1:=ajd L L.length hh k hk;unfold ao.b0 at h1;rw[bH hk,b6]at h1;exact h1
 .rw[cq,Nat.min_eq_left (by omega)];exact ajg iU n HE
theorem aj1(base p g cap n:Nat)(L:List h3)(w:ai)(ak:base<=w.heap.size)(bR:L.length<=100000)(az:L.length=n+1)(hh:k3 L L.length)(cm:fJ w base p g cap L) :
  Calls prog 203 #[.iface 220 (.pointer (some ⟨p,0,none⟩))] w λe w'=>e=.returned (.iface 223 (.agg #[.int .i64 ((ao.b0 L 0).1:Int),.int .i64 ((ao.b0 L 0).2:Int)]))/\KO w w' base p g cap L (ao.b0 L 0).1 (ao.b0 L 0).2:=by
 have iZ:n<=100000:=by omega
 have fB:=I hh;have c0:=cm.cell;rw[az]at c0;have yD:=EW cm 0 n (by omega) (by omega);rw[az]at yD;have bU:=I yD;have Hlen:Hid (∀W,Calls prog 168 #[.slice (some ⟨g,0,none⟩) (n+1) cap] W λe w'=>e=.returned (.int .i64 ((n:Int)+1))/\W=w'):=I (λW=>by
  have h1:=I8 (some ⟨g,0,none⟩) (n+1) cap W;rw[Int.natCast_add]at h1;exact h1)
 have oS:=I bR;have bX:=I az;have Ow:=Z4 p (n+1) cap (some ⟨g,0,none⟩) w c0;have A0:=Un;have vX:=EY p (n+1) cap (some ⟨g,0,none⟩) w c0;have vk:=Dv;obtain⟨a,aS⟩:∃a,a=(ao.b0 L 0).1:=⟨_,rfl⟩;obtain⟨q,hq⟩:∃q,q=(ao.b0 L 0).2:=⟨_,rfl⟩;rw[<-aS,<-hq];have jp:=I aS;have iR:=I hq;clear hh cm yD az bR aS hq c0;go_enter func203,ntmps203
 go_wp2_with fail
 refine(Hlen.out _).mono ?_;rintro e aB ⟨rfl,rfl⟩;clear Ow A0 Hlen;go_wp2_with fail
 refine bU.out.mono ?_;rintro e au ⟨rfl,lN,eu⟩;have aH:=du ak eu.dy.size;have Rt:=I (ajY base p g cap n (swp (0,0) L 0 n) au aH (by rw[IZ];exact oS.out) (by rw[IZ,bX.out];omega) lN (aje L n bX.out (by have h1:=fB.out;rw[bX.out]at h1;exact h1)));have oT:=I eu;clear lN eu vX vk bU;go_wp2_with fail
 refine Rt.out.mono ?_;rintro e aB ⟨xr,iU,j5,HE,eC,qw,fy⟩;obtain⟨bD,rfl⟩:=xr;have eF:iU.length=n+1:=by rw[j5.length_eq,IZ,bX.out]
 have Av:=I (asH base p g cap n iU aB (du aH fy.dy.size) (by have:=oS.out;have:=bX.out;omega) eF qw);have rZ:=I (oT.out.trans fy);have qZ:=I j5;have uO:=I HE;have pw:=I eC;clear j5 HE eC qw fy eF Rt oT aH;have Ox:=anS p aB;have Ly:=ahq;go_wp2_with fail
 refine Av.out.mono ?_;rintro e a1 ⟨rfl,pQ,kB⟩;obtain⟨he,hfin⟩:=anU bX.out fB.out qZ.out uO.out pw.out pQ (rZ.out.trans kB);have bk:Hid (KO w a1 base p g cap L a q):=I (by rw[jp.out,iR.out];exact hfin);have fI:Hid (Value.iface 223 (.agg #[n2 (iU[n]?.getD (0,0)),n1 (iU[n]?.getD (0,0))])=.iface 223 (.agg #[.int .i64 a,.int .i64 q])):=I (by rw[he,jp.out,iR.out];rfl);rw[fI.out];clear he hfin pQ kB Av fI Ox Ly;go_wp2;go_ret;exact⟨rfl,bk⟩
theorem fJ.YD{w w':ai}{base p g cap:Nat}{L:List h3}(h:fJ w base p g cap L)(aw:w'.heap[p]?=w.heap[p]?)(aD:w'.heap[g]?=w.heap[g]?):fJ w' base p g cap L:=by
 obtain⟨post,h1,aj⟩:=h.row;exact⟨h.zJ,h.zI,h.fits,h.most,h.var.keep aw,post,h1,aj.keep aD⟩
theorem alX{w au aB:ai}{base:Nat}(hk:kr base w au)(bu:Below w.heap.size au aB)(ak:base<=w.heap.size):kr base w aB:=
 ⟨hk.dy.trans (bu.mono ak),λb t ag h1 af aj=>(hk.rows b t ag h1 af aj).keep (bu.block b aj.lt)⟩
theorem Qb(base p n:Nat)(L:List h3)(w:ai)(ak:base<=w.heap.size)(bR:L.length<=100000)(az:L.length=n+1)(aw:oZ w base p L) :
  Calls prog 169 #[.pointer (some ⟨p,0,none⟩)] w λe w'=>e=.returned (.agg #[.int .i64 ((ao.b0 L 0).1:Int),.int .i64 ((ao.b0 L 0).2:Int)])/\aeu w w' base p L (ao.b0 L 0).1 (ao.b0 L 0).2:=by
 obtain⟨hh,g,cap,cm⟩:=aw;have dA:=(Below.refl w.heap.size w).alloc bh (.cells #[.int .i64 0,.int .i64 0] 223);have i6:=cm.below dA;have Av:=I (aj1 base p g cap n L _ (du ak dA.size) bR az hh i6);have jW:=I dA;have bO:=I ak;obtain⟨a,aS⟩:∃a,a=(ao.b0 L 0).1:=⟨_,rfl⟩;obtain⟨q,hq⟩:∃q,q=(ao.b0 L 0).2:=⟨_,rfl⟩;rw[<-aS,<-hq]at Av ⊢;have XP:=λW=>abC (.agg #[.int .i64 a,.int .i64 q]) W
 have R8:=I cm.var.lt;have RE:Hid (g<w.heap.size):=I (by obtain⟨_,_,aj⟩:=cm.row;exact aj.lt);have adI:=I cm;clear hh cm dA i6 bR az aS hq;go_enter func169,ntmps169
 go_wp2_with fail
 refine Av.out.mono ?_;rintro e au ⟨rfl,nZ⟩;obtain⟨L',j5,hle,zb,lN,eu⟩:=nZ;have hrow:Row au w.heap.size 223 [.int .i64 0,.int .i64 0]:=(Row.new w 223 [.int .i64 0,.int .i64 0]).keep (eu.Gx _ (by simp) (by have:=R8.out;omega) (by have:=RE.out;omega));have bC:=hrow.cell 0;have bf:=hrow.cell 1;have f0:=hrow.free 0;have f1:=hrow.free 1;simp only[dR,dU]at bC bf;have av:=hrow.lt;have da:=I hrow;have ey:Hid (∃L',L.Perm ((a,q) :: L')/\(∀y∈L',¬gN y (a,q))/\k3 L' L'.length/\fJ au base p g cap L'/\gi base p g w au):=I ⟨L',j5,hle,zb,lN,(gi.below jW.out bO).trans eu⟩;clear j5 hle zb lN eu hrow Av;go_wp2_with fail
 have hres:Row (((au.setCell ⟨w.heap.size,0,none⟩ (.int .i64 a)).setCell ⟨w.heap.size,1,none⟩ (.int .i64 q)).alloc (.cells #[.int .i64 a,.int .i64 q] 223)) w.heap.size 223 [.int .i64 a,.int .i64 q]:=((da.out.bm 0 _).bm 1 _).alloc _;refine bodyPost_ret (results_cell_row rfl _ _ w.heap.size 223 #[.int .i64 a,.int .i64 q] (0,0) _ rfl hres underlying223 rfl (by kernel_rfl)) rfl ?_;refine⟨rfl,?_⟩;obtain⟨L',j5,hle,zb,lN,eu⟩:=ey.out;have bu:Below w.heap.size au (((au.setCell ⟨w.heap.size,0,none⟩ (.int .i64 a)).setCell ⟨w.heap.size,1,none⟩ (.int .i64 q)).alloc (.cells #[.int .i64 a,.int .i64 q] 223)):=
  ((dQ.setCell (by exact Nat.le_refl _) _).setCell (by exact Nat.le_refl _) _).alloc (by simpa [World.setCell]using Nat.le_of_lt av) _
 exact⟨L',j5,hle,⟨zb,g,cap,lN.YD (bu.block p R8) (bu.block g RE)⟩,alX (eu.kept adI) bu bO⟩
theorem ass(A:a7)(c:Nat)(ag:ae)(w:ai)(hl:ag.length<=256)(aj:Reads w A (aM ag)) :
  Calls prog 167 #[.slice A ag.length c] w λe w'=>∃p L,e=.returned (.pointer (some ⟨p,0,none⟩))/\L.Perm (fG ag)/\oZ w' w.heap.size p L/\Below w.heap.size w w':=by
 have aU:=I aj;clear aj;go_enter func167,ntmps167
 go_wp2;go_loopw [10] (λbV wr=>∃k:Nat,k<=ag.length/\bV=.int .i64 k/\Hid (∃L,L.Perm (kG ag k)/\oZ wr w.heap.size (w.heap.size+1) L)/\Hid (Below w.heap.size w wr)) (λbV _=>ag.length-(intOf bV).toNat)
 case atStart=>
  have aH:=(Below.refl w.heap.size w).alloc bh (.cells #[] 223);have aI:=aH.alloc aH.size (.cells #[.slice (some ⟨w.heap.size,0,none⟩) 0 0] 258);have gO:=(Row.new w 223 []).alloc (.cells #[.slice (some ⟨w.heap.size,0,none⟩) 0 0] 258);have dc:=Row.new (w.alloc (.cells #[] 223)) 258 [.slice (some ⟨w.heap.size,0,none⟩) 0 0];rw[show(w.alloc (.cells #[] 223)).heap.size=w.heap.size+1 by simp]at dc;exact⟨0,by omega,rfl,I ⟨[],by simp[kG],λk am hk=>by simp at hk,w.heap.size,0,⟨by omega,by omega,by simp,by unfold maxLen;omega,dc,[],rfl,gO⟩⟩,I aI⟩
 case round=>
  obtain⟨k,hk,rfl,cm,hbel⟩:=hrel;by_cases bb:k<ag.length
  .obtain⟨g,off,rfl,hc⟩:=kW (c9 aU.out hbel.out) (by omega);have c0:=hc k bb;have cb:=I (BQ ag k);rw[bH bb,b6]at cb;have kR:=BP ag k;clear hc;generalize ag[k]=x at *;by_cases ah:0<x
   .rw[aA ah]at cb;have hpush:Calls prog 202 #[.iface 220 (.pointer (some ⟨w.heap.size+1,0,none⟩)),.iface 223 (.agg #[.int .i64 x,.int .i64 k])] wr λe w'=>e=.returned (.tuple #[])/\Hid (∃L,L.Perm (kG ag (k+1))/\oZ w' w.heap.size (w.heap.size+1) L)/\Hid (Below w.heap.size w w'):=by
     obtain⟨L,j5,zr⟩:=cm.out;refine(W5 w.heap.size (w.heap.size+1) x k L wr hbel.out.size (by rw[j5.length_eq];omega) zr).mono ?_;rintro e w' ⟨rfl,L',Eg,ajZ,ajE⟩;refine⟨rfl,I ⟨L',Eg.trans ?_,ajZ⟩,I (hbel.out.trans ajE.dy)⟩;rw[cb.out];exact(j5.cons _).trans (perm_append_singleton _ _).symm
    have yw:=I hpush;clear hpush cm hbel;go_wp2_with fail
    refine yw.out.mono ?_;rintro e w' ⟨rfl,hpl',Hw⟩;go_wp2;go_roundw
    case rel=>exact⟨k+1,by omega,by go_num,hpl',Hw⟩
    case measure=>simp[intOf];omega
   .rw[ay ah,append_nil]at cb;go_wp2;go_roundw
    case rel=>exact⟨k+1,by omega,by go_num,by rw[cb.out];exact cm,hbel⟩
    case measure=>simp[intOf];omega
  .obtain rfl:k=ag.length:=by omega
   go_wp2;go_ret;obtain⟨L,j5,zr⟩:=cm.out;exact⟨_,L,rfl,j5,zr,hbel⟩
namespace ao
structure yd(A U:ae)(k:Nat):Prop where
 len:U.length=A.length
 low:∀i,i<k->bZ U i=0
 none:∀i,k<=i->i<A.length->bZ A i=0->bZ U i=0
 some:∀i,k<=i->i<A.length->bZ A i≠0->bZ U i=bZ U (bZ A i)+1
 most:∀i,i<A.length->bZ U i<=A.length-i
theorem ag0(A:ae):yd A (List.replicate A.length 0) A.length where
 len:=by simp
 low:=λi _=>zS _ _
 none:=λi _ _ _=>zS _ _
 some:=λi h1 af _=>by omega
 most:=λi _=>by rw[zS];omega
theorem agY{A U:ae}(h:yd A U 0):Jk A U:=⟨h.len,λi ax=>h.none i (by omega) ax,λi ax=>h.some i (by omega) ax,h.most⟩
theorem agZ{A U:ae}{k:Nat}(h:yd A U (k+1))(am:bZ A k=0):yd A U k:=
 ⟨h.len,λi ax=>h.low i (by omega),λi h1 af aq=>by
  by_cases e:i=k
  .subst e;exact h.low i (by omega)
  .exact h.none i (by omega) af aq,λi h1 af aq=>by
  by_cases e:i=k
  .subst e;exact absurd am aq
  .exact h.some i (by omega) af aq,h.most⟩
theorem ag1{A U:ae}{k:Nat}(hA:∀i,i<A.length->bZ A i≠0->i<bZ A i/\bZ A i<A.length)(hk:k<A.length)(h:yd A U (k+1))(am:bZ A k≠0):yd A (U.set k (bZ U (bZ A k)+1)) k:=by
 have ap:∀i,bZ (U.set k (bZ U (bZ A k)+1)) i=if i=k then bZ U (bZ A k)+1 else bZ U i:=λi=>by
  unfold bZ;rw[getElem?_set];by_cases e:k=i
  .subst e;rw[aA rfl,aA (by rw[h.len];exact hk),aA rfl,b6]
  .rw[ay e,ay (λh=>e h.symm)]
 have aid:=hA k hk am;refine⟨by rw[length_set,h.len],λi ax=>?_,λi h1 af aq=>?_,λi h1 af aq=>?_,λi ax=>?_⟩
 .rw[ap,ay (by omega)];exact h.low i (by omega)
 .rw[ap];by_cases e:i=k
  .subst e;exact absurd aq am
  .rw[ay e];exact h.none i (by omega) af aq
 .have aJ:=hA i af aq;rw[ap,ap,ay (show ¬bZ A i=k by omega)];by_cases e:i=k
  .subst e;rw[aA rfl]
  .rw[ay e];exact h.some i (by omega) af aq
 .rw[ap];split
  .next e=>
   subst e;have:=h.most (bZ A i) aid.2;omega
  .exact h.most i ax
end ao
theorem ash(A:a7)(c:Nat)(bs:ae)(w:ai)(hl:bs.length<=100000)(hA:∀i,i<bs.length->bZ bs i≠0->i<bZ bs i/\bZ bs i<bs.length)(aj:Reads w A (aM bs)) :
  Calls prog 170 #[.slice A bs.length c] w λe w'=>∃g U,e=.returned (.slice (some ⟨g,0,none⟩) bs.length bs.length)/\Row w' g 3 (aM U)/\Jk bs U/\w.heap.size<=g/\Below w.heap.size w w':=by
 obtain⟨i0,ax,bB,bK,bw⟩:=info_parts oF;have aU:=I aj;have ob:=I hA;clear aj hA;obtain⟨g0,hW⟩:∃g,g=w.heap.size:=⟨_,rfl⟩;have fA:=I hW;clear hW;go_enter func170,ntmps170
 go_wp2_with (at_make;refine wpList_make_full _ rfl _ _ 112 rfl w.heap.size 3 i0 (.int .i64 0) 1 underlying112 ax bB bK .i64 .i64 _ _ bs.length rfl rfl ?c1 ?c1 ?c2 ?c3 ?c4 ?_)
 case c1=>omega
 case c2=>first | omega | (rw[bw];omega)
 case c3=>unfold maxLen;omega
 try case c4=>exact Nat.le_refl _
 intro au hown1 aZ;have aH:=k8 aZ;have cd:=ut hown1;rw[<-fA.out]at cd ⊢;have aK:=I aH;have dx:=I cd;have Rq:=I (ag0 bs);clear hown1 aZ aH cd ax bB bK bw;go_wp2;go_loopw [4] (λbV wr=>∃(k:Nat) (U:ae),k<=bs.length/\bV=.int .i64 ((k:Int)-1)/\Hid (yd bs U k)/\Hid (Row wr g0 3 (aM U))/\Hid (Below w.heap.size w wr)) (λbV _=>(intOf bV+1).toNat)
 case atStart=>exact⟨bs.length,_,by omega,by go_num,Rq,dx,aK⟩
 case round=>
  obtain⟨k,U,hk,rfl,aG,hrow,hbel⟩:=hrel;clear dx aK Rq;by_cases am:0<k
  .obtain⟨j,rfl⟩:∃j,k=j+1:=⟨k-1,by omega⟩;have fr:j<bs.length:=by omega
   obtain⟨g,off,rfl,hc⟩:=kW (c9 aU.out hbel.out) (by omega);have c0:=hc j fr;have Wb:bZ bs j=bs[j]:=by unfold bZ;rw[bH fr,b6]
   have FG:=I (ob.out j fr);have wX:=I (agZ aG);have cb:=I (ag1 ob.out fr aG);rw[Wb]at FG wX cb;clear hc;have iE:U.length=bs.length:=aG.out.len;have WL:=λ(h:bs[j]<bs.length)=>aG.out.most bs[j] h
   have Ke:=I WL;clear WL Wb;generalize bs[j]=x at *;rw[show((j+1:Nat):Int)-1=j by omega];by_cases ah:x=0
   .subst ah;have hS:=I (wX.out rfl);clear cb FG Ke;go_wp2;go_roundw
    case rel=>exact⟨j,U,by omega,by go_num,hS,hrow,hbel⟩
    case measure=>simp[intOf]
   .obtain⟨ie,a2⟩:=FG.out ah;have hm:=Ke.out a2;have hS:=I (cb.out ah);have kF:x<U.length:=by omega
    have bC:wr.cell? ⟨g0,x,none⟩=some (.int .i64 (bZ U x)):=by
     unfold bZ;rw[hrow.out.cell,ja U x kF,bH kF,b6]
    have bf:wr.cell? ⟨g0,j,none⟩=some (.int .i64 (U[j]'(by omega):Int)):=by
     rw[hrow.out.cell,ja U j (by omega)]
    have f1:wr.frozen? ⟨g0,j,none⟩=false:=hrow.out.free j;have hrow2:Row (wr.setCell ⟨g0,j,none⟩ (.int .i64 ((bZ U x:Int)+1))) g0 3 (aM (U.set j (bZ U x+1))):=by
     have h1:=hrow.out.bm j (.int .i64 ((bZ U x:Int)+1));rw[show aM (U.set j (bZ U x+1))=(aM U).set j (.int .i64 ((bZ U x:Int)+1)) by simp[aM,map_set]];exact h1
    have gh:=I hrow2;have rU:=I (hbel.out.setCell (p:=⟨g0,j,none⟩) (by rw[fA.out];exact Nat.le_refl _) (.int .i64 ((bZ U x:Int)+1)));clear hrow2 wX cb FG Ke hrow hbel;have nw:0<x:=by omega
    clear ah;generalize bZ U x=y at *;generalize U[j]'(by omega)=z at bf;go_wp2;go_roundw
    case rel=>exact⟨j,_,by omega,by go_num,hS,gh,rU⟩
    case measure=>simp[intOf]
  .obtain rfl:k=0:=by omega
   have wG:=I (agY aG);go_wp2;go_ret;exact⟨g0,U,rfl,hrow.out,wG.out,by rw[fA.out];exact Nat.le_refl _,hbel⟩
def aaV:Value->Nat
 | .slice _ n _=>n
 | _=>0
theorem jL.kept{w w':ai}{base bD g off cap:Nat}{l:ae}(h:jL w base g off cap l)(hk:kr bD w w'):jL w' base g off cap l:=by
 obtain⟨h1,af,pre,post,aq,aJ,aR⟩:=h;exact⟨h1,af,pre,post,aq,aJ,hk.rows _ _ _ (by decide) (by decide) aR⟩
theorem jL.own{w:ai}{base g cap:Nat}{l:ae}(h:jL w base g 0 cap l):w.ownsRow base 3 1 (.slice (some ⟨g,0,none⟩) l.length cap) l.length (aM l):=by
 obtain⟨h1,af,pre,post,aq,aJ,aR⟩:=h;obtain rfl:pre=[]:=lq aq;have hl:=gw l;refine⟨by omega,.inr ⟨g,cap,(aM l++post).toArray,rfl,h1,aR,by omega,af,?_,?_⟩⟩
 .rw[List.size_toArray,aY];omega
 .rw[List.toList_toArray,take_left' (by omega)]
theorem jL.reads{w:ai}{base g cap:Nat}{l:ae}(h:jL w base g 0 cap l):Reads w (some ⟨g,0,none⟩) (aM l):=λ_=>
 ⟨g,0,rfl,λj ar=>by
  rw[gw]at ar;have h1:=h.cell j ar;rw[ja l j ar];exact h1⟩
structure KL(base:Nat)(w wr:ai)(p g cap:Nat)(ag A:ae)(L:List h3)(C:Nat):Prop where
 aaM:jL wr base g 0 cap A
 pile:oZ wr base p L
 sums:uY ag A L C
 dy:Below base w wr
theorem ak2{ag A:ae}{L R:List h3}{C iN a iv b:Nat}(h:uY ag A L C)(aw:L.Perm ((iN,a) :: (iv,b) :: R))(hm:(fz ag).sum<=1000000000):a<A.length/\b<A.length/\iN+iv<=1000000000:=by
 refine⟨(h.free (iN,a) (aw.mem_iff.2 (by simp))).1,(h.free (iv,b) (aw.mem_iff.2 (by simp))).1,?_⟩;have:=h.total;rw[(aw.map _).sum_nat]at this;simp only[map_cons,sum_cons]at this;omega
theorem ak4{ag A:ae}{L:List h3}{C:Nat}(h:uY ag A L C)(hl:ag.length<=256)(bR:1<=L.length):A.length<=511/\L.length<=256:=by
 have h1:=h.count;have af:=BP ag ag.length;have aq:=h.len;unfold fG at h1;omega
theorem oZ.cG{w w':ai}{base p g:Nat}{L:List h3}{ag:b3}(h:oZ w base p L)(aj:Row w g 3 ag)(aD:w.grownBy w' (some g)):oZ w' base p L:=by
 obtain⟨hh,fd,cap',cm⟩:=h;obtain⟨post,hl,hrow⟩:=cm.row;refine⟨hh,fd,cap',cm.YD (aD.block p cm.var.lt (λe=>?_)) (aD.block fd hrow.lt (λe=>?_))⟩
 .injection e with e
  subst e;have aE:=cm.var;unfold Row at aE aj;rw[aj]at aE;injection aE with aE
  injection aE with _ e
  exact absurd e (by decide)
 .injection e with e
  subst e;unfold Row at hrow aj;rw[aj]at hrow;injection hrow with hrow
  injection hrow with _ e
  exact absurd e (by decide)
theorem jL.row{w:ai}{base g off cap:Nat}{l:ae}(h:jL w base g off cap l):∃ag,Row w g 3 ag/\base<=g:=by
 obtain⟨h1,_,pre,post,_,_,aR⟩:=h;exact⟨_,aR,h1⟩
theorem asl(base p:Nat)(ag:ae)(L:List h3)(w:ai)(ak:base<=w.heap.size)(hl:ag.length<=256)(hm:(fz ag).sum<=1000000000)(bR:L.Perm (fG ag))(af:2<=L.length)(aw:oZ w base p L) :
  Calls prog 171 #[.pointer (some ⟨p,0,none⟩),.int .i64 (ag.length:Int)] w λe w'=>∃g A c t C,e=.returned (.slice (some ⟨g,0,none⟩) A.length c)/\Reads w' (some ⟨g,0,none⟩) (aM A)/\uY ag A [t] C/\A.length<=512/\Below base w w':=by
 obtain⟨i0,ax,bB,bK,bw⟩:=info_parts oF;have lk:2<=ag.length:=by
  have:=bR.length_eq;have aq:=BP ag ag.length;unfold fG at this;omega
 have oS:=I bR;have gF:=I aw;clear bR aw;go_enter func171,ntmps171
 go_wp2_with (at_make;refine wpList_make_full _ rfl _ _ 112 rfl w.heap.size 3 i0 (.int .i64 0) 1 underlying112 ax bB bK .i64 .i64 _ _ ag.length rfl rfl ?c1 ?c1 ?c2 ?c3 ?c4 ?_)
 case c1=>omega
 case c2=>first | omega | (rw[bw];omega)
 case c3=>unfold maxLen;omega
 try case c4=>exact Nat.le_refl _
 intro au hown1 aZ;have aH:=k8 aZ;have fT:=ut hown1;have hstart:KL base w au p w.heap.size ag.length ag (List.replicate ag.length 0) L 0:=by
  obtain⟨hh,g,cap,cm⟩:=gF.out;exact⟨⟨ak,by unfold maxLen;omega,[],[],rfl,by simp,by simpa using fT⟩,⟨hh,g,cap,cm.below aH⟩,ak5 ag L oS.out,aH.mono ak⟩
 have Sq:=I hstart;clear hown1 aZ aH fT hstart;go_wp2;go_loopw [5] (λjh wr=>∃(A:ae) (L:List h3) (C g cap:Nat),jh=.slice (some ⟨g,0,none⟩) A.length cap/\1<=L.length/\Hid (KL base w wr p g cap ag A L C)) (λjh _=>600-aaV jh)
 case atStart=>exact⟨_,L,0,w.heap.size,ag.length,by simp,by omega,Sq⟩
 case round=>
  obtain⟨A,L,C,g,cap,rfl,L7,ar⟩:=hrel;clear Sq gF oS;obtain⟨bI,hsz2⟩:=ak4 ar.out.sums hl L7;have auA:ag.length<=A.length:=ar.out.sums.len;obtain⟨c0,h7⟩:∃v,wr.cell? ⟨p,0,none⟩=some v/\∃fd cap',v=.slice (some ⟨fd,0,none⟩) L.length cap':=by
   obtain⟨hh,fd,cap',cm⟩:=ar.out.pile;exact⟨_,cm.cell,fd,cap',rfl⟩
  obtain⟨h7,vn,vd,rfl⟩:=h7;have Hlen:=I (λW=>I8 (some ⟨vn,0,none⟩) L.length vd W);by_cases h1:L.length=1
  .obtain⟨t,rfl⟩:=List.length_eq_one_iff.1 h1;have hfin:Reads wr (some ⟨g,0,none⟩) (aM A)/\uY ag A [t] C/\Below base w wr:=⟨ar.out.aaM.reads,ar.out.sums,ar.out.dy⟩;have bk:=I hfin;clear hfin ar L7 h1;go_wp2_with fail
   refine(Hlen.out _).mono ?_;rintro e aB ⟨rfl,rfl⟩;go_wp2;go_ret;exact⟨g,A,cap,t,C,rfl,bk.out.1,bk.out.2.1,by omega,bk.out.2.2⟩
  .obtain⟨n,az⟩:∃n,L.length=n+1+1:=⟨L.length-2,by omega⟩;have vy:=du ak ar.out.dy.size;have qW:=I (Qb base p (n+1) L wr vy (by omega) az ar.out.pile);obtain⟨iN,X8⟩:∃x,x=(ao.b0 L 0).1:=⟨_,rfl⟩;obtain⟨a,aS⟩:∃x,x=(ao.b0 L 0).2:=⟨_,rfl⟩;rw[<-X8,<-aS]at qW;clear X8 aS;have RN:Hid (∀W,Calls prog 168 #[.slice (some ⟨vn,0,none⟩) (n+1+1) vd] W λe w'=>e=.returned (.int .i64 ((n:Int)+1+1))/\W=w'):=I (λW=>by
    have aR:=Hlen.out W;rw[az]at aR;exact aR)
   rw[az]at h7 hsz2;have bX:Hid (L.length=n+1+1):=I az;clear az h1 L7 Hlen;go_wp2_with fail
   refine(RN.out _).mono ?_;rintro e aB ⟨rfl,rfl⟩;clear RN h7;go_wp2_with fail
   refine qW.out.mono ?_;rintro e au ⟨rfl,k4,Nj,hle1,WX,eu⟩;have iZ:k4.length=n+1:=by have:=Nj.length_eq;rw[bX.out,b1]at this;omega
   have Kd:=I (Qb base p n k4 au (du vy eu.dy.size) (by omega) iZ WX);have WK:ao.b0 k4 0∈k4:=by
    unfold ao.b0;rw[bH (by omega),b6];exact b7 _
   have Ms:=hle1 _ WK;have adq:=I hle1;have R9:=I Nj;have oT:=I eu;obtain⟨iv,xL⟩:∃x,x=(ao.b0 k4 0).1:=⟨_,rfl⟩;obtain⟨b,h6⟩:∃x,x=(ao.b0 k4 0).2:=⟨_,rfl⟩;have nl:iN<=iv:=by
    rw[pf,<-xL]at Ms;simp only at Ms;omega
   rw[<-xL,<-h6]at Kd;clear hle1 Nj eu WX WK Ms xL h6 qW;go_wp2_with fail
   refine Kd.out.mono ?_;rintro e aB ⟨rfl,R,Bw,hle2,Ef,fy⟩;have qZ:Hid (L.Perm ((iN,a) :: (iv,b) :: R)):=I (R9.out.trans (Bw.cons _));have adr:Hid (∀y∈R,iv<=y.1):=I (λy hy=>by
    have:=hle2 y hy;rw[pf]at this;simp only at this;omega)
   have rZ:=I (oT.out.trans fy);have R6:=I Ef;obtain⟨ba,iW,mG⟩:=ak2 ar.out.sums qZ.out hm;have dO:Hid (R.length=n):=I (by have:=Bw.length_eq;rw[iZ,b1]at this;omega);clear Bw hle2 Ef fy Kd adq R9 oT iZ;have XB:=ar.out.aaM.kept rZ.out;have Kx:=I XB;have hbw2:base<=aB.heap.size:=du vy rZ.out.dy.size;clear XB;go_wp2_with fail
   obtain⟨a1,kT⟩:∃a1,a1=(aB.alloc (.cells #[.int .i64 iN,.int .i64 a] 223)).alloc (.cells #[.int .i64 iv,.int .i64 b] 223):=⟨_,rfl⟩;have bz:Below aB.heap.size aB a1:=by
    rw[kT];exact(dQ.alloc bh _).alloc (by simp) _
   have oz:Row a1 aB.heap.size 223 [.int .i64 iN,.int .i64 a]:=by
    rw[kT];exact(Row.new aB 223 [.int .i64 iN,.int .i64 a]).alloc _
   have zv:Row a1 (aB.heap.size+1) 223 [.int .i64 iv,.int .i64 b]:=by
    have aR:=Row.new (aB.alloc (.cells #[.int .i64 iN,.int .i64 a] 223)) 223 [.int .i64 iv,.int .i64 b];rw[show(aB.alloc (.cells #[.int .i64 iN,.int .i64 a] 223)).heap.size=aB.heap.size+1 by simp,<-kT]at aR;exact aR
   have zD:=Kx.out.below bz;have WY:oZ a1 base p R:=by
    obtain⟨hh,fd,cap',cm⟩:=R6.out;exact⟨hh,fd,cap',cm.below bz⟩
   have mu:=I (rZ.out.trans (kr.below bz hbw2));rw[<-kT];have jQ:g<aB.heap.size:=Kx.out.lt;generalize aB.heap.size=E2 at *;have e0:=oz.cell 0;have aF:=oz.cell 1;have e2:=zv.cell 0;have e3:=zv.cell 1;simp only[dR,dU]at e0 aF e2 e3;have bC:=zD.cell a ba;have bf:=zD.cell b iW;rw[eH]at bC bf;have f0:=zD.free a;have f1:=zD.free b;obtain⟨v1,uj⟩:=cell?_setCell_some (w:=a1) (p:=⟨g,a,none⟩) (x:=.int .i64 (A.length:Int)) (q:=⟨g,b,none⟩) bf;have NA:=(zD.set a ba A.length).set b (by simpa using iW) A.length;rw[eH,eH]at NA;obtain⟨bA,Ez⟩:∃bA,bA=((a1.setCell ⟨g,a,none⟩ (.int .i64 (A.length:Int))).setCell ⟨g,b,none⟩ (.int .i64 (A.length:Int))).drew:=⟨_,rfl⟩;have cA:a1.grownBy bA (some g):=by
    rw[Ez];exact nR (hz (hz (dl a1 (some g)) _ _) _ _)
   have XC:jL bA base g 0 cap ((A.set a A.length).set b A.length):=by rw[Ez];exact NA
   have So:=I XC;have gQ:=I cA;have q2:=I oz;have Sd:=I zv;have adH:=I WY;have adZ:=I zD;have SH:=I Ez;clear kT bz oz zv zD WY NA XC cA Ez Kx R6 rZ;go_region
   all_goals rw[show((a1.setCell ⟨g,a,none⟩ (.int .i64 (A.length:Int))).setCell ⟨g,b,none⟩ (.int .i64 (A.length:Int))).drew=bA from SH.out.symm]
   all_goals clear SH e0 aF e2 e3 bC bf f0 f1 uj
   have sM:bA.ownsRow base 3 1 (.slice (some ⟨g,0,none⟩) A.length cap) A.length (aM ((A.set a A.length).set b A.length)):=by
    have aR:=So.out.own;rw[length_set,length_set]at aR;exact aR
   have wO:=I sM;have a8:base<=bA.heap.size:=du vy (du mu.out.dy.size gQ.out.size);clear sM;go_wp2_with (at_builtin;refine wpList_append_own _ rfl _ _ 112 rfl base 3 i0 (.int .i64 0) 1 8 underlying112 ax bB bK bw rfl (by decide) _ _ _ rfl (wO.out.alloc _) ⟨bA.heap.size,0,none⟩ 1 1 [.int .i64 0] rfl rfl ?d1 ?d2 ?d3 ?d4 ?d5 ?_)
   case d1=>
    intro j u ar;match j,ar with
    | 0,ar=>simp at ar;subst ar;simp[Addr.add]
   case d2=>intro u hu;simp at hu;subst hu;rfl
   case d3=>unfold maxLen;omega
   case d4=>omega
   case d5=>simp;omega
   intro gZ dt di dn _;obtain⟨_,gK,iB,rfl,XD⟩:=aqx (l:=(A.set a A.length).set b A.length++[0]) (by rw[<-EC];exact di) (by omega);have ub:bA.grownBy (bA.alloc (.cells #[.int .i64 0] 3)) (some g):=iD (dl _ _) _;have V8:a1.grownBy dt (some g):=(gQ.out.trans ub).trans dn;have CH:=I V8;have ad0:=I XD;clear di dn ub V8 XD wO So gQ;obtain⟨awM,Xn,Bg⟩:=adZ.out.row;have WZ:=adH.out.cG Xn CH.out;have oz:Row dt E2 223 [.int .i64 iN,.int .i64 a]:=q2.out.keep (CH.out.block _ q2.out.lt (λe=>by injection e with e;omega));have zv:Row dt (E2+1) 223 [.int .i64 iv,.int .i64 b]:=Sd.out.keep (CH.out.block _ Sd.out.lt (λe=>by injection e with e;omega));have e0:=oz.cell 0;have aF:=zv.cell 0;simp only[dR]at e0 aF;have fZ:base<=dt.heap.size:=du vy (du mu.out.dy.size CH.out.size);have hpush:=W5 base p (iN+iv) A.length R dt fZ (by rw[dO.out];omega) WZ;rw[Int.natCast_add]at hpush;have yw:=I hpush;have nE:=I ((ar.out.dy.trans mu.out.dy).trans (below_grown CH.out Bg (du vy mu.out.dy.size)));clear Xn WZ oz zv hpush Bg a8;go_wp2_with fail
   refine yw.out.mono ?_;rintro e oQ ⟨rfl,L',Eg,W0,MV⟩;have hfin:KL base w oQ p gK iB ag ((A.set a A.length).set b A.length++[0]) L' (C+(iN+iv)):=
    ⟨ad0.out.kept MV,W0,ao.join_step ar.out.sums qZ.out nl adr.out (by omega) Eg,nE.out.trans MV.dy⟩
   have ey:=I hfin;have ail:1<=L'.length:=by rw[Eg.length_eq,b1];omega
   clear hfin Eg W0 MV yw e0 aF;go_wp2;go_roundw
   case rel=>exact⟨_,L',_,gK,iB,by simp,ail,ey⟩
   case measure=>simp[aaV];omega
namespace ao
theorem anZ(ag:ae)(M:Nat)(h:∀x∈ag,x<=M):(fz ag).sum<=M*ag.length:=by
 have h1:(fz ag).sum<=M*(fz ag).length:=by
  have:∀L:ae,(∀x∈L,x<=M)->L.sum<=M*L.length:=λL=>by
   induction L with
   | nil=>simp
   | cons a L ih=>
    intro bR;have:=ih (λx ah=>bR x (by simp[ah]));have:=bR a (by simp);rw[sum_cons,b1,mul_succ];omega
  exact this _ (λx ah=>h x (anX ag x ah).1)
 exact du h1 (mul_le_mul_left M (Z5 ag))
theorem Ou(ag:ae)(h:∃x∈ag,0<x):1<=(fG ag).length:=by
 have:=anY ag h;rw[<-xR,cQ]at this;exact this
end ao
theorem ahB(x y:Value)(W:ai):(Instr.field 223 (.agg #[x,y]) 1).run prog W=.ok y W:=by kernel_rfl
theorem asR(A:a7)(c:Nat)(ag:ae)(w:ai)(hl:ag.length<=256)(hm:∀x∈ag,x<=1048576)(ap:∃x∈ag,0<x)(aj:Reads w A (aM ag)) :
  Calls prog 137 #[.slice A ag.length c] w λe w'=>∃g U,e=.returned (.slice (some ⟨g,0,none⟩) ag.length ag.length)/\Reads w' (some ⟨g,0,none⟩) (aM U)/\yL ag U/\Below w.heap.size w w':=by
 obtain⟨i0,ax,bB,bK,bw⟩:=info_parts oF;have wM:=I (ass A c ag w hl aj);have hsum:(fz ag).sum<=1000000000:=by
  have:=anZ ag 1048576 hm;omega
 have h1:=Ou ag ap;have auu:(fG ag).length<=256:=du (BP ag ag.length) hl;clear aj hm ap;go_enter func137,ntmps137
 go_wp2_with fail
 refine wM.out.mono ?_;rintro e au ⟨p,L,rfl,j5,zr,aH⟩;have DH:L.length=(fG ag).length:=j5.length_eq;obtain⟨v0,h7,vn,vd,Ey⟩:∃v,au.cell? ⟨p,0,none⟩=some v/\∃fd cap',v=.slice (some ⟨fd,0,none⟩) L.length cap':=by
  obtain⟨hh,fd,cap',cm⟩:=zr;exact⟨_,cm.cell,fd,cap',rfl⟩
 subst Ey;have Hlen:=I (λW=>I8 (some ⟨vn,0,none⟩) L.length vd W);have aK:=I aH;have qZ:=I j5;have CZ:=I zr;have jB:=aH.size;clear aH j5 zr wM;by_cases hone:L.length=1
 .obtain⟨t,rfl⟩:=List.length_eq_one_iff.1 hone;obtain⟨qk,cH⟩:=t;have zo:fG ag=[(qk,cH)]:=List.perm_singleton.1 qZ.out.symm;have oX:=I (abY zo hl);have MQ:cH<ag.length:=((pV ag ag.length (qk,cH)).1 (show(qk,cH)∈fG ag by rw[zo];simp)).1;clear hone zo DH;simp only[b1,length_nil]at h7 Hlen;go_wp2_with fail
  refine(Hlen.out _).mono ?_;rintro e aB ⟨rfl,rfl⟩;clear Hlen h7;go_wp2_with (at_make;refine wpList_make_full _ rfl _ _ 112 rfl au.heap.size 3 i0 (.int .i64 0) 1 underlying112 ax bB bK .i64 .i64 _ _ ag.length rfl rfl ?c1 ?c1 ?c2 ?c3 ?c4 ?_)
  case c1=>omega
  case c2=>first | omega | (rw[bw];omega)
  case c3=>unfold maxLen;omega
  try case c4=>exact Nat.le_refl _
  intro aB hown1 aZ;have aI:=k8 aZ;have hrow2:=ut hown1;have gT:au.heap.size<aB.heap.size:=hrow2.lt;have Ef:oZ aB w.heap.size p [(qk,cH)]:=by
   obtain⟨hh,fd,cap',cm⟩:=CZ.out;exact⟨hh,fd,cap',cm.below aI⟩
  have qW:=I (Qb w.heap.size p 0 [(qk,cH)] aB (by omega) (by simp) rfl Ef);have aV:=I (aK.out.trans (aI.mono jB));have gh:=I hrow2;clear hown1 aZ aI hrow2 Ef;go_wp2_with fail
  refine qW.out.mono ?_;rintro e a1 ⟨rfl,L',_,_,_,kB⟩;have hrow3:=kB.rows _ _ _ (by decide) (by decide) gh.out;have hcell:a1.cell? ⟨au.heap.size,cH,none⟩=some (.int .i64 0):=by
   rw[hrow3.cell,ja _ _ (by simpa using MQ)];simp
  have hfree:a1.frozen? ⟨au.heap.size,cH,none⟩=false:=hrow3.free cH;have hrow4:Row (a1.setCell ⟨au.heap.size,cH,none⟩ (.int .i64 1)) au.heap.size 3 (aM ((List.replicate ag.length 0).set cH 1)):=by
   have aR:=hrow3.bm cH (.int .i64 1);rw[show aM ((List.replicate ag.length 0).set cH 1)=(aM (List.replicate ag.length 0)).set cH (.int .i64 1) by simp only[aM,map_set];rfl];exact aR
  have r3:=I hrow4;have cx:=I ((aV.out.trans kB.dy).setCell (p:=⟨au.heap.size,cH,none⟩) (by exact jB) (.int .i64 1));have eC:ao.b0 [(qk,cH)] 0=(qk,cH):=rfl;rw[eC];clear hrow3 hrow4 kB qW gh eC;have avv:=λW=>ahB (.int .i64 qk) (.int .i64 cH) W
  go_wp2;go_ret;refine⟨au.heap.size,_,rfl,?_,oX,cx⟩;intro _;exact⟨au.heap.size,0,rfl,λj ar=>by rw[eH];exact r3.out.cell j⟩
 .have af:2<=L.length:=by omega
  have RH:=I (asl w.heap.size p ag L au jB hl hsum qZ.out af CZ);have ah6:2<=(fG ag).length:=by omega
  have aX:((L.length:Int) == 1)=false:=cz
  clear DH;go_wp2_with fail
  refine(Hlen.out _).mono ?_;rintro e aB ⟨rfl,rfl⟩;clear Hlen h7;go_wp2_with fail
  refine RH.out.mono ?_;rintro e aB ⟨g,bs,cap,t,C,rfl,bp,Bn,cr,aI⟩;have avS:=Bn.len;have Rs:=I (ash (some ⟨g,0,none⟩) cap bs aB (by omega) Bn.above bp);have adi:=I Bn;have aV:=I (aK.out.trans aI);clear bp Bn aI RH;go_wp2_with fail
  refine Rs.out.mono ?_;rintro e a1 ⟨g3,U,rfl,hrow3,sE,cs,bz⟩;have oX:=I (ak3 adi.out sE ah6 hl cr);have iE:=sE.len;have pR:Reads a1 (some ⟨g3,0,none⟩) (aM (U.take ag.length)):=λ_=>⟨g3,0,rfl,λj ar=>by
   rw[gw,cq]at ar;rw[eH,hrow3.cell,ja U j (by omega),ja (U.take ag.length) j (by rw[cq];exact ar),getElem_take]⟩
  have F7:=I pR;have bE:=b9 aV bz;clear hrow3 sE bz pR iE Rs;go_wp2;go_ret;exact⟨g3,_,rfl,F7,oX,bE⟩
theorem asp(A:a7)(c:Nat)(l:List Int)(w:ai)(hl:l.length<=maxLen)(aj:Reads w A (gL l))(cS:¬ao.Right l) :
  Calls prog 106 #[.slice A l.length c] w λe w'=>e=.returned (.tuple #[.slice none 0 0,.bool false])/\w=w':=by
 have kD:=Zu A c l w hl aj;rw[show rD l=false from bF cS]at kD;have iy:=I kD;clear kD cS aj;go_enter func106,ntmps106
 go_wp2_with fail
 refine iy.out.mono ?_;rintro e w' ⟨rfl,rfl⟩;go_wp2;go_ret2;exact⟨rfl,rfl⟩
def w6(w w':ai)(ag:ae)(v:Value):Prop:=∃B d U,v=.slice B ag.length d/\ag.length<=d/\Reads w' B (aM U)/\uE ag U/\Below w.heap.size w w'
theorem ast{ag U:ae}(h:yL ag U)(dV:∀x∈U,x<=11):uE ag U:=⟨h.len,h.whole dV,h.just,by rw[h.cost];exact Nat.le_max_right _ _⟩
theorem asq(A:a7)(c:Nat)(ag:ae)(w:ai)(hl:ag.length<=256)(hm:∀x∈ag,x<=1048576)(ap:∃x∈ag,0<x)(aj:Reads w A (aM ag))(kD:Calls prog 136 #[.slice A ag.length c] w λe w'=>e=.returned (.bool true)/\w=w')
  (bu:∀U,yL ag U->(∀x∈U,x<=11)\/(∀W,Below w.heap.size w W->Calls prog 139 #[.slice A ag.length c] W λe w'=>∃v,e=.returned v/\w6 W w' ag v)) :
  Calls prog 106 #[.slice A ag.length c] w λe w'=>∃v,e=.returned (.tuple #[v,.bool true])/\w6 w w' ag v:=by
 have iy:=I kD;have oX:=I (asR A c ag w hl hm ap aj);have dN:=I bu;clear kD hm ap aj bu;go_enter func106,ntmps106
 go_wp2_with fail
 refine iy.out.mono ?_;rintro e w' ⟨rfl,rfl⟩;clear iy;go_wp2_with fail
 refine oX.out.mono ?_;rintro e au ⟨g,U,rfl,bp,Ex,ak⟩;have iE:=Ex.len;have hmay:=Qc (some ⟨g,0,none⟩) ag.length (U.map λn:Nat=>(n:Int)) au (by rw[cQ];omega) (by rw[jT];exact bp);rw[cQ,iE]at hmay;have hiff:oY (U.map λn:Nat=>(n:Int))↔∀x∈U,x<=11:=by
  unfold oY;constructor
  .intro h x ah;have:=h.2 (x:Int) (List.mem_map.2 ⟨x,ah,rfl⟩);omega
  .intro h;refine⟨by rw[cQ];omega,λz aO=>?_⟩;obtain⟨x,ah,rfl⟩:=List.mem_map.1 aO;have:=h x ah;omega
 by_cases dV:∀x∈U,x<=11
 .rw[bG (hiff.2 dV)]at hmay;have CN:=I hmay;have hfin:w6 w au ag (.slice (some ⟨g,0,none⟩) ag.length ag.length):=⟨_,_,U,rfl,Nat.le_refl _,bp,ast Ex dV,ak⟩;have bk:=I hfin;clear hmay hiff dV bp Ex ak iE oX dN hfin;go_wp2_with fail
  refine CN.out.mono ?_;rintro e w' ⟨rfl,rfl⟩;clear CN;go_wp2;go_ret2;exact⟨_,rfl,bk⟩
 .rw[bF (λh=>dV (hiff.1 h))]at hmay;have CN:=I hmay;have wB:=I ((dN.out U Ex).resolve_left dV au ak);have bO:=I ak;clear hmay hiff dV bp Ex ak iE oX dN;go_wp2_with fail
  refine CN.out.mono ?_;rintro e w' ⟨rfl,rfl⟩;clear CN;go_wp2_with fail
  refine wB.out.mono ?_;rintro e aB ⟨v,rfl,D9⟩;have hfin:w6 w aB ag v:=by
   obtain⟨B,d,amf,h1,af,aq,aJ,aR⟩:=D9;exact⟨B,d,amf,h1,af,aq,aJ,bO.out.trans (aR.mono bO.out.size)⟩
  have bk:=I hfin;clear hfin D9 wB;go_wp2;go_ret2;exact⟨_,rfl,bk⟩
theorem asm(D:ae->Prop)(A:a7)(c:Nat)(l:List Int)(w:ai)(hl:l.length<=maxLen)(aj:Reads w A (gL l))(cS:ao.Right l)(cR:D (l.map Int.toNat))
  (bu:∀(ag U:ae) (W:ai),D ag->ag.length<=256->(∀x∈ag,x<=1048576)->(∃x∈ag,0<x)->Reads W A (aM ag)->yL ag U->(∀x∈U,x<=11)\/(Calls prog 139 #[.slice A ag.length c] W λe w'=>∃v,e=.returned v/\w6 W w' ag v)) :
  Calls prog 106 #[.slice A l.length c] w λe w'=>∃v,e=.returned (.tuple #[v,.bool true])/\w6 w w' (l.map Int.toNat) v:=by
 have kD:=Zu A c l w hl aj;rw[show rD l=true from bG cS]at kD;obtain⟨aF,bf,b4⟩:=apD l cS;have tS:=cS.1;have hex:∃x∈l.map Int.toNat,0<x:=by
  obtain⟨x,ah,am⟩:=cS.2.2;exact⟨x.toNat,List.mem_map.2 ⟨x,ah,rfl⟩,by omega⟩
 have bS:Reads w A (aM (l.map Int.toNat)):=by rw[<-jT,<-aF];exact aj
 have h:=asq A c (l.map Int.toNat) w (by omega) bf hex bS (by rw[b4];exact kD) (λU hu=>by
  by_cases dV:∀x∈U,x<=11
  .exact .inl dV
  .exact .inr (λW bg=>((bu (l.map Int.toNat) U W cR (by omega) bf hex (c9 bS bg) hu).resolve_left dV)))
 rw[b4]at h;exact h
namespace ao
def mR:ae->Nat
 | []=>0
 | x :: l=>x+16*mR l
theorem Zn:∀(l:ae) (x:Nat),mR (l++[x])=mR l+x*16^l.length
 | [],x=>by simp[mR]
 | y :: l,x=>by
  rw[cons_append,mR,Zn l x,mR,b1,ej,Nat.mul_add,<-Nat.mul_assoc 16 x,eQ 16 x,Nat.mul_assoc x 16,eQ 16 (16^l.length)];omega
theorem OI:∀(l:ae) (_:∀x∈l,x<16) (j:Nat),mR l/16^j%16=l[j]?.getD 0
 | [],_,j=>by simp[mR]
 | x :: l,h,0=>by
  have:=h x ea;rw[mR,dR,b6,Nat.pow_zero];omega
 | x :: l,h,j+1=>by
  have am:=h x ea;rw[mR,dU,<-OI l (λy hy=>h y (ew _ hy)) j,ej,eQ (16^j),<-km,show(x+16*mR l)/16=mR l by omega]
theorem an2(k:Nat):256^k=16^(2*k):=by rw[Nat.pow_mul]
theorem arJ(l:ae)(h:∀x∈l,x<16)(am:0<l.length)(af:l.length<=256):bytesOf (l.length-1+mR l*2^8) ((8+4*l.length+7)/8)=gY l:=by
 apply ext_getElem
 .rw[bytesOf_length,x1];omega
 .intro i aq aJ;rw[x1]at aJ;rw[yO];cases i with
  | zero=>
   simp only[gY,getElem_cons_zero,Nat.pow_zero];omega
  | succ k=>
   simp only[gY,getElem_cons_succ,getElem_map,getElem_range];rw[ej 256 k,eQ (256^k),<-km,show(l.length-1+mR l*2^8)/256=mR l by omega,an2];unfold lS;rw[<-OI l h (2*k),<-OI l h (2*k+1),ej,<-km];omega
theorem amO(l:ae)(k:Nat)(hk:k<l.length)(h:l[k]<16)(M:Nat):M+mR (l.take k)*2^8+l[k]%2^4*2^(8+4*k)=M+mR (l.take (k+1))*2^8:=by
 have hl:(l.take k).length=k:=by rw[cq];omega
 rw[gb hk,Zn,hl,mod_eq_of_lt (by simpa using h),Nat.add_mul,dM,Nat.pow_mul,show(2:Nat)^4=16 by rfl,eQ (2^8),Nat.mul_assoc];omega
end ao
theorem amw(A:a7)(c:Nat)(U:ae)(w:ai)(bg:fw U)(hc:U.length<=c)(aj:Reads w A (aM U))
  (mg:Calls prog 140 #[.slice A U.length c] w λe w'=>e=.returned (.bool true)/\w=w') :
  Calls prog 107 #[.slice A U.length c] w λe w'=>e=.returned (Fg (some (gY (cB U))))/\Below w.heap.size w w':=by
 have oW:=I (al3 A c U w bg.1 hc aj);have lD:=I mg;obtain⟨h1,af⟩:=Jb U bg;obtain⟨m0,ip⟩:=xW U;have bp:Reads w A (aM (cB U)):=by
  have h:=aak aj (cB U).length;have e:∀ca cT:ae,(aM (ca++cT)).take ca.length=aM ca:=λca cT=>by rw[<-EC,<-gw ca,take_left]
  have e2:=e (cB U) (List.replicate m0 0);rw[<-ip]at e2;rwa [e2]at h
 clear ip aj mg;generalize cB U=l at *;have eF:=h1.1;have lw:=I h1.2.1;have C9:=I (arJ l (λx ah=>by have:=h1.2.1 x ah;omega) af eF);have b5:=I (Fl l h1.2.1 eF);have Hlen:Hid ((8+4*l.length+7)/8=(gY l).length):=I (by rw[x1];omega);generalize gY l=rK at *;have dB:=I bp;have ri:IntKind.u32.wrap ((l.length:Int)-1)=((l.length-1:Nat):Int):=by simp[IntKind.wrap,IntKind.bits,IntKind.signed];omega
 have mA:Hid (∀(W:ai) (b N n v m:Nat),n<=1000000000->v<4294967296->m<=32->dP W b 0 N n->Calls prog 99 #[.pointer (some ⟨b,0,none⟩),.int .u32 v,.int .i64 m] W λe w'=>e=.returned (.bool true)/\dP w' b 0 (N+v%2^m*2^n) (n+m)/\W.grownBy w' (some b)):=I (λW b N n v m h1 af aq aJ=>E0 b 0 N n v m W h1 af aq aJ);have lB:=I (dP.new w 153 (by decide));have jW:=I ((Below.refl w.heap.size w).alloc bh (.cells #[.pointer none,.int .u64 0,.int .i64 0] 153));clear bp h1 bg;go_enter func107,ntmps107
 go_wp2_with fail
 refine lD.out.mono ?_;rintro e w' ⟨rfl,rfl⟩;clear lD;go_wp2_with fail
 refine oW.out.mono ?_;rintro e w' ⟨rfl,rfl⟩;clear oW;go_wp2_with fail
 refine(mA.out _ w.heap.size 0 0 (l.length-1) 8 (by omega) (by omega) (by omega) lB.out).mono ?_;rintro e aB ⟨rfl,dZ,aD⟩;rw[eH,eH,Nat.pow_zero,Nat.mul_one,mod_eq_of_lt (show l.length-1<2^8 by omega)]at dZ;have r9:=I dZ;have aV:Hid (Below w.heap.size w aB):=I (jW.out.grown aD jW.out.size (λk e=>by injection e with e;omega));clear dZ aD lB jW ri;go_wp2;go_loopw [20] (λbV wr=>∃k:Nat,k<=l.length/\bV=.int .i64 k/\Hid (dP wr w.heap.size 0 (l.length-1+mR (l.take k)*2^8) (8+4*k))/\Hid (Below w.heap.size w wr)) (λbV _=>l.length-(intOf bV).toNat)
 case atStart=>exact⟨0,by omega,rfl,I (by rw[take_zero,mR,Nat.zero_mul];exact r9),aV⟩
 case round=>
  obtain⟨k,hk,rfl,dZ,hbel⟩:=hrel;clear r9 aV;by_cases bb:k<l.length
  .obtain⟨g,off,rfl,bL⟩:=kW (c9 dB.out hbel.out) (by omega);have c0:=bL k bb;have ah:=lw.out l[k] (b7 bb);have aQ:=amO l k bb (by omega) (l.length-1);have gF:=I (mA.out wr w.heap.size _ (8+4*k) l[k] 4 (by omega) (by omega) (by omega) dZ.out);rw[aQ]at gF;clear bL aQ dZ;generalize l[k]=x at *;have ri:IntKind.u32.wrap (x:Int)=x:=by simp[IntKind.wrap,IntKind.bits,IntKind.signed];omega
   go_wp2_with fail
   refine gF.out.mono ?_;rintro e a1 ⟨rfl,xN,cs⟩;have AF:=I xN;have bE:Hid (Below w.heap.size w a1):=I (hbel.out.grown cs hbel.out.size (λk e=>by injection e with e;omega));clear xN cs hbel gF;go_wp2;go_roundw
   case rel=>exact⟨k+1,by omega,by go_num,AF,bE⟩
   case measure=>simp[intOf];omega
  .obtain rfl:k=l.length:=by omega
   rw[take_length]at dZ;have jz:=AS w.heap.size 0 _ _ wr (by omega) dZ.out;rw[C9.out]at jz;have jX:=I jz;rw[Hlen.out]at jX;have kL:Hid (∀W A c,Reads W A (aN rK)->(convert 87 9 (.slice A rK.length c)).run prog W=.ok (.string (strOf rK)) W):=I (λW A c bp=>o3 W A c _ b5.out bp);clear jz dZ C9;go_wp2_with fail
   refine jX.out.mono ?_;rintro e bA ⟨g4,rfl,cA,j6,a8⟩;have hcv:=kL.out bA _ rK.length (oK j6);have cx:=b9 hbel a8;clear j6 a8 hbel jX kL;go_wp2;go_ret2;exact⟨rfl,cx⟩
theorem amv(A:a7)(c:Nat)(l:List Int)(w:ai)
  (mg:Calls prog 140 #[.slice A l.length c] w λe w'=>e=.returned (.bool false)/\w=w') :
  Calls prog 107 #[.slice A l.length c] w λe w'=>e=.returned (Fg none)/\w=w':=by
 have lD:=I mg;clear mg;go_enter func107,ntmps107
 go_wp2_with fail
 refine lD.out.mono ?_;rintro e w' ⟨rfl,rfl⟩;clear lD;go_wp2;go_ret2;exact⟨rfl,rfl⟩
theorem amt:aeo:=by
 intro w A c l hl hc ak aj;have h:=Qe A c l w (by omega) aj;by_cases bg:mD l
 .rw[aA bg];rw[bG bg]at h;obtain⟨e,dV,kR⟩:=H2 l bg.1;have h1:=amw A c (l.map Int.toNat) w bg.2 (by omega) (by rw[<-jT,<-e];exact aj) (by rw[kR];exact h);rw[kR]at h1;exact h1
 .rw[ay bg];rw[bF bg]at h;exact(amv A c l w h).mono λe w' ⟨h1,af⟩=>⟨h1,by rw[<-af];exact Below.refl _ _⟩
set_option linter.unusedVariables false
def nc:Option (ae×Nat)->Value
 | none=>.tuple #[.string (strOf []),.int .i64 0]
 | some t=>.tuple #[.string (strOf t.1),.int .i64 (t.2:Int)]
theorem Zg(l:ae)(i j:Nat)(h:i<=j)(af:j<=l.length)(W:ai):(Instr.slice 9 (.string (strOf l)) (some (.int .i64 i)) (some (.int .i64 j)) none).run prog W=.ok (.string (strOf ((l.take j).drop i))) W:=by
 rw[run_slice_string W 9 _ .i64 .i64 i j underlying9 (by omega) (by omega) (by rw[cZ];omega),cY,cY,Ff]
theorem ahC(n i x:Nat)(h:i<n):(List.replicate i x++List.replicate (n-i) 0).set i x=List.replicate (i+1) x++List.replicate (n-(i+1)) 0:=by
 rw[set_append_right _ _ (by simp),jl,Nat.sub_self,show n-i=(n-(i+1))+1 by omega,replicate_succ,set_cons_zero,replicate_succ',dj];rfl
theorem ao7(most:Int)(w:ai):Calls prog 47 #[.string (strOf []),.int .i64 most] w λe w'=>e=.returned (nc none)/\Below w.heap.size w w':=by
 have fi:=LA [];rw[bG rfl]at fi;have bU:=I (rfl:strOf []=strOf []);generalize ap:strOf []=s at fi;clear ap bU;go_enter func47,ntmps47
 go_wp2;go_ret2;exact⟨rfl,Below.refl _ _⟩
theorem ao4(s s1:ByteArray)(L v bj:Nat)(w:ai)(fi:s.toList.isEmpty=false)(bI:s.size=L)(bR:L<=2000)
  (fL:∀W:ai,(Instr.slice 9 (.string s) (some (.int .i64 1)) none none).run prog W=.ok (.string s1) W)
  (eV:∀W,Calls prog 25 #[.string s1] W λe bc=>e=.returned (.tuple #[.int .u64 v,.int .i64 bj])/\Below W.heap.size W bc) (most:Int) (h:bj=0) :
  Calls prog 47 #[.string s,.int .i64 most] w λe w'=>e=.returned (nc (none))/\Below w.heap.size w w':=by
 subst h;have g9:=I eV;clear eV;go_enter func47,ntmps47
 go_wp2_with fail
 refine(g9.out _).mono ?_;rintro e au ⟨rfl,aH⟩;have aK:=I aH;clear aH g9;go_wp2;go_ret2;exact⟨rfl,aK⟩
theorem ao5(s s1:ByteArray)(L v bj:Nat)(w:ai)(fi:s.toList.isEmpty=false)(bI:s.size=L)(bR:L<=2000)
  (fL:∀W:ai,(Instr.slice 9 (.string s) (some (.int .i64 1)) none none).run prog W=.ok (.string s1) W)
  (eV:∀W,Calls prog 25 #[.string s1] W λe bc=>e=.returned (.tuple #[.int .u64 v,.int .i64 bj])/\Below W.heap.size W bc) (most:Int) (h:0<bj) (af:most<0) :
  Calls prog 47 #[.string s,.int .i64 most] w λe w'=>e=.returned (nc (none))/\Below w.heap.size w w':=by
 have z0:((bj:Int) == 0)=false:=cz
 have d0:decide (most<0)=true:=bG af;clear h;have g9:=I eV;clear eV;go_enter func47,ntmps47
 go_wp2_with fail
 refine(g9.out _).mono ?_;rintro e au ⟨rfl,aH⟩;have aK:=I aH;clear aH g9;go_wp2;go_ret2;exact⟨rfl,aK⟩
theorem ao6(s s1:ByteArray)(L v bj:Nat)(w:ai)(fi:s.toList.isEmpty=false)(bI:s.size=L)(bR:L<=2000)
  (fL:∀W:ai,(Instr.slice 9 (.string s) (some (.int .i64 1)) none none).run prog W=.ok (.string s1) W)
  (eV:∀W,Calls prog 25 #[.string s1] W λe bc=>e=.returned (.tuple #[.int .u64 v,.int .i64 bj])/\Below W.heap.size W bc) (m:Nat) (hm:m<=100000) (h:0<bj) (af:m<v) :
  Calls prog 47 #[.string s,.int .i64 m] w λe w'=>e=.returned (nc (none))/\Below w.heap.size w w':=by
 have z0:((bj:Int) == 0)=false:=cz
 have d0:decide ((m:Int)<0)=false:=aT;have d1:decide ((m:Int)<v)=true:=cl;have sk:decide (m<v)=true:=bG af;clear h;have g9:=I eV;clear eV;go_enter func47,ntmps47
 go_wp2_with fail
 refine(g9.out _).mono ?_;rintro e au ⟨rfl,aH⟩;have aK:=I aH;clear aH g9;go_wp2;go_ret2;exact⟨rfl,aK⟩
theorem aoV(s s1:ByteArray)(L v bj:Nat)(w:ai)(fi:s.toList.isEmpty=false)(bI:s.size=L)(bR:L<=2000)
  (fL:∀W:ai,(Instr.slice 9 (.string s) (some (.int .i64 1)) none none).run prog W=.ok (.string s1) W)
  (eV:∀W,Calls prog 25 #[.string s1] W λe bc=>e=.returned (.tuple #[.int .u64 v,.int .i64 bj])/\Below W.heap.size W bc)
  (m:Nat) (hm:m<=100000) (h:0<bj) (af:v<=m) (cj:Nat) (aw:cj=1+bj) (iI:cj<=L) (hidx:∀W:ai,(Instr.index 9 (.string s) (.int .i64 0)).run prog W=.ok (.int .u8 0) W) (t:ae) (cn:Nat) (hq:cn=cj+v) (aE:cn<=L) (hmid:∀W:ai,(Instr.slice 9 (.string s) (some (.int .i64 cj)) (some (.int .i64 cn)) none).run prog W=.ok (.string (strOf t)) W) :
  Calls prog 47 #[.string s,.int .i64 m] w λe w'=>e=.returned (nc (some (t,cn)))/\Below w.heap.size w w':=by
 have z0:((bj:Int) == 0)=false:=cz
 have d0:decide ((m:Int)<0)=false:=aT;have d1:decide ((m:Int)<v)=false:=aT;have d2:decide ((1048576:Int)<v)=false:=aT;have sk:decide (m<v)=false:=aT;have bv:v<=100000:=by omega
 have i6:(1:Int)+bj=cj:=by omega
 have bP:cj<=2000:=by omega
 have d3:decide ((L:Int)-cj<v)=false:=aT;have kC:(cj:Int)+v=cn:=by omega
 have bq:cn<=2000:=by omega
 clear h aw hq iI af;have g9:=I eV;clear eV;go_enter func47,ntmps47
 go_wp2_with fail
 refine(g9.out _).mono ?_;rintro e au ⟨rfl,aH⟩;have aK:=I aH;clear aH g9;go_wp2;go_ret2;exact⟨rfl,aK⟩
theorem aoU(s s1:ByteArray)(L v bj:Nat)(w:ai)(fi:s.toList.isEmpty=false)(bI:s.size=L)(bR:L<=2000)
  (fL:∀W:ai,(Instr.slice 9 (.string s) (some (.int .i64 1)) none none).run prog W=.ok (.string s1) W)
  (eV:∀W,Calls prog 25 #[.string s1] W λe bc=>e=.returned (.tuple #[.int .u64 v,.int .i64 bj])/\Below W.heap.size W bc)
  (m:Nat) (hm:m<=100000) (h:0<bj) (af:v<=m) (cj:Nat) (aw:cj=1+bj) (iI:cj<=L) (hidx:∀W:ai,(Instr.index 9 (.string s) (.int .i64 0)).run prog W=.ok (.int .u8 0) W) (aE:L<cj+v) :
  Calls prog 47 #[.string s,.int .i64 m] w λe w'=>e=.returned (nc (none))/\Below w.heap.size w w':=by
 have z0:((bj:Int) == 0)=false:=cz
 have d0:decide ((m:Int)<0)=false:=aT;have d1:decide ((m:Int)<v)=false:=aT;have d2:decide ((1048576:Int)<v)=false:=aT;have sk:decide (m<v)=false:=aT;have bv:v<=100000:=by omega
 have i6:(1:Int)+bj=cj:=by omega
 have bP:cj<=2000:=by omega
 have d3:decide ((L:Int)-cj<v)=true:=cl;clear h aw iI aE;have g9:=I eV;clear eV;go_enter func47,ntmps47
 go_wp2_with fail
 refine(g9.out _).mono ?_;rintro e au ⟨rfl,aH⟩;have aK:=I aH;clear aH g9;go_wp2;go_ret2;exact⟨rfl,aK⟩
theorem aoW(s s1:ByteArray)(L v bj:Nat)(w:ai)(fi:s.toList.isEmpty=false)(bI:s.size=L)(bR:L<=2000)
  (fL:∀W:ai,(Instr.slice 9 (.string s) (some (.int .i64 1)) none none).run prog W=.ok (.string s1) W)
  (eV:∀W,Calls prog 25 #[.string s1] W λe bc=>e=.returned (.tuple #[.int .u64 v,.int .i64 bj])/\Below W.heap.size W bc)
  (m:Nat) (hm:m<=100000) (h:0<bj) (af:v<=m) (cj:Nat) (aw:cj=1+bj) (iI:cj<=L) (hidx:∀W:ai,(Instr.index 9 (.string s) (.int .i64 0)).run prog W=.ok (.int .u8 1) W) (aE:L<=cj) :
  Calls prog 47 #[.string s,.int .i64 m] w λe w'=>e=.returned (nc (none))/\Below w.heap.size w w':=by
 have z0:((bj:Int) == 0)=false:=cz
 have d0:decide ((m:Int)<0)=false:=aT;have d1:decide ((m:Int)<v)=false:=aT;have d2:decide ((1048576:Int)<v)=false:=aT;have sk:decide (m<v)=false:=aT;have bv:v<=100000:=by omega
 have i6:(1:Int)+bj=cj:=by omega
 have bP:cj<=2000:=by omega
 have d3:decide ((L:Int)<=cj)=true:=cl;have T2:decide (L<=cj)=true:=bG aE;clear h aw iI aE;have g9:=I eV;clear eV;go_enter func47,ntmps47
 go_wp2_with fail
 refine(g9.out _).mono ?_;rintro e au ⟨rfl,aH⟩;have aK:=I aH;clear aH g9;go_wp2;go_ret2;exact⟨rfl,aK⟩
theorem ao3(s s1:ByteArray)(L v bj:Nat)(w:ai)(fi:s.toList.isEmpty=false)(bI:s.size=L)(bR:L<=2000)
  (fL:∀W:ai,(Instr.slice 9 (.string s) (some (.int .i64 1)) none none).run prog W=.ok (.string s1) W)
  (eV:∀W,Calls prog 25 #[.string s1] W λe bc=>e=.returned (.tuple #[.int .u64 v,.int .i64 bj])/\Below W.heap.size W bc) (m:Nat) (hm:m<=100000) (h:0<bj) (af:v<=m) (cj:Nat) (aw:cj=1+bj) (iI:cj<=L) (k:Nat) (hk:2<k) (fy:k<256) (hidx:∀W:ai,(Instr.index 9 (.string s) (.int .i64 0)).run prog W=.ok (.int .u8 k) W) :
  Calls prog 47 #[.string s,.int .i64 m] w λe w'=>e=.returned (nc (none))/\Below w.heap.size w w':=by
 have z0:((bj:Int) == 0)=false:=cz
 have d0:decide ((m:Int)<0)=false:=aT;have d1:decide ((m:Int)<v)=false:=aT;have d2:decide ((1048576:Int)<v)=false:=aT;have sk:decide (m<v)=false:=aT;have bv:v<=100000:=by omega
 have i6:(1:Int)+bj=cj:=by omega
 have bP:cj<=2000:=by omega
 have bC:((k:Int) == 0)=false:=cz
 have bf:((k:Int) == 1)=false:=cz
 have bM:((k:Int) == 2)=false:=cz
 clear h aw iI hk;have g9:=I eV;clear eV;go_enter func47,ntmps47
 go_wp2_with fail
 refine(g9.out _).mono ?_;rintro e au ⟨rfl,aH⟩;have aK:=I aH;clear aH g9;go_wp2;go_ret2;exact⟨rfl,aK⟩
def rL(a b c:Nat):b3:=[.int .i64 a,.int .i64 b,.int .i64 c]
def IH:Option ao.dN->Value
 | none=>.tuple #[.agg (rL 0 0 0).toArray,.int .u64 0,.int .i64 0]
 | some h=>.tuple #[.agg (rL h.1 h.2.1 h.2.2.1).toArray,.int .u64 (h.2.2.2.1:Int),.int .i64 (h.2.2.2.2:Int)]
structure dO(w W:ai):Prop where
 eb:Row W w.heap.size 30 (rL 0 0 0)
 bN:Row W (w.heap.size+1) 30 (rL 0 0 0)
 dK:Below w.heap.size w W
theorem dO.call{w W bc:ai}(h:dO w W)(ak:Below W.heap.size W bc):dO w bc:=
 ⟨h.eb.keep (ak.block _ h.eb.lt),h.bN.keep (ak.block _ h.bN.lt),h.dK.trans (ak.mono h.dK.size)⟩
theorem dO.start(w:ai):dO w ((w.alloc (.cells (rL 0 0 0).toArray 30)).alloc (.cells (rL 0 0 0).toArray 30)):=by
 have cX:=Row.new (w.alloc (.cells (rL 0 0 0).toArray 30)) 30 (rL 0 0 0);rw[show(w.alloc (.cells (rL 0 0 0).toArray 30)).heap.size=w.heap.size+1 by simp]at cX;exact⟨(Row.new w 30 (rL 0 0 0)).alloc _,cX,(dQ.alloc bh _).alloc (by simp) _⟩
theorem n7{W:ai}{b:Nat}{t:TypeId}{x y z:Value}(h:Row W b t [x,y,z])(u0 u1 u2:Value):W.cell? ⟨b,0,none⟩=some x/\W.cell? ⟨b,1,none⟩=some y/\W.cell? ⟨b,2,none⟩=some z /\
  W.frozen? ⟨b,0,none⟩=false/\W.frozen? ⟨b,1,none⟩=false/\W.frozen? ⟨b,2,none⟩=false/\(W.setCell ⟨b,0,none⟩ u0).cell? ⟨b,0,none⟩=some u0 /\
  ((W.setCell ⟨b,0,none⟩ u0).setCell ⟨b,1,none⟩ u1).cell? ⟨b,1,none⟩=some u1/\(((W.setCell ⟨b,0,none⟩ u0).setCell ⟨b,1,none⟩ u1).setCell ⟨b,2,none⟩ u2).cell? ⟨b,2,none⟩=some u2:=
 ⟨h.cell 0,h.cell 1,h.cell 2,h.free 0,h.free 1,h.free 2,(h.bm 0 u0).cell 0,((h.bm 0 u0).bm 1 u1).cell 1,(((h.bm 0 u0).bm 1 u1).bm 2 u2).cell 2⟩
theorem Tk(bs:ae)(w:ai)(hl:bs.length<=1000000)(av:∀x∈bs,x<256) :
  Calls prog 11 #[.string (strOf bs)] w λe w'=>e=.returned (IH (im bs))/\Below w.heap.size w w':=by
 have cI:=I (dO.start w);have bI:=cZ bs;obtain⟨V,bY⟩:∃V,V=IH (im bs):=⟨_,rfl⟩;rw[<-bY];have u7:IH none=.tuple #[.agg #[.int .i64 0,.int .i64 0,.int .i64 0],.int .u64 0,.int .i64 0]:=rfl;cases bs with
 | nil=>
  have he:=vl [];rw[bG rfl]at he;rw[show im []=none from rfl,u7]at bY;subst bY;go_enter func11,ntmps11
  go_upto_region 3 with fail
  obtain⟨c0,c1,c2,-,-,-,-,-,-⟩:=n7 cI.out.bN (.int .i64 0) (.int .i64 0) (.int .i64 0);obtain⟨d0,d1,vi,f0,f1,f2,td,oL,oM⟩:=n7 cI.out.eb (.int .i64 0) (.int .i64 0) (.int .i64 0);have hbel:=cI.out.dK;go_wp2;exact bodyPost_ret (v:=.tuple #[.agg #[.int .i64 0,.int .i64 0,.int .i64 0],.int .u64 0,.int .i64 0]) (by simp[results,results11,go_sem]) rfl ⟨rfl,hbel⟩
 | cons x r=>
  have he:=vl (x :: r);rw[bF (by simp)]at he;have ah:=av x ea;have ajy:∀W:ai,(Instr.index 9 (.string (strOf (x :: r))) (.int .i64 0)).run prog W=.ok (.int .u8 x) W:=λW=>pT (x :: r) 0 W (by simp) (by simpa using ah)
  have Nz:((strOf (x :: r)).toList == (ByteArray.mk #[]).toList)=false:=by
   rw[show(ByteArray.mk #[])=strOf []from rfl,Fe _ _ av (by simp)];rfl
  unfold im at bY;dsimp only at bY;by_cases af:2<x
  .rw[aA af,u7]at bY;subst bY;have d2:decide ((2:Int)<x)=true:=cl;clear av ah u7;generalize strOf (x :: r)=rF at *;go_enter func11,ntmps11
   go_upto_region 3 with fail
   obtain⟨c0,c1,c2,-,-,-,-,-,-⟩:=n7 cI.out.bN (.int .i64 0) (.int .i64 0) (.int .i64 0);obtain⟨d0,d1,vi,f0,f1,f2,td,oL,oM⟩:=n7 cI.out.eb (.int .i64 0) (.int .i64 0) (.int .i64 0);have hbel:=cI.out.dK;go_wp2;exact bodyPost_ret (v:=.tuple #[.agg #[.int .i64 0,.int .i64 0,.int .i64 0],.int .u64 0,.int .i64 0]) (by simp[results,results11,go_sem]) rfl ⟨rfl,hbel⟩
  .rw[ay af]at bY;have d2:decide ((2:Int)<x)=false:=aT;have y6:∀(i:Nat),i<=(x :: r).length->∀W:ai,(Instr.slice 9 (.string (strOf (x :: r))) (some (.int .i64 i)) none none).run prog W=.ok (.string (strOf ((x :: r).drop i))) W:=λi ax W=>pm (x :: r) i ax W
   have avx:∀W:ai,(Instr.slice 9 (.string (strOf (x :: r))) (some (.int .i64 1)) none none).run prog W=.ok (.string (strOf r)) W:=λW=>y6 1 (by simp) W
   have pS:r.length<=1000000:=by rw[b1]at hl;omega
   have By:∀y∈r,y<256:=λy hy=>av y (ew _ hy)
   have qc:=I (λW=>A3 r W (by omega) By);unfold qK at bY;obtain⟨⟨a6,k⟩,tZ⟩:∃z,z=aW r:=⟨_,rfl⟩;have eE:a6<2^64/\k<=r.length:=by
    rcases eq_zero_or_pos k with am | am
    .subst am;rw[LJ r a6 tZ.symm];exact⟨by decide,zero_le _⟩
    .have:=sn r a6 k am tZ.symm;exact⟨this.1,this.2.2⟩
   rw[<-tZ]at bY qc;dsimp only at bY qc;by_cases c1:0<k/\a6<=1073741824
   .rw[aA c1]at bY;have d3:((k:Int) == 0)=false:=cz
    have d4:decide ((1073741824:Int)<a6)=false:=aT;have hfr2:∀W:ai,(Instr.slice 9 (.string (strOf (x :: r))) (some (.int .i64 (1+(k:Int)))) none none).run prog W=.ok (.string (strOf (r.drop k))) W:=λW=>by
     have h:=y6 (1+k) (by rw[b1];omega) W;rw[Nat.add_comm 1,drop_succ_cons,show((k+1:Nat):Int)=1+(k:Int) by omega]at h;exact h
    have qd:=I (λW=>A3 (r.drop k) W (by rw[cC];omega) (λy hy=>By y (mem_of_mem_drop hy)));obtain⟨⟨n,m⟩,vD⟩:∃z,z=aW (r.drop k):=⟨_,rfl⟩;have az:n<2^64/\m<=r.length-k:=by
     rcases eq_zero_or_pos m with am | am
     .subst am;rw[LJ _ n vD.symm];exact⟨by decide,zero_le _⟩
     .have:=sn (r.drop k) n m am vD.symm;rw[cC]at this;exact⟨this.1,this.2.2⟩
    rw[<-vD]at bY qd;dsimp only at bY qd;by_cases c2:0<m/\n<=1099511627776/\k+m+8<=r.length
    .rw[aA c2,map_some]at bY;dsimp only at bY;have d5:((m:Int) == 0)=false:=cz
     have d6:decide ((1099511627776:Int)<n)=false:=aT;have d7:decide ((((x :: r).length:Nat):Int)-(1+(k:Int)+m)<8)=false:=bF (by rw[b1];omega);have hcut:∀W:ai,(Instr.slice 9 (.string (strOf (x :: r))) (some (.int .i64 (1+(k:Int)+m))) (some (.int .i64 (1+(k:Int)+m+8))) none).run prog W=.ok (.string (strOf ((r.drop (k+m)).take 8))) W:=λW=>by
      have h:=Zg (x :: r) (1+k+m) (1+k+m+8) (by omega) (by rw[b1];omega) W;rw[show((1+k+m:Nat):Int)=1+(k:Int)+m by omega,show((1+k+m+8:Nat):Int)=1+(k:Int)+m+8 by omega]at h;rw[h,drop_take,show 1+k+m+8-(1+k+m)=8 by omega,show 1+k+m=k+m+1 by omega,drop_succ_cons]
     have fI:=I (λW=>ahP ((r.drop (k+m)).take 8) W (by rw[cq];omega) (λy hy=>By y (mem_of_mem_drop (mem_of_mem_take hy))));have hd:IntKind.i64.wrap (1+(k:Int))=1+(k:Int):=by rw[IntWalk.i64_in _ (by omega)]
     have nv:IntKind.i64.wrap (1+(k:Int)+m)=1+(k:Int)+m:=by rw[IntWalk.i64_in _ (by omega)]
     have kT:IntKind.i64.wrap ((((x :: r).length:Nat):Int)-(1+(k:Int)+m))=(((x :: r).length:Nat):Int)-(1+(k:Int)+m):=by rw[b1,IntWalk.i64_in _ (by omega)]
     have Ez:IntKind.i64.wrap (1+(k:Int)+m+8)=1+(k:Int)+m+8:=by rw[IntWalk.i64_in _ (by omega)]
     have awA:IntKind.i64.wrap (a6:Int)=a6:=by rw[IntWalk.i64_in _ (by omega)]
     have awD:IntKind.i64.wrap (n:Int)=n:=by rw[IntWalk.i64_in _ (by omega)]
     have awE:IntKind.i64.wrap (x:Int)=x:=by rw[IntWalk.i64_in _ (by omega)]
     obtain⟨s,ap⟩:∃s,s=bd ((r.drop (k+m)).take 8):=⟨_,rfl⟩;rw[<-ap]at bY fI;have aeC:V=.tuple #[.agg #[.int .i64 x,.int .i64 a6,.int .i64 n],.int .u64 s,.int .i64 (1+(k:Int)+m+8)]:=by
      rw[bY];unfold IH rL;dsimp only;rw[show((1+(k+m+8):Nat):Int)=1+(k:Int)+m+8 by omega]
     subst aeC;clear bY ap y6 hl pS av By ah eE az tZ vD c1 c2 af u7;generalize strOf (x :: r)=rF at *;generalize (x :: r).length=alI at *;generalize strOf (List.take 8 (List.drop (k+m) r))=aw3 at *;generalize strOf (r.drop k)=s2 at *;generalize strOf r=s1 at *;go_enter func11,ntmps11
     go_wp2_with fail
     refine(qc.out _).mono ?_;rintro e au ⟨rfl,aH⟩;have hO:=I (cI.out.call aH);clear aH qc cI;go_wp2_with fail
     refine(qd.out _).mono ?_;rintro e aB ⟨rfl,aI⟩;have lX:=I (hO.out.call aI);clear aI qd hO;obtain⟨c0,c1,c2,f0,f1,f2,t0,t1,t2⟩:=n7 lX.out.bN (.int .i64 x) (.int .i64 a6) (.int .i64 n);have cX:Row _ _ 30 (rL x a6 n):=((lX.out.bN.bm 0 (.int .i64 x)).bm 1 (.int .i64 a6)).bm 2 (.int .i64 n);have e7:=((lX.out.eb.cG (p:=⟨w.heap.size+1,0,none⟩) (by simp) (.int .i64 x)).cG (p:=⟨w.heap.size+1,1,none⟩) (by simp) (.int .i64 a6)).cG (p:=⟨w.heap.size+1,2,none⟩) (by simp) (.int .i64 n);have dY:=((lX.out.dK.setCell (p:=⟨w.heap.size+1,0,none⟩) (by simp) (.int .i64 x)).setCell (p:=⟨w.heap.size+1,1,none⟩) (by simp) (.int .i64 a6)).setCell (p:=⟨w.heap.size+1,2,none⟩) (by simp) (.int .i64 n);have jZ:=I cX;have kM:=I e7;have tt:=I dY;clear cX e7 dY lX;go_upto_region 12 with fail
     clear c0 c1 c2 f0 f1 f2 t0 t1 t2;generalize ((aB.setCell ⟨w.heap.size+1,0,none⟩ (.int .i64 x)).setCell ⟨w.heap.size+1,1,none⟩ (.int .i64 a6)).setCell ⟨w.heap.size+1,2,none⟩ (.int .i64 n)=a1 at *;obtain⟨c0,c1,c2,-,-,-,-,-,-⟩:=n7 jZ.out (.int .i64 0) (.int .i64 0) (.int .i64 0);obtain⟨d0,d1,vi,f0,f1,f2,t0,t1,t2⟩:=n7 kM.out (.int .i64 x) (.int .i64 a6) (.int .i64 n);clear jZ kM;have hbel:=(((tt.out.setCell (p:=⟨w.heap.size,0,none⟩) bh (.int .i64 x)).setCell (p:=⟨w.heap.size,1,none⟩) bh (.int .i64 a6)).setCell (p:=⟨w.heap.size,2,none⟩) bh (.int .i64 n)).drew;go_region_with (go_at_call 26;refine(fI.out _).mono ?_;rintro e bA ⟨rfl,rfl⟩)
     all_goals
      go_wp2;exact bodyPost_ret (v:=.tuple #[.agg #[.int .i64 x,.int .i64 a6,.int .i64 n],.int .u64 s,.int .i64 (1+(k:Int)+m+8)]) (by simp[results,results11,go_sem,t0,t1,t2]) rfl ⟨rfl,hbel⟩
    .rw[ay c2,map_none,u7]at bY;subst bY;have dd:(((m:Int) == 0) || decide ((1099511627776:Int)<n) || decide ((((x :: r).length:Nat):Int)-(1+(k:Int)+m)<8))=true:=by
      rw[b1];by_cases aF:m=0
      .subst aF;rfl
      .by_cases e2:1099511627776<n
       .rw[bG (by omega:(1099511627776:Int)<n),Bool.or_true,Bool.true_or]
       .rw[bG (by omega:((r.length+1:Nat):Int)-(1+(k:Int)+m)<8),Bool.or_true]
     have hd:IntKind.i64.wrap (1+(k:Int))=1+(k:Int):=by rw[IntWalk.i64_in _ (by omega)]
     have nv:IntKind.i64.wrap (1+(k:Int)+m)=1+(k:Int)+m:=by rw[IntWalk.i64_in _ (by omega)]
     have kT:IntKind.i64.wrap ((((x :: r).length:Nat):Int)-(1+(k:Int)+m))=(((x :: r).length:Nat):Int)-(1+(k:Int)+m):=by rw[b1,IntWalk.i64_in _ (by omega)]
     clear y6 hl pS av By ah eE az tZ vD c1 c2 af u7;generalize strOf (x :: r)=rF at *;generalize (x :: r).length=alI at *;generalize strOf (r.drop k)=s2 at *;generalize strOf r=s1 at *;go_enter func11,ntmps11
     go_wp2_with fail
     refine(qc.out _).mono ?_;rintro e au ⟨rfl,aH⟩;have hO:=I (cI.out.call aH);clear aH qc cI;go_wp2_with fail
     refine(qd.out _).mono ?_;rintro e aB ⟨rfl,aI⟩;have lX:=I (hO.out.call aI);clear aI qd hO;by_cases aF:((m:Int) == 0)=true
     .clear dd;obtain⟨c0,c1,c2,-,-,-,-,-,-⟩:=n7 lX.out.bN (.int .i64 0) (.int .i64 0) (.int .i64 0);obtain⟨d0,d1,vi,f0,f1,f2,td,oL,oM⟩:=n7 lX.out.eb (.int .i64 0) (.int .i64 0) (.int .i64 0);have hbel:=((lX.out.dK.setCell (p:=⟨w.heap.size,0,none⟩) bh (.int .i64 0)).setCell (p:=⟨w.heap.size,1,none⟩) bh (.int .i64 0)).setCell (p:=⟨w.heap.size,2,none⟩) bh (.int .i64 0);go_wp2;exact bodyPost_ret (v:=.tuple #[.agg #[.int .i64 0,.int .i64 0,.int .i64 0],.int .u64 0,.int .i64 0]) (by simp[results,results11,go_sem,td,oL,oM]) rfl ⟨rfl,hbel⟩
     .have aF:((m:Int) == 0)=false:=by simpa using aF
      by_cases e2:decide ((1099511627776:Int)<n)=true
      .clear dd;obtain⟨c0,c1,c2,-,-,-,-,-,-⟩:=n7 lX.out.bN (.int .i64 0) (.int .i64 0) (.int .i64 0);obtain⟨d0,d1,vi,f0,f1,f2,td,oL,oM⟩:=n7 lX.out.eb (.int .i64 0) (.int .i64 0) (.int .i64 0);have hbel:=((lX.out.dK.setCell (p:=⟨w.heap.size,0,none⟩) bh (.int .i64 0)).setCell (p:=⟨w.heap.size,1,none⟩) bh (.int .i64 0)).setCell (p:=⟨w.heap.size,2,none⟩) bh (.int .i64 0);go_wp2;exact bodyPost_ret (v:=.tuple #[.agg #[.int .i64 0,.int .i64 0,.int .i64 0],.int .u64 0,.int .i64 0]) (by simp[results,results11,go_sem,td,oL,oM]) rfl ⟨rfl,hbel⟩
      .have e2:decide ((1099511627776:Int)<n)=false:=by simpa using e2
       rw[aF,e2,Bool.false_or,Bool.false_or]at dd;obtain⟨c0,c1,c2,-,-,-,-,-,-⟩:=n7 lX.out.bN (.int .i64 0) (.int .i64 0) (.int .i64 0);obtain⟨d0,d1,vi,f0,f1,f2,td,oL,oM⟩:=n7 lX.out.eb (.int .i64 0) (.int .i64 0) (.int .i64 0);have hbel:=((lX.out.dK.setCell (p:=⟨w.heap.size,0,none⟩) bh (.int .i64 0)).setCell (p:=⟨w.heap.size,1,none⟩) bh (.int .i64 0)).setCell (p:=⟨w.heap.size,2,none⟩) bh (.int .i64 0);go_wp2;exact bodyPost_ret (v:=.tuple #[.agg #[.int .i64 0,.int .i64 0,.int .i64 0],.int .u64 0,.int .i64 0]) (by simp[results,results11,go_sem,td,oL,oM]) rfl ⟨rfl,hbel⟩
   .rw[ay c1,map_none,u7]at bY;subst bY;have ajF:k=0\/(k≠0/\1073741824<a6):=by omega
    clear y6 hl pS av By ah eE tZ c1 af u7;generalize strOf (x :: r)=rF at *;generalize strOf r=s1 at *;go_enter func11,ntmps11
    go_wp2_with fail
    refine(qc.out _).mono ?_;rintro e au ⟨rfl,aH⟩;have hO:=I (cI.out.call aH);clear aH qc cI;rcases ajF with rfl | ⟨gv,eu⟩
    .obtain⟨c0,c1,c2,-,-,-,-,-,-⟩:=n7 hO.out.bN (.int .i64 0) (.int .i64 0) (.int .i64 0);obtain⟨d0,d1,vi,f0,f1,f2,td,oL,oM⟩:=n7 hO.out.eb (.int .i64 0) (.int .i64 0) (.int .i64 0);have hbel:=((hO.out.dK.setCell (p:=⟨w.heap.size,0,none⟩) bh (.int .i64 0)).setCell (p:=⟨w.heap.size,1,none⟩) bh (.int .i64 0)).setCell (p:=⟨w.heap.size,2,none⟩) bh (.int .i64 0);go_wp2;exact bodyPost_ret (v:=.tuple #[.agg #[.int .i64 0,.int .i64 0,.int .i64 0],.int .u64 0,.int .i64 0]) (by simp[results,results11,go_sem,td,oL,oM]) rfl ⟨rfl,hbel⟩
    .have d3:((k:Int) == 0)=false:=cz
     have d4:decide ((1073741824:Int)<a6)=true:=cl;obtain⟨c0,c1,c2,-,-,-,-,-,-⟩:=n7 hO.out.bN (.int .i64 0) (.int .i64 0) (.int .i64 0);obtain⟨d0,d1,vi,f0,f1,f2,td,oL,oM⟩:=n7 hO.out.eb (.int .i64 0) (.int .i64 0) (.int .i64 0);have hbel:=((hO.out.dK.setCell (p:=⟨w.heap.size,0,none⟩) bh (.int .i64 0)).setCell (p:=⟨w.heap.size,1,none⟩) bh (.int .i64 0)).setCell (p:=⟨w.heap.size,2,none⟩) bh (.int .i64 0);go_wp2;exact bodyPost_ret (v:=.tuple #[.agg #[.int .i64 0,.int .i64 0,.int .i64 0],.int .u64 0,.int .i64 0]) (by simp[results,results11,go_sem,td,oL,oM]) rfl ⟨rfl,hbel⟩
set_option linter.unusedVariables false
theorem aoX(s s1:ByteArray)(L v bj:Nat)(w:ai)(fi:s.toList.isEmpty=false)(bI:s.size=L)(bR:L<=2000)
  (fL:∀W:ai,(Instr.slice 9 (.string s) (some (.int .i64 1)) none none).run prog W=.ok (.string s1) W)
  (eV:∀W,Calls prog 25 #[.string s1] W λe bc=>e=.returned (.tuple #[.int .u64 v,.int .i64 bj])/\Below W.heap.size W bc)
  (m:Nat) (hm:m<=100000) (h:0<bj) (af:v<=m) (cj:Nat) (aw:cj=1+bj) (iI:cj<=L) (hidx:∀W:ai,(Instr.index 9 (.string s) (.int .i64 0)).run prog W=.ok (.int .u8 1) W) (x:Nat) (ah:x<256) (cn:Nat) (hq:cn=cj+1) (aE:cj<L) (eC:∀W:ai,(Instr.index 9 (.string s) (.int .i64 cj)).run prog W=.ok (.int .u8 x) W) :
  Calls prog 47 #[.string s,.int .i64 m] w λe w'=>e=.returned (nc (some (List.replicate v x,cn)))/\Below w.heap.size w w':=by
 have z0:((bj:Int) == 0)=false:=cz
 have d0:decide ((m:Int)<0)=false:=aT;have d1:decide ((m:Int)<v)=false:=aT;have d2:decide ((1048576:Int)<v)=false:=aT;have sk:decide (m<v)=false:=aT;have bv:v<=100000:=by omega
 have i6:(1:Int)+bj=cj:=by omega
 have bP:cj<=2000:=by omega
 have d3:decide ((L:Int)<=cj)=false:=aT;have T2:decide (L<=cj)=false:=aT;obtain⟨i0,ax,bB,bK,bw⟩:=info_parts oG;obtain⟨res,hres⟩:∃r,r=strOf (List.replicate v x):=⟨_,rfl⟩;unfold nc;dsimp only;rw[<-hres];have bt:=I hres;have kC:(cj:Int)+1=cn:=by omega
 have bq:cn<=2001:=by omega
 clear h aw iI aE hres af hq;have g9:=I eV;clear eV;go_enter func47,ntmps47
 go_wp2_with fail
 refine(g9.out _).mono ?_;rintro e au ⟨rfl,aH⟩;have aK:=I aH;clear aH g9;go_wp2_with (at_make;refine wpList_make_full _ rfl _ _ 87 rfl au.heap.size 5 i0 (.int .u8 0) 1 underlying87 ax bB bK .i64 .i64 _ _ v rfl rfl ?c1 ?c1 ?c2 ?c3 ?c4 ?_)
 case c1=>rfl
 case c2=>rw[bw];omega
 case c3=>unfold maxLen;omega
 case c4=>exact Nat.le_refl _
 intro aB hown2 bl;have aI:=k8 bl;have bS:Row aB au.heap.size 5 (aN (List.replicate v 0)):=E7 hown2;have hsz1:=aK.out.size;have aV:=b9 aK aI;have eA:=I bS;clear hown2 bl aI bS ax bB bK bw aK;generalize au.heap.size=g at *;go_wp2;go_loopw [11] (λbV wr=>∃i:Nat,i<=v/\bV=.int .i64 i/\Hid (Row wr g 5 (aN (List.replicate i x++List.replicate (v-i) 0)))/\Hid (Below w.heap.size w wr)) (λbV _=>v-(intOf bV).toNat)
 case atStart=>exact⟨0,zero_le _,rfl,by rw[Nat.sub_zero];exact eA,aV⟩
 case round=>
  obtain⟨i,MS,rfl,hrow,hbel⟩:=hrel;clear aV eA;by_cases av:i<v
  .have hcell:=hrow.out.cell i;have hfree:=hrow.out.free i;have jQ:=hrow.out.lt;have hle:i<(List.replicate i x++List.replicate (v-i) 0).length:=by simp;omega
   rw[jF _ _ hle]at hcell;have gG:=I (hrow.out.bm i (.int .u8 x));have acP:=I (hbel.out.setCell (p:=⟨g,i,none⟩) hsz1 (.int .u8 x));generalize (List.replicate i x++List.replicate (v-i) 0)[i]=old at hcell;clear hrow hbel hle;go_wp2;go_roundw
   case rel=>exact⟨i+1,by omega,by go_num,I (by have:=gG.out;rw[B9,ahC v i x av]at this;exact this),acP⟩
   case measure=>simp[intOf];omega
  .obtain rfl:i=v:=by omega
   have eD:=Li (m:=i) (c:=i) hrow.out (by simp) (λy hy=>by
    rcases List.mem_append.1 hy with hy | hy
    .rw[(List.mem_replicate.1 hy).2];exact ah
    .rw[(List.mem_replicate.1 hy).2];decide)
   rw[take_append_of_le_length (by simp),take_of_length_le (by simp),<-bt.out]at eD;clear hrow;go_wp2;go_ret2;exact⟨rfl,hbel⟩
set_option linter.unusedVariables false
theorem aoY(s s1:ByteArray)(L v bj:Nat)(w:ai)(fi:s.toList.isEmpty=false)(bI:s.size=L)(bR:L<=2000)
  (fL:∀W:ai,(Instr.slice 9 (.string s) (some (.int .i64 1)) none none).run prog W=.ok (.string s1) W)
  (eV:∀W,Calls prog 25 #[.string s1] W λe bc=>e=.returned (.tuple #[.int .u64 v,.int .i64 bj])/\Below W.heap.size W bc)
  (m:Nat) (hm:m<=100000) (h:0<bj) (af:v<=m) (cj:Nat) (aw:cj=1+bj) (iI:cj<=L) (hidx:∀W:ai,(Instr.index 9 (.string s) (.int .i64 0)).run prog W=.ok (.int .u8 2) W) (s2:ByteArray) (tT:∀W:ai,(Instr.slice 9 (.string s) (some (.int .i64 cj)) none none).run prog W=.ok (.string s2) W) (bp:∀W,Calls prog 76 #[.string s2] W λe bc=>e=.returned (.tuple #[.slice none 0 0,.int .i64 0])/\Below W.heap.size W bc) :
  Calls prog 47 #[.string s,.int .i64 m] w λe w'=>e=.returned (nc (none))/\Below w.heap.size w w':=by
 have z0:((bj:Int) == 0)=false:=cz
 have d0:decide ((m:Int)<0)=false:=aT;have d1:decide ((m:Int)<v)=false:=aT;have d2:decide ((1048576:Int)<v)=false:=aT;have sk:decide (m<v)=false:=aT;have bv:v<=100000:=by omega
 have i6:(1:Int)+bj=cj:=by omega
 have bP:cj<=2000:=by omega
 have dB:=I bp;clear h aw iI af bp;have g9:=I eV;clear eV;go_enter func47,ntmps47
 go_wp2_with fail
 refine(g9.out _).mono ?_;rintro e au ⟨rfl,aH⟩;have aK:=I aH;clear aH g9;go_wp2_with fail
 refine(dB.out _).mono ?_;rintro e aB ⟨rfl,aI⟩;have aV:=b9 aK aI;clear aI aK dB;go_wp2;go_ret2;exact⟨rfl,aV⟩
theorem aoZ(s s1:ByteArray)(L v bj:Nat)(w:ai)(fi:s.toList.isEmpty=false)(bI:s.size=L)(bR:L<=2000)
  (fL:∀W:ai,(Instr.slice 9 (.string s) (some (.int .i64 1)) none none).run prog W=.ok (.string s1) W)
  (eV:∀W,Calls prog 25 #[.string s1] W λe bc=>e=.returned (.tuple #[.int .u64 v,.int .i64 bj])/\Below W.heap.size W bc)
  (m:Nat) (hm:m<=100000) (h:0<bj) (af:v<=m) (cj:Nat) (aw:cj=1+bj) (iI:cj<=L) (hidx:∀W:ai,(Instr.index 9 (.string s) (.int .i64 0)).run prog W=.ok (.int .u8 2) W) (s2:ByteArray) (tT:∀W:ai,(Instr.slice 9 (.string s) (some (.int .i64 cj)) none none).run prog W=.ok (.string s2) W) (U:ae) (z:Nat) (aO:0<z) (cn:Nat) (hq:cn=cj+z) (kk:cn<=L) (bp:∀W,Calls prog 76 #[.string s2] W λe bc=>(∃A c,e=.returned (.tuple #[.slice A U.length c,.int .i64 z])/\Reads bc A (aM U))/\Below W.heap.size W bc)
  (jd:ByteArray) (xm:∀W:ai,(Instr.slice 9 (.string s) (some (.int .i64 cn)) none none).run prog W=.ok (.string jd) W)
  (v2 fV:Nat) (nW:∀W,Calls prog 25 #[.string jd] W λe bc=>e=.returned (.tuple #[.int .u64 v2,.int .i64 fV])/\Below W.heap.size W bc) (fe:fV=0) :
  Calls prog 47 #[.string s,.int .i64 m] w λe w'=>e=.returned (nc (none))/\Below w.heap.size w w':=by
 have z0:((bj:Int) == 0)=false:=cz
 have d0:decide ((m:Int)<0)=false:=aT;have d1:decide ((m:Int)<v)=false:=aT;have d2:decide ((1048576:Int)<v)=false:=aT;have sk:decide (m<v)=false:=aT;have bv:v<=100000:=by omega
 have i6:(1:Int)+bj=cj:=by omega
 have bP:cj<=2000:=by omega
 have dB:=I bp;have rX:=I nW;have Je:((z:Int) == 0)=false:=cz
 have kC:(cj:Int)+z=cn:=by omega
 have bq:cn<=2000:=by omega
 clear bp nW;subst fe;clear h aw iI af aO hq;have g9:=I eV;clear eV;go_enter func47,ntmps47
 go_wp2_with fail
 refine(g9.out _).mono ?_;rintro e au ⟨rfl,aH⟩;have aK:=I aH;clear aH g9;go_wp2_with fail
 refine(dB.out _).mono ?_;rintro e aB ⟨⟨A,c,rfl,e7⟩,aI⟩;have aV:=b9 aK aI;have kM:=I e7;clear aI aK dB e7;go_wp2_with fail
 refine(rX.out _).mono ?_;rintro e a1 ⟨rfl,bz⟩;have bE:=b9 aV bz;have uT:=I (c9 kM.out bz);clear bz aV rX kM;clear uT;go_wp2;go_ret2;exact⟨rfl,bE⟩
theorem ao0(s s1:ByteArray)(L v bj:Nat)(w:ai)(fi:s.toList.isEmpty=false)(bI:s.size=L)(bR:L<=2000)
  (fL:∀W:ai,(Instr.slice 9 (.string s) (some (.int .i64 1)) none none).run prog W=.ok (.string s1) W)
  (eV:∀W,Calls prog 25 #[.string s1] W λe bc=>e=.returned (.tuple #[.int .u64 v,.int .i64 bj])/\Below W.heap.size W bc)
  (m:Nat) (hm:m<=100000) (h:0<bj) (af:v<=m) (cj:Nat) (aw:cj=1+bj) (iI:cj<=L) (hidx:∀W:ai,(Instr.index 9 (.string s) (.int .i64 0)).run prog W=.ok (.int .u8 2) W) (s2:ByteArray) (tT:∀W:ai,(Instr.slice 9 (.string s) (some (.int .i64 cj)) none none).run prog W=.ok (.string s2) W) (U:ae) (z:Nat) (aO:0<z) (cn:Nat) (hq:cn=cj+z) (kk:cn<=L) (bp:∀W,Calls prog 76 #[.string s2] W λe bc=>(∃A c,e=.returned (.tuple #[.slice A U.length c,.int .i64 z])/\Reads bc A (aM U))/\Below W.heap.size W bc)
  (jd:ByteArray) (xm:∀W:ai,(Instr.slice 9 (.string s) (some (.int .i64 cn)) none none).run prog W=.ok (.string jd) W)
  (v2 fV:Nat) (nW:∀W,Calls prog 25 #[.string jd] W λe bc=>e=.returned (.tuple #[.int .u64 v2,.int .i64 fV])/\Below W.heap.size W bc) (hsz2:0<fV) (gT:cn+fV<=L) (fe:L-cn-fV<v2) :
  Calls prog 47 #[.string s,.int .i64 m] w λe w'=>e=.returned (nc (none))/\Below w.heap.size w w':=by
 have z0:((bj:Int) == 0)=false:=cz
 have d0:decide ((m:Int)<0)=false:=aT;have d1:decide ((m:Int)<v)=false:=aT;have d2:decide ((1048576:Int)<v)=false:=aT;have sk:decide (m<v)=false:=aT;have bv:v<=100000:=by omega
 have i6:(1:Int)+bj=cj:=by omega
 have bP:cj<=2000:=by omega
 have dB:=I bp;have rX:=I nW;have Je:((z:Int) == 0)=false:=cz
 have kC:(cj:Int)+z=cn:=by omega
 have bq:cn<=2000:=by omega
 clear bp nW;have ace:((fV:Int) == 0)=false:=cz
 obtain⟨q,El⟩:∃q,q=L-cn-fV:=⟨_,rfl⟩;have zu:(L:Int)-cn-fV=q:=by omega
 have dq:decide ((q:Int)<v2)=true:=cl;have Ub:decide (q<v2)=true:=cl;have K4:q<=2000:=by omega
 clear h aw iI af aO hq fe El;have g9:=I eV;clear eV;go_enter func47,ntmps47
 go_wp2_with fail
 refine(g9.out _).mono ?_;rintro e au ⟨rfl,aH⟩;have aK:=I aH;clear aH g9;go_wp2_with fail
 refine(dB.out _).mono ?_;rintro e aB ⟨⟨A,c,rfl,e7⟩,aI⟩;have aV:=b9 aK aI;have kM:=I e7;clear aI aK dB e7;go_wp2_with fail
 refine(rX.out _).mono ?_;rintro e a1 ⟨rfl,bz⟩;have bE:=b9 aV bz;have uT:=I (c9 kM.out bz);clear bz aV rX kM;clear uT;go_wp2;go_ret2;exact⟨rfl,bE⟩
end Go.Proofs.YtgiicohbigiapaaGreat
