/- Contracts. -/
import Derived.Test.YtgiicohbigiapaaGreatOal
import Derived.Test.YtgiicohbigiapaaGreatOaf
import Derived.Test.YtgiicohbigiapaaGreatOz2
import Derived.Test.YtgiicohbigiapaaGreatOz1
import Derived.Test.YtgiicohbigiapaaGreatOz0
set_option maxHeartbeats 4000000
set_option maxRecDepth 100000
open Go.Proofs.Tryz Go.Proofs.YtgiicohbigiapaaGreat.am List Nat Option
namespace Go.Proofs.YtgiicohbigiapaaGreat
open Go.RowKit
theorem ali:(prog.info? 223).map (λi=>(i.zero,i.size,i.bytes))=some (some (.agg #[.int .i64 0,.int .i64 0]),2,16):=by kernel_rfl
theorem ZI(v:Value)(W:ah):(Instr.typeAssert (.iface 223 v) 20 223 true).run prog W=.ok (.tuple #[v,.bool true]) W:=by kernel_rfl
theorem am6(L:List hR)(a q:Nat):bU L++[.int .i64 a,.int .i64 q]=bU (L++[(a,q)]):=by
 unfold bU;rw[Kc];rfl
theorem aoy{base p g cap a q gy ik:Nat}{L:List hR}{w aw fb:ah}(ax:fE aw base p g cap L)(hw:av w aw)(ak:base<=w.heap.size)
  (b9:fb.ownsRow base 223 2 (.slice (some ⟨gy,0,none⟩) (L.length+1) ik) (L.length+1) (bU L++[.int .i64 a,.int .i64 q]))(aF:aw.grownBy fb (some g)) :
  fE (fb.setCell ⟨p,0,none⟩ (.slice (some ⟨gy,0,none⟩) (L.length+1) ik)) base p gy ik (L++[(a,q)])/\ki base w (fb.setCell ⟨p,0,none⟩ (.slice (some ⟨gy,0,none⟩) (L.length+1) ik)):=by
 obtain⟨post,cn,hrow⟩:=ax.row;have aD:Row fb p 258 [.slice (some ⟨g,0,none⟩) L.length cap]:=ax.var.keep (aF.block p ax.var.lt (λe=>by injection e with e;exact ax.ne e));have n6:=aD.bq 0 (.slice (some ⟨gy,0,none⟩) (L.length+1) ik);have AP:Row (fb.setCell ⟨p,0,none⟩ (.slice (some ⟨gy,0,none⟩) (L.length+1) ik)) p 258 [.slice (some ⟨gy,0,none⟩) (L++[(a,q)]).length ik]:=by
  rw[aY];exact n6
 rw[am6]at b9;have aZ:(Value.slice (some ⟨gy,0,none⟩) (L.length+1) ik).ownBlock≠some p:=λe=>by
  obtain⟨c,qI,hk⟩:=Lib.ownsRow_kind b9 p e;unfold Row at aD;rw[aD]at hk;injection hk with hk
  injection hk with _ hk
  exact absurd hk (by decide)
 have UX:=ownsRow_setCell_other b9 (a:=⟨p,0,none⟩) aZ (.slice (some ⟨gy,0,none⟩) (L.length+1) ik);refine⟨aod AP ax.yR (by rw[aY];exact UX),?_⟩;have bh:ki base w aw:=ki.below hw ak;have bN:ki base aw fb:=ki.grown aF hrow (.inr rfl) ax.yQ;have en:ki base fb (fb.setCell ⟨p,0,none⟩ (.slice (some ⟨gy,0,none⟩) (L.length+1) ik)):=ki.grown (ho (dg fb (some p)) 0 _) aD (.inl rfl) ax.yR;exact(bh.trans bN).trans en
theorem as2(base p g cap a q:Nat)(L:List hR)(w:ah)(ak:base<=w.heap.size)(bR:L.length<=100000)(ax:fE w base p g cap L) :
  Calls prog 257 #[.pointer (some ⟨p,0,none⟩),.iface 223 (.agg #[.int .i64 a,.int .i64 q])] w λe w'=>e=.returned (.tuple #[])/\∃eT cap',fE w' base p eT cap' (L++[(a,q)])/\ki base w w':=by
 obtain⟨i0,ay,bC,bL,bz⟩:=info_parts ali;have jK:=I ax;clear ax;go_enter func257,ntmps257
 have VU:=λW=>ZI (.agg #[.int .i64 a,.int .i64 q]) W
 go_wp2_with fail
 clear VU;obtain⟨aw,gU⟩:∃aw,aw=w.alloc (.cells #[.int .i64 a,.int .i64 q] 223):=⟨_,rfl⟩;have eu:av w aw:=by rw[gU];exact dM.alloc bl _
 have iL:=jK.out.below eu;have wA:Row aw w.heap.size 223 [.int .i64 a,.int .i64 q]:=by rw[gU];exact Row.new w _ _
 have ls:g<w.heap.size:=by
  obtain⟨_,_,aj⟩:=jK.out.row;exact aj.lt
 rw[<-gU];have hM:aw.heap.size=w.heap.size+1:=by rw[gU];simp
 clear gU;have k6:∀W,aw.grownBy W (some g)->W.cell? ⟨p,0,none⟩=some (.slice (some ⟨g,0,none⟩) L.length cap):=λW bk=>by
  rw[bk.cell_far _ (by exact iL.var.lt) (λe=>iL.ne (by injection e)),iL.cell]
 have yb:∀W,aw.grownBy W (some g)->W.frozen? ⟨p,0,none⟩=false:=λW bk=>by
  rw[bk.frozen_far _ (by exact iL.var.lt) (λe=>iL.ne (by injection e)),iL.var.free]
 have dc:∀W,aw.grownBy W (some g)->W.cell? ⟨w.heap.size,0,none⟩=some (.int .i64 a):=λW bk=>by
  rw[bk.cell_far _ (by exact wA.lt) (λe=>by injection e with e;exact absurd (show w.heap.size=g from e) (by omega)),wA.cell];rfl
 have aH:∀W,aw.grownBy W (some g)->W.cell? ⟨w.heap.size,1,none⟩=some (.int .i64 q):=λW bk=>by
  rw[bk.cell_far _ (by exact wA.lt) (λe=>by injection e with e;exact absurd (show w.heap.size=g from e) (by omega)),wA.cell];rfl
 have c0:=k6 aw (dg aw _);have c1:=dc aw (dg aw _);have c2:=aH aw (dg aw _);have aul:=k6 (aw.alloc (.cells #[.int .i64 a,.int .i64 q] 223)) (im (dg aw _) _);have abO:=I k6;have aco:=I yb;have sR:=I eu;have E0:=I iL;have Ji:Hid ((aw.alloc (.cells #[.int .i64 a,.int .i64 q] 223)).drew.ownsRow base 223 2 (.slice (some ⟨g,0,none⟩) L.length cap) L.length (bU L)):=I (iL.own.alloc _);have j3:Hid (∀(j:Nat) (u:Value),[Value.int .i64 a,Value.int .i64 q][j]?=some u->(aw.alloc (.cells #[.int .i64 a,.int .i64 q] 223)).drew.cell? ((⟨aw.heap.size,0,none⟩:Addr).add j)=some u):=I (λj u hu=>by
  match j,hu with
 |0,hu=>simp at hu;subst hu;simp[Addr.add]
 |1,hu=>simp at hu;subst hu;simp[Addr.add])
 have qh:base<=aw.heap.size:=by omega
 clear k6 yb dc aH eu iL wA hM ls;go_region_law ((refine step_append_lies ((aw.alloc (.cells #[.int .i64 a,.int .i64 q] 223)).drew) (by rfl) _ _ _ (by rfl) base 223 i0 (.agg #[.int .i64 0,.int .i64 0]) 2 16 underlying258 ay bC bL bz rfl (by omega) (.slice (some ⟨g,0,none⟩) L.length cap) L.length (bU L) (by rfl) Ji.out ⟨aw.heap.size,0,none⟩ 1 1 [.int .i64 a,.int .i64 q] (by rfl) (by rfl) j3.out (by intro u hu;simp at hu;rcases hu with rfl|rfl<;>rfl) (by omega) (by unfold maxLen;omega) (by omega) (by simp;omega) (aw.heap.size+1) (by simp) ?_;intro gy ik fb lU jQ qJ _;have BX:=I lU;have xk:Hid (aw.grownBy fb (some g)):=I ((ns (im (dg aw (some g)) _)).trans jQ);have ag2:=abO.out fb xk.out;have ah7:=aco.out fb xk.out;clear lU jQ qJ))
 all_goals
  go_wp2_with fail
  go_end0
  obtain⟨gE,c9⟩:=aoy E0.out sR.out ak BX.out xk.out;exact⟨rfl,gy,ik,gE,c9⟩
theorem am7(L:List hR)(k:Nat):bU (L.take k)=(bU L).take (k*2):=agp L k
theorem aoi{base p g cap n:Nat}{L:List hR}{w aw:ah}(ax:fE aw base p g cap L)(hw:av w aw)(ak:base<=w.heap.size)(aA:L.length=n+1) :
  fE (aw.setCell ⟨p,0,none⟩ (.slice (some ⟨g,0,none⟩) n cap)) base p g cap (L.take n)/\ga base p g w (aw.setCell ⟨p,0,none⟩ (.slice (some ⟨g,0,none⟩) n cap)):=by
 obtain⟨post,cn,hrow⟩:=ax.row;have aD:=ax.var;have n6:=aD.bq 0 (.slice (some ⟨g,0,none⟩) n cap);have au:(L.take n).length=n:=by rw[cr];omega
 have AP:Row (aw.setCell ⟨p,0,none⟩ (.slice (some ⟨g,0,none⟩) n cap)) p 258 [.slice (some ⟨g,0,none⟩) (L.take n).length cap]:=by
  rw[au];exact n6
 have aL:=ax.fits;have hl:=wi (f:=nC) (h:=nB) L;have bh:ga base p g w aw:=ga.below hw ak;have en:ga base p g aw (aw.setCell ⟨p,0,none⟩ (.slice (some ⟨g,0,none⟩) n cap)):=ga.grown (ho (dg aw (some p)) 0 _) aD.lt (.inl rfl) ax.yR;refine⟨⟨ax.yR,ax.yQ,by omega,ax.most,AP,(bU L).drop (n*2)++post,?_,?_⟩,bh.trans en⟩
 .rw[aY,cB,au];unfold bU;omega
 .rw[am7,<-df,gq];exact hrow.cG (λe=>ax.ne e.symm) _
theorem as1(base p g cap n:Nat)(L:List hR)(w:ah)(ak:base<=w.heap.size)(bR:L.length<=100000)(aA:L.length=n+1)(ax:fE w base p g cap L) :
  Calls prog 256 #[.pointer (some ⟨p,0,none⟩)] w λe w'=>e=.returned (.iface 223 (.agg #[nC (L[n]?.getD (0,0)),nB (L[n]?.getD (0,0))]))/\fE w' base p g cap (L.take n)/\ga base p g w w':=by
 have jK:=I ax;have c0:=ax.cell;obtain⟨post,cn,hrow⟩:=ax.row;obtain⟨bD,bh⟩:=vt (f:=nC) (h:=nB) hrow n (by omega);have fj:L[n]?.getD (0,0)=L[n]:=by rw[bI (by omega),b7]
 rw[fj];have dO:=I (aoi ax dM ak aA);have qQ:w.frozen? ⟨p,0,none⟩=false:=ax.var.free 0;have Dl:=ax.var.lt;have ls:=hrow.lt;have gY:=ax.fits;have b0:Hid (L.length=n+1):=I aA;clear ax hrow cn fj;simp only[nC,nB]at bD bh ⊢;generalize L[n].1=a at *;generalize L[n].2=q at *;rw[aA]at c0 gY;have iK:n<=100000:=by omega
 clear aA bR;go_enter func256,ntmps256
 go_wp2_with fail
 go_ret;obtain⟨gE,c9⟩:=dO.out;have aJ:=(Below.refl (w.setCell ⟨p,0,none⟩ (.slice (some ⟨g,0,none⟩) n cap)).heap.size _).alloc bl (.cells #[.int .i64 a,.int .i64 q] 223);exact⟨rfl,gE.below aJ,c9.trans (ga.below aJ (dl ak c9.dn.size))⟩
section
variable {w:ah} {base p g cap n c:Nat} {L:List hR}
theorem D3(h:fE w base p g cap L)(i j:Nat)(ay:i<L.length)(ar:j<L.length) :
  Calls prog 255 #[.slice (some ⟨g,0,none⟩) L.length cap,.int .i64 i,.int .i64 j] w λe w'=>e=.returned (.bool (decide (gD (am.bZ L i) (am.bZ L j))))/\av w w':=by
 obtain⟨post,_,aj⟩:=h.row;have h1:=vt (f:=nC) (h:=nB) aj i ay;have af:=vt (f:=nC) (h:=nB) aj j ar;unfold am.bZ;rw[bI ay,bI ar,b7,b7];exact as0 g L.length cap i j L[i] L[j] w ay ar h1 af
theorem D4(h:fE w base p g cap L)(i j:Nat)(ay:i<L.length)(ar:j<L.length) :
  Calls prog 258 #[.slice (some ⟨g,0,none⟩) L.length cap,.int .i64 i,.int .i64 j] w λe w'=>e=.returned (.tuple #[])/\fE w' base p g cap (swp (0,0) L i j)/\ga base p g w w':=by
 obtain⟨post,hl,aj⟩:=h.row;refine(as3 g cap i j L post w ay ar aj).mono ?_;rintro e w' ⟨he,h1,af⟩;exact⟨he,h.same (HL _ _ _ _) af hl h1,ga.grown af aj.lt (.inr rfl) h.yQ⟩
end
theorem CD:∀args w,(callFunc 255 args).run prog w=.ok (.enter 255 args) w:=enters_of func255 (by kernel_rfl) rfl
theorem CF:∀args w,(callFunc 258 args).run prog w=.ok (.enter 258 args) w:=enters_of func258 (by kernel_rfl) rfl
theorem Sm:∀args w,(callFunc 168 args).run prog w=.ok (.enter 168 args) w:=enters_of func168 (by kernel_rfl) rfl
theorem ahK:∀args w,(callFunc 257 args).run prog w=.ok (.enter 257 args) w:=enters_of func257 (by kernel_rfl) rfl
theorem ahJ:∀args w,(callFunc 256 args).run prog w=.ok (.enter 256 args) w:=enters_of func256 (by kernel_rfl) rfl
theorem akp(base p g cap j:Nat)(L:List hR)(w:ah)(ak:base<=w.heap.size)(bR:L.length<=100000)(ar:j<L.length)(ax:fE w base p g cap L)(hu:v8 L L.length j) :
  Calls prog 218 #[.iface 220 (.pointer (some ⟨p,0,none⟩)),.int .i64 j] w λe w'=>e=.returned (.tuple #[])/\∃L',L'.Perm L/\kR L' L'.length/\fE w' base p g cap L'/\ga base p g w w':=by
 obtain⟨n,aA⟩:∃n,n=L.length:=⟨_,rfl⟩;rw[<-aA]at bR ar hu;have b0:=I aA;have jK:=I ax;have zE:=I hu;clear aA ax hu;go_enter func218,ntmps218
 go_wp2;go_loopw [1] (λhB wr=>∃(j:Nat) (L':List hR),hB=.int .i64 j/\j<n/\Hid (L'.Perm L)/\Hid (v8 L' n j)/\Hid (fE wr base p g cap L')/\Hid (ga base p g w wr)) (λhB _=>(intOf hB).toNat)
 case atStart=>exact⟨j,L,rfl,ar,I (List.Perm.refl _),zE,jK,I (ga.refl _ _ _ _)⟩
 case round=>
  obtain⟨j,L',rfl,ar,hperm,qZ,cn,hk⟩:=hrel;have hlen:L'.length=n:=by rw[hperm.out.length_eq,b0.out]
  have Hlen:=I hlen;have c0:=cn.out.cell;rw[hlen]at c0;clear hlen;by_cases ao:j=0
  .subst ao;have hfin:∃L',L'.Perm L/\kR L' L'.length/\fE wr base p g cap L'/\ga base p g w wr:=⟨L',hperm.out,by rw[Hlen.out];exact asY _ _ qZ,cn,hk⟩;have br:=I hfin;clear hfin;go_wp2;go_end0
   exact⟨rfl,br⟩
  .have Nu:=D5 p n cap (some ⟨g,0,none⟩) wr c0;have KB:=CD;obtain⟨i,ay⟩:∃i,i=(j-1)/2:=⟨_,rfl⟩;have hq:((j-1:Nat):Int)/2=(i:Int):=by omega
   have ey:((j:Int)-1)/2=(i:Int):=by omega
   have uX:i<j:=by omega
   have hl:=D3 cn.out j i (by rw[Hlen.out];exact ar) (by rw[Hlen.out];omega);rw[Hlen.out]at hl;have gj:=I hl;have sW:=I ay;clear hl ay;obtain⟨r,aj⟩:∃r,r=decide (gD (am.bZ L' j) (am.bZ L' i)):=⟨_,rfl⟩;rw[<-aj]at gj;have bj:=I aj;clear aj;go_wp2_with fail
   refine gj.out.mono ?_;rintro e aw ⟨rfl,aH⟩;clear hq ey;have lu:=cn.out.below aH;have pW:=I (hk.out.trans (ga.below aH (dl ak hk.out.dn.size)));have c1:=lu.cell;rw[Hlen.out]at c1;have ue:=I lu;clear aH lu Nu KB c0 hk cn;cases r with
  |false=>
    have au:¬gD (am.bZ L' j) (am.bZ L' i):=by have:=bj.out;simpa using this.symm
    rw[sW.out]at au;have hfin:∃L',L'.Perm L/\kR L' L'.length/\fE aw base p g cap L'/\ga base p g w aw:=⟨L',hperm.out,by rw[Hlen.out];exact asX _ _ _ qZ.out au,ue,pW⟩;have br:=I hfin;clear hfin au;go_wp2;go_end0
    exact⟨rfl,br⟩
  |true=>
    have au:gD (am.bZ L' j) (am.bZ L' i):=by have:=bj.out;simpa using this.symm
    have ce:=I au;have vk:=D6 p n cap (some ⟨g,0,none⟩) aw c1;have uD:=CF;have ap:=D4 ue.out i j (by rw[Hlen.out];omega) (by rw[Hlen.out];exact ar);rw[Hlen.out]at ap;have ca:=I ap;clear ap au;go_wp2_with fail
    refine ca.out.mono ?_;rintro e aC ⟨rfl,qg,ft⟩;have V3:v8 (swp (0,0) L' i j) n i:=by
     have h1:=asZ L' n j (by rw[Hlen.out];exact Nat.le_refl _) ar (by omega) qZ.out (by rw[<-sW.out];exact ce);rw[<-sW.out]at h1;exact h1
    have aee:=I V3;have adq:=I qg;have uc:=I (pW.out.trans ft);have adt:=I ((Er L' i j (by rw[Hlen.out];omega) (by rw[Hlen.out];exact ar)).trans hperm);clear V3 qg ft vk uD c1;go_wp2;go_roundw
    case rel=>exact⟨i,swp (0,0) L' i j,rfl,by omega,adt,aee,adq,uc⟩
    case measure=>simp[intOf];omega
def Pu(e:Ending):Prop:=∃b,e=.returned (.bool b)
theorem Fs(b:Bool):Pu (.returned (.bool b)):=⟨b,rfl⟩
theorem akl(base p g cap n:Nat)(L:List hR)(w:ah)(ak:base<=w.heap.size)(bR:L.length<=100000)(aA:n<L.length)(ax:fE w base p g cap L)(aI:zd L n 0) :
  Calls prog 219 #[.iface 220 (.pointer (some ⟨p,0,none⟩)),.int .i64 0,.int .i64 n] w λe w'=>Pu e/\∃L',L'.Perm L/\kR L' n/\(∀k,n<=k->am.bZ L' k=am.bZ L k)/\fE w' base p g cap L'/\ga base p g w w':=by
 obtain⟨tE,Ma⟩:∃tE,tE=L.length:=⟨_,rfl⟩;rw[<-Ma]at bR aA;have ac3:=I Ma;have jK:=I ax;have fC:=I aI;clear Ma ax aI;go_enter func219,ntmps219
 go_wp2;go_loopw [7] (λbV wr=>∃(i:Nat) (L':List hR),bV=.int .i64 i/\i<=n/\Hid (L'.Perm L)/\Hid (∀k,n<=k->am.bZ L' k=am.bZ L k)/\Hid (zd L' n i)/\Hid (fE wr base p g cap L')/\Hid (ga base p g w wr)) (λbV _=>n-(intOf bV).toNat)
 case atStart=>exact⟨0,L,rfl,by omega,I (List.Perm.refl _),I (λ_ _=>rfl),fC,jK,I (ga.refl _ _ _ _)⟩
 case round=>
  obtain⟨i,L',rfl,ay,hperm,hsame,r3,cn,hk⟩:=hrel;have hlen:L'.length=tE:=by rw[hperm.out.length_eq,ac3.out]
  have Hlen:=I hlen;have c0:=cn.out.cell;rw[hlen]at c0;clear hlen;by_cases h1:n<=2*i+1
  .have hfin:∃L',L'.Perm L/\kR L' n/\(∀k,n<=k->am.bZ L' k=am.bZ L k)/\fE wr base p g cap L'/\ga base p g w wr:=⟨L',hperm.out,FO _ _ _ r3.out (λk bD jU dC=>by omega),hsame.out,cn.out,hk.out⟩;have br:=I hfin;clear hfin;go_wp2;go_ret;exact⟨Fs _,br⟩
  .by_cases af:n<=2*i+2
   .have vM:Hid (∀k,0<k->k<n->(k-1)/2=i->¬gD (am.bZ L' k) (am.bZ L' (2*i+1))):=I (λk bD jU dC=>by
     obtain rfl:k=2*i+1:=by omega
     rw[oV];omega)
    have DU:=D5 p tE cap (some ⟨g,0,none⟩) wr c0;have Cz:=CD;have ew:=D3 cn.out (2*i+1) i (by rw[Hlen.out];omega) (by rw[Hlen.out];omega);rw[Hlen.out]at ew;obtain⟨c9,bS⟩:∃c9,c9=decide (gD (am.bZ L' (2*i+1)) (am.bZ L' i)):=⟨_,rfl⟩;rw[<-bS]at ew;have fg:=I bS;have ox:=I ew;clear bS ew;have hcast:Value.int IntKind.i64 (((2*i+1:Nat)):Int)=.int .i64 (2*(i:Int)+1):=by go_num
    rw[hcast]at ox;clear hcast;go_wp2_with fail
    refine ox.out.mono ?_;rintro e a6 ⟨rfl,bA⟩;have pB:=cn.out.below bA;have l6:=I (hk.out.trans (ga.below bA (dl ak hk.out.dn.size)));have c3:=pB.cell;rw[Hlen.out]at c3;have vR:=I pB;clear bA pB DU Cz c0;cases c9 with
   |false=>
     have au:¬gD (am.bZ L' (2*i+1)) (am.bZ L' i):=by have:=fg.out;simpa using this.symm
     have hfin:∃L',L'.Perm L/\kR L' n/\(∀k,n<=k->am.bZ L' k=am.bZ L k)/\fE a6 base p g cap L'/\ga base p g w a6:=⟨L',hperm,FO _ _ _ r3.out (λk bD jU dC=>by
      have h1:=vM.out k bD jU dC;rw[oV]at h1 au ⊢;omega),hsame.out,vR.out,l6.out⟩
     have br:=I hfin;clear hfin au;go_wp2;go_ret;exact⟨Fs _,br⟩
   |true=>
     have au:gD (am.bZ L' (2*i+1)) (am.bZ L' i):=by have:=fg.out;simpa using this.symm
     have ce:=I au;have vk:=D6 p tE cap (some ⟨g,0,none⟩) a6 c3;have uD:=CF;have ap:=D4 vR.out i (2*i+1) (by rw[Hlen.out];omega) (by rw[Hlen.out];omega);rw[Hlen.out]at ap;have ca:=I ap;clear ap au;go_wp2_with fail
     refine ca.out.mono ?_;rintro e bH ⟨rfl,wI,u4⟩;have BH:=I (Ky L' n i (2*i+1) (by rw[Hlen.out];omega) (by omega) (by omega) (by omega) r3.out ce.out vM.out);have BZ:=I wI;have xu:=I (l6.out.trans u4);have B0:=I ((Er L' i (2*i+1) (by rw[Hlen.out];omega) (by rw[Hlen.out];omega)).trans hperm.out);have Cc:Hid (∀k,n<=k->am.bZ (swp (0,0) L' i (2*i+1)) k=am.bZ L k):=I (λk hk=>by
      rw[y5 L' i (2*i+1) k (by rw[Hlen.out];omega) (by rw[Hlen.out];omega),az (by omega),az (by omega)];exact hsame.out k hk)
     clear wI u4 vk uD c3;go_wp2;go_roundw
     case rel=>exact⟨(2*i+1),swp (0,0) L' i (2*i+1),by go_num,by omega,B0,Cc,BH,BZ,xu⟩
     case measure=>simp[intOf];omega
   .have Nu:=D5 p tE cap (some ⟨g,0,none⟩) wr c0;have KB:=CD;have hl:=D3 cn.out (2*i+2) (2*i+1) (by rw[Hlen.out];omega) (by rw[Hlen.out];omega);rw[Hlen.out]at hl;obtain⟨r,aj⟩:∃r,r=decide (gD (am.bZ L' (2*i+2)) (am.bZ L' (2*i+1))):=⟨_,rfl⟩;rw[<-aj]at hl;have bj:=I aj;rw[show((2*i+2:Nat):Int)=2*(i:Int)+1+1 by omega,show((2*i+1:Nat):Int)=2*(i:Int)+1 by omega]at hl;have gj:=I hl;clear aj hl;go_wp2_with fail
    refine gj.out.mono ?_;rintro e aw ⟨rfl,aH⟩;have lu:=cn.out.below aH;have pW:=I (hk.out.trans (ga.below aH (dl ak hk.out.dn.size)));have c1:=lu.cell;rw[Hlen.out]at c1;have ue:=I lu;clear aH lu Nu KB c0 hk cn;cases r with
   |false=>
     have au:¬gD (am.bZ L' (2*i+2)) (am.bZ L' (2*i+1)):=by have:=bj.out;simpa using this.symm
     have vM:Hid (∀k,0<k->k<n->(k-1)/2=i->¬gD (am.bZ L' k) (am.bZ L' (2*i+1))):=I (λk bD jU dC=>by
      obtain rfl|rfl:k=2*i+1\/k=2*i+2:=by omega
      .rw[oV];omega
      .exact au)
     clear au;have DU:=D5 p tE cap (some ⟨g,0,none⟩) aw c1;have Cz:=CD;have ew:=D3 ue.out (2*i+1) i (by rw[Hlen.out];omega) (by rw[Hlen.out];omega);rw[Hlen.out]at ew;obtain⟨c9,bS⟩:∃c9,c9=decide (gD (am.bZ L' (2*i+1)) (am.bZ L' i)):=⟨_,rfl⟩;rw[<-bS]at ew;have fg:=I bS;have ox:=I ew;clear bS ew;have hcast:Value.int IntKind.i64 (((2*i+1:Nat)):Int)=.int .i64 (2*(i:Int)+1):=by go_num
     rw[hcast]at ox;clear hcast;go_wp2_with fail
     refine ox.out.mono ?_;rintro e a6 ⟨rfl,bA⟩;have pB:=ue.out.below bA;have l6:=I (pW.out.trans (ga.below bA (dl ak pW.out.dn.size)));have c3:=pB.cell;rw[Hlen.out]at c3;have vR:=I pB;clear bA pB DU Cz c1;cases c9 with
    |false=>
      have au:¬gD (am.bZ L' (2*i+1)) (am.bZ L' i):=by have:=fg.out;simpa using this.symm
      have hfin:∃L',L'.Perm L/\kR L' n/\(∀k,n<=k->am.bZ L' k=am.bZ L k)/\fE a6 base p g cap L'/\ga base p g w a6:=⟨L',hperm,FO _ _ _ r3.out (λk bD jU dC=>by
       have h1:=vM.out k bD jU dC;rw[oV]at h1 au ⊢;omega),hsame.out,vR.out,l6.out⟩
      have br:=I hfin;clear hfin au;go_wp2;go_ret;exact⟨Fs _,br⟩
    |true=>
      have au:gD (am.bZ L' (2*i+1)) (am.bZ L' i):=by have:=fg.out;simpa using this.symm
      have ce:=I au;have vk:=D6 p tE cap (some ⟨g,0,none⟩) a6 c3;have uD:=CF;have ap:=D4 vR.out i (2*i+1) (by rw[Hlen.out];omega) (by rw[Hlen.out];omega);rw[Hlen.out]at ap;have ca:=I ap;clear ap au;go_wp2_with fail
      refine ca.out.mono ?_;rintro e bH ⟨rfl,wI,u4⟩;have BH:=I (Ky L' n i (2*i+1) (by rw[Hlen.out];omega) (by omega) (by omega) (by omega) r3.out ce.out vM.out);have BZ:=I wI;have xu:=I (l6.out.trans u4);have B0:=I ((Er L' i (2*i+1) (by rw[Hlen.out];omega) (by rw[Hlen.out];omega)).trans hperm.out);have Cc:Hid (∀k,n<=k->am.bZ (swp (0,0) L' i (2*i+1)) k=am.bZ L k):=I (λk hk=>by
       rw[y5 L' i (2*i+1) k (by rw[Hlen.out];omega) (by rw[Hlen.out];omega),az (by omega),az (by omega)];exact hsame.out k hk)
      clear wI u4 vk uD c3;go_wp2;go_roundw
      case rel=>exact⟨(2*i+1),swp (0,0) L' i (2*i+1),by go_num,by omega,B0,Cc,BH,BZ,xu⟩
      case measure=>simp[intOf];omega
   |true=>
     have au:gD (am.bZ L' (2*i+2)) (am.bZ L' (2*i+1)):=by have:=bj.out;simpa using this.symm
     have vM:Hid (∀k,0<k->k<n->(k-1)/2=i->¬gD (am.bZ L' k) (am.bZ L' (2*i+2))):=I (λk bD jU dC=>by
      obtain rfl|rfl:k=2*i+1\/k=2*i+2:=by omega
      .rw[oV]at au ⊢;omega
      .rw[oV];omega)
     clear au;have DU:=D5 p tE cap (some ⟨g,0,none⟩) aw c1;have Cz:=CD;have ew:=D3 ue.out (2*i+2) i (by rw[Hlen.out];omega) (by rw[Hlen.out];omega);rw[Hlen.out]at ew;obtain⟨c9,bS⟩:∃c9,c9=decide (gD (am.bZ L' (2*i+2)) (am.bZ L' i)):=⟨_,rfl⟩;rw[<-bS]at ew;have fg:=I bS;have ox:=I ew;clear bS ew;have hcast:Value.int IntKind.i64 (((2*i+2:Nat)):Int)=.int .i64 (2*(i:Int)+1+1):=by go_num
     rw[hcast]at ox;clear hcast;go_wp2_with fail
     refine ox.out.mono ?_;rintro e a6 ⟨rfl,bA⟩;have pB:=ue.out.below bA;have l6:=I (pW.out.trans (ga.below bA (dl ak pW.out.dn.size)));have c3:=pB.cell;rw[Hlen.out]at c3;have vR:=I pB;clear bA pB DU Cz c1;cases c9 with
    |false=>
      have au:¬gD (am.bZ L' (2*i+2)) (am.bZ L' i):=by have:=fg.out;simpa using this.symm
      have hfin:∃L',L'.Perm L/\kR L' n/\(∀k,n<=k->am.bZ L' k=am.bZ L k)/\fE a6 base p g cap L'/\ga base p g w a6:=⟨L',hperm,FO _ _ _ r3.out (λk bD jU dC=>by
       have h1:=vM.out k bD jU dC;rw[oV]at h1 au ⊢;omega),hsame.out,vR.out,l6.out⟩
      have br:=I hfin;clear hfin au;go_wp2;go_ret;exact⟨Fs _,br⟩
    |true=>
      have au:gD (am.bZ L' (2*i+2)) (am.bZ L' i):=by have:=fg.out;simpa using this.symm
      have ce:=I au;have vk:=D6 p tE cap (some ⟨g,0,none⟩) a6 c3;have uD:=CF;have ap:=D4 vR.out i (2*i+2) (by rw[Hlen.out];omega) (by rw[Hlen.out];omega);rw[Hlen.out]at ap;have ca:=I ap;clear ap au;go_wp2_with fail
      refine ca.out.mono ?_;rintro e bH ⟨rfl,wI,u4⟩;have BH:=I (Ky L' n i (2*i+2) (by rw[Hlen.out];omega) (by omega) (by omega) (by omega) r3.out ce.out vM.out);have BZ:=I wI;have xu:=I (l6.out.trans u4);have B0:=I ((Er L' i (2*i+2) (by rw[Hlen.out];omega) (by rw[Hlen.out];omega)).trans hperm.out);have Cc:Hid (∀k,n<=k->am.bZ (swp (0,0) L' i (2*i+2)) k=am.bZ L k):=I (λk hk=>by
       rw[y5 L' i (2*i+2) k (by rw[Hlen.out];omega) (by rw[Hlen.out];omega),az (by omega),az (by omega)];exact hsame.out k hk)
      clear wI u4 vk uD c3;go_wp2;go_roundw
      case rel=>exact⟨(2*i+2),swp (0,0) L' i (2*i+2),by go_num,by omega,B0,Cc,BH,BZ,xu⟩
      case measure=>simp[intOf];omega
def oH(w:ah)(base p:Nat)(L:List hR):Prop:=kR L L.length/\∃g cap,fE w base p g cap L
theorem Vb(base p a q:Nat)(L:List hR)(w:ah)(ak:base<=w.heap.size)(bR:L.length<100000)(ax:oH w base p L) :
  Calls prog 202 #[.iface 220 (.pointer (some ⟨p,0,none⟩)),.iface 223 (.agg #[.int .i64 a,.int .i64 q])] w λe w'=>e=.returned (.tuple #[])/\∃L',L'.Perm ((a,q)::L)/\oH w' base p L'/\ki base w w':=by
 obtain⟨hh,g,cap,cn⟩:=ax;have B1:=I (as2 base p g cap a q L w ak (by omega) cn);have hg:=I hh;clear hh cn;have Nw:=aog p w;have KC:=ahK;go_enter func202,ntmps202
 go_wp2_with fail
 refine B1.out.mono ?_;rintro e aw ⟨rfl,g1,zU,lu,ek⟩;have hlen:(L++[(a,q)]).length=L.length+1:=by simp
 have c1:=lu.cell;rw[hlen]at c1;have qZ:=akp base p g1 zU L.length (L++[(a,q)]) aw (dl ak ek.dn.size) (by omega) (by omega) lu (by rw[hlen];exact ajC L (a,q) hg);have s4:=I qZ;have pW:=I ek;have ue:=I lu;have Nv:=Yd p (L.length+1) zU (some ⟨g1,0,none⟩) aw c1;have zZ:=Sm;have Hlen:Hid (∀W,Calls prog 168 #[.slice (some ⟨g1,0,none⟩) (L.length+1) zU] W λe w'=>e=.returned (.int .i64 ((L.length:Int)+1))/\W=w'):=I (λW=>by
  have h1:=HU (some ⟨g1,0,none⟩) (L.length+1) zU W;rw[Int.natCast_add]at h1;exact h1)
 clear qZ ek lu hlen Nw KC;go_wp2_with fail
 refine(Hlen.out _).mono ?_;rintro e aC ⟨rfl,rfl⟩;clear Nv zZ c1;go_wp2_with fail
 refine s4.out.mono ?_;rintro e aC ⟨rfl,L',jR,yh,qg,ft⟩;have hfin:∃L',L'.Perm ((a,q)::L)/\oH aC base p L'/\ki base w aC:=⟨L',jR.trans (perm_append_singleton _ _),⟨yh,_,_,qg⟩,pW.out.trans (ft.kept ue)⟩;have br:=I hfin;clear hfin jR yh qg ft;go_wp2;go_end0
 exact⟨rfl,br⟩
def JR(w w':ah)(base p g cap:Nat)(L:List hR)(a q:Nat):Prop:=∃L',L.Perm ((a,q)::L')/\(∀y∈L',¬gD y (a,q))/\kR L' L'.length/\fE w' base p g cap L'/\ga base p g w w'
def aeG(w w':ah)(base p:Nat)(L:List hR)(a q:Nat):Prop:=∃L',L.Perm ((a,q)::L')/\(∀y∈L',¬gD y (a,q))/\oH w' base p L'/\ki base w w'
theorem aoh{w w':ah}{base p g cap n:Nat}{L iF:List hR}(aA:L.length=n+1)(hh:kR L L.length)(jR:iF.Perm (swp (0,0) L 0 n))(Gs:kR iF n)(et:∀k,n<=k->am.bZ iF k=am.bZ (swp (0,0) L 0 n) k)(cn:fE w' base p g cap (iF.take n))(hk:ga base p g w w') :
  iF[n]?.getD (0,0)=am.bZ L 0/\JR w w' base p g cap L (am.bZ L 0).1 (am.bZ L 0).2:=by
 have AB:=jR.trans (Er L 0 n (by omega) (by omega));have ew:iF.length=n+1:=by rw[AB.length_eq,aA]
 have he:am.bZ iF n=am.bZ L 0:=by
  rw[et n bl,y5 L 0 n n (by omega) (by omega),aB rfl]
 have Ae:iF=iF.take n++[am.bZ L 0]:=by
  rw[<-he];unfold am.bZ;rw[bI (by omega),b7,<-fY (by omega),take_of_length_le (by omega)]
 have hperm:L.Perm (am.bZ L 0::iF.take n):=AB.symm.trans (by
  conv=>lhs;rw[Ae]
  exact perm_append_singleton _ _)
 refine⟨he,iF.take n,hperm,λy hy=>?_,?_,cn,hk⟩
 .have n9:y∈L:=hperm.mem_iff.2 (eo _ hy);obtain⟨k,hk,rfl⟩:=List.mem_iff_getElem.1 n9;have h1:=ajA L L.length hh k hk;unfold am.bZ at h1;rw[bI hk,b7]at h1;exact h1
 .rw[cr,Nat.min_eq_left (by omega)];exact ajD iF n Gs
theorem ako(base p g cap n:Nat)(L:List hR)(w:ah)(ak:base<=w.heap.size)(bR:L.length<=100000)(aA:L.length=n+1)(hh:kR L L.length)(cn:fE w base p g cap L) :
  Calls prog 203 #[.iface 220 (.pointer (some ⟨p,0,none⟩))] w λe w'=>e=.returned (.iface 223 (.agg #[.int .i64 ((am.bZ L 0).1:Int),.int .i64 ((am.bZ L 0).2:Int)]))/\JR w w' base p g cap L (am.bZ L 0).1 (am.bZ L 0).2:=by
 have iK:n<=100000:=by omega
 have hg:=I hh;have c0:=cn.cell;rw[aA]at c0;have zD:=D4 cn 0 n (by omega) (by omega);rw[aA]at zD;have ca:=I zD;have Hlen:Hid (∀W,Calls prog 168 #[.slice (some ⟨g,0,none⟩) (n+1) cap] W λe w'=>e=.returned (.int .i64 ((n:Int)+1))/\W=w'):=I (λW=>by
  have h1:=HU (some ⟨g,0,none⟩) (n+1) cap W;rw[Int.natCast_add]at h1;exact h1)
 have o9:=I bR;have b0:=I aA;have Nv:=Yd p (n+1) cap (some ⟨g,0,none⟩) w c0;have zZ:=Sm;have vk:=D6 p (n+1) cap (some ⟨g,0,none⟩) w c0;have uD:=CF;obtain⟨a,aV⟩:∃a,a=(am.bZ L 0).1:=⟨_,rfl⟩;obtain⟨q,hq⟩:∃q,q=(am.bZ L 0).2:=⟨_,rfl⟩;rw[<-aV,<-hq];have iE:=I aV;have jt:=I hq;clear hh cn aA bR aV hq c0;go_enter func203,ntmps203
 go_wp2_with fail
 refine(Hlen.out _).mono ?_;rintro e aC ⟨rfl,rfl⟩;clear Nv zZ;go_wp2_with fail
 refine ca.out.mono ?_;rintro e aw ⟨rfl,lu,ek⟩;have aH:=dl ak ek.dn.size;have ab7:=I (akl base p g cap n (swp (0,0) L 0 n) aw aH (by rw[HL];exact o9.out) (by rw[HL,b0.out];omega) lu (ajB L n b0.out (by have h1:=hg.out;rw[b0.out]at h1;exact h1)));have pW:=I ek;clear lu ek vk uD;go_wp2_with fail
 refine ab7.out.mono ?_;rintro e aC ⟨wz,iF,jR,Gs,et,qg,ft⟩;obtain⟨bF,rfl⟩:=wz;have ew:iF.length=n+1:=by rw[jR.length_eq,HL,b0.out]
 have E2:=I (as1 base p g cap n iF aC (dl aH ft.dn.size) (by have:=o9.out;have:=b0.out;omega) ew qg);have uc:=I (pW.out.trans ft);have qA:=I jR;have zp:=I Gs;have rr:=I et;clear jR Gs et qg ft ew aH;have Nw:=aof p aC;have KC:=ahJ;go_wp2_with fail
 refine E2.out.mono ?_;rintro e a6 ⟨rfl,pB,kq⟩;obtain⟨he,hfin⟩:=aoh b0.out hg.out qA.out zp.out rr.out pB (uc.out.trans kq);have br:Hid (JR w a6 base p g cap L a q):=I (by rw[iE.out,jt.out];exact hfin);have gR:Hid (Value.iface 223 (.agg #[nC (iF[n]?.getD (0,0)),nB (iF[n]?.getD (0,0))])=.iface 223 (.agg #[.int .i64 a,.int .i64 q])):=I (by rw[he,iE.out,jt.out];rfl);rw[gR.out];clear he hfin pB kq Nw KC;go_wp2;go_ret;exact⟨rfl,br⟩
theorem fE.WK{w w':ah}{base p g cap:Nat}{L:List hR}(h:fE w base p g cap L)(ax:w'.heap[p]?=w.heap[p]?)(aF:w'.heap[g]?=w.heap[g]?):fE w' base p g cap L:=by
 obtain⟨post,h1,aj⟩:=h.row;exact⟨h.yR,h.yQ,h.fits,h.most,h.var.keep ax,post,h1,aj.keep aF⟩
theorem amj{w aw aC:ah}{base:Nat}(hk:ki base w aw)(bx:Below w.heap.size aw aC)(ak:base<=w.heap.size):ki base w aC:=
 ⟨hk.dn.trans (bx.mono ak),λb t ag h1 af aj=>(hk.rows b t ag h1 af aj).keep (bx.block b aj.lt)⟩
theorem Pd(base p n:Nat)(L:List hR)(w:ah)(ak:base<=w.heap.size)(bR:L.length<=100000)(aA:L.length=n+1)(ax:oH w base p L) :
  Calls prog 169 #[.pointer (some ⟨p,0,none⟩)] w λe w'=>e=.returned (.agg #[.int .i64 ((am.bZ L 0).1:Int),.int .i64 ((am.bZ L 0).2:Int)])/\aeG w w' base p L (am.bZ L 0).1 (am.bZ L 0).2:=by
 obtain⟨hh,g,cap,cn⟩:=ax;have dw:=(Below.refl w.heap.size w).alloc bl (.cells #[.int .i64 0,.int .i64 0] 223);have iL:=cn.below dw;have E2:=I (ako base p g cap n L _ (dl ak dw.size) bR aA hh iL);have lG:=I dw;have b5:=I ak;obtain⟨a,aV⟩:∃a,a=(am.bZ L 0).1:=⟨_,rfl⟩;obtain⟨q,hq⟩:∃q,q=(am.bZ L 0).2:=⟨_,rfl⟩;rw[<-aV,<-hq]at E2 ⊢;have VU:=λW=>ZI (.agg #[.int .i64 a,.int .i64 q]) W
 have Qs:=I cn.var.lt;have P7:Hid (g<w.heap.size):=I (by obtain⟨_,_,aj⟩:=cn.row;exact aj.lt);have adp:=I cn;clear hh cn dw iL bR aA aV hq;go_enter func169,ntmps169
 go_wp2_with fail
 refine E2.out.mono ?_;rintro e aw ⟨rfl,nz⟩;obtain⟨L',jR,hle,yh,lu,ek⟩:=nz;have hrow:Row aw w.heap.size 223 [.int .i64 0,.int .i64 0]:=(Row.new w 223 [.int .i64 0,.int .i64 0]).keep (ek.Fq _ (by simp) (by have:=Qs.out;omega) (by have:=P7.out;omega));have bD:=hrow.cell 0;have bh:=hrow.cell 1;have f0:=hrow.free 0;have f1:=hrow.free 1;simp only[dH,dJ]at bD bh;have au:=hrow.lt;have dr:=I hrow;have fe:Hid (∃L',L.Perm ((a,q)::L')/\(∀y∈L',¬gD y (a,q))/\kR L' L'.length/\fE aw base p g cap L'/\ga base p g w aw):=I ⟨L',jR,hle,yh,lu,(ga.below lG.out b5).trans ek⟩;clear jR hle yh lu ek hrow;go_wp2_with fail
 have hres:Row (((aw.setCell ⟨w.heap.size,0,none⟩ (.int .i64 a)).setCell ⟨w.heap.size,1,none⟩ (.int .i64 q)).alloc (.cells #[.int .i64 a,.int .i64 q] 223)) w.heap.size 223 [.int .i64 a,.int .i64 q]:=((dr.out.bq 0 _).bq 1 _).alloc _;refine bodyPost_ret (results_cell_row rfl _ _ w.heap.size 223 #[.int .i64 a,.int .i64 q] (0,0) _ rfl hres underlying223 rfl (by kernel_rfl)) rfl ?_;refine⟨rfl,?_⟩;obtain⟨L',jR,hle,yh,lu,ek⟩:=fe.out;have bx:Below w.heap.size aw (((aw.setCell ⟨w.heap.size,0,none⟩ (.int .i64 a)).setCell ⟨w.heap.size,1,none⟩ (.int .i64 q)).alloc (.cells #[.int .i64 a,.int .i64 q] 223)):=
  ((dM.setCell (by exact Nat.le_refl _) _).setCell (by exact Nat.le_refl _) _).alloc (by simpa [World.setCell]using Nat.le_of_lt au) _
 exact⟨L',jR,hle,⟨yh,g,cap,lu.WK (bx.block p Qs) (bx.block g P7)⟩,amj (ek.kept adp) bx b5⟩
theorem asM(A:a7)(c:Nat)(ag:ae)(w:ah)(hl:ag.length<=256)(aj:Reads w A (aM ag)) :
  Calls prog 167 #[.slice A ag.length c] w λe w'=>∃p L,e=.returned (.pointer (some ⟨p,0,none⟩))/\L.Perm (fA ag)/\oH w' w.heap.size p L/\av w w':=by
 have bj:=I aj;clear aj;go_enter func167,ntmps167
 go_wp2;go_loopw [10] (λbV wr=>∃k:Nat,k<=ag.length/\bV=.int .i64 k/\Hid (∃L,L.Perm (kx ag k)/\oH wr w.heap.size (w.heap.size+1) L)/\Hid (av w wr)) (λbV _=>ag.length-(intOf bV).toNat)
 case atStart=>
  have aH:=(Below.refl w.heap.size w).alloc bl (.cells #[] 223);have aJ:=aH.alloc aH.size (.cells #[.slice (some ⟨w.heap.size,0,none⟩) 0 0] 258);have gE:=(Row.new w 223 []).alloc (.cells #[.slice (some ⟨w.heap.size,0,none⟩) 0 0] 258);have c9:=Row.new (w.alloc (.cells #[] 223)) 258 [.slice (some ⟨w.heap.size,0,none⟩) 0 0];rw[show(w.alloc (.cells #[] 223)).heap.size=w.heap.size+1 by simp]at c9;exact⟨0,by omega,rfl,I ⟨[],by simp[kx],λk ao hk=>by simp at hk,w.heap.size,0,⟨by omega,by omega,by simp,by unfold maxLen;omega,c9,[],rfl,gE⟩⟩,I aJ⟩
 case round=>
  obtain⟨k,hk,rfl,cn,hbel⟩:=hrel;by_cases a8:k<ag.length
  .obtain⟨g,off,rfl,hc⟩:=kL (c7 bj.out hbel.out) (by omega);have c0:=hc k a8;have cN:=I (AX ag k);rw[bI a8,b7]at cN;have kb:=AW ag k;clear hc;generalize ag[k]=x at *;by_cases ai:0<x
   .rw[aB ai]at cN;have hpush:Calls prog 202 #[.iface 220 (.pointer (some ⟨w.heap.size+1,0,none⟩)),.iface 223 (.agg #[.int .i64 x,.int .i64 k])] wr λe w'=>e=.returned (.tuple #[])/\Hid (∃L,L.Perm (kx ag (k+1))/\oH w' w.heap.size (w.heap.size+1) L)/\Hid (av w w'):=by
     obtain⟨L,jR,yz⟩:=cn.out;refine(Vb w.heap.size (w.heap.size+1) x k L wr hbel.out.size (by rw[jR.length_eq];omega) yz).mono ?_;rintro e w' ⟨rfl,L',Dn,akm,aj1⟩;refine⟨rfl,I ⟨L',Dn.trans ?_,akm⟩,I (hbel.out.trans aj1.dn)⟩;rw[cN.out];exact(jR.cons _).trans (perm_append_singleton _ _).symm
    have B1:=I hpush;clear hpush cn hbel;go_wp2_with fail
    refine B1.out.mono ?_;rintro e w' ⟨rfl,hpl',Gj⟩;go_wp2;go_roundw
    case rel=>exact⟨k+1,by omega,by go_num,hpl',Gj⟩
    case measure=>simp[intOf];omega
   .rw[az ai,append_nil]at cN;go_wp2;go_roundw
    case rel=>exact⟨k+1,by omega,by go_num,by rw[cN.out];exact cn,hbel⟩
    case measure=>simp[intOf];omega
  .obtain rfl:k=ag.length:=by omega
   go_wp2;go_ret;obtain⟨L,jR,yz⟩:=cn.out;exact⟨_,L,rfl,jR,yz,hbel⟩
namespace am
structure xi(A U:ae)(k:Nat):Prop where
 len:U.length=A.length
 low:∀i,i<k->bX U i=0
 none:∀i,k<=i->i<A.length->bX A i=0->bX U i=0
 some:∀i,k<=i->i<A.length->bX A i≠0->bX U i=bX U (bX A i)+1
 most:∀i,i<A.length->bX U i<=A.length-i
theorem ahj(A:ae):xi A (List.replicate A.length 0) A.length where
 len:=by simp
 low:=λi _=>y0 _ _
 none:=λi _ _ _=>y0 _ _
 some:=λi h1 af _=>by omega
 most:=λi _=>by rw[y0];omega
theorem ahh{A U:ae}(h:xi A U 0):H7 A U:=⟨h.len,λi ay=>h.none i (by omega) ay,λi ay=>h.some i (by omega) ay,h.most⟩
theorem ahi{A U:ae}{k:Nat}(h:xi A U (k+1))(ao:bX A k=0):xi A U k:=
 ⟨h.len,λi ay=>h.low i (by omega),λi h1 af aq=>by
  by_cases e:i=k
  .subst e;exact h.low i (by omega)
  .exact h.none i (by omega) af aq,λi h1 af aq=>by
  by_cases e:i=k
  .subst e;exact absurd ao aq
  .exact h.some i (by omega) af aq,h.most⟩
theorem ahk{A U:ae}{k:Nat}(hA:∀i,i<A.length->bX A i≠0->i<bX A i/\bX A i<A.length)(hk:k<A.length)(h:xi A U (k+1))(ao:bX A k≠0):xi A (U.set k (bX U (bX A k)+1)) k:=by
 have ap:∀i,bX (U.set k (bX U (bX A k)+1)) i=if i=k then bX U (bX A k)+1 else bX U i:=λi=>by
  unfold bX;rw[getElem?_set];by_cases e:k=i
  .subst e;rw[aB rfl,aB (by rw[h.len];exact hk),aB rfl,b7]
  .rw[az e,az (λh=>e h.symm)]
 have aiy:=hA k hk ao;refine⟨by rw[length_set,h.len],λi ay=>?_,λi h1 af aq=>?_,λi h1 af aq=>?_,λi ay=>?_⟩
 .rw[ap,az (by omega)];exact h.low i (by omega)
 .rw[ap];by_cases e:i=k
  .subst e;exact absurd aq ao
  .rw[az e];exact h.none i (by omega) af aq
 .have aK:=hA i af aq;rw[ap,ap,az (show ¬bX A i=k by omega)];by_cases e:i=k
  .subst e;rw[aB rfl]
  .rw[az e];exact h.some i (by omega) af aq
 .rw[ap];split
  .next e=>
   subst e;have:=h.most (bX A i) aiy.2;omega
  .exact h.most i ay
end am
theorem asC(A:a7)(c:Nat)(bs:ae)(w:ah)(hl:bs.length<=100000)(hA:∀i,i<bs.length->bX bs i≠0->i<bX bs i/\bX bs i<bs.length)(aj:Reads w A (aM bs)) :
  Calls prog 170 #[.slice A bs.length c] w λe w'=>∃g U,e=.returned (.slice (some ⟨g,0,none⟩) bs.length bs.length)/\Row w' g 3 (aM U)/\H7 bs U/\w.heap.size<=g/\av w w':=by
 obtain⟨i0,ay,bC,bL,bz⟩:=info_parts oa;have bj:=I aj;have pQ:=I hA;clear aj hA;obtain⟨g0,hJ⟩:∃g,g=w.heap.size:=⟨_,rfl⟩;have fJ:=I hJ;clear hJ;go_enter func170,ntmps170
 go_wp2_with (at_make;refine wpList_make_full _ rfl _ _ 112 rfl w.heap.size 3 i0 (.int .i64 0) 1 underlying112 ay bC bL .i64 .i64 _ _ bs.length rfl rfl ?c1 ?c1 ?c2 ?c3 ?c4 ?_)
 case c1=>omega
 case c2=>first|omega|(rw[bz];omega)
 case c3=>unfold maxLen;omega
 try case c4=>exact Nat.le_refl _
 intro aw hown1 a1;have aH:=kZ a1;have cg:=tK hown1;rw[<-fJ.out]at cg ⊢;have aN:=I aH;have fw:=I cg;have ab3:=I (ahj bs);clear hown1 a1 aH cg ay bC bL bz;go_wp2;go_loopw [4] (λbV wr=>∃(k:Nat) (U:ae),k<=bs.length/\bV=.int .i64 ((k:Int)-1)/\Hid (xi bs U k)/\Hid (Row wr g0 3 (aM U))/\Hid (av w wr)) (λbV _=>(intOf bV+1).toNat)
 case atStart=>exact⟨bs.length,_,by omega,by go_num,ab3,fw,aN⟩
 case round=>
  obtain⟨k,U,hk,rfl,aI,hrow,hbel⟩:=hrel;by_cases ao:0<k
  .obtain⟨j,rfl⟩:∃j,k=j+1:=⟨k-1,by omega⟩;have fk:j<bs.length:=by omega
   obtain⟨g,off,rfl,hc⟩:=kL (c7 bj.out hbel.out) (by omega);have c0:=hc j fk;have Ug:bX bs j=bs[j]:=by unfold bX;rw[bI fk,b7]
   have PP:=I (pQ.out j fk);have Ca:=I (ahi aI);have cN:=I (ahk pQ.out fk aI);rw[Ug]at PP Ca cN;clear hc;have iq:U.length=bs.length:=aI.out.len;have UR:=λ(h:bs[j]<bs.length)=>aI.out.most bs[j] h
   have ac1:=I UR;clear UR Ug;generalize bs[j]=x at *;rw[show((j+1:Nat):Int)-1=j by omega];by_cases ai:x=0
   .subst ai;have iT:=I (Ca.out rfl);go_wp2;go_roundw
    case rel=>exact⟨j,U,by omega,by go_num,iT,hrow,hbel⟩
    case measure=>simp[intOf]
   .obtain⟨fL,a2⟩:=PP.out ai;have hm:=ac1.out a2;have iT:=I (cN.out ai);have kv:x<U.length:=by omega
    have bD:wr.cell? ⟨g0,x,none⟩=some (.int .i64 (bX U x)):=by
     unfold bX;rw[hrow.out.cell,iN U x kv,bI kv,b7]
    have bh:wr.cell? ⟨g0,j,none⟩=some (.int .i64 (U[j]'(by omega):Int)):=by
     rw[hrow.out.cell,iN U j (by omega)]
    have f1:wr.frozen? ⟨g0,j,none⟩=false:=hrow.out.free j;have hrow2:Row (wr.setCell ⟨g0,j,none⟩ (.int .i64 ((bX U x:Int)+1))) g0 3 (aM (U.set j (bX U x+1))):=by
     have h1:=hrow.out.bq j (.int .i64 ((bX U x:Int)+1));rw[show aM (U.set j (bX U x+1))=(aM U).set j (.int .i64 ((bX U x:Int)+1)) by simp[aM,map_set]];exact h1
    have hi:=I hrow2;have ru:=I (hbel.out.setCell (p:=⟨g0,j,none⟩) (by rw[fJ.out];exact Nat.le_refl _) (.int .i64 ((bX U x:Int)+1)));clear hrow2 hrow hbel;have mY:0<x:=by omega
    clear ai;generalize bX U x=y at *;generalize U[j]'(by omega)=z at bh;go_wp2;go_roundw
    case rel=>exact⟨j,_,by omega,by go_num,iT,hi,ru⟩
    case measure=>simp[intOf]
  .obtain rfl:k=0:=by omega
   have zn:=I (ahh aI);go_wp2;go_ret;exact⟨g0,U,rfl,hrow.out,zn.out,by rw[fJ.out];exact Nat.le_refl _,hbel⟩
def Y4:Value->Nat
|.slice _ n _=>n
|_=>0
theorem jw.kept{w w':ah}{base bF g off cap:Nat}{l:ae}(h:jw w base g off cap l)(hk:ki bF w w'):jw w' base g off cap l:=by
 obtain⟨h1,af,pre,post,aq,aK,aT⟩:=h;exact⟨h1,af,pre,post,aq,aK,hk.rows _ _ _ (by decide) (by decide) aT⟩
theorem jw.own{w:ah}{base g cap:Nat}{l:ae}(h:jw w base g 0 cap l):w.ownsRow base 3 1 (.slice (some ⟨g,0,none⟩) l.length cap) l.length (aM l):=by
 obtain⟨h1,af,pre,post,aq,aK,aT⟩:=h;obtain rfl:pre=[]:=lf aq;have hl:=gm l;refine⟨by omega,.inr ⟨g,cap,(aM l++post).toArray,rfl,h1,aT,by omega,af,?_,?_⟩⟩
 .rw[List.size_toArray,aY];omega
 .rw[List.toList_toArray,take_left' (by omega)]
theorem jw.reads{w:ah}{base g cap:Nat}{l:ae}(h:jw w base g 0 cap l):Reads w (some ⟨g,0,none⟩) (aM l):=λ_=>
 ⟨g,0,rfl,λj ar=>by
  rw[gm]at ar;have h1:=h.cell j ar;rw[iN l j ar];exact h1⟩
structure JO(base:Nat)(w wr:ah)(p g cap:Nat)(ag A:ae)(L:List hR)(C:Nat):Prop where
 YV:jw wr base g 0 cap A
 pile:oH wr base p L
 sums:ul ag A L C
 dn:Below base w wr
theorem alq{ag A:ae}{L R:List hR}{C h2 a hP b:Nat}(h:ul ag A L C)(ax:L.Perm ((h2,a)::(hP,b)::R))(hm:(fu ag).sum<=1000000000):a<A.length/\b<A.length/\h2+hP<=1000000000:=by
 refine⟨(h.free (h2,a) (ax.mem_iff.2 (by simp))).1,(h.free (hP,b) (ax.mem_iff.2 (by simp))).1,?_⟩;have:=h.total;rw[(ax.map _).sum_nat]at this;simp only[map_cons,sum_cons]at this;omega
theorem als{ag A:ae}{L:List hR}{C:Nat}(h:ul ag A L C)(hl:ag.length<=256)(bR:1<=L.length):A.length<=511/\L.length<=256:=by
 have h1:=h.count;have af:=AW ag ag.length;have aq:=h.len;unfold fA at h1;omega
theorem oH.cG{w w':ah}{base p g:Nat}{L:List hR}{ag:b1}(h:oH w base p L)(aj:Row w g 3 ag)(aF:w.grownBy w' (some g)):oH w' base p L:=by
 obtain⟨hh,eT,cap',cn⟩:=h;obtain⟨post,hl,hrow⟩:=cn.row;refine⟨hh,eT,cap',cn.WK (aF.block p cn.var.lt (λe=>?_)) (aF.block eT hrow.lt (λe=>?_))⟩
 .injection e with e
  subst e;have aD:=cn.var;unfold Row at aD aj;rw[aj]at aD;injection aD with aD
  injection aD with _ e
  exact absurd e (by decide)
 .injection e with e
  subst e;unfold Row at hrow aj;rw[aj]at hrow;injection hrow with hrow
  injection hrow with _ e
  exact absurd e (by decide)
theorem jw.row{w:ah}{base g off cap:Nat}{l:ae}(h:jw w base g off cap l):∃ag,Row w g 3 ag/\base<=g:=by
 obtain⟨h1,_,pre,post,_,_,aT⟩:=h;exact⟨_,aT,h1⟩
theorem asF(base p:Nat)(ag:ae)(L:List hR)(w:ah)(ak:base<=w.heap.size)(hl:ag.length<=256)(hm:(fu ag).sum<=1000000000)(bR:L.Perm (fA ag))(af:2<=L.length)(ax:oH w base p L) :
  Calls prog 171 #[.pointer (some ⟨p,0,none⟩),.int .i64 (ag.length:Int)] w λe w'=>∃g A c t C,e=.returned (.slice (some ⟨g,0,none⟩) A.length c)/\Reads w' (some ⟨g,0,none⟩) (aM A)/\ul ag A [t] C/\A.length<=512/\Below base w w':=by
 obtain⟨i0,ay,bC,bL,bz⟩:=info_parts oa;have k7:2<=ag.length:=by
  have:=bR.length_eq;have aq:=AW ag ag.length;unfold fA at this;omega
 have o9:=I bR;have jK:=I ax;clear bR ax;go_enter func171,ntmps171
 go_wp2_with (at_make;refine wpList_make_full _ rfl _ _ 112 rfl w.heap.size 3 i0 (.int .i64 0) 1 underlying112 ay bC bL .i64 .i64 _ _ ag.length rfl rfl ?c1 ?c1 ?c2 ?c3 ?c4 ?_)
 case c1=>omega
 case c2=>first|omega|(rw[bz];omega)
 case c3=>unfold maxLen;omega
 try case c4=>exact Nat.le_refl _
 intro aw hown1 a1;have aH:=kZ a1;have fP:=tK hown1;have hstart:JO base w aw p w.heap.size ag.length ag (List.replicate ag.length 0) L 0:=by
  obtain⟨hh,g,cap,cn⟩:=jK.out;exact⟨⟨ak,by unfold maxLen;omega,[],[],rfl,by simp,by simpa using fP⟩,⟨hh,g,cap,cn.below aH⟩,alu ag L o9.out,aH.mono ak⟩
 have adZ:=I hstart;clear hown1 a1 aH fP hstart;go_wp2;go_loopw [5] (λiV wr=>∃(A:ae) (L:List hR) (C g cap:Nat),iV=.slice (some ⟨g,0,none⟩) A.length cap/\1<=L.length/\Hid (JO base w wr p g cap ag A L C)) (λiV _=>600-Y4 iV)
 case atStart=>exact⟨_,L,0,w.heap.size,ag.length,by simp,by omega,adZ⟩
 case round=>
  obtain⟨A,L,C,g,cap,rfl,Lb,ar⟩:=hrel;obtain⟨bB,hsz2⟩:=als ar.out.sums hl Lb;have auX:ag.length<=A.length:=ar.out.sums.len;obtain⟨c0,hW⟩:∃v,wr.cell? ⟨p,0,none⟩=some v/\∃eT cap',v=.slice (some ⟨eT,0,none⟩) L.length cap':=by
   obtain⟨hh,eT,cap',cn⟩:=ar.out.pile;exact⟨_,cn.cell,eT,cap',rfl⟩
  obtain⟨hW,uG,uw,rfl⟩:=hW;have Hlen:=I (λW=>HU (some ⟨uG,0,none⟩) L.length uw W);by_cases h1:L.length=1
  .obtain⟨t,rfl⟩:=List.length_eq_one_iff.1 h1;have hfin:Reads wr (some ⟨g,0,none⟩) (aM A)/\ul ag A [t] C/\Below base w wr:=⟨ar.out.YV.reads,ar.out.sums,ar.out.dn⟩;have br:=I hfin;clear hfin ar Lb h1;go_wp2_with fail
   refine(Hlen.out _).mono ?_;rintro e aC ⟨rfl,rfl⟩;go_wp2;go_ret;exact⟨g,A,cap,t,C,rfl,br.out.1,br.out.2.1,by omega,br.out.2.2⟩
  .obtain⟨n,aA⟩:∃n,L.length=n+1+1:=⟨L.length-2,by omega⟩;have uP:=dl ak ar.out.dn.size;have vN:=I (Pd base p (n+1) L wr uP (by omega) aA ar.out.pile);obtain⟨h2,Wf⟩:∃x,x=(am.bZ L 0).1:=⟨_,rfl⟩;obtain⟨a,aV⟩:∃x,x=(am.bZ L 0).2:=⟨_,rfl⟩;rw[<-Wf,<-aV]at vN;clear Wf aV;have acP:Hid (∀W,Calls prog 168 #[.slice (some ⟨uG,0,none⟩) (n+1+1) uw] W λe w'=>e=.returned (.int .i64 ((n:Int)+1+1))/\W=w'):=I (λW=>by
    have aT:=Hlen.out W;rw[aA]at aT;exact aT)
   rw[aA]at hW hsz2;have b0:Hid (L.length=n+1+1):=I aA;clear aA h1 Lb;go_wp2_with fail
   refine(acP.out _).mono ?_;rintro e aC ⟨rfl,rfl⟩;clear hW;go_wp2_with fail
   refine vN.out.mono ?_;rintro e aw ⟨rfl,kV,Ml,hle1,U3,ek⟩;have iK:kV.length=n+1:=by have:=Ml.length_eq;rw[b0.out,bY]at this;omega
   have Qh:=I (Pd base p n kV aw (dl uP ek.dn.size) (by omega) iK U3);have UQ:am.bZ kV 0∈kV:=by
    unfold am.bZ;rw[bI (by omega),b7];exact b8 _
   have Lv:=hle1 _ UQ;have aue:=I hle1;have ads:=I Ml;have pW:=I ek;obtain⟨hP,wR⟩:∃x,x=(am.bZ kV 0).1:=⟨_,rfl⟩;obtain⟨b,hV⟩:∃x,x=(am.bZ kV 0).2:=⟨_,rfl⟩;have mR:h2<=hP:=by
    rw[oV,<-wR]at Lv;simp only at Lv;omega
   rw[<-wR,<-hV]at Qh;clear hle1 Ml ek U3 UQ Lv wR hV;go_wp2_with fail
   refine Qh.out.mono ?_;rintro e aC ⟨rfl,R,AB,hle2,Dm,ft⟩;have qA:Hid (L.Perm ((h2,a)::(hP,b)::R)):=I (ads.out.trans (AB.cons _));have acO:Hid (∀y∈R,hP<=y.1):=I (λy hy=>by
    have:=hle2 y hy;rw[oV]at this;simp only at this;omega)
   have uc:=I (pW.out.trans ft);have adn:=I Dm;obtain⟨ba,iH,mf⟩:=alq ar.out.sums qA.out hm;have fc:Hid (R.length=n):=I (by have:=AB.length_eq;rw[iK,bY]at this;omega);clear AB hle2 Dm ft iK;have VH:=ar.out.YV.kept uc.out;have QD:=I VH;have hbw2:base<=aC.heap.size:=dl uP uc.out.dn.size;clear VH;go_wp2_with fail
   obtain⟨a6,kI⟩:∃a6,a6=(aC.alloc (.cells #[.int .i64 h2,.int .i64 a] 223)).alloc (.cells #[.int .i64 hP,.int .i64 b] 223):=⟨_,rfl⟩;have bA:av aC a6:=by
    rw[kI];exact(dM.alloc bl _).alloc (by simp) _
   have n4:Row a6 aC.heap.size 223 [.int .i64 h2,.int .i64 a]:=by
    rw[kI];exact(Row.new aC 223 [.int .i64 h2,.int .i64 a]).alloc _
   have yD:Row a6 (aC.heap.size+1) 223 [.int .i64 hP,.int .i64 b]:=by
    have aT:=Row.new (aC.alloc (.cells #[.int .i64 h2,.int .i64 a] 223)) 223 [.int .i64 hP,.int .i64 b];rw[show(aC.alloc (.cells #[.int .i64 h2,.int .i64 a] 223)).heap.size=aC.heap.size+1 by simp,<-kI]at aT;exact aT
   have yL:=QD.out.below bA;have U4:oH a6 base p R:=by
    obtain⟨hh,eT,cap',cn⟩:=adn.out;exact⟨hh,eT,cap',cn.below bA⟩
   have l6:=I (uc.out.trans (ki.below bA hbw2));rw[<-kI];have jC:g<aC.heap.size:=QD.out.lt;generalize aC.heap.size=Ea at *;have e0:=n4.cell 0;have aG:=n4.cell 1;have e2:=yD.cell 0;have e3:=yD.cell 1;simp only[dH,dJ]at e0 aG e2 e3;have bD:=yL.cell a ba;have bh:=yL.cell b iH;rw[ez]at bD bh;have f0:=yL.free a;have f1:=yL.free b;obtain⟨v1,tB⟩:=cell?_setCell_some (w:=a6) (p:=⟨g,a,none⟩) (x:=.int .i64 (A.length:Int)) (q:=⟨g,b,none⟩) bh;have MB:=(yL.set a ba A.length).set b (by simpa using iH) A.length;rw[ez,ez]at MB;obtain⟨bH,DG⟩:∃bH,bH=((a6.setCell ⟨g,a,none⟩ (.int .i64 (A.length:Int))).setCell ⟨g,b,none⟩ (.int .i64 (A.length:Int))).drew:=⟨_,rfl⟩;have cx:a6.grownBy bH (some g):=by
    rw[DG];exact ns (ho (ho (dg a6 (some g)) _ _) _ _)
   have VI:jw bH base g 0 cap ((A.set a A.length).set b A.length):=by rw[DG];exact MB
   have adV:=I VI;have hQ:=I cx;have uf:=I n4;have Qv:=I yD;have ado:=I U4;have adU:=I yL;have QO:=I DG;clear kI bA n4 yD yL U4 MB VI cx DG;go_region
   all_goals rw[show((a6.setCell ⟨g,a,none⟩ (.int .i64 (A.length:Int))).setCell ⟨g,b,none⟩ (.int .i64 (A.length:Int))).drew=bH from QO.out.symm]
   all_goals clear QO e0 aG e2 e3 bD bh f0 f1 tB
   have sb:bH.ownsRow base 3 1 (.slice (some ⟨g,0,none⟩) A.length cap) A.length (aM ((A.set a A.length).set b A.length)):=by
    have aT:=adV.out.own;rw[length_set,length_set]at aT;exact aT
   have zv:=I sb;have bc:base<=bH.heap.size:=dl uP (dl l6.out.dn.size hQ.out.size);clear sb;go_wp2_with (at_builtin;refine wpList_append_own _ rfl _ _ 112 rfl base 3 i0 (.int .i64 0) 1 8 underlying112 ay bC bL bz rfl (by decide) _ _ _ rfl (zv.out.alloc _) ⟨bH.heap.size,0,none⟩ 1 1 [.int .i64 0] rfl rfl ?d1 ?d2 ?d3 ?d4 ?d5 ?_)
   case d1=>
    intro j u ar;match j,ar with
   |0,ar=>simp at ar;subst ar;simp[Addr.add]
   case d2=>intro u hu;simp at hu;subst hu;rfl
   case d3=>unfold maxLen;omega
   case d4=>omega
   case d5=>simp;omega
   intro gN dk de di _;obtain⟨_,gy,ik,rfl,VJ⟩:=aqS (l:=(A.set a A.length).set b A.length++[0]) (by rw[<-DJ];exact de) (by omega);have tq:bH.grownBy (bH.alloc (.cells #[.int .i64 0] 3)) (some g):=im (dg _ _) _;have Ud:a6.grownBy dk (some g):=(hQ.out.trans tq).trans di;have BK:=I Ud;have adW:=I VJ;clear de di tq Ud VJ;obtain⟨aw9,Vt,Al⟩:=adU.out.row;have U5:=ado.out.cG Vt BK.out;have n4:Row dk Ea 223 [.int .i64 h2,.int .i64 a]:=uf.out.keep (BK.out.block _ uf.out.lt (λe=>by injection e with e;omega));have yD:Row dk (Ea+1) 223 [.int .i64 hP,.int .i64 b]:=Qv.out.keep (BK.out.block _ Qv.out.lt (λe=>by injection e with e;omega));have e0:=n4.cell 0;have aG:=yD.cell 0;simp only[dH]at e0 aG;have fW:base<=dk.heap.size:=dl uP (dl l6.out.dn.size BK.out.size);have hpush:=Vb base p (h2+hP) A.length R dk fW (by rw[fc.out];omega) U5;rw[Int.natCast_add]at hpush;have B1:=I hpush;have nb:=I ((ar.out.dn.trans l6.out.dn).trans (below_grown BK.out Al (dl uP l6.out.dn.size)));clear Vt U5 n4 yD hpush Al bc;go_wp2_with fail
   refine B1.out.mono ?_;rintro e oo ⟨rfl,L',Dn,U6,Gv⟩;have hfin:JO base w oo p gy ik ag ((A.set a A.length).set b A.length++[0]) L' (C+(h2+hP)):=
    ⟨adW.out.kept Gv,U6,am.join_step ar.out.sums qA.out mR acO.out (by omega) Dn,nb.out.trans Gv.dn⟩
   have fe:=I hfin;have aiG:1<=L'.length:=by rw[Dn.length_eq,bY];omega
   clear hfin Dn U6 Gv e0 aG;go_wp2;go_roundw
   case rel=>exact⟨_,L',_,gy,ik,by simp,aiG,fe⟩
   case measure=>simp[Y4];omega
namespace am
theorem aom(ag:ae)(M:Nat)(h:∀x∈ag,x<=M):(fu ag).sum<=M*ag.length:=by
 have h1:(fu ag).sum<=M*(fu ag).length:=by
  have:∀L:ae,(∀x∈L,x<=M)->L.sum<=M*L.length:=λL=>by
   induction L with
  |nil=>simp
  |cons a L ih=>
    intro bR;have:=ih (λx ai=>bR x (by simp[ai]));have:=bR a (by simp);rw[sum_cons,bY,mul_succ];omega
  exact this _ (λx ai=>h x (aok ag x ai).1)
 exact dl h1 (mul_le_mul_left M (Ye ag))
theorem Nt(ag:ae)(h:∃x∈ag,0<x):1<=(fA ag).length:=by
 have:=aol ag h;rw[<-wX,cQ]at this;exact this
end am
theorem ahU(x y:Value)(W:ah):(Instr.field 223 (.agg #[x,y]) 1).run prog W=.ok y W:=by kernel_rfl
theorem atb(A:a7)(c:Nat)(ag:ae)(w:ah)(hl:ag.length<=256)(hm:∀x∈ag,x<=1048576)(ap:∃x∈ag,0<x)(aj:Reads w A (aM ag)) :
  Calls prog 137 #[.slice A ag.length c] w λe w'=>∃g U,e=.returned (.slice (some ⟨g,0,none⟩) ag.length ag.length)/\Reads w' (some ⟨g,0,none⟩) (aM U)/\xP ag U/\av w w':=by
 obtain⟨i0,ay,bC,bL,bz⟩:=info_parts oa;have xv:=I (asM A c ag w hl aj);have hsum:(fu ag).sum<=1000000000:=by
  have:=aom ag 1048576 hm;omega
 have h1:=Nt ag ap;have auR:(fA ag).length<=256:=dl (AW ag ag.length) hl;clear aj hm ap;go_enter func137,ntmps137
 go_wp2_with fail
 refine xv.out.mono ?_;rintro e aw ⟨p,L,rfl,jR,yz,aH⟩;have CQ:L.length=(fA ag).length:=jR.length_eq;obtain⟨v0,hW,uG,uw,DF⟩:∃v,aw.cell? ⟨p,0,none⟩=some v/\∃eT cap',v=.slice (some ⟨eT,0,none⟩) L.length cap':=by
  obtain⟨hh,eT,cap',cn⟩:=yz;exact⟨_,cn.cell,eT,cap',rfl⟩
 subst DF;have Hlen:=I (λW=>HU (some ⟨uG,0,none⟩) L.length uw W);have aN:=I aH;have qA:=I jR;have E1:=I yz;have hM:=aH.size;clear aH jR yz;by_cases hone:L.length=1
 .obtain⟨t,rfl⟩:=List.length_eq_one_iff.1 hone;obtain⟨p4,cI⟩:=t;have yw:fA ag=[(p4,cI)]:=List.perm_singleton.1 qA.out.symm;have uh:=I (Z4 yw hl);have LU:cI<ag.length:=((pG ag ag.length (p4,cI)).1 (show(p4,cI)∈fA ag by rw[yw];simp)).1;clear hone yw CQ;simp only[bY,length_nil]at hW Hlen;go_wp2_with fail
  refine(Hlen.out _).mono ?_;rintro e aC ⟨rfl,rfl⟩;clear hW;go_wp2_with (at_make;refine wpList_make_full _ rfl _ _ 112 rfl aw.heap.size 3 i0 (.int .i64 0) 1 underlying112 ay bC bL .i64 .i64 _ _ ag.length rfl rfl ?c1 ?c1 ?c2 ?c3 ?c4 ?_)
  case c1=>omega
  case c2=>first|omega|(rw[bz];omega)
  case c3=>unfold maxLen;omega
  try case c4=>exact Nat.le_refl _
  intro aC hown1 a1;have aJ:=kZ a1;have hrow2:=tK hown1;have gd:aw.heap.size<aC.heap.size:=hrow2.lt;have Dm:oH aC w.heap.size p [(p4,cI)]:=by
   obtain⟨hh,eT,cap',cn⟩:=E1.out;exact⟨hh,eT,cap',cn.below aJ⟩
  have vN:=I (Pd w.heap.size p 0 [(p4,cI)] aC (by omega) (by simp) rfl Dm);have bm:=I (aN.out.trans (aJ.mono hM));have hi:=I hrow2;clear hown1 a1 aJ hrow2 Dm;go_wp2_with fail
  refine vN.out.mono ?_;rintro e a6 ⟨rfl,L',_,_,_,kq⟩;have hrow3:=kq.rows _ _ _ (by decide) (by decide) hi.out;have hcell:a6.cell? ⟨aw.heap.size,cI,none⟩=some (.int .i64 0):=by
   rw[hrow3.cell,iN _ _ (by simpa using LU)];simp
  have hfree:a6.frozen? ⟨aw.heap.size,cI,none⟩=false:=hrow3.free cI;have hrow4:Row (a6.setCell ⟨aw.heap.size,cI,none⟩ (.int .i64 1)) aw.heap.size 3 (aM ((List.replicate ag.length 0).set cI 1)):=by
   have aT:=hrow3.bq cI (.int .i64 1);rw[show aM ((List.replicate ag.length 0).set cI 1)=(aM (List.replicate ag.length 0)).set cI (.int .i64 1) by simp only[aM,map_set];rfl];exact aT
  have ug:=I hrow4;have dt:=I ((bm.out.trans kq.dn).setCell (p:=⟨aw.heap.size,cI,none⟩) (by exact hM) (.int .i64 1));have et:am.bZ [(p4,cI)] 0=(p4,cI):=rfl;rw[et];clear hrow3 hrow4 kq et;have avR:=λW=>ahU (.int .i64 p4) (.int .i64 cI) W
  go_wp2;go_ret;refine⟨aw.heap.size,_,rfl,?_,uh,dt⟩;intro _;exact⟨aw.heap.size,0,rfl,λj ar=>by rw[ez];exact ug.out.cell j⟩
 .have af:2<=L.length:=by omega
  have acE:=I (asF w.heap.size p ag L aw hM hl hsum qA.out af E1);have air:2<=(fA ag).length:=by omega
  have aZ:((L.length:Int)==1)=false:=cz
  clear CQ;go_wp2_with fail
  refine(Hlen.out _).mono ?_;rintro e aC ⟨rfl,rfl⟩;clear hW;go_wp2_with fail
  refine acE.out.mono ?_;rintro e aC ⟨g,bs,cap,t,C,rfl,bt,As,cs,aJ⟩;have awe:=As.len;have ab5:=I (asC (some ⟨g,0,none⟩) cap bs aC (by omega) As.above bt);have acD:=I As;have bm:=I (aN.out.trans aJ);clear bt As aJ;go_wp2_with fail
  refine ab5.out.mono ?_;rintro e a6 ⟨g3,U,rfl,hrow3,r3,ct,bA⟩;have uh:=I (alr acD.out r3 air hl cs);have iq:=r3.len;have pC:Reads a6 (some ⟨g3,0,none⟩) (aM (U.take ag.length)):=λ_=>⟨g3,0,rfl,λj ar=>by
   rw[gm,cr]at ar;rw[ez,hrow3.cell,iN U j (by omega),iN (U.take ag.length) j (by rw[cr];exact ar),getElem_take]⟩
  have Jq:=I pC;have b6:=b3 bm bA;clear hrow3 r3 bA pC iq;go_wp2;go_ret;exact⟨g3,_,rfl,Jq,uh,b6⟩
theorem asJ(A:a7)(c:Nat)(l:List Int)(w:ah)(hl:l.length<=maxLen)(aj:Reads w A (gB l))(cK:¬am.Right l) :
  Calls prog 106 #[.slice A l.length c] w λe w'=>e=.returned (.tuple #[.slice none 0 0,.bool false])/\w=w':=by
 have kt:=XC A c l w hl aj;rw[show q5 l=false from bG cK]at kt;have jL:=I kt;clear kt cK aj;go_enter func106,ntmps106
 go_wp2_with fail
 refine jL.out.mono ?_;rintro e w' ⟨rfl,rfl⟩;go_wp2;go_ret2;exact⟨rfl,rfl⟩
def vZ(w w':ah)(ag:ae)(v:Value):Prop:=∃B d U,v=.slice B ag.length d/\ag.length<=d/\Reads w' B (aM U)/\tV ag U/\av w w'
theorem asN{ag U:ae}(h:xP ag U)(dQ:∀x∈U,x<=11):tV ag U:=⟨h.len,h.whole dQ,h.just,by rw[h.cost];exact Nat.le_max_right _ _⟩
theorem asK(A:a7)(c:Nat)(ag:ae)(w:ah)(hl:ag.length<=256)(hm:∀x∈ag,x<=1048576)(ap:∃x∈ag,0<x)(aj:Reads w A (aM ag))(kt:Calls prog 136 #[.slice A ag.length c] w λe w'=>e=.returned (.bool true)/\w=w')
  (bx:∀U,xP ag U->(∀x∈U,x<=11)\/(∀W,av w W->Calls prog 139 #[.slice A ag.length c] W λe w'=>∃v,e=.returned v/\vZ W w' ag v)) :
  Calls prog 106 #[.slice A ag.length c] w λe w'=>∃v,e=.returned (.tuple #[v,.bool true])/\vZ w w' ag v:=by
 have jL:=I kt;have uh:=I (atb A c ag w hl hm ap aj);have eb:=I bx;clear kt hm ap aj bx;go_enter func106,ntmps106
 go_wp2_with fail
 refine jL.out.mono ?_;rintro e w' ⟨rfl,rfl⟩;go_wp2_with fail
 refine uh.out.mono ?_;rintro e aw ⟨g,U,rfl,bt,DE,ak⟩;have iq:=DE.len;have hmay:=Pe (some ⟨g,0,none⟩) ag.length (U.map λn:Nat=>(n:Int)) aw (by rw[cQ];omega) (by rw[jF];exact bt);rw[cQ,iq]at hmay;have hiff:oG (U.map λn:Nat=>(n:Int))↔∀x∈U,x<=11:=by
  unfold oG;constructor
  .intro h x ai;have:=h.2 (x:Int) (List.mem_map.2 ⟨x,ai,rfl⟩);omega
  .intro h;refine⟨by rw[cQ];omega,λz aQ=>?_⟩;obtain⟨x,ai,rfl⟩:=List.mem_map.1 aQ;have:=h x ai;omega
 by_cases dQ:∀x∈U,x<=11
 .rw[bE (hiff.2 dQ)]at hmay;have I9:=I hmay;have hfin:vZ w aw ag (.slice (some ⟨g,0,none⟩) ag.length ag.length):=⟨_,_,U,rfl,Nat.le_refl _,bt,asN DE dQ,ak⟩;have br:=I hfin;clear hmay hiff dQ bt DE ak iq hfin;go_wp2_with fail
  refine I9.out.mono ?_;rintro e w' ⟨rfl,rfl⟩;go_wp2;go_ret2;exact⟨_,rfl,br⟩
 .rw[bG (λh=>dQ (hiff.1 h))]at hmay;have I9:=I hmay;have BA:=I ((eb.out U DE).resolve_left dQ aw ak);have b5:=I ak;clear hmay hiff dQ bt DE ak iq;go_wp2_with fail
  refine I9.out.mono ?_;rintro e w' ⟨rfl,rfl⟩;go_wp2_with fail
  refine BA.out.mono ?_;rintro e aC ⟨v,rfl,yt⟩;have hfin:vZ w aC ag v:=by
   obtain⟨B,d,amC,h1,af,aq,aK,aT⟩:=yt;exact⟨B,d,amC,h1,af,aq,aK,b5.out.trans (aT.mono b5.out.size)⟩
  have br:=I hfin;clear hfin yt;go_wp2;go_ret2;exact⟨_,rfl,br⟩
theorem asG(D:ae->Prop)(A:a7)(c:Nat)(l:List Int)(w:ah)(hl:l.length<=maxLen)(aj:Reads w A (gB l))(cK:am.Right l)(cH:D (l.map Int.toNat))
  (bx:∀(ag U:ae)(W:ah),D ag->ag.length<=256->(∀x∈ag,x<=1048576)->(∃x∈ag,0<x)->Reads W A (aM ag)->xP ag U->(∀x∈U,x<=11)\/(Calls prog 139 #[.slice A ag.length c] W λe w'=>∃v,e=.returned v/\vZ W w' ag v)) :
  Calls prog 106 #[.slice A l.length c] w λe w'=>∃v,e=.returned (.tuple #[v,.bool true])/\vZ w w' (l.map Int.toNat) v:=by
 have kt:=XC A c l w hl aj;rw[show q5 l=true from bE cK]at kt;obtain⟨aG,bh,b2⟩:=apZ l cK;have tg:=cK.1;have hex:∃x∈l.map Int.toNat,0<x:=by
  obtain⟨x,ai,ao⟩:=cK.2.2;exact⟨x.toNat,List.mem_map.2 ⟨x,ai,rfl⟩,by omega⟩
 have bS:Reads w A (aM (l.map Int.toNat)):=by rw[<-jF,<-aG];exact aj
 have h:=asK A c (l.map Int.toNat) w (by omega) bh hex bS (by rw[b2];exact kt) (λU hu=>by
  by_cases dQ:∀x∈U,x<=11
  .exact .inl dQ
  .exact .inr (λW bk=>((bx (l.map Int.toNat) U W cH (by omega) bh hex (c7 bS bk) hu).resolve_left dQ)))
 rw[b2]at h;exact h
namespace am
def my:ae->Nat
|[]=>0
|x::l=>x+16*my l
theorem Xv:∀(l:ae) (x:Nat),my (l++[x])=my l+x*16^l.length
|[],x=>by simp[my]
|y::l,x=>by
  rw[cons_append,my,Xv l x,my,bY,ea,Nat.mul_add,<-Nat.mul_assoc 16 x,eG 16 x,Nat.mul_assoc x 16,eG 16 (16^l.length)];omega
theorem NG:∀(l:ae) (_:∀x∈l,x<16) (j:Nat),my l/16^j%16=l[j]?.getD 0
|[],_,j=>by simp[my]
|x::l,h,0=>by
  have:=h x dU;rw[my,dH,b7,Nat.pow_zero];omega
|x::l,h,j+1=>by
  have ao:=h x dU;rw[my,dJ,<-NG l (λy hy=>h y (eo _ hy)) j,ea,eG (16^j),<-jX,show(x+16*my l)/16=my l by omega]
theorem aop(k:Nat):256^k=16^(2*k):=by rw[Nat.pow_mul]
theorem ar3(l:ae)(h:∀x∈l,x<16)(ao:0<l.length)(af:l.length<=256):bytesOf (l.length-1+my l*2^8) ((8+4*l.length+7)/8)=gM l:=by
 apply ext_getElem
 .rw[bytesOf_length,w7];omega
 .intro i aq aK;rw[w7]at aK;rw[xS];cases i with
 |zero=>
   simp only[gM,getElem_cons_zero,Nat.pow_zero];omega
 |succ k=>
   simp only[gM,getElem_cons_succ,getElem_map,getElem_range];rw[ea 256 k,eG (256^k),<-jX,show(l.length-1+my l*2^8)/256=my l by omega,aop];unfold lA;rw[<-NG l h (2*k),<-NG l h (2*k+1),ea,<-jX];omega
theorem anb(l:ae)(k:Nat)(hk:k<l.length)(h:l[k]<16)(M:Nat):M+my (l.take k)*2^8+l[k]%2^4*2^(8+4*k)=M+my (l.take (k+1))*2^8:=by
 have hl:(l.take k).length=k:=by rw[cr];omega
 rw[fY hk,Xv,hl,mod_eq_of_lt (by simpa using h),Nat.add_mul,dI,Nat.pow_mul,show(2:Nat)^4=16 by rfl,eG (2^8),Nat.mul_assoc];omega
end am
theorem amT(A:a7)(c:Nat)(U:ae)(w:ah)(bk:fq U)(hc:U.length<=c)(aj:Reads w A (aM U))
  (lY:Calls prog 140 #[.slice A U.length c] w λe w'=>e=.returned (.bool true)/\w=w') :
  Calls prog 107 #[.slice A U.length c] w λe w'=>e=.returned (En (some (gM (cA U))))/\av w w':=by
 have s3:=I (amq A c U w bk.1 hc aj);have oF:=I lY;obtain⟨h1,af⟩:=HX U bk;obtain⟨m0,h8⟩:=w3 U;have bt:Reads w A (aM (cA U)):=by
  have h:=Ys aj (cA U).length;have e:∀cb cR:ae,(aM (cb++cR)).take cb.length=aM cb:=λcb cR=>by rw[<-DJ,<-gm cb,take_left]
  have e2:=e (cA U) (List.replicate m0 0);rw[<-h8]at e2;rwa [e2]at h
 clear h8 aj lY;generalize cA U=l at *;have ew:=h1.1;have mE:=I h1.2.1;have JD:=I (ar3 l (λx ai=>by have:=h1.2.1 x ai;omega) af ew);have ce:=I (Et l h1.2.1 ew);have Hlen:Hid ((8+4*l.length+7)/8=(gM l).length):=I (by rw[w7];omega);generalize gM l=rf at *;have ep:=I bt;have qO:IntKind.u32.wrap ((l.length:Int)-1)=((l.length-1:Nat):Int):=by simp[IntKind.wrap,IntKind.bits,IntKind.signed];omega
 have oB:Hid (∀(W:ah) (b N n v m:Nat),n<=1000000000->v<4294967296->m<=32->dL W b 0 N n->Calls prog 99 #[.pointer (some ⟨b,0,none⟩),.int .u32 v,.int .i64 m] W λe w'=>e=.returned (.bool true)/\dL w' b 0 (N+v%2^m*2^n) (n+m)/\W.grownBy w' (some b)):=I (λW b N n v m h1 af aq aK=>D8 b 0 N n v m W h1 af aq aK);have pf:=I (dL.new w 153 (by decide));have lG:=I ((Below.refl w.heap.size w).alloc bl (.cells #[.pointer none,.int .u64 0,.int .i64 0] 153));clear bt h1 bk;go_enter func107,ntmps107
 go_wp2_with fail
 refine oF.out.mono ?_;rintro e w' ⟨rfl,rfl⟩;go_wp2_with fail
 refine s3.out.mono ?_;rintro e w' ⟨rfl,rfl⟩;go_wp2_with fail
 refine(oB.out _ w.heap.size 0 0 (l.length-1) 8 (by omega) (by omega) (by omega) pf.out).mono ?_;rintro e aC ⟨rfl,dT,aF⟩;rw[ez,ez,Nat.pow_zero,Nat.mul_one,mod_eq_of_lt (show l.length-1<2^8 by omega)]at dT;have xK:=I dT;have bm:Hid (av w aC):=I (lG.out.grown aF lG.out.size (λk e=>by injection e with e;omega));clear dT aF qO;go_wp2;go_loopw [20] (λbV wr=>∃k:Nat,k<=l.length/\bV=.int .i64 k/\Hid (dL wr w.heap.size 0 (l.length-1+my (l.take k)*2^8) (8+4*k))/\Hid (av w wr)) (λbV _=>l.length-(intOf bV).toNat)
 case atStart=>exact⟨0,by omega,rfl,I (by rw[take_zero,my,Nat.zero_mul];exact xK),bm⟩
 case round=>
  obtain⟨k,hk,rfl,dT,hbel⟩:=hrel;by_cases a8:k<l.length
  .obtain⟨g,off,rfl,bM⟩:=kL (c7 ep.out hbel.out) (by omega);have c0:=bM k a8;have ai:=mE.out l[k] (b8 a8);have aS:=anb l k a8 (by omega) (l.length-1);have jK:=I (oB.out wr w.heap.size _ (8+4*k) l[k] 4 (by omega) (by omega) (by omega) dT.out);rw[aS]at jK;clear bM aS dT;generalize l[k]=x at *;have qO:IntKind.u32.wrap (x:Int)=x:=by simp[IntKind.wrap,IntKind.bits,IntKind.signed];omega
   go_wp2_with fail
   refine jK.out.mono ?_;rintro e a6 ⟨rfl,wT,ct⟩;have zH:=I wT;have b6:Hid (av w a6):=I (hbel.out.grown ct hbel.out.size (λk e=>by injection e with e;omega));clear wT ct hbel;go_wp2;go_roundw
   case rel=>exact⟨k+1,by omega,by go_num,zH,b6⟩
   case measure=>simp[intOf];omega
  .obtain rfl:k=l.length:=by omega
   rw[take_length]at dT;have jl:=zT w.heap.size 0 _ _ wr (by omega) dT.out;rw[JD.out]at jl;have lH:=I jl;rw[Hlen.out]at lH;have nP:Hid (∀W A c,Reads W A (aO rf)->(convert 87 9 (.slice A rf.length c)).run prog W=.ok (.string (strOf rf)) W):=I (λW A c bt=>oL W A c _ ce.out bt);clear jl dT;go_wp2_with fail
   refine lH.out.mono ?_;rintro e bH ⟨g4,rfl,cx,jS,bc⟩;have hcv:=nP.out bH _ rf.length (og jS);have dt:=b3 hbel bc;clear jS bc hbel;go_wp2;go_ret2;exact⟨rfl,dt⟩
theorem amS(A:a7)(c:Nat)(l:List Int)(w:ah)
  (lY:Calls prog 140 #[.slice A l.length c] w λe w'=>e=.returned (.bool false)/\w=w') :
  Calls prog 107 #[.slice A l.length c] w λe w'=>e=.returned (En none)/\w=w':=by
 have oF:=I lY;clear lY;go_enter func107,ntmps107
 go_wp2_with fail
 refine oF.out.mono ?_;rintro e w' ⟨rfl,rfl⟩;go_wp2;go_ret2;exact⟨rfl,rfl⟩
theorem amQ:aeA:=by
 intro w A c l hl hc ak aj;have h:=Pg A c l w (by omega) aj;by_cases bk:mb l
 .rw[aB bk];rw[bE bk]at h;obtain⟨e,dQ,kb⟩:=GX l bk.1;have h1:=amT A c (l.map Int.toNat) w bk.2 (by omega) (by rw[<-jF,<-e];exact aj) (by rw[kb];exact h);rw[kb]at h1;exact h1
 .rw[az bk];rw[bG bk]at h;exact(amS A c l w h).mono λe w' ⟨h1,af⟩=>⟨h1,by rw[<-af];exact Below.refl _ _⟩
set_option linter.unusedVariables false
def mK:Option (ae×Nat)->Value
|none=>.tuple #[.string (strOf []),.int .i64 0]
|some t=>.tuple #[.string (strOf t.1),.int .i64 (t.2:Int)]
theorem Xo(l:ae)(i j:Nat)(h:i<=j)(af:j<=l.length)(W:ah):(Instr.slice 9 (.string (strOf l)) (some (.int .i64 i)) (some (.int .i64 j)) none).run prog W=.ok (.string (strOf ((l.take j).drop i))) W:=by
 rw[run_slice_string W 9 _ .i64 .i64 i j underlying9 (by omega) (by omega) (by rw[cy];omega),cX,cX,Em]
theorem ahV(n i x:Nat)(h:i<n):(List.replicate i x++List.replicate (n-i) 0).set i x=List.replicate (i+1) x++List.replicate (n-(i+1)) 0:=by
 rw[set_append_right _ _ (by simp),iZ,Nat.sub_self,show n-i=(n-(i+1))+1 by omega,replicate_succ,set_cons_zero,replicate_succ',df];rfl
theorem apv(most:Int)(w:ah):Calls prog 47 #[.string (strOf []),.int .i64 most] w λe w'=>e=.returned (mK none)/\av w w':=by
 have eY:=KE [];rw[bE rfl]at eY;have ca:=I (rfl:strOf []=strOf []);generalize ap:strOf []=s at eY;clear ap;go_enter func47,ntmps47
 go_wp2;go_ret2;exact⟨rfl,Below.refl _ _⟩
theorem aps(s s1:ByteArray)(L v bn:Nat)(w:ah)(eY:s.toList.isEmpty=false)(bB:s.size=L)(bR:L<=2000)
  (fG:∀W:ah,(Instr.slice 9 (.string s) (some (.int .i64 1)) none none).run prog W=.ok (.string s1) W)
  (eJ:∀W,Calls prog 25 #[.string s1] W λe bb=>e=.returned (.tuple #[.int .u64 v,.int .i64 bn])/\av W bb)(most:Int)(h:bn=0) :
  Calls prog 47 #[.string s,.int .i64 most] w λe w'=>e=.returned (mK (none))/\av w w':=by
 subst h;have j1:=I eJ;clear eJ;go_enter func47,ntmps47
 go_wp2_with fail
 refine(j1.out _).mono ?_;rintro e aw ⟨rfl,aH⟩;have aN:=I aH;clear aH;go_wp2;go_ret2;exact⟨rfl,aN⟩
theorem apt(s s1:ByteArray)(L v bn:Nat)(w:ah)(eY:s.toList.isEmpty=false)(bB:s.size=L)(bR:L<=2000)
  (fG:∀W:ah,(Instr.slice 9 (.string s) (some (.int .i64 1)) none none).run prog W=.ok (.string s1) W)
  (eJ:∀W,Calls prog 25 #[.string s1] W λe bb=>e=.returned (.tuple #[.int .u64 v,.int .i64 bn])/\av W bb)(most:Int)(h:0<bn)(af:most<0) :
  Calls prog 47 #[.string s,.int .i64 most] w λe w'=>e=.returned (mK (none))/\av w w':=by
 have z0:((bn:Int)==0)=false:=cz
 have d0:decide (most<0)=true:=bE af;clear h;have j1:=I eJ;clear eJ;go_enter func47,ntmps47
 go_wp2_with fail
 refine(j1.out _).mono ?_;rintro e aw ⟨rfl,aH⟩;have aN:=I aH;clear aH;go_wp2;go_ret2;exact⟨rfl,aN⟩
theorem apu(s s1:ByteArray)(L v bn:Nat)(w:ah)(eY:s.toList.isEmpty=false)(bB:s.size=L)(bR:L<=2000)
  (fG:∀W:ah,(Instr.slice 9 (.string s) (some (.int .i64 1)) none none).run prog W=.ok (.string s1) W)
  (eJ:∀W,Calls prog 25 #[.string s1] W λe bb=>e=.returned (.tuple #[.int .u64 v,.int .i64 bn])/\av W bb)(m:Nat)(hm:m<=100000)(h:0<bn)(af:m<v) :
  Calls prog 47 #[.string s,.int .i64 m] w λe w'=>e=.returned (mK (none))/\av w w':=by
 have z0:((bn:Int)==0)=false:=cz
 have d0:decide ((m:Int)<0)=false:=aU;have d1:decide ((m:Int)<v)=true:=cf;have rM:decide (m<v)=true:=bE af;clear h;have j1:=I eJ;clear eJ;go_enter func47,ntmps47
 go_wp2_with fail
 refine(j1.out _).mono ?_;rintro e aw ⟨rfl,aH⟩;have aN:=I aH;clear aH;go_wp2;go_ret2;exact⟨rfl,aN⟩
theorem aph(s s1:ByteArray)(L v bn:Nat)(w:ah)(eY:s.toList.isEmpty=false)(bB:s.size=L)(bR:L<=2000)
  (fG:∀W:ah,(Instr.slice 9 (.string s) (some (.int .i64 1)) none none).run prog W=.ok (.string s1) W)
  (eJ:∀W,Calls prog 25 #[.string s1] W λe bb=>e=.returned (.tuple #[.int .u64 v,.int .i64 bn])/\av W bb)
  (m:Nat)(hm:m<=100000)(h:0<bn)(af:v<=m)(cl:Nat)(ax:cl=1+bn)(ix:cl<=L)(hidx:∀W:ah,(Instr.index 9 (.string s) (.int .i64 0)).run prog W=.ok (.int .u8 0) W)(t:ae)(cp:Nat)(hq:cp=cl+v)(aD:cp<=L)(hmid:∀W:ah,(Instr.slice 9 (.string s) (some (.int .i64 cl)) (some (.int .i64 cp)) none).run prog W=.ok (.string (strOf t)) W) :
  Calls prog 47 #[.string s,.int .i64 m] w λe w'=>e=.returned (mK (some (t,cp)))/\av w w':=by
 have z0:((bn:Int)==0)=false:=cz
 have d0:decide ((m:Int)<0)=false:=aU;have d1:decide ((m:Int)<v)=false:=aU;have d2:decide ((1048576:Int)<v)=false:=aU;have rM:decide (m<v)=false:=aU;have bv:v<=100000:=by omega
 have iL:(1:Int)+bn=cl:=by omega
 have bP:cl<=2000:=by omega
 have d3:decide ((L:Int)-cl<v)=false:=aU;have kr:(cl:Int)+v=cp:=by omega
 have bw:cp<=2000:=by omega
 clear h ax hq ix af;have j1:=I eJ;clear eJ;go_enter func47,ntmps47
 go_wp2_with fail
 refine(j1.out _).mono ?_;rintro e aw ⟨rfl,aH⟩;have aN:=I aH;clear aH;go_wp2;go_ret2;exact⟨rfl,aN⟩
theorem apg(s s1:ByteArray)(L v bn:Nat)(w:ah)(eY:s.toList.isEmpty=false)(bB:s.size=L)(bR:L<=2000)
  (fG:∀W:ah,(Instr.slice 9 (.string s) (some (.int .i64 1)) none none).run prog W=.ok (.string s1) W)
  (eJ:∀W,Calls prog 25 #[.string s1] W λe bb=>e=.returned (.tuple #[.int .u64 v,.int .i64 bn])/\av W bb)
  (m:Nat)(hm:m<=100000)(h:0<bn)(af:v<=m)(cl:Nat)(ax:cl=1+bn)(ix:cl<=L)(hidx:∀W:ah,(Instr.index 9 (.string s) (.int .i64 0)).run prog W=.ok (.int .u8 0) W)(aD:L<cl+v) :
  Calls prog 47 #[.string s,.int .i64 m] w λe w'=>e=.returned (mK (none))/\av w w':=by
 have z0:((bn:Int)==0)=false:=cz
 have d0:decide ((m:Int)<0)=false:=aU;have d1:decide ((m:Int)<v)=false:=aU;have d2:decide ((1048576:Int)<v)=false:=aU;have rM:decide (m<v)=false:=aU;have bv:v<=100000:=by omega
 have iL:(1:Int)+bn=cl:=by omega
 have bP:cl<=2000:=by omega
 have d3:decide ((L:Int)-cl<v)=true:=cf;clear h ax ix aD;have j1:=I eJ;clear eJ;go_enter func47,ntmps47
 go_wp2_with fail
 refine(j1.out _).mono ?_;rintro e aw ⟨rfl,aH⟩;have aN:=I aH;clear aH;go_wp2;go_ret2;exact⟨rfl,aN⟩
theorem apj(s s1:ByteArray)(L v bn:Nat)(w:ah)(eY:s.toList.isEmpty=false)(bB:s.size=L)(bR:L<=2000)
  (fG:∀W:ah,(Instr.slice 9 (.string s) (some (.int .i64 1)) none none).run prog W=.ok (.string s1) W)
  (eJ:∀W,Calls prog 25 #[.string s1] W λe bb=>e=.returned (.tuple #[.int .u64 v,.int .i64 bn])/\av W bb)
  (m:Nat)(hm:m<=100000)(h:0<bn)(af:v<=m)(cl:Nat)(ax:cl=1+bn)(ix:cl<=L)(hidx:∀W:ah,(Instr.index 9 (.string s) (.int .i64 0)).run prog W=.ok (.int .u8 1) W)(aD:L<=cl) :
  Calls prog 47 #[.string s,.int .i64 m] w λe w'=>e=.returned (mK (none))/\av w w':=by
 have z0:((bn:Int)==0)=false:=cz
 have d0:decide ((m:Int)<0)=false:=aU;have d1:decide ((m:Int)<v)=false:=aU;have d2:decide ((1048576:Int)<v)=false:=aU;have rM:decide (m<v)=false:=aU;have bv:v<=100000:=by omega
 have iL:(1:Int)+bn=cl:=by omega
 have bP:cl<=2000:=by omega
 have d3:decide ((L:Int)<=cl)=true:=cf;have R0:decide (L<=cl)=true:=bE aD;clear h ax ix aD;have j1:=I eJ;clear eJ;go_enter func47,ntmps47
 go_wp2_with fail
 refine(j1.out _).mono ?_;rintro e aw ⟨rfl,aH⟩;have aN:=I aH;clear aH;go_wp2;go_ret2;exact⟨rfl,aN⟩
theorem apr(s s1:ByteArray)(L v bn:Nat)(w:ah)(eY:s.toList.isEmpty=false)(bB:s.size=L)(bR:L<=2000)
  (fG:∀W:ah,(Instr.slice 9 (.string s) (some (.int .i64 1)) none none).run prog W=.ok (.string s1) W)
  (eJ:∀W,Calls prog 25 #[.string s1] W λe bb=>e=.returned (.tuple #[.int .u64 v,.int .i64 bn])/\av W bb)(m:Nat)(hm:m<=100000)(h:0<bn)(af:v<=m)(cl:Nat)(ax:cl=1+bn)(ix:cl<=L)(k:Nat)(hk:2<k)(ft:k<256)(hidx:∀W:ah,(Instr.index 9 (.string s) (.int .i64 0)).run prog W=.ok (.int .u8 k) W) :
  Calls prog 47 #[.string s,.int .i64 m] w λe w'=>e=.returned (mK (none))/\av w w':=by
 have z0:((bn:Int)==0)=false:=cz
 have d0:decide ((m:Int)<0)=false:=aU;have d1:decide ((m:Int)<v)=false:=aU;have d2:decide ((1048576:Int)<v)=false:=aU;have rM:decide (m<v)=false:=aU;have bv:v<=100000:=by omega
 have iL:(1:Int)+bn=cl:=by omega
 have bP:cl<=2000:=by omega
 have bD:((k:Int)==0)=false:=cz
 have bh:((k:Int)==1)=false:=cz
 have bN:((k:Int)==2)=false:=cz
 clear h ax ix hk;have j1:=I eJ;clear eJ;go_enter func47,ntmps47
 go_wp2_with fail
 refine(j1.out _).mono ?_;rintro e aw ⟨rfl,aH⟩;have aN:=I aH;clear aH;go_wp2;go_ret2;exact⟨rfl,aN⟩
def rh(a b c:Nat):b1:=[.int .i64 a,.int .i64 b,.int .i64 c]
def Hy:Option am.eb->Value
|none=>.tuple #[.agg (rh 0 0 0).toArray,.int .u64 0,.int .i64 0]
|some h=>.tuple #[.agg (rh h.1 h.2.1 h.2.2.1).toArray,.int .u64 (h.2.2.2.1:Int),.int .i64 (h.2.2.2.2:Int)]
structure fc(w W:ah):Prop where
 dV:Row W w.heap.size 30 (rh 0 0 0)
 bO:Row W (w.heap.size+1) 30 (rh 0 0 0)
 dF:av w W
theorem fc.call{w W bb:ah}(h:fc w W)(ak:av W bb):fc w bb:=
 ⟨h.dV.keep (ak.block _ h.dV.lt),h.bO.keep (ak.block _ h.bO.lt),h.dF.trans (ak.mono h.dF.size)⟩
theorem fc.start(w:ah):fc w ((w.alloc (.cells (rh 0 0 0).toArray 30)).alloc (.cells (rh 0 0 0).toArray 30)):=by
 have cW:=Row.new (w.alloc (.cells (rh 0 0 0).toArray 30)) 30 (rh 0 0 0);rw[show(w.alloc (.cells (rh 0 0 0).toArray 30)).heap.size=w.heap.size+1 by simp]at cW;exact⟨(Row.new w 30 (rh 0 0 0)).alloc _,cW,(dM.alloc bl _).alloc (by simp) _⟩
theorem nH{W:ah}{b:Nat}{t:TypeId}{x y z:Value}(h:Row W b t [x,y,z])(u0 u1 u2:Value):W.cell? ⟨b,0,none⟩=some x/\W.cell? ⟨b,1,none⟩=some y/\W.cell? ⟨b,2,none⟩=some z /\
  W.frozen? ⟨b,0,none⟩=false/\W.frozen? ⟨b,1,none⟩=false/\W.frozen? ⟨b,2,none⟩=false/\(W.setCell ⟨b,0,none⟩ u0).cell? ⟨b,0,none⟩=some u0 /\
  ((W.setCell ⟨b,0,none⟩ u0).setCell ⟨b,1,none⟩ u1).cell? ⟨b,1,none⟩=some u1/\(((W.setCell ⟨b,0,none⟩ u0).setCell ⟨b,1,none⟩ u1).setCell ⟨b,2,none⟩ u2).cell? ⟨b,2,none⟩=some u2:=
 ⟨h.cell 0,h.cell 1,h.cell 2,h.free 0,h.free 1,h.free 2,(h.bq 0 u0).cell 0,((h.bq 0 u0).bq 1 u1).cell 1,(((h.bq 0 u0).bq 1 u1).bq 2 u2).cell 2⟩
theorem Rn(bs:ae)(w:ah)(hl:bs.length<=1000000)(au:∀x∈bs,x<256) :
  Calls prog 11 #[.string (strOf bs)] w λe w'=>e=.returned (Hy (ip bs))/\av w w':=by
 have cS:=I (fc.start w);have bB:=cy bs;obtain⟨V,bW⟩:∃V,V=Hy (ip bs):=⟨_,rfl⟩;rw[<-bW];have ur:Hy none=.tuple #[.agg #[.int .i64 0,.int .i64 0,.int .i64 0],.int .u64 0,.int .i64 0]:=rfl;cases bs with
|nil=>
  have he:=uE [];rw[bE rfl]at he;rw[show ip []=none from rfl,ur]at bW;subst bW;go_enter func11,ntmps11
  go_upto_region 3 with fail
  obtain⟨c0,c1,c2,-,-,-,-,-,-⟩:=nH cS.out.bO (.int .i64 0) (.int .i64 0) (.int .i64 0);obtain⟨d0,d1,uB,f0,f1,f2,sD,oh,oi⟩:=nH cS.out.dV (.int .i64 0) (.int .i64 0) (.int .i64 0);have hbel:=cS.out.dF;go_wp2;exact bodyPost_ret (v:=.tuple #[.agg #[.int .i64 0,.int .i64 0,.int .i64 0],.int .u64 0,.int .i64 0]) (by simp[results,results11,go_sem]) rfl ⟨rfl,hbel⟩
|cons x r=>
  have he:=uE (x::r);rw[bG (by simp)]at he;have ai:=au x dU;have ajV:∀W:ah,(Instr.index 9 (.string (strOf (x::r))) (.int .i64 0)).run prog W=.ok (.int .u8 x) W:=λW=>pE (x::r) 0 W (by simp) (by simpa using ai)
  have MA:((strOf (x::r)).toList==(ByteArray.mk #[]).toList)=false:=by
   rw[show(ByteArray.mk #[])=strOf []from rfl,El _ _ au (by simp)];rfl
  unfold ip at bW;dsimp only at bW;by_cases af:2<x
  .rw[aB af,ur]at bW;subst bW;have d2:decide ((2:Int)<x)=true:=cf;clear au ai ur;generalize strOf (x::r)=kM at *;go_enter func11,ntmps11
   go_upto_region 3 with fail
   obtain⟨c0,c1,c2,-,-,-,-,-,-⟩:=nH cS.out.bO (.int .i64 0) (.int .i64 0) (.int .i64 0);obtain⟨d0,d1,uB,f0,f1,f2,sD,oh,oi⟩:=nH cS.out.dV (.int .i64 0) (.int .i64 0) (.int .i64 0);have hbel:=cS.out.dF;go_wp2;exact bodyPost_ret (v:=.tuple #[.agg #[.int .i64 0,.int .i64 0,.int .i64 0],.int .u64 0,.int .i64 0]) (by simp[results,results11,go_sem]) rfl ⟨rfl,hbel⟩
  .rw[az af]at bW;have d2:decide ((2:Int)<x)=false:=aU;have yc:∀(i:Nat),i<=(x::r).length->∀W:ah,(Instr.slice 9 (.string (strOf (x::r))) (some (.int .i64 i)) none none).run prog W=.ok (.string (strOf ((x::r).drop i))) W:=λi ay W=>o2 (x::r) i ay W
   have avT:∀W:ah,(Instr.slice 9 (.string (strOf (x::r))) (some (.int .i64 1)) none none).run prog W=.ok (.string (strOf r)) W:=λW=>yc 1 (by simp) W
   have pD:r.length<=1000000:=by rw[bY]at hl;omega
   have AE:∀y∈r,y<256:=λy hy=>au y (eo _ hy)
   have tX:=I (λW=>z7 r W (by omega) AE);unfold qu at bW;obtain⟨⟨aP,k⟩,tn⟩:∃z,z=aX r:=⟨_,rfl⟩;have ev:aP<2^64/\k<=r.length:=by
    rcases eq_zero_or_pos k with ao|ao
    .subst ao;rw[KN r aP tn.symm];exact⟨by decide,zero_le _⟩
    .have:=rP r aP k ao tn.symm;exact⟨this.1,this.2.2⟩
   rw[<-tn]at bW tX;dsimp only at bW tX;by_cases c1:0<k/\aP<=1073741824
   .rw[aB c1]at bW;have d3:((k:Int)==0)=false:=cz
    have d4:decide ((1073741824:Int)<aP)=false:=aU;have hfr2:∀W:ah,(Instr.slice 9 (.string (strOf (x::r))) (some (.int .i64 (1+(k:Int)))) none none).run prog W=.ok (.string (strOf (r.drop k))) W:=λW=>by
     have h:=yc (1+k) (by rw[bY];omega) W;rw[Nat.add_comm 1,drop_succ_cons,show((k+1:Nat):Int)=1+(k:Int) by omega]at h;exact h
    have tY:=I (λW=>z7 (r.drop k) W (by rw[cB];omega) (λy hy=>AE y (mem_of_mem_drop hy)));obtain⟨⟨n,m⟩,uU⟩:∃z,z=aX (r.drop k):=⟨_,rfl⟩;have aA:n<2^64/\m<=r.length-k:=by
     rcases eq_zero_or_pos m with ao|ao
     .subst ao;rw[KN _ n uU.symm];exact⟨by decide,zero_le _⟩
     .have:=rP (r.drop k) n m ao uU.symm;rw[cB]at this;exact⟨this.1,this.2.2⟩
    rw[<-uU]at bW tY;dsimp only at bW tY;by_cases c2:0<m/\n<=1099511627776/\k+m+8<=r.length
    .rw[aB c2,map_some]at bW;dsimp only at bW;have d5:((m:Int)==0)=false:=cz
     have d6:decide ((1099511627776:Int)<n)=false:=aU;have d7:decide ((((x::r).length:Nat):Int)-(1+(k:Int)+m)<8)=false:=bG (by rw[bY];omega);have hcut:∀W:ah,(Instr.slice 9 (.string (strOf (x::r))) (some (.int .i64 (1+(k:Int)+m))) (some (.int .i64 (1+(k:Int)+m+8))) none).run prog W=.ok (.string (strOf ((r.drop (k+m)).take 8))) W:=λW=>by
      have h:=Xo (x::r) (1+k+m) (1+k+m+8) (by omega) (by rw[bY];omega) W;rw[show((1+k+m:Nat):Int)=1+(k:Int)+m by omega,show((1+k+m+8:Nat):Int)=1+(k:Int)+m+8 by omega]at h;rw[h,drop_take,show 1+k+m+8-(1+k+m)=8 by omega,show 1+k+m=k+m+1 by omega,drop_succ_cons]
     have gR:=I (λW=>ah9 ((r.drop (k+m)).take 8) W (by rw[cr];omega) (λy hy=>AE y (mem_of_mem_drop (mem_of_mem_take hy))));have gU:IntKind.i64.wrap (1+(k:Int))=1+(k:Int):=by rw[IntWalk.i64_in _ (by omega)]
     have mX:IntKind.i64.wrap (1+(k:Int)+m)=1+(k:Int)+m:=by rw[IntWalk.i64_in _ (by omega)]
     have kI:IntKind.i64.wrap ((((x::r).length:Nat):Int)-(1+(k:Int)+m))=(((x::r).length:Nat):Int)-(1+(k:Int)+m):=by rw[bY,IntWalk.i64_in _ (by omega)]
     have DG:IntKind.i64.wrap (1+(k:Int)+m+8)=1+(k:Int)+m+8:=by rw[IntWalk.i64_in _ (by omega)]
     have awW:IntKind.i64.wrap (aP:Int)=aP:=by rw[IntWalk.i64_in _ (by omega)]
     have awZ:IntKind.i64.wrap (n:Int)=n:=by rw[IntWalk.i64_in _ (by omega)]
     have aw1:IntKind.i64.wrap (x:Int)=x:=by rw[IntWalk.i64_in _ (by omega)]
     obtain⟨s,ap⟩:∃s,s=bd ((r.drop (k+m)).take 8):=⟨_,rfl⟩;rw[<-ap]at bW gR;have aeO:V=.tuple #[.agg #[.int .i64 x,.int .i64 aP,.int .i64 n],.int .u64 s,.int .i64 (1+(k:Int)+m+8)]:=by
      rw[bW];unfold Hy rh;dsimp only;rw[show((1+(k+m+8):Nat):Int)=1+(k:Int)+m+8 by omega]
     subst aeO;clear bW ap yc hl pD au AE ai ev aA tn uU c1 c2 af ur;generalize strOf (x::r)=kM at *;generalize (x::r).length=WW at *;generalize strOf (List.take 8 (List.drop (k+m) r))=axt at *;generalize strOf (r.drop k)=s2 at *;generalize strOf r=s1 at *;go_enter func11,ntmps11
     go_wp2_with fail
     refine(tX.out _).mono ?_;rintro e aw ⟨rfl,aH⟩;have h3:=I (cS.out.call aH);clear aH;go_wp2_with fail
     refine(tY.out _).mono ?_;rintro e aC ⟨rfl,aJ⟩;have l5:=I (h3.out.call aJ);clear aJ;obtain⟨c0,c1,c2,f0,f1,f2,t0,t1,t2⟩:=nH l5.out.bO (.int .i64 x) (.int .i64 aP) (.int .i64 n);have cW:Row _ _ 30 (rh x aP n):=((l5.out.bO.bq 0 (.int .i64 x)).bq 1 (.int .i64 aP)).bq 2 (.int .i64 n);have eN:=((l5.out.dV.cG (p:=⟨w.heap.size+1,0,none⟩) (by simp) (.int .i64 x)).cG (p:=⟨w.heap.size+1,1,none⟩) (by simp) (.int .i64 aP)).cG (p:=⟨w.heap.size+1,2,none⟩) (by simp) (.int .i64 n);have eu:=((l5.out.dF.setCell (p:=⟨w.heap.size+1,0,none⟩) (by simp) (.int .i64 x)).setCell (p:=⟨w.heap.size+1,1,none⟩) (by simp) (.int .i64 aP)).setCell (p:=⟨w.heap.size+1,2,none⟩) (by simp) (.int .i64 n);have l7:=I cW;have oC:=I eN;have sR:=I eu;clear cW eN eu;go_upto_region 12 with fail
     clear c0 c1 c2 f0 f1 f2 t0 t1 t2;generalize ((aC.setCell ⟨w.heap.size+1,0,none⟩ (.int .i64 x)).setCell ⟨w.heap.size+1,1,none⟩ (.int .i64 aP)).setCell ⟨w.heap.size+1,2,none⟩ (.int .i64 n)=a6 at *;obtain⟨c0,c1,c2,-,-,-,-,-,-⟩:=nH l7.out (.int .i64 0) (.int .i64 0) (.int .i64 0);obtain⟨d0,d1,uB,f0,f1,f2,t0,t1,t2⟩:=nH oC.out (.int .i64 x) (.int .i64 aP) (.int .i64 n);have hbel:=(((sR.out.setCell (p:=⟨w.heap.size,0,none⟩) bl (.int .i64 x)).setCell (p:=⟨w.heap.size,1,none⟩) bl (.int .i64 aP)).setCell (p:=⟨w.heap.size,2,none⟩) bl (.int .i64 n)).drew;go_region_with (go_at_call 26;refine(gR.out _).mono ?_;rintro e bH ⟨rfl,rfl⟩)
     all_goals
      go_wp2;exact bodyPost_ret (v:=.tuple #[.agg #[.int .i64 x,.int .i64 aP,.int .i64 n],.int .u64 s,.int .i64 (1+(k:Int)+m+8)]) (by simp[results,results11,go_sem,t0,t1,t2]) rfl ⟨rfl,hbel⟩
    .rw[az c2,map_none,ur]at bW;subst bW;have dd:(((m:Int)==0) || decide ((1099511627776:Int)<n) || decide ((((x::r).length:Nat):Int)-(1+(k:Int)+m)<8))=true:=by
      rw[bY];by_cases aG:m=0
      .subst aG;rfl
      .by_cases e2:1099511627776<n
       .rw[bE (by omega:(1099511627776:Int)<n),Bool.or_true,Bool.true_or]
       .rw[bE (by omega:((r.length+1:Nat):Int)-(1+(k:Int)+m)<8),Bool.or_true]
     have gU:IntKind.i64.wrap (1+(k:Int))=1+(k:Int):=by rw[IntWalk.i64_in _ (by omega)]
     have mX:IntKind.i64.wrap (1+(k:Int)+m)=1+(k:Int)+m:=by rw[IntWalk.i64_in _ (by omega)]
     have kI:IntKind.i64.wrap ((((x::r).length:Nat):Int)-(1+(k:Int)+m))=(((x::r).length:Nat):Int)-(1+(k:Int)+m):=by rw[bY,IntWalk.i64_in _ (by omega)]
     clear yc hl pD au AE ai ev aA tn uU c1 c2 af ur;generalize strOf (x::r)=kM at *;generalize (x::r).length=WW at *;generalize strOf (r.drop k)=s2 at *;generalize strOf r=s1 at *;go_enter func11,ntmps11
     go_wp2_with fail
     refine(tX.out _).mono ?_;rintro e aw ⟨rfl,aH⟩;have h3:=I (cS.out.call aH);clear aH;go_wp2_with fail
     refine(tY.out _).mono ?_;rintro e aC ⟨rfl,aJ⟩;have l5:=I (h3.out.call aJ);clear aJ;by_cases aG:((m:Int)==0)=true
     .clear dd;obtain⟨c0,c1,c2,-,-,-,-,-,-⟩:=nH l5.out.bO (.int .i64 0) (.int .i64 0) (.int .i64 0);obtain⟨d0,d1,uB,f0,f1,f2,sD,oh,oi⟩:=nH l5.out.dV (.int .i64 0) (.int .i64 0) (.int .i64 0);have hbel:=((l5.out.dF.setCell (p:=⟨w.heap.size,0,none⟩) bl (.int .i64 0)).setCell (p:=⟨w.heap.size,1,none⟩) bl (.int .i64 0)).setCell (p:=⟨w.heap.size,2,none⟩) bl (.int .i64 0);go_wp2;exact bodyPost_ret (v:=.tuple #[.agg #[.int .i64 0,.int .i64 0,.int .i64 0],.int .u64 0,.int .i64 0]) (by simp[results,results11,go_sem,sD,oh,oi]) rfl ⟨rfl,hbel⟩
     .have aG:((m:Int)==0)=false:=by simpa using aG
      by_cases e2:decide ((1099511627776:Int)<n)=true
      .clear dd;obtain⟨c0,c1,c2,-,-,-,-,-,-⟩:=nH l5.out.bO (.int .i64 0) (.int .i64 0) (.int .i64 0);obtain⟨d0,d1,uB,f0,f1,f2,sD,oh,oi⟩:=nH l5.out.dV (.int .i64 0) (.int .i64 0) (.int .i64 0);have hbel:=((l5.out.dF.setCell (p:=⟨w.heap.size,0,none⟩) bl (.int .i64 0)).setCell (p:=⟨w.heap.size,1,none⟩) bl (.int .i64 0)).setCell (p:=⟨w.heap.size,2,none⟩) bl (.int .i64 0);go_wp2;exact bodyPost_ret (v:=.tuple #[.agg #[.int .i64 0,.int .i64 0,.int .i64 0],.int .u64 0,.int .i64 0]) (by simp[results,results11,go_sem,sD,oh,oi]) rfl ⟨rfl,hbel⟩
      .have e2:decide ((1099511627776:Int)<n)=false:=by simpa using e2
       rw[aG,e2,Bool.false_or,Bool.false_or]at dd;obtain⟨c0,c1,c2,-,-,-,-,-,-⟩:=nH l5.out.bO (.int .i64 0) (.int .i64 0) (.int .i64 0);obtain⟨d0,d1,uB,f0,f1,f2,sD,oh,oi⟩:=nH l5.out.dV (.int .i64 0) (.int .i64 0) (.int .i64 0);have hbel:=((l5.out.dF.setCell (p:=⟨w.heap.size,0,none⟩) bl (.int .i64 0)).setCell (p:=⟨w.heap.size,1,none⟩) bl (.int .i64 0)).setCell (p:=⟨w.heap.size,2,none⟩) bl (.int .i64 0);go_wp2;exact bodyPost_ret (v:=.tuple #[.agg #[.int .i64 0,.int .i64 0,.int .i64 0],.int .u64 0,.int .i64 0]) (by simp[results,results11,go_sem,sD,oh,oi]) rfl ⟨rfl,hbel⟩
   .rw[az c1,map_none,ur]at bW;subst bW;have aj2:k=0\/(k≠0/\1073741824<aP):=by omega
    clear yc hl pD au AE ai ev tn c1 af ur;generalize strOf (x::r)=kM at *;generalize strOf r=s1 at *;go_enter func11,ntmps11
    go_wp2_with fail
    refine(tX.out _).mono ?_;rintro e aw ⟨rfl,aH⟩;have h3:=I (cS.out.call aH);clear aH;rcases aj2 with rfl|⟨gl,ek⟩
    .obtain⟨c0,c1,c2,-,-,-,-,-,-⟩:=nH h3.out.bO (.int .i64 0) (.int .i64 0) (.int .i64 0);obtain⟨d0,d1,uB,f0,f1,f2,sD,oh,oi⟩:=nH h3.out.dV (.int .i64 0) (.int .i64 0) (.int .i64 0);have hbel:=((h3.out.dF.setCell (p:=⟨w.heap.size,0,none⟩) bl (.int .i64 0)).setCell (p:=⟨w.heap.size,1,none⟩) bl (.int .i64 0)).setCell (p:=⟨w.heap.size,2,none⟩) bl (.int .i64 0);go_wp2;exact bodyPost_ret (v:=.tuple #[.agg #[.int .i64 0,.int .i64 0,.int .i64 0],.int .u64 0,.int .i64 0]) (by simp[results,results11,go_sem,sD,oh,oi]) rfl ⟨rfl,hbel⟩
    .have d3:((k:Int)==0)=false:=cz
     have d4:decide ((1073741824:Int)<aP)=true:=cf;obtain⟨c0,c1,c2,-,-,-,-,-,-⟩:=nH h3.out.bO (.int .i64 0) (.int .i64 0) (.int .i64 0);obtain⟨d0,d1,uB,f0,f1,f2,sD,oh,oi⟩:=nH h3.out.dV (.int .i64 0) (.int .i64 0) (.int .i64 0);have hbel:=((h3.out.dF.setCell (p:=⟨w.heap.size,0,none⟩) bl (.int .i64 0)).setCell (p:=⟨w.heap.size,1,none⟩) bl (.int .i64 0)).setCell (p:=⟨w.heap.size,2,none⟩) bl (.int .i64 0);go_wp2;exact bodyPost_ret (v:=.tuple #[.agg #[.int .i64 0,.int .i64 0,.int .i64 0],.int .u64 0,.int .i64 0]) (by simp[results,results11,go_sem,sD,oh,oi]) rfl ⟨rfl,hbel⟩
theorem af5(X:ae)(aP:Nat)(w:ah)(ck:X.length<=100000)(au:∀x∈X,x<256)(ev:aP<=1073741824) :
  Calls prog 12 #[.string (strOf X),.int .i64 aP] w λe w'=>e=.returned (.string (strOf (fF 0 aP X++X)))/\av w w':=by
 have bB:=cy X;have g1:=lP aP (by omega);have g2:=lP X.length (by omega);have hw:IntKind.u64.wrap (aP:Int)=aP:=Bf aP (by omega);have jb:=I (λW=>KL aP W (by omega));have fK:=I (λW=>ah8 X W (by omega));have ca:=I (λW=>SF X W (by omega) au);have br:=I (λW=>ahT (am.sumOf X) 8 W (OV X));rw[show fO 8=8 by decide]at br;have e8:=am.bytesOf_length (am.sumOf X) 8;have fL:∀W:ah,(Op.stringOp .add (ByteArray.mk #[0]) (strOf (bg aP))).run prog W=.ok (.string (strOf (0::bg aP))) W:=λW=>ra [0] (bg aP) (by simp;omega) W
 have aS:=cy (bg X.length++X);rw[aY]at aS;have a2:∀W:ah,(Instr.slice 9 (.string (strOf (bg X.length++X))) none (some (.int .i64 ((bg X.length).length:Int))) none).run prog W=.ok (.string (strOf (bg X.length))) W:=λW=>by
  have h:=rb (bg X.length++X) (bg X.length).length (by rw[aY];omega) W;rw[take_left]at h;exact h
 have a3:=λW=>ra (0::bg aP) (bg X.length) (by rw[bY];omega) W
 have a4:=λW=>ra (0::bg aP++bg X.length) (am.bytesOf (am.sumOf X) 8) (by rw[aY,bY,e8];omega) W
 have a5:=λW=>ra (0::bg aP++bg X.length++am.bytesOf (am.sumOf X) 8) X (by simp only[aY,bY,e8];omega) W
 have e5:0::bg aP++bg X.length++am.bytesOf (am.sumOf X) 8++X=fF 0 aP X++X:=by unfold fF;simp
 rw[e5]at a5;have hsub:IntKind.i64.wrap ((bg X.length).length:Int)=((bg X.length).length:Int):=by rw[IntWalk.i64_in _ (by omega)]
 clear e5 ck au ev g1 g2 e8;generalize strOf (fF 0 aP X++X)=axs at *;generalize strOf (0::bg aP++bg X.length++am.bytesOf (am.sumOf X) 8)=axr at *;generalize strOf (0::bg aP++bg X.length)=o0 at *;generalize strOf (am.bytesOf (am.sumOf X) 8)=iB at *;generalize strOf (bg X.length++X)=st at *;generalize strOf (0::bg aP)=s2 at *;generalize strOf (bg aP)=s1 at *;generalize strOf (bg X.length)=axz at *;generalize (bg X.length).length=bT at *;generalize strOf X=kM at *;generalize X.length=WW at *;generalize am.sumOf X=y at *;have EH:=I (Below.refl w.heap.size w).drew;go_enter func12,ntmps12
 go_upto_region 1 with fail
 refine wp_region_held_drew (S:=(λ_:ah=>True)) (by kernel_rfl) (by trivial) (λhHeld=>?_);refine bJ 0 {dst:=some 5,op:=.move (.tmp 1),type:=3,pos:= "ref.go:33",after:=#[],guard:=none} ?_ rfl (Or.inl ⟨by rfl,?_⟩) ?_;rotate_left
 ·(intro w hSw;(try dsimp only at hSw);go_simp;(try with_reducible rfl))
 try simp only[bf]
 refine bJ 1 {dst:=some 6,op:=.convert 3 31 (.tmp 5),type:=31,pos:= "ref.go:33",after:=#[{on:=0,ground:=.data}],guard:=none} ?_ rfl (Or.inl ⟨by rfl,?_⟩) ?_;rotate_left
 ·(intro w hSw;(try dsimp only at hSw);go_simp;(try with_reducible rfl))
 try simp only[bf]
 refine bJ 4 {dst:=some 9,op:=.move (.tmp 0),type:=9,pos:= "ref.go:33",after:=#[],guard:=none} ?_ rfl (Or.inl ⟨by rfl,?_⟩) ?_;rotate_left
 ·(intro w hSw;(try dsimp only at hSw);go_simp;(try with_reducible rfl))
 try simp only[bf]
 refine bJ 6 {dst:=some 11,op:=.move (.tmp 0),type:=9,pos:= "ref.go:33",after:=#[],guard:=none} ?_ rfl (Or.inl ⟨by rfl,?_⟩) ?_;rotate_left
 ·(intro w hSw;(try dsimp only at hSw);go_simp;(try with_reducible rfl))
 try simp only[bf]
 refine bJ 9 {dst:=some 14,op:=.move (.tmp 0),type:=9,pos:= "ref.go:33",after:=#[],guard:=none} ?_ rfl (Or.inl ⟨by rfl,?_⟩) ?_;rotate_left
 ·(intro w hSw;(try dsimp only at hSw);go_simp;(try with_reducible rfl))
 try simp only[bf]
 refine bJ 10 {dst:=some 15,op:=.call {callee:=.builtin .len,args:=#[.tmp 14],argTypes:=#[9]},type:=3,pos:= "ref.go:33",after:=#[{on:=9,ground:=.data}],guard:=none} ?_ rfl (Or.inl ⟨by rfl,?_⟩) ?_;rotate_left
 ·(intro w hSw;(try dsimp only at hSw);go_simp;(try with_reducible rfl))
 try simp only[bf]
 refine bJ 14 {dst:=some 19,op:=.move (.tmp 0),type:=9,pos:= "ref.go:33",after:=#[],guard:=none} ?_ rfl (Or.inl ⟨by rfl,?_⟩) ?_;rotate_left
 ·(intro w hSw;(try dsimp only at hSw);go_simp;(try with_reducible rfl))
 try simp only[bf]
 refine bJ 18 {dst:=some 23,op:=.move (.tmp 0),type:=9,pos:= "ref.go:33",after:=#[],guard:=none} ?_ rfl (Or.inl ⟨by rfl,?_⟩) ?_;rotate_left
 ·(intro w hSw;(try dsimp only at hSw);go_simp;(try with_reducible rfl))
 try simp only[bf]
 refine hd 2 {dst:=some 7,op:=.call {callee:=.value (.func 27),args:=#[.tmp 6],argTypes:=#[31]},type:=9,pos:= "ref.go:33",after:=#[{on:=1,ground:=.data}],guard:=none} rfl (λK hK=>?_);go_simp
 (go_at_call 27;refine(jb.out _).mono ?_;rintro e aw ⟨rfl,aH⟩;have abb:=b3 EH aH;clear aH)
 go_simp;refine hK.out _ _ (by trivial) (λhHeld=>?_);clear hK K
 try simp only[bf]
 refine bJ 3 {dst:=some 8,op:=.binOp .add 9 (.const (.string {data:=#[0]})) (.tmp 7) 9,type:=9,pos:= "ref.go:33",after:=#[{on:=2,ground:=.data}],guard:=none} ?_ rfl (Or.inl ⟨by rfl,?_⟩) ?_;rotate_left
 ·(intro w hSw;(try dsimp only at hSw);go_simp;(try with_reducible rfl))
 try simp only[bf]
 refine hd 5 {dst:=some 10,op:=.call {callee:=.value (.func 28),args:=#[.tmp 9],argTypes:=#[9]},type:=9,pos:= "ref.go:33",after:=#[{on:=4,ground:=.data},{on:=2,ground:=.chain}],guard:=none} rfl (λK hK=>?_);go_simp
 (go_at_call 28;refine(fK.out _).mono ?_;rintro e aC ⟨rfl,aJ⟩;have abd:=b3 abb aJ;clear aJ)
 go_simp;refine hK.out _ _ (by trivial) (λhHeld=>?_);clear hK K
 try simp only[bf]
 refine hd 7 {dst:=some 12,op:=.call {callee:=.value (.func 28),args:=#[.tmp 11],argTypes:=#[9]},type:=9,pos:= "ref.go:33",after:=#[{on:=6,ground:=.data},{on:=5,ground:=.chain}],guard:=none} rfl (λK hK=>?_);go_simp
 (go_at_call 28;refine(fK.out _).mono ?_;rintro e a6 ⟨rfl,bA⟩;have abe:=b3 abd bA;clear bA)
 go_simp;refine hK.out _ _ (by trivial) (λhHeld=>?_);clear hK K
 try simp only[bf]
 refine bJ 8 {dst:=some 13,op:=.call {callee:=.builtin .len,args:=#[.tmp 12],argTypes:=#[9]},type:=3,pos:= "ref.go:33",after:=#[{on:=7,ground:=.data}],guard:=none} ?_ rfl (Or.inl ⟨by rfl,?_⟩) ?_;rotate_left
 ·(intro w hSw;(try dsimp only at hSw);go_simp;(try with_reducible rfl))
 try simp only[bf]
 refine bJ 11 {dst:=some 16,op:=.binOp .sub 3 (.tmp 13) (.tmp 15) 3,type:=3,pos:= "ref.go:33",after:=#[{on:=8,ground:=.data},{on:=10,ground:=.data}],guard:=none} ?_ rfl (Or.inl ⟨by rfl,?_⟩) ?_;rotate_left
 ·(intro w hSw;(try dsimp only at hSw);go_simp;(try with_reducible rfl))
 try simp only[bf]
 refine bJ 12 {dst:=some 17,op:=.slice 9 (.tmp 10) none (some (.tmp 16)) none,type:=9,pos:= "ref.go:33",after:=#[{on:=5,ground:=.data},{on:=11,ground:=.data}],guard:=none} ?_ rfl (Or.inl ⟨by rfl,?_⟩) ?_;rotate_left
 ·(intro w hSw;(try dsimp only at hSw);go_simp;(try with_reducible rfl))
 try simp only[bf]
 refine bJ 13 {dst:=some 18,op:=.binOp .add 9 (.tmp 8) (.tmp 17) 9,type:=9,pos:= "ref.go:33",after:=#[{on:=3,ground:=.data},{on:=12,ground:=.data}],guard:=none} ?_ rfl (Or.inl ⟨by rfl,?_⟩) ?_;rotate_left
 ·(intro w hSw;(try dsimp only at hSw);go_simp;(try with_reducible rfl))
 try simp only[bf]
 refine hd 15 {dst:=some 20,op:=.call {callee:=.value (.func 24),args:=#[.tmp 19],argTypes:=#[9]},type:=31,pos:= "ref.go:33",after:=#[{on:=14,ground:=.data},{on:=7,ground:=.chain}],guard:=none} rfl (λK hK=>?_);go_simp
 (go_at_call 24;refine(ca.out _).mono ?_;rintro e bH ⟨rfl,rfl⟩)
 go_simp;refine hK.out _ _ (by trivial) (λhHeld=>?_);clear hK K
 try simp only[bf]
 refine hd 16 {dst:=some 21,op:=.call {callee:=.value (.func 29),args:=#[.tmp 20,.const (.int .i64 8)],argTypes:=#[31,3]},type:=9,pos:= "ref.go:33",after:=#[{on:=15,ground:=.data},{on:=15,ground:=.chain}],guard:=none} rfl (λK hK=>?_);go_simp
 (go_at_call 29;refine(br.out _).mono ?_;rintro e dp ⟨rfl,cL⟩;have abf:=b3 abe cL;clear cL)
 go_simp;refine hK.out _ _ (by trivial) (λhHeld=>?_);clear hK K
 try simp only[bf]
 refine bJ 17 {dst:=some 22,op:=.binOp .add 9 (.tmp 18) (.tmp 21) 9,type:=9,pos:= "ref.go:33",after:=#[{on:=13,ground:=.data},{on:=16,ground:=.data}],guard:=none} ?_ rfl (Or.inl ⟨by rfl,?_⟩) ?_;rotate_left
 ·(intro w hSw;(try dsimp only at hSw);go_simp;(try with_reducible rfl))
 try simp only[bf]
 refine bJ 19 {dst:=some 24,op:=.binOp .add 9 (.tmp 22) (.tmp 23) 9,type:=9,pos:= "ref.go:33",after:=#[{on:=17,ground:=.data},{on:=18,ground:=.data}],guard:=none} ?_ rfl (Or.inl ⟨by rfl,?_⟩) ?_;rotate_left
 ·(intro w hSw;(try dsimp only at hSw);go_simp;(try with_reducible rfl))
 try simp only[bf]
 refine bJ 20 {dst:=some 4,op:=.assign (.tmp 24),type:=9,pos:= "ref.go:33",after:=#[{on:=19,ground:=.data},{on:=16,ground:=.chain},{on:=0,ground:=.phase},{on:=1,ground:=.phase},{on:=2,ground:=.phase},{on:=3,ground:=.phase},{on:=4,ground:=.phase},{on:=5,ground:=.phase},{on:=6,ground:=.phase},{on:=7,ground:=.phase},{on:=8,ground:=.phase},{on:=9,ground:=.phase},{on:=10,ground:=.phase},{on:=11,ground:=.phase},{on:=12,ground:=.phase},{on:=13,ground:=.phase},{on:=14,ground:=.phase},{on:=15,ground:=.phase},{on:=16,ground:=.phase},{on:=17,ground:=.phase},{on:=18,ground:=.phase},{on:=19,ground:=.phase}],guard:=none} ?_ rfl (Or.inl ⟨by rfl,?_⟩) ?_;rotate_left
 ·(intro w hSw;(try dsimp only at hSw);go_simp;(try with_reducible rfl))
 try simp only[bf]
 refine wpAnyH_done (by kernel_rfl) ?_ _;go_wp2;go_ret;exact⟨rfl,abf⟩
set_option linter.unusedVariables false
theorem apk(s s1:ByteArray)(L v bn:Nat)(w:ah)(eY:s.toList.isEmpty=false)(bB:s.size=L)(bR:L<=2000)
  (fG:∀W:ah,(Instr.slice 9 (.string s) (some (.int .i64 1)) none none).run prog W=.ok (.string s1) W)
  (eJ:∀W,Calls prog 25 #[.string s1] W λe bb=>e=.returned (.tuple #[.int .u64 v,.int .i64 bn])/\av W bb)
  (m:Nat)(hm:m<=100000)(h:0<bn)(af:v<=m)(cl:Nat)(ax:cl=1+bn)(ix:cl<=L)(hidx:∀W:ah,(Instr.index 9 (.string s) (.int .i64 0)).run prog W=.ok (.int .u8 1) W)(x:Nat)(ai:x<256)(cp:Nat)(hq:cp=cl+1)(aD:cl<L)(et:∀W:ah,(Instr.index 9 (.string s) (.int .i64 cl)).run prog W=.ok (.int .u8 x) W) :
  Calls prog 47 #[.string s,.int .i64 m] w λe w'=>e=.returned (mK (some (List.replicate v x,cp)))/\av w w':=by
 have z0:((bn:Int)==0)=false:=cz
 have d0:decide ((m:Int)<0)=false:=aU;have d1:decide ((m:Int)<v)=false:=aU;have d2:decide ((1048576:Int)<v)=false:=aU;have rM:decide (m<v)=false:=aU;have bv:v<=100000:=by omega
 have iL:(1:Int)+bn=cl:=by omega
 have bP:cl<=2000:=by omega
 have d3:decide ((L:Int)<=cl)=false:=aU;have R0:decide (L<=cl)=false:=aU;obtain⟨i0,ay,bC,bL,bz⟩:=info_parts ob;obtain⟨res,hres⟩:∃r,r=strOf (List.replicate v x):=⟨_,rfl⟩;unfold mK;dsimp only;rw[<-hres];have b4:=I hres;have kr:(cl:Int)+1=cp:=by omega
 have bw:cp<=2001:=by omega
 clear h ax ix aD hres af hq;have j1:=I eJ;clear eJ;go_enter func47,ntmps47
 go_wp2_with fail
 refine(j1.out _).mono ?_;rintro e aw ⟨rfl,aH⟩;have aN:=I aH;clear aH;go_wp2_with (at_make;refine wpList_make_full _ rfl _ _ 87 rfl aw.heap.size 5 i0 (.int .u8 0) 1 underlying87 ay bC bL .i64 .i64 _ _ v rfl rfl ?c1 ?c1 ?c2 ?c3 ?c4 ?_)
 case c1=>rfl
 case c2=>rw[bz];omega
 case c3=>unfold maxLen;omega
 case c4=>exact Nat.le_refl _
 intro aC hown2 bp;have aJ:=kZ bp;have bS:Row aC aw.heap.size 5 (aO (List.replicate v 0)):=Ef hown2;have hsz1:=aN.out.size;have bm:=b3 aN aJ;have fg:=I bS;clear hown2 bp aJ bS ay bC bL bz;generalize aw.heap.size=g at *;go_wp2;go_loopw [11] (λbV wr=>∃i:Nat,i<=v/\bV=.int .i64 i/\Hid (Row wr g 5 (aO (List.replicate i x++List.replicate (v-i) 0)))/\Hid (av w wr)) (λbV _=>v-(intOf bV).toNat)
 case atStart=>exact⟨0,zero_le _,rfl,by rw[Nat.sub_zero];exact fg,bm⟩
 case round=>
  obtain⟨i,LW,rfl,hrow,hbel⟩:=hrel;by_cases au:i<v
  .have hcell:=hrow.out.cell i;have hfree:=hrow.out.free i;have jC:=hrow.out.lt;have hle:i<(List.replicate i x++List.replicate (v-i) 0).length:=by simp;omega
   rw[jq _ _ hle]at hcell;have h4:=I (hrow.out.bq i (.int .u8 x));have abo:=I (hbel.out.setCell (p:=⟨g,i,none⟩) hsz1 (.int .u8 x));generalize (List.replicate i x++List.replicate (v-i) 0)[i]=old at hcell;clear hrow hbel hle;go_wp2;go_roundw
   case rel=>exact⟨i+1,by omega,by go_num,I (by have:=h4.out;rw[Bg,ahV v i x au]at this;exact this),abo⟩
   case measure=>simp[intOf];omega
  .obtain rfl:i=v:=by omega
   have dS:=Kn (m:=i) (c:=i) hrow.out (by simp) (λy hy=>by
    rcases List.mem_append.1 hy with hy|hy
    .rw[(List.mem_replicate.1 hy).2];exact ai
    .rw[(List.mem_replicate.1 hy).2];decide)
   rw[take_append_of_le_length (by simp),take_of_length_le (by simp),<-b4.out]at dS;clear hrow;go_wp2;go_ret2;exact⟨rfl,hbel⟩
set_option linter.unusedVariables false
theorem apl(s s1:ByteArray)(L v bn:Nat)(w:ah)(eY:s.toList.isEmpty=false)(bB:s.size=L)(bR:L<=2000)
  (fG:∀W:ah,(Instr.slice 9 (.string s) (some (.int .i64 1)) none none).run prog W=.ok (.string s1) W)
  (eJ:∀W,Calls prog 25 #[.string s1] W λe bb=>e=.returned (.tuple #[.int .u64 v,.int .i64 bn])/\av W bb)
  (m:Nat)(hm:m<=100000)(h:0<bn)(af:v<=m)(cl:Nat)(ax:cl=1+bn)(ix:cl<=L)(hidx:∀W:ah,(Instr.index 9 (.string s) (.int .i64 0)).run prog W=.ok (.int .u8 2) W)(s2:ByteArray)(ti:∀W:ah,(Instr.slice 9 (.string s) (some (.int .i64 cl)) none none).run prog W=.ok (.string s2) W)(bt:∀W,Calls prog 76 #[.string s2] W λe bb=>e=.returned (.tuple #[.slice none 0 0,.int .i64 0])/\av W bb) :
  Calls prog 47 #[.string s,.int .i64 m] w λe w'=>e=.returned (mK (none))/\av w w':=by
 have z0:((bn:Int)==0)=false:=cz
 have d0:decide ((m:Int)<0)=false:=aU;have d1:decide ((m:Int)<v)=false:=aU;have d2:decide ((1048576:Int)<v)=false:=aU;have rM:decide (m<v)=false:=aU;have bv:v<=100000:=by omega
 have iL:(1:Int)+bn=cl:=by omega
 have bP:cl<=2000:=by omega
 have ep:=I bt;clear h ax ix af bt;have j1:=I eJ;clear eJ;go_enter func47,ntmps47
 go_wp2_with fail
 refine(j1.out _).mono ?_;rintro e aw ⟨rfl,aH⟩;have aN:=I aH;clear aH;go_wp2_with fail
 refine(ep.out _).mono ?_;rintro e aC ⟨rfl,aJ⟩;have bm:=b3 aN aJ;clear aJ;go_wp2;go_ret2;exact⟨rfl,bm⟩
theorem apm(s s1:ByteArray)(L v bn:Nat)(w:ah)(eY:s.toList.isEmpty=false)(bB:s.size=L)(bR:L<=2000)
  (fG:∀W:ah,(Instr.slice 9 (.string s) (some (.int .i64 1)) none none).run prog W=.ok (.string s1) W)
  (eJ:∀W,Calls prog 25 #[.string s1] W λe bb=>e=.returned (.tuple #[.int .u64 v,.int .i64 bn])/\av W bb)
  (m:Nat)(hm:m<=100000)(h:0<bn)(af:v<=m)(cl:Nat)(ax:cl=1+bn)(ix:cl<=L)(hidx:∀W:ah,(Instr.index 9 (.string s) (.int .i64 0)).run prog W=.ok (.int .u8 2) W)(s2:ByteArray)(ti:∀W:ah,(Instr.slice 9 (.string s) (some (.int .i64 cl)) none none).run prog W=.ok (.string s2) W)(U:ae)(z:Nat)(aQ:0<z)(cp:Nat)(hq:cp=cl+z)(kc:cp<=L)(bt:∀W,Calls prog 76 #[.string s2] W λe bb=>(∃A c,e=.returned (.tuple #[.slice A U.length c,.int .i64 z])/\Reads bb A (aM U))/\av W bb)
  (iB:ByteArray)(wu:∀W:ah,(Instr.slice 9 (.string s) (some (.int .i64 cp)) none none).run prog W=.ok (.string iB) W)
  (v2 fR:Nat)(nw:∀W,Calls prog 25 #[.string iB] W λe bb=>e=.returned (.tuple #[.int .u64 v2,.int .i64 fR])/\av W bb)(eU:fR=0) :
  Calls prog 47 #[.string s,.int .i64 m] w λe w'=>e=.returned (mK (none))/\av w w':=by
 have z0:((bn:Int)==0)=false:=cz
 have d0:decide ((m:Int)<0)=false:=aU;have d1:decide ((m:Int)<v)=false:=aU;have d2:decide ((1048576:Int)<v)=false:=aU;have rM:decide (m<v)=false:=aU;have bv:v<=100000:=by omega
 have iL:(1:Int)+bn=cl:=by omega
 have bP:cl<=2000:=by omega
 have ep:=I bt;have xr:=I nw;have H0:((z:Int)==0)=false:=cz
 have kr:(cl:Int)+z=cp:=by omega
 have bw:cp<=2000:=by omega
 clear bt nw;subst eU;clear h ax ix af aQ hq;have j1:=I eJ;clear eJ;go_enter func47,ntmps47
 go_wp2_with fail
 refine(j1.out _).mono ?_;rintro e aw ⟨rfl,aH⟩;have aN:=I aH;clear aH;go_wp2_with fail
 refine(ep.out _).mono ?_;rintro e aC ⟨⟨A,c,rfl,eN⟩,aJ⟩;have bm:=b3 aN aJ;have oC:=I eN;clear aJ eN;go_wp2_with fail
 refine(xr.out _).mono ?_;rintro e a6 ⟨rfl,bA⟩;have b6:=b3 bm bA;have B3:=I (c7 oC.out bA);clear bA;go_wp2;go_ret2;exact⟨rfl,b6⟩
theorem apn(s s1:ByteArray)(L v bn:Nat)(w:ah)(eY:s.toList.isEmpty=false)(bB:s.size=L)(bR:L<=2000)
  (fG:∀W:ah,(Instr.slice 9 (.string s) (some (.int .i64 1)) none none).run prog W=.ok (.string s1) W)
  (eJ:∀W,Calls prog 25 #[.string s1] W λe bb=>e=.returned (.tuple #[.int .u64 v,.int .i64 bn])/\av W bb)
  (m:Nat)(hm:m<=100000)(h:0<bn)(af:v<=m)(cl:Nat)(ax:cl=1+bn)(ix:cl<=L)(hidx:∀W:ah,(Instr.index 9 (.string s) (.int .i64 0)).run prog W=.ok (.int .u8 2) W)(s2:ByteArray)(ti:∀W:ah,(Instr.slice 9 (.string s) (some (.int .i64 cl)) none none).run prog W=.ok (.string s2) W)(U:ae)(z:Nat)(aQ:0<z)(cp:Nat)(hq:cp=cl+z)(kc:cp<=L)(bt:∀W,Calls prog 76 #[.string s2] W λe bb=>(∃A c,e=.returned (.tuple #[.slice A U.length c,.int .i64 z])/\Reads bb A (aM U))/\av W bb)
  (iB:ByteArray)(wu:∀W:ah,(Instr.slice 9 (.string s) (some (.int .i64 cp)) none none).run prog W=.ok (.string iB) W)
  (v2 fR:Nat)(nw:∀W,Calls prog 25 #[.string iB] W λe bb=>e=.returned (.tuple #[.int .u64 v2,.int .i64 fR])/\av W bb)(hsz2:0<fR)(gd:cp+fR<=L)(eU:L-cp-fR<v2) :
  Calls prog 47 #[.string s,.int .i64 m] w λe w'=>e=.returned (mK (none))/\av w w':=by
 have z0:((bn:Int)==0)=false:=cz
 have d0:decide ((m:Int)<0)=false:=aU;have d1:decide ((m:Int)<v)=false:=aU;have d2:decide ((1048576:Int)<v)=false:=aU;have rM:decide (m<v)=false:=aU;have bv:v<=100000:=by omega
 have iL:(1:Int)+bn=cl:=by omega
 have bP:cl<=2000:=by omega
 have ep:=I bt;have xr:=I nw;have H0:((z:Int)==0)=false:=cz
 have kr:(cl:Int)+z=cp:=by omega
 have bw:cp<=2000:=by omega
 clear bt nw;have aal:((fR:Int)==0)=false:=cz
 obtain⟨q,Ds⟩:∃q,q=L-cp-fR:=⟨_,rfl⟩;have yC:(L:Int)-cp-fR=q:=by omega
 have dq:decide ((q:Int)<v2)=true:=cf;have R9:decide (q<v2)=true:=cf;have J8:q<=2000:=by omega
 clear h ax ix af aQ hq eU Ds;have j1:=I eJ;clear eJ;go_enter func47,ntmps47
 go_wp2_with fail
 refine(j1.out _).mono ?_;rintro e aw ⟨rfl,aH⟩;have aN:=I aH;clear aH;go_wp2_with fail
 refine(ep.out _).mono ?_;rintro e aC ⟨⟨A,c,rfl,eN⟩,aJ⟩;have bm:=b3 aN aJ;have oC:=I eN;clear aJ eN;go_wp2_with fail
 refine(xr.out _).mono ?_;rintro e a6 ⟨rfl,bA⟩;have b6:=b3 bm bA;have B3:=I (c7 oC.out bA);clear bA;go_wp2;go_ret2;exact⟨rfl,b6⟩
end Go.Proofs.YtgiicohbigiapaaGreat
