/- Contracts. -/
import Derived.Test.YtgiicohbigiapaaGreatQan
import Derived.Test.YtgiicohbigiapaaGreatQah
import Derived.Test.YtgiicohbigiapaaGreatQap
import Derived.Deep.DrawnRows
import Derived.Test.YtgiicohbigiapaaGreatQz2
import Derived.Test.YtgiicohbigiapaaGreatQz1
import Derived.Test.YtgiicohbigiapaaGreatQz0
set_option maxHeartbeats 4000000
set_option maxRecDepth 100000
open Go.Proofs.Tryz Go.Proofs.YtgiicohbigiapaaGreat.ao List Nat Option
namespace Go.Proofs.YtgiicohbigiapaaGreat
open Go.RowKit
namespace ao
def nM(U:ae)(log k:Nat):List oR:=(List.range (2^log)).map λp=>if p<k then(cD U log p,cc U log p,ep U log p)else(0,0,0)
theorem La(U:ae)(log k:Nat):(nM U log k).length=2^log:=by simp[nM]
theorem agb(U:ae)(log:Nat):nM U log 0=List.replicate (2^log) (0,0,0):=by
 unfold nM;simp only[not_lt_zero,if_false];rw[map_const',length_range]
theorem aga(U:ae)(log k:Nat):nM U log (k+1)=(nM U log k).set k (cD U log k,cc U log k,ep U log k):=by
 apply ext_getElem
 .simp[La]
 .intro p h1 af;rw[getElem_set];simp only[nM,getElem_map,getElem_range];by_cases e:k=p
  .subst e;rw[aA rfl,aA (by omega)]
  .rw[ay e];by_cases h:p<k
   .rw[aA h,aA (by omega)]
   .rw[ay h,ay (by omega)]
theorem af9(U:ae)(log:Nat):nM U log (2^log)=nL U log:=by
 unfold nM nL;apply map_congr_left
 intro p aw;rw[aA (List.mem_range.1 aw)]
theorem TD(U:ae)(log k:Nat)(h:k<(nM U log k).length):(nM U log k)[k]=(0,0,0):=by
 simp only[nM,getElem_map,getElem_range];rw[ay (by omega)]
end ao
theorem af2(l:List oR)(i s B Z:Nat)(h:i<l.length)(hl:l[i]=(0,0,0)):(((c3 l).set (i*3) (.int .u8 s)).set (i*3+1) (.int .i64 B)).set (i*3+2) (.int .i64 Z)=c3 (l.set i (s,B,Z)):=by
 have h1:=(GB l i h s 0 0).1;rw[hl]at h1;rw[h1];have eF:i<(l.set i (s,0,0)).length:=by simpa using h
 have af:=Tq (l.set i (s,0,0)) i s B Z eF (by rw[getElem_set_self]);rw[set_set]at af;exact af
theorem akU:(prog.info? 112).map (λi=>(i.zero,i.size,i.bytes))=some (some (.slice none 0 0),1,24):=by kernel_rfl
theorem amy(n:Nat)(h:n<=1000000)(W:ai):(Instr.makeSlice 210 (.int .i64 n) (.int .i64 n)).run prog W=.ok (.slice (some ⟨W.heap.size,0,none⟩) n n) (W.alloc (.cells (c3 (List.replicate n (0,0,0))).toArray 248)):=by
 obtain⟨i0,ax,bB,bK,bw⟩:=info_parts Yt;have h1:=run_make (P:=prog) W 210 248 i0 _ underlying210 ax bB .i64 .i64 (n:Int) (n:Int) (by omega) (by omega) (by rw[bw];omega) (by omega);rw[cY,bK,show(Value.agg #[.int .u8 0,.int .i64 0,.int .i64 0]).cells=#[.int .u8 0,.int .i64 0,.int .i64 0]from rfl]at h1;rw[h1,<-Y6,Array.toArray_toList]
theorem amA(n:Nat)(h:n<=1000000)(W:ai):(Instr.makeSlice 249 (.int .i64 n) (.int .i64 n)).run prog W=.ok (.slice (some ⟨W.heap.size,0,none⟩) n n) (W.alloc (.cells (List.replicate n (.slice none 0 0)).toArray 112)):=by
 obtain⟨i0,ax,bB,bK,bw⟩:=info_parts akU;have h1:=run_make (P:=prog) W 249 112 i0 _ underlying249 ax bB .i64 .i64 (n:Int) (n:Int) (by omega) (by omega) (by rw[bw];omega) (by omega);rw[cY,bK,show(Value.slice none 0 0).cells=#[.slice none 0 0]from rfl,Nat.mul_one]at h1;rw[h1,<-toList_madeCells_one,Array.toArray_toList]
theorem arW(A:a7)(c:Nat)(l:List Int)(log:Int)(w:ai)(hl:l.length<=1000000)(cW:∀x∈l,en x)(mQ:en log)(aj:Reads w A (gL l))(aL:¬ao.Fair l log) :
  Calls prog 165 #[.slice A l.length c,.int .i64 log] w λe w'=>e=.returned (.tuple #[.pointer none,.bool false])/\Below w.heap.size w w':=by
 have h1:=OH A c l log w hl cW mQ aj;rw[show qp l log=false from bF aL]at h1;have H1:=I h1;clear h1 cW mQ aj aL;go_enter func165,ntmps165
 go_wp2_with fail
 refine H1.out.mono ?_;rintro e au ⟨rfl,ak⟩;go_wp2;go_ret2;exact⟨rfl,ak⟩
theorem abR(au:ai)(t1 t2 t3:TypeId)(ca cT qB:b3) :
  Row (((au.alloc (.cells ca.toArray t1)).alloc (.cells cT.toArray t2)).alloc (.cells qB.toArray t3)).drew au.heap.size t1 ca /\
  Row (((au.alloc (.cells ca.toArray t1)).alloc (.cells cT.toArray t2)).alloc (.cells qB.toArray t3)).drew (au.heap.size+1) t2 cT /\
  Row (((au.alloc (.cells ca.toArray t1)).alloc (.cells cT.toArray t2)).alloc (.cells qB.toArray t3)).drew (au.heap.size+1+1) t3 qB /\
  ∀w:ai,Below w.heap.size w au->Below w.heap.size w (((au.alloc (.cells ca.toArray t1)).alloc (.cells cT.toArray t2)).alloc (.cells qB.toArray t3)).drew:=by
 have gO:=Row.new au t1 ca;have dc:=Row.new (au.alloc (.cells ca.toArray t1)) t2 cT;have hD:=Row.new ((au.alloc (.cells ca.toArray t1)).alloc (.cells cT.toArray t2)) t3 qB;have aF:(au.alloc (.cells ca.toArray t1)).heap.size=au.heap.size+1:=by simp
 have e2:((au.alloc (.cells ca.toArray t1)).alloc (.cells cT.toArray t2)).heap.size=au.heap.size+1+1:=by simp
 rw[aF]at dc;rw[e2]at hD;refine⟨(gO.alloc _).alloc _,dc.alloc _,hD,λw h=>?_⟩;have ap:=h.size;exact(((h.alloc ap _).alloc (by rw[aF];omega) _).alloc (by rw[e2];omega) _).drew
structure n9(w W:ai)(U:ae)(log xQ alq b gc gs gt:Nat)(vs:b3):Prop where
 e9:Row W b 251 [.int .i64 log,.slice (some ⟨gc,0,none⟩) (2^log) (2^log),.slice (some ⟨gs,0,none⟩) U.length U.length]
 syms:Row W gt 5 (aN (ao.e9 U log))
 cells:Row W gc 248 (c3 (nM U log xQ))
 rows:Row W gs 112 vs
 len:vs.length=U.length
 l5:oa W w.heap.size vs (jE U log alq)
 low:w.heap.size<=b/\w.heap.size<=gc/\w.heap.size<=gs
 dy:Below w.heap.size w W
theorem af8{W:ai}{b c i x y z:Nat}{v0 v1 v2 u:Value}(h:b≠c)(hc:W.cell? ⟨b,i,none⟩=some u) :
  (((W.setCell ⟨c,x,none⟩ v0).setCell ⟨c,y,none⟩ v1).setCell ⟨c,z,none⟩ v2).cell? ⟨b,i,none⟩=some u:=by
 have am:∀j,(⟨c,j,none⟩:Addr)≠⟨b,i,none⟩:=λj e=>h (by injection e with e;exact e.symm)
 rw[World.cell?_setCell_other _ _ _ _ (am z),World.cell?_setCell_other _ _ _ _ (am y),World.cell?_setCell_other _ _ _ _ (am x),hc]
theorem zT{w:ai}{g fd:Nat}{t Fk:TypeId}{ag T0:b3}(h:Row w g t ag)(kg:Row w fd Fk T0)(aX:t≠Fk):g≠fd:=by
 rintro rfl;unfold Row at h kg;rw[h]at kg;injection kg with kg
 injection kg with _ e
 exact aX e
section
variable {w W:ai} {U:ae} {log xQ k b gc gs gt:Nat} {vs:b3}
theorem n9.drewN(h:n9 w W U log xQ k b gc gs gt vs)(n:Nat):n9 w (W.drewN n) U log xQ k b gc gs gt vs:=⟨h.e9,h.syms,h.cells,h.rows,h.len,⟨h.l5.own,h.l5.apart⟩,h.low,below_drewN h.dy n⟩
theorem n9.below{bc:ai}(h:n9 w W U log xQ k b gc gs gt vs)(ak:Below W.heap.size W bc):n9 w bc U log xQ k b gc gs gt vs:=
 ⟨iL h.e9 ak,iL h.syms ak,iL h.cells ak,iL h.rows ak,h.len,h.l5.below ak,h.low,h.dy.trans (ak.mono h.dy.size)⟩
theorem n9.push(h:n9 w W U log xQ k b gc gs gt vs){cM:Nat}{v:Value}{r gK cap:Nat}{fm:ai}(iG:cM=cD U log k)(aE:vs[cM]?=some v)(aj:r=(jE U log k (cD U log k)).length)
  (hown:fm.ownsRow w.heap.size 3 1 (.slice (some ⟨gK,0,none⟩) (r+1) cap) (r+1) (aM (jE U log k cM)++[.int .i64 k])) (aD:W.grownBy fm v.ownBlock) (eC:v.ownBlock=some gK\/gK=W.heap.size) :
  n9 w (fm.setCell ⟨gs,cM,none⟩ (.slice (some ⟨gK,0,none⟩) (r+1) cap)) U log xQ (k+1) b gc gs gt (vs.set cM (.slice (some ⟨gK,0,none⟩) (r+1) cap)):=by
 subst iG;have hk:∀{g:Nat} {t:TypeId} {ag:b3},Row W g t ag->t≠3->Row fm g t ag:=λ{g t ag} hrow aX=>
  hrow.keep (aD.block g hrow.lt (λe=>h.l5.s7 hrow aX _ v aE e.symm))
 have gO:=hk h.e9 (by decide);have dc:=hk h.syms (by decide);have hD:=hk h.cells (by decide);have iK:=hk h.rows (by decide);have e:=IV U log k;have aL:oa fm w.heap.size (vs.set (cD U log k) (.slice (some ⟨gK,0,none⟩) (r+1) cap)) (jE U log (k+1)):=
  h.l5.push aE aD eC (by rw[e];simpa [aM]using hown) (by rw[e,aY,<-aj];rfl) (λt aC=>PN U log k t (Ne.symm aC))
 have hlow:=h.low;exact⟨gO.cG (zT gO iK (by decide)) _,dc.cG (zT dc iK (by decide)) _,hD.cG (zT hD iK (by decide)) _,iK.bm _ _,by rw[length_set];exact h.len,
  aL.cG (aL.s7 iK (by decide)) _,h.low,(h.dy.grown aD h.dy.size (λq hq=>((h.l5.own _ v aE).lt q hq).1)).setCell (by exact hlow.2.2) _⟩
theorem n9.cell(h:n9 w W U log k (k+1) b gc gs gt vs)(hk:k<2^log) :
  n9 w (((W.setCell ⟨gc,k*3,none⟩ (.int .u8 (cD U log k))).setCell ⟨gc,k*3+1,none⟩ (.int .i64 (cc U log k))).setCell ⟨gc,k*3+2,none⟩ (.int .i64 (ep U log k))) U log (k+1) (k+1) b gc gs gt vs:=by
 have hl:k<(nM U log k).length:=by rw[La];exact hk
 have e:=af2 (nM U log k) k (cD U log k) (cc U log k) (ep U log k) hl (TD U log k hl);rw[<-aga]at e;have hlow:=h.low;have b4:=zT h.e9 h.cells (by decide);have bT:=zT h.syms h.cells (by decide);have xS:=zT h.rows h.cells (by decide);have hD:=((h.cells.bm (k*3) (.int .u8 (cD U log k))).bm (k*3+1) (.int .i64 (cc U log k))).bm (k*3+2) (.int .i64 (ep U log k));rw[e]at hD;have az:=h.l5.s7 h.cells (by decide);exact⟨((h.e9.cG b4 _).cG b4 _).cG b4 _,((h.syms.cG bT _).cG bT _).cG bT _,hD,((h.rows.cG xS _).cG xS _).cG xS _,h.len,((h.l5.cG az _).cG az _).cG az _,h.low,((h.dy.setCell (by exact hlow.2.1) _).setCell (by exact hlow.2.1) _).setCell (by exact hlow.2.1) _⟩
end
theorem arV(A:a7)(c:Nat)(U:ae)(log:Nat)(w:ai)(aL:ec U log)(aj:Reads w A (aM U))
  (hfair:Calls prog 195 #[.slice A U.length c,.int .i64 log] w λe w'=>e=.returned (.bool true)/\Below w.heap.size w w') :
  Calls prog 165 #[.slice A U.length c,.int .i64 log] w λe w'=>∃p,e=.returned (.tuple #[.pointer (some p),.bool true])/\jr w' p U log/\Below w.heap.size w w':=by
 have bk:=I aL;have aU:=I aj;have CD:=I hfair;have cJ:=ta log aL.low aL.high;have avR:=aL.low;have sI:=aL.high;have hlen:=aL.len;have pe:∀W,Below w.heap.size w W->Calls prog 197 #[.slice A U.length c,.int .i64 ((2^log:Nat):Int)] W λe w'=>∃g,e=.returned (.slice (some ⟨g,0,none⟩) (2^log) (2^log))/\W.heap.size<=g/\Row w' g 5 (aN (ao.e9 U log))/\Below W.heap.size W w':=λW ak=>ar9 A c U log W aL (c9 aj ak)
 have AE:=I pe;have pP:(2:Int)^log=((2^log:Nat):Int):=by simp
 clear aL aj hfair pe;obtain⟨S,cu⟩:∃S,S=2^log:=⟨_,rfl⟩;rw[<-cu]at cJ pP AE;have cI:=I cu;clear cu;have hw:wrap64 (S:Int)=S:=rM _ (by omega) (by omega);go_enter func165,ntmps165
 go_wp2_with fail
 refine CD.out.mono ?_;rintro e au ⟨rfl,aH⟩;have aK:=I aH;clear aH CD;go_upto_region 4 with fail
 clear pP hw;go_cut [7] (λaqa eY=>∃b gc gs,aqa=.pointer (some ⟨b,0,none⟩)/\w.heap.size<=b/\w.heap.size<=gc/\w.heap.size<=gs/\Row eY b 251 [.int .i64 log,.slice (some ⟨gc,0,none⟩) S S,.slice (some ⟨gs,0,none⟩) U.length U.length] /\
  Row eY gc 248 (c3 (List.replicate S (0,0,0)))/\Row eY gs 112 (List.replicate U.length (.slice none 0 0))/\Below w.heap.size w eY)
 case first=>
  have l8:=λW=>amy S (by omega) W
  have ho:=λW=>amA U.length (by omega) W
  have bK:=aK.out.size;go_region
  all_goals
   go_wp2_with fail
   go_meet
   simp only[<-toArray_replicate]
  .obtain⟨gO,dc,hD,iK⟩:=abR au 248 112 251 (c3 (List.replicate S (0,0,0))) (List.replicate U.length (.slice none 0 0)) [.int .i64 log,.slice (some ⟨au.heap.size,0,none⟩) S S,.slice (some ⟨au.heap.size+1,0,none⟩) U.length U.length];exact⟨_,_,_,rfl,by omega,by omega,by omega,hD,gO,dc,iK w aK.out⟩
  .obtain⟨gO,dc,hD,iK⟩:=abR au 112 248 251 (List.replicate U.length (.slice none 0 0)) (c3 (List.replicate S (0,0,0))) [.int .i64 log,.slice (some ⟨au.heap.size+1,0,none⟩) S S,.slice (some ⟨au.heap.size,0,none⟩) U.length U.length];exact⟨_,_,_,rfl,by omega,by omega,by omega,hD,dc,gO,iK w aK.out⟩
 case rest=>
  obtain⟨b,gc,gs,rfl,vM,D5,h8,cX,iF,cO,lg⟩:=hcut;have jZ:=I cX;have yx:=I iF;have l1:=I cO;have wC:=I lg;have adt:=I (And.intro vM (And.intro D5 h8));clear cX iF cO lg vM D5 h8 aK;go_wp2_with fail
  refine(AE.out _ wC).mono ?_;rintro e aB ⟨gt,rfl,_,lO,aI⟩;have VG:n9 w aB U log 0 0 b gc gs gt (List.replicate U.length (.slice none 0 0)):={
   e9:=by rw[<-cI.out];exact iL jZ.out aI
   syms:=lO
   cells:=by rw[agb,<-cI.out];exact iL yx.out aI
   rows:=iL l1.out aI
   len:=jl
   l5:=oa.OJ _ _ _ (λs=>aq4 U log s)
   low:=adt.out
   dy:=wC.out.trans (aI.mono wC.out.size)}
  have Q6:=I VG;clear VG lO aI jZ yx l1 wC AE;go_wp2;go_loopw [29] (λi wr=>∃k:Nat,k<=S/\i=.int .i64 k/\Hid (∃vs,n9 w wr U log k k b gc gs gt vs)) (λi _=>S-(intOf i).toNat)
  case atStart=>exact⟨0,by omega,rfl,I ⟨_,Q6.out⟩⟩
  case round=>
   obtain⟨k,hk,rfl,bu⟩:=hrel;clear Q6;obtain⟨vs,bu⟩:=bu.out;by_cases Wn:k<S
   .have fy:k<2^log:=by rw[<-cI.out];exact Wn
    obtain⟨iG,Ma⟩:=xZ U log k bk.out fy;obtain⟨ER,gy,_,lT,wa,E1,E2⟩:=BU U log k bk.out fy;rw[bH iG]at gy;injection gy with gy
    subst gy;rw[<-cI.out]at lT;have jR:hN U log k=U[cD U log k]+(jE U log k (cD U log k)).length:=by
     unfold hN tb;rw[bH iG,b6,IU U log k _ (by omega)]
    have Ew:cD U log k<vs.length:=by rw[bu.len];exact iG
    obtain⟨v,aE⟩:∃v,vs[cD U log k]?=some v:=⟨_,bH Ew⟩;obtain⟨de,cap',aF,_,_⟩:=kU (bu.l5.own _ v aE);subst aF;obtain⟨aur,awT,rfl,y1⟩:∃g off,A=some ⟨g,off,none⟩/\wr.cell? ⟨g,off+cD U log k,none⟩=some (.int .i64 (U[cD U log k]:Int)):=by
     obtain⟨g,off,e,hc⟩:=(c9 aU.out bu.dy) (by intro e;have:=congrArg List.length e;rw[gw,length_nil]at this;omega);have h1:=hc (cD U log k) (by rw[gw];exact iG);rw[ja U _ iG]at h1;exact⟨g,off,e,h1⟩
    have o1:=bu.e9.cell 2;simp only[dU,dR]at o1;have Lb:=(bu.rows.cell (cD U log k)).trans aE;have Lm:=bu.syms.cell k;have fj:k<(ao.e9 U log).length:=by rw[qJ];exact fy
    rw[jF _ _ fj,abD U log k fy fj]at Lm;have dN:=I bu;have fI:=I aE;have ez:=I jR;obtain⟨r,aj⟩:∃r,r=(jE U log k (cD U log k)).length:=⟨_,rfl⟩;rw[<-aj]at fI Lb ez;have awf:r<=512:=by
     rw[aj,IU U log k _ (by omega)];have h1:=Lk (ao.e9 U log) k (cD U log k);have af:=count_le_length (a:=cD U log k) (l:=ao.e9 U log);rw[qJ,<-cI.out]at af;omega
    have Kt:=I aj;have Sc:=I E2;obtain⟨cM,BG⟩:∃s,s=cD U log k:=⟨_,rfl⟩;clear bu aE jR aj wa E1 E2 fj fy Ew;rw[<-BG]at Lb Lm;have ND:cM<U.length:=by rw[BG];exact iG
    have Mb:U[cD U log k]=U[cM]:=by congr 1;exact BG.symm
    rw[Mb,<-BG]at y1;rw[Mb]at ez lT Ma;have C6:=I BG;clear BG Mb;generalize U[cM]=N at y1 ez lT Ma;have aip:IntKind.i64.wrap ((N:Int)+r)=(N:Int)+r:=IntWalk.i64_in _ (by omega);go_wp2_with fail
    go_quiet (fail)
    have lW:=I (dN.out.drewN nq);clear dN aip y1 Lm Lb o1;generalize (wr.drewN nq)=kI at lW ⊢;have yF:Hid (vs[cM]?=some (Value.slice de r cap')):=I (by rw[C6.out];exact fI);obtain⟨uq,hown0⟩:∃q,q=(Value.slice de r cap').ownBlock:=⟨_,rfl⟩;have tD:=I hown0;clear hown0;have fo:∀W,kI.grownBy W uq->W.cell? ⟨b,2,none⟩=some (.slice (some ⟨gs,0,none⟩) U.length U.length):=λW bg=>by
     have h1:=lW.out.e9.cell 2;simp only[dU,dR]at h1;rw[bg.cell_far _ (by exact lW.out.e9.lt) (λe=>lW.out.l5.s7 lW.out.e9 (by decide) cM _ yF.out (by rw[<-tD.out];exact e.symm)),h1]
    have hcs:∀W,kI.grownBy W uq->W.cell? ⟨gs,cM,none⟩=some (.slice de r cap'):=λW bg=>by
     rw[bg.cell_far _ (by exact lW.out.rows.lt) (λe=>lW.out.l5.s7 lW.out.rows (by decide) cM _ yF.out (by rw[<-tD.out];exact e.symm)),lW.out.rows.cell cM,yF.out]
    have y7:∀W,kI.grownBy W uq->W.frozen? ⟨gs,cM,none⟩=false:=λW bg=>by
     rw[bg.frozen_far _ (by exact lW.out.rows.lt) (λe=>lW.out.l5.s7 lW.out.rows (by decide) cM _ yF.out (by rw[<-tD.out];exact e.symm)),lW.out.rows.free cM]
    have RZ:Hid (kI.ownsRow w.heap.size 3 1 (.slice de r cap') r (aM (jE U log k cM))):=I (by
     have h1:=lW.out.l5.own cM _ yF.out;rw[show(jE U log k cM).length=r by rw[C6.out];exact Kt.out.symm]at h1;exact h1)
    obtain⟨i0,ax,bB,bK,bw⟩:=info_parts oF;go_wp2_with fail
    have qx:=lW.out.dy.size;go_cut [] (λeY=>∃gK cap,n9 w eY U log k (k+1) b gc gs gt (vs.set cM (.slice (some ⟨gK,0,none⟩) (r+1) cap)))
    case first=>
     have ij:=fo kI (dl kI uq);have ag:=hcs kI (dl kI uq);have fs:=y7 kI (dl kI uq);have at3:=fo (kI.alloc (.cells #[.int .i64 k] 3)) (iD (dl kI uq) _);have at6:=hcs (kI.alloc (.cells #[.int .i64 k] 3)) (iD (dl kI uq) _);have JQ:=I fo;have tA:=I hcs;have J5:=I y7;have Ki:Hid ((kI.alloc (.cells #[.int .i64 k] 3)).drew.ownsRow w.heap.size 3 1 (.slice de r cap') r (aM (jE U log k cM))):=I (RZ.out.alloc _);have hH:Hid (∀(j:Nat) (u:Value),[Value.int .i64 k][j]?=some u->(kI.alloc (.cells #[.int .i64 k] 3)).drew.cell? ((⟨kI.heap.size,0,none⟩:Addr).add j)=some u):=I (λj u hu=>by
      match j,hu with
      | 0,hu=>simp at hu;subst hu;simp[Addr.add])
     clear fo hcs y7;go_region_law ((refine step_append_lies ((kI.alloc (.cells #[.int .i64 k] 3)).drew) (by rfl) _ _ _ (by rfl) w.heap.size 3 i0 (.int .i64 0) 1 8 underlying112 ax bB bK bw rfl (by omega) (.slice de r cap') r (aM (jE U log k cM)) (by rfl) Ki.out ⟨kI.heap.size,0,none⟩ 1 1 [.int .i64 k] (by rfl) (by rfl) hH.out (by intro u hu;simp at hu;subst hu;rfl) (by omega) (by unfold maxLen;omega) (by omega) (by simp;omega) (kI.heap.size+1) (by simp) ?_;intro gK iB fm ma j4 ra _;have Au:=I ma;have adb:=I j4;have acM:=I ra;have yf:Hid (kI.grownBy fm uq):=I ((nR (iD (dl kI uq) _)).trans (by rw[tD.out];exact j4));have at4:=JQ.out fm yf.out;have agJ:=tA.out fm yf.out;have ahO:=J5.out fm yf.out;clear ma j4 ra))
     all_goals
      go_wp2_with fail
      go_meet
      exact⟨gK,iB,(lW.out.below (((Below.refl kI.heap.size kI).alloc bh (.cells #[.int .i64 k] 3)).drew)).push C6.out yF.out Kt.out Au.out adb.out (acM.out.imp id (λh=>h.trans (by simp)))⟩
    case rest=>
     obtain⟨gK,iB,kh⟩:=hcut;have fy:k<2^log:=by rw[<-cI.out];exact Wn
     have rf:∀W,Below wc.heap.size wc W->W.cell? ⟨b,1,none⟩=some (.slice (some ⟨gc,0,none⟩) S S):=λW bg=>by
      have h1:=(iL kh.e9 bg).cell 1;simp only[dU,dR]at h1;rw[h1,cI.out]
     have bb:k<(nM U log k).length:=by rw[La];exact fy
     obtain⟨g0,g1,g2⟩:=yP (nM U log k) k bb;rw[TD]at g0 g1 g2;have j3:∀W,Below wc.heap.size wc W->W.cell? ⟨gc,k*3,none⟩=some (.int .u8 0):=λW bg=>((iL kh.cells bg).cell (k*3)).trans g0
     have ox:∀W,Below wc.heap.size wc W->W.cell? ⟨gc,k*3+1,none⟩=some (.int .i64 0):=λW bg=>((iL kh.cells bg).cell (k*3+1)).trans g1
     have sC:∀W,Below wc.heap.size wc W->W.cell? ⟨gc,k*3+2,none⟩=some (.int .i64 0):=λW bg=>((iL kh.cells bg).cell (k*3+2)).trans g2
     have rk:∀W,Below wc.heap.size wc W->W.frozen? ⟨gc,k*3,none⟩=false:=λW bg=>(iL kh.cells bg).free (k*3)
     have xu:∀W,Below wc.heap.size wc W->W.frozen? ⟨gc,k*3+1,none⟩=false:=λW bg=>(iL kh.cells bg).free (k*3+1)
     have vE:∀W,Below wc.heap.size wc W->W.frozen? ⟨gc,k*3+2,none⟩=false:=λW bg=>(iL kh.cells bg).free (k*3+2)
     have Qz:=I kh;have VE:b≠gc:=zT kh.e9 kh.cells (by decide);clear kh;have vA:∀W,Calls prog 198 #[.int .u8 cM,.int .i64 ((N:Int)+r),.int .i64 log] W λe w'=>e=.returned (.agg #[.int .u8 cM,.int .i64 (cc U log k),.int .i64 (ep U log k)])/\Below W.heap.size W w':=λW=>by
      have h1:=arY cM (hN U log k) log W (by rw[ez.out];omega) Sc.out sI;unfold cc ep;rw[ez.out]at h1 ⊢;rw[Int.natCast_add]at h1;exact h1
     have wE:=I vA;have Xg:∀bc,Below wc.heap.size wc bc->Hid (∃vs,n9 w (((bc.setCell ⟨gc,k*3,none⟩ (.int .u8 cM)).setCell ⟨gc,k*3+1,none⟩ (.int .i64 (cc U log k))).setCell ⟨gc,k*3+2,none⟩ (.int .i64 (ep U log k))) U log (k+1) (k+1) b gc gs gt vs):=λbc bg=>I ⟨_,by rw[C6.out];exact(Qz.out.below bg).cell fy⟩
     have Sg:=I Xg;clear Xg g0 g1 g2 bb vA lW fI yF RZ tD ez C6 Kt Sc fo hcs y7 ax bB bK bw;generalize cc U log k=iW at *;generalize ep U log k=Je at *;go_wp2_with fail
     refine wp_region_held_drew (S:=(λW=>W.cell? ⟨b,1,none⟩=some (.slice (some ⟨gc,0,none⟩) S S))) (by kernel_rfl) (by exact rf _ dQ.drew) (λhHeld=>?_);refine ch 0 {dst:=some 63,op:=.move (.tmp 7),type:=216,pos:= "spread.go:27",after:=#[],guard:=none} ?_ rfl (Or.inl ⟨by rfl,?_⟩) ?_;rotate_left
     ·(intro w hSw;(try dsimp only at hSw);go_simp;(try with_reducible rfl))
     try simp only[bx]
     refine ch 1 {dst:=some 64,op:=.nilCheck (.tmp 63),type:=0,pos:= "spread.go:27",after:=#[{on:=0,ground:=.data}],guard:=none} ?_ rfl (Or.inl ⟨by rfl,?_⟩) ?_;rotate_left
     ·(intro w hSw;(try dsimp only at hSw);go_simp;(try with_reducible rfl))
     try simp only[bx]
     refine ch 2 {dst:=some 65,op:=.fieldAddr 251 (.tmp 64) 1,type:=0,pos:= "spread.go:27",after:=#[{on:=1,ground:=.data}],guard:=none} ?_ rfl (Or.inl ⟨by rfl,?_⟩) ?_;rotate_left
     ·(intro w hSw;(try dsimp only at hSw);go_simp;(try with_reducible rfl))
     try simp only[bx]
     refine ch 3 {dst:=some 66,op:=.load 210 (.tmp 65),type:=210,pos:= "spread.go:27",after:=#[{on:=2,ground:=.data}],guard:=none} ?_ rfl (Or.inl ⟨by rfl,?_⟩) ?_;rotate_left
     ·(intro w hSw;(try dsimp only at hSw);go_simp;(try with_reducible rfl))
     try simp only[bx]
     refine ch 4 {dst:=some 67,op:=.move (.tmp 8),type:=3,pos:= "spread.go:27",after:=#[],guard:=none} ?_ rfl (Or.inl ⟨by rfl,?_⟩) ?_;rotate_left
     ·(intro w hSw;(try dsimp only at hSw);go_simp;(try with_reducible rfl))
     try simp only[bx]
     refine ch 5 {dst:=some 68,op:=.move (.tmp 9),type:=5,pos:= "spread.go:27",after:=#[],guard:=none} ?_ rfl (Or.inl ⟨by rfl,?_⟩) ?_;rotate_left
     ·(intro w hSw;(try dsimp only at hSw);go_simp;(try with_reducible rfl))
     try simp only[bx]
     refine ch 6 {dst:=some 69,op:=.move (.tmp 10),type:=3,pos:= "spread.go:27",after:=#[],guard:=none} ?_ rfl (Or.inl ⟨by rfl,?_⟩) ?_;rotate_left
     ·(intro w hSw;(try dsimp only at hSw);go_simp;(try with_reducible rfl))
     try simp only[bx]
     refine ch 7 {dst:=some 70,op:=.move (.tmp 1),type:=3,pos:= "spread.go:27",after:=#[],guard:=none} ?_ rfl (Or.inl ⟨by rfl,?_⟩) ?_;rotate_left
     ·(intro w hSw;(try dsimp only at hSw);go_simp;(try with_reducible rfl))
     try simp only[bx]
     refine iq 8 {dst:=some 71,op:=.call {callee:=.value (.func 198),args:=#[.tmp 68,.tmp 69,.tmp 70],argTypes:=#[5,3,3]},type:=248,pos:= "spread.go:27",after:=#[{on:=5,ground:=.data},{on:=6,ground:=.data},{on:=7,ground:=.data}],guard:=none} rfl (λK hK=>?_);go_simp
     (go_at_call 198;refine(wE.out _).mono ?_;rintro e qM ⟨rfl,Vy⟩;have uX:=I ((Below.refl wc.heap.size wc).drew.trans Vy);clear Vy;have bC:=j3 qM uX.out;have bf:=ox qM uX.out;have bM:=sC qM uX.out;have m0:=rk qM uX.out;have m1:=xu qM uX.out;have m2:=vE qM uX)
     go_simp;refine hK.out _ _ (by exact rf qM uX) (λhHeld=>?_);clear hK K
     try simp only[bx]
     refine ch 9 {dst:=some 72,op:=.indexAddr 210 (.tmp 66) (.tmp 67),type:=0,pos:= "spread.go:27",after:=#[{on:=3,ground:=.data},{on:=4,ground:=.data},{on:=0,ground:=.phase},{on:=1,ground:=.phase},{on:=2,ground:=.phase},{on:=3,ground:=.phase},{on:=4,ground:=.phase},{on:=5,ground:=.phase},{on:=6,ground:=.phase},{on:=7,ground:=.phase},{on:=8,ground:=.phase}],guard:=none} ?_ rfl (Or.inl ⟨by rfl,?_⟩) ?_;rotate_left
     ·(intro w hSw;(try dsimp only at hSw);go_simp;(try with_reducible rfl))
     try simp only[bx]
     refine iq 10 {dst:=none,op:=.store 248 (.tmp 72) (.tmp 71),type:=0,pos:= "spread.go:27",after:=#[{on:=9,ground:=.data},{on:=8,ground:=.data},{on:=8,ground:=.chain},{on:=0,ground:=.phase},{on:=1,ground:=.phase},{on:=2,ground:=.phase},{on:=3,ground:=.phase},{on:=4,ground:=.phase},{on:=5,ground:=.phase},{on:=6,ground:=.phase},{on:=7,ground:=.phase},{on:=8,ground:=.phase}],guard:=none} rfl (λK hK=>?_);go_simp;refine hK.out _ _ (by exact af8 VE (rf qM uX)) (λhHeld=>?_);clear hK K
     try simp only[bx]
     refine wpAnyH_done (by kernel_rfl) ?_ _;have dO:=Sg.out qM uX.out;clear rf j3 ox sC rk xu vE bC bf bM m0 m1 m2 Sg wE Qz VE;go_wp2;go_roundw
     case rel=>exact⟨k+1,by omega,by go_num,dO⟩
     case measure=>simp[intOf];omega
   .obtain rfl:k=S:=by omega
    have aQ:jr wr ⟨b,0,none⟩ U log:=by
     refine⟨b,gc,gs,rfl,bu.e9,?_,vs,bu.rows,bu.len,λs ap=>?_⟩
     .have h1:=bu.cells;rw[cI.out,af9]at h1;exact h1
     .have Ew:s<vs.length:=by rw[bu.len];exact ap
      have h1:=bu.l5.own s vs[s] (bH Ew);obtain⟨de,df,aF,e2,_⟩:=kU h1;rw[cI.out,aa6 U log s bk.out]at aF;rw[cI.out]at e2;exact⟨de,df,by rw[bH Ew,aF],e2⟩
    have cb:=I aQ;have gE:=I bu.dy;clear bu aQ;go_wp2;go_ret2;exact⟨_,rfl,cb,gE⟩
theorem arH(A:a7)(c:Nat)(l:List Int)(log:Int)(w:ai)(hl:l.length<=1000000)(cW:∀x∈l,en x)(mQ:en log)(aj:Reads w A (gL l))(aL:ao.Fair l log) :
  Calls prog 165 #[.slice A l.length c,.int .i64 log] w λe w'=>∃p,e=.returned (.tuple #[.pointer (some p),.bool true])/\jr w' p (l.map Int.toNat) log.toNat/\Below w.heap.size w w':=by
 have h1:=OH A c l log w hl cW mQ aj;rw[show qp l log=true from bG aL]at h1;have h8:aM (l.map Int.toNat)=gL l:=by rw[<-jT,Ur l log aL]
 have sI:(log.toNat:Int)=log:=by have:=aL.1;omega
 have af:=arV A c (l.map Int.toNat) log.toNat w (LH l log aL) (by rw[h8];exact aj) (by rw[sI,cQ];exact h1);rw[sI,cQ]at af;exact af
theorem abE:aeA jr where
 keep:=λw W p U log h ak=>p1 w W p U log h ak
 build:=arH
 amS:=arW
 cell:=λw p U log st aL h _=>I4 w p U log st aL h
 af7:=λw st _=>arX w st
 size:=λw p U log _ h=>(tk w p U log h).mono λe w' ⟨he,hw⟩=>⟨he,0,by subst hw;rfl⟩
 aqL:=λw=>(abT w).mono λe w' ⟨he,hw⟩=>⟨he,0,by subst hw;rfl⟩
 ama:=λw p U log _ h=>(Fq w p U log h).mono λe w' ⟨he,hw⟩=>⟨he,0,by subst hw;rfl⟩
 al9:=λw=>(ar3 w).mono λe w' ⟨he,hw⟩=>⟨he,0,by subst hw;rfl⟩
 next:=λw p U log st more aL h _ _=>P2 w p U log st more aL h
 back:=λw p U log st s aL h _ ap=>abL w p U log st s aL h ap
theorem P9(t:ae)(p:ae×Nat)(h:hG t=some p):tj 4096 (some t)=(p.1,some (t.drop p.2))/\p.1.length<=4096:=by
 unfold hG at h;split at h
 .next hc=>
  injection h with h
  subst h;dsimp only;unfold tj;rw[xP 4096 t hc.1 (by omega)];simp only[eR];rw[aA (by rw[cC];exact hc.2.2),drop_drop];exact⟨rfl,by rw[cq];omega⟩
 .cases h
theorem P8(t:ae)(h:hG t=none):tj 4096 (some t)=([],none):=by
 unfold hG at h;split at h
 .cases h
 .next hc=>
  unfold tj;by_cases am:0<(aW t).2/\((aW t).1:Int)<=4096
  .rw[xP 4096 t am.1 am.2];simp only[eR];rw[ay (by rw[cC];omega)]
  .rw[BN 4096 t am];rfl
theorem P7(t:ae)(p:ae×Nat)(h:hG t=some p)(av:∀x∈t,x<256):∀x∈p.1,x<256:=by
 unfold hG at h;split at h
 .injection h with h
  subst h;exact p3 (jw av _) _
 .cases h
theorem aon(c b pos:Nat)(bs:ae)(w:ai)(hc:c<28)(ap:bs.length<=100000)(cr:∀x∈bs,x<256)(hle:pos+fY c<=8*bs.length)(h:eB w b 0 bs pos) :
  Calls prog 149 #[.int .u8 c,.pointer (some ⟨b,0,none⟩)] w λe w'=>e=.returned (.tuple #[.int .i64 (n4 c (bd bs/2^pos):Int),.bool true])/\eB w' b 0 bs (pos+fY c)/\w.grownBy w' (some b):=by
 have nw:fY c<=15:=by unfold fY;split<;>omega
 have fD:h4 c=(fY c:Int):=by unfold h4 fY;split;rfl;rw[ay (by omega)]
 have qb:=I (BO w c (by omega));have hmax:max (h4 c) 0=(fY c:Int):=by rw[fD];omega
 have hdec:decide (0<=h4 c)=true:=bG (by rw[fD];omega);rw[hmax,hdec]at qb;have eM:=I (ux b 0 bs pos (fY c) w (by omega) cr (by omega) hle h);have hm:=mod_lt (bd bs/2^pos) (eW (fY c));have cJ:2^fY c<=2^15:=dD (by omega) nw;have UL:(2:Nat)^15=32768:=by decide
 have hval:n8 c (bd bs/2^pos%2^fY c)=some (n4 c (bd bs/2^pos)):=by
  unfold n8 n4;unfold fY at hm ⊢;by_cases eU:c<16
  .simp only[aA eU];rw[Nat.pow_zero,mod_one,aA rfl]
  .simp only[ay eU]at hm ⊢;rw[ay (by omega),aA hm]
 have fI:=I (λW=>YK W c (bd bs/2^pos%2^fY c) (by omega) (by omega));rw[hval]at fI;dsimp only at fI;clear hval fD hmax hdec h cr hm;generalize bd bs/2^pos%2^fY c=m at *;generalize n4 c (bd bs/2^pos)=v at *;obtain⟨q,hq⟩:∃q,q=pos+fY c:=⟨_,rfl⟩;rw[<-hq]at eM ⊢;clear hq;generalize fY c=x at *;go_enter func149,ntmps149
 go_wp2_with fail
 refine qb.out.mono ?_;rintro e w' ⟨rfl,rfl⟩;go_wp2_with fail
 refine eM.out.mono ?_;rintro e aB ⟨rfl,bS,bl⟩;have eA:=I bS;have cN:=I bl;clear bS bl eM qb;go_wp2_with fail
 refine(fI.out aB).mono ?_;rintro e a1 ⟨rfl,bz⟩;have oV:=I (eA.out.below bz);have jf:=I (qt cN.out (dr bz _));clear bz eA cN fI;go_wp2;go_ret2;exact⟨rfl,oV,jf⟩
theorem aom(c b pos:Nat)(bs:ae)(w:ai)(hc:c<28)(ap:bs.length<=100000)(aw:pos<=8*bs.length)(hle:8*bs.length-pos<fY c)(h:eB w b 0 bs pos) :
  Calls prog 149 #[.int .u8 c,.pointer (some ⟨b,0,none⟩)] w λe w'=>(∃v:Int,e=.returned (.tuple #[.int .i64 v,.bool false]))/\w.grownBy w' (some b):=by
 have nw:fY c<=15:=by unfold fY;split<;>omega
 have fD:h4 c=(fY c:Int):=by unfold h4 fY;split;rfl;rw[ay (by omega)]
 have qb:=I (BO w c (by omega));have hmax:max (h4 c) 0=(fY c:Int):=by rw[fD];omega
 have hdec:decide (0<=h4 c)=true:=bG (by rw[fD];omega);rw[hmax,hdec]at qb;have eM:=I (Fm b 0 bs pos (fY c) w (by omega) aw (by omega) hle h);have fI:Hid (∀W,Calls prog 186 #[.int .u8 c,.int .u32 0] W λe w'=>(∃(v:Int) (z:Bool),e=.returned (.tuple #[.int .i64 v,.bool z]))/\Below W.heap.size W w'):=I (λW=>(YK W c 0 (by omega) (by omega)).mono λe w' ⟨he,ak⟩=>⟨by
  cases aE:n8 c 0 with
  | none=>rw[aE]at he;exact⟨_,_,he⟩
  | some g=>rw[aE]at he;exact⟨_,_,he⟩,ak⟩)
 clear fD hmax hdec h hle;generalize fY c=x at *;go_enter func149,ntmps149
 go_wp2_with fail
 refine qb.out.mono ?_;rintro e w' ⟨rfl,rfl⟩;go_wp2_with fail
 refine eM.out.mono ?_;rintro e aB ⟨rfl,k,rfl⟩;clear eM qb;go_wp2_with fail
 refine(fI.out _).mono ?_;rintro e a1 ⟨⟨v,z,rfl⟩,bz⟩;have jf:=I (qt (qq (dl w (some b)) k) (dr bz _));clear bz fI;go_wp2;go_ret2;exact⟨⟨v,rfl⟩,jf⟩
def aeB(w':ai)(e:Ending):Option (ae×Nat)->Prop
 | none=>e=.returned (.tuple #[.pointer none,.bool false])
 | some t=>∃p,e=.returned (.tuple #[.pointer (some p),.bool true])/\jr w' p t.1 t.2
namespace ao
theorem ai9(aG:ae)(t:ae×Nat)(h:headD aG=some t):ec t.1 t.2:=by
 unfold headD at h;split at h
 .cases h
 .next u hu=>
  split at h
  .injection h with h
   subst h;exact(I2 _ _ u.1 u.2.1 u.2.2 hu).1
  .cases h
end ao
theorem aoH(aG:ae)(w:ai)(hl:aG.length<=4096)(av:∀x∈aG,x<256) :
  Calls prog 210 #[.string (strOf aG)] w λe w'=>aeB w' e (ao.headD aG)/\Below w.heap.size w w':=by
 obtain⟨au,cap,eD,hcell,aH⟩:=oo w aG av;have cO:Reads au (some ⟨w.heap.size,0,none⟩) (aN aG):=λ_=>⟨_,_,rfl,λj ar=>by
  rw[jn]at ar;rw[eH,hcell j ar,jF aG j ar]⟩
 have lB:=I (ES (some ⟨w.heap.size,0,none⟩) cap aG au av cO);have aK:=I aH;have htake:=λW b (h:eB W b 0 aG 0)=>ai7 W b 0 0 aG (by omega) av (by omega) h
 rw[Nat.pow_zero,Nat.div_one,Nat.sub_zero]at htake;have rW:=I (λW b pos (aw:pos<=8*aG.length) (h:eB W b 0 aG pos)=>ab9 b pos aG W (by omega) av aw h);have hres:ao.headD aG=(match ao.takeA (bd aG) (8*aG.length)with | none=>none | some t=>if qG (bd aG) (8*aG.length) t.2.2=true then some (t.1,t.2.1)else none):=rfl;rw[hres];have hfair:=λl bW e' (h:ao.takeA (bd aG) (8*aG.length)=some (l,bW,e'))=>I2 _ _ l bW e' h
 clear hres hcell cO aH;cases iH:ao.takeA (bd aG) (8*aG.length)with
 | none=>
  rw[iH]at htake;unfold KR at htake;dsimp only at htake ⊢;have ek:=I htake;clear htake hfair iH av;generalize strOf aG=aaH at *;go_enter func210,ntmps210
  go_wp2_with fail
  refine lB.out.mono ?_;rintro e aB ⟨rfl,bS,aI⟩;have fC:=I (ek.out aB _ bS);have aV:=b9 aK aI;have eT:=I aK.out.size;clear bS aI lB aK ek eD;go_wp2_with fail
  refine fC.out.mono ?_;rintro e a1 ⟨⟨A,c,rfl⟩,cs,_⟩;have bE:=I (aV.out.grown cs aV.out.size (λx e=>by injection e with e;have:=eT.out;omega));clear cs fC aV;go_wp2;go_ret2;exact⟨rfl,bE⟩
 | some t=>
  obtain⟨U,bW,e'⟩:=t;obtain⟨aL,avt⟩:=hfair U bW e' iH;rw[iH]at htake;unfold KR at htake;dsimp only at htake ⊢;have ek:=I htake;have lL:=aL.len;have MH:=Uq U bW aL;have dm:=aL.high;have Ra:Hid (∀A c W,Reads W A (aM U)->Calls prog 165 #[.slice A U.length c,.int .i64 bW] W λe w'=>∃p,e=.returned (.tuple #[.pointer (some p),.bool true])/\jr w' p U bW/\Below W.heap.size W w'):=I (λA c W h1=>by
   have af:=abE.build A c (U.map (λn:Nat=>(n:Int))) (bW:Int) W (by rw[cQ];omega) (λx ah=>by
    have:=MH.2.2.2.1 x ah;unfold en;omega) (by unfold en;omega) (by rw[jT];exact h1) MH
   rw[cQ,cY]at af;have Bs:(U.map (λn:Nat=>(n:Int))).map Int.toNat=U:=by
    rw[List.map_map];conv=>rhs;rw[<-List.map_id U]
    apply map_congr_left
    intro x _;rfl
   rw[Bs]at af;exact af)
  have mO:∀W b,eB W b 0 aG (8*aG.length-e')->Calls prog 151 #[.pointer (some ⟨b,0,none⟩)] W λe w'=>e=.returned (.bool (qG (bd aG) (8*aG.length) e'))/\W.grownBy w' (some b):=λW b h=>by
   have h1:=rW.out W b (8*aG.length-e') (by omega) h;rw[show 8*aG.length-(8*aG.length-e')=e' by omega]at h1;exact h1
  have yn:=I mO;clear htake hfair iH av MH aL rW mO;generalize qG (bd aG) (8*aG.length) e'=r at *;generalize strOf aG=aaH at *;go_enter func210,ntmps210
  go_wp2_with fail
  refine lB.out.mono ?_;rintro e aB ⟨rfl,bS,aI⟩;have fC:=I (ek.out aB _ bS);have aV:=b9 aK aI;have bI:=aK.out.size;have hlt2:=bS.2.2.2;clear bS aI lB aK ek eD;generalize au.heap.size=b at *;go_wp2_with fail
  refine fC.out.mono ?_;rintro e a1 ⟨⟨A,c,rfl,bp,hA⟩,cs,vO⟩;have bE:=I (aV.out.grown cs aV.out.size (λx e=>by injection e with e;omega));have dB:=I bp;have ob:=I hA;have Rw:=I (yn.out a1 b (vO _ rfl));clear cs fC aV bp hA vO yn;go_wp2_with fail
  refine Rw.out.mono ?_;rintro e bA ⟨rfl,cA⟩;have cx:=I (bE.out.grown cA bE.out.size (λx e=>by injection e with e;omega));have wz:=I (Ra.out A c bA (E5 dB.out (λa e=>by have:=ob.out a e;omega) cA));clear cA Rw bE dB ob Ra;cases r with
  | false=>
   go_wp2;go_ret2;exact⟨rfl,cx⟩
  | true=>
   go_wp2_with fail
   refine wz.out.mono ?_;rintro e dG ⟨p,rfl,aQ,cL⟩;have dh:=b9 cx cL;have cb:=I aQ;clear aQ cL wz cx;go_wp2;go_ret2;exact⟨⟨p,rfl,cb⟩,dh⟩
def yc(w':ai)(b:Nat)(bs:ae)(e:Ending):Option (ae×Nat)->Prop
 | none=>∃A c,e=.returned (.tuple #[.slice A 0 c,.bool false])
 | some t=>(∃A c,e=.returned (.tuple #[.slice A t.1.length c,.bool true])/\Reads w' A (aN t.1))/\bJ w' b (some (bs.drop t.2))
theorem Z8(b n:Nat)(t:ae)(st:Left)(s1 s2:ByteArray)(w:ai)
  (h1:Calls prog 112 #[.pointer (some ⟨b,0,none⟩),.int .i64 4096] w λe w'=>e=.returned (.string s1)/\bJ w' b st/\w.grownBy w' (some b))
  (af:∀W,bJ W b st->Calls prog 112 #[.pointer (some ⟨b,0,none⟩),.int .i64 4096] W λe bc=>e=.returned (.string s2)/\bJ bc b none/\W.grownBy bc (some b)) :
  Calls prog 182 #[.pointer (some ⟨b,0,none⟩),.int .i64 n] w λe w'=>yc w' b t e none/\w.grownBy w' (some b):=by
 have H1:=I h1;have dk:=I af;clear h1 af;go_enter func182,ntmps182
 go_wp2_with fail
 refine H1.out.mono ?_;rintro e au ⟨rfl,bL,aZ⟩;have gD:=I (dk.out au bL);have cv:=I aZ;clear bL aZ H1 dk;go_wp2_with fail
 refine gD.out.mono ?_;rintro e aB ⟨rfl,db,bl⟩;have bO:=I (gB b none aB db);have cN:=I (ei cv.out bl);clear db bl cv gD;go_wp2_with fail
 refine bO.out.mono ?_;rintro e a1 ⟨rfl,rfl⟩;clear bO;go_wp2;go_ret2;exact⟨⟨_,_,rfl⟩,cN⟩
theorem aoq(b n:Nat)(t:ae)(w:ai)(aC:t.length<=100000000)(av:∀x∈t,x<256)(h:bJ w b (some t)) :
  Calls prog 182 #[.pointer (some ⟨b,0,none⟩),.int .i64 n] w λe w'=>yc w' b t e (ls t n)/\w.grownBy w' (some b):=by
 have h1:=E9 b (some t) 4096 w (by omega) (by omega) ⟨av,aC⟩ h;unfold ls;cases aw:hG t with
 | none=>
  rw[P8 t aw]at h1;exact Z8 b n t none _ (strOf []) w h1 (λW hc=>E9 b none 4096 W (by omega) (by omega) trivial hc)
 | some p=>
  obtain⟨aG,k⟩:=p;obtain⟨aF,pK⟩:=P9 t _ aw;have l8:=P7 t _ aw av;rw[aF]at h1;dsimp only at h1 pK l8 ⊢;have kz:(t.drop k).length<=100000000:=by rw[cC];omega
  have qs:∀x∈t.drop k,x<256:=jw av k;have af:=λW (hc:bJ W b (some (t.drop k)))=>E9 b (some (t.drop k)) 4096 W (by omega) (by omega) ⟨qs,kz⟩ hc
  cases hq:hG (t.drop k)with
  | none=>
   rw[P8 _ hq]at af;exact Z8 b n t _ _ _ w h1 af
  | some q=>
   obtain⟨bQ,m⟩:=q;obtain⟨e2,eF⟩:=P9 _ _ hq;have ho:=P7 _ _ hq qs;rw[e2]at af;dsimp only at af eF ho ⊢;rw[drop_drop]at af;have H1:=I h1;have dk:=I af;have w1:=I (λW=>aoH aG W pK l8);have hfair:=ai9 aG;obtain⟨r,aj⟩:∃r,r=ao.headD aG:=⟨_,rfl⟩;rw[<-aj]at w1 hfair ⊢;have lA:=I (λW=>oo W bQ ho);clear aj h1 af aF e2 aw hq kz qs l8;cases r with
   | none=>
    dsimp only;clear hfair lA;generalize strOf aG=s1 at *;generalize strOf bQ=s2 at *;go_enter func182,ntmps182
    go_wp2_with fail
    refine H1.out.mono ?_;rintro e au ⟨rfl,bL,aZ⟩;have gD:=I (dk.out au bL);have cv:=I aZ;clear bL aZ H1 dk;go_wp2_with fail
    refine gD.out.mono ?_;rintro e aB ⟨rfl,db,bl⟩;have bO:=I (gB b _ aB db);have cN:=I (ei cv.out bl);clear db bl cv gD;go_wp2_with fail
    refine bO.out.mono ?_;rintro e a1 ⟨rfl,rfl⟩;have fC:=I (w1.out aB);clear bO w1;go_wp2_with fail
    refine fC.out.mono ?_;rintro e bA ⟨rfl,a8⟩;have gQ:=I (ei cN.out (dr a8 _));clear a8 fC cN;go_wp2;go_ret2;exact⟨⟨_,_,rfl⟩,gQ⟩
   | some rK=>
    obtain⟨U,bW⟩:=rK;have aL:=hfair _ rfl;dsimp only at aL ⊢;have uL:Hid (∀W p A c,jr W p U bW->Reads W A (aN bQ)->Calls prog 211 #[.pointer (some p),.slice A bQ.length c,.int .i64 n] W λe w'=>x9 w' e (iX U bW bQ (n:Int))/\Below W.heap.size W w'):=I (λW p A c aQ bp=>ahb W p U bW A c bQ (n:Int) aL aQ (by omega) ho bp);clear hfair aL;obtain⟨uu,ff⟩:∃uu,uu=iX U bW bQ (n:Int):=⟨_,rfl⟩;rw[<-ff]at uL ⊢;clear ff;generalize strOf aG=s1 at *;have ah:=lA.out;clear lA;generalize strOf bQ=s2 at *;have lA:=I ah;clear ah;go_enter func182,ntmps182
    go_wp2_with fail
    refine H1.out.mono ?_;rintro e au ⟨rfl,bL,aZ⟩;have gD:=I (dk.out au bL);have cv:=I aZ;clear bL aZ H1 dk;go_wp2_with fail
    refine gD.out.mono ?_;rintro e aB ⟨rfl,db,bl⟩;have bO:=I (gB b _ aB db);have cN:=I (ei cv.out bl);have gp:=I db;clear db bl cv gD;go_wp2_with fail
    refine bO.out.mono ?_;rintro e a1 ⟨rfl,rfl⟩;have fC:=I (w1.out aB);clear bO w1;go_wp2_with fail
    refine fC.out.mono ?_;rintro e bA ⟨⟨p,rfl,aQ⟩,a8⟩;have gQ:=I (ei cN.out (dr a8 _));have qQ:=I (gp.out.below a8);obtain⟨dG,cap,eD,hcell,cL⟩:=lA.out bA;have cO:Reads dG (some ⟨bA.heap.size,0,none⟩) (aN bQ):=λ_=>⟨_,_,rfl,λj ar=>by
     rw[jn]at ar;rw[eH,hcell j ar,jF bQ j ar]⟩
    have Rr:=I (uL.out dG p _ cap (p1 _ _ _ _ _ aQ cL) cO);have mZ:=I (ei gQ.out (dr cL _));have k1:=I (qQ.out.below cL);clear aQ a8 hcell cO cL fC cN gp gQ qQ uL lA;go_wp2_with fail
    refine Rr.out.mono ?_;rintro e dp ⟨tX,fS⟩;have uM:=I (ei mZ.out (dr fS _));have uK:=I (k1.out.below fS);clear Rr fS mZ k1 eD;cases uu with
    | none=>
     obtain⟨A,c,rfl⟩:=tX;go_wp2;go_ret2;exact⟨⟨_,_,rfl⟩,uM⟩
    | some l=>
     obtain⟨A,c,rfl,bp⟩:=tX;have dB:=I bp;clear bp;go_wp2;go_ret2;exact⟨⟨⟨_,_,rfl,dB⟩,uK⟩,uM⟩
theorem aov(b n:Nat)(bs:ae)(w:ai)(hl:bs.length<=100000000)(av:∀x∈bs,x<256)(h1:1<=n)(az:n<=4096)(h:bJ w b (some bs)) :
  Calls prog 146 #[.pointer (some ⟨b,0,none⟩),.int .i64 n] w λe w'=>yc w' b bs e (n6 bs n)/\w.grownBy w' (some b):=by
 have eh:=E6 b (some bs) 1 w (by omega) (by omega) ⟨av,hl⟩ h;cases bs with
 | nil=>
  have aF:eR (hi 1) (some [])=([],none):=rfl;rw[aF]at eh;have gq:=I eh;clear eh h av aF;show Calls prog 146 #[.pointer (some ⟨b,0,none⟩),.int .i64 n] w λe w'=>yc w' b [] e none/\w.grownBy w' (some b)
  generalize aE:(bd ([],(none:Left)).1)=v at *;go_enter func146,ntmps146
  go_wp2_with fail
  refine gq.out.mono ?_;rintro e au ⟨rfl,bL,aZ⟩;have bO:=I (gB b _ au bL);have cv:=I aZ;clear bL aZ gq;go_wp2_with fail
  refine bO.out.mono ?_;rintro e a1 ⟨rfl,rfl⟩;clear bO;go_wp2;go_ret2;exact⟨⟨_,_,rfl⟩,cv⟩
 | cons k t=>
  rw[Ha k t]at eh;have hk:=av k ea;have fj:t.length<=100000000:=by rw[b1]at hl;omega
  have mf:∀x∈t,x<256:=λx ah=>av x (ew _ ah)
  have aE:bd ([k],some t).1=k:=by simp[bd]
  rw[aE]at eh;have gq:=I eh;have hdrop:∀m,(k :: t).drop (1+m)=t.drop m:=λm=>by rw[Nat.add_comm,drop_succ_cons]
  clear eh h av hl aE;have rb:=I (λW (hc:bJ W b (some t))=>gB b (some t) W hc);by_cases gv:k=0
  .subst gv;rw[zP];have ef:=I (λW (hc:bJ W b (some t))=>tc b (some t) (n:Int) W hc);rw[cY]at ef;by_cases hc:n<=t.length
   .rw[aA hc];rw[E4 n t hc]at ef;have kR:(t.take n).length=n:=by rw[cq];omega
    have lA:=I (λW=>oo W (t.take n) (p3 mf n));have ym:=I (hdrop n);dsimp only at ef;unfold yc;dsimp only;rw[ym.out];clear ym hdrop mf hc;generalize t.take n=P1 at *;generalize t.drop n=axf at *;generalize hstr:strOf P1=st at *;clear hstr;go_enter func146,ntmps146
    go_wp2_with fail
    refine gq.out.mono ?_;rintro e au ⟨rfl,bL,aZ⟩;have bO:=I (rb.out au bL);have dx:=I (ef.out au bL);have cv:=I aZ;clear bL aZ gq rb ef;go_wp2_with fail
    refine bO.out.mono ?_;rintro e a1 ⟨rfl,rfl⟩;clear bO;go_wp2_with fail
    refine dx.out.mono ?_;rintro e aB ⟨rfl,db,bl⟩;obtain⟨dG,cap,eD,hcell,cL⟩:=lA.out aB;have l1:Hid (Reads dG (some ⟨aB.heap.size,0,none⟩) (aN P1)):=I (λ_=>⟨_,_,rfl,λj ar=>by
     rw[jn]at ar;rw[eH,hcell j ar,jF P1 j ar]⟩)
    have mZ:=I (ei (ei cv.out bl) (dr cL _));have jA:=db.below cL;have dh:=I (gB b _ dG jA);have k1:=I jA;clear bl hcell cL db cv lA jA dx;go_wp2_with fail
    refine dh.out.mono ?_;rintro e dp ⟨rfl,rfl⟩;clear eD dh;go_wp2;go_ret2;refine⟨⟨⟨some ⟨aB.heap.size,0,none⟩,cap,?_,l1⟩,k1⟩,mZ⟩;rw[kR];rfl
   .rw[ay hc];rw[E3 n t hc]at ef;have lA:=I (λW=>oo W [] (by simp));dsimp only at ef;clear hdrop mf hc;generalize hstr:strOf []=st at *;clear hstr;go_enter func146,ntmps146
    go_wp2_with fail
    refine gq.out.mono ?_;rintro e au ⟨rfl,bL,aZ⟩;have bO:=I (rb.out au bL);have dx:=I (ef.out au bL);have cv:=I aZ;clear bL aZ gq rb ef;go_wp2_with fail
    refine bO.out.mono ?_;rintro e a1 ⟨rfl,rfl⟩;clear bO;go_wp2_with fail
    refine dx.out.mono ?_;rintro e aB ⟨rfl,db,bl⟩;obtain⟨dG,cap,eD,hcell,cL⟩:=lA.out aB;have mZ:=I (ei (ei cv.out bl) (dr cL _));have dh:=I (gB b _ dG (db.below cL));clear bl hcell cL db cv lA dx;go_wp2_with fail
    refine dh.out.mono ?_;rintro e dp ⟨rfl,rfl⟩;clear eD dh;go_wp2;go_ret2;exact⟨⟨_,_,rfl⟩,mZ⟩
  .by_cases eu:k=1
   .subst eu;rw[zQ];have ef:=I (λW (hc:bJ W b (some t))=>tc b (some t) 1 W hc);cases t with
    | nil=>
     have aF:eR (1:Int).toNat (some ([]:ae))=([],none):=rfl;rw[aF]at ef;rw[ay (by simp)];have lA:=I (λW=>oo W [] (by simp));have Hrep:=I (λA c W=>aow A c n W h1 az);dsimp only at ef;clear hdrop mf aF gv;generalize hstr:strOf []=st at *;clear hstr;go_enter func146,ntmps146
     go_wp2_with fail
     refine gq.out.mono ?_;rintro e au ⟨rfl,bL,aZ⟩;have bO:=I (rb.out au bL);have dx:=I (ef.out au bL);have cv:=I aZ;clear bL aZ gq rb ef;go_wp2_with fail
     refine bO.out.mono ?_;rintro e a1 ⟨rfl,rfl⟩;clear bO;go_wp2_with fail
     refine dx.out.mono ?_;rintro e aB ⟨rfl,db,bl⟩;obtain⟨dG,cap,eD,hcell,cL⟩:=lA.out aB;have mZ:=I (ei (ei cv.out bl) (dr cL _));have k1:=I (db.below cL);have na:=I (Hrep.out (some ⟨aB.heap.size,0,none⟩) cap dG);clear bl hcell cL db cv lA dx Hrep;go_wp2_with fail
     refine na.out.mono ?_;rintro e dp ⟨⟨rN,vb,rfl⟩,fS⟩;have uM:=I (ei mZ.out (dr fS _));have iP:=I (gB b _ dp (k1.out.below fS));clear fS mZ k1 na eD;go_wp2_with fail
     refine iP.out.mono ?_;rintro e dt ⟨rfl,rfl⟩;clear iP;go_wp2;go_ret2;exact⟨⟨_,_,rfl⟩,uM⟩
    | cons x t=>
     have aF:eR (1:Int).toNat (some (x :: t))=([x],some t):=rfl;have ah:=mf x ea;rw[aF]at ef;rw[aA (by simp)];simp only[dR,b6];have lA:=I (λW=>oo W [x] (by simpa using ah));have Hrep:=I (λA c W aj=>aox A c x n W ah h1 az aj);dsimp only at ef;have ym:Hid ((1 :: x :: t).drop 2=t):=I rfl;unfold yc;dsimp only;rw[ym.out,jl];clear hdrop mf aF gv ym;generalize hstr:strOf [x]=st at *;clear hstr;go_enter func146,ntmps146
     go_wp2_with fail
     refine gq.out.mono ?_;rintro e au ⟨rfl,bL,aZ⟩;have bO:=I (rb.out au bL);have dx:=I (ef.out au bL);have cv:=I aZ;clear bL aZ gq rb ef;go_wp2_with fail
     refine bO.out.mono ?_;rintro e a1 ⟨rfl,rfl⟩;clear bO;go_wp2_with fail
     refine dx.out.mono ?_;rintro e aB ⟨rfl,db,bl⟩;obtain⟨dG,cap,eD,hcell,cL⟩:=lA.out aB;have cO:Reads dG (some ⟨aB.heap.size,0,none⟩) (aN [x]):=λ_=>⟨_,_,rfl,λj ar=>by
      rw[jn]at ar;rw[eH,hcell j ar,jF [x] j ar]⟩
     have mZ:=I (ei (ei cv.out bl) (dr cL _));have k1:=I (db.below cL);have na:=I (Hrep.out (some ⟨aB.heap.size,0,none⟩) cap dG cO);clear bl hcell cL db cv lA dx Hrep cO;go_wp2_with fail
     refine na.out.mono ?_;rintro e dp ⟨⟨rN,vb,rfl,Xe⟩,fS⟩;have uM:=I (ei mZ.out (dr fS _));have vz:=k1.out.below fS;have iP:=I (gB b _ dp vz);have uK:=I vz;have adQ:=I Xe;clear fS mZ k1 na eD vz Xe;go_wp2_with fail
     refine iP.out.mono ?_;rintro e dt ⟨rfl,rfl⟩;clear iP;go_wp2;go_ret2;exact⟨⟨⟨_,_,rfl,adQ⟩,uK⟩,uM⟩
   .by_cases fy:k=2
    .subst fy;rw[zR];have m8:=I (λW (hc:bJ W b (some t))=>aoq b n t W fj mf hc);generalize ls t n=r at *;clear mf gv eu fj;go_enter func146,ntmps146
     go_wp2_with fail
     refine gq.out.mono ?_;rintro e au ⟨rfl,bL,aZ⟩;have bO:=I (rb.out au bL);have dx:=I (m8.out au bL);have cv:=I aZ;clear bL aZ gq rb m8;go_wp2_with fail
     refine bO.out.mono ?_;rintro e a1 ⟨rfl,rfl⟩;clear bO;go_wp2_with fail
     refine dx.out.mono ?_;rintro e aB ⟨li,bl⟩;have cN:=I (ei cv.out bl);clear bl cv dx;cases r with
     | none=>
      obtain⟨A,c,rfl⟩:=li;go_wp2;go_ret2;exact⟨⟨_,_,rfl⟩,cN⟩
     | some q=>
      obtain⟨⟨A,c,rfl,bp⟩,db⟩:=li;have dB:=I bp;have gp:=I db;clear bp db;go_wp2;go_ret2;exact⟨⟨⟨_,_,rfl,dB⟩,by show bJ aB b (some ((2 :: t).drop (1+q.2)));rw[hdrop];exact gp⟩,cN⟩
    .rw[B4 k t n (by omega)];have d0:((k:Int) == 0)=false:=cz
     have d1:((k:Int) == 1)=false:=cz
     have d2:((k:Int) == 2)=false:=cz
     clear gv eu fy hdrop mf;go_enter func146,ntmps146
     go_wp2_with fail
     refine gq.out.mono ?_;rintro e au ⟨rfl,bL,aZ⟩;have bO:=I (rb.out au bL);have cv:=I aZ;clear bL aZ gq rb;go_wp2_with fail
     refine bO.out.mono ?_;rintro e a1 ⟨rfl,rfl⟩;clear bO;go_wp2;go_ret2;exact⟨⟨_,_,rfl⟩,cv⟩
theorem aoK(b n:Nat)(bs:ae)(w:ai)(hl:bs.length<=100000000)(av:∀x∈bs,x<256)(h1:1<=n)(az:n<=4096)(h:bJ w b (some bs)) :
  Calls prog 111 #[.pointer (some ⟨b,0,none⟩),.int .i64 n] w λe w'=>yc w' b bs e (lU bs n)/\w.grownBy w' (some b):=by
 have dB:=I (aov b n bs w hl av h1 az h);have d0:decide ((n:Int)<0)=false:=aT;have d1:decide ((4096:Int)<n)=false:=aT;have hmem:=aag bs n av;unfold lU;generalize n6 bs n=r at *;clear av h;cases r with
 | none=>
  dsimp only;go_enter func111,ntmps111
  go_wp2_with fail
  refine dB.out.mono ?_;rintro e au ⟨⟨A,c,rfl⟩,aZ⟩;have cv:=I aZ;clear aZ dB;go_wp2;go_ret2;exact⟨⟨_,_,rfl⟩,cv⟩
 | some q=>
  obtain⟨l,k⟩:=q;dsimp only;obtain⟨eF,hlt2⟩:=hmem l k rfl;have iQ:=I (λA c W aj=>aoy A c l W (by omega) hlt2 aj);clear eF;by_cases et:∀x∈l,x<28
  .rw[aA et];rw[bG et]at iQ;clear et hlt2 hmem;go_enter func111,ntmps111
   go_wp2_with fail
   refine dB.out.mono ?_;rintro e au ⟨⟨⟨A,c,rfl,bp⟩,bL⟩,aZ⟩;have cv:=I aZ;have CV:=I (iQ.out A c au bp);have wT:=I bp;have k0:=I bL;clear aZ dB bp bL iQ;go_wp2_with fail
   refine CV.out.mono ?_;rintro e aB ⟨rfl,rfl⟩;clear CV;go_wp2;go_ret2;exact⟨⟨⟨_,_,rfl,wT⟩,k0⟩,cv⟩
  .rw[ay et];rw[bF et]at iQ;clear et hlt2 hmem;go_enter func111,ntmps111
   go_wp2_with fail
   refine dB.out.mono ?_;rintro e au ⟨⟨⟨A,c,rfl,bp⟩,bL⟩,aZ⟩;have cv:=I aZ;have CV:=I (iQ.out A c au bp);clear aZ dB bp bL iQ;go_wp2_with fail
   refine CV.out.mono ?_;rintro e aB ⟨rfl,rfl⟩;clear CV;go_wp2;go_ret2;exact⟨⟨_,_,rfl⟩,cv⟩
def aew(w':ai)(e:Ending):Option (List ao.dC)->Prop
 | none=>∃A c,e=.returned (.tuple #[.slice A 0 c,.bool false])
 | some l=>∃A c,e=.returned (.tuple #[.slice A l.length c,.bool true])/\l2 w' A l
theorem amx(n:Nat):(madeCells #[Value.int .i64 0,.int .i64 0,.int .i64 0] (n*3)).toList=gP (List.replicate n (0,0,0)):=by
 apply ext_getElem
 .simp[madeCells,aa1]
 .intro i h1 af;have ax:i<n*3:=by simpa [madeCells]using h1
  have hq:i/3<(List.replicate n ((0,0,0):ao.dC)).length:=by simp;omega
  obtain⟨e0,aF,e2⟩:=IQ (List.replicate n (0,0,0)) (i/3) hq;rw[getElem_replicate]at e0 aF e2;have hl:(madeCells #[Value.int .i64 0,.int .i64 0,.int .i64 0] (n*3)).toList[i]=(#[Value.int .i64 0,.int .i64 0,.int .i64 0]:Array Value)[i%3]!:=by simp[madeCells]
  have aj:i%3=0\/i%3=1\/i%3=2:=by omega
  rw[hl,<-some_inj,<-bH af];rcases aj with aj | aj | aj<;>rw[aj]
  .rw[show i=i/3*3 by omega,e0];rfl
  .rw[show i=i/3*3+1 by omega,aF];rfl
  .rw[show i=i/3*3+2 by omega,e2];rfl
theorem amz(n:Nat)(h:n<=1000000)(W:ai):(Instr.makeSlice 68 (.int .i64 n) (.int .i64 n)).run prog W=.ok (.slice (some ⟨W.heap.size,0,none⟩) n n) (W.alloc (.cells (gP (List.replicate n (0,0,0))).toArray 118)):=by
 obtain⟨i0,ax,bB,bK,bw⟩:=info_parts N3;have h1:=run_make (P:=prog) W 68 118 i0 _ underlying68 ax bB .i64 .i64 (n:Int) (n:Int) (by omega) (by omega) (by rw[bw];omega) (by omega);rw[cY,bK,show(Value.agg #[.int .i64 0,.int .i64 0,.int .i64 0]).cells=#[.int .i64 0,.int .i64 0,.int .i64 0]from rfl]at h1;rw[h1,<-amx,Array.toArray_toList]
theorem aqY(l:List ao.dC)(i:Nat)(x y z:Nat)(h:i<l.length):(((gP l).set (i*3) (.int .i64 x)).set (i*3+1) (.int .i64 y)).set (i*3+2) (.int .i64 z)=gP (l.set i (x,y,z)):=by
 induction l generalizing i with
 | nil=>simp at h
 | cons t l ih=>
  cases i with
  | zero=>rfl
  | succ i=>
   have h1:=ih i (by simpa using h);have aF:(i+1)*3=i*3+3:=by omega
   rw[aF,set_cons_succ,gP,gP,<-h1];rfl
structure ol(w W:ai)(bD dL dK cf:Nat)(vs:b3)(L:List ao.dC)(r:Int×Int×Int)(bQ:ae)(pos:Nat):Prop where
 all:Row W bD 108 vs
 rd:eB W dL 0 bQ pos
 row:Row W dK 118 (gP L)
 lr:Row W cf 154 [.int .i64 r.1,.int .i64 r.2.1,.int .i64 r.2.2]
 dy:Below w.heap.size w W
 low:w.heap.size<=bD/\bD<dL/\dL<dK/\dK<cf/\cf<W.heap.size
section
variable {w W bc:ai} {bD dL dK cf:Nat} {vs:b3} {L:List ao.dC} {r:Int×Int×Int} {bQ:ae} {pos:Nat}
theorem ol.below(h:ol w W bD dL dK cf vs L r bQ pos)(ak:Below W.heap.size W bc):ol w bc bD dL dK cf vs L r bQ pos:=by
 obtain⟨h1,af,aq,aJ,aR,cg⟩:=h;exact⟨h1.below ak,af.below ak,aq.below ak,aJ.below ak,aR.trans (ak.mono aR.size),by have:=ak.size;omega⟩
theorem ol.read(h:ol w W bD dL dK cf vs L r bQ pos){p:Nat}(aD:W.grownBy bc (some dL))(af:eB bc dL 0 bQ p):ol w bc bD dL dK cf vs L r bQ p:=by
 obtain⟨h1,_,aq,aJ,aR,cg⟩:=h;refine⟨h1.keep (aD.block _ (by omega) (by simp;omega)),af,aq.keep (aD.block _ (by omega) (by simp;omega)),aJ.keep (aD.block _ (by omega) (by simp;omega)),aR.grown aD aR.size (λx e=>by injection e with e;omega),by have:=aD.size;omega⟩
theorem ol.cG(h:ol w W bD dL dK cf vs L r bQ pos){p:Addr}(aw:cf<p.block)(u:Value):ol w (W.setCell p u) bD dL dK cf vs L r bQ pos:=by
 obtain⟨h1,af,aq,aJ,aR,cg⟩:=h;refine⟨h1.cG (by omega) u,af.keep (o8 W p u) (by simp;omega),aq.cG (by omega) u,aJ.cG (by omega) u,aR.setCell (by omega) u,by simpa using cg⟩
theorem ol.put(h:ol w W bD dL dK cf vs L r bQ pos){L':List ao.dC}(i:Nat)(x y z eb bN rc:Int)(aj:Row (((W.setCell ⟨dK,i,none⟩ (.int .i64 x)).setCell ⟨dK,i+1,none⟩ (.int .i64 y)).setCell ⟨dK,i+2,none⟩ (.int .i64 z)) dK 118 (gP L')) :
  ol w ((((((W.setCell ⟨dK,i,none⟩ (.int .i64 x)).setCell ⟨dK,i+1,none⟩ (.int .i64 y)).setCell ⟨dK,i+2,none⟩ (.int .i64 z)).setCell ⟨cf,0,none⟩ (.int .i64 eb)).setCell ⟨cf,1,none⟩ (.int .i64 bN)).setCell ⟨cf,2,none⟩ (.int .i64 rc)).drew bD dL dK cf vs L' (eb,bN,rc) bQ pos:=by
 obtain⟨h1,af,aq,aJ,aR,cg⟩:=h;have aF:∀(W:ai) i u,Row W bD 108 vs->Row (W.setCell ⟨dK,i,none⟩ u) bD 108 vs:=λW i u h=>h.cG (by show bD≠dK;omega) u
 have e2:∀(W:ai) i u,Row W bD 108 vs->Row (W.setCell ⟨cf,i,none⟩ u) bD 108 vs:=λW i u h=>h.cG (by show bD≠cf;omega) u
 have e3:∀(W:ai) i u,eB W dL 0 bQ pos->eB (W.setCell ⟨dK,i,none⟩ u) dL 0 bQ pos:=λW i u h=>h.keep (o8 W ⟨dK,i,none⟩ u) (by simp;omega)
 have e4:∀(W:ai) i u,eB W dL 0 bQ pos->eB (W.setCell ⟨cf,i,none⟩ u) dL 0 bQ pos:=λW i u h=>h.keep (o8 W ⟨cf,i,none⟩ u) (by simp;omega)
 have e5:∀(W:ai) i u {ag},Row W dK 118 ag->Row (W.setCell ⟨cf,i,none⟩ u) dK 118 ag:=λW i u ag h=>h.cG (by show dK≠cf;omega) u
 have gR:∀(W:ai) i u {ag},Row W cf 154 ag->Row (W.setCell ⟨dK,i,none⟩ u) cf 154 ag:=λW i u ag h=>h.cG (by show cf≠dK;omega) u
 have ot:∀(W:ai) i u,Below w.heap.size w W->Below w.heap.size w (W.setCell ⟨dK,i,none⟩ u):=λW i u h=>h.setCell (by show w.heap.size<=dK;omega) u
 have o5:∀(W:ai) i u,Below w.heap.size w W->Below w.heap.size w (W.setCell ⟨cf,i,none⟩ u):=λW i u h=>h.setCell (by show w.heap.size<=cf;omega) u
 have iK:=((gR _ (i+2) (.int .i64 z) (gR _ (i+1) (.int .i64 y) (gR _ i (.int .i64 x) aJ))).bm 0 (.int .i64 eb));have B2:=(iK.bm 1 (.int .i64 bN)).bm 2 (.int .i64 rc);simp only[set_cons_zero,set_cons_succ]at B2;have ap:((((((W.setCell ⟨dK,i,none⟩ (.int .i64 x)).setCell ⟨dK,i+1,none⟩ (.int .i64 y)).setCell ⟨dK,i+2,none⟩ (.int .i64 z)).setCell ⟨cf,0,none⟩ (.int .i64 eb)).setCell ⟨cf,1,none⟩ (.int .i64 bN)).setCell ⟨cf,2,none⟩ (.int .i64 rc)).heap.size=W.heap.size:=by simp[World.setCell]
 have gy:=e2 _ 2 (.int .i64 rc) (e2 _ 1 (.int .i64 bN) (e2 _ 0 (.int .i64 eb) (aF _ (i+2) (.int .i64 z) (aF _ (i+1) (.int .i64 y) (aF _ i (.int .i64 x) h1)))));have ft:=e4 _ 2 (.int .i64 rc) (e4 _ 1 (.int .i64 bN) (e4 _ 0 (.int .i64 eb) (e3 _ (i+2) (.int .i64 z) (e3 _ (i+1) (.int .i64 y) (e3 _ i (.int .i64 x) af)))));have lT:=e5 _ 2 (.int .i64 rc) (e5 _ 1 (.int .i64 bN) (e5 _ 0 (.int .i64 eb) aj));have E1:=o5 _ 2 (.int .i64 rc) (o5 _ 1 (.int .i64 bN) (o5 _ 0 (.int .i64 eb) (ot _ (i+2) (.int .i64 z) (ot _ (i+1) (.int .i64 y) (ot _ i (.int .i64 x) aR)))));clear aF e2 e3 e4 e5 gR ot o5 aj h1 af aq aJ aR iK;generalize (((((W.setCell ⟨dK,i,none⟩ (.int .i64 x)).setCell ⟨dK,i+1,none⟩ (.int .i64 y)).setCell ⟨dK,i+2,none⟩ (.int .i64 z)).setCell ⟨cf,0,none⟩ (.int .i64 eb)).setCell ⟨cf,1,none⟩ (.int .i64 bN)).setCell ⟨cf,2,none⟩ (.int .i64 rc)=X at *;exact ol.below ⟨gy,ft,lT,B2,E1,by rw[ap];exact cg⟩ dQ.drew
end
namespace ao
theorem ahw(c:Nat)(h:c<28):fY c<=15:=by unfold fY;split<;>omega
theorem Zy(c V:Nat)(h:c<28):n4 c V<=65535:=by
 unfold n4;split
 .omega
 .have h1:=mod_lt V (eW (c-12));have af:2^(c-12)<=2^15:=dD (by omega) (by omega);have aq:(2:Nat)^15=32768:=by decide
  omega
theorem ZD(a b c n x:Int)(h:ka a b c n=some x):1<=x/\x<=65533:=by
 obtain⟨h1,af,aq⟩:=am7 a b c n x h;exact amY a b c x (by omega)
def yI(r:Int×Int×Int):Prop:=(1<=r.1/\r.1<=65533)/\(1<=r.2.1/\r.2.1<=65533)/\(1<=r.2.2/\r.2.2<=65533)
theorem Pq(r:Int×Int×Int)(x:Int)(h:yI r)(ah:1<=x/\x<=65533):yI (hx r.1 r.2.1 r.2.2 x):=by
 obtain⟨h1,af,aq⟩:=h;unfold hx;split
 .exact⟨ah,af,aq⟩
 .split
  .exact⟨ah,h1,aq⟩
  .exact⟨ah,h1,af⟩
theorem aau(ag:List (ae))(n k:Nat)(h:k<n):(jD ag n).drop k=jM ag k :: (jD ag n).drop (k+1):=by
 have hl:k<(jD ag n).length:=by simpa [jD]using h
 rw[drop_eq_getElem_cons hl];simp[jD]
end ao
theorem aan{r:Int×Int×Int}(h:yI r):hI r.1/\hI r.2.1/\hI r.2.2:=by
 obtain⟨h1,af,aq⟩:=h;unfold hI;omega
def s9(xs:ae):b3:=[.int .i64 ((xs[0]?.getD 0:Nat):Int),.int .i64 ((xs[1]?.getD 0:Nat):Int),.int .i64 ((xs[2]?.getD 0:Nat):Int)]
theorem Zz(xs:ae)(v:Nat)(h:xs.length<3):(s9 xs).set xs.length (.int .i64 v)=s9 (xs++[v]):=by
 match xs,h with
 | [],_=>rfl
 | [a],_=>rfl
 | [a,b],_=>rfl
theorem aqW(D:List ao.dC)(m k:Nat)(h:D.length=k):(gP (D++List.replicate (m+1) (0,0,0)))[k*3]?=some (.int .i64 0)/\(gP (D++List.replicate (m+1) (0,0,0)))[k*3+1]?=some (.int .i64 0)/\(gP (D++List.replicate (m+1) (0,0,0)))[k*3+2]?=some (.int .i64 0):=by
 have hl:k<(D++List.replicate (m+1) ((0,0,0):ao.dC)).length:=by rw[aY,jl];omega
 have h1:=IQ _ k hl;have e:(D++List.replicate (m+1) ((0,0,0):ao.dC))[k]=(0,0,0):=by
  rw[getElem_append_right (by omega),getElem_replicate]
 rw[e]at h1;exact h1
theorem aqX(D:List ao.dC)(m k x y z:Nat)(h:D.length=k):(((gP (D++List.replicate (m+1) (0,0,0))).set (k*3) (.int .i64 x)).set (k*3+1) (.int .i64 y)).set (k*3+2) (.int .i64 z)=gP ((D++[(x,y,z)])++List.replicate m (0,0,0)):=by
 rw[aqY _ k x y z (by rw[aY,jl];omega)];congr 1
 rw[set_append_right _ _ (by omega),h,Nat.sub_self,replicate_succ,set_cons_zero,dj];rfl
theorem aoE(gd eI fa B:a7)(bC bf bM ij n:Nat)(c0 c1 c2 bQ:ae)(w:ai)(az:n<=1000)(am:c0.length=n/\∀x∈c0,x<28)(h1:c1.length=n/\∀x∈c1,x<28)(af:c2.length=n/\∀x∈c2,x<28)
  (kS:Reads w gd (aN c0)) (cd:Reads w eI (aN c1)) (bS:Reads w fa (aN c2)) (dY:bQ.length<=4096) (hblt:∀x∈bQ,x<256) (cX:Reads w B (aN bQ)) :
  Calls prog 113 #[.agg #[.slice gd n bC,.slice eI n bf,.slice fa n bM],.slice B bQ.length ij,.int .i64 n] w λe w'=>aew w' e (oO [c0,c1,c2] n bQ)/\Below w.heap.size w w':=by
 obtain⟨res,hres⟩:∃res,res=oO [c0,c1,c2] n bQ:=⟨_,rfl⟩;rw[<-hres];have bt:=I hres;obtain⟨AL,DL⟩:∃AL,w.alloc (.cells #[.slice gd n bC,.slice eI n bf,.slice fa n bM] 108)=AL:=⟨_,rfl⟩;have eb:=Row.new w 108 [.slice gd n bC,.slice eI n bf,.slice fa n bM];have dg:=(Below.refl w.heap.size w).alloc bh (.cells #[.slice gd n bC,.slice eI n bf,.slice fa n bM] 108);rw[show w.alloc (.cells [Value.slice gd n bC,.slice eI n bf,.slice fa n bM].toArray 108)=AL from DL]at eb;have hsz0:AL.heap.size=w.heap.size+1:=by rw[<-DL];simp
 rw[DL]at dg;have lB:=I (ES B ij bQ AL hblt (c9 cX dg));have QS:=I DL;have RV:=I (λW=>amz n (by omega) W);have CG:=I YE;have kM:=I eb;have dW:=I dg;have Sv:=I hsz0;have dO:=I (⟨kS,cd,bS⟩:_/\_/\_);have kc:=I (⟨am,h1,af⟩:_/\_/\_);have p9:=I hblt;clear hres DL eb dg hsz0 kS cd bS cX am h1 af hblt;go_enter func113,ntmps113
 go_wp2_with fail
 rw[QS.out];refine lB.out.mono ?_;rintro e au ⟨rfl,zx,aH⟩;obtain⟨bD,dg⟩:∃bD,w.heap.size=bD:=⟨_,rfl⟩;obtain⟨dL,vy⟩:∃dL,AL.heap.size=dL:=⟨_,rfl⟩;obtain⟨dK,Mw⟩:∃dK,au.heap.size=dK:=⟨_,rfl⟩;have wT:=I zx;have aK:=I aH;have eS:=I (⟨dg,vy,Mw⟩:_/\_/\_);have qu:=RV.out au;rw[Mw]at qu;clear zx aH lB QS dg vy Mw RV;go_wp2_with fail
 refine(CG.out _).mono ?_;rintro e aB ⟨rfl,aI⟩;obtain⟨cf,kj⟩:∃cf,aB.heap.size=cf:=⟨_,rfl⟩;have aQ:ol w (aB.alloc (.cells #[.int .i64 1,.int .i64 2,.int .i64 4] 154)) bD dL dK cf [.slice gd n bC,.slice eI n bf,.slice fa n bM] (List.replicate n (0,0,0)) (1,2,4) bQ 0:=by
  obtain⟨e0,A2,el⟩:=eS.out;have jB:=aK.out.size;have gT:=aI.size;have lg:=(Below.refl au.heap.size au).alloc bh (.cells (gP (List.replicate n (0,0,0))).toArray 118);have jz:Below au.heap.size au aB:=lg.trans (aI.mono lg.size);have Mx:=jz.alloc jz.size (.cells #[.int .i64 1,.int .i64 2,.int .i64 4] 154);have rl:=Row.new au 118 (gP (List.replicate n (0,0,0)));have rc:=Row.new aB 154 [.int .i64 1,.int .i64 2,.int .i64 4];rw[el]at rl;rw[kj]at rc;have eb:=(kM.out.below aK).below Mx;rw[e0]at eb;have uu:=wT.out.below Mx;rw[A2]at uu;have aO:=Sv.out;rw[World.size_alloc]at gT;refine⟨eb,uu,(rl.below aI).alloc _,rc,(dW.out.trans (aK.out.mono dW.out.size)).trans (Mx.mono (by omega)),?_⟩;rw[World.size_alloc];have hlt1:=wT.out.2.2.2;rw[A2]at hlt1;omega
 have cb:=I aQ;have uI:=I kj;clear aI aQ wT aK kM dW kj Sv qu CG;go_wp2;rw[eS.out.1,eS.out.2.1,uI.out];generalize aB.alloc (.cells #[.int .i64 1,.int .i64 2,.int .i64 4] 154)=dv at *;clear eS uI;have c8:=I (λc q (W:ai) (hc:c<28) (aw:q<=8*bQ.length) (hle:8*bQ.length-q<fY c) (h:eB W dL 0 bQ q)=>aom c dL q bQ W hc (by omega) aw hle h);have yG:=I (λc q (W:ai) (hc:c<28) (hle:q+fY c<=8*bQ.length) (h:eB W dL 0 bQ q)=>aon c dL q bQ W hc (by omega) p9.out hle h);have rW:=I (λq (W:ai) (aw:q<=8*bQ.length) (h:eB W dL 0 bQ q)=>ab9 dL q bQ W (by omega) p9.out aw h);have hR:Hid (res=sm (kb (jD [c0,c1,c2] n) (bd bQ) (8*bQ.length) (1,2,4))):=I bt.out;clear bt;have xp:bd bQ=bd bQ/2^0:=by rw[Nat.pow_zero,Nat.div_one]
 have JH:=I xp;clear xp p9;generalize bd bQ=V at *;generalize bR:8*bQ.length=L at *;clear bR;go_loopw [11,12,13,14,15,16,17,18,19,27] (λ_ _ _ _ _ _ _ _ _ i wr=>∃(k pos:Nat) (D:List ao.dC) (r:Int×Int×Int),i=.int .i64 k/\k<=n/\pos<=L/\Hid (D.length=k)/\Hid (yI r) /\
  Hid (ol w wr bD dL dK cf [.slice gd n bC,.slice eI n bf,.slice fa n bM] (D++List.replicate (n-k) (0,0,0)) r bQ pos) /\
  Hid (res=sm ((kb ((jD [c0,c1,c2] n).drop k) (V/2^pos) (L-pos) r).map λq=>(D++q.1,q.2)))) (λ_ _ _ _ _ _ _ _ _ i _=>n-(intOf i).toNat)
 case atStart=>
  refine⟨0,0,[],(1,2,4),rfl,zero_le _,zero_le _,I rfl,I ⟨by decide,by decide,by decide⟩,cb,I ?_⟩;rw[hR.out,drop_zero,Nat.sub_zero,<-JH.out];cases kb (jD [c0,c1,c2] n) V L (1,2,4)<;>rfl
 case round=>
  obtain⟨k,pos,D,r,rfl,hk,hpos,cR,aj,aQ,hres⟩:=hrel;clear cb JH hR;by_cases lj:k<n
  .have vj:decide ((k:Int)<n)=true:=cl;have uU:Hid ((jD [c0,c1,c2] n).drop k=jM [c0,c1,c2] k :: (jD [c0,c1,c2] n).drop (k+1)):=I (aau _ n k lj);have Xz:=aQ.out.low;have aH:wr.heap.size<wr.heap.size+1:=by omega
   have sV:=aQ.out.below ((Below.refl wr.heap.size wr).alloc bh (.cells #[.int .i64 0,.int .i64 0,.int .i64 0] 30));have e8:=Row.new wr 30 (s9 []);obtain⟨qi,o9⟩:∃qi,wr.heap.size=qi:=⟨_,rfl⟩;rw[o9]at e8 Xz;have tH:=I sV;have nb:=I e8;have wB:=I o9;have aiK:cf<qi:=by omega
   obtain⟨a0,ie,a2⟩:=dE sV.all;clear sV e8 o9 aH aQ Xz;go_wp2;rw[wB.out];have e3:wr.alloc (.cells (s9 []).toArray 30)=wr.alloc (.cells #[.int .i64 0,.int .i64 0,.int .i64 0] 30):=rfl;rw[e3]at nb;clear e3;generalize wr.alloc (.cells #[.int .i64 0,.int .i64 0,.int .i64 0] 30)=wq at *;clear wB a0 ie a2;rename ai=>tp
   go_loopw [13,14,15,16,31] (λ_ _ _ _ i wr=>∃(j q:Nat) (xs:ae),i=.int .i64 j/\j<=3/\q<=L/\Hid (xs.length=j)/\Hid (∀x∈xs,x<=65535) /\
    Hid (ol w wr bD dL dK cf [.slice gd n bC,.slice eI n bf,.slice fa n bM] (D++List.replicate (n-k) (0,0,0)) r bQ q)/\Hid (Row wr qi 30 (s9 xs)) /\
    Hid (ln (jM [c0,c1,c2] k) (V/2^pos) (L-pos)=(ln ((jM [c0,c1,c2] k).drop j) (V/2^q) (L-q)).map λt=>(xs++t.1,t.2))) (λ_ _ _ _ i _=>3-(intOf i).toNat)
   case atStart=>
    refine⟨0,pos,[],rfl,by omega,hpos,I rfl,I (by simp),tH,nb,I ?_⟩;rw[drop_zero];cases ln (jM [c0,c1,c2] k) (V/2^pos) (L-pos)<;>rfl
   case round=>
    obtain⟨j,q,xs,rfl,ar,hq,oD,sZ,aQ,e8,jR⟩:=hrel;clear tH nb;by_cases zf:j<3
    .have key:∃(g off c:Nat) (dI:Nat) (A:a7),Hid ([Value.slice gd n bC,.slice eI n bf,.slice fa n bM][j]?=some (.slice A n dI))/\A=some ⟨g,off,none⟩/\wr.cell? ⟨g,off+k,none⟩=some (.int .u8 c)/\c<28/\Hid ((jM [c0,c1,c2] k).drop j=c :: (jM [c0,c1,c2] k).drop (j+1)):=by
      obtain⟨h7,bL,db⟩:=kc.out;obtain⟨gW,gO,dc⟩:=dO.out;have one:∀(A:a7) (ag:ae),(ag.length=n/\∀x∈ag,x<28)->Reads w A (aN ag)->∃g off,A=some ⟨g,off,none⟩/\∃c:Nat,wr.cell? ⟨g,off+k,none⟩=some (.int .u8 c)/\c<28/\ag[k]?.getD 0=c:=λA ag h aj=>by
       have bb:k<ag.length:=by omega
       obtain⟨g,off,e,hc⟩:=nA (c9 aj aQ.out.dy) (by intro e;rw[e]at bb;simp at bb);exact⟨g,off,e,ag[k],hc k bb,h.2 _ (b7 bb),by rw[bH bb];rfl⟩
      rcases(by omega:j=0\/j=1\/j=2)with rfl | rfl | rfl
      .obtain⟨g,off,e,c,h1,af,aq⟩:=one gd c0 h7 gW;exact⟨g,off,c,bC,gd,rfl,e,h1,af,I (by simp only[jM,map_cons,map_nil,drop_succ_cons,drop_zero,aq])⟩
      .obtain⟨g,off,e,c,h1,af,aq⟩:=one eI c1 bL gO;exact⟨g,off,c,bf,eI,rfl,e,h1,af,I (by simp only[jM,map_cons,map_nil,drop_succ_cons,drop_zero,aq])⟩
      .obtain⟨g,off,e,c,h1,af,aq⟩:=one fa c2 db dc;exact⟨g,off,c,bM,fa,rfl,e,h1,af,I (by simp only[jM,map_cons,map_nil,drop_succ_cons,drop_zero,aq])⟩
     obtain⟨g,off,c,dI,A,hidx,rfl,hcell,hc28,hdrop⟩:=key;have ez:=I jR.out;rw[hdrop.out,ln]at ez;have hidx2:∀W,(Instr.index 108 (.agg #[.slice gd n bC,.slice eI n bf,.slice fa n bM]) (.int .i64 j)).run prog W=.ok (.slice (some ⟨g,off,none⟩) n dI) W:=λW=>by
      have h:=hidx.out;rcases(by omega:j=0\/j=1\/j=2)with rfl | rfl | rfl
      all_goals
       simp only[dR,dU,Option.some.injEq]at h;rw[h];simp[Instr.index,run_underlying underlying108,asIntOf,go_sem]
     clear hidx jR hdrop;by_cases hfit:q+fY c<=L
     .rw[aA (by omega)]at ez;have ce:=I (yG.out c q wr hc28 hfit aQ.out.rd);have aE:=Zy c (V/2^q) hc28;rw[km,<-dM,Nat.sub_sub]at ez;obtain⟨v,X4⟩:∃v,v=n4 c (V/2^q):=⟨_,rfl⟩;obtain⟨ft,eG⟩:∃ft,ft=q+fY c:=⟨_,rfl⟩;rw[<-X4]at ce ez aE;rw[<-eG]at ce ez hfit;have fb:=I (aQ.out);have yy:=I (e8.out);clear X4 eG aQ e8 c8 yG;go_wp2_with fail
      refine ce.out.mono ?_;rintro e a1 ⟨rfl,pR,cs⟩;have ug:=fb.out.read cs pR;have hlow:=fb.out.low;have HP:=yy.out.keep (cs.block qi yy.out.lt (by simp;omega));have hb:=ug.cG (p:=⟨qi,j,none⟩) aiK (.int .i64 v);have Nu:=HP.bm j (.int .i64 v);rw[<-oD.out,Zz xs v (by rw[oD.out];exact zf),oD.out]at Nu;have f0:=HP.free j;have hsome:∃u,a1.cell? ⟨qi,j,none⟩=some u:=by
       rw[HP.cell];rcases(by omega:j=0\/j=1\/j=2)with rfl | rfl | rfl<;>exact⟨_,rfl⟩
      obtain⟨u0,NH⟩:=hsome;have kN:=I hb;have adT:=I Nu;have Wj:(j:Int)<3:=by omega
      clear pR cs ug HP hb Nu fb yy hlow ce;go_wp2;go_roundw
      case rel=>
       refine⟨j+1,ft,xs++[v],by go_num,by omega,hfit,I (by rw[aY,oD.out];rfl),I (λx ah=>?_),kN,adT,I ?_⟩
       .rcases List.mem_append.1 ah with ah | ah
        .exact sZ.out x ah
        .rw[List.mem_singleton.1 ah];exact aE
       .rw[ez.out];cases ln ((jM [c0,c1,c2] k).drop (j+1)) (V/2^ft) (L-ft)<;>simp
      case measure=>simp[intOf];omega
     .rw[ay (by omega)]at ez;have ce:=I (c8.out c q wr hc28 hq (by omega) aQ.out.rd);have dw:Hid (res=none):=I (by rw[hres.out,uU.out,kb,ez.out];rfl);have fb:=I (⟨aQ.out.dy,aQ.out.low⟩:_/\_);clear ez c8 yG rW hfit aQ e8 hres uU kc dO;go_wp2_with fail
      refine ce.out.mono ?_;rintro e a1 ⟨⟨v,rfl⟩,cs⟩;have bE:=I (fb.out.1.grown cs fb.out.1.size (λx e=>by injection e with e;have:=fb.out.2;omega));clear cs ce;go_wp2;go_ret2;rw[dw.out];exact⟨⟨_,_,rfl⟩,bE⟩
    .have vH:j=3:=by omega
     subst vH;have ez:=I jR.out;rw[show(jM [c0,c1,c2] k).drop 3=[]from rfl,ln,map_some,append_nil]at ez;obtain⟨l,m,o,NS⟩:∃l m o,xs=[l,m,o]:=by
      match xs,oD.out with
      | [l,m,o],_=>exact⟨l,m,o,rfl⟩
     subst NS;have hm:m<=65535:=sZ.out m (by simp);have b8:o<=65535:=sZ.out o (by simp);have Bz:Row wr qi 30 [.int .i64 l,.int .i64 m,.int .i64 o]:=e8.out;obtain⟨x0,je,iO⟩:=dE Bz;obtain⟨lu,kn,ko⟩:=dE aQ.out.lr;obtain⟨e7,cX,iF⟩:=aan aj.out;have jI:=I hres.out;rw[uU.out,kb,ez.out]at jI;simp only[dR,dU,b6]at jI;have fb:=I aQ.out;clear hres ez jR e8 Bz aQ sZ oD c8 yG uU;cases hoff:ka r.1 r.2.1 r.2.2 (o:Int)with
     | none=>
      rw[hoff]at jI;have ce:=I (λW=>aoC W r.1 r.2.1 r.2.2 l m o e7 cX iF hm b8 hoff);have dw:Hid (res=none):=I jI.out;have wY:=I (⟨fb.out.dy,fb.out.low⟩:_/\_);clear hoff jI fb rW kc dO e7 cX iF aj;generalize r.1=eb at *;generalize r.2.1=bN at *;generalize r.2.2=rc at *;generalize m+3=m3 at *;go_wp2_with fail
      refine(ce.out _).mono ?_;rintro e a1 ⟨rfl,bz⟩;have bE:=I ((((wY.out.1.trans (bz.mono wY.out.1.size)).alloc (wY.out.1.trans (bz.mono wY.out.1.size)).size (.cells #[.int .i64 l,.int .i64 m3,.int .i64 0] 118)).alloc (by have:=(wY.out.1.trans (bz.mono wY.out.1.size)).size;simp;omega) (.cells #[.int .i64 eb,.int .i64 bN,.int .i64 rc] 154)));clear bz ce;go_wp2;go_ret2;rw[dw.out];exact⟨⟨_,_,rfl⟩,bE⟩
     | some x=>
      rw[hoff]at jI;dsimp only at jI;have ah:=ZD _ _ _ _ _ hoff;have ce:=I (λW=>aoD W r.1 r.2.1 r.2.2 x l m o e7 cX iF hm b8 hoff);have Aw:=I (Pq r x aj.out ah);obtain⟨⟨eb,bN,rc⟩,bS⟩:∃dc,dc=hx r.1 r.2.1 r.2.2 x:=⟨_,rfl⟩;rw[<-bS]at ce Aw jI;dsimp only at ce;clear hoff bS e7 cX iF aj;obtain⟨kY,rfl⟩:∃kY:Nat,x=(kY:Int):=⟨x.toNat,by omega⟩;rw[cY]at jI;have hlow:=fb.out.low;go_wp2_with fail
      refine(ce.out _).mono ?_;rintro e a1 ⟨rfl,bz⟩;have ug:=fb.out.below bz;obtain⟨bs,cr⟩:∃bs,a1.heap.size=bs:=⟨_,rfl⟩;obtain⟨Dk,lJ⟩:∃Dk,a1.heap.size+1=Dk:=⟨_,rfl⟩;have M1:=ug.low;have rs:=(Row.new a1 118 [.int .i64 l,.int .i64 ((m+3:Nat):Int),.int .i64 kY]).alloc (.cells #[.int .i64 eb,.int .i64 bN,.int .i64 rc] 154);have rt:=Row.new (a1.alloc (.cells #[.int .i64 l,.int .i64 ((m+3:Nat):Int),.int .i64 kY] 118)) 154 [.int .i64 eb,.int .i64 bN,.int .i64 rc];rw[World.size_alloc,lJ]at rt;rw[cr]at rs;have hb:=(ug.below ((Below.refl a1.heap.size a1).alloc bh (.cells #[.int .i64 l,.int .i64 ((m+3:Nat):Int),.int .i64 kY] 118))).below ((Below.refl _ (a1.alloc (.cells #[.int .i64 l,.int .i64 ((m+3:Nat):Int),.int .i64 kY] 118))).alloc bh (.cells #[.int .i64 eb,.int .i64 bN,.int .i64 rc] 154));have kN:=I hb;have l1:=I rs;have Ga:=I rt;have px:=I cr;have uJ:=I lJ;have av:cf<bs/\cf<Dk:=by omega
      clear bz ug hb rs rt cr lJ M1 ce fb x0 je iO lu kn ko;generalize m+3=m3 at *;obtain⟨d,aG⟩:∃d,n-k=d+1:=⟨n-k-1,by omega⟩;rw[aG]at kN;have dS:=I (show n-(k+1)=d by omega);clear aG;go_wp2_with fail
      rw[uJ.out,px.out];obtain⟨x0,je,iO⟩:=dE l1.out;obtain⟨atj,atk,atl⟩:=dE Ga.out;obtain⟨lu,kn,ko⟩:=dE kN.out.lr;have g0:=kN.out.lr.free 0;have g1:=kN.out.lr.free 1;have g2:=kN.out.lr.free 2;obtain⟨z0,gl,z2⟩:=aqW D d k cR.out;have v0:=(kN.out.row.cell (k*3)).trans z0;have v1:=(kN.out.row.cell (k*3+1)).trans gl;have v2:=(kN.out.row.cell (k*3+2)).trans z2;have ur:=kN.out.row.free (k*3);have gy:=kN.out.row.free (k*3+1);have aoc:=kN.out.row.free (k*3+2);have ajK:=kN.out.low;have b4:bs≠dK:=by omega
      have bT:bs≠cf:=by omega
      have Ic:Dk≠dK:=by omega
      have xS:Dk≠cf:=by omega
      have Ie:dK≠cf:=by omega
      have If:cf≠dK:=by omega
      generalize (a1.alloc (.cells #[.int .i64 l,.int .i64 m3,.int .i64 kY] 118)).alloc (.cells #[.int .i64 eb,.int .i64 bN,.int .i64 rc] 154)=Qi at *;have hput:=aqX D d k l m3 kY cR.out;have hrow2:=((kN.out.row.bm (k*3) (.int .i64 l)).bm (k*3+1) (.int .i64 m3)).bm (k*3+2) (.int .i64 kY);rw[hput]at hrow2;have gh:=I hrow2;clear z0 gl z2 l1 Ga px uJ hput hrow2;go_region
      have BE:=kN.out.put (k*3) l m3 kY eb bN rc gh.out;have yC:=I BE;clear BE gh kN x0 je iO atj atk atl lu kn ko v0 v1 v2 ur gy aoc g0 g1 g2 ajK;generalize (((((Qi.setCell ⟨dK,k*3,none⟩ (.int .i64 l)).setCell ⟨dK,k*3+1,none⟩ (.int .i64 m3)).setCell ⟨dK,k*3+2,none⟩ (.int .i64 kY)).setCell ⟨cf,0,none⟩ (.int .i64 eb)).setCell ⟨cf,1,none⟩ (.int .i64 bN)).setCell ⟨cf,2,none⟩ (.int .i64 rc)=as6 at *;generalize as6.drew=axl at *;go_wp2;go_roundw
      case rel=>
       refine⟨k+1,q,D++[(l,m3,kY)],(eb,bN,rc),by go_num,by omega,hq,I (by rw[aY,cR.out];rfl),Aw,by rw[dS.out];exact yC,I ?_⟩;rw[jI.out];cases kb ((jD [c0,c1,c2] n).drop (k+1)) (V/2^q) (L-q) (eb,bN,rc)<;>simp
      case measure=>simp[intOf];omega
  .have hkn':k=n:=by omega
   subst hkn';have vj:decide ((k:Int)<k)=false:=aT;have eA:=I hres.out;rw[show(jD [c0,c1,c2] k).drop k=[]from drop_of_length_le (by simp[jD]),kb,map_some,append_nil]at eA;unfold sm at eA;dsimp only at eA;have ce:=I (rW.out pos wr hpos aQ.out.rd);have fb:=I aQ.out;rw[Nat.sub_self,replicate_zero,append_nil]at fb;clear hres aQ c8 yG rW kc dO aj;by_cases hend:L-pos<8/\V/2^pos=0
   .rw[aA hend]at eA;rw[bG hend]at ce;clear hend;go_wp2_with fail
    refine ce.out.mono ?_;rintro e a1 ⟨rfl,cs⟩;have hlow:=fb.out.low;have hrow:=fb.out.row.keep (cs.block dK fb.out.row.lt (by simp;omega));have bE:=I (fb.out.dy.grown cs fb.out.dy.size (λx e=>by injection e with e;omega));have dB:Hid (l2 a1 (some ⟨dK,0,none⟩) D):=I (λ_=>⟨dK,0,rfl,hrow.lt,λj ar=>by
     obtain⟨s0,s1,s2⟩:=IQ D j ar;rw[eH,hrow.cell,hrow.cell,hrow.cell];exact⟨s0,s1,s2⟩⟩)
    clear cs hrow ce fb hlow;go_wp2;go_ret2;rw[eA.out];exact⟨⟨some ⟨dK,0,none⟩,k,by rw[cR.out];rfl,dB⟩,bE⟩
   .rw[ay hend]at eA;rw[bF hend]at ce;clear hend;go_wp2_with fail
    refine ce.out.mono ?_;rintro e a1 ⟨rfl,cs⟩;have hlow:=fb.out.low;have bE:=I (fb.out.dy.grown cs fb.out.dy.size (λx e=>by injection e with e;omega));clear cs ce fb hlow;go_wp2;go_ret2;rw[eA.out];exact⟨⟨_,_,rfl⟩,bE⟩
def Gn(w':ai)(b:Nat)(bs:ae)(e:Ending):Option (List ao.dC×Nat)->Prop
 | none=>∃A c,e=.returned (.tuple #[.slice A 0 c,.bool false])
 | some t=>(∃A c,e=.returned (.tuple #[.slice A t.1.length c,.bool true])/\l2 w' A t.1)/\bJ w' b (some (bs.drop t.2))
theorem IF{w w':ai}{A:a7}{l:ae}{b:Nat}{t:TypeId}{ag:b3}(h:Row w b t ag)(az:∀(m:Nat) (z:Int),ag[m]?≠some (.int .u8 z))(aj:Reads w A (aN l))(aD:w.grownBy w' (some b)):Reads w' A (aN l):=λaX=>by
 obtain⟨g,off,rfl,hc⟩:=aj aX;refine⟨g,off,rfl,λj ar=>?_⟩;have h1:=hc j ar;rw[jn]at ar;rw[jF l j ar]at h1 ⊢;refine aD.cell h1 (λe=>?_);injection e with e
 dsimp only at e;subst e;exact az _ _ ((Row.cell h (off+j)).symm.trans h1)
theorem aaf(st:Left)(m:Nat)(z:Int):(qF st)[m]?≠some (.int .u8 z):=by
 intro ah;rcases st with _ | bs
 all_goals
  match m,ah with
  | 0,ah=>simp[qF]at ah
  | 1,ah=>simp[qF]at ah
  | m+2,ah=>simp[qF]at ah
def oN(n:Nat)(e6:List (a7×Nat×ae))(m:Nat):b3:=(e6.map λs=>Value.slice s.1 n s.2.1)++List.replicate m (.slice none 0 0)
theorem IP(n m:Nat)(e6:List (a7×Nat×ae))(i:Nat)(z:Int):(oN n e6 m)[i]?≠some (.int .u8 z):=by
 intro h;have hm:=mem_of_getElem? h;unfold oN at hm;rcases List.mem_append.1 hm with hm | hm
 .obtain⟨s,_,e⟩:=List.mem_map.1 hm;cases e
 .rw[mem_replicate]at hm;cases hm.2
def si(w:ai)(n:Nat)(e6:List (a7×Nat×ae)):Prop:=∀s∈e6,(s.2.2.length=n/\∀x∈s.2.2,x<28)/\Reads w s.1 (aN s.2.2)
theorem si.Ih{w w':ai}{n:Nat}{e6:List (a7×Nat×ae)}{b:Nat}{t:TypeId}{ag:b3}(ap:si w n e6)(h:Row w b t ag)(az:∀(m:Nat) (z:Int),ag[m]?≠some (.int .u8 z))(aD:w.grownBy w' (some b)):si w' n e6:=
 λs hm=>⟨(ap s hm).1,IF h az (ap s hm).2 aD⟩
theorem si.below{w w':ai}{n:Nat}{e6:List (a7×Nat×ae)}(ap:si w n e6)(ak:Below w.heap.size w w'):si w' n e6:=
 λs hm=>⟨(ap s hm).1,c9 (ap s hm).2 ak⟩
theorem aog(b:Nat)(bs:ae)(most:Int)(w:ai)
  (hint:Calls prog 40 #[.pointer (some ⟨b,0,none⟩),.int .i64 (min most 1000)] w λe w'=>e=.returned (.int .i64 0)/\bJ w' b none/\w.grownBy w' (some b)) :
  Calls prog 73 #[.pointer (some ⟨b,0,none⟩),.int .i64 most] w λe w'=>Gn w' b bs e none/\w.grownBy w' (some b):=by
 have H1:=I hint;clear hint;go_enter func73,ntmps73
 go_wp2_with fail
 refine H1.out.mono ?_;rintro e au ⟨rfl,bL,aZ⟩;have bO:=I (gB b none au bL);have cv:=I aZ;clear bL aZ H1;go_wp2_with fail
 refine bO.out.mono ?_;rintro e a1 ⟨rfl,rfl⟩;clear bO;go_wp2;go_ret2;exact⟨⟨_,_,rfl⟩,cv⟩
theorem aoh(b k:Nat)(bs:ae)(most:Int)(w:ai)
  (hint:Calls prog 40 #[.pointer (some ⟨b,0,none⟩),.int .i64 (min most 1000)] w λe w'=>e=.returned (.int .i64 0)/\bJ w' b (some (bs.drop k))/\w.grownBy w' (some b)) :
  Calls prog 73 #[.pointer (some ⟨b,0,none⟩),.int .i64 most] w λe w'=>Gn w' b bs e (some ([],k))/\w.grownBy w' (some b):=by
 have H1:=I hint;clear hint;go_enter func73,ntmps73
 go_wp2_with fail
 refine H1.out.mono ?_;rintro e au ⟨rfl,bL,aZ⟩;have bO:=I (gB b _ au bL);have cv:=I aZ;have k0:=I bL;clear bL aZ H1;go_wp2_with fail
 refine bO.out.mono ?_;rintro e a1 ⟨rfl,rfl⟩;clear bO;go_wp2;go_ret2;exact⟨⟨⟨_,_,rfl,λh=>absurd h (by simp)⟩,k0.out⟩,cv.out⟩
theorem aof(b k n:Nat)(bs:ae)(most:Int)(w:ai)(hp:1<=n)(az:n<=1000)(hl:bs.length<=100000000)(av:∀x∈bs,x<256)
  (hint:Calls prog 40 #[.pointer (some ⟨b,0,none⟩),.int .i64 (min most 1000)] w λe w'=>e=.returned (.int .i64 n)/\bJ w' b (some (bs.drop k))/\w.grownBy w' (some b)) :
  Calls prog 73 #[.pointer (some ⟨b,0,none⟩),.int .i64 most] w λe w'=>Gn w' b bs e (match hE 3 (bs.drop k) n with
   | none=>none
   | some p=>match hG ((bs.drop k).drop p.2)with
    | none=>none
    | some q=>(oO p.1 n q.1).map λl=>(l,k+p.2+q.2))/\w.grownBy w' (some b):=by
 obtain⟨res,hres⟩:∃res,res=(match hE 3 (bs.drop k) n with
   | none=>none
   | some p=>match hG ((bs.drop k).drop p.2)with
    | none=>none
    | some q=>(oO p.1 n q.1).map λl=>(l,k+p.2+q.2)):=⟨_,rfl⟩
 rw[<-hres];obtain⟨yJ,sw⟩:∃yJ,yJ=hE 3 (bs.drop k) n:=⟨_,rfl⟩;rw[<-sw]at hres;have FE:=I sw;have bt:=I hres;have H1:=I hint;have oX:=I (λm W (hc:bJ W b (some (bs.drop m)))=>aoK b n (bs.drop m) W (by rw[cC];omega) (jw av m) hp (by omega) hc);have iz:=I (λm W (hc:bJ W b (some (bs.drop m)))=>E9 b (some (bs.drop m)) 4096 W (by omega) (by omega) ⟨jw av m,by rw[cC];omega⟩ hc);have b5:=I (λm=>jw av m);have xg:((n:Int) == 0)=false:=cz
 clear hint hres av hl sw;go_enter func73,ntmps73
 go_wp2_with fail
 refine H1.out.mono ?_;rintro e au ⟨rfl,bL,aZ⟩;have bO:=I (gB b _ au bL);have cv:=I aZ;have k0:=I bL;clear bL aZ H1;go_wp2_with fail
 refine bO.out.mono ?_;rintro e a1 ⟨rfl,rfl⟩;clear bO;obtain⟨ba,jx⟩:∃ba,au.heap.size=ba:=⟨_,rfl⟩;have e7:=Row.new au 108 (oN n [] 3);have hbel:=(Below.refl au.heap.size au).alloc bh (.cells #[.slice none 0 0,.slice none 0 0,.slice none 0 0] 108);have e3:au.alloc (.cells (oN n [] 3).toArray 108)=au.alloc (.cells #[.slice none 0 0,.slice none 0 0,.slice none 0 0] 108):=rfl;rw[e3,jx]at e7;have kM:=I e7;have uH:=I jx;have gp:=I (k0.out.below hbel);have cN:=I (ei cv.out (dr hbel _));have ky:b<ba:=by rw[<-jx];exact k0.out.lt
 have dZ:w.heap.size<=ba:=by rw[<-jx];exact cv.out.size
 clear e7 hbel e3 jx k0 cv;go_wp2;rw[uH.out];generalize au.alloc (.cells #[.slice none 0 0,.slice none 0 0,.slice none 0 0] 108)=dv at *;clear uH;go_loopw [8,9,10,20] (λ_ _ _ i wr=>∃(j at_:Nat) (e6:List (a7×Nat×ae)),i=.int .i64 j/\j<=3/\Hid (e6.length=j)/\Hid (Row wr ba 108 (oN n e6 (3-j)))/\Hid (si wr n e6)/\Hid (bJ wr b (some (bs.drop (k+at_))))/\Hid (w.grownBy wr (some b)) /\
  Hid (yJ=(hE (3-j) (bs.drop (k+at_)) n).map λq=>(e6.map (λs=>s.2.2)++q.1,at_+q.2))) (λ_ _ _ i _=>3-(intOf i).toNat)
 case atStart=>
  refine⟨0,0,[],rfl,by omega,I rfl,kM,I (λs ap=>by cases ap),gp,cN,I ?_⟩;rw[ga,Nat.sub_zero,FE.out];cases hE 3 (bs.drop k) n<;>simp
 case round=>
  obtain⟨j,at_,e6,rfl,ar,ld,hrow,fU,fh,aD,hstr⟩:=hrel;clear kM gp cN;by_cases zf:j<3
  .have o4:(j:Int)<3:=by omega
   have ce:=I (oX.out (k+at_) wr fh);have fO:=I hstr.out;obtain⟨d,aG⟩:∃d,3-j=d+1:=⟨3-j-1,by omega⟩;rw[aG,hE]at fO;have yr:=I (λl dI h=>abk (bs.drop (k+at_)) n (b5.out _) l dI h);have hrow':=hrow.out;rw[aG]at hrow';have da:=I hrow';have dS:=I (show 3-(j+1)=d by omega);have vB:=fh;clear hstr fh hrow hrow' aG;cases ap:lU (bs.drop (k+at_)) n with
   | none=>
    rw[ap]at fO ce;dsimp only at fO;have dw:Hid (res=none):=I (by rw[bt.out,fO.out];rfl);clear fO oX iz b5 bt yr ap fU da dS vB;go_wp2_with fail
    refine ce.out.mono ?_;rintro e bA ⟨⟨A,c,rfl⟩,cA⟩;have gQ:=I (ei aD.out cA);clear cA ce aD;go_wp2;go_ret2;rw[dw.out];exact⟨⟨_,_,rfl⟩,gQ⟩
   | some t=>
    obtain⟨l,dI⟩:=t;rw[ap]at fO ce;dsimp only at fO;have hm:=yr.out l dI ap;have ci:=I hm;rw[drop_drop]at fO;clear yr ap;go_wp2_with fail
    refine ce.out.mono ?_;rintro e bA ⟨⟨⟨A,c,rfl,bp⟩,nV⟩,cA⟩;dsimp only at bp nV ⊢;rw[drop_drop]at nV;have hrow4:=da.out.keep (cA.block ba da.out.lt (by simp;omega));have Es:=fU.out.Ih vB.out (aaf _) cA;have sK:Reads (bA.setCell ⟨ba,j,none⟩ (.slice A n c)) A (aN l):=IF hrow4 (IP n (d+1) e6) bp (o8 bA ⟨ba,j,none⟩ (.slice A n c));have Et:=Es.Ih hrow4 (IP n (d+1) e6) (o8 bA ⟨ba,j,none⟩ (.slice A n c));have jA:bJ (bA.setCell ⟨ba,j,none⟩ (.slice A n c)) b (some (bs.drop (k+at_+dI))):=nV.keep (o8 bA ⟨ba,j,none⟩ (.slice A n c)) (by simp;omega);have zA:=hrow4.bm j (.slice A n c);have hset:(oN n e6 (d+1)).set j (.slice A n c)=oN n (e6++[(A,c,l)]) d:=by
     unfold oN;rw[set_append_right _ _ (by rw[cQ,ld.out];omega),cQ,ld.out,Nat.sub_self,replicate_succ,set_cons_zero,map_append,dj];rfl
    rw[hset]at zA;have f0:=hrow4.free j;have hsome:∃u,bA.cell? ⟨ba,j,none⟩=some u:=by
     rw[hrow4.cell];unfold oN;rw[jk (by rw[cQ,ld.out];omega),cQ,ld.out,Nat.sub_self];exact⟨_,rfl⟩
    obtain⟨u0,NH⟩:=hsome;have fp:w.grownBy (bA.setCell ⟨ba,j,none⟩ (.slice A n c)) (some b):=by
     have h1:=ei aD.out cA;exact⟨h1.os,h1.tape,h1.output,by have:=h1.size;simpa [World.setCell]using this,λi ax aX=>by
      rw[<-h1.block i ax aX];exact Below.heap_setCell bA ⟨ba,j,none⟩ _ i (by show i≠ba;omega)⟩
    have AA:Hid (si (bA.setCell ⟨ba,j,none⟩ (.slice A n c)) n (e6++[(A,c,l)])):=I (λs ap=>by
     rcases List.mem_append.1 ap with ap | ap
     .exact Et s ap
     .rw[List.mem_singleton.1 ap];exact⟨ci,sK⟩)
    have tF:=I zA;have k1:=I jA;have mZ:=I fp;have Hlen:Hid (l.length=n):=I ci.out.1;have kR:=Hlen.out;rw[kR];clear hrow4 Es sK Et jA zA hset fp hm bp nV cA fU aD da ci ce kR vB;go_wp2;go_roundw
    case rel=>
     refine⟨j+1,at_+dI,e6++[(A,c,l)],by go_num,by omega,I (by rw[aY,ld.out];rfl),by rw[dS.out];exact tF,AA,by rw[<-jb];exact k1,mZ,I ?_⟩;rw[fO.out,dS.out,<-jb];cases hE d (bs.drop (k+at_+dI)) n<;>simp[jb]
    case measure=>simp[intOf];omega
  .have vH:j=3:=by omega
   subst vH;obtain⟨s0,s1,s2,sw⟩:∃s0 s1 s2,e6=[s0,s1,s2]:=by
    match e6,ld.out with
    | [x,y,z],_=>exact⟨x,y,z,rfl⟩
   subst sw;have fO:=I hstr.out;rw[Nat.sub_self,hE,map_some,append_nil,ga]at fO;have hrow2:Row wr ba 108 [.slice s0.1 n s0.2.1,.slice s1.1 n s1.2.1,.slice s2.1 n s2.2.1]:=hrow.out;obtain⟨x0,je,iO⟩:=dE hrow2;have ce:=I (iz.out (k+at_) wr fh);have hR:=I bt.out;rw[fO.out]at hR;simp only[map_cons,map_nil]at hR;rw[drop_drop]at hR;have da:=I hrow2;have vB:=fh;clear hstr hrow hrow2 bt fO ld iz oX fh;cases qz:hG (bs.drop (k+at_))with
   | none=>
    have gp:=I ce.out;rw[P8 _ qz]at gp;rw[qz]at hR;dsimp only at hR;clear qz ce b5 fU da;go_wp2_with fail
    refine gp.out.mono ?_;rintro e bA ⟨rfl,nV,cA⟩;have bO:=I (gB b none bA nV);have gQ:=I (ei aD.out cA);clear nV cA aD gp;go_wp2_with fail
    refine bO.out.mono ?_;rintro e dG ⟨rfl,rfl⟩;clear bO;go_wp2;go_ret2;rw[hR.out];exact⟨⟨_,_,rfl⟩,gQ⟩
   | some q=>
    obtain⟨bQ,m⟩:=q;obtain⟨aF,pK⟩:=P9 _ _ qz;have l8:=P7 _ _ qz (b5.out _);have gp:=I ce.out;rw[aF]at gp;rw[qz]at hR;dsimp only at hR gp pK l8;rw[drop_drop]at gp;have lA:=I (λW=>oo W bQ l8);have cb:=I (λW A c (h:si W n [s0,s1,s2]) aj=>aoE s0.1 s1.1 s2.1 A s0.2.1 s1.2.1 s2.2.1 c n s0.2.2 s1.2.2 s2.2.2 bQ W az (h s0 (by simp)).1 (h s1 (by simp)).1 (h s2 (by simp)).1 (h s0 (by simp)).2 (h s1 (by simp)).2 (h s2 (by simp)).2 pK l8 aj);obtain⟨uu,ff⟩:∃uu,uu=oO [s0.2.2,s1.2.2,s2.2.2] n bQ:=⟨_,rfl⟩;rw[<-ff]at cb hR;clear qz aF ce b5 ff l8;generalize akf:strOf bQ=xV at *;clear akf;go_wp2_with fail
    refine gp.out.mono ?_;rintro e bA ⟨rfl,nV,cA⟩;have bO:=I (gB b _ bA nV);have gQ:=I (ei aD.out cA);have C4:=I (fU.out.Ih vB.out (aaf _) cA);have hrow4:=da.out.keep (cA.block ba da.out.lt (by simp;omega));obtain⟨lu,kn,ko⟩:=dE hrow4;have qQ:=I nV;clear nV cA aD gp fU vB da hrow4 x0 je iO;go_wp2_with fail
    refine bO.out.mono ?_;rintro e dG ⟨rfl,rfl⟩;obtain⟨dp,cap,eD,hcell,fS⟩:=lA.out bA;have cO:Reads dp (some ⟨bA.heap.size,0,none⟩) (aN bQ):=λ_=>⟨_,_,rfl,λj ar=>by
     rw[jn]at ar;rw[eH,hcell j ar,jF bQ j ar]⟩
    have yC:=I (cb.out dp _ cap (C4.out.below fS) cO);have uM:=I (ei gQ.out (dr fS _));have uK:=I (qQ.out.below fS);clear bO hcell fS cO cb C4 gQ qQ lA;go_wp2_with fail
    refine yC.out.mono ?_;rintro e dt ⟨pe,fZ⟩;have wI:=I (ei uM.out (dr fZ _));have FL:=I (uK.out.below fZ);clear fZ yC uM uK eD lu kn ko;cases uu with
    | none=>
     obtain⟨A,c,rfl⟩:=pe;go_wp2;go_ret2;rw[hR.out];exact⟨⟨_,_,rfl⟩,wI⟩
    | some l=>
     obtain⟨A,c,rfl,bp⟩:=pe;have dB:=I bp;clear bp;go_wp2;go_ret2;rw[hR.out];exact⟨⟨⟨_,_,rfl,dB⟩,FL⟩,wI⟩
theorem aoe(b:Nat)(bs:ae)(most:Int)(w:ai)(am:-9223372036854775808<=most)(h1:most<=9223372036854775807)(hl:bs.length<=100000000)(av:∀x∈bs,x<256)(h:bJ w b (some bs)) :
  Calls prog 73 #[.pointer (some ⟨b,0,none⟩),.int .i64 most] w λe w'=>Gn w' b bs e (iM bs most)/\w.grownBy w' (some b):=by
 have hint:=B5 b (some bs) (min most 1000) w (by omega) (by omega) ⟨av,hl⟩ h;by_cases hc:0<(aW bs).2/\((aW bs).1:Int)<=min most 1000
 .rw[xP _ bs hc.1 hc.2]at hint;dsimp only at hint;by_cases aO:(aW bs).1=0
  .rw[aqw bs most hc aO];rw[aO]at hint;exact aoh b _ bs most w hint
  .rw[aqq bs most hc aO];exact aof b _ _ bs most w (by omega) (by omega) hl av hint
 .rw[BN _ bs hc]at hint;rw[aqr bs most hc];exact aog b bs most w hint
theorem ahR(A B:a7)(c d:Nat)(U:ae)(log:Nat)(bs:ae)(n:Int)(w:ai)(h:ec U log)(hl:bs.length<=10000)(az:en n)(av:∀x∈bs,x<256)(aj:Reads w A (c3 (nL U log)))(ap:Reads w B (aN bs)) :
  (iX U log bs n=none/\Calls prog 157 #[.slice A (2^log) c,.int .i64 log,.slice B bs.length d,.int .i64 n] w λe w'=>e=.returned (.tuple #[.slice none 0 0,.bool false])/\Below w.heap.size w w') \/
  ∃l,iX U log bs n=some l/\Calls prog 157 #[.slice A (2^log) c,.int .i64 log,.slice B bs.length d,.int .i64 n] w λe w'=>∃de df,e=.returned (.tuple #[.slice de l.length df,.bool true])/\Reads w' de (aN l)/\Below w.heap.size w w':=by
 have ah:∀r,(Calls prog 157 #[.slice A (2^log) c,.int .i64 log,.slice B bs.length d,.int .i64 n] w λe w'=>Qu w.heap.size w' e r/\Below w.heap.size w w')->iX U log bs n=r ->
   (iX U log bs n=none/\Calls prog 157 #[.slice A (2^log) c,.int .i64 log,.slice B bs.length d,.int .i64 n] w λe w'=>e=.returned (.tuple #[.slice none 0 0,.bool false])/\Below w.heap.size w w') \/
   ∃l,iX U log bs n=some l/\Calls prog 157 #[.slice A (2^log) c,.int .i64 log,.slice B bs.length d,.int .i64 n] w λe w'=>∃de df,e=.returned (.tuple #[.slice de l.length df,.bool true])/\Reads w' de (aN l)/\Below w.heap.size w w':=by
  intro r h1 aG;cases r with
  | none=>exact .inl ⟨aG,h1⟩
  | some l=>
   refine .inr ⟨l,aG,h1.mono ?_⟩;rintro e w' ⟨⟨u,rfl,b8⟩,ak⟩;obtain⟨de,df,rfl,bp,_⟩:=kU b8;exact⟨de,df,rfl,bp,ak⟩
 rcases apL B d bs w (by omega) av ap with⟨b8,Nc⟩ | ⟨M,L,b8,Nc⟩
 .refine ah _ (UF A B c d bs.length U log 0 0 false n w h az (by omega) (by omega) aj (Nc.mono λe w' ⟨he,ak⟩=>⟨none,0,he,Nat.le_refl _,by unfold maxLen;omega,λaX=>absurd rfl aX,ak⟩)) ?_;unfold iX sl;rw[b8,ay (by simp)];rfl
 .obtain⟨la,_,bR⟩:=Pz bs M L av b8;refine ah _ (UF A B c d bs.length U log M L true n w h az (by omega) la aj Nc) ?_;unfold iX;rw[b8];rfl
end Go.Proofs.YtgiicohbigiapaaGreat
