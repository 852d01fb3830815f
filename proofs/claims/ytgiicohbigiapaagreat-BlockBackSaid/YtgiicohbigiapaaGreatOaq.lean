/- Contracts. -/
import Derived.Test.YtgiicohbigiapaaGreatOan
import Derived.Test.YtgiicohbigiapaaGreatOah
import Derived.Test.YtgiicohbigiapaaGreatOap
import Derived.Deep.DrawnRows
import Derived.Test.YtgiicohbigiapaaGreatOz2
import Derived.Test.YtgiicohbigiapaaGreatOz1
import Derived.Test.YtgiicohbigiapaaGreatOz0
set_option maxHeartbeats 4000000
set_option maxRecDepth 100000
open Go.Proofs.Tryz Go.Proofs.YtgiicohbigiapaaGreat.am List Nat Option
namespace Go.Proofs.YtgiicohbigiapaaGreat
open Go.RowKit
namespace am
def nk(U:ae)(log k:Nat):List oq:=(List.range (2^log)).map λp=>if p<k then(cC U log p,cd U log p,eh U log p)else(0,0,0)
theorem Ke(U:ae)(log k:Nat):(nk U log k).length=2^log:=by simp[nk]
theorem agu(U:ae)(log:Nat):nk U log 0=List.replicate (2^log) (0,0,0):=by
 unfold nk;simp only[not_lt_zero,if_false];rw[map_const',length_range]
theorem agt(U:ae)(log k:Nat):nk U log (k+1)=(nk U log k).set k (cC U log k,cd U log k,eh U log k):=by
 apply ext_getElem
 .simp[Ke]
 .intro p h1 af;rw[getElem_set];simp only[nk,getElem_map,getElem_range];by_cases e:k=p
  .subst e;rw[aB rfl,aB (by omega)]
  .rw[az e];by_cases h:p<k
   .rw[aB h,aB (by omega)]
   .rw[az h,az (by omega)]
theorem ags(U:ae)(log:Nat):nk U log (2^log)=nj U log:=by
 unfold nk nj;apply map_congr_left
 intro p ax;rw[aB (List.mem_range.1 ax)]
theorem RE(U:ae)(log k:Nat)(h:k<(nk U log k).length):(nk U log k)[k]=(0,0,0):=by
 simp only[nk,getElem_map,getElem_range];rw[az (by omega)]
end am
theorem agl(l:List oq)(i s B Z:Nat)(h:i<l.length)(hl:l[i]=(0,0,0)):(((c3 l).set (i*3) (.int .u8 s)).set (i*3+1) (.int .i64 B)).set (i*3+2) (.int .i64 Z)=c3 (l.set i (s,B,Z)):=by
 have h1:=(Fu l i h s 0 0).1;rw[hl]at h1;rw[h1];have ew:i<(l.set i (s,0,0)).length:=by simpa using h
 have af:=Rs (l.set i (s,0,0)) i s B Z ew (by rw[getElem_set_self]);rw[set_set]at af;exact af
theorem alh:(prog.info? 112).map (λi=>(i.zero,i.size,i.bytes))=some (some (.slice none 0 0),1,24):=by kernel_rfl
theorem amV(n:Nat)(h:n<=1000000)(W:ah):(Instr.makeSlice 210 (.int .i64 n) (.int .i64 n)).run prog W=.ok (.slice (some ⟨W.heap.size,0,none⟩) n n) (W.alloc (.cells (c3 (List.replicate n (0,0,0))).toArray 248)):=by
 obtain⟨i0,ay,bC,bL,bz⟩:=info_parts WA;have h1:=run_make (P:=prog) W 210 248 i0 _ underlying210 ay bC .i64 .i64 (n:Int) (n:Int) (by omega) (by omega) (by rw[bz];omega) (by omega);rw[cX,bL,show(Value.agg #[.int .u8 0,.int .i64 0,.int .i64 0]).cells=#[.int .u8 0,.int .i64 0,.int .i64 0]from rfl]at h1;rw[h1,<-Xe,Array.toArray_toList]
theorem amX(n:Nat)(h:n<=1000000)(W:ah):(Instr.makeSlice 249 (.int .i64 n) (.int .i64 n)).run prog W=.ok (.slice (some ⟨W.heap.size,0,none⟩) n n) (W.alloc (.cells (List.replicate n (.slice none 0 0)).toArray 112)):=by
 obtain⟨i0,ay,bC,bL,bz⟩:=info_parts alh;have h1:=run_make (P:=prog) W 249 112 i0 _ underlying249 ay bC .i64 .i64 (n:Int) (n:Int) (by omega) (by omega) (by rw[bz];omega) (by omega);rw[cX,bL,show(Value.slice none 0 0).cells=#[.slice none 0 0]from rfl,Nat.mul_one]at h1;rw[h1,<-toList_madeCells_one,Array.toArray_toList]
theorem asg(A:a7)(c:Nat)(l:List Int)(log:Int)(w:ah)(hl:l.length<=1000000)(cV:∀x∈l,ec x)(mw:ec log)(aj:Reads w A (gB l))(aL:¬am.Fair l log) :
  Calls prog 165 #[.slice A l.length c,.int .i64 log] w λe w'=>e=.returned (.tuple #[.pointer none,.bool false])/\av w w':=by
 have h1:=NF A c l log w hl cV mw aj;rw[show p9 l log=false from bG aL]at h1;have H1:=I h1;clear h1 cV mw aj aL;go_enter func165,ntmps165
 go_wp2_with fail
 refine H1.out.mono ?_;rintro e aw ⟨rfl,ak⟩;go_wp2;go_ret2;exact⟨rfl,ak⟩
theorem ZX(aw:ah)(t1 t2 t3:TypeId)(cb cR ql:b1) :
  Row (((aw.alloc (.cells cb.toArray t1)).alloc (.cells cR.toArray t2)).alloc (.cells ql.toArray t3)).drew aw.heap.size t1 cb /\
  Row (((aw.alloc (.cells cb.toArray t1)).alloc (.cells cR.toArray t2)).alloc (.cells ql.toArray t3)).drew (aw.heap.size+1) t2 cR /\
  Row (((aw.alloc (.cells cb.toArray t1)).alloc (.cells cR.toArray t2)).alloc (.cells ql.toArray t3)).drew (aw.heap.size+1+1) t3 ql /\
  ∀w:ah,av w aw->Below w.heap.size w (((aw.alloc (.cells cb.toArray t1)).alloc (.cells cR.toArray t2)).alloc (.cells ql.toArray t3)).drew:=by
 have gE:=Row.new aw t1 cb;have c9:=Row.new (aw.alloc (.cells cb.toArray t1)) t2 cR;have hr:=Row.new ((aw.alloc (.cells cb.toArray t1)).alloc (.cells cR.toArray t2)) t3 ql;have aG:(aw.alloc (.cells cb.toArray t1)).heap.size=aw.heap.size+1:=by simp
 have e2:((aw.alloc (.cells cb.toArray t1)).alloc (.cells cR.toArray t2)).heap.size=aw.heap.size+1+1:=by simp
 rw[aG]at c9;rw[e2]at hr;refine⟨(gE.alloc _).alloc _,c9.alloc _,hr,λw h=>?_⟩;have ap:=h.size;exact(((h.alloc ap _).alloc (by rw[aG];omega) _).alloc (by rw[e2];omega) _).drew
structure nJ(w W:ah)(U:ae)(log wW alO b gc gs gt:Nat)(vs:b1):Prop where
 eP:Row W b 251 [.int .i64 log,.slice (some ⟨gc,0,none⟩) (2^log) (2^log),.slice (some ⟨gs,0,none⟩) U.length U.length]
 syms:Row W gt 5 (aO (am.eP U log))
 cells:Row W gc 248 (c3 (nk U log wW))
 rows:Row W gs 112 vs
 len:vs.length=U.length
 lO:nK W w.heap.size vs (jp U log alO)
 low:w.heap.size<=b/\w.heap.size<=gc/\w.heap.size<=gs
 dn:av w W
theorem agr{W:ah}{b c i x y z:Nat}{v0 v1 v2 u:Value}(h:b≠c)(hc:W.cell? ⟨b,i,none⟩=some u) :
  (((W.setCell ⟨c,x,none⟩ v0).setCell ⟨c,y,none⟩ v1).setCell ⟨c,z,none⟩ v2).cell? ⟨b,i,none⟩=some u:=by
 have ao:∀j,(⟨c,j,none⟩:Addr)≠⟨b,i,none⟩:=λj e=>h (by injection e with e;exact e.symm)
 rw[World.cell?_setCell_other _ _ _ _ (ao z),World.cell?_setCell_other _ _ _ _ (ao y),World.cell?_setCell_other _ _ _ _ (ao x),hc]
theorem y1{w:ah}{g eT:Nat}{t Es:TypeId}{ag RY:b1}(h:Row w g t ag)(j7:Row w eT Es RY)(aZ:t≠Es):g≠eT:=by
 rintro rfl;unfold Row at h j7;rw[h]at j7;injection j7 with j7
 injection j7 with _ e
 exact aZ e
section
variable {w W:ah} {U:ae} {log wW k b gc gs gt:Nat} {vs:b1}
theorem nJ.drewN(h:nJ w W U log wW k b gc gs gt vs)(n:Nat):nJ w (W.drewN n) U log wW k b gc gs gt vs:=⟨h.eP,h.syms,h.cells,h.rows,h.len,⟨h.lO.own,h.lO.apart⟩,h.low,below_drewN h.dn n⟩
theorem nJ.below{bb:ah}(h:nJ w W U log wW k b gc gs gt vs)(ak:av W bb):nJ w bb U log wW k b gc gs gt vs:=
 ⟨iA h.eP ak,iA h.syms ak,iA h.cells ak,iA h.rows ak,h.len,h.lO.below ak,h.low,h.dn.trans (ak.mono h.dn.size)⟩
theorem nJ.push(h:nJ w W U log wW k b gc gs gt vs){cM:Nat}{v:Value}{r gy cap:Nat}{fb:ah}(iv:cM=cC U log k)(aD:vs[cM]?=some v)(aj:r=(jp U log k (cC U log k)).length)
  (hown:fb.ownsRow w.heap.size 3 1 (.slice (some ⟨gy,0,none⟩) (r+1) cap) (r+1) (aM (jp U log k cM)++[.int .i64 k]))(aF:W.grownBy fb v.ownBlock)(et:v.ownBlock=some gy\/gy=W.heap.size) :
  nJ w (fb.setCell ⟨gs,cM,none⟩ (.slice (some ⟨gy,0,none⟩) (r+1) cap)) U log wW (k+1) b gc gs gt (vs.set cM (.slice (some ⟨gy,0,none⟩) (r+1) cap)):=by
 subst iv;have hk:∀{g:Nat} {t:TypeId} {ag:b1},Row W g t ag->t≠3->Row fb g t ag:=λ{g t ag} hrow aZ=>
  hrow.keep (aF.block g hrow.lt (λe=>h.lO.sx hrow aZ _ v aD e.symm))
 have gE:=hk h.eP (by decide);have c9:=hk h.syms (by decide);have hr:=hk h.cells (by decide);have iz:=hk h.rows (by decide);have e:=HG U log k;have aL:nK fb w.heap.size (vs.set (cC U log k) (.slice (some ⟨gy,0,none⟩) (r+1) cap)) (jp U log (k+1)):=
  h.lO.push aD aF et (by rw[e];simpa [aM]using hown) (by rw[e,aY,<-aj];rfl) (λt aE=>OM U log k t (Ne.symm aE))
 have hlow:=h.low;exact⟨gE.cG (y1 gE iz (by decide)) _,c9.cG (y1 c9 iz (by decide)) _,hr.cG (y1 hr iz (by decide)) _,iz.bq _ _,by rw[length_set];exact h.len,
  aL.cG (aL.sx iz (by decide)) _,h.low,(h.dn.grown aF h.dn.size (λq hq=>((h.lO.own _ v aD).lt q hq).1)).setCell (by exact hlow.2.2) _⟩
theorem nJ.cell(h:nJ w W U log k (k+1) b gc gs gt vs)(hk:k<2^log) :
  nJ w (((W.setCell ⟨gc,k*3,none⟩ (.int .u8 (cC U log k))).setCell ⟨gc,k*3+1,none⟩ (.int .i64 (cd U log k))).setCell ⟨gc,k*3+2,none⟩ (.int .i64 (eh U log k))) U log (k+1) (k+1) b gc gs gt vs:=by
 have hl:k<(nk U log k).length:=by rw[Ke];exact hk
 have e:=agl (nk U log k) k (cC U log k) (cd U log k) (eh U log k) hl (RE U log k hl);rw[<-agt]at e;have hlow:=h.low;have b2:=y1 h.eP h.cells (by decide);have bU:=y1 h.syms h.cells (by decide);have wY:=y1 h.rows h.cells (by decide);have hr:=((h.cells.bq (k*3) (.int .u8 (cC U log k))).bq (k*3+1) (.int .i64 (cd U log k))).bq (k*3+2) (.int .i64 (eh U log k));rw[e]at hr;have aA:=h.lO.sx h.cells (by decide);exact⟨((h.eP.cG b2 _).cG b2 _).cG b2 _,((h.syms.cG bU _).cG bU _).cG bU _,hr,((h.rows.cG wY _).cG wY _).cG wY _,h.len,((h.lO.cG aA _).cG aA _).cG aA _,h.low,((h.dn.setCell (by exact hlow.2.1) _).setCell (by exact hlow.2.1) _).setCell (by exact hlow.2.1) _⟩
end
theorem asf(A:a7)(c:Nat)(U:ae)(log:Nat)(w:ah)(aL:dW U log)(aj:Reads w A (aM U))
  (hfair:Calls prog 195 #[.slice A U.length c,.int .i64 log] w λe w'=>e=.returned (.bool true)/\av w w') :
  Calls prog 165 #[.slice A U.length c,.int .i64 log] w λe w'=>∃p,e=.returned (.tuple #[.pointer (some p),.bool true])/\jc w' p U log/\av w w':=by
 have br:=I aL;have bj:=I aj;have IW:=I hfair;have cJ:=sA log aL.low aL.high;have awd:=aL.low;have r7:=aL.high;have hlen:=aL.len;have oU:∀W,av w W->Calls prog 197 #[.slice A U.length c,.int .i64 ((2^log:Nat):Int)] W λe w'=>∃g,e=.returned (.slice (some ⟨g,0,none⟩) (2^log) (2^log))/\W.heap.size<=g/\Row w' g 5 (aO (am.eP U log))/\av W w':=λW ak=>asu A c U log W aL (c7 aj ak)
 have Ce:=I oU;have pA:(2:Int)^log=((2^log:Nat):Int):=by simp
 clear aL aj hfair oU;obtain⟨S,cD⟩:∃S,S=2^log:=⟨_,rfl⟩;rw[<-cD]at cJ pA Ce;have cS:=I cD;clear cD;have hw:wrap64 (S:Int)=S:=ri _ (by omega) (by omega);go_enter func165,ntmps165
 go_wp2_with fail
 refine IW.out.mono ?_;rintro e aw ⟨rfl,aH⟩;have aN:=I aH;clear aH;go_upto_region 4 with fail
 clear pA hw;go_cut [7] (λaqw eQ=>∃b gc gs,aqw=.pointer (some ⟨b,0,none⟩)/\w.heap.size<=b/\w.heap.size<=gc/\w.heap.size<=gs/\Row eQ b 251 [.int .i64 log,.slice (some ⟨gc,0,none⟩) S S,.slice (some ⟨gs,0,none⟩) U.length U.length] /\
  Row eQ gc 248 (c3 (List.replicate S (0,0,0)))/\Row eQ gs 112 (List.replicate U.length (.slice none 0 0))/\av w eQ)
 case first=>
  have lS:=λW=>amV S (by omega) W
  have gZ:=λW=>amX U.length (by omega) W
  have bL:=aN.out.size;go_region
  all_goals
   go_wp2_with fail
   go_meet
   simp only[<-toArray_replicate]
  .obtain⟨gE,c9,hr,iz⟩:=ZX aw 248 112 251 (c3 (List.replicate S (0,0,0))) (List.replicate U.length (.slice none 0 0)) [.int .i64 log,.slice (some ⟨aw.heap.size,0,none⟩) S S,.slice (some ⟨aw.heap.size+1,0,none⟩) U.length U.length];exact⟨_,_,_,rfl,by omega,by omega,by omega,hr,gE,c9,iz w aN.out⟩
  .obtain⟨gE,c9,hr,iz⟩:=ZX aw 112 248 251 (List.replicate U.length (.slice none 0 0)) (c3 (List.replicate S (0,0,0))) [.int .i64 log,.slice (some ⟨aw.heap.size+1,0,none⟩) S S,.slice (some ⟨aw.heap.size,0,none⟩) U.length U.length];exact⟨_,_,_,rfl,by omega,by omega,by omega,hr,c9,gE,iz w aN.out⟩
 case rest=>
  obtain⟨b,gc,gs,rfl,u7,Dd,hX,cW,iu,cO,k4⟩:=hcut;have l7:=I cW;have B4:=I iu;have oE:=I cO;have zk:=I k4;have acT:=I (And.intro u7 (And.intro Dd hX));clear cW iu cO k4 u7 Dd hX;go_wp2_with fail
  refine(Ce.out _ zk).mono ?_;rintro e aC ⟨gt,rfl,_,lv,aJ⟩;have TL:nJ w aC U log 0 0 b gc gs gt (List.replicate U.length (.slice none 0 0)):={
   eP:=by rw[<-cS.out];exact iA l7.out aJ
   syms:=lv
   cells:=by rw[agu,<-cS.out];exact iA B4.out aJ
   rows:=iA oE.out aJ
   len:=iZ
   lO:=nK.NH _ _ _ (λs=>arr U log s)
   low:=acT.out
   dn:=zk.out.trans (aJ.mono zk.out.size)}
  have abz:=I TL;clear TL lv aJ;go_wp2;go_loopw [29] (λi wr=>∃k:Nat,k<=S/\i=.int .i64 k/\Hid (∃vs,nJ w wr U log k k b gc gs gt vs)) (λi _=>S-(intOf i).toNat)
  case atStart=>exact⟨0,by omega,rfl,I ⟨_,abz.out⟩⟩
  case round=>
   obtain⟨k,hk,rfl,bx⟩:=hrel;obtain⟨vs,bx⟩:=bx.out;by_cases Ur:k<S
   .have ft:k<2^log:=by rw[<-cS.out];exact Ur
    obtain⟨iv,Le⟩:=w6 U log k br.out ft;obtain⟨DZ,gp,_,lB,vp,D9,Ea⟩:=A1 U log k br.out ft;rw[bI iv]at gp;injection gp with gp
    subst gp;rw[<-cS.out]at lB;have jD:hC U log k=U[cC U log k]+(jp U log k (cC U log k)).length:=by
     unfold hC sB;rw[bI iv,b7,HF U log k _ (by omega)]
    have DC:cC U log k<vs.length:=by rw[bx.len];exact iv
    obtain⟨v,aD⟩:∃v,vs[cC U log k]?=some v:=⟨_,bI DC⟩;obtain⟨da,cap',aG,_,_⟩:=kJ (bx.lO.own _ v aD);subst aG;obtain⟨auO,axh,rfl,x7⟩:∃g off,A=some ⟨g,off,none⟩/\wr.cell? ⟨g,off+cC U log k,none⟩=some (.int .i64 (U[cC U log k]:Int)):=by
     obtain⟨g,off,e,hc⟩:=(c7 bj.out bx.dn) (by intro e;have:=congrArg List.length e;rw[gm,length_nil]at this;omega);have h1:=hc (cC U log k) (by rw[gm];exact iv);rw[iN U _ iv]at h1;exact⟨g,off,e,h1⟩
    have oJ:=bx.eP.cell 2;simp only[dJ,dH]at oJ;have Kf:=(bx.rows.cell (cC U log k)).trans aD;have Kr:=bx.syms.cell k;have e1:k<(am.eP U log).length:=by rw[qt];exact ft
    rw[jq _ _ e1,ZJ U log k ft e1]at Kr;have eb:=I bx;have gR:=I aD;have fv:=I jD;obtain⟨r,aj⟩:∃r,r=(jp U log k (cC U log k)).length:=⟨_,rfl⟩;rw[<-aj]at gR Kf fv;have awB:r<=512:=by
     rw[aj,HF U log k _ (by omega)];have h1:=Kp (am.eP U log) k (cC U log k);have af:=count_le_length (a:=cC U log k) (l:=am.eP U log);rw[qt,<-cS.out]at af;omega
    have QA:=I aj;have adv:=I Ea;obtain⟨cM,AL⟩:∃s,s=cC U log k:=⟨_,rfl⟩;clear bx aD jD aj vp D9 Ea e1 ft DC;rw[<-AL]at Kf Kr;have ME:cM<U.length:=by rw[AL];exact iv
    have Lf:U[cC U log k]=U[cM]:=by congr 1;exact AL.symm
    rw[Lf,<-AL]at x7;rw[Lf]at fv lB Le;have E7:=I AL;clear AL Lf;generalize U[cM]=N at x7 fv lB Le;have aiK:IntKind.i64.wrap ((N:Int)+r)=(N:Int)+r:=IntWalk.i64_in _ (by omega);go_wp2_with fail
    go_quiet (fail)
    have mF:=I (eb.out.drewN nq);clear aiK x7 Kr Kf oJ;generalize (wr.drewN nq)=kz at mF ⊢;have zF:Hid (vs[cM]?=some (Value.slice da r cap')):=I (by rw[E7.out];exact gR);obtain⟨tI,hown0⟩:∃q,q=(Value.slice da r cap').ownBlock:=⟨_,rfl⟩;have vQ:=I hown0;clear hown0;have fh:∀W,kz.grownBy W tI->W.cell? ⟨b,2,none⟩=some (.slice (some ⟨gs,0,none⟩) U.length U.length):=λW bk=>by
     have h1:=mF.out.eP.cell 2;simp only[dJ,dH]at h1;rw[bk.cell_far _ (by exact mF.out.eP.lt) (λe=>mF.out.lO.sx mF.out.eP (by decide) cM _ zF.out (by rw[<-vQ.out];exact e.symm)),h1]
    have hcs:∀W,kz.grownBy W tI->W.cell? ⟨gs,cM,none⟩=some (.slice da r cap'):=λW bk=>by
     rw[bk.cell_far _ (by exact mF.out.rows.lt) (λe=>mF.out.lO.sx mF.out.rows (by decide) cM _ zF.out (by rw[<-vQ.out];exact e.symm)),mF.out.rows.cell cM,zF.out]
    have yd:∀W,kz.grownBy W tI->W.frozen? ⟨gs,cM,none⟩=false:=λW bk=>by
     rw[bk.frozen_far _ (by exact mF.out.rows.lt) (λe=>mF.out.lO.sx mF.out.rows (by decide) cM _ zF.out (by rw[<-vQ.out];exact e.symm)),mF.out.rows.free cM]
    have ada:Hid (kz.ownsRow w.heap.size 3 1 (.slice da r cap') r (aM (jp U log k cM))):=I (by
     have h1:=mF.out.lO.own cM _ zF.out;rw[show(jp U log k cM).length=r by rw[E7.out];exact QA.out.symm]at h1;exact h1)
    obtain⟨i0,ay,bC,bL,bz⟩:=info_parts oa;go_wp2_with fail
    have qh:=mF.out.dn.size;go_cut [] (λeQ=>∃gy cap,nJ w eQ U log k (k+1) b gc gs gt (vs.set cM (.slice (some ⟨gy,0,none⟩) (r+1) cap)))
    case first=>
     have h5:=fh kz (dg kz tI);have ag:=hcs kz (dg kz tI);have fs:=yd kz (dg kz tI);have aun:=fh (kz.alloc (.cells #[.int .i64 k] 3)) (im (dg kz tI) _);have auq:=hcs (kz.alloc (.cells #[.int .i64 k] 3)) (im (dg kz tI) _);have IF:=I fh;have xp:=I hcs;have IY:=I yd;have Ji:Hid ((kz.alloc (.cells #[.int .i64 k] 3)).drew.ownsRow w.heap.size 3 1 (.slice da r cap') r (aM (jp U log k cM))):=I (ada.out.alloc _);have j3:Hid (∀(j:Nat) (u:Value),[Value.int .i64 k][j]?=some u->(kz.alloc (.cells #[.int .i64 k] 3)).drew.cell? ((⟨kz.heap.size,0,none⟩:Addr).add j)=some u):=I (λj u hu=>by
      match j,hu with
     |0,hu=>simp at hu;subst hu;simp[Addr.add])
     clear fh hcs yd;go_region_law ((refine step_append_lies ((kz.alloc (.cells #[.int .i64 k] 3)).drew) (by rfl) _ _ _ (by rfl) w.heap.size 3 i0 (.int .i64 0) 1 8 underlying112 ay bC bL bz rfl (by omega) (.slice da r cap') r (aM (jp U log k cM)) (by rfl) Ji.out ⟨kz.heap.size,0,none⟩ 1 1 [.int .i64 k] (by rfl) (by rfl) j3.out (by intro u hu;simp at hu;subst hu;rfl) (by omega) (by unfold maxLen;omega) (by omega) (by simp;omega) (kz.heap.size+1) (by simp) ?_;intro gy ik fb lU jQ qJ _;have BX:=I lU;have acw:=I jQ;have abl:=I qJ;have xk:Hid (kz.grownBy fb tI):=I ((ns (im (dg kz tI) _)).trans (by rw[vQ.out];exact jQ));have auo:=IF.out fb xk.out;have ag2:=xp.out fb xk.out;have ah7:=IY.out fb xk.out;clear lU jQ qJ))
     all_goals
      go_wp2_with fail
      go_meet
      exact⟨gy,ik,(mF.out.below (((Below.refl kz.heap.size kz).alloc bl (.cells #[.int .i64 k] 3)).drew)).push E7.out zF.out QA.out BX.out acw.out (abl.out.imp id (λh=>h.trans (by simp)))⟩
    case rest=>
     obtain⟨gy,ik,j8⟩:=hcut;have ft:k<2^log:=by rw[<-cS.out];exact Ur
     have qM:∀W,av wc W->W.cell? ⟨b,1,none⟩=some (.slice (some ⟨gc,0,none⟩) S S):=λW bk=>by
      have h1:=(iA j8.eP bk).cell 1;simp only[dJ,dH]at h1;rw[h1,cS.out]
     have a8:k<(nk U log k).length:=by rw[Ke];exact ft
     obtain⟨g0,g1,g2⟩:=xT (nk U log k) k a8;rw[RE]at g0 g1 g2;have jP:∀W,av wc W->W.cell? ⟨gc,k*3,none⟩=some (.int .u8 0):=λW bk=>((iA j8.cells bk).cell (k*3)).trans g0
     have n2:∀W,av wc W->W.cell? ⟨gc,k*3+1,none⟩=some (.int .i64 0):=λW bk=>((iA j8.cells bk).cell (k*3+1)).trans g1
     have r1:∀W,av wc W->W.cell? ⟨gc,k*3+2,none⟩=some (.int .i64 0):=λW bk=>((iA j8.cells bk).cell (k*3+2)).trans g2
     have qQ:∀W,av wc W->W.frozen? ⟨gc,k*3,none⟩=false:=λW bk=>(iA j8.cells bk).free (k*3)
     have wB:∀W,av wc W->W.frozen? ⟨gc,k*3+1,none⟩=false:=λW bk=>(iA j8.cells bk).free (k*3+1)
     have uV:∀W,av wc W->W.frozen? ⟨gc,k*3+2,none⟩=false:=λW bk=>(iA j8.cells bk).free (k*3+2)
     have aaB:=I j8;have TJ:b≠gc:=y1 j8.eP j8.cells (by decide);clear j8;have uR:∀W,Calls prog 198 #[.int .u8 cM,.int .i64 ((N:Int)+r),.int .i64 log] W λe w'=>e=.returned (.agg #[.int .u8 cM,.int .i64 (cd U log k),.int .i64 (eh U log k)])/\av W w':=λW=>by
      have h1:=asi cM (hC U log k) log W (by rw[fv.out];omega) adv.out r7;unfold cd eh;rw[fv.out]at h1 ⊢;rw[Int.natCast_add]at h1;exact h1
     have zl:=I uR;have Vm:∀bb,av wc bb->Hid (∃vs,nJ w (((bb.setCell ⟨gc,k*3,none⟩ (.int .u8 cM)).setCell ⟨gc,k*3+1,none⟩ (.int .i64 (cd U log k))).setCell ⟨gc,k*3+2,none⟩ (.int .i64 (eh U log k))) U log (k+1) (k+1) b gc gs gt vs):=λbb bk=>I ⟨_,by rw[E7.out];exact(aaB.out.below bk).cell ft⟩
     have adD:=I Vm;clear Vm g0 g1 g2 a8 uR fh hcs yd ay bC bL bz;generalize cd U log k=iH at *;generalize eh U log k=H0 at *;go_wp2_with fail
     refine wp_region_held_drew (S:=(λW=>W.cell? ⟨b,1,none⟩=some (.slice (some ⟨gc,0,none⟩) S S))) (by kernel_rfl) (by exact qM _ dM.drew) (λhHeld=>?_);refine bJ 0 {dst:=some 63,op:=.move (.tmp 7),type:=216,pos:= "spread.go:27",after:=#[],guard:=none} ?_ rfl (Or.inl ⟨by rfl,?_⟩) ?_;rotate_left
     ·(intro w hSw;(try dsimp only at hSw);go_simp;(try with_reducible rfl))
     try simp only[bf]
     refine bJ 1 {dst:=some 64,op:=.nilCheck (.tmp 63),type:=0,pos:= "spread.go:27",after:=#[{on:=0,ground:=.data}],guard:=none} ?_ rfl (Or.inl ⟨by rfl,?_⟩) ?_;rotate_left
     ·(intro w hSw;(try dsimp only at hSw);go_simp;(try with_reducible rfl))
     try simp only[bf]
     refine bJ 2 {dst:=some 65,op:=.fieldAddr 251 (.tmp 64) 1,type:=0,pos:= "spread.go:27",after:=#[{on:=1,ground:=.data}],guard:=none} ?_ rfl (Or.inl ⟨by rfl,?_⟩) ?_;rotate_left
     ·(intro w hSw;(try dsimp only at hSw);go_simp;(try with_reducible rfl))
     try simp only[bf]
     refine bJ 3 {dst:=some 66,op:=.load 210 (.tmp 65),type:=210,pos:= "spread.go:27",after:=#[{on:=2,ground:=.data}],guard:=none} ?_ rfl (Or.inl ⟨by rfl,?_⟩) ?_;rotate_left
     ·(intro w hSw;(try dsimp only at hSw);go_simp;(try with_reducible rfl))
     try simp only[bf]
     refine bJ 4 {dst:=some 67,op:=.move (.tmp 8),type:=3,pos:= "spread.go:27",after:=#[],guard:=none} ?_ rfl (Or.inl ⟨by rfl,?_⟩) ?_;rotate_left
     ·(intro w hSw;(try dsimp only at hSw);go_simp;(try with_reducible rfl))
     try simp only[bf]
     refine bJ 5 {dst:=some 68,op:=.move (.tmp 9),type:=5,pos:= "spread.go:27",after:=#[],guard:=none} ?_ rfl (Or.inl ⟨by rfl,?_⟩) ?_;rotate_left
     ·(intro w hSw;(try dsimp only at hSw);go_simp;(try with_reducible rfl))
     try simp only[bf]
     refine bJ 6 {dst:=some 69,op:=.move (.tmp 10),type:=3,pos:= "spread.go:27",after:=#[],guard:=none} ?_ rfl (Or.inl ⟨by rfl,?_⟩) ?_;rotate_left
     ·(intro w hSw;(try dsimp only at hSw);go_simp;(try with_reducible rfl))
     try simp only[bf]
     refine bJ 7 {dst:=some 70,op:=.move (.tmp 1),type:=3,pos:= "spread.go:27",after:=#[],guard:=none} ?_ rfl (Or.inl ⟨by rfl,?_⟩) ?_;rotate_left
     ·(intro w hSw;(try dsimp only at hSw);go_simp;(try with_reducible rfl))
     try simp only[bf]
     refine hd 8 {dst:=some 71,op:=.call {callee:=.value (.func 198),args:=#[.tmp 68,.tmp 69,.tmp 70],argTypes:=#[5,3,3]},type:=248,pos:= "spread.go:27",after:=#[{on:=5,ground:=.data},{on:=6,ground:=.data},{on:=7,ground:=.data}],guard:=none} rfl (λK hK=>?_);go_simp
     (go_at_call 198;refine(zl.out _).mono ?_;rintro e qw ⟨rfl,TD⟩;have ui:=I ((Below.refl wc.heap.size wc).drew.trans TD);clear TD;have bD:=jP qw ui.out;have bh:=n2 qw ui.out;have bN:=r1 qw ui.out;have m0:=qQ qw ui.out;have m1:=wB qw ui.out;have m2:=uV qw ui)
     go_simp;refine hK.out _ _ (by exact qM qw ui) (λhHeld=>?_);clear hK K
     try simp only[bf]
     refine bJ 9 {dst:=some 72,op:=.indexAddr 210 (.tmp 66) (.tmp 67),type:=0,pos:= "spread.go:27",after:=#[{on:=3,ground:=.data},{on:=4,ground:=.data},{on:=0,ground:=.phase},{on:=1,ground:=.phase},{on:=2,ground:=.phase},{on:=3,ground:=.phase},{on:=4,ground:=.phase},{on:=5,ground:=.phase},{on:=6,ground:=.phase},{on:=7,ground:=.phase},{on:=8,ground:=.phase}],guard:=none} ?_ rfl (Or.inl ⟨by rfl,?_⟩) ?_;rotate_left
     ·(intro w hSw;(try dsimp only at hSw);go_simp;(try with_reducible rfl))
     try simp only[bf]
     refine hd 10 {dst:=none,op:=.store 248 (.tmp 72) (.tmp 71),type:=0,pos:= "spread.go:27",after:=#[{on:=9,ground:=.data},{on:=8,ground:=.data},{on:=8,ground:=.chain},{on:=0,ground:=.phase},{on:=1,ground:=.phase},{on:=2,ground:=.phase},{on:=3,ground:=.phase},{on:=4,ground:=.phase},{on:=5,ground:=.phase},{on:=6,ground:=.phase},{on:=7,ground:=.phase},{on:=8,ground:=.phase}],guard:=none} rfl (λK hK=>?_);go_simp;refine hK.out _ _ (by exact agr TJ (qM qw ui)) (λhHeld=>?_);clear hK K
     try simp only[bf]
     refine wpAnyH_done (by kernel_rfl) ?_ _;have fc:=adD.out qw ui.out;clear qM jP n2 r1 qQ wB uV bD bh bN m0 m1 m2 TJ;go_wp2;go_roundw
     case rel=>exact⟨k+1,by omega,by go_num,fc⟩
     case measure=>simp[intOf];omega
   .obtain rfl:k=S:=by omega
    have aS:jc wr ⟨b,0,none⟩ U log:=by
     refine⟨b,gc,gs,rfl,bx.eP,?_,vs,bx.rows,bx.len,λs ap=>?_⟩
     .have h1:=bx.cells;rw[cS.out,ags]at h1;exact h1
     .have DC:s<vs.length:=by rw[bx.len];exact ap
      have h1:=bx.lO.own s vs[s] (bI DC);obtain⟨da,db,aG,e2,_⟩:=kJ h1;rw[cS.out,Zf U log s br.out]at aG;rw[cS.out]at e2;exact⟨da,db,by rw[bI DC,aG],e2⟩
    have cN:=I aS;have ie:=I bx.dn;clear bx aS;go_wp2;go_ret2;exact⟨_,rfl,cN,ie⟩
theorem ar1(A:a7)(c:Nat)(l:List Int)(log:Int)(w:ah)(hl:l.length<=1000000)(cV:∀x∈l,ec x)(mw:ec log)(aj:Reads w A (gB l))(aL:am.Fair l log) :
  Calls prog 165 #[.slice A l.length c,.int .i64 log] w λe w'=>∃p,e=.returned (.tuple #[.pointer (some p),.bool true])/\jc w' p (l.map Int.toNat) log.toNat/\av w w':=by
 have h1:=NF A c l log w hl cV mw aj;rw[show p9 l log=true from bE aL]at h1;have hX:aM (l.map Int.toNat)=gB l:=by rw[<-jF,Sq l log aL]
 have r7:(log.toNat:Int)=log:=by have:=aL.1;omega
 have af:=asf A c (l.map Int.toNat) log.toNat w (KK l log aL) (by rw[hX];exact aj) (by rw[r7,cQ];exact h1);rw[r7,cQ]at af;exact af
theorem ZK:aeM jc where
 keep:=λw W p U log h ak=>pL w W p U log h ak
 build:=ar1
 ang:=asg
 cell:=λw p U log st aL h _=>HQ w p U log st aL h
 agq:=λw st _=>ash w st
 size:=λw p U log _ h=>(sH w p U log h).mono λe w' ⟨he,hw⟩=>⟨he,0,by subst hw;rfl⟩
 aq6:=λw=>(ZZ w).mono λe w' ⟨he,hw⟩=>⟨he,0,by subst hw;rfl⟩
 amx:=λw p U log _ h=>(Ex w p U log h).mono λe w' ⟨he,hw⟩=>⟨he,0,by subst hw;rfl⟩
 amw:=λw=>(aso w).mono λe w' ⟨he,hw⟩=>⟨he,0,by subst hw;rfl⟩
 next:=λw p U log st more aL h _ _=>O4 w p U log st more aL h
 back:=λw p U log st s aL h _ ap=>ZR w p U log st s aL h ap
theorem Pb(t:ae)(p:ae×Nat)(h:ht t=some p):sG 4096 (some t)=(p.1,some (t.drop p.2))/\p.1.length<=4096:=by
 unfold ht at h;split at h
 .next hc=>
  injection h with h
  subst h;dsimp only;unfold sG;rw[wV 4096 t hc.1 (by omega)];simp only[eH];rw[aB (by rw[cB];exact hc.2.2),drop_drop];exact⟨rfl,by rw[cr];omega⟩
 .cases h
theorem Pa(t:ae)(h:ht t=none):sG 4096 (some t)=([],none):=by
 unfold ht at h;split at h
 .cases h
 .next hc=>
  unfold sG;by_cases ao:0<(aX t).2/\((aX t).1:Int)<=4096
  .rw[wV 4096 t ao.1 ao.2];simp only[eH];rw[az (by rw[cB];omega)]
  .rw[AU 4096 t ao];rfl
theorem O9(t:ae)(p:ae×Nat)(h:ht t=some p)(au:∀x∈t,x<256):∀x∈p.1,x<256:=by
 unfold ht at h;split at h
 .injection h with h
  subst h;exact pN (jh au _) _
 .cases h
theorem aoK(c b pos:Nat)(bs:ae)(w:ah)(hc:c<28)(ap:bs.length<=100000)(cs:∀x∈bs,x<256)(hle:pos+fV c<=8*bs.length)(h:er w b 0 bs pos) :
  Calls prog 149 #[.int .u8 c,.pointer (some ⟨b,0,none⟩)] w λe w'=>e=.returned (.tuple #[.int .i64 (nE c (bd bs/2^pos):Int),.bool true])/\er w' b 0 bs (pos+fV c)/\w.grownBy w' (some b):=by
 have mY:fV c<=15:=by unfold fV;split<;>omega
 have fx:hT c=(fV c:Int):=by unfold hT fV;split;rfl;rw[az (by omega)]
 have rx:=I (AV w c (by omega));have hmax:max (hT c) 0=(fV c:Int):=by rw[fx];omega
 have hdec:decide (0<=hT c)=true:=bE (by rw[fx];omega);rw[hmax,hdec]at rx;have fK:=I (tO b 0 bs pos (fV c) w (by omega) cs (by omega) hle h);have hm:=mod_lt (bd bs/2^pos) (eK (fV c));have cJ:2^fV c<=2^15:=dy (by omega) mY;have SL:(2:Nat)^15=32768:=by decide
 have hval:nI c (bd bs/2^pos%2^fV c)=some (nE c (bd bs/2^pos)):=by
  unfold nI nE;unfold fV at hm ⊢;by_cases eI:c<16
  .simp only[aB eI];rw[Nat.pow_zero,mod_one,aB rfl]
  .simp only[az eI]at hm ⊢;rw[az (by omega),aB hm]
 have gR:=I (λW=>WR W c (bd bs/2^pos%2^fV c) (by omega) (by omega));rw[hval]at gR;dsimp only at gR;clear hval fx hmax hdec h cs hm;generalize bd bs/2^pos%2^fV c=m at *;generalize nE c (bd bs/2^pos)=v at *;obtain⟨q,hq⟩:∃q,q=pos+fV c:=⟨_,rfl⟩;rw[<-hq]at fK ⊢;clear hq;generalize fV c=x at *;go_enter func149,ntmps149
 go_wp2_with fail
 refine rx.out.mono ?_;rintro e w' ⟨rfl,rfl⟩;go_wp2_with fail
 refine fK.out.mono ?_;rintro e aC ⟨rfl,bS,bp⟩;have fg:=I bS;have du:=I bp;clear bS bp;go_wp2_with fail
 refine(gR.out aC).mono ?_;rintro e a6 ⟨rfl,bA⟩;have sZ:=I (fg.out.below bA);have jJ:=I (qd du.out (dj bA _));clear bA;go_wp2;go_ret2;exact⟨rfl,sZ,jJ⟩
theorem aoJ(c b pos:Nat)(bs:ae)(w:ah)(hc:c<28)(ap:bs.length<=100000)(ax:pos<=8*bs.length)(hle:8*bs.length-pos<fV c)(h:er w b 0 bs pos) :
  Calls prog 149 #[.int .u8 c,.pointer (some ⟨b,0,none⟩)] w λe w'=>(∃v:Int,e=.returned (.tuple #[.int .i64 v,.bool false]))/\w.grownBy w' (some b):=by
 have mY:fV c<=15:=by unfold fV;split<;>omega
 have fx:hT c=(fV c:Int):=by unfold hT fV;split;rfl;rw[az (by omega)]
 have rx:=I (AV w c (by omega));have hmax:max (hT c) 0=(fV c:Int):=by rw[fx];omega
 have hdec:decide (0<=hT c)=true:=bE (by rw[fx];omega);rw[hmax,hdec]at rx;have fK:=I (Eu b 0 bs pos (fV c) w (by omega) ax (by omega) hle h);have gR:Hid (∀W,Calls prog 186 #[.int .u8 c,.int .u32 0] W λe w'=>(∃(v:Int) (z:Bool),e=.returned (.tuple #[.int .i64 v,.bool z]))/\av W w'):=I (λW=>(WR W c 0 (by omega) (by omega)).mono λe w' ⟨he,ak⟩=>⟨by
  cases aD:nI c 0 with
 |none=>rw[aD]at he;exact⟨_,_,he⟩
 |some g=>rw[aD]at he;exact⟨_,_,he⟩,ak⟩)
 clear fx hmax hdec h hle;generalize fV c=x at *;go_enter func149,ntmps149
 go_wp2_with fail
 refine rx.out.mono ?_;rintro e w' ⟨rfl,rfl⟩;go_wp2_with fail
 refine fK.out.mono ?_;rintro e aC ⟨rfl,k,rfl⟩;go_wp2_with fail
 refine(gR.out _).mono ?_;rintro e a6 ⟨⟨v,z,rfl⟩,bA⟩;have jJ:=I (qd (qa (dg w (some b)) k) (dj bA _));clear bA;go_wp2;go_ret2;exact⟨⟨v,rfl⟩,jJ⟩
def aeN(w':ah)(e:Ending):Option (ae×Nat)->Prop
|none=>e=.returned (.tuple #[.pointer none,.bool false])
|some t=>∃p,e=.returned (.tuple #[.pointer (some p),.bool true])/\jc w' p t.1 t.2
namespace am
theorem ajv(aI:ae)(t:ae×Nat)(h:headD aI=some t):dW t.1 t.2:=by
 unfold headD at h;split at h
 .cases h
 .next u hu=>
  split at h
  .injection h with h
   subst h;exact(HO _ _ u.1 u.2.1 u.2.2 hu).1
  .cases h
end am
theorem ao4(aI:ae)(w:ah)(hl:aI.length<=4096)(au:∀x∈aI,x<256) :
  Calls prog 210 #[.string (strOf aI)] w λe w'=>aeN w' e (am.headD aI)/\av w w':=by
 obtain⟨aw,cap,dS,hcell,aH⟩:=nW w aI au;have cO:Reads aw (some ⟨w.heap.size,0,none⟩) (aO aI):=λ_=>⟨_,_,rfl,λj ar=>by
  rw[i7]at ar;rw[ez,hcell j ar,jq aI j ar]⟩
 have pf:=I (D0 (some ⟨w.heap.size,0,none⟩) cap aI aw au cO);have aN:=I aH;have htake:=λW b (h:er W b 0 aI 0)=>ajt W b 0 0 aI (by omega) au (by omega) h
 rw[Nat.pow_zero,Nat.div_one,Nat.sub_zero]at htake;have xq:=I (λW b pos (ax:pos<=8*aI.length) (h:er W b 0 aI pos)=>aah b pos aI W (by omega) au ax h);have hres:am.headD aI=(match am.takeA (bd aI) (8*aI.length)with|none=>none|some t=>if qq (bd aI) (8*aI.length) t.2.2=true then some (t.1,t.2.1)else none):=rfl;rw[hres];have hfair:=λl bT e' (h:am.takeA (bd aI) (8*aI.length)=some (l,bT,e'))=>HO _ _ l bT e' h
 clear hres hcell cO aH;cases iw:am.takeA (bd aI) (8*aI.length)with
|none=>
  rw[iw]at htake;unfold JU at htake;dsimp only at htake ⊢;have hE:=I htake;clear htake hfair iw au;generalize strOf aI=YQ at *;go_enter func210,ntmps210
  go_wp2_with fail
  refine pf.out.mono ?_;rintro e aC ⟨rfl,bS,aJ⟩;have gQ:=I (hE.out aC _ bS);have bm:=b3 aN aJ;have fS:=I aN.out.size;clear bS aJ dS;go_wp2_with fail
  refine gQ.out.mono ?_;rintro e a6 ⟨⟨A,c,rfl⟩,ct,_⟩;have b6:=I (bm.out.grown ct bm.out.size (λx e=>by injection e with e;have:=fS.out;omega));clear ct;go_wp2;go_ret2;exact⟨rfl,b6⟩
|some t=>
  obtain⟨U,bT,e'⟩:=t;obtain⟨aL,avP⟩:=hfair U bT e' iw;rw[iw]at htake;unfold JU at htake;dsimp only at htake ⊢;have hE:=I htake;have lr:=aL.len;have LL:=Sp U bT aL;have dh:=aL.high;have abG:Hid (∀A c W,Reads W A (aM U)->Calls prog 165 #[.slice A U.length c,.int .i64 bT] W λe w'=>∃p,e=.returned (.tuple #[.pointer (some p),.bool true])/\jc w' p U bT/\av W w'):=I (λA c W h1=>by
   have af:=ZK.build A c (U.map (λn:Nat=>(n:Int))) (bT:Int) W (by rw[cQ];omega) (λx ai=>by
    have:=LL.2.2.2.1 x ai;unfold ec;omega) (by unfold ec;omega) (by rw[jF];exact h1) LL
   rw[cQ,cX]at af;have Ax:(U.map (λn:Nat=>(n:Int))).map Int.toNat=U:=by
    rw[List.map_map];conv=>rhs;rw[<-List.map_id U]
    apply map_congr_left
    intro x _;rfl
   rw[Ax]at af;exact af)
  have mu:∀W b,er W b 0 aI (8*aI.length-e')->Calls prog 151 #[.pointer (some ⟨b,0,none⟩)] W λe w'=>e=.returned (.bool (qq (bd aI) (8*aI.length) e'))/\W.grownBy w' (some b):=λW b h=>by
   have h1:=xq.out W b (8*aI.length-e') (by omega) h;rw[show 8*aI.length-(8*aI.length-e')=e' by omega]at h1;exact h1
  have EQ:=I mu;clear htake hfair iw au LL aL mu;generalize qq (bd aI) (8*aI.length) e'=r at *;generalize strOf aI=YQ at *;go_enter func210,ntmps210
  go_wp2_with fail
  refine pf.out.mono ?_;rintro e aC ⟨rfl,bS,aJ⟩;have gQ:=I (hE.out aC _ bS);have bm:=b3 aN aJ;have bB:=aN.out.size;have hlt2:=bS.2.2.2;clear bS aJ dS;generalize aw.heap.size=b at *;go_wp2_with fail
  refine gQ.out.mono ?_;rintro e a6 ⟨⟨A,c,rfl,bt,hA⟩,ct,va⟩;have b6:=I (bm.out.grown ct bm.out.size (λx e=>by injection e with e;omega));have ep:=I bt;have pQ:=I hA;have acg:=I (EQ.out a6 b (va _ rfl));clear ct bt hA va;go_wp2_with fail
  refine acg.out.mono ?_;rintro e bH ⟨rfl,cx⟩;have dt:=I (b6.out.grown cx b6.out.size (λx e=>by injection e with e;omega));have By:=I (abG.out A c bH (Ed ep.out (λa e=>by have:=pQ.out a e;omega) cx));clear cx;cases r with
 |false=>
   go_wp2;go_ret2;exact⟨rfl,dt⟩
 |true=>
   go_wp2_with fail
   refine By.out.mono ?_;rintro e dp ⟨p,rfl,aS,cL⟩;have dX:=b3 dt cL;have cN:=I aS;clear aS cL;go_wp2;go_ret2;exact⟨⟨p,rfl,cN⟩,dX⟩
def xh(w':ah)(b:Nat)(bs:ae)(e:Ending):Option (ae×Nat)->Prop
|none=>∃A c,e=.returned (.tuple #[.slice A 0 c,.bool false])
|some t=>(∃A c,e=.returned (.tuple #[.slice A t.1.length c,.bool true])/\Reads w' A (aO t.1))/\bK w' b (some (bs.drop t.2))
theorem Yh(b n:Nat)(t:ae)(st:Left)(s1 s2:ByteArray)(w:ah)
  (h1:Calls prog 112 #[.pointer (some ⟨b,0,none⟩),.int .i64 4096] w λe w'=>e=.returned (.string s1)/\bK w' b st/\w.grownBy w' (some b))
  (af:∀W,bK W b st->Calls prog 112 #[.pointer (some ⟨b,0,none⟩),.int .i64 4096] W λe bb=>e=.returned (.string s2)/\bK bb b none/\W.grownBy bb (some b)) :
  Calls prog 182 #[.pointer (some ⟨b,0,none⟩),.int .i64 n] w λe w'=>xh w' b t e none/\w.grownBy w' (some b):=by
 have H1:=I h1;have dN:=I af;clear h1 af;go_enter func182,ntmps182
 go_wp2_with fail
 refine H1.out.mono ?_;rintro e aw ⟨rfl,bM,a1⟩;have hD:=I (dN.out aw bM);have dm:=I a1;clear bM a1;go_wp2_with fail
 refine hD.out.mono ?_;rintro e aC ⟨rfl,c8,bp⟩;have b5:=I (gu b none aC c8);have du:=I (ef dm.out bp);clear c8 bp;go_wp2_with fail
 refine b5.out.mono ?_;rintro e a6 ⟨rfl,rfl⟩;go_wp2;go_ret2;exact⟨⟨_,_,rfl⟩,du⟩
theorem aoN(b n:Nat)(t:ae)(w:ah)(aE:t.length<=100000000)(au:∀x∈t,x<256)(h:bK w b (some t)) :
  Calls prog 182 #[.pointer (some ⟨b,0,none⟩),.int .i64 n] w λe w'=>xh w' b t e (lh t n)/\w.grownBy w' (some b):=by
 have h1:=Eh b (some t) 4096 w (by omega) (by omega) ⟨au,aE⟩ h;unfold lh;cases ax:ht t with
|none=>
  rw[Pa t ax]at h1;exact Yh b n t none _ (strOf []) w h1 (λW hc=>Eh b none 4096 W (by omega) (by omega) trivial hc)
|some p=>
  obtain⟨aI,k⟩:=p;obtain⟨aG,pv⟩:=Pb t _ ax;have lS:=O9 t _ ax au;rw[aG]at h1;dsimp only at h1 pv lS ⊢;have ko:(t.drop k).length<=100000000:=by rw[cB];omega
  have qc:∀x∈t.drop k,x<256:=jh au k;have af:=λW (hc:bK W b (some (t.drop k)))=>Eh b (some (t.drop k)) 4096 W (by omega) (by omega) ⟨qc,ko⟩ hc
  cases hq:ht (t.drop k)with
 |none=>
   rw[Pa _ hq]at af;exact Yh b n t _ _ _ w h1 af
 |some q=>
   obtain⟨bQ,m⟩:=q;obtain⟨e2,ew⟩:=Pb _ _ hq;have gZ:=O9 _ _ hq qc;rw[e2]at af;dsimp only at af ew gZ ⊢;rw[drop_drop]at af;have H1:=I h1;have dN:=I af;have Cg:=I (λW=>ao4 aI W pv lS);have hfair:=ajv aI;obtain⟨r,aj⟩:∃r,r=am.headD aI:=⟨_,rfl⟩;rw[<-aj]at Cg hfair ⊢;have pT:=I (λW=>nW W bQ gZ);clear aj h1 af aG e2 ax hq ko qc lS;cases r with
  |none=>
    dsimp only;clear hfair;generalize strOf aI=s1 at *;generalize strOf bQ=s2 at *;go_enter func182,ntmps182
    go_wp2_with fail
    refine H1.out.mono ?_;rintro e aw ⟨rfl,bM,a1⟩;have hD:=I (dN.out aw bM);have dm:=I a1;clear bM a1;go_wp2_with fail
    refine hD.out.mono ?_;rintro e aC ⟨rfl,c8,bp⟩;have b5:=I (gu b _ aC c8);have du:=I (ef dm.out bp);clear c8 bp;go_wp2_with fail
    refine b5.out.mono ?_;rintro e a6 ⟨rfl,rfl⟩;have gQ:=I (Cg.out aC);go_wp2_with fail
    refine gQ.out.mono ?_;rintro e bH ⟨rfl,bc⟩;have hQ:=I (ef du.out (dj bc _));clear bc;go_wp2;go_ret2;exact⟨⟨_,_,rfl⟩,hQ⟩
  |some rf=>
    obtain⟨U,bT⟩:=rf;have aL:=hfair _ rfl;dsimp only at aL ⊢;have vK:Hid (∀W p A c,jc W p U bT->Reads W A (aO bQ)->Calls prog 211 #[.pointer (some p),.slice A bQ.length c,.int .i64 n] W λe w'=>xe w' e (iI U bT bQ (n:Int))/\av W w'):=I (λW p A c aS bt=>ahu W p U bT A c bQ (n:Int) aL aS (by omega) gZ bt);clear hfair aL;obtain⟨tL,eV⟩:∃tL,tL=iI U bT bQ (n:Int):=⟨_,rfl⟩;rw[<-eV]at vK ⊢;clear eV;generalize strOf aI=s1 at *;have ai:=pT.out;generalize strOf bQ=s2 at *;have pT:=I ai;clear ai;go_enter func182,ntmps182
    go_wp2_with fail
    refine H1.out.mono ?_;rintro e aw ⟨rfl,bM,a1⟩;have hD:=I (dN.out aw bM);have dm:=I a1;clear bM a1;go_wp2_with fail
    refine hD.out.mono ?_;rintro e aC ⟨rfl,c8,bp⟩;have b5:=I (gu b _ aC c8);have du:=I (ef dm.out bp);have ig:=I c8;clear c8 bp;go_wp2_with fail
    refine b5.out.mono ?_;rintro e a6 ⟨rfl,rfl⟩;have gQ:=I (Cg.out aC);go_wp2_with fail
    refine gQ.out.mono ?_;rintro e bH ⟨⟨p,rfl,aS⟩,bc⟩;have hQ:=I (ef du.out (dj bc _));have vI:=I (ig.out.below bc);obtain⟨dp,cap,dS,hcell,cL⟩:=pT.out bH;have cO:Reads dp (some ⟨bH.heap.size,0,none⟩) (aO bQ):=λ_=>⟨_,_,rfl,λj ar=>by
     rw[i7]at ar;rw[ez,hcell j ar,jq bQ j ar]⟩
    have ab4:=I (vK.out dp p _ cap (pL _ _ _ _ _ aS cL) cO);have ow:=I (ef hQ.out (dj cL _));have nc:=I (vI.out.below cL);clear aS bc hcell cO cL;go_wp2_with fail
    refine ab4.out.mono ?_;rintro e dB ⟨tl,gA⟩;have vL:=I (ef ow.out (dj gA _));have xo:=I (nc.out.below gA);clear gA dS;cases tL with
   |none=>
     obtain⟨A,c,rfl⟩:=tl;go_wp2;go_ret2;exact⟨⟨_,_,rfl⟩,vL⟩
   |some l=>
     obtain⟨A,c,rfl,bt⟩:=tl;have ep:=I bt;clear bt;go_wp2;go_ret2;exact⟨⟨⟨_,_,rfl,ep⟩,xo⟩,vL⟩
theorem aoS(b n:Nat)(bs:ae)(w:ah)(hl:bs.length<=100000000)(au:∀x∈bs,x<256)(h1:1<=n)(aA:n<=4096)(h:bK w b (some bs)) :
  Calls prog 146 #[.pointer (some ⟨b,0,none⟩),.int .i64 n] w λe w'=>xh w' b bs e (nG bs n)/\w.grownBy w' (some b):=by
 have dZ:=Ee b (some bs) 1 w (by omega) (by omega) ⟨au,hl⟩ h;cases bs with
|nil=>
  have aG:eH (fO 1) (some [])=([],none):=rfl;rw[aG]at dZ;have jI:=I dZ;clear dZ h au aG;show Calls prog 146 #[.pointer (some ⟨b,0,none⟩),.int .i64 n] w λe w'=>xh w' b [] e none/\w.grownBy w' (some b)
  generalize aD:(bd ([],(none:Left)).1)=v at *;go_enter func146,ntmps146
  go_wp2_with fail
  refine jI.out.mono ?_;rintro e aw ⟨rfl,bM,a1⟩;have b5:=I (gu b _ aw bM);have dm:=I a1;clear bM a1;go_wp2_with fail
  refine b5.out.mono ?_;rintro e a6 ⟨rfl,rfl⟩;go_wp2;go_ret2;exact⟨⟨_,_,rfl⟩,dm⟩
|cons k t=>
  rw[FW k t]at dZ;have hk:=au k dU;have e1:t.length<=100000000:=by rw[bY]at hl;omega
  have lX:∀x∈t,x<256:=λx ai=>au x (eo _ ai)
  have aD:bd ([k],some t).1=k:=by simp[bd]
  rw[aD]at dZ;have jI:=I dZ;have hdrop:∀m,(k::t).drop (1+m)=t.drop m:=λm=>by rw[Nat.add_comm,drop_succ_cons]
  clear dZ h au hl aD;have qK:=I (λW (hc:bK W b (some t))=>gu b (some t) W hc);by_cases gl:k=0
  .subst gl;rw[yX];have fD:=I (λW (hc:bK W b (some t))=>sC b (some t) (n:Int) W hc);rw[cX]at fD;by_cases hc:n<=t.length
   .rw[aB hc];rw[Ec n t hc]at fD;have kb:(t.take n).length=n:=by rw[cr];omega
    have pT:=I (λW=>nW W (t.take n) (pN lX n));have BI:=I (hdrop n);dsimp only at fD;unfold xh;dsimp only;rw[BI.out];clear hdrop lX hc;generalize t.take n=O3 at *;generalize t.drop n=axH at *;generalize hstr:strOf O3=st at *;clear hstr;go_enter func146,ntmps146
    go_wp2_with fail
    refine jI.out.mono ?_;rintro e aw ⟨rfl,bM,a1⟩;have b5:=I (qK.out aw bM);have fw:=I (fD.out aw bM);have dm:=I a1;clear bM a1 qK;go_wp2_with fail
    refine b5.out.mono ?_;rintro e a6 ⟨rfl,rfl⟩;go_wp2_with fail
    refine fw.out.mono ?_;rintro e aC ⟨rfl,c8,bp⟩;obtain⟨dp,cap,dS,hcell,cL⟩:=pT.out aC;have oE:Hid (Reads dp (some ⟨aC.heap.size,0,none⟩) (aO O3)):=I (λ_=>⟨_,_,rfl,λj ar=>by
     rw[i7]at ar;rw[ez,hcell j ar,jq O3 j ar]⟩)
    have ow:=I (ef (ef dm.out bp) (dj cL _));have jm:=c8.below cL;have dX:=I (gu b _ dp jm);have nc:=I jm;clear bp hcell cL c8 jm;go_wp2_with fail
    refine dX.out.mono ?_;rintro e dB ⟨rfl,rfl⟩;clear dS;go_wp2;go_ret2;refine⟨⟨⟨some ⟨aC.heap.size,0,none⟩,cap,?_,oE⟩,nc⟩,ow⟩;rw[kb];rfl
   .rw[az hc];rw[Eb n t hc]at fD;have pT:=I (λW=>nW W [] (by simp));dsimp only at fD;clear hdrop lX hc;generalize hstr:strOf []=st at *;clear hstr;go_enter func146,ntmps146
    go_wp2_with fail
    refine jI.out.mono ?_;rintro e aw ⟨rfl,bM,a1⟩;have b5:=I (qK.out aw bM);have fw:=I (fD.out aw bM);have dm:=I a1;clear bM a1 qK;go_wp2_with fail
    refine b5.out.mono ?_;rintro e a6 ⟨rfl,rfl⟩;go_wp2_with fail
    refine fw.out.mono ?_;rintro e aC ⟨rfl,c8,bp⟩;obtain⟨dp,cap,dS,hcell,cL⟩:=pT.out aC;have ow:=I (ef (ef dm.out bp) (dj cL _));have dX:=I (gu b _ dp (c8.below cL));clear bp hcell cL c8;go_wp2_with fail
    refine dX.out.mono ?_;rintro e dB ⟨rfl,rfl⟩;clear dS;go_wp2;go_ret2;exact⟨⟨_,_,rfl⟩,ow⟩
  .by_cases ek:k=1
   .subst ek;rw[yY];have fD:=I (λW (hc:bK W b (some t))=>sC b (some t) 1 W hc);cases t with
   |nil=>
     have aG:eH (1:Int).toNat (some ([]:ae))=([],none):=rfl;rw[aG]at fD;rw[az (by simp)];have pT:=I (λW=>nW W [] (by simp));have Hrep:=I (λA c W=>aoT A c n W h1 aA);dsimp only at fD;clear hdrop lX aG gl;generalize hstr:strOf []=st at *;clear hstr;go_enter func146,ntmps146
     go_wp2_with fail
     refine jI.out.mono ?_;rintro e aw ⟨rfl,bM,a1⟩;have b5:=I (qK.out aw bM);have fw:=I (fD.out aw bM);have dm:=I a1;clear bM a1 qK;go_wp2_with fail
     refine b5.out.mono ?_;rintro e a6 ⟨rfl,rfl⟩;go_wp2_with fail
     refine fw.out.mono ?_;rintro e aC ⟨rfl,c8,bp⟩;obtain⟨dp,cap,dS,hcell,cL⟩:=pT.out aC;have ow:=I (ef (ef dm.out bp) (dj cL _));have nc:=I (c8.below cL);have qB:=I (Hrep.out (some ⟨aC.heap.size,0,none⟩) cap dp);clear bp hcell cL c8;go_wp2_with fail
     refine qB.out.mono ?_;rintro e dB ⟨⟨rj,uv,rfl⟩,gA⟩;have vL:=I (ef ow.out (dj gA _));have kf:=I (gu b _ dB (nc.out.below gA));clear gA dS;go_wp2_with fail
     refine kf.out.mono ?_;rintro e dk ⟨rfl,rfl⟩;go_wp2;go_ret2;exact⟨⟨_,_,rfl⟩,vL⟩
   |cons x t=>
     have aG:eH (1:Int).toNat (some (x::t))=([x],some t):=rfl;have ai:=lX x dU;rw[aG]at fD;rw[aB (by simp)];simp only[dH,b7];have pT:=I (λW=>nW W [x] (by simpa using ai));have Hrep:=I (λA c W aj=>aoU A c x n W ai h1 aA aj);dsimp only at fD;have BI:Hid ((1::x::t).drop 2=t):=I rfl;unfold xh;dsimp only;rw[BI.out,iZ];clear hdrop lX aG gl;generalize hstr:strOf [x]=st at *;clear hstr;go_enter func146,ntmps146
     go_wp2_with fail
     refine jI.out.mono ?_;rintro e aw ⟨rfl,bM,a1⟩;have b5:=I (qK.out aw bM);have fw:=I (fD.out aw bM);have dm:=I a1;clear bM a1 qK;go_wp2_with fail
     refine b5.out.mono ?_;rintro e a6 ⟨rfl,rfl⟩;go_wp2_with fail
     refine fw.out.mono ?_;rintro e aC ⟨rfl,c8,bp⟩;obtain⟨dp,cap,dS,hcell,cL⟩:=pT.out aC;have cO:Reads dp (some ⟨aC.heap.size,0,none⟩) (aO [x]):=λ_=>⟨_,_,rfl,λj ar=>by
      rw[i7]at ar;rw[ez,hcell j ar,jq [x] j ar]⟩
     have ow:=I (ef (ef dm.out bp) (dj cL _));have nc:=I (c8.below cL);have qB:=I (Hrep.out (some ⟨aC.heap.size,0,none⟩) cap dp cO);clear bp hcell cL c8 cO;go_wp2_with fail
     refine qB.out.mono ?_;rintro e dB ⟨⟨rj,uv,rfl,Vk⟩,gA⟩;have vL:=I (ef ow.out (dj gA _));have uQ:=nc.out.below gA;have kf:=I (gu b _ dB uQ);have xo:=I uQ;have adA:=I Vk;clear gA dS uQ Vk;go_wp2_with fail
     refine kf.out.mono ?_;rintro e dk ⟨rfl,rfl⟩;go_wp2;go_ret2;exact⟨⟨⟨_,_,rfl,adA⟩,xo⟩,vL⟩
   .by_cases ft:k=2
    .subst ft;rw[yZ];have oy:=I (λW (hc:bK W b (some t))=>aoN b n t W e1 lX hc);generalize lh t n=r at *;clear lX gl ek e1;go_enter func146,ntmps146
     go_wp2_with fail
     refine jI.out.mono ?_;rintro e aw ⟨rfl,bM,a1⟩;have b5:=I (qK.out aw bM);have fw:=I (oy.out aw bM);have dm:=I a1;clear bM a1 qK;go_wp2_with fail
     refine b5.out.mono ?_;rintro e a6 ⟨rfl,rfl⟩;go_wp2_with fail
     refine fw.out.mono ?_;rintro e aC ⟨k6,bp⟩;have du:=I (ef dm.out bp);clear bp;cases r with
    |none=>
      obtain⟨A,c,rfl⟩:=k6;go_wp2;go_ret2;exact⟨⟨_,_,rfl⟩,du⟩
    |some q=>
      obtain⟨⟨A,c,rfl,bt⟩,c8⟩:=k6;have ep:=I bt;have ig:=I c8;clear bt c8;go_wp2;go_ret2;exact⟨⟨⟨_,_,rfl,ep⟩,by show bK aC b (some ((2::t).drop (1+q.2)));rw[hdrop];exact ig⟩,du⟩
    .rw[Bb k t n (by omega)];have d0:((k:Int)==0)=false:=cz
     have d1:((k:Int)==1)=false:=cz
     have d2:((k:Int)==2)=false:=cz
     clear gl ek ft hdrop lX;go_enter func146,ntmps146
     go_wp2_with fail
     refine jI.out.mono ?_;rintro e aw ⟨rfl,bM,a1⟩;have b5:=I (qK.out aw bM);have dm:=I a1;clear bM a1 qK;go_wp2_with fail
     refine b5.out.mono ?_;rintro e a6 ⟨rfl,rfl⟩;go_wp2;go_ret2;exact⟨⟨_,_,rfl⟩,dm⟩
theorem ao7(b n:Nat)(bs:ae)(w:ah)(hl:bs.length<=100000000)(au:∀x∈bs,x<256)(h1:1<=n)(aA:n<=4096)(h:bK w b (some bs)) :
  Calls prog 111 #[.pointer (some ⟨b,0,none⟩),.int .i64 n] w λe w'=>xh w' b bs e (lC bs n)/\w.grownBy w' (some b):=by
 have ep:=I (aoS b n bs w hl au h1 aA h);have d0:decide ((n:Int)<0)=false:=aU;have d1:decide ((4096:Int)<n)=false:=aU;have hmem:=Yo bs n au;unfold lC;generalize nG bs n=r at *;clear au h;cases r with
|none=>
  dsimp only;go_enter func111,ntmps111
  go_wp2_with fail
  refine ep.out.mono ?_;rintro e aw ⟨⟨A,c,rfl⟩,a1⟩;have dm:=I a1;clear a1;go_wp2;go_ret2;exact⟨⟨_,_,rfl⟩,dm⟩
|some q=>
  obtain⟨l,k⟩:=q;dsimp only;obtain⟨ew,hlt2⟩:=hmem l k rfl;have kh:=I (λA c W aj=>aoV A c l W (by omega) hlt2 aj);clear ew;by_cases ej:∀x∈l,x<28
  .rw[aB ej];rw[bE ej]at kh;clear ej hlt2 hmem;go_enter func111,ntmps111
   go_wp2_with fail
   refine ep.out.mono ?_;rintro e aw ⟨⟨⟨A,c,rfl,bt⟩,bM⟩,a1⟩;have dm:=I a1;have Jj:=I (kh.out A c aw bt);have zx:=I bt;have kQ:=I bM;clear a1 bt bM;go_wp2_with fail
   refine Jj.out.mono ?_;rintro e aC ⟨rfl,rfl⟩;go_wp2;go_ret2;exact⟨⟨⟨_,_,rfl,zx⟩,kQ⟩,dm⟩
  .rw[az ej];rw[bG ej]at kh;clear ej hlt2 hmem;go_enter func111,ntmps111
   go_wp2_with fail
   refine ep.out.mono ?_;rintro e aw ⟨⟨⟨A,c,rfl,bt⟩,bM⟩,a1⟩;have dm:=I a1;have Jj:=I (kh.out A c aw bt);clear a1 bt bM;go_wp2_with fail
   refine Jj.out.mono ?_;rintro e aC ⟨rfl,rfl⟩;go_wp2;go_ret2;exact⟨⟨_,_,rfl⟩,dm⟩
def aeI(w':ah)(e:Ending):Option (List am.dx)->Prop
|none=>∃A c,e=.returned (.tuple #[.slice A 0 c,.bool false])
|some l=>∃A c,e=.returned (.tuple #[.slice A l.length c,.bool true])/\lL w' A l
theorem amU(n:Nat):(madeCells #[Value.int .i64 0,.int .i64 0,.int .i64 0] (n*3)).toList=gF (List.replicate n (0,0,0)):=by
 apply ext_getElem
 .simp[madeCells,Za]
 .intro i h1 af;have ay:i<n*3:=by simpa [madeCells]using h1
  have hq:i/3<(List.replicate n ((0,0,0):am.dx)).length:=by simp;omega
  obtain⟨e0,aG,e2⟩:=HE (List.replicate n (0,0,0)) (i/3) hq;rw[getElem_replicate]at e0 aG e2;have hl:(madeCells #[Value.int .i64 0,.int .i64 0,.int .i64 0] (n*3)).toList[i]=(#[Value.int .i64 0,.int .i64 0,.int .i64 0]:Array Value)[i%3]!:=by simp[madeCells]
  have aj:i%3=0\/i%3=1\/i%3=2:=by omega
  rw[hl,<-some_inj,<-bI af];rcases aj with aj|aj|aj<;>rw[aj]
  .rw[show i=i/3*3 by omega,e0];rfl
  .rw[show i=i/3*3+1 by omega,aG];rfl
  .rw[show i=i/3*3+2 by omega,e2];rfl
theorem amW(n:Nat)(h:n<=1000000)(W:ah):(Instr.makeSlice 68 (.int .i64 n) (.int .i64 n)).run prog W=.ok (.slice (some ⟨W.heap.size,0,none⟩) n n) (W.alloc (.cells (gF (List.replicate n (0,0,0))).toArray 118)):=by
 obtain⟨i0,ay,bC,bL,bz⟩:=info_parts M3;have h1:=run_make (P:=prog) W 68 118 i0 _ underlying68 ay bC .i64 .i64 (n:Int) (n:Int) (by omega) (by omega) (by rw[bz];omega) (by omega);rw[cX,bL,show(Value.agg #[.int .i64 0,.int .i64 0,.int .i64 0]).cells=#[.int .i64 0,.int .i64 0,.int .i64 0]from rfl]at h1;rw[h1,<-amU,Array.toArray_toList]
theorem arl(l:List am.dx)(i:Nat)(x y z:Nat)(h:i<l.length):(((gF l).set (i*3) (.int .i64 x)).set (i*3+1) (.int .i64 y)).set (i*3+2) (.int .i64 z)=gF (l.set i (x,y,z)):=by
 induction l generalizing i with
|nil=>simp at h
|cons t l ih=>
  cases i with
 |zero=>rfl
 |succ i=>
   have h1:=ih i (by simpa using h);have aG:(i+1)*3=i*3+3:=by omega
   rw[aG,set_cons_succ,gF,gF,<-h1];rfl
structure nU(w W:ah)(bF dG dF ch:Nat)(vs:b1)(L:List am.dx)(r:Int×Int×Int)(bQ:ae)(pos:Nat):Prop where
 all:Row W bF 108 vs
 rd:er W dG 0 bQ pos
 row:Row W dF 118 (gF L)
 lg:Row W ch 154 [.int .i64 r.1,.int .i64 r.2.1,.int .i64 r.2.2]
 dn:av w W
 low:w.heap.size<=bF/\bF<dG/\dG<dF/\dF<ch/\ch<W.heap.size
section
variable {w W bb:ah} {bF dG dF ch:Nat} {vs:b1} {L:List am.dx} {r:Int×Int×Int} {bQ:ae} {pos:Nat}
theorem nU.below(h:nU w W bF dG dF ch vs L r bQ pos)(ak:av W bb):nU w bb bF dG dF ch vs L r bQ pos:=by
 obtain⟨h1,af,aq,aK,aT,ci⟩:=h;exact⟨h1.below ak,af.below ak,aq.below ak,aK.below ak,aT.trans (ak.mono aT.size),by have:=ak.size;omega⟩
theorem nU.read(h:nU w W bF dG dF ch vs L r bQ pos){p:Nat}(aF:W.grownBy bb (some dG))(af:er bb dG 0 bQ p):nU w bb bF dG dF ch vs L r bQ p:=by
 obtain⟨h1,_,aq,aK,aT,ci⟩:=h;refine⟨h1.keep (aF.block _ (by omega) (by simp;omega)),af,aq.keep (aF.block _ (by omega) (by simp;omega)),aK.keep (aF.block _ (by omega) (by simp;omega)),aT.grown aF aT.size (λx e=>by injection e with e;omega),by have:=aF.size;omega⟩
theorem nU.cG(h:nU w W bF dG dF ch vs L r bQ pos){p:Addr}(ax:ch<p.block)(u:Value):nU w (W.setCell p u) bF dG dF ch vs L r bQ pos:=by
 obtain⟨h1,af,aq,aK,aT,ci⟩:=h;refine⟨h1.cG (by omega) u,af.keep (oQ W p u) (by simp;omega),aq.cG (by omega) u,aK.cG (by omega) u,aT.setCell (by omega) u,by simpa using ci⟩
theorem nU.put(h:nU w W bF dG dF ch vs L r bQ pos){L':List am.dx}(i:Nat)(x y z dV bO rc:Int)(aj:Row (((W.setCell ⟨dF,i,none⟩ (.int .i64 x)).setCell ⟨dF,i+1,none⟩ (.int .i64 y)).setCell ⟨dF,i+2,none⟩ (.int .i64 z)) dF 118 (gF L')) :
  nU w ((((((W.setCell ⟨dF,i,none⟩ (.int .i64 x)).setCell ⟨dF,i+1,none⟩ (.int .i64 y)).setCell ⟨dF,i+2,none⟩ (.int .i64 z)).setCell ⟨ch,0,none⟩ (.int .i64 dV)).setCell ⟨ch,1,none⟩ (.int .i64 bO)).setCell ⟨ch,2,none⟩ (.int .i64 rc)).drew bF dG dF ch vs L' (dV,bO,rc) bQ pos:=by
 obtain⟨h1,af,aq,aK,aT,ci⟩:=h;have aG:∀(W:ah) i u,Row W bF 108 vs->Row (W.setCell ⟨dF,i,none⟩ u) bF 108 vs:=λW i u h=>h.cG (by show bF≠dF;omega) u
 have e2:∀(W:ah) i u,Row W bF 108 vs->Row (W.setCell ⟨ch,i,none⟩ u) bF 108 vs:=λW i u h=>h.cG (by show bF≠ch;omega) u
 have e3:∀(W:ah) i u,er W dG 0 bQ pos->er (W.setCell ⟨dF,i,none⟩ u) dG 0 bQ pos:=λW i u h=>h.keep (oQ W ⟨dF,i,none⟩ u) (by simp;omega)
 have e4:∀(W:ah) i u,er W dG 0 bQ pos->er (W.setCell ⟨ch,i,none⟩ u) dG 0 bQ pos:=λW i u h=>h.keep (oQ W ⟨ch,i,none⟩ u) (by simp;omega)
 have e5:∀(W:ah) i u {ag},Row W dF 118 ag->Row (W.setCell ⟨ch,i,none⟩ u) dF 118 ag:=λW i u ag h=>h.cG (by show dF≠ch;omega) u
 have gG:∀(W:ah) i u {ag},Row W ch 154 ag->Row (W.setCell ⟨dF,i,none⟩ u) ch 154 ag:=λW i u ag h=>h.cG (by show ch≠dF;omega) u
 have nY:∀(W:ah) i u,av w W->Below w.heap.size w (W.setCell ⟨dF,i,none⟩ u):=λW i u h=>h.setCell (by show w.heap.size<=dF;omega) u
 have oN:∀(W:ah) i u,av w W->Below w.heap.size w (W.setCell ⟨ch,i,none⟩ u):=λW i u h=>h.setCell (by show w.heap.size<=ch;omega) u
 have iz:=((gG _ (i+2) (.int .i64 z) (gG _ (i+1) (.int .i64 y) (gG _ i (.int .i64 x) aK))).bq 0 (.int .i64 dV));have A9:=(iz.bq 1 (.int .i64 bO)).bq 2 (.int .i64 rc);simp only[set_cons_zero,set_cons_succ]at A9;have ap:((((((W.setCell ⟨dF,i,none⟩ (.int .i64 x)).setCell ⟨dF,i+1,none⟩ (.int .i64 y)).setCell ⟨dF,i+2,none⟩ (.int .i64 z)).setCell ⟨ch,0,none⟩ (.int .i64 dV)).setCell ⟨ch,1,none⟩ (.int .i64 bO)).setCell ⟨ch,2,none⟩ (.int .i64 rc)).heap.size=W.heap.size:=by simp[World.setCell]
 have gp:=e2 _ 2 (.int .i64 rc) (e2 _ 1 (.int .i64 bO) (e2 _ 0 (.int .i64 dV) (aG _ (i+2) (.int .i64 z) (aG _ (i+1) (.int .i64 y) (aG _ i (.int .i64 x) h1)))));have fl:=e4 _ 2 (.int .i64 rc) (e4 _ 1 (.int .i64 bO) (e4 _ 0 (.int .i64 dV) (e3 _ (i+2) (.int .i64 z) (e3 _ (i+1) (.int .i64 y) (e3 _ i (.int .i64 x) af)))));have lB:=e5 _ 2 (.int .i64 rc) (e5 _ 1 (.int .i64 bO) (e5 _ 0 (.int .i64 dV) aj));have D9:=oN _ 2 (.int .i64 rc) (oN _ 1 (.int .i64 bO) (oN _ 0 (.int .i64 dV) (nY _ (i+2) (.int .i64 z) (nY _ (i+1) (.int .i64 y) (nY _ i (.int .i64 x) aT)))));clear aG e2 e3 e4 e5 gG nY oN aj h1 af aq aK aT iz;generalize (((((W.setCell ⟨dF,i,none⟩ (.int .i64 x)).setCell ⟨dF,i+1,none⟩ (.int .i64 y)).setCell ⟨dF,i+2,none⟩ (.int .i64 z)).setCell ⟨ch,0,none⟩ (.int .i64 dV)).setCell ⟨ch,1,none⟩ (.int .i64 bO)).setCell ⟨ch,2,none⟩ (.int .i64 rc)=X at *;exact nU.below ⟨gp,fl,lB,A9,D9,by rw[ap];exact ci⟩ dM.drew
end
namespace am
theorem ahP(c:Nat)(h:c<28):fV c<=15:=by unfold fV;split<;>omega
theorem XG(c V:Nat)(h:c<28):nE c V<=65535:=by
 unfold nE;split
 .omega
 .have h1:=mod_lt V (eK (c-12));have af:2^(c-12)<=2^15:=dy (by omega) (by omega);have aq:(2:Nat)^15=32768:=by decide
  omega
theorem XL(a b c n x:Int)(h:jW a b c n=some x):1<=x/\x<=65533:=by
 obtain⟨h1,af,aq⟩:=anv a b c n x h;exact anm a b c x (by omega)
def xM(r:Int×Int×Int):Prop:=(1<=r.1/\r.1<=65533)/\(1<=r.2.1/\r.2.1<=65533)/\(1<=r.2.2/\r.2.2<=65533)
theorem On(r:Int×Int×Int)(x:Int)(h:xM r)(ai:1<=x/\x<=65533):xM (hn r.1 r.2.1 r.2.2 x):=by
 obtain⟨h1,af,aq⟩:=h;unfold hn;split
 .exact⟨ai,af,aq⟩
 .split
  .exact⟨ai,h1,aq⟩
  .exact⟨ai,h1,af⟩
theorem YC(ag:List (ae))(n k:Nat)(h:k<n):(jo ag n).drop k=jx ag k::(jo ag n).drop (k+1):=by
 have hl:k<(jo ag n).length:=by simpa [jo]using h
 rw[drop_eq_getElem_cons hl];simp[jo]
end am
theorem Yv{r:Int×Int×Int}(h:xM r):hv r.1/\hv r.2.1/\hv r.2.2:=by
 obtain⟨h1,af,aq⟩:=h;unfold hv;omega
def sz(xs:ae):b1:=[.int .i64 ((xs[0]?.getD 0:Nat):Int),.int .i64 ((xs[1]?.getD 0:Nat):Int),.int .i64 ((xs[2]?.getD 0:Nat):Int)]
theorem XH(xs:ae)(v:Nat)(h:xs.length<3):(sz xs).set xs.length (.int .i64 v)=sz (xs++[v]):=by
 match xs,h with
|[],_=>rfl
|[a],_=>rfl
|[a,b],_=>rfl
theorem arj(D:List am.dx)(m k:Nat)(h:D.length=k):(gF (D++List.replicate (m+1) (0,0,0)))[k*3]?=some (.int .i64 0)/\(gF (D++List.replicate (m+1) (0,0,0)))[k*3+1]?=some (.int .i64 0)/\(gF (D++List.replicate (m+1) (0,0,0)))[k*3+2]?=some (.int .i64 0):=by
 have hl:k<(D++List.replicate (m+1) ((0,0,0):am.dx)).length:=by rw[aY,iZ];omega
 have h1:=HE _ k hl;have e:(D++List.replicate (m+1) ((0,0,0):am.dx))[k]=(0,0,0):=by
  rw[getElem_append_right (by omega),getElem_replicate]
 rw[e]at h1;exact h1
theorem ark(D:List am.dx)(m k x y z:Nat)(h:D.length=k):(((gF (D++List.replicate (m+1) (0,0,0))).set (k*3) (.int .i64 x)).set (k*3+1) (.int .i64 y)).set (k*3+2) (.int .i64 z)=gF ((D++[(x,y,z)])++List.replicate m (0,0,0)):=by
 rw[arl _ k x y z (by rw[aY,iZ];omega)];congr 1
 rw[set_append_right _ _ (by omega),h,Nat.sub_self,replicate_succ,set_cons_zero,df];rfl
theorem ao1(fZ eA eR B:a7)(bD bh bN h5 n:Nat)(c0 c1 c2 bQ:ae)(w:ah)(aA:n<=1000)(ao:c0.length=n/\∀x∈c0,x<28)(h1:c1.length=n/\∀x∈c1,x<28)(af:c2.length=n/\∀x∈c2,x<28)
  (kH:Reads w fZ (aO c0))(cg:Reads w eA (aO c1))(bS:Reads w eR (aO c2))(eu:bQ.length<=4096)(hblt:∀x∈bQ,x<256)(cW:Reads w B (aO bQ)) :
  Calls prog 113 #[.agg #[.slice fZ n bD,.slice eA n bh,.slice eR n bN],.slice B bQ.length h5,.int .i64 n] w λe w'=>aeI w' e (ol [c0,c1,c2] n bQ)/\av w w':=by
 obtain⟨res,hres⟩:∃res,res=ol [c0,c1,c2] n bQ:=⟨_,rfl⟩;rw[<-hres];have b4:=I hres;obtain⟨zN,CU⟩:∃zN,w.alloc (.cells #[.slice fZ n bD,.slice eA n bh,.slice eR n bN] 108)=zN:=⟨_,rfl⟩;have dV:=Row.new w 108 [.slice fZ n bD,.slice eA n bh,.slice eR n bN];have dc:=(Below.refl w.heap.size w).alloc bl (.cells #[.slice fZ n bD,.slice eA n bh,.slice eR n bN] 108);rw[show w.alloc (.cells [Value.slice fZ n bD,.slice eA n bh,.slice eR n bN].toArray 108)=zN from CU]at dV;have hsz0:zN.heap.size=w.heap.size+1:=by rw[<-CU];simp
 rw[CU]at dc;have pf:=I (D0 B h5 bQ zN hblt (c7 cW dc));have aa8:=I CU;have acY:=I (λW=>amW n (by omega) W);have IZ:=I WL;have oC:=I dV;have fd:=I dc;have ad4:=I hsz0;have fc:=I (⟨kH,cg,bS⟩:_/\_/\_);have mG:=I (⟨ao,h1,af⟩:_/\_/\_);have zj:=I hblt;clear hres CU dV dc hsz0 kH cg bS cW ao h1 af hblt;go_enter func113,ntmps113
 go_wp2_with fail
 rw[aa8.out];refine pf.out.mono ?_;rintro e aw ⟨rfl,yF,aH⟩;obtain⟨bF,dc⟩:∃bF,w.heap.size=bF:=⟨_,rfl⟩;obtain⟨dG,uP⟩:∃dG,zN.heap.size=dG:=⟨_,rfl⟩;obtain⟨dF,Lz⟩:∃dF,aw.heap.size=dF:=⟨_,rfl⟩;have zx:=I yF;have aN:=I aH;have e7:=I (⟨dc,uP,Lz⟩:_/\_/\_);have qe:=acY.out aw;rw[Lz]at qe;clear yF aH dc uP Lz;go_wp2_with fail
 refine(IZ.out _).mono ?_;rintro e aC ⟨rfl,aJ⟩;obtain⟨ch,ka⟩:∃ch,aC.heap.size=ch:=⟨_,rfl⟩;have aS:nU w (aC.alloc (.cells #[.int .i64 1,.int .i64 2,.int .i64 4] 154)) bF dG dF ch [.slice fZ n bD,.slice eA n bh,.slice eR n bN] (List.replicate n (0,0,0)) (1,2,4) bQ 0:=by
  obtain⟨e0,z6,el⟩:=e7.out;have hM:=aN.out.size;have gd:=aJ.size;have k4:=(Below.refl aw.heap.size aw).alloc bl (.cells (gF (List.replicate n (0,0,0))).toArray 118);have jl:av aw aC:=k4.trans (aJ.mono k4.size);have LA:=jl.alloc jl.size (.cells #[.int .i64 1,.int .i64 2,.int .i64 4] 154);have rl:=Row.new aw 118 (gF (List.replicate n (0,0,0)));have rc:=Row.new aC 154 [.int .i64 1,.int .i64 2,.int .i64 4];rw[el]at rl;rw[ka]at rc;have dV:=(oC.out.below aN).below LA;rw[e0]at dV;have tL:=zx.out.below LA;rw[z6]at tL;have aQ:=ad4.out;rw[World.size_alloc]at gd;refine⟨dV,tL,(rl.below aJ).alloc _,rc,(fd.out.trans (aN.out.mono fd.out.size)).trans (LA.mono (by omega)),?_⟩;rw[World.size_alloc];have hlt1:=zx.out.2.2.2;rw[z6]at hlt1;omega
 have cN:=I aS;have xm:=I ka;clear aJ aS ka qe;go_wp2;rw[e7.out.1,e7.out.2.1,xm.out];generalize aC.alloc (.cells #[.int .i64 1,.int .i64 2,.int .i64 4] 154)=dK at *;have ff:=I (λc q (W:ah) (hc:c<28) (ax:q<=8*bQ.length) (hle:8*bQ.length-q<fV c) (h:er W dG 0 bQ q)=>aoJ c dG q bQ W hc (by omega) ax hle h);have JN:=I (λc q (W:ah) (hc:c<28) (hle:q+fV c<=8*bQ.length) (h:er W dG 0 bQ q)=>aoK c dG q bQ W hc (by omega) zj.out hle h);have xq:=I (λq (W:ah) (ax:q<=8*bQ.length) (h:er W dG 0 bQ q)=>aah dG q bQ W (by omega) zj.out ax h);have ii:Hid (res=rO (jZ (jo [c0,c1,c2] n) (bd bQ) (8*bQ.length) (1,2,4))):=I b4.out;have wx:bd bQ=bd bQ/2^0:=by rw[Nat.pow_zero,Nat.div_one]
 have PJ:=I wx;clear wx;generalize bd bQ=V at *;generalize bR:8*bQ.length=L at *;clear bR;go_loopw [11,12,13,14,15,16,17,18,19,27] (λ_ _ _ _ _ _ _ _ _ i wr=>∃(k pos:Nat) (D:List am.dx) (r:Int×Int×Int),i=.int .i64 k/\k<=n/\pos<=L/\Hid (D.length=k)/\Hid (xM r) /\
  Hid (nU w wr bF dG dF ch [.slice fZ n bD,.slice eA n bh,.slice eR n bN] (D++List.replicate (n-k) (0,0,0)) r bQ pos) /\
  Hid (res=rO ((jZ ((jo [c0,c1,c2] n).drop k) (V/2^pos) (L-pos) r).map λq=>(D++q.1,q.2)))) (λ_ _ _ _ _ _ _ _ _ i _=>n-(intOf i).toNat)
 case atStart=>
  refine⟨0,0,[],(1,2,4),rfl,zero_le _,zero_le _,I rfl,I ⟨by decide,by decide,by decide⟩,cN,I ?_⟩;rw[ii.out,drop_zero,Nat.sub_zero,<-PJ.out];cases jZ (jo [c0,c1,c2] n) V L (1,2,4)<;>rfl
 case round=>
  obtain⟨k,pos,D,r,rfl,hk,hpos,cH,aj,aS,hres⟩:=hrel;by_cases kG:k<n
  .have uC:decide ((k:Int)<n)=true:=cf;have B7:Hid ((jo [c0,c1,c2] n).drop k=jx [c0,c1,c2] k::(jo [c0,c1,c2] n).drop (k+1)):=I (YC _ n k kG);have VF:=aS.out.low;have aH:wr.heap.size<wr.heap.size+1:=by omega
   have sl:=aS.out.below ((Below.refl wr.heap.size wr).alloc bl (.cells #[.int .i64 0,.int .i64 0,.int .i64 0] 30));have eO:=Row.new wr 30 (sz []);obtain⟨p2,oR⟩:∃p2,wr.heap.size=p2:=⟨_,rfl⟩;rw[oR]at eO VF;have zC:=I sl;have oD:=I eO;have BA:=I oR;have ai6:ch<p2:=by omega
   obtain⟨a0,fL,a2⟩:=dz sl.all;clear sl eO oR aH aS VF;go_wp2;rw[BA.out];have e3:wr.alloc (.cells (sz []).toArray 30)=wr.alloc (.cells #[.int .i64 0,.int .i64 0,.int .i64 0] 30):=rfl;rw[e3]at oD;clear e3;generalize wr.alloc (.cells #[.int .i64 0,.int .i64 0,.int .i64 0] 30)=vA at *;clear a0 fL a2;rename ah=>sL
   go_loopw [13,14,15,16,31] (λ_ _ _ _ i wr=>∃(j q:Nat) (xs:ae),i=.int .i64 j/\j<=3/\q<=L/\Hid (xs.length=j)/\Hid (∀x∈xs,x<=65535) /\
    Hid (nU w wr bF dG dF ch [.slice fZ n bD,.slice eA n bh,.slice eR n bN] (D++List.replicate (n-k) (0,0,0)) r bQ q)/\Hid (Row wr p2 30 (sz xs)) /\
    Hid (la (jx [c0,c1,c2] k) (V/2^pos) (L-pos)=(la ((jx [c0,c1,c2] k).drop j) (V/2^q) (L-q)).map λt=>(xs++t.1,t.2))) (λ_ _ _ _ i _=>3-(intOf i).toNat)
   case atStart=>
    refine⟨0,pos,[],rfl,by omega,hpos,I rfl,I (by simp),zC,oD,I ?_⟩;rw[drop_zero];cases la (jx [c0,c1,c2] k) (V/2^pos) (L-pos)<;>rfl
   case round=>
    obtain⟨j,q,xs,rfl,ar,hq,n8,sq,aS,eO,jD⟩:=hrel;by_cases yl:j<3
    .have key:∃(g off c:Nat) (dD:Nat) (A:a7),Hid ([Value.slice fZ n bD,.slice eA n bh,.slice eR n bN][j]?=some (.slice A n dD))/\A=some ⟨g,off,none⟩/\wr.cell? ⟨g,off+k,none⟩=some (.int .u8 c)/\c<28/\Hid ((jx [c0,c1,c2] k).drop j=c::(jx [c0,c1,c2] k).drop (j+1)):=by
      obtain⟨hW,bM,c8⟩:=mG.out;obtain⟨gK,gE,c9⟩:=fc.out;have one:∀(A:a7) (ag:ae),(ag.length=n/\∀x∈ag,x<28)->Reads w A (aO ag)->∃g off,A=some ⟨g,off,none⟩/\∃c:Nat,wr.cell? ⟨g,off+k,none⟩=some (.int .u8 c)/\c<28/\ag[k]?.getD 0=c:=λA ag h aj=>by
       have a8:k<ag.length:=by omega
       obtain⟨g,off,e,hc⟩:=m9 (c7 aj aS.out.dn) (by intro e;rw[e]at a8;simp at a8);exact⟨g,off,e,ag[k],hc k a8,h.2 _ (b8 a8),by rw[bI a8];rfl⟩
      rcases(by omega:j=0\/j=1\/j=2)with rfl|rfl|rfl
      .obtain⟨g,off,e,c,h1,af,aq⟩:=one fZ c0 hW gK;exact⟨g,off,c,bD,fZ,rfl,e,h1,af,I (by simp only[jx,map_cons,map_nil,drop_succ_cons,drop_zero,aq])⟩
      .obtain⟨g,off,e,c,h1,af,aq⟩:=one eA c1 bM gE;exact⟨g,off,c,bh,eA,rfl,e,h1,af,I (by simp only[jx,map_cons,map_nil,drop_succ_cons,drop_zero,aq])⟩
      .obtain⟨g,off,e,c,h1,af,aq⟩:=one eR c2 c8 c9;exact⟨g,off,c,bN,eR,rfl,e,h1,af,I (by simp only[jx,map_cons,map_nil,drop_succ_cons,drop_zero,aq])⟩
     obtain⟨g,off,c,dD,A,hidx,rfl,hcell,hc28,hdrop⟩:=key;have fv:=I jD.out;rw[hdrop.out,la]at fv;have hidx2:∀W,(Instr.index 108 (.agg #[.slice fZ n bD,.slice eA n bh,.slice eR n bN]) (.int .i64 j)).run prog W=.ok (.slice (some ⟨g,off,none⟩) n dD) W:=λW=>by
      have h:=hidx.out;rcases(by omega:j=0\/j=1\/j=2)with rfl|rfl|rfl
      all_goals
       simp only[dH,dJ,Option.some.injEq]at h;rw[h];simp[Instr.index,run_underlying underlying108,asIntOf,go_sem]
     clear hidx jD hdrop;by_cases hfit:q+fV c<=L
     .rw[aB (by omega)]at fv;have cY:=I (JN.out c q wr hc28 hfit aS.out.rd);have aD:=XG c (V/2^q) hc28;rw[jX,<-dI,Nat.sub_sub]at fv;obtain⟨v,Wa⟩:∃v,v=nE c (V/2^q):=⟨_,rfl⟩;obtain⟨fl,ey⟩:∃fl,fl=q+fV c:=⟨_,rfl⟩;rw[<-Wa]at cY fv aD;rw[<-ey]at cY fv hfit;have gP:=I (aS.out);have E4:=I (eO.out);clear Wa ey aS eO;go_wp2_with fail
      refine cY.out.mono ?_;rintro e a6 ⟨rfl,pC,ct⟩;have tv:=gP.out.read ct pC;have hlow:=gP.out.low;have GG:=E4.out.keep (ct.block p2 E4.out.lt (by simp;omega));have gT:=tv.cG (p:=⟨p2,j,none⟩) ai6 (.int .i64 v);have Mv:=GG.bq j (.int .i64 v);rw[<-n8.out,XH xs v (by rw[n8.out];exact yl),n8.out]at Mv;have f0:=GG.free j;have hsome:∃u,a6.cell? ⟨p2,j,none⟩=some u:=by
       rw[GG.cell];rcases(by omega:j=0\/j=1\/j=2)with rfl|rfl|rfl<;>exact⟨_,rfl⟩
      obtain⟨u0,MI⟩:=hsome;have lI:=I gT;have adF:=I Mv;have Un:(j:Int)<3:=by omega
      clear pC ct tv GG gT Mv hlow;go_wp2;go_roundw
      case rel=>
       refine⟨j+1,fl,xs++[v],by go_num,by omega,hfit,I (by rw[aY,n8.out];rfl),I (λx ai=>?_),lI,adF,I ?_⟩
       .rcases List.mem_append.1 ai with ai|ai
        .exact sq.out x ai
        .rw[List.mem_singleton.1 ai];exact aD
       .rw[fv.out];cases la ((jx [c0,c1,c2] k).drop (j+1)) (V/2^fl) (L-fl)<;>simp
      case measure=>simp[intOf];omega
     .rw[az (by omega)]at fv;have cY:=I (ff.out c q wr hc28 hq (by omega) aS.out.rd);have dO:Hid (res=none):=I (by rw[hres.out,B7.out,jZ,fv.out];rfl);have gP:=I (⟨aS.out.dn,aS.out.low⟩:_/\_);clear hfit aS eO hres;go_wp2_with fail
      refine cY.out.mono ?_;rintro e a6 ⟨⟨v,rfl⟩,ct⟩;have b6:=I (gP.out.1.grown ct gP.out.1.size (λx e=>by injection e with e;have:=gP.out.2;omega));clear ct;go_wp2;go_ret2;rw[dO.out];exact⟨⟨_,_,rfl⟩,b6⟩
    .have uY:j=3:=by omega
     subst uY;have fv:=I jD.out;rw[show(jx [c0,c1,c2] k).drop 3=[]from rfl,la,map_some,append_nil]at fv;obtain⟨l,m,o,MT⟩:∃l m o,xs=[l,m,o]:=by
      match xs,n8.out with
     |[l,m,o],_=>exact⟨l,m,o,rfl⟩
     subst MT;have hm:m<=65535:=sq.out m (by simp);have b9:o<=65535:=sq.out o (by simp);have AF:Row wr p2 30 [.int .i64 l,.int .i64 m,.int .i64 o]:=eO.out;obtain⟨x0,iQ,iD⟩:=dz AF;obtain⟨kP,j0,ke⟩:=dz aS.out.lg;obtain⟨eN,cW,iu⟩:=Yv aj.out;have kT:=I hres.out;rw[B7.out,jZ,fv.out]at kT;simp only[dH,dJ,b7]at kT;have gP:=I aS.out;clear hres jD eO AF aS sq n8;cases hoff:jW r.1 r.2.1 r.2.2 (o:Int)with
    |none=>
      rw[hoff]at kT;have cY:=I (λW=>aoZ W r.1 r.2.1 r.2.2 l m o eN cW iu hm b9 hoff);have dO:Hid (res=none):=I kT.out;have vV:=I (⟨gP.out.dn,gP.out.low⟩:_/\_);clear hoff eN cW iu aj;generalize r.1=dV at *;generalize r.2.1=bO at *;generalize r.2.2=rc at *;generalize m+3=m3 at *;go_wp2_with fail
      refine(cY.out _).mono ?_;rintro e a6 ⟨rfl,bA⟩;have b6:=I ((((vV.out.1.trans (bA.mono vV.out.1.size)).alloc (vV.out.1.trans (bA.mono vV.out.1.size)).size (.cells #[.int .i64 l,.int .i64 m3,.int .i64 0] 118)).alloc (by have:=(vV.out.1.trans (bA.mono vV.out.1.size)).size;simp;omega) (.cells #[.int .i64 dV,.int .i64 bO,.int .i64 rc] 154)));clear bA;go_wp2;go_ret2;rw[dO.out];exact⟨⟨_,_,rfl⟩,b6⟩
    |some x=>
      rw[hoff]at kT;dsimp only at kT;have ai:=XL _ _ _ _ _ hoff;have cY:=I (λW=>ao0 W r.1 r.2.1 r.2.2 x l m o eN cW iu hm b9 hoff);have zy:=I (On r x aj.out ai);obtain⟨⟨dV,bO,rc⟩,bS⟩:∃c9,c9=hn r.1 r.2.1 r.2.2 x:=⟨_,rfl⟩;rw[<-bS]at cY zy kT;dsimp only at cY;clear hoff bS eN cW iu aj;obtain⟨kO,rfl⟩:∃kO:Nat,x=(kO:Int):=⟨x.toNat,by omega⟩;rw[cX]at kT;have hlow:=gP.out.low;go_wp2_with fail
      refine(cY.out _).mono ?_;rintro e a6 ⟨rfl,bA⟩;have tv:=gP.out.below bA;obtain⟨bs,cs⟩:∃bs,a6.heap.size=bs:=⟨_,rfl⟩;obtain⟨Cr,lp⟩:∃Cr,a6.heap.size+1=Cr:=⟨_,rfl⟩;have L4:=tv.low;have rs:=(Row.new a6 118 [.int .i64 l,.int .i64 ((m+3:Nat):Int),.int .i64 kO]).alloc (.cells #[.int .i64 dV,.int .i64 bO,.int .i64 rc] 154);have rt:=Row.new (a6.alloc (.cells #[.int .i64 l,.int .i64 ((m+3:Nat):Int),.int .i64 kO] 118)) 154 [.int .i64 dV,.int .i64 bO,.int .i64 rc];rw[World.size_alloc,lp]at rt;rw[cs]at rs;have gT:=(tv.below ((Below.refl a6.heap.size a6).alloc bl (.cells #[.int .i64 l,.int .i64 ((m+3:Nat):Int),.int .i64 kO] 118))).below ((Below.refl _ (a6.alloc (.cells #[.int .i64 l,.int .i64 ((m+3:Nat):Int),.int .i64 kO] 118))).alloc bl (.cells #[.int .i64 dV,.int .i64 bO,.int .i64 rc] 154));have lI:=I gT;have oE:=I rs;have QB:=I rt;have qy:=I cs;have vH:=I lp;have au:ch<bs/\ch<Cr:=by omega
      clear bA tv gT rs rt cs lp L4 x0 iQ iD kP j0 ke;generalize m+3=m3 at *;obtain⟨d,aI⟩:∃d,n-k=d+1:=⟨n-k-1,by omega⟩;rw[aI]at lI;have fC:=I (show n-(k+1)=d by omega);clear aI;go_wp2_with fail
      rw[vH.out,qy.out];obtain⟨x0,iQ,iD⟩:=dz oE.out;obtain⟨atD,atE,atF⟩:=dz QB.out;obtain⟨kP,j0,ke⟩:=dz lI.out.lg;have g0:=lI.out.lg.free 0;have g1:=lI.out.lg.free 1;have g2:=lI.out.lg.free 2;obtain⟨z0,gh,z2⟩:=arj D d k cH.out;have v0:=(lI.out.row.cell (k*3)).trans z0;have v1:=(lI.out.row.cell (k*3+1)).trans gh;have v2:=(lI.out.row.cell (k*3+2)).trans z2;have tJ:=lI.out.row.free (k*3);have gp:=lI.out.row.free (k*3+1);have aoz:=lI.out.row.free (k*3+2);have aj7:=lI.out.low;have b2:bs≠dF:=by omega
      have bU:bs≠ch:=by omega
      have G7:Cr≠dF:=by omega
      have wY:Cr≠ch:=by omega
      have G8:dF≠ch:=by omega
      have G9:ch≠dF:=by omega
      generalize (a6.alloc (.cells #[.int .i64 l,.int .i64 m3,.int .i64 kO] 118)).alloc (.cells #[.int .i64 dV,.int .i64 bO,.int .i64 rc] 154)=Pl at *;have hput:=ark D d k l m3 kO cH.out;have hrow2:=((lI.out.row.bq (k*3) (.int .i64 l)).bq (k*3+1) (.int .i64 m3)).bq (k*3+2) (.int .i64 kO);rw[hput]at hrow2;have hi:=I hrow2;clear z0 gh z2 hput hrow2;go_region
      have AJ:=lI.out.put (k*3) l m3 kO dV bO rc hi.out;have Cf:=I AJ;clear AJ x0 iQ iD atD atE atF kP j0 ke v0 v1 v2 tJ gp aoz g0 g1 g2 aj7;generalize (((((Pl.setCell ⟨dF,k*3,none⟩ (.int .i64 l)).setCell ⟨dF,k*3+1,none⟩ (.int .i64 m3)).setCell ⟨dF,k*3+2,none⟩ (.int .i64 kO)).setCell ⟨ch,0,none⟩ (.int .i64 dV)).setCell ⟨ch,1,none⟩ (.int .i64 bO)).setCell ⟨ch,2,none⟩ (.int .i64 rc)=atq at *;generalize atq.drew=axN at *;go_wp2;go_roundw
      case rel=>
       refine⟨k+1,q,D++[(l,m3,kO)],(dV,bO,rc),by go_num,by omega,hq,I (by rw[aY,cH.out];rfl),zy,by rw[fC.out];exact Cf,I ?_⟩;rw[kT.out];cases jZ ((jo [c0,c1,c2] n).drop (k+1)) (V/2^q) (L-q) (dV,bO,rc)<;>simp
      case measure=>simp[intOf];omega
  .have hkn':k=n:=by omega
   subst hkn';have uC:decide ((k:Int)<k)=false:=aU;have fg:=I hres.out;rw[show(jo [c0,c1,c2] k).drop k=[]from drop_of_length_le (by simp[jo]),jZ,map_some,append_nil]at fg;unfold rO at fg;dsimp only at fg;have cY:=I (xq.out pos wr hpos aS.out.rd);have gP:=I aS.out;rw[Nat.sub_self,replicate_zero,append_nil]at gP;clear hres aS aj;by_cases hend:L-pos<8/\V/2^pos=0
   .rw[aB hend]at fg;rw[bE hend]at cY;clear hend;go_wp2_with fail
    refine cY.out.mono ?_;rintro e a6 ⟨rfl,ct⟩;have hlow:=gP.out.low;have hrow:=gP.out.row.keep (ct.block dF gP.out.row.lt (by simp;omega));have b6:=I (gP.out.dn.grown ct gP.out.dn.size (λx e=>by injection e with e;omega));have ep:Hid (lL a6 (some ⟨dF,0,none⟩) D):=I (λ_=>⟨dF,0,rfl,hrow.lt,λj ar=>by
     obtain⟨s0,s1,s2⟩:=HE D j ar;rw[ez,hrow.cell,hrow.cell,hrow.cell];exact⟨s0,s1,s2⟩⟩)
    clear ct hrow hlow;go_wp2;go_ret2;rw[fg.out];exact⟨⟨some ⟨dF,0,none⟩,k,by rw[cH.out];rfl,ep⟩,b6⟩
   .rw[az hend]at fg;rw[bG hend]at cY;clear hend;go_wp2_with fail
    refine cY.out.mono ?_;rintro e a6 ⟨rfl,ct⟩;have hlow:=gP.out.low;have b6:=I (gP.out.dn.grown ct gP.out.dn.size (λx e=>by injection e with e;omega));clear ct hlow;go_wp2;go_ret2;rw[fg.out];exact⟨⟨_,_,rfl⟩,b6⟩
def Fg(w':ah)(b:Nat)(bs:ae)(e:Ending):Option (List am.dx×Nat)->Prop
|none=>∃A c,e=.returned (.tuple #[.slice A 0 c,.bool false])
|some t=>(∃A c,e=.returned (.tuple #[.slice A t.1.length c,.bool true])/\lL w' A t.1)/\bK w' b (some (bs.drop t.2))
theorem Hw{w w':ah}{A:a7}{l:ae}{b:Nat}{t:TypeId}{ag:b1}(h:Row w b t ag)(aA:∀(m:Nat) (z:Int),ag[m]?≠some (.int .u8 z))(aj:Reads w A (aO l))(aF:w.grownBy w' (some b)):Reads w' A (aO l):=λaZ=>by
 obtain⟨g,off,rfl,hc⟩:=aj aZ;refine⟨g,off,rfl,λj ar=>?_⟩;have h1:=hc j ar;rw[i7]at ar;rw[jq l j ar]at h1 ⊢;refine aF.cell h1 (λe=>?_);injection e with e
 dsimp only at e;subst e;exact aA _ _ ((Row.cell h (off+j)).symm.trans h1)
theorem Yn(st:Left)(m:Nat)(z:Int):(qp st)[m]?≠some (.int .u8 z):=by
 intro ai;rcases st with _|bs
 all_goals
  match m,ai with
 |0,ai=>simp[qp]at ai
 |1,ai=>simp[qp]at ai
 |m+2,ai=>simp[qp]at ai
def oj(n:Nat)(eM:List (a7×Nat×ae))(m:Nat):b1:=(eM.map λs=>Value.slice s.1 n s.2.1)++List.replicate m (.slice none 0 0)
theorem HD(n m:Nat)(eM:List (a7×Nat×ae))(i:Nat)(z:Int):(oj n eM m)[i]?≠some (.int .u8 z):=by
 intro h;have hm:=mem_of_getElem? h;unfold oj at hm;rcases List.mem_append.1 hm with hm|hm
 .obtain⟨s,_,e⟩:=List.mem_map.1 hm;cases e
 .rw[mem_replicate]at hm;cases hm.2
def rK(w:ah)(n:Nat)(eM:List (a7×Nat×ae)):Prop:=∀s∈eM,(s.2.2.length=n/\∀x∈s.2.2,x<28)/\Reads w s.1 (aO s.2.2)
theorem rK.Hb{w w':ah}{n:Nat}{eM:List (a7×Nat×ae)}{b:Nat}{t:TypeId}{ag:b1}(ap:rK w n eM)(h:Row w b t ag)(aA:∀(m:Nat) (z:Int),ag[m]?≠some (.int .u8 z))(aF:w.grownBy w' (some b)):rK w' n eM:=
 λs hm=>⟨(ap s hm).1,Hw h aA (ap s hm).2 aF⟩
theorem rK.below{w w':ah}{n:Nat}{eM:List (a7×Nat×ae)}(ap:rK w n eM)(ak:av w w'):rK w' n eM:=
 λs hm=>⟨(ap s hm).1,c7 (ap s hm).2 ak⟩
theorem aoD(b:Nat)(bs:ae)(most:Int)(w:ah)
  (hint:Calls prog 40 #[.pointer (some ⟨b,0,none⟩),.int .i64 (min most 1000)] w λe w'=>e=.returned (.int .i64 0)/\bK w' b none/\w.grownBy w' (some b)) :
  Calls prog 73 #[.pointer (some ⟨b,0,none⟩),.int .i64 most] w λe w'=>Fg w' b bs e none/\w.grownBy w' (some b):=by
 have H1:=I hint;clear hint;go_enter func73,ntmps73
 go_wp2_with fail
 refine H1.out.mono ?_;rintro e aw ⟨rfl,bM,a1⟩;have b5:=I (gu b none aw bM);have dm:=I a1;clear bM a1;go_wp2_with fail
 refine b5.out.mono ?_;rintro e a6 ⟨rfl,rfl⟩;go_wp2;go_ret2;exact⟨⟨_,_,rfl⟩,dm⟩
theorem aoE(b k:Nat)(bs:ae)(most:Int)(w:ah)
  (hint:Calls prog 40 #[.pointer (some ⟨b,0,none⟩),.int .i64 (min most 1000)] w λe w'=>e=.returned (.int .i64 0)/\bK w' b (some (bs.drop k))/\w.grownBy w' (some b)) :
  Calls prog 73 #[.pointer (some ⟨b,0,none⟩),.int .i64 most] w λe w'=>Fg w' b bs e (some ([],k))/\w.grownBy w' (some b):=by
 have H1:=I hint;clear hint;go_enter func73,ntmps73
 go_wp2_with fail
 refine H1.out.mono ?_;rintro e aw ⟨rfl,bM,a1⟩;have b5:=I (gu b _ aw bM);have dm:=I a1;have kQ:=I bM;clear bM a1;go_wp2_with fail
 refine b5.out.mono ?_;rintro e a6 ⟨rfl,rfl⟩;go_wp2;go_ret2;exact⟨⟨⟨_,_,rfl,λh=>absurd h (by simp)⟩,kQ.out⟩,dm.out⟩
theorem aoC(b k n:Nat)(bs:ae)(most:Int)(w:ah)(g6:1<=n)(aA:n<=1000)(hl:bs.length<=100000000)(au:∀x∈bs,x<256)
  (hint:Calls prog 40 #[.pointer (some ⟨b,0,none⟩),.int .i64 (min most 1000)] w λe w'=>e=.returned (.int .i64 n)/\bK w' b (some (bs.drop k))/\w.grownBy w' (some b)) :
  Calls prog 73 #[.pointer (some ⟨b,0,none⟩),.int .i64 most] w λe w'=>Fg w' b bs e (match hs 3 (bs.drop k) n with
  |none=>none
  |some p=>match ht ((bs.drop k).drop p.2)with
   |none=>none
   |some q=>(ol p.1 n q.1).map λl=>(l,k+p.2+q.2))/\w.grownBy w' (some b):=by
 obtain⟨res,hres⟩:∃res,res=(match hs 3 (bs.drop k) n with
  |none=>none
  |some p=>match ht ((bs.drop k).drop p.2)with
   |none=>none
   |some q=>(ol p.1 n q.1).map λl=>(l,k+p.2+q.2)):=⟨_,rfl⟩
 rw[<-hres];obtain⟨xN,rV⟩:∃xN,xN=hs 3 (bs.drop k) n:=⟨_,rfl⟩;rw[<-rV]at hres;have Iu:=I rV;have b4:=I hres;have H1:=I hint;have uh:=I (λm W (hc:bK W b (some (bs.drop m)))=>ao7 b n (bs.drop m) W (by rw[cB];omega) (jh au m) g6 (by omega) hc);have lK:=I (λm W (hc:bK W b (some (bs.drop m)))=>Eh b (some (bs.drop m)) 4096 W (by omega) (by omega) ⟨jh au m,by rw[cB];omega⟩ hc);have ce:=I (λm=>jh au m);have xW:((n:Int)==0)=false:=cz
 clear hint hres au hl rV;go_enter func73,ntmps73
 go_wp2_with fail
 refine H1.out.mono ?_;rintro e aw ⟨rfl,bM,a1⟩;have b5:=I (gu b _ aw bM);have dm:=I a1;have kQ:=I bM;clear bM a1;go_wp2_with fail
 refine b5.out.mono ?_;rintro e a6 ⟨rfl,rfl⟩;obtain⟨ba,jj⟩:∃ba,aw.heap.size=ba:=⟨_,rfl⟩;have eN:=Row.new aw 108 (oj n [] 3);have hbel:=(Below.refl aw.heap.size aw).alloc bl (.cells #[.slice none 0 0,.slice none 0 0,.slice none 0 0] 108);have e3:aw.alloc (.cells (oj n [] 3).toArray 108)=aw.alloc (.cells #[.slice none 0 0,.slice none 0 0,.slice none 0 0] 108):=rfl;rw[e3,jj]at eN;have oC:=I eN;have zi:=I jj;have ig:=I (kQ.out.below hbel);have du:=I (ef dm.out (dj hbel _));have kn:b<ba:=by rw[<-jj];exact kQ.out.lt
 have dT:w.heap.size<=ba:=by rw[<-jj];exact dm.out.size
 clear eN hbel e3 jj;go_wp2;rw[zi.out];generalize aw.alloc (.cells #[.slice none 0 0,.slice none 0 0,.slice none 0 0] 108)=dK at *;go_loopw [8,9,10,20] (λ_ _ _ i wr=>∃(j at_:Nat) (eM:List (a7×Nat×ae)),i=.int .i64 j/\j<=3/\Hid (eM.length=j)/\Hid (Row wr ba 108 (oj n eM (3-j)))/\Hid (rK wr n eM)/\Hid (bK wr b (some (bs.drop (k+at_))))/\Hid (w.grownBy wr (some b)) /\
  Hid (xN=(hs (3-j) (bs.drop (k+at_)) n).map λq=>(eM.map (λs=>s.2.2)++q.1,at_+q.2))) (λ_ _ _ i _=>3-(intOf i).toNat)
 case atStart=>
  refine⟨0,0,[],rfl,by omega,I rfl,oC,I (λs ap=>by cases ap),ig,du,I ?_⟩;rw[fX,Nat.sub_zero,Iu.out];cases hs 3 (bs.drop k) n<;>simp
 case round=>
  obtain⟨j,at_,eM,rfl,ar,k2,hrow,fQ,eX,aF,hstr⟩:=hrel;by_cases yl:j<3
  .have oM:(j:Int)<3:=by omega
   have cY:=I (uh.out (k+at_) wr eX);have hj:=I hstr.out;obtain⟨d,aI⟩:∃d,3-j=d+1:=⟨3-j-1,by omega⟩;rw[aI,hs]at hj;have Ja:=I (λl dD h=>Zq (bs.drop (k+at_)) n (ce.out _) l dD h);have hrow':=hrow.out;rw[aI]at hrow';have dr:=I hrow';have fC:=I (show 3-(j+1)=d by omega);have uS:=eX;clear hstr eX hrow hrow' aI;cases ap:lC (bs.drop (k+at_)) n with
  |none=>
    rw[ap]at hj cY;dsimp only at hj;have dO:Hid (res=none):=I (by rw[b4.out,hj.out];rfl);clear ap fQ uS;go_wp2_with fail
    refine cY.out.mono ?_;rintro e bH ⟨⟨A,c,rfl⟩,cx⟩;have hQ:=I (ef aF.out cx);clear cx aF;go_wp2;go_ret2;rw[dO.out];exact⟨⟨_,_,rfl⟩,hQ⟩
  |some t=>
    obtain⟨l,dD⟩:=t;rw[ap]at hj cY;dsimp only at hj;have hm:=Ja.out l dD ap;have cj:=I hm;rw[drop_drop]at hj;clear ap;go_wp2_with fail
    refine cY.out.mono ?_;rintro e bH ⟨⟨⟨A,c,rfl,bt⟩,nv⟩,cx⟩;dsimp only at bt nv ⊢;rw[drop_drop]at nv;have hrow4:=dr.out.keep (cx.block ba dr.out.lt (by simp;omega));have Dy:=fQ.out.Hb uS.out (Yn _) cx;have r9:Reads (bH.setCell ⟨ba,j,none⟩ (.slice A n c)) A (aO l):=Hw hrow4 (HD n (d+1) eM) bt (oQ bH ⟨ba,j,none⟩ (.slice A n c));have Dz:=Dy.Hb hrow4 (HD n (d+1) eM) (oQ bH ⟨ba,j,none⟩ (.slice A n c));have jm:bK (bH.setCell ⟨ba,j,none⟩ (.slice A n c)) b (some (bs.drop (k+at_+dD))):=nv.keep (oQ bH ⟨ba,j,none⟩ (.slice A n c)) (by simp;omega);have yI:=hrow4.bq j (.slice A n c);have hset:(oj n eM (d+1)).set j (.slice A n c)=oj n (eM++[(A,c,l)]) d:=by
     unfold oj;rw[set_append_right _ _ (by rw[cQ,k2.out];omega),cQ,k2.out,Nat.sub_self,replicate_succ,set_cons_zero,map_append,df];rfl
    rw[hset]at yI;have f0:=hrow4.free j;have hsome:∃u,bH.cell? ⟨ba,j,none⟩=some u:=by
     rw[hrow4.cell];unfold oj;rw[iY (by rw[cQ,k2.out];omega),cQ,k2.out,Nat.sub_self];exact⟨_,rfl⟩
    obtain⟨u0,MI⟩:=hsome;have fi:w.grownBy (bH.setCell ⟨ba,j,none⟩ (.slice A n c)) (some b):=by
     have h1:=ef aF.out cx;exact⟨h1.os,h1.tape,h1.output,by have:=h1.size;simpa [World.setCell]using this,λi ay aZ=>by
      rw[<-h1.block i ay aZ];exact Below.heap_setCell bH ⟨ba,j,none⟩ _ i (by show i≠ba;omega)⟩
    have Cb:Hid (rK (bH.setCell ⟨ba,j,none⟩ (.slice A n c)) n (eM++[(A,c,l)])):=I (λs ap=>by
     rcases List.mem_append.1 ap with ap|ap
     .exact Dz s ap
     .rw[List.mem_singleton.1 ap];exact⟨cj,r9⟩)
    have B5:=I yI;have nc:=I jm;have ow:=I fi;have Hlen:Hid (l.length=n):=I cj.out.1;have kb:=Hlen.out;rw[kb];clear hrow4 Dy r9 Dz jm yI hset fi hm bt nv cx fQ aF kb uS;go_wp2;go_roundw
    case rel=>
     refine⟨j+1,at_+dD,eM++[(A,c,l)],by go_num,by omega,I (by rw[aY,k2.out];rfl),by rw[fC.out];exact B5,Cb,by rw[<-iO];exact nc,ow,I ?_⟩;rw[hj.out,fC.out,<-iO];cases hs d (bs.drop (k+at_+dD)) n<;>simp[iO]
    case measure=>simp[intOf];omega
  .have uY:j=3:=by omega
   subst uY;obtain⟨s0,s1,s2,rV⟩:∃s0 s1 s2,eM=[s0,s1,s2]:=by
    match eM,k2.out with
   |[x,y,z],_=>exact⟨x,y,z,rfl⟩
   subst rV;have hj:=I hstr.out;rw[Nat.sub_self,hs,map_some,append_nil,fX]at hj;have hrow2:Row wr ba 108 [.slice s0.1 n s0.2.1,.slice s1.1 n s1.2.1,.slice s2.1 n s2.2.1]:=hrow.out;obtain⟨x0,iQ,iD⟩:=dz hrow2;have cY:=I (lK.out (k+at_) wr eX);have ii:=I b4.out;rw[hj.out]at ii;simp only[map_cons,map_nil]at ii;rw[drop_drop]at ii;have dr:=I hrow2;have uS:=eX;clear hstr hrow hrow2 k2 eX;cases qj:ht (bs.drop (k+at_))with
  |none=>
    have ig:=I cY.out;rw[Pa _ qj]at ig;rw[qj]at ii;dsimp only at ii;clear qj fQ;go_wp2_with fail
    refine ig.out.mono ?_;rintro e bH ⟨rfl,nv,cx⟩;have b5:=I (gu b none bH nv);have hQ:=I (ef aF.out cx);clear nv cx aF;go_wp2_with fail
    refine b5.out.mono ?_;rintro e dp ⟨rfl,rfl⟩;go_wp2;go_ret2;rw[ii.out];exact⟨⟨_,_,rfl⟩,hQ⟩
  |some q=>
    obtain⟨bQ,m⟩:=q;obtain⟨aG,pv⟩:=Pb _ _ qj;have lS:=O9 _ _ qj (ce.out _);have ig:=I cY.out;rw[aG]at ig;rw[qj]at ii;dsimp only at ii ig pv lS;rw[drop_drop]at ig;have pT:=I (λW=>nW W bQ lS);have cN:=I (λW A c (h:rK W n [s0,s1,s2]) aj=>ao1 s0.1 s1.1 s2.1 A s0.2.1 s1.2.1 s2.2.1 c n s0.2.2 s1.2.2 s2.2.2 bQ W aA (h s0 (by simp)).1 (h s1 (by simp)).1 (h s2 (by simp)).1 (h s0 (by simp)).2 (h s1 (by simp)).2 (h s2 (by simp)).2 pv lS aj);obtain⟨tL,eV⟩:∃tL,tL=ol [s0.2.2,s1.2.2,s2.2.2] n bQ:=⟨_,rfl⟩;rw[<-eV]at cN ii;clear qj aG eV lS;generalize akC:strOf bQ=w2 at *;clear akC;go_wp2_with fail
    refine ig.out.mono ?_;rintro e bH ⟨rfl,nv,cx⟩;have b5:=I (gu b _ bH nv);have hQ:=I (ef aF.out cx);have Jy:=I (fQ.out.Hb uS.out (Yn _) cx);have hrow4:=dr.out.keep (cx.block ba dr.out.lt (by simp;omega));obtain⟨kP,j0,ke⟩:=dz hrow4;have vI:=I nv;clear nv cx aF fQ uS hrow4 x0 iQ iD;go_wp2_with fail
    refine b5.out.mono ?_;rintro e dp ⟨rfl,rfl⟩;obtain⟨dB,cap,dS,hcell,gA⟩:=pT.out bH;have cO:Reads dB (some ⟨bH.heap.size,0,none⟩) (aO bQ):=λ_=>⟨_,_,rfl,λj ar=>by
     rw[i7]at ar;rw[ez,hcell j ar,jq bQ j ar]⟩
    have Cf:=I (cN.out dB _ cap (Jy.out.below gA) cO);have vL:=I (ef hQ.out (dj gA _));have xo:=I (vI.out.below gA);clear hcell gA cO;go_wp2_with fail
    refine Cf.out.mono ?_;rintro e dk ⟨oU,fW⟩;have xt:=I (ef vL.out (dj fW _));have IE:=I (xo.out.below fW);clear fW dS kP j0 ke;cases tL with
   |none=>
     obtain⟨A,c,rfl⟩:=oU;go_wp2;go_ret2;rw[ii.out];exact⟨⟨_,_,rfl⟩,xt⟩
   |some l=>
     obtain⟨A,c,rfl,bt⟩:=oU;have ep:=I bt;clear bt;go_wp2;go_ret2;rw[ii.out];exact⟨⟨⟨_,_,rfl,ep⟩,IE⟩,xt⟩
theorem aoB(b:Nat)(bs:ae)(most:Int)(w:ah)(ao:-9223372036854775808<=most)(h1:most<=9223372036854775807)(hl:bs.length<=100000000)(au:∀x∈bs,x<256)(h:bK w b (some bs)) :
  Calls prog 73 #[.pointer (some ⟨b,0,none⟩),.int .i64 most] w λe w'=>Fg w' b bs e (iC bs most)/\w.grownBy w' (some b):=by
 have hint:=Bc b (some bs) (min most 1000) w (by omega) (by omega) ⟨au,hl⟩ h;by_cases hc:0<(aX bs).2/\((aX bs).1:Int)<=min most 1000
 .rw[wV _ bs hc.1 hc.2]at hint;dsimp only at hint;by_cases aQ:(aX bs).1=0
  .rw[aqR bs most hc aQ];rw[aQ]at hint;exact aoE b _ bs most w hint
  .rw[aqL bs most hc aQ];exact aoC b _ _ bs most w (by omega) (by omega) hl au hint
 .rw[AU _ bs hc]at hint;rw[aqM bs most hc];exact aoD b bs most w hint
theorem aid(A B:a7)(c d:Nat)(U:ae)(log:Nat)(bs:ae)(n:Int)(w:ah)(h:dW U log)(hl:bs.length<=10000)(aA:ec n)(au:∀x∈bs,x<256)(aj:Reads w A (c3 (nj U log)))(ap:Reads w B (aO bs)) :
  (iI U log bs n=none/\Calls prog 157 #[.slice A (2^log) c,.int .i64 log,.slice B bs.length d,.int .i64 n] w λe w'=>e=.returned (.tuple #[.slice none 0 0,.bool false])/\av w w') \/
  ∃l,iI U log bs n=some l/\Calls prog 157 #[.slice A (2^log) c,.int .i64 log,.slice B bs.length d,.int .i64 n] w λe w'=>∃da db,e=.returned (.tuple #[.slice da l.length db,.bool true])/\Reads w' da (aO l)/\av w w':=by
 have ai:∀r,(Calls prog 157 #[.slice A (2^log) c,.int .i64 log,.slice B bs.length d,.int .i64 n] w λe w'=>Px w.heap.size w' e r/\av w w')->iI U log bs n=r ->
   (iI U log bs n=none/\Calls prog 157 #[.slice A (2^log) c,.int .i64 log,.slice B bs.length d,.int .i64 n] w λe w'=>e=.returned (.tuple #[.slice none 0 0,.bool false])/\av w w') \/
   ∃l,iI U log bs n=some l/\Calls prog 157 #[.slice A (2^log) c,.int .i64 log,.slice B bs.length d,.int .i64 n] w λe w'=>∃da db,e=.returned (.tuple #[.slice da l.length db,.bool true])/\Reads w' da (aO l)/\av w w':=by
  intro r h1 aI;cases r with
 |none=>exact .inl ⟨aI,h1⟩
 |some l=>
   refine .inr ⟨l,aI,h1.mono ?_⟩;rintro e w' ⟨⟨u,rfl,b9⟩,ak⟩;obtain⟨da,db,rfl,bt,_⟩:=kJ b9;exact⟨da,db,rfl,bt,ak⟩
 rcases ap7 B d bs w (by omega) au ap with⟨b9,Mf⟩|⟨M,L,b9,Mf⟩
 .refine ai _ (SE A B c d bs.length U log 0 0 false n w h aA (by omega) (by omega) aj (Mf.mono λe w' ⟨he,ak⟩=>⟨none,0,he,Nat.le_refl _,by unfold maxLen;omega,λaZ=>absurd rfl aZ,ak⟩)) ?_;unfold iI rN;rw[b9,az (by simp)];rfl
 .obtain⟨k1,_,bR⟩:=Oy bs M L au b9;refine ai _ (SE A B c d bs.length U log M L true n w h aA (by omega) k1 aj Mf) ?_;unfold iI;rw[b9];rfl
end Go.Proofs.YtgiicohbigiapaaGreat
