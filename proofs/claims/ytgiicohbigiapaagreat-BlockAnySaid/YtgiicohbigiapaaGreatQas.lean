/- Contracts. -/
import Derived.Test.YtgiicohbigiapaaGreatQaq
import Derived.Test.YtgiicohbigiapaaGreatQar
import Derived.Test.YtgiicohbigiapaaGreatQz2
import Derived.Test.YtgiicohbigiapaaGreatQz1
import Derived.Test.YtgiicohbigiapaaGreatQz0
set_option maxHeartbeats 4000000
set_option maxRecDepth 100000
open Go.Proofs.Tryz Go.Proofs.YtgiicohbigiapaaGreat.ao List Nat Option
namespace Go.Proofs.YtgiicohbigiapaaGreat
open Go.RowKit
namespace ao
def k7(N:List (ae))(vs:ae)(j:Nat):ae:=gk j N++(vs[j]?).toList.map mH
theorem aeH(N:List (ae))(j:Nat):k7 N [] j=gk j N:=by simp[k7]
theorem aeE(N:List (ae))(vs:ae):k7 N vs vs.length=gk vs.length N:=by simp[k7]
theorem aeG(N:List (ae))(vs:ae)(v:Nat):k7 N (vs++[v]) vs.length=k7 N vs vs.length++[mH v]:=by
 rw[aeE];simp[k7]
theorem aeI(N:List (ae))(vs:ae)(v:Nat)(j:Nat)(h:j≠vs.length):k7 N (vs++[v]) j=k7 N vs j:=by
 unfold k7;rcases eP j vs.length with h1 | h1
 .rw[hZ h1]
 .rw[getElem?_eq_none (by rw[aY,length_singleton];omega),getElem?_eq_none h1]
theorem aeD(N:List (ae))(vs:ae)(j:Nat)(h:j<vs.length):k7 N vs j=gk j (N++[vs]):=by
 unfold k7 gk;rw[bH h,map_append];simp[h]
theorem aeF(N:List (ae))(vs:ae)(j:Nat):(k7 N vs j).length<=N.length+1:=by
 unfold k7 gk;rw[aY,cQ,cQ];cases vs[j]?<;>simp
theorem atd(m:Int)(h:-9223372036854775808<=m/\m<=9223372036854775807):-9223372036854775808<=IntKind.i64.wrap (m-3)/\IntKind.i64.wrap (m-3)<=9223372036854775807:=by
 by_cases h1:-9223372036854775808<=m-3
 .rw[IntWalk.i64_in _ (by omega)];omega
 .have:m=-9223372036854775808\/m=-9223372036854775807\/m=-9223372036854775806:=by omega
  rcases this with rfl | rfl | rfl<;>decide
theorem atc(m:Int)(h:-9223372036854775808<=m/\m<=9223372036854775807):(3<=m/\m<=65538->IntKind.i64.wrap (m-3)=m-3)/\(0<=IntKind.i64.wrap (m-3)/\IntKind.i64.wrap (m-3)<=65535->3<=m/\m<=65538):=by
 refine⟨λhm=>IntWalk.i64_in _ (by omega),λhw=>?_⟩;by_cases h1:-9223372036854775808<=m-3
 .rw[IntWalk.i64_in _ (by omega)]at hw;omega
 .exfalso
  have:m=-9223372036854775808\/m=-9223372036854775807\/m=-9223372036854775806:=by omega
  rcases this with rfl | rfl | rfl
  .have e:IntKind.i64.wrap (-9223372036854775808-3)=9223372036854775805:=by decide
   rw[e]at hw;omega
  .have e:IntKind.i64.wrap (-9223372036854775807-3)=9223372036854775806:=by decide
   rw[e]at hw;omega
  .have e:IntKind.i64.wrap (-9223372036854775806-3)=9223372036854775807:=by decide
   rw[e]at hw;omega
end ao
theorem mr.congr{w:ai}{base:Nat}{vs:b3}{L L':Nat->ae}(h:mr w base vs L)(bR:∀s,s<vs.length->L' s=L s):mr w base vs L':=
 ⟨λs v aE=>by rw[bR s (List.getElem?_eq_some_iff.1 aE).1];exact h.own s v aE,h.apart⟩
structure lV(w W:ai)(B bq fQ iA eN:Nat)(us:b3)(P:Nat->ae)(F:ae)(r:Int×Int×Int):Prop where
 res:Row W bq 108 [.slice none 0 0,.slice none 0 0,.slice none 0 0]
 all:Row W fQ 108 us
 len:us.length=3
 l5:mr W B us P
 wr:dP W iA 0 (dT F).1 (dT F).2
 lr:Row W eN 154 [.int .i64 r.1,.int .i64 r.2.1,.int .i64 r.2.2]
 dy:Below w.heap.size w W
 low:w.heap.size<=bq/\bq<fQ/\fQ<iA/\iA<eN/\eN<B/\B<=W.heap.size
section
variable {w W bc:ai} {B bq fQ iA eN:Nat} {us:b3} {P:Nat->ae} {F:ae} {r:Int×Int×Int}
theorem lV.below(h:lV w W B bq fQ iA eN us P F r)(ak:Below W.heap.size W bc):lV w bc B bq fQ iA eN us P F r:=by
 obtain⟨h1,af,aq,aJ,aR,cg,c7,fK⟩:=h;exact⟨h1.below ak,af.below ak,aq,aJ.below ak,aR.below ak,cg.below ak,c7.trans (ak.mono c7.size),by have:=ak.size;omega⟩
theorem lV.congr(h:lV w W B bq fQ iA eN us P F r){se:Nat->ae}(cJ:∀s,s<3->se s=P s):lV w W B bq fQ iA eN us se F r:=by
 obtain⟨h1,af,aq,aJ,aR,cg,c7,fK⟩:=h;exact⟨h1,af,aq,aJ.congr (λs ap=>cJ s (by omega)),aR,cg,c7,fK⟩
theorem lV.put(h:lV w W B bq fQ iA eN us P F r){Jq:ae}(aD:W.grownBy bc (some iA))(hw:dP bc iA 0 (dT Jq).1 (dT Jq).2):lV w bc B bq fQ iA eN us P Jq r:=by
 obtain⟨h1,af,aq,aJ,_,cg,c7,fK⟩:=h;refine⟨h1.keep (aD.block _ (by omega) (by simp;omega)),af.keep (aD.block _ (by omega) (by simp;omega)),aq,⟨λs v aE=>(aJ.own s v aE).kept aD ?_,aJ.apart⟩,hw,cg.keep (aD.block _ (by omega) (by simp;omega)),c7.grown aD c7.size (λx e=>by injection e with e;omega),by have:=aD.size;omega⟩;rcases hq:v.ownBlock with _ | q
 .exact .inl rfl
 .have:=((aJ.own s v aE).lt q hq).1;exact .inr (by simp;omega)
theorem lV.turn(h:lV w W B bq fQ iA eN us P F r)(a b c:Int):lV w (((W.setCell ⟨eN,0,none⟩ (.int .i64 a)).setCell ⟨eN,1,none⟩ (.int .i64 b)).setCell ⟨eN,2,none⟩ (.int .i64 c)) B bq fQ iA eN us P F (a,b,c):=by
 obtain⟨h1,af,aq,aJ,aR,cg,c7,fK⟩:=h;have aF:∀(W:ai) i u {t ag},Row W bq t ag->Row (W.setCell ⟨eN,i,none⟩ u) bq t ag:=λW i u t ag h=>h.cG (by show bq≠eN;omega) u
 have e2:∀(W:ai) i u {t ag},Row W fQ t ag->Row (W.setCell ⟨eN,i,none⟩ u) fQ t ag:=λW i u t ag h=>h.cG (by show fQ≠eN;omega) u
 have e3:∀(W:ai) i u,k5 W eN 192->dP W iA 0 (dT F).1 (dT F).2->dP (W.setCell ⟨eN,i,none⟩ u) iA 0 (dT F).1 (dT F).2:=λW i u az h=>h.keep (o8 W ⟨eN,i,none⟩ u) (by simp;omega) (λg e=>by injection e with e;rw[<-e];exact az)
 have hp:=cg.s7 (u:=192) (by decide);have iZ:=hp.setCell ⟨eN,0,none⟩ (.int .i64 a);have lk:=iZ.setCell ⟨eN,1,none⟩ (.int .i64 b);have e4:∀(W:ai) i u,mr W B us P->mr (W.setCell ⟨eN,i,none⟩ u) B us P:=λW i u h=>h.cG (λs v aE e=>by have:=((h.own s v aE).lt _ e).1;dsimp only at this;omega) u
 have iK:=((cg.bm 0 (.int .i64 a)).bm 1 (.int .i64 b)).bm 2 (.int .i64 c);simp only[set_cons_zero,set_cons_succ]at iK;have gy:=aF _ 2 (.int .i64 c) (aF _ 1 (.int .i64 b) (aF _ 0 (.int .i64 a) h1));have ft:=e2 _ 2 (.int .i64 c) (e2 _ 1 (.int .i64 b) (e2 _ 0 (.int .i64 a) af));have lT:=e3 _ 2 (.int .i64 c) lk (e3 _ 1 (.int .i64 b) iZ (e3 _ 0 (.int .i64 a) hp aR));have wa:=e4 _ 2 (.int .i64 c) (e4 _ 1 (.int .i64 b) (e4 _ 0 (.int .i64 a) aJ));have E1:=((c7.setCell (p:=⟨eN,0,none⟩) (by show w.heap.size<=eN;omega) (.int .i64 a)).setCell (p:=⟨eN,1,none⟩) (by show w.heap.size<=eN;omega) (.int .i64 b)).setCell (p:=⟨eN,2,none⟩) (by show w.heap.size<=eN;omega) (.int .i64 c);exact⟨gy,ft,aq,wa,lT,iK,E1,by simpa [World.setCell]using fK⟩
theorem lV.app(h:lV w W B bq fQ iA eN us P F r){se:Nat->ae}{j:Nat}{u:Value}(hu:us[j]?=some u){g n cap:Nat}(aD:W.grownBy bc u.ownBlock)(eC:u.ownBlock=some g\/g=W.heap.size)
  (hown:bc.ownsRow B 5 1 (.slice (some ⟨g,0,none⟩) n cap) n (aN (se j))) (az:(se j).length=n) (bR:∀t,t≠j->se t=P t) :
  lV w (bc.setCell ⟨fQ,j,none⟩ (.slice (some ⟨g,0,none⟩) n cap)) B bq fQ iA eN (us.set j (.slice (some ⟨g,0,none⟩) n cap)) se F r:=by
 obtain⟨h1,af,aq,aJ,aR,cg,c7,fK⟩:=h;have mP:∀q,u.ownBlock=some q->B<=q/\q<W.heap.size:=λq e=>(aJ.own j u hu).lt q e
 have aX:∀b,b<B->u.ownBlock≠some b:=λb ak e=>by have:=(mP b e).1;omega
 have bf:=(h1.keep (aD.block _ (by omega) (λe=>aX bq (by omega) e.symm))).cG (p:=⟨fQ,j,none⟩) (by show bq≠fQ;omega) (.slice (some ⟨g,0,none⟩) n cap);have bM:=(af.keep (aD.block _ (by omega) (λe=>aX fQ (by omega) e.symm))).bm j (.slice (some ⟨g,0,none⟩) n cap);have ala:=(af.keep (aD.block _ (by omega) (λe=>aX fQ (by omega) e.symm))).s7 (u:=192) (by decide);have gx:=mr.push (L':=se) aJ hu aD eC hown az bR;have qA:dP bc iA 0 (dT F).1 (dT F).2:=aR.keep aD (aX iA (by omega)) (λq e=>by
  obtain⟨c,q9,hk⟩:=Lib.ownsRow_kind (aJ.own j u hu) q e;exact⟨c,5,q9,hk,by decide⟩)
 have alc:=qA.keep (o8 bc ⟨fQ,j,none⟩ (.slice (some ⟨g,0,none⟩) n cap)) (by simp;omega) (λq e=>by injection e with e;rw[<-e];exact ala);have HX:=(cg.keep (aD.block _ (by omega) (λe=>aX eN (by omega) e.symm))).cG (p:=⟨fQ,j,none⟩) (by show eN≠fQ;omega) (.slice (some ⟨g,0,none⟩) n cap);have N9:=(c7.grown aD c7.size (λq e=>by have:=(mP q e).1;omega)).setCell (p:=⟨fQ,j,none⟩) (by show w.heap.size<=fQ;omega) (.slice (some ⟨g,0,none⟩) n cap);have alb:=gx.cG (p:=⟨fQ,j,none⟩) (λs v aE e=>by have:=((gx.own s v aE).lt _ e).1;dsimp only at this;omega) (.slice (some ⟨g,0,none⟩) n cap);exact⟨bf,bM,by rw[length_set];exact aq,alb,alc,HX,N9,by have:=aD.size;simpa [World.setCell]using (by omega:w.heap.size<=bq/\bq<fQ/\fQ<iA/\iA<eN/\eN<B/\B<=bc.heap.size)⟩
end
namespace ao
theorem aam:∀(l:List fc) (r:Int×Int×Int),yI r->(∀s∈l,oi s)->yI (mT r l)
 | [],_,h,_=>h
 | s :: l,r,h,hm=>by
  have ap:=hm s ea;rw[mT];exact aam l _ (Pq r s.2.2 h ⟨ap.2.2.2.2.1,ap.2.2.2.2.2⟩) (λx ah=>hm x (ew _ ah))
end ao
theorem ar2(w:ai)(t0 t1 t2:TypeId)(lm ca cT:b3):∃W bD bP bq,((w.alloc (.cells lm.toArray t0)).alloc (.cells ca.toArray t1)).alloc (.cells cT.toArray t2)=W /\
  w.heap.size=bD/\w.heap.size+1=bP/\w.heap.size+1+1=bq/\W.heap.size=bq+1/\Row W bD t0 lm/\Row W bP t1 ca/\Row W bq t2 cT/\Below w.heap.size w W:=by
 have am:=Row.new w t0 lm;have h1:=Row.new (w.alloc (.cells lm.toArray t0)) t1 ca;have af:=Row.new ((w.alloc (.cells lm.toArray t0)).alloc (.cells ca.toArray t1)) t2 cT;have bf:(w.alloc (.cells lm.toArray t0)).heap.size=w.heap.size+1:=by simp
 have bM:((w.alloc (.cells lm.toArray t0)).alloc (.cells ca.toArray t1)).heap.size=w.heap.size+1+1:=by simp
 rw[bf]at h1;rw[bM]at af;exact⟨_,_,_,_,rfl,rfl,rfl,rfl,by simp,(am.alloc _).alloc _,h1.alloc _,af,
  (((Below.refl w.heap.size w).alloc bh _).alloc (by simp) _).alloc (by simp;omega) _⟩
theorem akP(x y z:Int)(W:ai):(Instr.index 30 (.agg #[.int .i64 x,.int .i64 y,.int .i64 z]) (.int .i64 0)).run prog W=.ok (.int .i64 x) W /\
  (Instr.index 30 (.agg #[.int .i64 x,.int .i64 y,.int .i64 z]) (.int .i64 1)).run prog W=.ok (.int .i64 y) W/\(Instr.index 30 (.agg #[.int .i64 x,.int .i64 y,.int .i64 z]) (.int .i64 2)).run prog W=.ok (.int .i64 z) W:=by
 refine⟨?_,?_,?_⟩
 all_goals
  simp[Instr.index,run_underlying underlying30,asIntOf,go_sem]
theorem akQ(x y z u:Int)(j:Nat)(h:[x,y,z][j]?=some u)(W:ai):(Instr.index 30 (.agg #[.int .i64 x,.int .i64 y,.int .i64 z]) (.int .i64 j)).run prog W=.ok (.int .i64 u) W:=by
 obtain⟨am,h1,af⟩:=akP x y z W;match j,h with
 | 0,h=>simp at h;subst h;exact am
 | 1,h=>simp at h;subst h;exact h1
 | 2,h=>simp at h;subst h;exact af
theorem Iz(b v:Nat)(F:ae)(W:ai)(aE:v<=65535)(hF:∀x∈F,x<=65535)(hl:F.length<=10000)(h:dP W b 0 (dT F).1 (dT F).2) :
  Calls prog 99 #[.pointer (some ⟨b,0,none⟩),.int .u32 (mj v),.int .i64 (ju v)] W λe w'=>e=.returned (.bool true)/\dP w' b 0 (dT (F++[v])).1 (dT (F++[v])).2/\W.grownBy w' (some b):=by
 obtain⟨_,af,aq,_⟩:=Dm v aE;have aJ:=Gt F hF;have h1:=E0 b 0 (dT F).1 (dT F).2 (mj v) (ju v) W (by omega) (by omega) (by omega) h;rw[mod_eq_of_lt (OC v)]at h1;rw[S9];exact h1
def rP(w':ai)(e:Ending)(l:List fc):Prop:=
 if ∀s∈l,oi s then ∃gd bC eI bf fa bM A k,e=.returned (.tuple #[.agg #[.slice gd l.length bC,.slice eI l.length bf,.slice fa l.length bM],.slice A (kf (cE (1,2,4) l)).length k,.bool true]) /\
  l.length<=bC/\l.length<=bf/\l.length<=bM/\Reads w' gd (aN (gk 0 (cE (1,2,4) l)))/\Reads w' eI (aN (gk 1 (cE (1,2,4) l)))/\Reads w' fa (aN (gk 2 (cE (1,2,4) l)))/\Reads w' A (aN (kf (cE (1,2,4) l)))
 else e=.returned (.tuple #[.agg #[.slice none 0 0,.slice none 0 0,.slice none 0 0],.slice none 0 0,.bool false])
theorem aod(A:a7)(c:Nat)(l:List fc)(w:ai)(hl:l.length<=700)(cW:xa l)(aj:sj w A l) :
  Calls prog 61 #[.slice A l.length c] w λe w'=>rP w' e l/\Below w.heap.size w w':=by
 obtain⟨i0,ax,akG,uj,oE⟩:=info_parts oG;obtain⟨sf,sv⟩:∃sf:ai->Ending->Prop,sf=λw' e=>rP w' e l:=⟨_,rfl⟩
 have wx:=I sv;have hgoal:(λ(e:Ending) (w':ai)=>rP w' e l/\Below w.heap.size w w')=λe w'=>sf w' e/\Below w.heap.size w w':=by rw[sv]
 rw[hgoal];clear hgoal sv;have aU:=I aj;have iQ:=I cW;have CG:=I YE;have Cx:=I (λ(v:Nat) (h:v<=65535) (W:ai)=>YB.1 W v h);have tv:=I (λ(z:Int) (am:hI z) (h:z<0\/65535<z) (W:ai)=>YB.2 W z am h);clear aj cW;go_enter func61,ntmps61
 go_wp2_with fail
 obtain⟨lE,bq,fQ,iA,ov,e2,e5,gR,es,dc,B2,aoM,Be⟩:=ar2 w 108 108 153 [.slice none 0 0,.slice none 0 0,.slice none 0 0] [.slice none 0 0,.slice none 0 0,.slice none 0 0] [.pointer none,.int .u64 0,.int .i64 0];have dZ:dP lE iA 0 0 0:=by
  have h:=dP.new ((w.alloc (.cells #[.slice none 0 0,.slice none 0 0,.slice none 0 0] 108)).alloc (.cells #[.slice none 0 0,.slice none 0 0,.slice none 0 0] 108)) 153 (by decide);rw[ov]at h;rw[<-gR];have ap:((w.alloc (.cells #[.slice none 0 0,.slice none 0 0,.slice none 0 0] 108)).alloc (.cells #[.slice none 0 0,.slice none 0 0,.slice none 0 0] 108)).heap.size=w.heap.size+1+1:=by simp
  rw[ap]at h;exact h
 rw[ov,gR,e5,e2];refine(CG.out _).mono ?_;rintro e aB ⟨rfl,aI⟩;obtain⟨eN,fZ⟩:∃eN,aB.heap.size=eN:=⟨_,rfl⟩;obtain⟨B,bu⟩:∃B,eN+1=B:=⟨_,rfl⟩;have dA:=(Below.refl aB.heap.size aB).alloc bh (.cells #[.int .i64 1,.int .i64 2,.int .i64 4] 154);have Ph:=Row.new aB 154 [.int .i64 1,.int .i64 2,.int .i64 4];rw[fZ]at Ph;have aQ:lV w (aB.alloc (.cells #[.int .i64 1,.int .i64 2,.int .i64 4] 154)) B bq fQ iA eN (List.replicate 3 (.slice none 0 0)) (λj=>gk j []) [] (1,2,4):=by
  have gT:=aI.size;refine⟨(dc.below aI).below dA,(B2.below aI).below dA,rfl,mr.OJ _ _ _ (λs=>by simp[gk]),(dZ.below aI).below dA,Ph,?_,?_⟩
  .exact(Be.trans (aI.mono (by omega))).trans (dA.mono (by omega))
  .rw[World.size_alloc];omega
 have cb:=I aQ;have h2:=I fZ;clear aI dA Ph aQ fZ dc B2 aoM dZ Be ov e2 e5 gR es CG bu;go_wp2;rw[h2.out];generalize aB.alloc (.cells #[.int .i64 1,.int .i64 2,.int .i64 4] 154)=dv at *;clear h2;obtain⟨n,az⟩:∃n,n=l.length:=⟨_,rfl⟩;have bX:=I az;rw[<-az]at hl ⊢;clear az;go_loopw [9,10,11,12,13,14,15,16,17,18,22] (λ_ _ _ _ _ _ _ _ _ _ i wr=>∃(k:Nat) (us:b3),i=.int .i64 k/\k<=n/\Hid (∀s∈l.take k,oi s) /\
  Hid (lV w wr B bq fQ iA eN us (λj=>gk j (cE (1,2,4) (l.take k))) (cE (1,2,4) (l.take k)).flatten (mT (1,2,4) (l.take k)))) (λ_ _ _ _ _ _ _ _ _ _ i _=>n-(intOf i).toNat)
 case atStart=>exact⟨0,_,rfl,zero_le _,I (by simp),cb⟩
 case round=>
  obtain⟨k,us,rfl,hk,hall,aQ⟩:=hrel;clear cb;by_cases lj:k<n
  .have vj:decide ((k:Int)<n)=true:=cl;have bb:k<l.length:=by rw[<-bX.out];exact lj
   obtain⟨g,off,rfl,aD,hc⟩:=(aU.out.below aQ.out.dy) (by omega);obtain⟨c0,c1,c2⟩:=hc k bb;obtain⟨x,m,o,ap⟩:∃x m o,l[k]=(x,m,o):=⟨_,_,_,rfl⟩;have bU:=I ap;obtain⟨rB,Ip,OW⟩:=iQ.out l[k] (b7 bb);rw[ap]at c0 c1 c2 rB Ip OW;simp only at c0 c1 c2 rB Ip OW;have ek:Hid (l.take (k+1)=l.take k++[(x,m,o)]):=I (by rw[take_add_one,bH bb,ap];rfl);have sV:=aQ.out.below ((Below.refl wr.heap.size wr).alloc bh (.cells #[.int .i64 x,.int .i64 m,.int .i64 o] 118));obtain⟨lu,kn,ko⟩:=dE sV.lr;have Nt:=aam (l.take k) (1,2,4) ⟨by decide,by decide,by decide⟩ hall.out;obtain⟨e7,cX,iF⟩:=aan Nt;obtain⟨N,cV⟩:∃N,N=cE (1,2,4) (l.take k):=⟨_,rfl⟩;have g6:=I cV;have Ae:Hid (cE (1,2,4) (l.take (k+1))=N++[qL (mT (1,2,4) (l.take k)) (x,m,o)]/\mT (1,2,4) (l.take (k+1))=hx (mT (1,2,4) (l.take k)).1 (mT (1,2,4) (l.take k)).2.1 (mT (1,2,4) (l.take k)).2.2 o):=I (by rw[ek.out,ZA,aal,cV];exact⟨rfl,rfl⟩);rw[<-cV]at sV;generalize mT (1,2,4) (l.take k)=r at *;have tH:=I sV;clear hc ap aQ sV cV;by_cases b8:1<=o/\o<=65533
   .have ce:=I (λW=>aop W r.1 r.2.1 r.2.2 (x,m,o) e7 cX iF b8);dsimp only at ce;have bw:=Ij r.1 r.2.1 r.2.2 o b8.1 b8.2;obtain⟨⟨eb,bN,rc⟩,VB⟩:∃r',r'=hx r.1 r.2.1 r.2.2 o:=⟨_,rfl⟩;rw[<-VB]at ce Ae;have XQ:qL r (x,m,o)=[x.toNat,(m-3).toNat,(ht r.1 r.2.1 r.2.2 o).toNat]:=rfl;rw[XQ]at Ae;obtain⟨z2,Yl⟩:∃z2,z2=ht r.1 r.2.1 r.2.2 o:=⟨_,rfl⟩;rw[<-Yl]at ce Ae bw;have kT:=atc m Ip;obtain⟨gl,NV⟩:∃gl,gl=IntKind.i64.wrap (m-3):=⟨_,rfl⟩;rw[<-NV]at ce kT;have Gi:=I kT;have R2:Hid (hI gl):=I (by rw[NV];exact atd m Ip);dsimp only at ce;clear VB XQ Yl NV kT e7 cX iF Nt;go_wp2_with fail
    refine(ce.out _).mono ?_;rintro e a1 ⟨rfl,bz⟩;have ug:=tH.out.below bz;have M1:=ug.low;obtain⟨qi,o9⟩:∃qi,a1.heap.size=qi:=⟨_,rfl⟩;have rt:=Row.new (a1.alloc (.cells #[.int .i64 x,.int .i64 gl,.int .i64 z2] 30)) 154 [.int .i64 eb,.int .i64 bN,.int .i64 rc];have II:=(Row.new a1 30 [.int .i64 x,.int .i64 gl,.int .i64 z2]).alloc (.cells #[.int .i64 eb,.int .i64 bN,.int .i64 rc] 154);rw[World.size_alloc,o9]at rt;rw[o9]at II;have hb:=(ug.below ((Below.refl a1.heap.size a1).alloc bh (.cells #[.int .i64 x,.int .i64 gl,.int .i64 z2] 30))).below ((Below.refl _ (a1.alloc (.cells #[.int .i64 x,.int .i64 gl,.int .i64 z2] 30))).alloc bh (.cells #[.int .i64 eb,.int .i64 bN,.int .i64 rc] 154));have kN:=I hb;have Ga:=I rt;have nb:=I II;have wB:=I o9;obtain⟨t0,t1,t2⟩:=dE hb.lr;have f0:=hb.lr.free 0;have f1:=hb.lr.free 1;have f2:=hb.lr.free 2;obtain⟨ur,gy,ft⟩:=dE rt;obtain⟨ml,cj,cn⟩:=dE II;have b4:qi+1≠eN:=by omega
    have bT:qi≠eN:=by omega
    rw[<-o9]at ur gy ft ml cj cn b4 bT;clear bz ug hb rt II o9 M1 ce tH lu kn ko c0 c1 c2;go_wp2;rw[wB.out];have sW:=kN.out.turn eb bN rc;have Sp:Hid (lV w (((((a1.alloc (.cells #[.int .i64 x,.int .i64 gl,.int .i64 z2] 30)).alloc (.cells #[.int .i64 eb,.int .i64 bN,.int .i64 rc] 154)).setCell ⟨eN,0,none⟩ (.int .i64 eb)).setCell ⟨eN,1,none⟩ (.int .i64 bN)).setCell ⟨eN,2,none⟩ (.int .i64 rc)) B bq fQ iA eN us (k7 N []) (N.flatten++[]) (eb,bN,rc)):=I (by
     rw[append_nil];exact sW.congr (λs _=>aeH N s))
    clear sW kN Ga nb wB t0 t1 t2 f0 f1 f2 ur gy ft ml cj cn b4 bT;generalize ((((a1.alloc (.cells #[.int .i64 x,.int .i64 gl,.int .i64 z2] 30)).alloc (.cells #[.int .i64 eb,.int .i64 bN,.int .i64 rc] 154)).setCell ⟨eN,0,none⟩ (.int .i64 eb)).setCell ⟨eN,1,none⟩ (.int .i64 bN)).setCell ⟨eN,2,none⟩ (.int .i64 rc)=wq at *;have FC:Hid ((∀v∈N.flatten,v<=65535)/\N.flatten.length<=3*700/\N.length<=700):=I (by
     rw[g6.out,Dy,BV,cq];exact⟨BW _ _ hall.out,by omega,by omega⟩)
    rename ai=>tp
    go_loopw [13,14,15,16,17,18,38] (λ_ _ _ _ _ _ i wr=>∃(j:Nat) (vs:ae) (us:b3),i=.int .i64 j/\j<=3/\Hid (vs.length=j)/\Hid (∀v∈vs,v<=65535)/\Hid ([x,gl,z2].take j=vs.map λv:Nat=>(v:Int)) /\
     Hid (lV w wr B bq fQ iA eN us (k7 N vs) (N.flatten++vs) (eb,bN,rc))) (λ_ _ _ _ _ _ i _=>3-(intOf i).toNat)
    case atStart=>exact⟨0,[],us,rfl,by omega,I rfl,I (by simp),I rfl,Sp⟩
    case round=>
     obtain⟨j,vs,us,rfl,ar,ui,vS,BM,aQ⟩:=hrel;clear Sp;by_cases zf:j<3
     .have o4:(j:Int)<3:=by omega
      obtain⟨z,aO⟩:∃z,[x,gl,z2][j]?=some z:=⟨_,bH (by simpa using zf)⟩;have hidx:=akQ x gl z2 z j aO;have iT:=I aO;have N0:hI z:=by
       rcases(by omega:j=0\/j=1\/j=2)with rfl | rfl | rfl
       .simp at aO;subst aO;exact rB
       .simp at aO;subst aO;exact R2.out
       .simp at aO;subst aO;unfold hI;omega
      have hu:∃u,us[j]?=some u:=⟨_,bH (by rw[aQ.out.len];exact zf)⟩;obtain⟨u,hu⟩:=hu;have w3:=I hu;clear aO hu;by_cases bB:0<=z/\z<=65535
      .obtain⟨v,rfl⟩:∃v:Nat,z=(v:Int):=⟨z.toNat,by omega⟩;have aE:v<=65535:=by omega
       have ce:=I (λW=>Cx.out v aE W);have ho:=(Dm v aE).2.1;have ri:IntKind.u32.wrap ((mj v:Nat):Int)=((mj v:Nat):Int):=by rw[IntKind.wrap_u32];omega
       have mA:=I (λW h=>Iz iA v (N.flatten++vs) W aE (λq hq=>(List.mem_append.1 hq).elim (FC.out.1 q) (vS.out q)) (by rw[aY,ui.out];have:=FC.out.2.1;omega) h);have fb:=I aQ.out;have cJ:(k7 N vs j).length<=701:=du (aeF N vs j) (by have:=FC.out.2.2;omega);clear bB aQ N0 Cx tv;go_wp2_with fail
       refine(ce.out _).mono ?_;rintro e bA ⟨rfl,a8⟩;have hb:=fb.out.below a8;have c5:=(hb.all.cell j).trans w3.out;have wO:=I (hb.l5.own j u w3);have zC:=hb.low;have kN:=I hb;clear a8 hb fb ce;generalize jO:mH v=hU at *;go_wp2_with (at_builtin;refine wpList_append_lies _ rfl _ _ 87 rfl B 5 i0 (.int .u8 0) 1 1 underlying87 ax akG uj oE rfl (by decide) _ _ _ rfl (wO.out.alloc _) ⟨bA.heap.size,0,none⟩ 1 1 [.int .u8 hU] rfl rfl ?d1 ?d2 (by decide) ?d3 ?d4 ?d5 _ rfl ?_)
       case d1=>
        intro j u ar;match j,ar with
        | 0,ar=>simp at ar;subst ar;simp[Addr.add]
       case d2=>intro u hu;simp at hu;subst hu;rfl
       case d3=>unfold maxLen;omega
       case d4=>omega
       case d5=>simp;omega
       intro g7 Tt dt di dn Hv WF;have sW:=kN.out.below ((Below.refl bA.heap.size bA).alloc bh (.cells #[.int .u8 hU] 5));have happ:=aeG N vs v;rw[jO,ui.out]at happ;have ot:aN (k7 N vs j)++[Value.int .u8 hU]=aN (k7 N (vs++[v]) j):=by rw[happ];simp[aN]
       rw[ot]at di;have Wy:(k7 N (vs++[v]) j).length=(k7 N vs j).length+1:=by rw[happ];simp
       have BE:=sW.app (se:=k7 N (vs++[v])) w3.out dn (by rw[World.size_alloc];exact Hv) di Wy (λt aC=>aeI N vs v t (by rw[ui.out];exact aC));have ajJ:=sW.low;have WQ:∀q,q<B->u.ownBlock≠some q:=λq hq e=>by have:=(wO.out.lt q e).1;omega
       have Pg:=sW.all.keep (dn.block fQ (by omega) (λe=>WQ fQ (by omega) e.symm));have K7:=(Pg.cell j).trans w3.out;have f7:=Pg.free j;have yC:=I BE;have R3:=I (mA.out _ BE.wr);clear di dn Hv WF sW happ ot Wy BE ajJ WQ Pg wO kN c5 mA;go_wp2_with fail
       refine R3.out.mono ?_;rintro e oQ ⟨rfl,Yb,Bl⟩;have qe:=I (yC.out.put Bl Yb);clear Yb Bl yC R3 K7 f7;go_wp2;go_roundw
       case rel=>
        refine⟨j+1,vs++[v],_,by go_num,by omega,I (by rw[aY,ui.out];rfl),I (λq hq=>?_),I ?_,by rw[<-dj];exact qe⟩
        .rcases List.mem_append.1 hq with hq | hq
         .exact vS.out q hq
         .rw[List.mem_singleton.1 hq];exact aE
        .rw[take_add_one,iT.out,BM.out,map_append];rfl
       case measure=>simp[intOf];omega
      .have EB:z<0\/65535<z:=by omega
       have ce:=I (λW=>tv.out z N0 EB W);have p8:Hid (¬∀s∈l,oi s):=I (λh=>by
        have hm:=h (x,m,o) (by rw[<-bU.out];exact b7 bb);obtain⟨m1,m2,m3,m4,m5,m6⟩:=hm;dsimp only at m1 m2 m3 m4 m5 m6;have aO:=iT.out;have hd:=Gi.out.1 ⟨m3,m4⟩;rcases(by omega:j=0\/j=1\/j=2)with rfl | rfl | rfl
        .simp at aO;omega
        .simp at aO;omega
        .simp at aO;omega)
       have fb:=I aQ.out;clear bB aQ N0 Cx tv EB w3;go_wp2_with fail
       refine(ce.out _).mono ?_;rintro e bA ⟨rfl,a8⟩;have hb:=fb.out.below a8;obtain⟨d0,d1,d2⟩:=dE hb.res;have f0:=hb.res.free 0;have f1:=hb.res.free 1;have f2:=hb.res.free 2;have zl:=hb.low;have iK:=((hb.res.bm 0 (.slice none 0 0)).bm 1 (.slice none 0 0)).bm 2 (.slice none 0 0);simp only[set_cons_zero,set_cons_succ]at iK;obtain⟨s0,s1,s2⟩:=dE iK;have cI:=I (⟨s0,s1,s2⟩:_/\_/\_);have Jw:=I (((hb.dy.setCell (p:=⟨bq,0,none⟩) zl.1 (.slice none 0 0)).setCell (p:=⟨bq,1,none⟩) zl.1 (.slice none 0 0)).setCell (p:=⟨bq,2,none⟩) zl.1 (.slice none 0 0));clear a8 hb iK s0 s1 s2 ce fb;go_wp2;obtain⟨s0,s1,s2⟩:=cI.out;refine bodyPost_ret (v:=.tuple #[.agg #[.slice none 0 0,.slice none 0 0,.slice none 0 0],.slice none 0 0,.bool false]) (by simp[results,results61,go_sem,s0,s1,s2]) rfl ⟨?_,Jw.out⟩;rw[wx.out];show rP _ _ l;unfold rP;rw[ay p8.out]
     .have vH:j=3:=by omega
      subst vH;have N2:=BM.out;rw[show [x,gl,z2].take 3=[x,gl,z2]from rfl]at N2;obtain⟨v0,v1,v2,BJ⟩:∃v0 v1 v2,vs=[v0,v1,v2]:=by
       match vs,ui.out with
       | [a,b,c],_=>exact⟨a,b,c,rfl⟩
      subst BJ;simp only[map_cons,map_nil,List.cons.injEq,and_true]at N2;obtain⟨ex,aF,e2⟩:=N2;have bD:=vS.out v0 (by simp);have bP:=vS.out v1 (by simp);have zp:=Gi.out.2 (by omega);have hd:=Gi.out.1 zp;have DR:Hid (∀s∈l.take (k+1),oi s):=I (λs ap=>by
       rw[ek.out]at ap;rcases List.mem_append.1 ap with ap | ap
       .exact hall.out s ap
       .rw[List.mem_singleton.1 ap];unfold oi;dsimp only;omega)
      have X1:[x.toNat,(m-3).toNat,z2.toNat]=[v0,v1,v2]:=by
       rw[<-hd,ex,aF,e2];simp
      have Hm:=Ae.out;rw[X1]at Hm;have wZ:Hid (lV w wr B bq fQ iA eN us (λj=>gk j (cE (1,2,4) (l.take (k+1)))) (cE (1,2,4) (l.take (k+1))).flatten (mT (1,2,4) (l.take (k+1)))):=I (by
       rw[Hm.1,Hm.2,flatten_append,flatten_singleton];exact aQ.out.congr (λs ap=>(aeD N [v0,v1,v2] s (by simpa using ap)).symm))
      clear aQ X1 Hm hd zp bD bP ex aF e2 BM ui vS Ae FC Gi R2 g6 ek;go_wp2;go_roundw
      case rel=>exact⟨k+1,us,by go_num,by omega,DR,wZ⟩
      case measure=>simp[intOf];omega
   .have ce:=I (λW=>aoo W r.1 r.2.1 r.2.2 (x,m,o) e7 cX iF OW b8);dsimp only at ce;have p8:Hid (¬∀s∈l,oi s):=I (λh=>by
     have hm:=h (x,m,o) (by rw[<-bU.out];exact b7 bb);exact b8 ⟨hm.2.2.2.2.1,hm.2.2.2.2.2⟩)
    have fb:=tH;clear tH e7 cX iF Nt b8 Ae g6 ek Cx tv;generalize IntKind.i64.wrap (m-3)=gl at *;go_wp2_with fail
    refine(ce.out _).mono ?_;rintro e bA ⟨rfl,a8⟩;have hb:=fb.out.below a8;have hb:=(hb.below ((Below.refl bA.heap.size bA).alloc bh (.cells #[.int .i64 x,.int .i64 gl,.int .i64 0] 30))).below ((Below.refl _ (bA.alloc (.cells #[.int .i64 x,.int .i64 gl,.int .i64 0] 30))).alloc bh (.cells #[.int .i64 r.1,.int .i64 r.2.1,.int .i64 r.2.2] 154));obtain⟨d0,d1,d2⟩:=dE hb.res;have f0:=hb.res.free 0;have f1:=hb.res.free 1;have f2:=hb.res.free 2;have zl:=hb.low;have iK:=((hb.res.bm 0 (.slice none 0 0)).bm 1 (.slice none 0 0)).bm 2 (.slice none 0 0);simp only[set_cons_zero,set_cons_succ]at iK;obtain⟨s0,s1,s2⟩:=dE iK;have cI:=I (⟨s0,s1,s2⟩:_/\_/\_);have Jw:=I (((hb.dy.setCell (p:=⟨bq,0,none⟩) zl.1 (.slice none 0 0)).setCell (p:=⟨bq,1,none⟩) zl.1 (.slice none 0 0)).setCell (p:=⟨bq,2,none⟩) zl.1 (.slice none 0 0));clear a8 hb iK s0 s1 s2 ce fb;go_wp2_with fail
    generalize (bA.alloc (.cells #[.int .i64 x,.int .i64 gl,.int .i64 0] 30)).alloc (.cells #[.int .i64 r.1,.int .i64 r.2.1,.int .i64 r.2.2] 154)=qM at *;go_wp2;obtain⟨s0,s1,s2⟩:=cI.out;refine bodyPost_ret (v:=.tuple #[.agg #[.slice none 0 0,.slice none 0 0,.slice none 0 0],.slice none 0 0,.bool false]) (by simp[results,results61,go_sem,s0,s1,s2]) rfl ⟨?_,Jw.out⟩;rw[wx.out];show rP _ _ l;unfold rP;rw[ay p8.out]
  .have hkn':k=n:=by omega
   subst hkn';have vj:decide ((k:Int)<k)=false:=aT;have fj:l.take k=l:=by rw[bX.out,take_length]
   have DR:=hall.out;rw[fj]at DR;have jS:=aQ.out;rw[fj]at jS;have od:=I DR;have cb:=I jS;clear hall aQ DR jS fj Cx tv;obtain⟨u0,u1,u2,uh⟩:∃u0 u1 u2,us=[u0,u1,u2]:=by
    match us,cb.out.len with
    | [a,b,c],_=>exact⟨a,b,c,rfl⟩
   subst uh;have mP:=cb.out.low;have un:=cb.out.l5.own 0 u0 rfl;have uo:=cb.out.l5.own 1 u1 rfl;have qD:=cb.out.l5.own 2 u2 rfl;have cm:∀j,(gk j (cE (1,2,4) l)).length=k:=λj=>by rw[gk,cQ,BV,bX.out]
   rw[cm]at un uo qD;obtain⟨gd,bC,rfl,kS,yT⟩:=kU un;obtain⟨eI,bf,rfl,cd,vp⟩:=kU uo;obtain⟨fa,bM,rfl,bS,vq⟩:=kU qD;have gv:=(BZ un).1;have eu:=(BZ uo).1;have fy:=(BZ qD).1;have pO:(dT (cE (1,2,4) l).flatten).2<=100000:=by
    have h1:=Gt _ (BW l (1,2,4) od);rw[Dy]at h1;have:=bX.out;omega
   have jX:=I (AS iA 0 _ _ wr.drew (by omega) cb.out.wr.drew);have dO:=I (⟨kS,cd,bS⟩:_/\_/\_);have ob:=I (⟨λa e=>(yT a e).1,λa e=>(vp a e).1,λa e=>(vq a e).1⟩:(∀a,gd=some a->B<=a.block)/\(∀a,eI=some a->B<=a.block)/\(∀a,fa=some a->B<=a.block));have oc:=I (⟨gv,eu,fy⟩:k<=bC/\k<=bf/\k<=bM);obtain⟨a0,ie,a2⟩:=dE cb.out.all;have dY:(kf (cE (1,2,4) l)).length=((dT (cE (1,2,4) l).flatten).2+7)/8:=by rw[kf,ao.bytesOf_length]
   have xr:ao.bytesOf (dT (cE (1,2,4) l).flatten).1 (((dT (cE (1,2,4) l).flatten).2+7)/8)=kf (cE (1,2,4) l):=rfl;rw[xr,<-dY]at jX;clear un uo qD cm kS cd bS yT vp vq gv eu fy pO dY xr;generalize Mv:kf (cE (1,2,4) l)=q3 at *;have p7:=I Mv;clear Mv;go_upto_region 21 with fail
   refine wp_region_held_drew (S:=(λW:ai=>W.cell? ⟨fQ,0,none⟩=some (.slice gd k bC)/\W.cell? ⟨fQ,1,none⟩=some (.slice eI k bf)/\W.cell? ⟨fQ,2,none⟩=some (.slice fa k bM))) (by kernel_rfl) (by exact⟨a0,ie,a2⟩) (λhHeld=>?_);refine ch 0 {dst:=some 66,op:=.load 108 (.tmp 5),type:=108,pos:= "seqs.go:80",after:=#[],guard:=none} ?_ rfl (Or.inl ⟨by rfl,?_⟩) ?_;rotate_left
   ·(intro w hSw;(try dsimp only at hSw);go_simp;(try with_reducible rfl))
   try simp only[bx]
   refine iq 1 {dst:=some 67,op:=.call {callee:=.value (.func 100),args:=#[.tmp 6],argTypes:=#[153]},type:=87,pos:= "seqs.go:80",after:=#[],guard:=none} rfl (λK hK=>?_);go_simp
   (go_at_call 100;refine jX.out.mono ?_;rintro e oQ ⟨g,rfl,fq,Xl,lf⟩;have hP:=I ((Below.refl wr.heap.size wr).drew.trans (lf.mono bh));have QH:=I Xl;have FA:=I fq;clear fq Xl lf)
   go_simp;refine hK.out _ _ (by exact dE (cb.out.below hP).all) (λhHeld=>?_);clear hK K
   try simp only[bx]
   have BF:=cb.out.below hP.out;obtain⟨d0,d1,d2⟩:=dE BF.res;have f0:=BF.res.free 0;have f1:=BF.res.free 1;have f2:=BF.res.free 2;have qe:=I BF;clear BF;refine iq 2 {dst:=none,op:=.store 108 (.tmp 2) (.tmp 66),type:=0,pos:= "seqs.go:80",after:=#[{on:=0,ground:=.data},{on:=1,ground:=.chain},{on:=0,ground:=.phase},{on:=1,ground:=.textOnly Go.Departure.lateStoresUnsure}],guard:=none} rfl (λK hK=>?_);go_simp;refine hK.out _ _ (by exact dE (((qe.out.all.cG (p:=⟨bq,0,none⟩) (by show fQ≠bq;omega) (.slice gd k bC)).cG (p:=⟨bq,1,none⟩) (by show fQ≠bq;omega) (.slice eI k bf)).cG (p:=⟨bq,2,none⟩) (by show fQ≠bq;omega) (.slice fa k bM))) (λhHeld=>?_);clear hK K
   try simp only[bx]
   refine ch 3 {dst:=some 3,op:=.assign (.tmp 67),type:=87,pos:= "seqs.go:80",after:=#[{on:=1,ground:=.data},{on:=2,ground:=.chain},{on:=0,ground:=.phase},{on:=1,ground:=.phase},{on:=2,ground:=.phase}],guard:=none} ?_ rfl (Or.inl ⟨by rfl,?_⟩) ?_;rotate_left
   ·(intro w hSw;(try dsimp only at hSw);go_simp;(try with_reducible rfl))
   try simp only[bx]
   refine ch 4 {dst:=some 4,op:=.assign (.const (.bool true)),type:=4,pos:= "seqs.go:80",after:=#[{on:=3,ground:=.chain},{on:=0,ground:=.phase},{on:=1,ground:=.phase},{on:=2,ground:=.phase},{on:=3,ground:=.phase}],guard:=none} ?_ rfl (Or.inl ⟨by rfl,?_⟩) ?_;rotate_left
   ·(intro w hSw;(try dsimp only at hSw);go_simp;(try with_reducible rfl))
   try simp only[bx]
   refine wpAnyH_done (by kernel_rfl) ?_ _;have Pj:=((qe.out.res.bm 0 (.slice gd k bC)).bm 1 (.slice eI k bf)).bm 2 (.slice fa k bM);simp only[set_cons_zero,set_cons_succ]at Pj;have acs:=I (((qe.out.dy.setCell (p:=⟨bq,0,none⟩) mP.1 (.slice gd k bC)).setCell (p:=⟨bq,1,none⟩) mP.1 (.slice eI k bf)).setCell (p:=⟨bq,2,none⟩) mP.1 (.slice fa k bM));have rg:Row (((oQ.setCell ⟨bq,0,none⟩ (.slice gd k bC)).setCell ⟨bq,1,none⟩ (.slice eI k bf)).setCell ⟨bq,2,none⟩ (.slice fa k bM)) g 5 (aN q3):=by
    have lM:g≠bq:=by have:=FA.out;simp at this;omega
    exact((QH.out.cG (p:=⟨bq,0,none⟩) lM (.slice gd k bC)).cG (p:=⟨bq,1,none⟩) lM (.slice eI k bf)).cG (p:=⟨bq,2,none⟩) lM (.slice fa k bM)
   have rd:∀(A:a7) (ag:ae),(∀a,A=some a->B<=a.block)->Reads wr A (aN ag)->Reads (((oQ.setCell ⟨bq,0,none⟩ (.slice gd k bC)).setCell ⟨bq,1,none⟩ (.slice eI k bf)).setCell ⟨bq,2,none⟩ (.slice fa k bM)) A (aN ag):=λA ag hA h=>by
    have aX:∀a,A=some a->a.block≠bq:=λa e=>by have:=hA a e;omega
    exact E5 (E5 (E5 (c9 h hP) aX (o8 _ ⟨bq,0,none⟩ _)) aX (o8 _ ⟨bq,1,none⟩ _)) aX (o8 _ ⟨bq,2,none⟩ _)
   have FD:=I (⟨rd gd _ ob.out.1 dO.out.1,rd eI _ ob.out.2.1 dO.out.2.1,rd fa _ ob.out.2.2 dO.out.2.2,oK rg⟩:_/\_/\_/\_);obtain⟨s0,s1,s2⟩:=dE Pj;have cI:=I (⟨s0,s1,s2⟩:_/\_/\_);clear Pj rg rd s0 s1 s2 qe cb hP QH FA dO ob a0 ie a2 d0 d1 d2 f0 f1 f2 hHeld jX;generalize ((oQ.setCell ⟨bq,0,none⟩ (.slice gd k bC)).setCell ⟨bq,1,none⟩ (.slice eI k bf)).setCell ⟨bq,2,none⟩ (.slice fa k bM)=x4 at *;go_wp2;obtain⟨s0,s1,s2⟩:=cI.out;refine bodyPost_ret (v:=.tuple #[.agg #[.slice gd k bC,.slice eI k bf,.slice fa k bM],.slice (some ⟨g,0,none⟩) q3.length q3.length,.bool true]) (by simp[results,results61,go_sem,s0,s1,s2]) rfl ⟨?_,acs.out⟩;rw[wx.out];show rP _ _ l;unfold rP;rw[aA od.out,<-bX.out,p7.out];exact⟨gd,bC,eI,bf,fa,bM,some ⟨g,0,none⟩,q3.length,rfl,oc.out.1,oc.out.2.1,oc.out.2.2,FD.out.1,FD.out.2.1,FD.out.2.2.1,FD.out.2.2.2⟩
namespace ao
theorem KY(X m:Nat)(h:X<2^m):(∀x∈bitsOf X m,x=0)↔X=0:=by
 constructor
 .intro aO;apply eq_of_testBit_eq
  intro i;rw[zero_testBit,testBit_eq_decide_div_mod_eq];apply bF
  rcases eP i m with ax | ax
  .have h1:=afc X m i ax;have af:=aO _ (mem_of_getElem? h1);omega
  .rw[div_eq_of_lt (gV h (dD (by omega) ax))];simp
 .rintro rfl x ah;obtain⟨i,ax,rfl⟩:=getElem_of_mem ah;rw[l3,Nat.zero_div]
theorem apt(V len left:Nat)(bY:V<2^len)(hl:left<=len):decide (((bitsOf V len).drop (len-left)).length<8/\∀x∈(bitsOf V len).drop (len-left),x=0)=qG V len left:=by
 unfold qG;have av:V/2^(len-left)<2^(len-(len-left)):=by
  rw[div_lt_iff_lt_mul (eW _),<-dM,show len-(len-left)+(len-left)=len by omega];exact bY
 have aO:=KY _ _ av;rw[Tb,hf,show len-(len-left)=left by omega]at *;exact decide_eq_decide.2 ⟨λh=>⟨h.1,aO.1 h.2⟩,λh=>⟨h.1,aO.2 h.2⟩⟩
end ao
theorem GL(w:ai)(l:ae)(av:∀x∈l,x<256):∃aB g c,(convert 9 87 (.string (strOf l))).run prog w=.ok (.slice (some ⟨g,0,none⟩) l.length c) aB /\
  Reads aB (some ⟨g,0,none⟩) (aN l)/\(∀a,some (⟨g,0,none⟩:Addr)=some a->0<l.length->a.block<aB.heap.size)/\Below w.heap.size w aB:=by
 obtain⟨aB,cap,h,hc,ak⟩:=oo w l av;refine⟨aB,_,cap,h,λ_=>⟨_,0,rfl,λj ar=>?_⟩,λa e am=>?_,ak⟩
 .rw[jn]at ar;rw[eH,hc j ar,jF l j ar]
 .injection e with e
  subst e;exact TA (hc 0 am)
def oj(w':ai)(e:Ending):Option (ae×Nat)->Prop
 | none=>e=.returned (.tuple #[.slice none 0 0,.int .i64 0])
 | some r=>∃A c,e=.returned (.tuple #[.slice A r.1.length c,.int .i64 (r.2:Int)])/\Reads w' A (aN r.1)
theorem aoS(A:a7)(c:Nat)(bs:ae)(w:ai)(az:bs.length<=100000)(cr:∀b∈bs,b<256)(aj:Reads w A (aN bs))(hA:∀a,A=some a->0<bs.length->a.block<w.heap.size) :
  Calls prog 80 #[.slice A bs.length c] w λe w'=>∃de df,e=.returned (.slice de (8*bs.length) df)/\8*bs.length<=df/\df<=maxLen/\Reads w' de (aM (ao.bitsOf (bd bs) (8*bs.length)))/\Below w.heap.size w w':=by
 refine(IE A c bs w az cr aj hA).mono ?_;rintro e w' ⟨u,rfl,b8,dY⟩;obtain⟨de,df,re,hcm',hmx,_⟩:=OZ b8;obtain⟨fa,c2,hform,bp,_⟩:=kU b8;rw[re]at hform;injection hform with aF e2 e3
 subst aF e3;exact⟨de,df,by rw[re],hcm',hmx,bp,dY⟩
theorem aqE(l:ae)(n:Nat)(w:ai)(aC:∀W,Calls prog 79 #[.string (strOf l)] W λe w'=>Gp e none/\Below W.heap.size W w') :
  Calls prog 120 #[.string (strOf l),.int .i64 n] w λe w'=>oj w' e none/\Below w.heap.size w w':=by
 have eM:=I aC;clear aC;generalize strOf l=wm at *;go_enter func120,ntmps120
 go_wp2_with fail
 refine(eM.out _).mono ?_;rintro e au ⟨rfl,aH⟩;have aK:=I aH;clear aH eM;go_wp2;go_ret2;exact⟨rfl,aK⟩
theorem aqF(s s1 st:ByteArray)(k:Nat)(n:Nat)(w:ai)(am:0<k)(hk:k<=100000)
  (aC:∀W,Calls prog 79 #[.string s] W λe w'=>e=.returned (.tuple #[.string st,.int .i64 k])/\Below W.heap.size W w')
  (fL:∀W:ai,(Instr.slice 9 (.string s) (some (.int .i64 k)) none none).run prog W=.ok (.string s1) W)
  (i7:∀W,Calls prog 79 #[.string s1] W λe w'=>Gp e none/\Below W.heap.size W w') :
  Calls prog 120 #[.string s,.int .i64 n] w λe w'=>oj w' e none/\Below w.heap.size w w':=by
 have eM:=I aC;have fC:=I i7;have d0:((k:Int) == 0)=false:=cz
 clear aC i7 am;go_enter func120,ntmps120
 go_wp2_with fail
 refine(eM.out _).mono ?_;rintro e au ⟨rfl,aH⟩;have aK:=I aH;clear aH eM;go_wp2_with fail
 refine(fC.out _).mono ?_;rintro e aB ⟨rfl,aI⟩;have aV:=b9 aK aI;clear aI fC aK;go_wp2;go_ret2;exact⟨rfl,aV⟩
theorem aqD(s s1:ByteArray)(aG bQ:ae)(k bM:Nat)(n:Nat)(w:ai)(am:0<k)(hk:k<=100000)(ah2:0<bM)(fy:bM<=100000)(az:n<=100000)(xx:aG.length<=4096)(dY:bQ.length<=4096)
  (za:∀x∈aG,x<256) (hblt:∀x∈bQ,x<256)
  (aC:∀W,Calls prog 79 #[.string s] W λe w'=>e=.returned (.tuple #[.string (strOf aG),.int .i64 k])/\Below W.heap.size W w')
  (fL:∀W:ai,(Instr.slice 9 (.string s) (some (.int .i64 k)) none none).run prog W=.ok (.string s1) W)
  (i7:∀W,Calls prog 79 #[.string s1] W λe w'=>e=.returned (.tuple #[.string (strOf bQ),.int .i64 bM])/\Below W.heap.size W w') :
  Calls prog 120 #[.string s,.int .i64 n] w λe w'=>oj w' e (match ao.headD aG with | none=>none | some h=>(iX h.1 h.2 bQ (n:Int)).map λc=>(c,k+bM))/\Below w.heap.size w w':=by
 have eM:=I aC;have fC:=I i7;have d0:((k:Int) == 0)=false:=cz
 have d2:((bM:Int) == 0)=false:=cz
 have rn:(k:Int)+bM=((k+bM:Nat):Int):=by omega
 have atY:k+bM<=200000:=by omega
 generalize k+bM=dI at *;have k0:=I (λW=>GL W aG za);have gp:=I (λW=>GL W bQ hblt);have jZ:=I (λW A c (h:Reads W A (aN aG)) (hA:∀a,A=some a->0<aG.length->a.block<W.heap.size)=>aoS A c aG W (by omega) za h hA);have bY:=po aG za;rw[ib]at bY;obtain⟨len,hlen⟩:∃len,len=8*aG.length:=⟨_,rfl⟩;have hres:ao.headD aG=(match ao.takeA (bd aG) (8*aG.length)with | none=>none | some t=>if qG (bd aG) (8*aG.length) t.2.2=true then some (t.1,t.2.1)else none):=rfl;have avU:len<=40000:=by omega
 rw[hres];rw[<-hlen]at bY jZ ⊢;obtain⟨res,aj⟩:∃res,res=(match (match ao.takeA (bd aG) len with | none=>none | some t=>if qG (bd aG) len t.2.2=true then some (t.1,t.2.1)else none)with | none=>none | some h=>(iX h.1 h.2 bQ (n:Int)).map λc=>(c,dI)):=⟨_,rfl⟩;rw[<-aj];have g6:Hid (ao.takeA (bd aG) len=none->res=none):=I (λh=>by rw[aj,h]);have jo:Hid (∀U bW left,ao.takeA (bd aG) len=some (U,bW,left)->qG (bd aG) len left=false->res=none):=I (λU bW left h h1=>by rw[aj,h];simp only[h1];simp);have uF:Hid (∀U bW left,ao.takeA (bd aG) len=some (U,bW,left)->qG (bd aG) len left=true->res=(iX U bW bQ (n:Int)).map λc=>(c,dI)):=I (λU bW left h h1=>by rw[aj,h];simp only[h1];simp);clear aj;have ek:=I (λW A c (hc:len<=c) (hj:c<=maxLen) (h:Reads W A (aM (ao.bitsOf (bd aG) len)))=>ah1 A c (bd aG) len W (by omega) hc hj h);have hfair:=λl bW e' (h:ao.takeA (bd aG) len=some (l,bW,e'))=>I2 _ _ l bW e' h
 have uL:=I (λ(A B:a7) (c d:Nat) (U:ae) (bW:Nat) (W:ai) (aL:ec U bW) (h1:Reads W A (c3 (nL U bW))) (af:Reads W B (aN bQ))=>ahR A B c d U bW bQ (n:Int) W aL (by omega) ⟨by omega,by omega⟩ hblt h1 af);clear za hblt hlen am ah2 aC i7 hres;generalize bd aG=V at *;have tt:=I dY;have atR:=I xx;clear dY xx;generalize aG.length=awS at *;generalize bQ.length=vY at *;generalize strOf aG=aw8 at *;generalize strOf bQ=xV at *;go_enter func120,ntmps120
 go_wp2_with fail
 refine(eM.out _).mono ?_;rintro e au ⟨rfl,aH⟩;have aK:=I aH;clear aH eM;go_wp2_with fail
 refine(fC.out _).mono ?_;rintro e aB ⟨rfl,aI⟩;have aV:=b9 aK aI;clear aI fC aK;obtain⟨a1,g3,ev,eD,vO,xn,bz⟩:=k0.out aB;have bE:=b9 aV bz;have oV:=I vO;have Qw:=I xn;clear vO xn bz aV k0;go_wp2_with fail
 refine(jZ.out a1 _ _ oV.out Qw).mono ?_;rintro e bA ⟨p4,c4,rfl,MZ,aiR,j6,a8⟩;have cx:=b9 bE a8;have q1:=I j6;clear j6 a8 bE jZ oV Qw eD;go_wp2_with fail
 refine(ek.out bA p4 c4 MZ aiR q1).mono ?_;rintro e dG ⟨xJ,cL⟩;have dh:=b9 cx cL;have na:=I (c9 q1.out cL);clear cL cx q1 ek;cases iH:ao.takeA V len with
 | none=>
  rw[iH]at xJ;unfold Js at xJ;dsimp only at xJ;subst xJ;have bt:=I (g6.out iH);clear hfair iH g6 jo uF;go_wp2;go_ret2;exact⟨by rw[bt.out];rfl,dh⟩
 | some t=>
  obtain⟨U,bW,left⟩:=t;rw[iH]at xJ;unfold Js at xJ;dsimp only at xJ ⊢;obtain⟨rN,vb,rfl,oz⟩:=xJ;obtain⟨kA,hle⟩:=hfair U bW left iH;obtain⟨q,hq⟩:∃q:Nat,q=len-left:=⟨_,rfl⟩;have zu:(len:Int)-left=q:=by omega
  have Np:((q:Int) == 0)=false:=cz
  have hrest:=apt V len left bY (by omega);rw[<-hq]at hrest;have kz:((ao.bitsOf V len).drop q).length=len-q:=by rw[cC,hf]
  have fe:=λW (h:Reads W p4 (aM (ao.bitsOf V len)))=>Z9 (nh p4 c4 q) (c4-q) ((ao.bitsOf V len).drop q) W (by omega) (Po h (by rw[hf];exact MZ))
  rw[hrest,kz]at fe;have c8:=I fe;have hcut:=λW=>Do p4 len c4 q W (by omega) MZ
  have MI:qp (U.map (λn:Nat=>(n:Int))) (bW:Int)=true:=by unfold qp;exact bG (Uq U bW kA)
  have MJ:=λW (h:Reads W rN (aM U))=>ajj rN vb (U.map (λn:Nat=>(n:Int))) (bW:Int) W (by rw[cQ];have:=kA.len;omega) (by rw[jT];exact h)
  rw[MI,cQ]at MJ;have J0:=I MJ;have JO:=I (λW (h:Reads W rN (aM U))=>ak0 rN vb U bW W kA h);have q2:=I oz;have vN:=kA.high;have avW:=kA.len;have Cy:=I (λA B c d W (h1:Reads W A (c3 (nL U bW))) (af:Reads W B (aN bQ))=>uL.out A B c d U bW W kA h1 af);rw[zu];have Jy:=I (jo.out U bW left iH);have Jx:=I (uF.out U bW left iH);clear hfair hle hq hrest kz fe MI MJ oz iH bY uL g6 jo uF;generalize nh p4 c4 q=atJ at *;generalize c4-q=at2 at *;generalize len-q=len' at *;cases cO:qG V len left with
  | false=>
   rw[cO]at c8;have bt:=I (Jy.out cO);clear cO J0 JO Cy Jy Jx;go_wp2_with fail
   refine(c8.out _ na).mono ?_;rintro e dp ⟨rfl,rfl⟩;clear c8;go_wp2;go_ret2;exact⟨by rw[bt.out];rfl,dh⟩
  | true=>
   rw[cO]at c8;have bt:=I (Jx.out cO);clear cO Jy Jx;go_wp2_with fail
   refine(c8.out _ na).mono ?_;rintro e dp ⟨rfl,rfl⟩;clear c8;go_wp2_with fail
   refine(J0.out _ q2).mono ?_;rintro e dp ⟨rfl,rfl⟩;clear J0;go_wp2_with fail
   refine(JO.out _ q2).mono ?_;rintro e dt ⟨g7,rfl,y9,Xk,fZ⟩;have h2:=b9 dh fZ;have F9:=I (oK Xk);clear fZ dh Xk JO y9 q2 na;obtain⟨oQ,g8,af3,eD,vP,aic,lf⟩:=gp.out dt;have uG:=b9 h2 lf;have adN:=I vP;have adV:=I (c9 F9.out lf);clear vP aic lf h2 F9 gp;obtain⟨S,cu⟩:∃S,S=2^bW:=⟨_,rfl⟩;rw[<-cu]at Cy ⊢;clear cu;rcases Cy.out (some ⟨g7,0,none⟩) (some ⟨g8,0,none⟩) S af3 oQ adV.out adN.out with⟨j3,hcall⟩ | ⟨ag,j3,hcall⟩
   .rw[j3,map_none]at bt;have ce:=I hcall;clear hcall j3 Cy;go_wp2_with fail
    refine ce.out.mono ?_;rintro e x4 ⟨rfl,Bd⟩;have JK:=b9 uG Bd;clear Bd ce uG;go_wp2;go_ret2;exact⟨by rw[bt.out];rfl,JK⟩
   .rw[j3,map_some]at bt;have ce:=I hcall;clear hcall j3 Cy;go_wp2_with fail
    refine ce.out.mono ?_;rintro e x4 ⟨Cf,Dl,rfl,Xb,Bd⟩;have JK:=b9 uG Bd;have adO:=I Xb;clear Bd ce uG Xb;go_wp2;go_ret2;exact⟨by rw[bt.out];exact⟨Cf,Dl,rfl,adO⟩,JK⟩
theorem aoA(l:ae)(n:Nat)(w:ai)(hl:l.length<=100000)(av:∀x∈l,x<256)(az:n<=100000) :
  Calls prog 120 #[.string (strOf l),.int .i64 n] w λe w'=>oj w' e (ls l n)/\Below w.heap.size w w':=by
 unfold ls;cases aw:hG l with
 | none=>exact aqE l n w (λW=>aw▸IA l W hl av)
 | some p=>
  obtain⟨ml,cj,cn,n5⟩:=z6 l p aw;have aC:=λW=>IA l W hl av
  have fL:=λW=>pm l p.2 (by omega) W
  have VS:∀x∈l.drop p.2,x<256:=λx ah=>av x (mem_of_mem_drop ah)
  have i7:=λW=>IA (l.drop p.2) W (by rw[cC];omega) VS
  rw[aw]at aC;dsimp only;cases hq:hG (l.drop p.2)with
  | none=>
   rw[hq]at i7;exact aqF _ _ _ p.2 n w ml (by omega) aC fL i7
  | some q=>
   obtain⟨ur,gy,ft,lT⟩:=z6 _ q hq;rw[cC]at gy;rw[hq]at i7;exact aqD _ _ p.1 q.1 p.2 q.2 n w ml (by omega) ur (by omega) az cn ft (λx ah=>av x (n5 x ah)) (λx ah=>VS x (lT x ah)) aC fL i7
set_option linter.unusedVariables false
namespace ao
theorem aaO(t:ae)(n:Nat)(r:ae×Nat)(h:ls t n=some r):0<r.2/\r.2<=t.length:=by
 unfold ls at h;split at h
 .cases h
 .next p aw=>
  obtain⟨ml,cj,_⟩:=z6 t p aw;split at h
  .cases h
  .next q hq=>
   obtain⟨ur,gy,_⟩:=z6 _ q hq;rw[cC]at gy;split at h
   .cases h
   .next u hu=>
    cases aG:iX u.1 u.2 q.1 (n:Int)with
    | none=>rw[aG]at h;cases h
    | some c=>
     rw[aG,map_some]at h;injection h with h
     subst h;exact⟨by dsimp only;omega,by dsimp only;omega⟩
theorem abm(bs:ae)(n:Nat):lU bs n=(match n6 bs n with | none=>none | some r=>if ∀x∈r.1,x<28 then some r else none):=rfl
end ao
theorem asC(n:Nat)(w:ai) :
  Calls prog 78 #[.string (strOf []),.int .i64 n] w λe w'=>oj w' e none/\Below w.heap.size w w':=by
 have fi:=vl [];rw[bG rfl]at fi;generalize strOf []=s at fi;go_enter func78,ntmps78
 go_wp2;go_ret2;exact⟨rfl,Below.refl _ _⟩
theorem asv(s:ByteArray)(L n:Nat)(w:ai)(fi:s.toList.isEmpty=false)(bI:s.size=L)(bR:L<=100000)(hp:1<=n)(az:n<=4096)(hidx:∀W:ai,(Instr.index 9 (.string s) (.int .i64 0)).run prog W=.ok (.int .u8 0) W)(h:L<n+1) :
  Calls prog 78 #[.string s,.int .i64 n] w λe w'=>oj w' e none/\Below w.heap.size w w':=by
 have hC:decide ((n:Int)<0)=false:=aT;have b4:decide ((4096:Int)<n)=false:=aT;have bT:decide (4096<n)=false:=aT;have d3:decide ((L:Int)-1<n)=true:=cl;clear h;go_enter func78,ntmps78
 go_wp2;go_ret2;exact⟨rfl,Below.refl _ _⟩
theorem asw(s:ByteArray)(L n:Nat)(w:ai)(fi:s.toList.isEmpty=false)(bI:s.size=L)(bR:L<=100000)(hp:1<=n)(az:n<=4096)(hidx:∀W:ai,(Instr.index 9 (.string s) (.int .i64 0)).run prog W=.ok (.int .u8 0) W)(cj:Nat)(aw:cj=n+1)(h:cj<=L)(out:ae)(M9:out.length=n)(Na:∀x∈out,x<256)
  (hmid:∀W:ai,(Instr.slice 9 (.string s) (some (.int .i64 1)) (some (.int .i64 cj)) none).run prog W=.ok (.string (strOf out)) W) :
  Calls prog 78 #[.string s,.int .i64 n] w λe w'=>oj w' e (if ∀x∈out,x<28 then some (out,cj)else none)/\Below w.heap.size w w':=by
 have hC:decide ((n:Int)<0)=false:=aT;have b4:decide ((4096:Int)<n)=false:=aT;have bT:decide (4096<n)=false:=aT;have d3:decide ((L:Int)-1<n)=false:=aT;have i6:(1:Int)+n=cj:=by omega
 have bP:cj<=5000:=by omega
 obtain⟨dI,rn⟩:∃dI,dI=cj:=⟨_,rfl⟩;rw[<-rn];obtain⟨res,hres⟩:∃res,res=if ∀x∈out,x<28 then some (out,dI)else none:=⟨_,rfl⟩
 rw[<-hres];have bt:=I hres;have b5:=I Na;have ci:Hid (n=out.length):=I M9.symm;obtain⟨au,g1,bf,eD,cd,vp,aH⟩:=GL w out Na;clear vp;generalize (some (⟨g1,0,none⟩:Addr))=eI at eD cd;have dO:=I cd;have dN:=I aH;rw[M9]at eD;subst rn;clear aw h Na M9 hres cd aH;generalize strOf out=so at *;go_enter func78,ntmps78
 go_wp2;obtain⟨m,hm⟩:∃m,m=n:=⟨_,rfl⟩;rw[<-hm]at ci ⊢;have ho:m<=5000:=by omega
 clear hm eD;go_loopw [11] (λi wt=>wt=au/\∃j:Nat,i=.int .i64 j/\j<=m/\Hid (∀x∈out.take j,x<28)) (λi _=>m-(intOf i).toNat)
 case atStart=>exact⟨rfl,0,rfl,zero_le _,I (by simp)⟩
 case round=>
  obtain⟨rfl,j,rfl,ar,hall⟩:=hrel;by_cases vI:j<m
  .have fr:j<out.length:=by rw[<-ci.out];exact vI
   obtain⟨g,off,rfl,hc⟩:=nA dO.out (by intro e;rw[e]at fr;simp at fr);have gy:=hc j fr;have ah:=b5.out out[j] (b7 fr);have gg:=I (b7 fr);have ek:Hid (out.take (j+1)=out.take j++[out[j]]):=I (by rw[take_add_one,bH fr];rfl);have o4:decide ((j:Int)<m)=true:=cl;clear hc;generalize out[j]=x at *;by_cases et:28<=x
   .have aF:decide (28<=x)=true:=bG et;have e2:decide ((28:Int)<=x)=true:=cl;have bX:Hid (res=none):=I (by rw[bt.out,ay (λh=>by have:=h x gg.out;omega)]);clear hall ek dO et gg;go_wp2;go_ret2;exact⟨by rw[bX.out];rfl,dN⟩
   .have aF:decide (28<=x)=false:=bF et;have e2:decide ((28:Int)<=x)=false:=aT;have rS:Hid (∀y∈out.take (j+1),y<28):=I (λy hy=>by
     rw[ek.out]at hy;rcases List.mem_append.1 hy with hy | hy
     .exact hall.out y hy
     .rw[List.mem_singleton.1 hy];omega)
    clear hall ek et gg;go_wp2;go_roundw
    case rel=>exact⟨trivial,j+1,by go_num,by omega,rS⟩
    case measure=>simp[intOf];omega
  .obtain rfl:j=m:=by omega
   have bX:Hid (res=some (out,dI)):=I (by
    have h:=hall.out;rw[ci.out,take_length]at h;rw[bt.out,aA h])
   have o4:decide ((j:Int)<j)=false:=aT;clear hall;go_wp2;go_ret2;exact⟨by rw[bX.out];unfold oj;dsimp only;rw[<-ci.out];exact⟨_,_,rfl,dO⟩,dN⟩
theorem asy(s:ByteArray)(L n:Nat)(w:ai)(fi:s.toList.isEmpty=false)(bI:s.size=L)(bR:L<=100000)(hp:1<=n)(az:n<=4096)(hidx:∀W:ai,(Instr.index 9 (.string s) (.int .i64 0)).run prog W=.ok (.int .u8 1) W)(h:L=1) :
  Calls prog 78 #[.string s,.int .i64 n] w λe w'=>oj w' e none/\Below w.heap.size w w':=by
 have hC:decide ((n:Int)<0)=false:=aT;have b4:decide ((4096:Int)<n)=false:=aT;have bT:decide (4096<n)=false:=aT;subst h;go_enter func78,ntmps78
 go_wp2;go_ret2;exact⟨rfl,Below.refl _ _⟩
theorem asx(s:ByteArray)(L n:Nat)(w:ai)(fi:s.toList.isEmpty=false)(bI:s.size=L)(bR:L<=100000)(hp:1<=n)(az:n<=4096)(b:Nat)(ak:28<=b)(aI:b<256)(hidx:∀W:ai,(Instr.index 9 (.string s) (.int .i64 0)).run prog W=.ok (.int .u8 1) W)
  (hidx1:∀W:ai,(Instr.index 9 (.string s) (.int .i64 1)).run prog W=.ok (.int .u8 b) W) (h:2<=L) :
  Calls prog 78 #[.string s,.int .i64 n] w λe w'=>oj w' e none/\Below w.heap.size w w':=by
 have hC:decide ((n:Int)<0)=false:=aT;have b4:decide ((4096:Int)<n)=false:=aT;have bT:decide (4096<n)=false:=aT;have d1:decide ((L:Int)<2)=false:=aT;have d2:decide ((28:Int)<=b)=true:=cl;have d3:decide (28<=b)=true:=cl;have d4:decide (L<2)=false:=aT;clear h;go_enter func78,ntmps78
 go_wp2;go_ret2;exact⟨rfl,Below.refl _ _⟩
theorem asz(s:ByteArray)(L n:Nat)(w:ai)(fi:s.toList.isEmpty=false)(bI:s.size=L)(bR:L<=100000)(hp:1<=n)(az:n<=4096)(b:Nat)(ak:b<28)(hidx:∀W:ai,(Instr.index 9 (.string s) (.int .i64 0)).run prog W=.ok (.int .u8 1) W)
  (hidx1:∀W:ai,(Instr.index 9 (.string s) (.int .i64 1)).run prog W=.ok (.int .u8 b) W) (h:2<=L) :
  Calls prog 78 #[.string s,.int .i64 n] w λe w'=>oj w' e (if ∀x∈List.replicate n b,x<28 then some (List.replicate n b,2)else none)/\Below w.heap.size w w':=by
 have hC:decide ((n:Int)<0)=false:=aT;have b4:decide ((4096:Int)<n)=false:=aT;have bT:decide (4096<n)=false:=aT;have d1:decide ((L:Int)<2)=false:=aT;have d2:decide ((28:Int)<=b)=false:=aT;have d3:decide (28<=b)=false:=aT;have d4:decide (L<2)=false:=aT;clear h;obtain⟨i0,ax,bB,bK,bw⟩:=info_parts oG;obtain⟨dI,rn⟩:∃dI,dI=2:=⟨_,rfl⟩;obtain⟨out,hout⟩:∃out,out=List.replicate n b:=⟨_,rfl⟩;rw[<-rn,<-hout];obtain⟨res,hres⟩:∃res,res=if ∀x∈out,x<28 then some (out,dI)else none:=⟨_,rfl⟩
 rw[<-hres];have bt:=I hres;have m8:=I hout;have Ka:=I rn;have b5:Hid (∀x∈out,x<256):=I (λx ah=>by rw[hout,mem_replicate]at ah;omega);have ci:Hid (n=out.length):=I (by rw[hout,jl]);clear hres hout rn;go_enter func78,ntmps78
 go_wp2;go_loopw [6,8] (λu i wr=>∃k:Nat,i=.int .i64 k/\k<=n/\Hid (wr.ownsRow w.heap.size 5 1 u k (aN (List.replicate k b)))/\Hid (Below w.heap.size w wr)) (λ_ i _=>n-(intOf i).toNat)
 case atStart=>exact⟨0,rfl,zero_le _,I (World.ownsRow_nil _ _ _ _),I dQ⟩
 case round=>
  obtain⟨k,rfl,hk,hown,hbel⟩:=hrel;by_cases lj:k<n
  .have vj:decide ((k:Int)<n)=true:=cl;have xL:(b:Int)%256=(b:Int):=by omega
   go_wp2_with (at_builtin;refine wpList_append_own _ rfl _ _ 87 rfl w.heap.size 5 i0 (.int .u8 0) 1 1 underlying87 ax bB bK bw rfl (by decide) _ _ _ rfl (hown.out.alloc _) ⟨wr.heap.size,0,none⟩ 1 1 [.int .u8 b] rfl rfl ?d1 ?d2 ?d3 ?d4 ?d5 ?_)
   case d1=>
    intro j u ar;match j,ar with
    | 0,ar=>simp at ar;subst ar;simp[Addr.add]
   case d2=>intro u hu;simp at hu;subst hu;rfl
   case d3=>unfold maxLen;omega
   case d4=>omega
   case d5=>have:=hbel.out.size;simp;omega
   intro gZ dt di dn _;have jN:Below w.heap.size w dt:=(hbel.out.alloc hbel.out.size _).grown dn (by have:=hbel.out.size;simp;omega) (λx e=>(hown.out.lt x e).1);have e:aN (List.replicate k b)++[Value.int .u8 b]=aN (List.replicate (k+1) b):=by rw[replicate_succ'];simp[aN]
   rw[e]at di;have jq:=I di;have nE:=I jN;clear di dn jN e hown hbel;go_wp2;go_roundw
   case rel=>exact⟨k+1,by go_num,by omega,jq,nE⟩
   case measure=>simp[intOf];omega
  .obtain rfl:k=n:=by omega
   have vj:decide ((k:Int)<k)=false:=aT;obtain⟨A,c,hA,bp,_⟩:=kU hown.out;rw[<-m8.out]at bp;have dO:=I bp;have dN:=hbel;rw[hA];clear hown bp hA hbel;go_wp2;rw[show(2:Int)=dI by rw[Ka.out];rfl];have avM:dI<=2:=by rw[Ka.out];omega
   obtain⟨m,hm⟩:∃m,m=k:=⟨_,rfl⟩;rw[<-hm]at ci ⊢;have ho:m<=5000:=by omega
   clear hm Ka m8;go_loopw [11] (λi wt=>wt=wr/\∃j:Nat,i=.int .i64 j/\j<=m/\Hid (∀x∈out.take j,x<28)) (λi _=>m-(intOf i).toNat)
   case atStart=>exact⟨rfl,0,rfl,zero_le _,I (by simp)⟩
   case round=>
    obtain⟨rfl,j,rfl,ar,hall⟩:=hrel;by_cases vI:j<m
    .have fr:j<out.length:=by rw[<-ci.out];exact vI
     obtain⟨g,off,rfl,hc⟩:=nA dO.out (by intro e;rw[e]at fr;simp at fr);have gy:=hc j fr;have ah:=b5.out out[j] (b7 fr);have gg:=I (b7 fr);have ek:Hid (out.take (j+1)=out.take j++[out[j]]):=I (by rw[take_add_one,bH fr];rfl);have o4:decide ((j:Int)<m)=true:=cl;clear hc;generalize out[j]=x at *;by_cases et:28<=x
     .have aF:decide (28<=x)=true:=bG et;have e2:decide ((28:Int)<=x)=true:=cl;have bX:Hid (res=none):=I (by rw[bt.out,ay (λh=>by have:=h x gg.out;omega)]);clear hall ek dO et gg;go_wp2;go_ret2;exact⟨by rw[bX.out];rfl,dN⟩
     .have aF:decide (28<=x)=false:=bF et;have e2:decide ((28:Int)<=x)=false:=aT;have rS:Hid (∀y∈out.take (j+1),y<28):=I (λy hy=>by
       rw[ek.out]at hy;rcases List.mem_append.1 hy with hy | hy
       .exact hall.out y hy
       .rw[List.mem_singleton.1 hy];omega)
      clear hall ek et gg;go_wp2;go_roundw
      case rel=>exact⟨trivial,j+1,by go_num,by omega,rS⟩
      case measure=>simp[intOf];omega
    .obtain rfl:j=m:=by omega
     have bX:Hid (res=some (out,dI)):=I (by
      have h:=hall.out;rw[ci.out,take_length]at h;rw[bt.out,aA h])
     have o4:decide ((j:Int)<j)=false:=aT;clear hall;go_wp2;go_ret2;exact⟨by rw[bX.out];unfold oj;dsimp only;rw[<-ci.out];exact⟨_,_,rfl,dO⟩,dN⟩
theorem asA(s:ByteArray)(L n:Nat)(w:ai)(fi:s.toList.isEmpty=false)(bI:s.size=L)(bR:L<=100000)(hp:1<=n)(az:n<=4096)(t:ae)(hidx:∀W:ai,(Instr.index 9 (.string s) (.int .i64 0)).run prog W=.ok (.int .u8 2) W)(fj:t.length<=100000)(htlt:∀x∈t,x<256)
  (fL:∀W:ai,(Instr.slice 9 (.string s) (some (.int .i64 1)) none none).run prog W=.ok (.string (strOf t)) W) :
  Calls prog 78 #[.string s,.int .i64 n] w λe w'=>oj w' e (match (ls t n).map λr=>(r.1,1+r.2)with | none=>none | some r=>if ∀x∈r.1,x<28 then some r else none)/\Below w.heap.size w w':=by
 have hC:decide ((n:Int)<0)=false:=aT;have b4:decide ((4096:Int)<n)=false:=aT;have bT:decide (4096<n)=false:=aT;have nu:=λW=>aoA t n W fj htlt (by omega)
 cases aG:ls t n with
 | none=>
  rw[aG]at nu;have oW:=I nu;clear nu aG;rw[map_none];generalize strOf t=st at *;go_enter func78,ntmps78
  go_wp2_with fail
  refine(oW.out _).mono ?_;rintro e au ⟨rfl,aH⟩;have aK:=I aH;clear aH oW;go_wp2;go_ret2;exact⟨rfl,aK⟩
 | some r=>
  obtain⟨out,k⟩:=r;obtain⟨h1,af⟩:=aaN t n out k htlt aG;obtain⟨aq,aJ⟩:=aaO t n _ aG;dsimp only at aq aJ;rw[aG]at nu;have oW:=I nu;rw[map_some];dsimp only;obtain⟨dI,rn⟩:∃dI,dI=1+k:=⟨_,rfl⟩;rw[<-rn];have Bo:(1:Int)+k=dI:=by omega
  have bC:((k:Int) == 0)=false:=cz
  have pJ:dI<=200000:=by omega
  obtain⟨res,hres⟩:∃res,res=if ∀x∈out,x<28 then some (out,dI)else none:=⟨_,rfl⟩
  rw[<-hres];have bt:=I hres;have b5:=I af;have ci:Hid (n=out.length):=I h1.symm;clear nu aG rn hres af aq htlt fj;clear aJ;generalize strOf t=st at *;go_enter func78,ntmps78
  go_wp2_with fail
  refine(oW.out _).mono ?_;rintro e au ⟨⟨eI,c1,rfl,cd⟩,aH⟩;have dN:=I aH;have dO:=I cd;clear aH cd oW;dsimp only;rw[h1];clear h1;go_wp2;obtain⟨m,hm⟩:∃m,m=n:=⟨_,rfl⟩;rw[<-hm]at ci ⊢;have ho:m<=5000:=by omega
  clear hm;go_loopw [11] (λi wt=>wt=au/\∃j:Nat,i=.int .i64 j/\j<=m/\Hid (∀x∈out.take j,x<28)) (λi _=>m-(intOf i).toNat)
  case atStart=>exact⟨rfl,0,rfl,zero_le _,I (by simp)⟩
  case round=>
   obtain⟨rfl,j,rfl,ar,hall⟩:=hrel;by_cases vI:j<m
   .have fr:j<out.length:=by rw[<-ci.out];exact vI
    obtain⟨g,off,rfl,hc⟩:=nA dO.out (by intro e;rw[e]at fr;simp at fr);have gy:=hc j fr;have ah:=b5.out out[j] (b7 fr);have gg:=I (b7 fr);have ek:Hid (out.take (j+1)=out.take j++[out[j]]):=I (by rw[take_add_one,bH fr];rfl);have o4:decide ((j:Int)<m)=true:=cl;clear hc;generalize out[j]=x at *;by_cases et:28<=x
    .have aF:decide (28<=x)=true:=bG et;have e2:decide ((28:Int)<=x)=true:=cl;have bX:Hid (res=none):=I (by rw[bt.out,ay (λh=>by have:=h x gg.out;omega)]);clear hall ek dO et gg;go_wp2;go_ret2;exact⟨by rw[bX.out];rfl,dN⟩
    .have aF:decide (28<=x)=false:=bF et;have e2:decide ((28:Int)<=x)=false:=aT;have rS:Hid (∀y∈out.take (j+1),y<28):=I (λy hy=>by
      rw[ek.out]at hy;rcases List.mem_append.1 hy with hy | hy
      .exact hall.out y hy
      .rw[List.mem_singleton.1 hy];omega)
     clear hall ek et gg;go_wp2;go_roundw
     case rel=>exact⟨trivial,j+1,by go_num,by omega,rS⟩
     case measure=>simp[intOf];omega
   .obtain rfl:j=m:=by omega
    have bX:Hid (res=some (out,dI)):=I (by
     have h:=hall.out;rw[ci.out,take_length]at h;rw[bt.out,aA h])
    have o4:decide ((j:Int)<j)=false:=aT;clear hall;go_wp2;go_ret2;exact⟨by rw[bX.out];unfold oj;dsimp only;rw[<-ci.out];exact⟨_,_,rfl,dO⟩,dN⟩
theorem asB(s:ByteArray)(L n:Nat)(w:ai)(fi:s.toList.isEmpty=false)(bI:s.size=L)(bR:L<=100000)(hp:1<=n)(az:n<=4096)(k:Nat)(hk:2<k)(fy:k<256)(hidx:∀W:ai,(Instr.index 9 (.string s) (.int .i64 0)).run prog W=.ok (.int .u8 k) W) :
  Calls prog 78 #[.string s,.int .i64 n] w λe w'=>oj w' e none/\Below w.heap.size w w':=by
 have hC:decide ((n:Int)<0)=false:=aT;have b4:decide ((4096:Int)<n)=false:=aT;have bT:decide (4096<n)=false:=aT;have bC:((k:Int) == 0)=false:=cz
 have bf:((k:Int) == 1)=false:=cz
 have bM:((k:Int) == 2)=false:=cz
 clear hk;go_enter func78,ntmps78
 go_wp2;go_loopw [11] (λi wr=>wr=w/\i=.int .i64 0) (λ_ _=>0)
 case atStart=>exact⟨rfl,rfl⟩
 case round=>
  obtain⟨rfl,rfl⟩:=hrel;go_wp2;go_ret2;exact⟨rfl,Below.refl _ _⟩
theorem aoB(l:ae)(n:Nat)(w:ai)(hl:l.length<=100000)(av:∀x∈l,x<256)(hp:1<=n)(az:n<=4096) :
  Calls prog 78 #[.string (strOf l),.int .i64 n] w λe w'=>oj w' e (lU l n)/\Below w.heap.size w w':=by
 cases l with
 | nil=>exact asC n w
 | cons k t=>
  have fi:(strOf (k :: t)).toList.isEmpty=false:=by rw[vl];simp
  have bI:=cZ (k :: t);rw[b1]at bI hl;have hk:k<256:=av k ea;have htlt:∀x∈t,x<256:=λx ah=>av x (ew _ ah)
  have hidx:∀W:ai,(Instr.index 9 (.string (strOf (k :: t))) (.int .i64 0)).run prog W=.ok (.int .u8 k) W:=λW=>pT (k :: t) 0 W (by simp) hk
  have fL:=λW=>pm (k :: t) 1 (by simp) W
  rw[abm];by_cases am:k=0
  .subst am;rw[zP];by_cases h:n<=t.length
   .rw[aA h];have hmid:=λW=>abj (0 :: t) 1 (n+1) (by omega) (by rw[b1];omega) W
    rw[take_succ_cons,drop_succ_cons,drop_zero]at hmid;have hu:=asw (strOf (0 :: t)) (t.length+1) n w fi bI hl hp az hidx (n+1) rfl (by omega) (t.take n) (by rw[cq];omega) (λx ah=>htlt x (mem_of_mem_take ah)) hmid;rw[Nat.add_comm n 1]at hu;exact hu
   .rw[ay h];exact asv (strOf (0 :: t)) (t.length+1) n w fi bI hl hp az hidx (by omega)
  .by_cases h1:k=1
   .subst h1;rw[zQ];cases t with
    | nil=>
     rw[ay (by simp)];exact asy _ 1 n w fi bI (by omega) hp az hidx rfl
    | cons b t=>
     rw[aA (by simp),dR,b6];have ak:=htlt b ea;have hidx1:∀W:ai,(Instr.index 9 (.string (strOf (1 :: b :: t))) (.int .i64 1)).run prog W=.ok (.int .u8 b) W:=λW=>pT (1 :: b :: t) 1 W (by simp) ak
     rw[b1]at bI hl;by_cases aD:28<=b
     .have fe:¬∀x∈(List.replicate n b,2).1,x<28:=λh=>by
       have:=h b (List.mem_replicate.2 ⟨by omega,rfl⟩);omega
      dsimp only;rw[ay fe];exact asx _ _ n w fi bI hl hp az b aD ak hidx hidx1 (by omega)
     .exact asz _ _ n w fi bI hl hp az b (by omega) hidx hidx1 (by omega)
   .by_cases af:k=2
    .subst af;rw[zR];exact asA _ _ n w fi bI hl hp az t hidx (by omega) htlt fL
    .rw[B4 k t n (by omega)];exact asB _ _ n w fi bI hl hp az k (by omega) hk hidx
namespace ao
theorem arq(bs:ae)(n:Nat)(az:1<=n)(r:ae×Nat)(h:lU bs n=some r):0<r.2/\r.2<=bs.length:=by
 rw[abm]at h;cases bs with
 | nil=>cases h
 | cons k t=>
  split at h
  .cases h
  .next q hq=>
   split at h
   .injection h with h
    subst h;by_cases am:k=0
    .subst am;rw[zP]at hq;split at hq
     .injection hq with hq
      subst hq;exact⟨by dsimp only;omega,by rw[b1];dsimp only;omega⟩
     .cases hq
    .by_cases h1:k=1
     .subst h1;rw[zQ]at hq;split at hq
      .injection hq with hq
       subst hq;exact⟨by dsimp only;omega,by rw[b1];dsimp only;omega⟩
      .cases hq
     .by_cases af:k=2
      .subst af;rw[zR]at hq;cases aG:ls t n with
       | none=>rw[aG]at hq;cases hq
       | some x=>
        rw[aG,map_some]at hq;injection hq with hq
        subst hq;obtain⟨a,b⟩:=aaO t n x aG;exact⟨by dsimp only;omega,by rw[b1];dsimp only;omega⟩
      .rw[B4 k t n (by omega)]at hq;cases hq
   .cases h
theorem ahx(c:Nat)(h:c<28):h4 c=(fY c:Int):=by
 unfold h4 fY;by_cases h1:c<16
 .rw[aA h1,aA h1];rfl
 .rw[ay h1,ay (by omega),ay h1]
end ao
def Dd(w':ai)(e:Ending):Option (List ao.dC×Nat)->Prop
 | none=>e=.returned (.tuple #[.slice none 0 0,.int .i64 0])
 | some t=>∃A c,e=.returned (.tuple #[.slice A t.1.length c,.int .i64 (t.2:Int)])/\l2 w' A t.1
theorem aoT(A:a7)(c:Nat)(bs:ae)(w:ai)(az:bs.length<=100000)(cr:∀b∈bs,b<256)(aj:Reads w A (aN bs))(hA:∀a,A=some a->0<bs.length->a.block<w.heap.size) :
  Calls prog 80 #[.slice A bs.length c] w λe w'=>∃de df,e=.returned (.slice de (8*bs.length) df)/\8*bs.length<=df/\df<=maxLen/\Reads w' de (aM (ao.bitsOf (bd bs) (8*bs.length)))/\(∀a,de=some a->a.block<w'.heap.size)/\Below w.heap.size w w':=by
 refine(IE A c bs w az cr aj hA).mono ?_;rintro e w' ⟨u,rfl,b8,dY⟩;obtain⟨de,df,re,hcm',hmx,_⟩:=OZ b8;obtain⟨fa,c2,hform,bp,DW⟩:=kU b8;rw[re]at hform;injection hform with aF e2 e3
 subst aF e3;exact⟨de,df,by rw[re],hcm',hmx,bp,λa e=>(DW a e).2.1,dY⟩
theorem ae7(A:a7)(c q n:Nat)(h:∀a,A=some a->a.block<n):∀a,nh A c q=some a->a.block<n:=by
 intro a aS;unfold nh at aS;split at aS
 .exact h a aS
 .obtain⟨x,ah,rfl⟩:=Option.map_eq_some_iff.1 aS;have:=h x ah;unfold Addr.add;split<;>simpa using this
structure qg(dv W:ai)(cf B:Nat)(r:Int×Int×Int)(u:Value)(D:List ao.dC):Prop where
 dy:Below cf dv W
 lr:Row W cf 30 [.int .i64 r.1,.int .i64 r.2.1,.int .i64 r.2.2]
 own:W.ownsRow B 118 3 u D.length (gP D)
 low:cf<B/\B<=W.heap.size
section
variable {dv W bc:ai} {cf B:Nat} {r:Int×Int×Int} {u:Value} {D:List ao.dC}
theorem qg.below(h:qg dv W cf B r u D)(ak:Below W.heap.size W bc):qg dv bc cf B r u D:=by
 have ap:=ak.size;have hl:=h.low;refine⟨h.dy.trans (ak.mono (by omega)),h.lr.below ak,h.own.kept (row:=none) (dr ak none) (by cases u.ownBlock<;>simp),by omega⟩
theorem qg.cG(h:qg dv W cf B r u D){p:Addr}(aw:B<=p.block)(aX:∀x,u.ownBlock=some x->x≠p.block)(v:Value):qg dv (W.setCell p v) cf B r u D:=by
 have hl:=h.low;refine⟨h.dy.setCell (by omega) v,h.lr.cG (by omega) v,?_,by simpa [World.setCell]using hl⟩;refine h.own.kept (o8 W p v) ?_;cases hu:u.ownBlock with
 | none=>exact .inl rfl
 | some x=>exact .inr (λe=>by injection e with e;exact aX x hu e)
theorem qg.turn(h:qg dv W cf B r u D)(a b c:Int):qg dv (((W.setCell ⟨cf,0,none⟩ (.int .i64 a)).setCell ⟨cf,1,none⟩ (.int .i64 b)).setCell ⟨cf,2,none⟩ (.int .i64 c)) cf B (a,b,c) u D:=by
 have hl:=h.low;have ah:∀x,u.ownBlock=some x->x≠cf:=λx e=>by have:=(h.own.lt x e).1;omega
 have bf:∀(W:ai) (i:Nat) (v:Value),W.ownsRow B 118 3 u D.length (gP D)->(W.setCell ⟨cf,i,none⟩ v).ownsRow B 118 3 u D.length (gP D):=λW i v b8=>by
  refine b8.kept (o8 W ⟨cf,i,none⟩ v) ?_;cases hu:u.ownBlock with
  | none=>exact .inl rfl
  | some x=>exact .inr (λe=>by injection e with e;exact ah x hu e)
 have hD:=((h.lr.bm 0 (.int .i64 a)).bm 1 (.int .i64 b)).bm 2 (.int .i64 c);simp only[set_cons_zero,set_cons_succ]at hD;exact⟨((h.dy.setCell bh _).setCell bh _).setCell bh _,hD,bf _ _ _ (bf _ _ _ (bf _ _ _ h.own)),by simpa [World.setCell]using hl⟩
end
theorem aot(s:ByteArray)(v k:Nat)(most:Int)(w:ai)(aE:v<18446744073709551616)(hk:k<=100000)(hm:en most)(h:¬(0<k/\(v:Int)<=most/\v<=1000))
  (aL:Calls prog 25 #[.string s] w λe w'=>e=.returned (.tuple #[.int .u64 v,.int .i64 k])/\Below w.heap.size w w') :
  Calls prog 48 #[.string s,.int .i64 most] w λe w'=>Dd w' e none/\Below w.heap.size w w':=by
 have bk:=I aL;have key:k=0\/(((k:Int) == 0)=false/\decide (most<0)=true)\/(((k:Int) == 0)=false/\decide (most<0)=false/\IntKind.u64.wrap most=most/\decide (most<(v:Int))=true) \/
   (((k:Int) == 0)=false/\decide (most<0)=false/\IntKind.u64.wrap most=most/\decide (most<(v:Int))=false/\decide ((1000:Int)<v)=true/\decide (1000<v)=true):=by
  unfold en at hm;by_cases h1:k=0
  .exact .inl h1
  .have aF:((k:Int) == 0)=false:=cz
   by_cases af:most<0
   .exact .inr (.inl ⟨aF,bG af⟩)
   .have e2:IntKind.u64.wrap most=most:=by rw[IntKind.wrap_u64];omega
    by_cases aq:most<(v:Int)
    .exact .inr (.inr (.inl ⟨aF,bF af,e2,bG aq⟩))
    .exact .inr (.inr (.inr ⟨aF,bF af,e2,bF aq,bG (by omega),bG (by omega)⟩))
 unfold en at hm;clear aL h;rcases key with rfl | ⟨aF,e2⟩ | ⟨aF,e2,e3,e4⟩ | ⟨aF,e2,e3,e4,e5,gR⟩
 all_goals
  go_enter func48,ntmps48
  go_wp2_with fail
  refine bk.out.mono ?_;rintro e au ⟨rfl,aH⟩;have aK:=I aH;clear aH bk;go_wp2;go_ret2;exact⟨rfl,aK⟩
theorem aou(s:ByteArray)(k:Nat)(most:Int)(w:ai)(gv:0<k)(hk:k<=100000)(hm:0<=most/\most<=9223372036854775807)
  (aL:Calls prog 25 #[.string s] w λe w'=>e=.returned (.tuple #[.int .u64 0,.int .i64 k])/\Below w.heap.size w w') :
  Calls prog 48 #[.string s,.int .i64 most] w λe w'=>Dd w' e (some ([],k))/\Below w.heap.size w w':=by
 have bk:=I aL;have aF:((k:Int) == 0)=false:=cz
 have e2:decide (most<0)=false:=aT;have e3:IntKind.u64.wrap most=most:=by rw[IntKind.wrap_u64];omega
 clear aL gv;go_enter func48,ntmps48
 go_wp2_with fail
 refine bk.out.mono ?_;rintro e au ⟨rfl,aH⟩;have aK:=I aH;clear aH bk;go_wp2;go_ret2;exact⟨⟨none,0,rfl,l2.nil _ _⟩,aK⟩
theorem aos(l:ae)(n k:Nat)(most:Int)(w:ai)(hl:l.length<=50000)(av:∀x∈l,x<256)(hp:1<=n)(az:n<=1000)(hm:(n:Int)<=most)(ho:most<=9223372036854775807)(gv:0<k)(bb:k<=l.length)
  (aL:Calls prog 25 #[.string (strOf l)] w λe w'=>e=.returned (.tuple #[.int .u64 n,.int .i64 k])/\Below w.heap.size w w') :
  Calls prog 48 #[.string (strOf l),.int .i64 most] w λe w'=>Dd w' e (match hE 3 (l.drop k) n with
   | none=>none
   | some p=>match hG ((l.drop k).drop p.2)with
    | none=>none
    | some q=>(oO p.1 n q.1).map λm=>(m,k+p.2+q.2))/\Below w.heap.size w w':=by
 obtain⟨res,hres⟩:∃res,res=(match hE 3 (l.drop k) n with
   | none=>none
   | some p=>match hG ((l.drop k).drop p.2)with
    | none=>none
    | some q=>(oO p.1 n q.1).map λm=>(m,k+p.2+q.2)):=⟨_,rfl⟩
 rw[<-hres];obtain⟨yJ,sw⟩:∃yJ,yJ=hE 3 (l.drop k) n:=⟨_,rfl⟩;rw[<-sw]at hres;have FE:=I sw;have bt:=I hres;have bk:=I aL;have oX:=I (λm W=>aoB (l.drop m) n W (by rw[cC];omega) (jw av m) hp (by omega));have iz:=I (λm W=>IA (l.drop m) W (by rw[cC];omega) (jw av m));have k2:=I (λm (h:m<=l.length) W=>pm l m h W);have b5:=I (λm=>jw av m);have auf:((k:Int) == 0)=false:=cz
 have auj:decide (most<0)=false:=aT;have auo:IntKind.u64.wrap most=most:=by rw[IntKind.wrap_u64];omega
 have auk:decide (most<(n:Int))=false:=aT;have at7:decide ((1000:Int)<n)=false:=aT;have sk:decide (1000<n)=false:=aT;have G1:((n:Int) == 0)=false:=cz
 obtain⟨N,cV⟩:∃N,N=l.length:=⟨_,rfl⟩;rw[<-cV]at hl bb k2;have g6:=I cV;have yl:Hid (∀m x,x<=(l.drop m).length->m<=N->m+x<=N):=I (λm x h af=>by rw[cC]at h;omega);have uP:=I hp;clear av hres sw aL cV gv hm hp;generalize strOf l=wm at *;go_enter func48,ntmps48
 go_wp2_with fail
 refine bk.out.mono ?_;rintro e au ⟨rfl,aH⟩;obtain⟨ba,jx⟩:∃ba,au.heap.size=ba:=⟨_,rfl⟩;have e7:=Row.new au 108 (oN n [] 3);have hbel:=(Below.refl au.heap.size au).alloc bh (.cells #[.slice none 0 0,.slice none 0 0,.slice none 0 0] 108);have e3:au.alloc (.cells (oN n [] 3).toArray 108)=au.alloc (.cells #[.slice none 0 0,.slice none 0 0,.slice none 0 0] 108):=rfl;rw[e3,jx]at e7;have kM:=I e7;have uH:=I jx;have eZ:=I (aH.trans (hbel.mono aH.size));have dZ:w.heap.size<=ba:=by rw[<-jx];exact aH.size
 clear e7 hbel e3 jx aH bk;go_wp2;rw[uH.out];generalize au.alloc (.cells #[.slice none 0 0,.slice none 0 0,.slice none 0 0] 108)=dv at *;clear uH;go_loopw [7,10,11,12] (λp i _ _ wr=>∃(j at_:Nat) (e6:List (a7×Nat×ae)),i=.int .i64 j/\p=.int .i64 ((k+at_:Nat):Int)/\j<=3/\k+at_<=N/\Hid (e6.length=j)/\Hid (Row wr ba 108 (oN n e6 (3-j)))/\Hid (si wr n e6)/\Hid (Below w.heap.size w wr) /\
  Hid (yJ=(hE (3-j) (l.drop (k+at_)) n).map λq=>(e6.map (λs=>s.2.2)++q.1,at_+q.2))) (λ_ i _ _ _=>3-(intOf i).toNat)
 case atStart=>
  refine⟨0,0,[],rfl,rfl,by omega,by omega,I rfl,kM,I (λs ap=>by cases ap),eZ,I ?_⟩;rw[ga,Nat.sub_zero,FE.out];cases hE 3 (l.drop k) n<;>simp
 case round=>
  obtain⟨j,at_,e6,rfl,rfl,ar,HO,ld,hrow,fU,ak,hstr⟩:=hrel;clear kM eZ;obtain⟨p,aw⟩:∃p,p=k+at_:=⟨_,rfl⟩;rw[<-aw]at HO hstr ⊢;have gF:=I aw;clear aw;have hcut:=k2.out p HO;by_cases zf:j<3
  .have o4:(j:Int)<3:=by omega
   have ce:=I (oX.out p wr);have fO:=I hstr.out;obtain⟨d,aG⟩:∃d,3-j=d+1:=⟨3-j-1,by omega⟩;rw[aG,hE]at fO;have yr:=I (λy dI h=>abk (l.drop p) n (b5.out _) y dI h);have hrow':=hrow.out;rw[aG]at hrow';have da:=I hrow';have dS:=I (show 3-(j+1)=d by omega);clear hstr hrow hrow' aG;cases ap:lU (l.drop p) n with
   | none=>
    rw[ap]at fO ce;dsimp only at fO;have dw:Hid (res=none):=I (by rw[bt.out,fO.out];rfl);clear fO oX iz b5 bt yr ap fU da dS yl gF;go_wp2_with fail
    refine ce.out.mono ?_;rintro e bA ⟨rfl,a8⟩;have cx:=b9 ak a8;clear a8 ce ak;go_wp2;go_ret2;rw[dw.out];exact⟨rfl,cx⟩
   | some t=>
    obtain⟨y,dI⟩:=t;rw[ap]at fO ce;dsimp only at fO;have ci:=I (yr.out y dI ap);obtain⟨Wp,MW⟩:=arq (l.drop p) n uP.out (y,dI) ap;dsimp only at Wp MW;have Nh:=yl.out p dI MW HO;have aug:((dI:Int) == 0)=false:=cz
    rw[drop_drop]at fO;clear yr ap Wp MW;go_wp2_with fail
    refine ce.out.mono ?_;rintro e bA ⟨⟨A,c,rfl,bp⟩,a8⟩;dsimp only at bp ⊢;have hrow4:=da.out.below a8;have Es:=fU.out.below a8;have sK:Reads (bA.setCell ⟨ba,j,none⟩ (.slice A n c)) A (aN y):=IF hrow4 (IP n (d+1) e6) bp (o8 bA ⟨ba,j,none⟩ (.slice A n c));have Et:=Es.Ih hrow4 (IP n (d+1) e6) (o8 bA ⟨ba,j,none⟩ (.slice A n c));have zA:=hrow4.bm j (.slice A n c);have hset:(oN n e6 (d+1)).set j (.slice A n c)=oN n (e6++[(A,c,y)]) d:=by
     unfold oN;rw[set_append_right _ _ (by rw[cQ,ld.out];omega),cQ,ld.out,Nat.sub_self,replicate_succ,set_cons_zero,map_append,dj];rfl
    rw[hset]at zA;have f0:=hrow4.free j;have hsome:∃u,bA.cell? ⟨ba,j,none⟩=some u:=by
     rw[hrow4.cell];unfold oN;rw[jk (by rw[cQ,ld.out];omega),cQ,ld.out,Nat.sub_self];exact⟨_,rfl⟩
    obtain⟨u0,NH⟩:=hsome;have cL:Below w.heap.size w (bA.setCell ⟨ba,j,none⟩ (.slice A n c)):=(ak.out.trans (a8.mono ak.out.size)).setCell dZ _;have AA:Hid (si (bA.setCell ⟨ba,j,none⟩ (.slice A n c)) n (e6++[(A,c,y)])):=I (λs ap=>by
     rcases List.mem_append.1 ap with ap | ap
     .exact Et s ap
     .rw[List.mem_singleton.1 ap];exact⟨ci,sK⟩)
    have tF:=I zA;have dh:=I cL;have kR:y.length=n:=ci.out.1;rw[kR];have W1:(p:Int)+dI=((p+dI:Nat):Int):=by omega
    have nH:Hid (p+dI=k+(at_+dI)):=I (by rw[gF.out,jb]);generalize p+dI=Z3 at *;have awb:Z3<=50000:=by omega
    clear hrow4 Es sK Et zA hset cL bp a8 fU ak da ci ce kR gF;go_wp2;go_roundw
    case rel=>
     refine⟨j+1,at_+dI,e6++[(A,c,y)],by go_num,by rw[<-nH.out],by omega,by rw[<-nH.out];exact Nh,I (by rw[aY,ld.out];rfl),by rw[dS.out];exact tF,AA,dh,I ?_⟩;rw[fO.out,dS.out,<-nH.out];cases hE d (l.drop Z3) n<;>simp[jb]
    case measure=>simp[intOf];omega
  .have vH:j=3:=by omega
   subst vH;obtain⟨s0,s1,s2,aiz⟩:∃s0 s1 s2,e6=[s0,s1,s2]:=by
    match e6,ld.out with
    | [x,y,z],_=>exact⟨x,y,z,rfl⟩
   subst aiz;have fO:=I hstr.out;rw[Nat.sub_self,hE,map_some,append_nil,ga]at fO;have hrow2:Row wr ba 108 [.slice s0.1 n s0.2.1,.slice s1.1 n s1.2.1,.slice s2.1 n s2.2.1]:=hrow.out;have ce:=I (iz.out p wr);have hR:=I bt.out;rw[fO.out]at hR;simp only[map_cons,map_nil]at hR;rw[drop_drop,<-gF.out]at hR;have da:=I hrow2;clear hstr hrow hrow2 bt fO ld iz oX;cases qz:hG (l.drop p)with
   | none=>
    rw[qz]at ce hR;dsimp only at hR;clear da fU qz gF;go_wp2_with fail
    refine ce.out.mono ?_;rintro e bA ⟨rfl,a8⟩;have cx:=b9 ak a8;clear a8 ce ak;go_wp2;go_ret2;rw[hR.out];exact⟨rfl,cx⟩
   | some t=>
    obtain⟨bQ,EH⟩:=t;rw[qz]at ce hR;unfold Gp at ce;dsimp only at hR ce;obtain⟨gv,zi,dY,y0⟩:=z6 _ _ qz;dsimp only at gv zi dY y0;have hblt:∀x∈bQ,x<256:=λx ah=>b5.out p x (y0 x ah)
    have Ei:=yl.out p EH zi HO;have auh:((EH:Int) == 0)=false:=cz
    have kL:=I (λW=>GL W bQ hblt);have jZ:=I (λW A c (h:Reads W A (aN bQ)) (hA:∀a,A=some a->0<bQ.length->a.block<W.heap.size)=>aoT A c bQ W (by omega) hblt h hA);have hsteps:oO [s0.2.2,s1.2.2,s2.2.2] n bQ=sm (kb (jD [s0.2.2,s1.2.2,s2.2.2] n) (bd bQ) (8*bQ.length) (1,2,4)):=rfl;rw[hsteps]at hR;obtain⟨L,bR⟩:∃L,L=8*bQ.length:=⟨_,rfl⟩;have bY:=po bQ hblt;rw[ib,<-bR]at bY;have h0:=I bY;clear bY;rw[<-bR]at hR jZ;have L8:L<=32768:=by omega
    have W1:(p:Int)+EH=((p+EH:Nat):Int):=by omega
    clear hsteps qz gv zi y0 hblt bR b5 gF yl;clear dY;generalize p+EH=pt at *;generalize bd bQ=V at *;generalize bQ.length=vY at *;generalize strOf bQ=xV at *;obtain⟨gd,bC,c0⟩:=s0;obtain⟨eI,bf,c1⟩:=s1;obtain⟨fa,bM,c2⟩:=s2;dsimp only at da hR;go_wp2_with fail
    refine ce.out.mono ?_;rintro e bA ⟨rfl,a8⟩;have cx:=b9 ak a8;have r3:=I (da.out.below a8);have C4:=I (fU.out.below a8);clear a8 ce ak da fU;obtain⟨dG,g5,c5,eD,Xa,UR,cL⟩:=kL.out bA;have dh:=b9 cx cL;have tF:=I (r3.out.below cL);have AA:=I (C4.out.below cL);have na:=I Xa;have Qx:=I UR;clear Xa UR cL cx r3 C4 kL;go_wp2_with fail
    refine(jZ.out dG _ _ na.out Qx).mono ?_;rintro e dp ⟨rN,vb,rfl,Ww,aiS,oz,US,fS⟩;have iP:=b9 dh fS;have adU:=I (tF.out.below fS);have yB:=I (AA.out.below fS);have q2:=I oz;have Ju:=I US;clear oz US fS dh tF AA jZ na Qx eD;go_wp2;obtain⟨cf,kj⟩:∃cf,dp.heap.size=cf:=⟨_,rfl⟩;obtain⟨B,bu⟩:∃B,cf+1=B:=⟨_,rfl⟩;have aQ:qg dp (dp.alloc (.cells #[.int .i64 1,.int .i64 2,.int .i64 4] 30)) cf B (1,2,4) (.slice none 0 0) []:=by
     have aj:=Row.new dp 30 [.int .i64 1,.int .i64 2,.int .i64 4];rw[kj]at aj;exact⟨(Below.refl cf dp).alloc (by omega) _,aj,World.ownsRow_nil _ _ _ _,by rw[World.size_alloc];omega⟩
    have cb:=I aQ;rw[kj];have uI:=I kj;have NM:w.heap.size<=cf:=by rw[<-kj];exact iP.out.size
    rw[kj]at Ju;have pz:Hid (∀W,Below cf dp W->Below dp.heap.size dp W):=I (λW h=>by rw[kj];exact h);generalize dp.alloc (.cells #[.int .i64 1,.int .i64 2,.int .i64 4] 30)=wq at *;obtain⟨i0,ax,bB,bK,bw⟩:=info_parts N3;have acq:Hid (c0.length=n/\∀x∈c0,x<28):=I (yB.out (gd,bC,c0) (by simp)).1;have Jt:Hid (c1.length=n/\∀x∈c1,x<28):=I (yB.out (eI,bf,c1) (by simp)).1;have Fz:Hid (c2.length=n/\∀x∈c2,x<28):=I (yB.out (fa,bM,c2) (by simp)).1;have acB:Hid (Reads dp gd (aN c0)/\Reads dp eI (aN c1)/\Reads dp fa (aN c2)):=I ⟨(yB.out (gd,bC,c0) (by simp)).2,(yB.out (eI,bf,c1) (by simp)).2,(yB.out (fa,bM,c2) (by simp)).2⟩;clear aQ kj yB hcut k2 g6 uP FE aiS dZ;have QR:Hid (V<2^L/\L<=32768):=I ⟨h0,L8⟩;clear h0;go_loopw [15,17,18,19,20,21,22,23] (λbits u i _ _ _ _ _ wr=>∃(h9 m X ij:Nat) (z7:a7) (D:List ao.dC) (r:Int×Int×Int),i=.int .i64 h9/\h9<=n/\m<=32768/\bits=.slice z7 m ij/\m<=ij/\Hid (D.length=h9)/\Hid (yI r)/\Hid (X<2^m) /\
     Hid (Reads dp z7 (aM (ao.bitsOf X m)))/\Hid (∀a,z7=some a->a.block<cf)/\Hid (qg dp wr cf B r u D) /\
     Hid (res=(sm ((kb ((jD [c0,c1,c2] n).drop h9) X m r).map λq=>(D++q.1,q.2))).map λm=>(m,pt))) (λ_ _ i _ _ _ _ _ _=>n-(intOf i).toNat)
    case atStart=>
     refine⟨0,L,V,vb,rN,[],(1,2,4),rfl,zero_le _,L8,rfl,Ww,I rfl,I ⟨by decide,by decide,by decide⟩,I QR.out.1,q2,Ju,cb,I ?_⟩;rw[hR.out,drop_zero];cases kb (jD [c0,c1,c2] n) V L (1,2,4)<;>rfl
    case round=>
     obtain⟨h9,m,X,ij,z7,D,r,rfl,Wr,hm,rfl,Wx,cR,aj,cK,cX,LX,aQ,hres⟩:=hrel;clear cb hR q2 Ju Ww QR L8;by_cases lj:h9<n
     .have vj:decide ((h9:Int)<n)=true:=cl;have uU:Hid ((jD [c0,c1,c2] n).drop h9=jM [c0,c1,c2] h9 :: (jD [c0,c1,c2] n).drop (h9+1)):=I (aau _ n h9 lj);have sV:=aQ.out.below ((Below.refl wr.heap.size wr).alloc bh (.cells #[.int .i64 0,.int .i64 0,.int .i64 0] 30));have e8:=Row.new wr 30 (s9 []);have e3:wr.alloc (.cells (s9 []).toArray 30)=wr.alloc (.cells #[.int .i64 0,.int .i64 0,.int .i64 0] 30):=rfl;rw[e3]at e8;obtain⟨l4,lg⟩:∃l4,wr.heap.size=l4:=⟨_,rfl⟩;rw[lg]at e8;have UW:B<=l4:=by rw[<-lg];exact aQ.out.low.2
      have SE:Hid (∀x,u17.ownBlock=some x->x≠l4):=I (λx e=>by have:=(aQ.out.own.lt x e).2;omega);have tH:=I sV;have nb:=I e8;have wC:=I lg;clear sV e8 e3 lg aQ;go_wp2;rw[wC.out];generalize wr.alloc (.cells #[.int .i64 0,.int .i64 0,.int .i64 0] 30)=qM at *;clear wC;rename ai=>tp
      go_loopw [15,20,21,22] (λbits i _ _ wr=>∃(j m2 mE o1:Nat) (uC:a7) (xs:ae),i=.int .i64 j/\j<=3/\m2<=32768/\bits=.slice uC m2 o1/\m2<=o1/\Hid (xs.length=j)/\Hid (∀x∈xs,x<=65535)/\Hid (mE<2^m2) /\
       Hid (Reads dp uC (aM (ao.bitsOf mE m2)))/\Hid (∀a,uC=some a->a.block<cf)/\Hid (qg dp wr cf B r u17 D)/\Hid (Row wr l4 30 (s9 xs)) /\
       Hid (ln (jM [c0,c1,c2] h9) X m=(ln ((jM [c0,c1,c2] h9).drop j) mE m2).map λt=>(xs++t.1,t.2))) (λ_ i _ _ _=>3-(intOf i).toNat)
      case atStart=>
       refine⟨0,m,X,ij,z7,[],rfl,by omega,hm,rfl,Wx,I rfl,I (by simp),cK,cX,LX,tH,nb,I ?_⟩;rw[drop_zero];cases ln (jM [c0,c1,c2] h9) X m<;>rfl
      case round=>
       obtain⟨j,m2,mE,o1,uC,xs,rfl,Bm,ajN,rfl,D6,oD,sZ,yZ,Em,DE,aQ,e8,jR⟩:=hrel;clear tH nb cX LX cK Wx;by_cases Wj:j<3
       .have key:∃(g off c dI:Nat),wr.cell? ⟨ba,j,none⟩=some (.slice (some ⟨g,off,none⟩) n dI)/\wr.cell? ⟨g,off+h9,none⟩=some (.int .u8 c)/\c<28/\Hid ((jM [c0,c1,c2] h9).drop j=c :: (jM [c0,c1,c2] h9).drop (j+1)):=by
         have mM:=pz.out wr aQ.out.dy;obtain⟨lu,kn,ko⟩:=dE (adU.out.below mM);obtain⟨gW,gO,dc⟩:=acB.out;have one:∀(A:a7) (ag:ae),(ag.length=n/\∀x∈ag,x<28)->Reads dp A (aN ag)->∃g off,A=some ⟨g,off,none⟩/\∃c:Nat,wr.cell? ⟨g,off+h9,none⟩=some (.int .u8 c)/\c<28/\ag[h9]?.getD 0=c:=λA ag h aj=>by
          have bb:h9<ag.length:=by omega
          obtain⟨g,off,e,hc⟩:=nA (c9 aj mM) (by intro e;rw[e]at bb;simp at bb);exact⟨g,off,e,ag[h9],hc h9 bb,h.2 _ (b7 bb),by rw[bH bb];rfl⟩
         rcases(by omega:j=0\/j=1\/j=2)with rfl | rfl | rfl
         .obtain⟨g,off,e,c,h1,af,aq⟩:=one gd c0 acq.out gW;exact⟨g,off,c,bC,by rw[lu,e],h1,af,I (by simp only[jM,map_cons,map_nil,drop_succ_cons,drop_zero,aq])⟩
         .obtain⟨g,off,e,c,h1,af,aq⟩:=one eI c1 Jt.out gO;exact⟨g,off,c,bf,by rw[kn,e],h1,af,I (by simp only[jM,map_cons,map_nil,drop_succ_cons,drop_zero,aq])⟩
         .obtain⟨g,off,e,c,h1,af,aq⟩:=one fa c2 Fz.out dc;exact⟨g,off,c,bM,by rw[ko,e],h1,af,I (by simp only[jM,map_cons,map_nil,drop_succ_cons,drop_zero,aq])⟩
        obtain⟨g,off,c,dI,hall,hcell,hc28,hdrop⟩:=key;have o4:(j:Int)<3:=by omega
        have ez:=I jR.out;rw[hdrop.out,ln]at ez;have hex:=ahw c hc28;have qb:=I (λW=>alB c W (by omega));rw[ahx c hc28]at qb;obtain⟨ex,MF⟩:∃ex,ex=fY c:=⟨_,rfl⟩;have fI:=I (⟨MF,rfl⟩:ex=fY c/\n4 c mE=n4 c mE);rw[<-MF]at qb ez hex;have f0:=e8.out.free j;have hsome:∃u,wr.cell? ⟨l4,j,none⟩=some u:=by
         rw[e8.out.cell];rcases(by omega:j=0\/j=1\/j=2)with rfl | rfl | rfl<;>exact⟨_,rfl⟩
        obtain⟨u0,NH⟩:=hsome;clear MF jR hdrop;by_cases hfit:ex<=m2
        .rw[aA hfit]at ez;have ag2:decide ((m2:Int)<ex)=false:=aT;have ag3:decide (m2<ex)=false:=aT;have hcut:=λW=>Do uC m2 o1 ex W hfit D6
         have Ns:Reads dp (nh uC o1 ex) (aM (ao.bitsOf (mE/2^ex) (m2-ex))):=by
          have h:=Po (q:=ex) Em.out (by rw[hf];exact D6);rw[Tb]at h;exact h
         have Se:=I Ns;have Qy:=I (ae7 uC o1 ex cf DE);have QT:Hid (mE/2^ex<2^(m2-ex)):=I (by
          rw[div_lt_iff_lt_mul (eW _),<-dM,show m2-ex+ex=m2 by omega];exact yZ)
         have vS:=Zy c mE hc28;have hrow2:=e8.out.bm j (.int .i64 c);have jS:=aQ.out.cG (p:=⟨l4,j,none⟩) UW (by simpa using SE.out) (.int .i64 c);have hbw2:Below cf dp (wr.setCell ⟨l4,j,none⟩ (.int .i64 c)):=jS.dy;have f2:=hrow2.free j;have qj:(wr.setCell ⟨l4,j,none⟩ (.int .i64 c)).cell? ⟨l4,j,none⟩=some (.int .i64 c):=by
          rw[hrow2.cell];rcases(by omega:j=0\/j=1\/j=2)with rfl | rfl | rfl<;>rfl
         have gh:=I hrow2;have fb:=I jS;have hmx:m2-ex<=o1-ex:=by omega
         have WM:m2-ex<=32768:=by omega
         generalize zp:m2-ex=m3 at *;generalize lh:o1-ex=Tv at *;generalize nh uC o1 ex=Qq at *;obtain⟨v,aE⟩:∃v,v=n4 c mE:=⟨_,rfl⟩;rw[<-aE]at ez vS;have gG:Hid (((s9 xs).set j (.int .i64 c)).set j (.int .i64 v)=s9 (xs++[v])):=I (by
          rw[set_set,<-oD.out,Zz xs v (by rw[oD.out];exact Wj)])
         by_cases eU:c<16
         .have d16:decide (16<=c)=false:=aT;have agP:decide ((16:Int)<=c)=false:=aT;have NL:v=c:=by rw[aE];unfold n4;rw[aA eU]
          have kq:Hid (Row (wr.setCell ⟨l4,j,none⟩ (.int .i64 c)) l4 30 (s9 (xs++[v]))):=I (by
           rw[<-gG.out,set_set,NL];exact gh)
          clear hrow2 jS hbw2 f2 qj Ns gG gh aQ e8 fI aE zp lh hfit D6 Em DE yZ;go_wp2_with fail
          refine(qb.out _).mono ?_;rintro e dt ⟨rfl,rfl⟩;go_wp2;go_roundw
          case rel=>
           refine⟨j+1,m3,mE/2^ex,Tv,Qq,xs++[v],by go_num,by omega,WM,rfl,hmx,I (by rw[aY,oD.out];rfl),I (λx ah=>?_),QT,Se,Qy,fb,kq,I ?_⟩
           .rcases List.mem_append.1 ah with ah | ah
            .exact sZ.out x ah
            .rw[List.mem_singleton.1 ah];exact vS
           .rw[ez.out];cases ln ((jM [c0,c1,c2] h9).drop (j+1)) (mE/2^ex) m3<;>simp
          case measure=>simp[intOf];omega
         .have d16:decide (16<=c)=true:=cl;have agP:decide ((16:Int)<=c)=true:=cl;have V0:ex=c-12:=by
           rw[fI.out.1];unfold fY;rw[ay eU]
          obtain⟨P,cJ⟩:∃P,P=2^ex:=⟨_,rfl⟩;obtain⟨R,cS⟩:∃R,R=mE%2^ex:=⟨_,rfl⟩;have NL:v=P+R:=by rw[aE,cJ,cS,V0];unfold n4;rw[ay eU]
          have X2:(P:Int)+R=v:=by omega
          have bI:=λW=>vR (ex:Int) W (by omega)
          rw[cY,<-cJ]at bI;have eT:=I bI;obtain⟨h5,Ik,UT,fo⟩:=Em.out (by intro e;have:=congrArg List.length e;rw[gw,hf,length_nil]at this;omega);have lM:=DE.out _ UT;dsimp only at lM;have D1:h5<dp.heap.size:=by rw[uI.out];exact lM
          have HM:=λW (h:Below cf dp W)=>aar h5 Ik ex o1 mE W (by omega) (by omega) (λt aC=>by
           have h1:=fo t (by rw[gw,hf];omega);rw[ja _ t (by rw[hf];omega),l3]at h1;exact(h.cell (p:=⟨h5,Ik+t,none⟩) lM).trans h1)
          rw[<-cS]at HM;have adz:=I HM;subst UT;have qy:=λW=>GV (some ⟨h5,Ik,none⟩) m2 o1 ex W hfit D6
          have Me:R<=65535:=by omega
          have Ba:P<=65535:=by omega
          have au1:IntKind.i64.wrap (R:Int)=R:=IntWalk.i64_in _ (by omega);clear hrow2 jS Ns aQ e8 fI aE zp lh hfit Em DE yZ NL cJ cS bI HM fo V0 lM D1;clear hbw2 f2;go_upto_region 35 with(go_at_call 81;refine(qb.out _).mono ?_;rintro e dt ⟨rfl,rfl⟩)
          generalize wr.setCell ⟨l4,j,none⟩ (.int .i64 c)=aB at *;have JG:=I (fb.out.below dQ.drew);have JE:=I (gh.out.below dQ.drew);have f2:=JE.out.free j;have hbw2:=JG.out.dy;refine wp_region_held_drew (S:=(λW:ai=>Below cf dp W)) (by kernel_rfl) (by exact hbw2) (λhHeld=>?_);refine ch 0 {dst:=some 110,op:=.move (.tmp 20),type:=3,pos:= "ref.go:142",after:=#[],guard:=none} ?_ rfl (Or.inl ⟨by rfl,?_⟩) ?_;rotate_left
          ·(intro w hSw;(try dsimp only at hSw);go_simp;(try with_reducible rfl))
          try simp only[bx]
          refine ch 1 {dst:=some 111,op:=.move (.tmp 22),type:=3,pos:= "ref.go:142",after:=#[],guard:=none} ?_ rfl (Or.inl ⟨by rfl,?_⟩) ?_;rotate_left
          ·(intro w hSw;(try dsimp only at hSw);go_simp;(try with_reducible rfl))
          try simp only[bx]
          refine ch 3 {dst:=some 113,op:=.move (.tmp 15),type:=112,pos:= "ref.go:142",after:=#[],guard:=none} ?_ rfl (Or.inl ⟨by rfl,?_⟩) ?_;rotate_left
          ·(intro w hSw;(try dsimp only at hSw);go_simp;(try with_reducible rfl))
          try simp only[bx]
          refine ch 4 {dst:=some 114,op:=.move (.tmp 22),type:=3,pos:= "ref.go:142",after:=#[],guard:=none} ?_ rfl (Or.inl ⟨by rfl,?_⟩) ?_;rotate_left
          ·(intro w hSw;(try dsimp only at hSw);go_simp;(try with_reducible rfl))
          try simp only[bx]
          refine ch 5 {dst:=some 115,op:=.slice 112 (.tmp 113) none (some (.tmp 114)) none,type:=112,pos:= "ref.go:142",after:=#[{on:=3,ground:=.data},{on:=4,ground:=.data}],guard:=none} ?_ rfl (Or.inl ⟨by rfl,?_⟩) ?_;rotate_left
          ·(intro w hSw;(try dsimp only at hSw);go_simp;(try with_reducible rfl))
          try simp only[bx]
          refine iq 2 {dst:=some 112,op:=.call {callee:=.value (.func 82),args:=#[.tmp 111],argTypes:=#[3]},type:=3,pos:= "ref.go:142",after:=#[{on:=1,ground:=.data}],guard:=none} rfl (λK hK=>?_);go_simp
          (go_at_call 82;refine(eT.out _).mono ?_;rintro o5 oQ ⟨rfl,rfl⟩)
          go_simp;refine hK.out _ _ (by exact hbw2) (λhHeld=>?_);clear hK K
          try simp only[bx]
          refine iq 6 {dst:=some 116,op:=.call {callee:=.value (.func 83),args:=#[.tmp 115],argTypes:=#[112]},type:=132,pos:= "ref.go:142",after:=#[{on:=5,ground:=.data},{on:=2,ground:=.chain}],guard:=none} rfl (λK hK=>?_);go_simp
          (go_at_call 83;refine(adz.out _ hbw2).mono ?_;rintro Lw x4 ⟨rfl,rfl⟩)
          go_simp;refine hK.out _ _ (by exact hbw2) (λhHeld=>?_);clear hK K
          try simp only[bx]
          refine ch 7 {dst:=some 117,op:=.convert 132 3 (.tmp 116),type:=3,pos:= "ref.go:142",after:=#[{on:=6,ground:=.data}],guard:=none} ?_ rfl (Or.inl ⟨by rfl,?_⟩) ?_;rotate_left
          ·(intro w hSw;(try dsimp only at hSw);go_simp;(try with_reducible rfl))
          try simp only[bx]
          refine ch 8 {dst:=some 118,op:=.binOp .add 3 (.tmp 112) (.tmp 117) 3,type:=3,pos:= "ref.go:142",after:=#[{on:=2,ground:=.data},{on:=7,ground:=.data}],guard:=none} ?_ rfl (Or.inl ⟨by rfl,?_⟩) ?_;rotate_left
          ·(intro w hSw;(try dsimp only at hSw);go_simp;(try with_reducible rfl))
          try simp only[bx]
          refine ch 9 {dst:=some 119,op:=.indexAddr 30 (.tmp 19) (.tmp 110),type:=0,pos:= "ref.go:142",after:=#[{on:=0,ground:=.data},{on:=0,ground:=.phase},{on:=1,ground:=.phase},{on:=2,ground:=.phase},{on:=3,ground:=.phase},{on:=4,ground:=.phase},{on:=5,ground:=.phase},{on:=6,ground:=.phase},{on:=7,ground:=.phase},{on:=8,ground:=.phase}],guard:=none} ?_ rfl (Or.inl ⟨by rfl,?_⟩) ?_;rotate_left
          ·(intro w hSw;(try dsimp only at hSw);go_simp;(try with_reducible rfl))
          try simp only[bx]
          refine iq 10 {dst:=none,op:=.store 3 (.tmp 119) (.tmp 118),type:=0,pos:= "ref.go:142",after:=#[{on:=9,ground:=.data},{on:=8,ground:=.data},{on:=6,ground:=.chain},{on:=0,ground:=.phase},{on:=1,ground:=.phase},{on:=2,ground:=.phase},{on:=3,ground:=.phase},{on:=4,ground:=.phase},{on:=5,ground:=.phase},{on:=6,ground:=.phase},{on:=7,ground:=.phase},{on:=8,ground:=.phase}],guard:=none} rfl (λK hK=>?_);go_simp;refine hK.out _ _ (by exact hbw2.setCell (by show cf<=l4;omega) _) (λhHeld=>?_);clear hK K
          try simp only[bx]
          refine wpAnyH_done (by kernel_rfl) ?_ _;have wY:=I (JG.out.cG (p:=⟨l4,j,none⟩) UW (by simpa using SE.out) (.int .i64 v));have hrow3:=JE.out.bm j (.int .i64 v);rw[gG.out]at hrow3;have kq:=I hrow3;clear hrow3 JG JE hbw2 f2 qj qy;go_wp2;go_roundw
          case rel=>
           refine⟨j+1,m3,mE/2^ex,Tv,Qq,xs++[v],by go_num,by omega,WM,rfl,hmx,I (by rw[aY,oD.out];rfl),I (λx ah=>?_),QT,Se,Qy,wY,kq,I ?_⟩
           .rcases List.mem_append.1 ah with ah | ah
            .exact sZ.out x ah
            .rw[List.mem_singleton.1 ah];exact vS
           .rw[ez.out];cases ln ((jM [c0,c1,c2] h9).drop (j+1)) (mE/2^ex) m3<;>simp
          case measure=>simp[intOf];omega
        .rw[ay hfit]at ez;have dw:Hid (res=none):=I (by rw[hres.out,uU.out,kb,ez.out];rfl);have ag2:decide ((m2:Int)<ex)=true:=cl;have ag3:decide (m2<ex)=true:=cl;have aV:=I (iP.out.trans (aQ.out.dy.mono NM));clear ez hres uU hfit aQ e8 fI;go_wp2_with fail
         refine(qb.out _).mono ?_;rintro e dt ⟨rfl,rfl⟩;go_wp2;go_ret2;rw[dw.out];exact⟨rfl,aV⟩
       .have ajB:j=3:=by omega
        subst ajB;have ez:=I jR.out;rw[show(jM [c0,c1,c2] h9).drop 3=[]from rfl,ln,map_some,append_nil]at ez;obtain⟨qC,mx,rB,NS⟩:∃qC mx rB,xs=[qC,mx,rB]:=by
         match xs,oD.out with
         | [x,y,z],_=>exact⟨x,y,z,rfl⟩
        subst NS;have ro:qC<=65535:=sZ.out qC (by simp);have hmx:mx<=65535:=sZ.out mx (by simp);have ajV:rB<=65535:=sZ.out rB (by simp);have Bz:Row wr l4 30 [.int .i64 qC,.int .i64 mx,.int .i64 rB]:=e8.out;obtain⟨x0,je,iO⟩:=dE Bz;obtain⟨eb,bN,rc⟩:=r;obtain⟨lu,kn,ko⟩:=dE aQ.out.lr;obtain⟨aS,h6,hc⟩:=aj.out;dsimp only at lu kn ko aS h6 hc;have jI:=I hres.out;rw[uU.out,kb,ez.out]at jI;simp only[dR,dU,b6]at jI;have ce:=I (λW=>aoz eb bN rc rB W ajV aS h6 hc);have fb:=I aQ.out;have yy:=I Bz;clear hres ez jR e8 Bz aQ sZ oD uU;cases hoff:ka eb bN rc (rB:Int)with
        | none=>
         rw[hoff]at jI ce;rw[getD_none]at ce;have dw:Hid (res=none):=I jI.out;have aV:=I (iP.out.trans (fb.out.dy.mono NM));clear hoff jI;go_wp2_with fail
         refine(ce.out _).mono ?_;rintro e dt ⟨rfl,fZ⟩;have akh:w.heap.size<=wr.heap.size:=aV.out.size;have h2:=I (aV.out.trans (fZ.mono akh));clear fZ aV ce fb yy;go_wp2;go_ret2;rw[dw.out];exact⟨rfl,h2⟩
        | some x=>
         rw[hoff]at jI ce;rw[b6]at ce;dsimp only at jI;have ah:=ZD _ _ _ _ _ hoff;have FJ:=I (λW=>alz eb bN rc x W);have Aw:=I (Pq (eb,bN,rc) x aj.out ah);dsimp only at Aw;obtain⟨⟨o6,qn,mJ⟩,bS⟩:∃dc,dc=hx eb bN rc x:=⟨_,rfl⟩;rw[<-bS]at FJ Aw jI;dsimp only at FJ;clear hoff bS aS h6 hc aj;obtain⟨kY,rfl⟩:∃kY:Nat,x=(kY:Int):=⟨x.toNat,by omega⟩;rw[cY]at jI;have auq:((kY:Int) == 0)=false:=cz
         have ajP:(mx:Int)+3=((mx+3:Nat):Int):=by omega
         go_wp2_with fail
         refine(ce.out _).mono ?_;rintro e dt ⟨rfl,fZ⟩;have Ky:=I (fb.out.below fZ);have Sh:=I (yy.out.below fZ);obtain⟨z0,gl,z2⟩:=dE Ky.out.lr;dsimp only at z0 gl z2;clear fZ ce fb yy x0 je iO lu kn ko;go_wp2_with fail
         refine(FJ.out _).mono ?_;rintro e oQ ⟨rfl,lf⟩;have qe:=I (Ky.out.below lf);have Si:=I (Sh.out.below lf);clear lf FJ Ky Sh z0 gl z2;obtain⟨z0,gl,z2⟩:=dE qe.out.lr;have g0:=qe.out.lr.free 0;have g1:=qe.out.lr.free 1;have g2:=qe.out.lr.free 2;have OD:l4≠cf:=by omega
         have wZ:=I (qe.out.turn o6 qn mJ);have Xi:Row (((oQ.setCell ⟨cf,0,none⟩ (.int .i64 o6)).setCell ⟨cf,1,none⟩ (.int .i64 qn)).setCell ⟨cf,2,none⟩ (.int .i64 mJ)) l4 30 [.int .i64 qC,.int .i64 mx,.int .i64 rB]:=((Si.out.cG (p:=⟨cf,0,none⟩) OD _).cG (p:=⟨cf,1,none⟩) OD _).cG (p:=⟨cf,2,none⟩) OD _;have Sj:=I Xi;clear Xi qe Si;go_upto_region 41 with fail
         generalize ((oQ.setCell ⟨cf,0,none⟩ (.int .i64 o6)).setCell ⟨cf,1,none⟩ (.int .i64 qn)).setCell ⟨cf,2,none⟩ (.int .i64 mJ)=Qi at *;clear z0 gl z2 g0 g1 g2;obtain⟨x0,je,iO⟩:=dE Sj.out;obtain⟨ul,WN⟩:∃ul,ul=mx+3:=⟨_,rfl⟩;rw[<-WN]at ajP jI;have M4:ul<=65538:=by omega
         have hown:=wZ.out.own;rw[cR.out]at hown;have hQ:=I hown;clear WN hown Sj;go_wp2_with (at_builtin;refine wpList_append_own _ rfl _ _ 68 rfl B 118 i0 (.agg #[.int .i64 0,.int .i64 0,.int .i64 0]) 3 24 underlying68 ax bB bK bw rfl (by decide) _ _ _ rfl (hQ.out.alloc _) ⟨Qi.heap.size,0,none⟩ 1 1 [.int .i64 qC,.int .i64 ul,.int .i64 kY] rfl rfl ?d1 ?d2 ?d3 ?d4 ?d5 ?_)
         case d1=>
          intro j u ar;match j,ar with
          | 0,ar=>simp at ar;subst ar;simp[Addr.add]
          | 1,ar=>simp at ar;subst ar;simp[Addr.add]
          | 2,ar=>simp at ar;subst ar;simp[Addr.add]
         case d2=>
          intro u hu;simp at hu;rcases hu with rfl | rfl | rfl<;>rfl
         case d3=>unfold maxLen;omega
         case d4=>omega
         case d5=>have:=wZ.out.low;simp;omega
         intro gZ x4 Nd HD _;have gT:gP D++[.int .i64 qC,.int .i64 ul,.int .i64 kY]=gP (D++[(qC,ul,kY)]):=by rw[aa0];rfl
         rw[gT]at Nd;have XI:qg dp x4 cf B (o6,qn,mJ) gZ (D++[(qC,ul,kY)]):=by
          have hl:=wZ.out.low;have oy:=HD.size;rw[World.size_alloc]at oy;refine⟨(wZ.out.dy.alloc (by omega) _).grown HD (by rw[World.size_alloc];omega) (λx e=>by have:=(hQ.out.lt x e).1;omega),?_,by rw[aY,cR.out];exact Nd,by omega⟩;have e7:=wZ.out.lr.alloc (.cells #[.int .i64 qC,.int .i64 ul,.int .i64 kY] 118);exact e7.keep (HD.block cf e7.lt (λe=>by have:=(hQ.out.lt cf e.symm).1;omega))
         have ad1:=I XI;have adS:Hid (res=(sm ((kb ((jD [c0,c1,c2] n).drop (h9+1)) mE m2 (o6,qn,mJ)).map λq=>((D++[(qC,ul,kY)])++q.1,q.2))).map λm=>(m,pt)):=I (by
          rw[jI.out];cases kb ((jD [c0,c1,c2] n).drop (h9+1)) mE m2 (o6,qn,mJ)<;>simp)
         clear gT Nd XI HD hQ wZ jI x0 je iO;go_wp2;go_roundw
         case rel=>exact⟨h9+1,m2,mE,o1,uC,D++[(qC,ul,kY)],(o6,qn,mJ),by go_num,by omega,ajN,rfl,D6,I (by rw[aY,cR.out];rfl),Aw,yZ,Em,DE,ad1,adS⟩
         case measure=>simp[intOf];omega
     .have hkn':h9=n:=by omega
      subst hkn';have vj:decide ((h9:Int)<h9)=false:=aT;have eA:=I hres.out;rw[show(jD [c0,c1,c2] h9).drop h9=[]from drop_of_length_le (by simp[jD]),kb,map_some,append_nil]at eA;unfold sm at eA;dsimp only at eA;have hcall:=Z9 z7 ij (ao.bitsOf X m) wr (by rw[hf];omega) (c9 cX.out (pz.out wr aQ.out.dy));have hdec:decide ((ao.bitsOf X m).length<8/\∀x∈ao.bitsOf X m,x=0)=decide (m<8/\X=0):=by
       rw[hf];exact decide_eq_decide.2 ⟨λh=>⟨h.1,(KY X m cK).1 h.2⟩,λh=>⟨h.1,(KY X m cK).2 h.2⟩⟩
      rw[hdec,hf]at hcall;have ce:=I hcall;obtain⟨acg,co,NJ,mb,_⟩:=abe aQ.out.own;rw[cR.out]at NJ;rw[NJ];have yz:=I mb;have aV:=I (iP.out.trans (aQ.out.dy.mono NM));clear hcall hdec hres aQ mb NJ cX LX cK;by_cases hend:m<8/\X=0
      .rw[aA hend]at eA;rw[bG hend]at ce;clear hend;go_wp2_with fail
       refine ce.out.mono ?_;rintro e a1 ⟨rfl,rfl⟩;clear ce;go_wp2;go_ret2;rw[eA.out,map_some];refine⟨?_,aV⟩;unfold Dd;dsimp only;rw[cR.out];exact⟨acg,co,rfl,yz⟩
      .rw[ay hend]at eA;rw[bF hend]at ce;clear hend;go_wp2_with fail
       refine ce.out.mono ?_;rintro e a1 ⟨rfl,rfl⟩;clear ce;go_wp2;go_ret2;rw[eA.out];exact⟨rfl,aV⟩
theorem aor(l:ae)(most:Int)(w:ai)(hl:l.length<=50000)(av:∀x∈l,x<256)(hm:en most) :
  Calls prog 48 #[.string (strOf l),.int .i64 most] w λe w'=>Dd w' e (iM l most)/\Below w.heap.size w w':=by
 have aL:=A3 l w (by omega) av;have aE:(aW l).1<18446744073709551616:=by
  rcases eq_zero_or_pos (aW l).2 with h | h
  .have:=LJ l (aW l).1 (by rw[<-h]);omega
  .exact gV (sn l (aW l).1 (aW l).2 h rfl).1 (by decide)
 have hk:(aW l).2<=l.length:=by
  rcases eq_zero_or_pos (aW l).2 with h | h
  .omega
  .exact(sn l _ _ h rfl).2.2
 unfold iM;generalize (aW l).1=v at *;generalize (aW l).2=k at *;by_cases h:0<k/\(v:Int)<=most/\v<=1000
 .rw[aA h];by_cases am:v=0
  .subst am;rw[aA rfl];exact aou _ k most w h.1 (by omega) ⟨by omega,hm.2⟩ aL
  .rw[ay am];exact aos l v k most w hl av (by omega) h.2.2 h.2.1 hm.2 h.1 hk aL
 .rw[ay h];exact aot _ v k most w aE (by omega) hm h aL
end Go.Proofs.YtgiicohbigiapaaGreat
