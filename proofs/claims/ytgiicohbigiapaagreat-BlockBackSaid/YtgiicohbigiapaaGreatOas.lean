/- Contracts. -/
import Derived.Test.YtgiicohbigiapaaGreatOaq
import Derived.Test.YtgiicohbigiapaaGreatOar
import Derived.Test.YtgiicohbigiapaaGreatOz2
import Derived.Test.YtgiicohbigiapaaGreatOz1
import Derived.Test.YtgiicohbigiapaaGreatOz0
set_option maxHeartbeats 4000000
set_option maxRecDepth 100000
open Go.Proofs.Tryz Go.Proofs.YtgiicohbigiapaaGreat.am List Nat Option
namespace Go.Proofs.YtgiicohbigiapaaGreat
open Go.RowKit
namespace am
def kY(N:List (ae))(vs:ae)(j:Nat):ae:=gg j N++(vs[j]?).toList.map mg
theorem aeT(N:List (ae))(j:Nat):kY N [] j=gg j N:=by simp[kY]
theorem aeQ(N:List (ae))(vs:ae):kY N vs vs.length=gg vs.length N:=by simp[kY]
theorem aeS(N:List (ae))(vs:ae)(v:Nat):kY N (vs++[v]) vs.length=kY N vs vs.length++[mg v]:=by
 rw[aeQ];simp[kY]
theorem aeU(N:List (ae))(vs:ae)(v:Nat)(j:Nat)(h:j≠vs.length):kY N (vs++[v]) j=kY N vs j:=by
 unfold kY;rcases eF j vs.length with h1|h1
 .rw[hO h1]
 .rw[getElem?_eq_none (by rw[aY,length_singleton];omega),getElem?_eq_none h1]
theorem aeP(N:List (ae))(vs:ae)(j:Nat)(h:j<vs.length):kY N vs j=gg j (N++[vs]):=by
 unfold kY gg;rw[bI h,map_append];simp[h]
theorem aeR(N:List (ae))(vs:ae)(j:Nat):(kY N vs j).length<=N.length+1:=by
 unfold kY gg;rw[aY,cQ,cQ];cases vs[j]?<;>simp
theorem atx(m:Int)(h:-9223372036854775808<=m/\m<=9223372036854775807):-9223372036854775808<=IntKind.i64.wrap (m-3)/\IntKind.i64.wrap (m-3)<=9223372036854775807:=by
 by_cases h1:-9223372036854775808<=m-3
 .rw[IntWalk.i64_in _ (by omega)];omega
 .have:m=-9223372036854775808\/m=-9223372036854775807\/m=-9223372036854775806:=by omega
  rcases this with rfl|rfl|rfl<;>decide
theorem atw(m:Int)(h:-9223372036854775808<=m/\m<=9223372036854775807):(3<=m/\m<=65538->IntKind.i64.wrap (m-3)=m-3)/\(0<=IntKind.i64.wrap (m-3)/\IntKind.i64.wrap (m-3)<=65535->3<=m/\m<=65538):=by
 refine⟨λhm=>IntWalk.i64_in _ (by omega),λhw=>?_⟩;by_cases h1:-9223372036854775808<=m-3
 .rw[IntWalk.i64_in _ (by omega)]at hw;omega
 .exfalso
  have:m=-9223372036854775808\/m=-9223372036854775807\/m=-9223372036854775806:=by omega
  rcases this with rfl|rfl|rfl
  .have e:IntKind.i64.wrap (-9223372036854775808-3)=9223372036854775805:=by decide
   rw[e]at hw;omega
  .have e:IntKind.i64.wrap (-9223372036854775807-3)=9223372036854775806:=by decide
   rw[e]at hw;omega
  .have e:IntKind.i64.wrap (-9223372036854775806-3)=9223372036854775807:=by decide
   rw[e]at hw;omega
end am
theorem l3.congr{w:ah}{base:Nat}{vs:b1}{L L':Nat->ae}(h:l3 w base vs L)(bR:∀s,s<vs.length->L' s=L s):l3 w base vs L':=
 ⟨λs v aD=>by rw[bR s (List.getElem?_eq_some_iff.1 aD).1];exact h.own s v aD,h.apart⟩
structure lD(w W:ah)(B bw fM ij eE:Nat)(us:b1)(P:Nat->ae)(F:ae)(r:Int×Int×Int):Prop where
 res:Row W bw 108 [.slice none 0 0,.slice none 0 0,.slice none 0 0]
 all:Row W fM 108 us
 len:us.length=3
 lO:l3 W B us P
 wr:dL W ij 0 (dP F).1 (dP F).2
 lg:Row W eE 154 [.int .i64 r.1,.int .i64 r.2.1,.int .i64 r.2.2]
 dn:av w W
 low:w.heap.size<=bw/\bw<fM/\fM<ij/\ij<eE/\eE<B/\B<=W.heap.size
section
variable {w W bb:ah} {B bw fM ij eE:Nat} {us:b1} {P:Nat->ae} {F:ae} {r:Int×Int×Int}
theorem lD.below(h:lD w W B bw fM ij eE us P F r)(ak:av W bb):lD w bb B bw fM ij eE us P F r:=by
 obtain⟨h1,af,aq,aK,aT,ci,c6,e8⟩:=h;exact⟨h1.below ak,af.below ak,aq,aK.below ak,aT.below ak,ci.below ak,c6.trans (ak.mono c6.size),by have:=ak.size;omega⟩
theorem lD.congr(h:lD w W B bw fM ij eE us P F r){rG:Nat->ae}(cJ:∀s,s<3->rG s=P s):lD w W B bw fM ij eE us rG F r:=by
 obtain⟨h1,af,aq,aK,aT,ci,c6,e8⟩:=h;exact⟨h1,af,aq,aK.congr (λs ap=>cJ s (by omega)),aT,ci,c6,e8⟩
theorem lD.put(h:lD w W B bw fM ij eE us P F r){Ie:ae}(aF:W.grownBy bb (some ij))(hw:dL bb ij 0 (dP Ie).1 (dP Ie).2):lD w bb B bw fM ij eE us P Ie r:=by
 obtain⟨h1,af,aq,aK,_,ci,c6,e8⟩:=h;refine⟨h1.keep (aF.block _ (by omega) (by simp;omega)),af.keep (aF.block _ (by omega) (by simp;omega)),aq,⟨λs v aD=>(aK.own s v aD).kept aF ?_,aK.apart⟩,hw,ci.keep (aF.block _ (by omega) (by simp;omega)),c6.grown aF c6.size (λx e=>by injection e with e;omega),by have:=aF.size;omega⟩;rcases hq:v.ownBlock with _|q
 .exact .inl rfl
 .have:=((aK.own s v aD).lt q hq).1;exact .inr (by simp;omega)
theorem lD.turn(h:lD w W B bw fM ij eE us P F r)(a b c:Int):lD w (((W.setCell ⟨eE,0,none⟩ (.int .i64 a)).setCell ⟨eE,1,none⟩ (.int .i64 b)).setCell ⟨eE,2,none⟩ (.int .i64 c)) B bw fM ij eE us P F (a,b,c):=by
 obtain⟨h1,af,aq,aK,aT,ci,c6,e8⟩:=h;have aG:∀(W:ah) i u {t ag},Row W bw t ag->Row (W.setCell ⟨eE,i,none⟩ u) bw t ag:=λW i u t ag h=>h.cG (by show bw≠eE;omega) u
 have e2:∀(W:ah) i u {t ag},Row W fM t ag->Row (W.setCell ⟨eE,i,none⟩ u) fM t ag:=λW i u t ag h=>h.cG (by show fM≠eE;omega) u
 have e3:∀(W:ah) i u,kW W eE 192->dL W ij 0 (dP F).1 (dP F).2->dL (W.setCell ⟨eE,i,none⟩ u) ij 0 (dP F).1 (dP F).2:=λW i u aA h=>h.keep (oQ W ⟨eE,i,none⟩ u) (by simp;omega) (λg e=>by injection e with e;rw[<-e];exact aA)
 have g6:=ci.sx (u:=192) (by decide);have iK:=g6.setCell ⟨eE,0,none⟩ (.int .i64 a);have k7:=iK.setCell ⟨eE,1,none⟩ (.int .i64 b);have e4:∀(W:ah) i u,l3 W B us P->l3 (W.setCell ⟨eE,i,none⟩ u) B us P:=λW i u h=>h.cG (λs v aD e=>by have:=((h.own s v aD).lt _ e).1;dsimp only at this;omega) u
 have iz:=((ci.bq 0 (.int .i64 a)).bq 1 (.int .i64 b)).bq 2 (.int .i64 c);simp only[set_cons_zero,set_cons_succ]at iz;have gp:=aG _ 2 (.int .i64 c) (aG _ 1 (.int .i64 b) (aG _ 0 (.int .i64 a) h1));have fl:=e2 _ 2 (.int .i64 c) (e2 _ 1 (.int .i64 b) (e2 _ 0 (.int .i64 a) af));have lB:=e3 _ 2 (.int .i64 c) k7 (e3 _ 1 (.int .i64 b) iK (e3 _ 0 (.int .i64 a) g6 aT));have vp:=e4 _ 2 (.int .i64 c) (e4 _ 1 (.int .i64 b) (e4 _ 0 (.int .i64 a) aK));have D9:=((c6.setCell (p:=⟨eE,0,none⟩) (by show w.heap.size<=eE;omega) (.int .i64 a)).setCell (p:=⟨eE,1,none⟩) (by show w.heap.size<=eE;omega) (.int .i64 b)).setCell (p:=⟨eE,2,none⟩) (by show w.heap.size<=eE;omega) (.int .i64 c);exact⟨gp,fl,aq,vp,lB,iz,D9,by simpa [World.setCell]using e8⟩
theorem lD.app(h:lD w W B bw fM ij eE us P F r){rG:Nat->ae}{j:Nat}{u:Value}(hu:us[j]?=some u){g n cap:Nat}(aF:W.grownBy bb u.ownBlock)(et:u.ownBlock=some g\/g=W.heap.size)
  (hown:bb.ownsRow B 5 1 (.slice (some ⟨g,0,none⟩) n cap) n (aO (rG j)))(aA:(rG j).length=n)(bR:∀t,t≠j->rG t=P t) :
  lD w (bb.setCell ⟨fM,j,none⟩ (.slice (some ⟨g,0,none⟩) n cap)) B bw fM ij eE (us.set j (.slice (some ⟨g,0,none⟩) n cap)) rG F r:=by
 obtain⟨h1,af,aq,aK,aT,ci,c6,e8⟩:=h;have mv:∀q,u.ownBlock=some q->B<=q/\q<W.heap.size:=λq e=>(aK.own j u hu).lt q e
 have aZ:∀b,b<B->u.ownBlock≠some b:=λb ak e=>by have:=(mv b e).1;omega
 have bh:=(h1.keep (aF.block _ (by omega) (λe=>aZ bw (by omega) e.symm))).cG (p:=⟨fM,j,none⟩) (by show bw≠fM;omega) (.slice (some ⟨g,0,none⟩) n cap);have bN:=(af.keep (aF.block _ (by omega) (λe=>aZ fM (by omega) e.symm))).bq j (.slice (some ⟨g,0,none⟩) n cap);have alz:=(af.keep (aF.block _ (by omega) (λe=>aZ fM (by omega) e.symm))).sx (u:=192) (by decide);have gn:=l3.push (L':=rG) aK hu aF et hown aA bR;have qk:dL bb ij 0 (dP F).1 (dP F).2:=aT.keep aF (aZ ij (by omega)) (λq e=>by
  obtain⟨c,qI,hk⟩:=Lib.ownsRow_kind (aK.own j u hu) q e;exact⟨c,5,qI,hk,by decide⟩)
 have alB:=qk.keep (oQ bb ⟨fM,j,none⟩ (.slice (some ⟨g,0,none⟩) n cap)) (by simp;omega) (λq e=>by injection e with e;rw[<-e];exact alz);have GQ:=(ci.keep (aF.block _ (by omega) (λe=>aZ eE (by omega) e.symm))).cG (p:=⟨fM,j,none⟩) (by show eE≠fM;omega) (.slice (some ⟨g,0,none⟩) n cap);have M9:=(c6.grown aF c6.size (λq e=>by have:=(mv q e).1;omega)).setCell (p:=⟨fM,j,none⟩) (by show w.heap.size<=fM;omega) (.slice (some ⟨g,0,none⟩) n cap);have alA:=gn.cG (p:=⟨fM,j,none⟩) (λs v aD e=>by have:=((gn.own s v aD).lt _ e).1;dsimp only at this;omega) (.slice (some ⟨g,0,none⟩) n cap);exact⟨bh,bN,by rw[length_set];exact aq,alA,alB,GQ,M9,by have:=aF.size;simpa [World.setCell]using (by omega:w.heap.size<=bw/\bw<fM/\fM<ij/\ij<eE/\eE<B/\B<=bb.heap.size)⟩
end
namespace am
theorem Yu:∀(l:List eS) (r:Int×Int×Int),xM r->(∀s∈l,nS s)->xM (mB r l)
|[],_,h,_=>h
|s::l,r,h,hm=>by
  have ap:=hm s dU;rw[mB];exact Yu l _ (On r s.2.2 h ⟨ap.2.2.2.2.1,ap.2.2.2.2.2⟩) (λx ai=>hm x (eo _ ai))
end am
theorem asn(w:ah)(t0 t1 t2:TypeId)(k9 cb cR:b1):∃W bF bP bw,((w.alloc (.cells k9.toArray t0)).alloc (.cells cb.toArray t1)).alloc (.cells cR.toArray t2)=W /\
  w.heap.size=bF/\w.heap.size+1=bP/\w.heap.size+1+1=bw/\W.heap.size=bw+1/\Row W bF t0 k9/\Row W bP t1 cb/\Row W bw t2 cR/\av w W:=by
 have ao:=Row.new w t0 k9;have h1:=Row.new (w.alloc (.cells k9.toArray t0)) t1 cb;have af:=Row.new ((w.alloc (.cells k9.toArray t0)).alloc (.cells cb.toArray t1)) t2 cR;have bh:(w.alloc (.cells k9.toArray t0)).heap.size=w.heap.size+1:=by simp
 have bN:((w.alloc (.cells k9.toArray t0)).alloc (.cells cb.toArray t1)).heap.size=w.heap.size+1+1:=by simp
 rw[bh]at h1;rw[bN]at af;exact⟨_,_,_,_,rfl,rfl,rfl,rfl,by simp,(ao.alloc _).alloc _,h1.alloc _,af,
  (((Below.refl w.heap.size w).alloc bl _).alloc (by simp) _).alloc (by simp;omega) _⟩
theorem alc(x y z:Int)(W:ah):(Instr.index 30 (.agg #[.int .i64 x,.int .i64 y,.int .i64 z]) (.int .i64 0)).run prog W=.ok (.int .i64 x) W /\
  (Instr.index 30 (.agg #[.int .i64 x,.int .i64 y,.int .i64 z]) (.int .i64 1)).run prog W=.ok (.int .i64 y) W/\(Instr.index 30 (.agg #[.int .i64 x,.int .i64 y,.int .i64 z]) (.int .i64 2)).run prog W=.ok (.int .i64 z) W:=by
 refine⟨?_,?_,?_⟩
 all_goals
  simp[Instr.index,run_underlying underlying30,asIntOf,go_sem]
theorem ald(x y z u:Int)(j:Nat)(h:[x,y,z][j]?=some u)(W:ah):(Instr.index 30 (.agg #[.int .i64 x,.int .i64 y,.int .i64 z]) (.int .i64 j)).run prog W=.ok (.int .i64 u) W:=by
 obtain⟨ao,h1,af⟩:=alc x y z W;match j,h with
|0,h=>simp at h;subst h;exact ao
|1,h=>simp at h;subst h;exact h1
|2,h=>simp at h;subst h;exact af
theorem Hr(b v:Nat)(F:ae)(W:ah)(aD:v<=65535)(hF:∀x∈F,x<=65535)(hl:F.length<=10000)(h:dL W b 0 (dP F).1 (dP F).2) :
  Calls prog 99 #[.pointer (some ⟨b,0,none⟩),.int .u32 (l0 v),.int .i64 (jf v)] W λe w'=>e=.returned (.bool true)/\dL w' b 0 (dP (F++[v])).1 (dP (F++[v])).2/\W.grownBy w' (some b):=by
 obtain⟨_,af,aq,_⟩:=Cu v aD;have aK:=Fl F hF;have h1:=D8 b 0 (dP F).1 (dP F).2 (l0 v) (jf v) W (by omega) (by omega) (by omega) h;rw[mod_eq_of_lt (NB v)]at h1;rw[Rd];exact h1
def rm(w':ah)(e:Ending)(l:List eS):Prop:=
 if ∀s∈l,nS s then ∃fZ bD eA bh eR bN A k,e=.returned (.tuple #[.agg #[.slice fZ l.length bD,.slice eA l.length bh,.slice eR l.length bN],.slice A (j6 (cE (1,2,4) l)).length k,.bool true]) /\
  l.length<=bD/\l.length<=bh/\l.length<=bN/\Reads w' fZ (aO (gg 0 (cE (1,2,4) l)))/\Reads w' eA (aO (gg 1 (cE (1,2,4) l)))/\Reads w' eR (aO (gg 2 (cE (1,2,4) l)))/\Reads w' A (aO (j6 (cE (1,2,4) l)))
 else e=.returned (.tuple #[.agg #[.slice none 0 0,.slice none 0 0,.slice none 0 0],.slice none 0 0,.bool false])
theorem aoA(A:a7)(c:Nat)(l:List eS)(w:ah)(hl:l.length<=700)(cV:wa l)(aj:rL w A l) :
  Calls prog 61 #[.slice A l.length c] w λe w'=>rm w' e l/\av w w':=by
 obtain⟨i0,ay,ak3,tB,n9⟩:=info_parts ob;obtain⟨rH,rU⟩:∃rH:ah->Ending->Prop,rH=λw' e=>rm w' e l:=⟨_,rfl⟩
 have vF:=I rU;have hgoal:(λ(e:Ending) (w':ah)=>rm w' e l/\av w w')=λe w'=>rH w' e/\av w w':=by rw[rU]
 rw[hgoal];clear hgoal rU;have bj:=I aj;have kh:=I cV;have IZ:=I WL;have ab1:=I (λ(v:Nat) (h:v<=65535) (W:ah)=>WI.1 W v h);have EM:=I (λ(z:Int) (ao:hv z) (h:z<0\/65535<z) (W:ah)=>WI.2 W z ao h);clear aj cV;go_enter func61,ntmps61
 go_wp2_with fail
 obtain⟨lj,bw,fM,ij,n0,e2,e5,gG,es,c9,A9,ao8,Aj⟩:=asn w 108 108 153 [.slice none 0 0,.slice none 0 0,.slice none 0 0] [.slice none 0 0,.slice none 0 0,.slice none 0 0] [.pointer none,.int .u64 0,.int .i64 0];have dT:dL lj ij 0 0 0:=by
  have h:=dL.new ((w.alloc (.cells #[.slice none 0 0,.slice none 0 0,.slice none 0 0] 108)).alloc (.cells #[.slice none 0 0,.slice none 0 0,.slice none 0 0] 108)) 153 (by decide);rw[n0]at h;rw[<-gG];have ap:((w.alloc (.cells #[.slice none 0 0,.slice none 0 0,.slice none 0 0] 108)).alloc (.cells #[.slice none 0 0,.slice none 0 0,.slice none 0 0] 108)).heap.size=w.heap.size+1+1:=by simp
  rw[ap]at h;exact h
 rw[n0,gG,e5,e2];refine(IZ.out _).mono ?_;rintro e aC ⟨rfl,aJ⟩;obtain⟨eE,fW⟩:∃eE,aC.heap.size=eE:=⟨_,rfl⟩;obtain⟨B,bx⟩:∃B,eE+1=B:=⟨_,rfl⟩;have dw:=(Below.refl aC.heap.size aC).alloc bl (.cells #[.int .i64 1,.int .i64 2,.int .i64 4] 154);have Oe:=Row.new aC 154 [.int .i64 1,.int .i64 2,.int .i64 4];rw[fW]at Oe;have aS:lD w (aC.alloc (.cells #[.int .i64 1,.int .i64 2,.int .i64 4] 154)) B bw fM ij eE (List.replicate 3 (.slice none 0 0)) (λj=>gg j []) [] (1,2,4):=by
  have gd:=aJ.size;refine⟨(c9.below aJ).below dw,(A9.below aJ).below dw,rfl,l3.NH _ _ _ (λs=>by simp[gg]),(dT.below aJ).below dw,Oe,?_,?_⟩
  .exact(Aj.trans (aJ.mono (by omega))).trans (dw.mono (by omega))
  .rw[World.size_alloc];omega
 have cN:=I aS;have ic:=I fW;clear aJ dw Oe aS fW c9 A9 ao8 dT Aj n0 e2 e5 gG es bx;go_wp2;rw[ic.out];generalize aC.alloc (.cells #[.int .i64 1,.int .i64 2,.int .i64 4] 154)=dK at *;obtain⟨n,aA⟩:∃n,n=l.length:=⟨_,rfl⟩;have b0:=I aA;rw[<-aA]at hl ⊢;clear aA;go_loopw [9,10,11,12,13,14,15,16,17,18,22] (λ_ _ _ _ _ _ _ _ _ _ i wr=>∃(k:Nat) (us:b1),i=.int .i64 k/\k<=n/\Hid (∀s∈l.take k,nS s) /\
  Hid (lD w wr B bw fM ij eE us (λj=>gg j (cE (1,2,4) (l.take k))) (cE (1,2,4) (l.take k)).flatten (mB (1,2,4) (l.take k)))) (λ_ _ _ _ _ _ _ _ _ _ i _=>n-(intOf i).toNat)
 case atStart=>exact⟨0,_,rfl,zero_le _,I (by simp),cN⟩
 case round=>
  obtain⟨k,us,rfl,hk,hall,aS⟩:=hrel;by_cases kG:k<n
  .have uC:decide ((k:Int)<n)=true:=cf;have a8:k<l.length:=by rw[<-b0.out];exact kG
   obtain⟨g,off,rfl,aF,hc⟩:=(bj.out.below aS.out.dn) (by omega);obtain⟨c0,c1,c2⟩:=hc k a8;obtain⟨x,m,o,ap⟩:∃x m o,l[k]=(x,m,o):=⟨_,_,_,rfl⟩;have ca:=I ap;obtain⟨q3,Hi,NS⟩:=kh.out l[k] (b8 a8);rw[ap]at c0 c1 c2 q3 Hi NS;simp only at c0 c1 c2 q3 Hi NS;have hE:Hid (l.take (k+1)=l.take k++[(x,m,o)]):=I (by rw[take_add_one,bI a8,ap];rfl);have sl:=aS.out.below ((Below.refl wr.heap.size wr).alloc bl (.cells #[.int .i64 x,.int .i64 m,.int .i64 o] 118));obtain⟨kP,j0,ke⟩:=dz sl.lg;have Mu:=Yu (l.take k) (1,2,4) ⟨by decide,by decide,by decide⟩ hall.out;obtain⟨eN,cW,iu⟩:=Yv Mu;obtain⟨N,cU⟩:∃N,N=cE (1,2,4) (l.take k):=⟨_,rfl⟩;have jr:=I cU;have EE:Hid (cE (1,2,4) (l.take (k+1))=N++[qv (mB (1,2,4) (l.take k)) (x,m,o)]/\mB (1,2,4) (l.take (k+1))=hn (mB (1,2,4) (l.take k)).1 (mB (1,2,4) (l.take k)).2.1 (mB (1,2,4) (l.take k)).2.2 o):=I (by rw[hE.out,XI,Yt,cU];exact⟨rfl,rfl⟩);rw[<-cU]at sl;generalize mB (1,2,4) (l.take k)=r at *;have zC:=I sl;clear hc ap aS sl cU;by_cases b9:1<=o/\o<=65533
   .have cY:=I (λW=>aoM W r.1 r.2.1 r.2.2 (x,m,o) eN cW iu b9);dsimp only at cY;have bz:=Hd r.1 r.2.1 r.2.2 o b9.1 b9.2;obtain⟨⟨dV,bO,rc⟩,TG⟩:∃r',r'=hn r.1 r.2.1 r.2.2 o:=⟨_,rfl⟩;rw[<-TG]at cY EE;have VW:qv r (x,m,o)=[x.toNat,(m-3).toNat,(hb r.1 r.2.1 r.2.2 o).toNat]:=rfl;rw[VW]at EE;obtain⟨z2,Ws⟩:∃z2,z2=hb r.1 r.2.1 r.2.2 o:=⟨_,rfl⟩;rw[<-Ws]at cY EE bz;have kI:=atw m Hi;obtain⟨gh,MW⟩:∃gh,gh=IntKind.i64.wrap (m-3):=⟨_,rfl⟩;rw[<-MW]at cY kI;have JH:=I kI;have adh:Hid (hv gh):=I (by rw[MW];exact atx m Hi);dsimp only at cY;clear TG VW Ws MW kI eN cW iu Mu;go_wp2_with fail
    refine(cY.out _).mono ?_;rintro e a6 ⟨rfl,bA⟩;have tv:=zC.out.below bA;have L4:=tv.low;obtain⟨p2,oR⟩:∃p2,a6.heap.size=p2:=⟨_,rfl⟩;have rt:=Row.new (a6.alloc (.cells #[.int .i64 x,.int .i64 gh,.int .i64 z2] 30)) 154 [.int .i64 dV,.int .i64 bO,.int .i64 rc];have Hz:=(Row.new a6 30 [.int .i64 x,.int .i64 gh,.int .i64 z2]).alloc (.cells #[.int .i64 dV,.int .i64 bO,.int .i64 rc] 154);rw[World.size_alloc,oR]at rt;rw[oR]at Hz;have gT:=(tv.below ((Below.refl a6.heap.size a6).alloc bl (.cells #[.int .i64 x,.int .i64 gh,.int .i64 z2] 30))).below ((Below.refl _ (a6.alloc (.cells #[.int .i64 x,.int .i64 gh,.int .i64 z2] 30))).alloc bl (.cells #[.int .i64 dV,.int .i64 bO,.int .i64 rc] 154));have lI:=I gT;have QB:=I rt;have oD:=I Hz;have BA:=I oR;obtain⟨t0,t1,t2⟩:=dz gT.lg;have f0:=gT.lg.free 0;have f1:=gT.lg.free 1;have f2:=gT.lg.free 2;obtain⟨tJ,gp,fl⟩:=dz rt;obtain⟨lz,cl,cp⟩:=dz Hz;have b2:p2+1≠eE:=by omega
    have bU:p2≠eE:=by omega
    rw[<-oR]at tJ gp fl lz cl cp b2 bU;clear bA tv gT rt Hz oR L4 kP j0 ke c0 c1 c2;go_wp2;rw[BA.out];have sm:=lI.out.turn dV bO rc;have adY:Hid (lD w (((((a6.alloc (.cells #[.int .i64 x,.int .i64 gh,.int .i64 z2] 30)).alloc (.cells #[.int .i64 dV,.int .i64 bO,.int .i64 rc] 154)).setCell ⟨eE,0,none⟩ (.int .i64 dV)).setCell ⟨eE,1,none⟩ (.int .i64 bO)).setCell ⟨eE,2,none⟩ (.int .i64 rc)) B bw fM ij eE us (kY N []) (N.flatten++[]) (dV,bO,rc)):=I (by
     rw[append_nil];exact sm.congr (λs _=>aeT N s))
    clear sm t0 t1 t2 f0 f1 f2 tJ gp fl lz cl cp b2 bU;generalize ((((a6.alloc (.cells #[.int .i64 x,.int .i64 gh,.int .i64 z2] 30)).alloc (.cells #[.int .i64 dV,.int .i64 bO,.int .i64 rc] 154)).setCell ⟨eE,0,none⟩ (.int .i64 dV)).setCell ⟨eE,1,none⟩ (.int .i64 bO)).setCell ⟨eE,2,none⟩ (.int .i64 rc)=vA at *;have Ir:Hid ((∀v∈N.flatten,v<=65535)/\N.flatten.length<=3*700/\N.length<=700):=I (by
     rw[jr.out,CI,A2,cr];exact⟨A3 _ _ hall.out,by omega,by omega⟩)
    rename ah=>sL
    go_loopw [13,14,15,16,17,18,38] (λ_ _ _ _ _ _ i wr=>∃(j:Nat) (vs:ae) (us:b1),i=.int .i64 j/\j<=3/\Hid (vs.length=j)/\Hid (∀v∈vs,v<=65535)/\Hid ([x,gh,z2].take j=vs.map λv:Nat=>(v:Int)) /\
     Hid (lD w wr B bw fM ij eE us (kY N vs) (N.flatten++vs) (dV,bO,rc))) (λ_ _ _ _ _ _ i _=>3-(intOf i).toNat)
    case atStart=>exact⟨0,[],us,rfl,by omega,I rfl,I (by simp),I rfl,adY⟩
    case round=>
     obtain⟨j,vs,us,rfl,ar,tA,vf,AS,aS⟩:=hrel;by_cases yl:j<3
     .have oM:(j:Int)<3:=by omega
      obtain⟨z,aQ⟩:∃z,[x,gh,z2][j]?=some z:=⟨_,bI (by simpa using yl)⟩;have hidx:=ald x gh z2 z j aQ;have jM:=I aQ;have M0:hv z:=by
       rcases(by omega:j=0\/j=1\/j=2)with rfl|rfl|rfl
       .simp at aQ;subst aQ;exact q3
       .simp at aQ;subst aQ;exact adh.out
       .simp at aQ;subst aQ;unfold hv;omega
      have hu:∃u,us[j]?=some u:=⟨_,bI (by rw[aS.out.len];exact yl)⟩;obtain⟨u,hu⟩:=hu;have zE:=I hu;clear aQ hu;by_cases bC:0<=z/\z<=65535
      .obtain⟨v,rfl⟩:∃v:Nat,z=(v:Int):=⟨z.toNat,by omega⟩;have aD:v<=65535:=by omega
       have cY:=I (λW=>ab1.out v aD W);have gZ:=(Cu v aD).2.1;have qO:IntKind.u32.wrap ((l0 v:Nat):Int)=((l0 v:Nat):Int):=by rw[IntKind.wrap_u32];omega
       have oB:=I (λW h=>Hr ij v (N.flatten++vs) W aD (λq hq=>(List.mem_append.1 hq).elim (Ir.out.1 q) (vf.out q)) (by rw[aY,tA.out];have:=Ir.out.2.1;omega) h);have gP:=I aS.out;have cJ:(kY N vs j).length<=701:=dl (aeR N vs j) (by have:=Ir.out.2.2;omega);clear bC aS M0;go_wp2_with fail
       refine(cY.out _).mono ?_;rintro e bH ⟨rfl,bc⟩;have gT:=gP.out.below bc;have c5:=(gT.all.cell j).trans zE.out;have zv:=I (gT.lO.own j u zE);have yK:=gT.low;have lI:=I gT;clear bc gT;generalize jA:mg v=hH at *;go_wp2_with (at_builtin;refine wpList_append_lies _ rfl _ _ 87 rfl B 5 i0 (.int .u8 0) 1 1 underlying87 ay ak3 tB n9 rfl (by decide) _ _ _ rfl (zv.out.alloc _) ⟨bH.heap.size,0,none⟩ 1 1 [.int .u8 hH] rfl rfl ?d1 ?d2 (by decide) ?d3 ?d4 ?d5 _ rfl ?_)
       case d1=>
        intro j u ar;match j,ar with
       |0,ar=>simp at ar;subst ar;simp[Addr.add]
       case d2=>intro u hu;simp at hu;subst hu;rfl
       case d3=>unfold maxLen;omega
       case d4=>omega
       case d5=>simp;omega
       intro g7 Rv dk de di Gi UJ;have sm:=lI.out.below ((Below.refl bH.heap.size bH).alloc bl (.cells #[.int .u8 hH] 5));have happ:=aeS N vs v;rw[jA,tA.out]at happ;have nY:aO (kY N vs j)++[Value.int .u8 hH]=aO (kY N (vs++[v]) j):=by rw[happ];simp[aO]
       rw[nY]at de;have UC:(kY N (vs++[v]) j).length=(kY N vs j).length+1:=by rw[happ];simp
       have AJ:=sm.app (rG:=kY N (vs++[v])) zE.out di (by rw[World.size_alloc];exact Gi) de UC (λt aE=>aeU N vs v t (by rw[tA.out];exact aE));have aj6:=sm.low;have UW:∀q,q<B->u.ownBlock≠some q:=λq hq e=>by have:=(zv.out.lt q e).1;omega
       have Od:=sm.all.keep (di.block fM (by omega) (λe=>UW fM (by omega) e.symm));have Kb:=(Od.cell j).trans zE.out;have f7:=Od.free j;have Cf:=I AJ;have adj:=I (oB.out _ AJ.wr);clear de di Gi UJ sm happ nY UC AJ aj6 UW Od c5;go_wp2_with fail
       refine adj.out.mono ?_;rintro e oo ⟨rfl,Wi,Aq⟩;have rA:=I (Cf.out.put Aq Wi);clear Wi Aq Kb f7;go_wp2;go_roundw
       case rel=>
        refine⟨j+1,vs++[v],_,by go_num,by omega,I (by rw[aY,tA.out];rfl),I (λq hq=>?_),I ?_,by rw[<-df];exact rA⟩
        .rcases List.mem_append.1 hq with hq|hq
         .exact vf.out q hq
         .rw[List.mem_singleton.1 hq];exact aD
        .rw[take_add_one,jM.out,AS.out,map_append];rfl
       case measure=>simp[intOf];omega
      .have DI:z<0\/65535<z:=by omega
       have cY:=I (λW=>EM.out z M0 DI W);have sQ:Hid (¬∀s∈l,nS s):=I (λh=>by
        have hm:=h (x,m,o) (by rw[<-ca.out];exact b8 a8);obtain⟨m1,m2,m3,m4,m5,m6⟩:=hm;dsimp only at m1 m2 m3 m4 m5 m6;have aQ:=jM.out;have gU:=JH.out.1 ⟨m3,m4⟩;rcases(by omega:j=0\/j=1\/j=2)with rfl|rfl|rfl
        .simp at aQ;omega
        .simp at aQ;omega
        .simp at aQ;omega)
       have gP:=I aS.out;clear bC aS M0 DI;go_wp2_with fail
       refine(cY.out _).mono ?_;rintro e bH ⟨rfl,bc⟩;have gT:=gP.out.below bc;obtain⟨d0,d1,d2⟩:=dz gT.res;have f0:=gT.res.free 0;have f1:=gT.res.free 1;have f2:=gT.res.free 2;have yr:=gT.low;have iz:=((gT.res.bq 0 (.slice none 0 0)).bq 1 (.slice none 0 0)).bq 2 (.slice none 0 0);simp only[set_cons_zero,set_cons_succ]at iz;obtain⟨s0,s1,s2⟩:=dz iz;have cS:=I (⟨s0,s1,s2⟩:_/\_/\_);have Ik:=I (((gT.dn.setCell (p:=⟨bw,0,none⟩) yr.1 (.slice none 0 0)).setCell (p:=⟨bw,1,none⟩) yr.1 (.slice none 0 0)).setCell (p:=⟨bw,2,none⟩) yr.1 (.slice none 0 0));clear bc gT iz s0 s1 s2;go_wp2;obtain⟨s0,s1,s2⟩:=cS.out;refine bodyPost_ret (v:=.tuple #[.agg #[.slice none 0 0,.slice none 0 0,.slice none 0 0],.slice none 0 0,.bool false]) (by simp[results,results61,go_sem,s0,s1,s2]) rfl ⟨?_,Ik.out⟩;rw[vF.out];show rm _ _ l;unfold rm;rw[az sQ.out]
     .have uY:j=3:=by omega
      subst uY;have M2:=AS.out;rw[show [x,gh,z2].take 3=[x,gh,z2]from rfl]at M2;obtain⟨v0,v1,v2,AP⟩:∃v0 v1 v2,vs=[v0,v1,v2]:=by
       match vs,tA.out with
      |[a,b,c],_=>exact⟨a,b,c,rfl⟩
      subst AP;simp only[map_cons,map_nil,List.cons.injEq,and_true]at M2;obtain⟨ex,aG,e2⟩:=M2;have bF:=vf.out v0 (by simp);have bP:=vf.out v1 (by simp);have yx:=JH.out.2 (by omega);have gU:=JH.out.1 yx;have CZ:Hid (∀s∈l.take (k+1),nS s):=I (λs ap=>by
       rw[hE.out]at ap;rcases List.mem_append.1 ap with ap|ap
       .exact hall.out s ap
       .rw[List.mem_singleton.1 ap];unfold nS;dsimp only;omega)
      have V7:[x.toNat,(m-3).toNat,z2.toNat]=[v0,v1,v2]:=by
       rw[<-gU,ex,aG,e2];simp
      have F8:=EE.out;rw[V7]at F8;have xH:Hid (lD w wr B bw fM ij eE us (λj=>gg j (cE (1,2,4) (l.take (k+1)))) (cE (1,2,4) (l.take (k+1))).flatten (mB (1,2,4) (l.take (k+1)))):=I (by
       rw[F8.1,F8.2,flatten_append,flatten_singleton];exact aS.out.congr (λs ap=>(aeP N [v0,v1,v2] s (by simpa using ap)).symm))
      clear aS V7 F8 gU yx bF bP ex aG e2 AS tA vf;go_wp2;go_roundw
      case rel=>exact⟨k+1,us,by go_num,by omega,CZ,xH⟩
      case measure=>simp[intOf];omega
   .have cY:=I (λW=>aoL W r.1 r.2.1 r.2.2 (x,m,o) eN cW iu NS b9);dsimp only at cY;have sQ:Hid (¬∀s∈l,nS s):=I (λh=>by
     have hm:=h (x,m,o) (by rw[<-ca.out];exact b8 a8);exact b9 ⟨hm.2.2.2.2.1,hm.2.2.2.2.2⟩)
    have gP:=zC;clear eN cW iu Mu b9;generalize IntKind.i64.wrap (m-3)=gh at *;go_wp2_with fail
    refine(cY.out _).mono ?_;rintro e bH ⟨rfl,bc⟩;have gT:=gP.out.below bc;have gT:=(gT.below ((Below.refl bH.heap.size bH).alloc bl (.cells #[.int .i64 x,.int .i64 gh,.int .i64 0] 30))).below ((Below.refl _ (bH.alloc (.cells #[.int .i64 x,.int .i64 gh,.int .i64 0] 30))).alloc bl (.cells #[.int .i64 r.1,.int .i64 r.2.1,.int .i64 r.2.2] 154));obtain⟨d0,d1,d2⟩:=dz gT.res;have f0:=gT.res.free 0;have f1:=gT.res.free 1;have f2:=gT.res.free 2;have yr:=gT.low;have iz:=((gT.res.bq 0 (.slice none 0 0)).bq 1 (.slice none 0 0)).bq 2 (.slice none 0 0);simp only[set_cons_zero,set_cons_succ]at iz;obtain⟨s0,s1,s2⟩:=dz iz;have cS:=I (⟨s0,s1,s2⟩:_/\_/\_);have Ik:=I (((gT.dn.setCell (p:=⟨bw,0,none⟩) yr.1 (.slice none 0 0)).setCell (p:=⟨bw,1,none⟩) yr.1 (.slice none 0 0)).setCell (p:=⟨bw,2,none⟩) yr.1 (.slice none 0 0));clear bc gT iz s0 s1 s2;go_wp2_with fail
    generalize (bH.alloc (.cells #[.int .i64 x,.int .i64 gh,.int .i64 0] 30)).alloc (.cells #[.int .i64 r.1,.int .i64 r.2.1,.int .i64 r.2.2] 154)=qw at *;go_wp2;obtain⟨s0,s1,s2⟩:=cS.out;refine bodyPost_ret (v:=.tuple #[.agg #[.slice none 0 0,.slice none 0 0,.slice none 0 0],.slice none 0 0,.bool false]) (by simp[results,results61,go_sem,s0,s1,s2]) rfl ⟨?_,Ik.out⟩;rw[vF.out];show rm _ _ l;unfold rm;rw[az sQ.out]
  .have hkn':k=n:=by omega
   subst hkn';have uC:decide ((k:Int)<k)=false:=aU;have e1:l.take k=l:=by rw[b0.out,take_length]
   have CZ:=hall.out;rw[e1]at CZ;have jE:=aS.out;rw[e1]at jE;have mH:=I CZ;have cN:=I jE;clear hall aS CZ jE e1;obtain⟨u0,u1,u2,tw⟩:∃u0 u1 u2,us=[u0,u1,u2]:=by
    match us,cN.out.len with
   |[a,b,c],_=>exact⟨a,b,c,rfl⟩
   subst tw;have mv:=cN.out.low;have tG:=cN.out.lO.own 0 u0 rfl;have tH:=cN.out.lO.own 1 u1 rfl;have qn:=cN.out.lO.own 2 u2 rfl;have cn:∀j,(gg j (cE (1,2,4) l)).length=k:=λj=>by rw[gg,cQ,A2,b0.out]
   rw[cn]at tG tH qn;obtain⟨fZ,bD,rfl,kH,xY⟩:=kJ tG;obtain⟨eA,bh,rfl,cg,uH⟩:=kJ tH;obtain⟨eR,bN,rfl,bS,uI⟩:=kJ qn;have gl:=(A5 tG).1;have ek:=(A5 tH).1;have ft:=(A5 qn).1;have pz:(dP (cE (1,2,4) l).flatten).2<=100000:=by
    have h1:=Fl _ (A3 l (1,2,4) mH);rw[CI]at h1;have:=b0.out;omega
   have lH:=I (zT ij 0 _ _ wr.drew (by omega) cN.out.wr.drew);have fc:=I (⟨kH,cg,bS⟩:_/\_/\_);have pQ:=I (⟨λa e=>(xY a e).1,λa e=>(uH a e).1,λa e=>(uI a e).1⟩:(∀a,fZ=some a->B<=a.block)/\(∀a,eA=some a->B<=a.block)/\(∀a,eR=some a->B<=a.block));have pR:=I (⟨gl,ek,ft⟩:k<=bD/\k<=bh/\k<=bN);obtain⟨a0,fL,a2⟩:=dz cN.out.all;have eu:(j6 (cE (1,2,4) l)).length=((dP (cE (1,2,4) l).flatten).2+7)/8:=by rw[j6,am.bytesOf_length]
   have wz:am.bytesOf (dP (cE (1,2,4) l).flatten).1 (((dP (cE (1,2,4) l).flatten).2+7)/8)=j6 (cE (1,2,4) l):=rfl;rw[wz,<-eu]at lH;clear tG tH qn cn kH cg bS xY uH uI gl ek ft pz eu wz;generalize Ly:j6 (cE (1,2,4) l)=qC at *;have sP:=I Ly;clear Ly;go_upto_region 21 with fail
   refine wp_region_held_drew (S:=(λW:ah=>W.cell? ⟨fM,0,none⟩=some (.slice fZ k bD)/\W.cell? ⟨fM,1,none⟩=some (.slice eA k bh)/\W.cell? ⟨fM,2,none⟩=some (.slice eR k bN))) (by kernel_rfl) (by exact⟨a0,fL,a2⟩) (λhHeld=>?_);refine bJ 0 {dst:=some 66,op:=.load 108 (.tmp 5),type:=108,pos:= "seqs.go:80",after:=#[],guard:=none} ?_ rfl (Or.inl ⟨by rfl,?_⟩) ?_;rotate_left
   ·(intro w hSw;(try dsimp only at hSw);go_simp;(try with_reducible rfl))
   try simp only[bf]
   refine hd 1 {dst:=some 67,op:=.call {callee:=.value (.func 100),args:=#[.tmp 6],argTypes:=#[153]},type:=87,pos:= "seqs.go:80",after:=#[],guard:=none} rfl (λK hK=>?_);go_simp
   (go_at_call 100;refine lH.out.mono ?_;rintro e oo ⟨g,rfl,fj,Vr,k3⟩;have ib:=I ((Below.refl wr.heap.size wr).drew.trans (k3.mono bl));have aaW:=I Vr;have Il:=I fj;clear fj Vr k3)
   go_simp;refine hK.out _ _ (by exact dz (cN.out.below ib).all) (λhHeld=>?_);clear hK K
   try simp only[bf]
   have AK:=cN.out.below ib.out;obtain⟨d0,d1,d2⟩:=dz AK.res;have f0:=AK.res.free 0;have f1:=AK.res.free 1;have f2:=AK.res.free 2;have rA:=I AK;clear AK;refine hd 2 {dst:=none,op:=.store 108 (.tmp 2) (.tmp 66),type:=0,pos:= "seqs.go:80",after:=#[{on:=0,ground:=.data},{on:=1,ground:=.chain},{on:=0,ground:=.phase},{on:=1,ground:=.textOnly Go.Departure.lateStoresUnsure}],guard:=none} rfl (λK hK=>?_);go_simp;refine hK.out _ _ (by exact dz (((rA.out.all.cG (p:=⟨bw,0,none⟩) (by show fM≠bw;omega) (.slice fZ k bD)).cG (p:=⟨bw,1,none⟩) (by show fM≠bw;omega) (.slice eA k bh)).cG (p:=⟨bw,2,none⟩) (by show fM≠bw;omega) (.slice eR k bN))) (λhHeld=>?_);clear hK K
   try simp only[bf]
   refine bJ 3 {dst:=some 3,op:=.assign (.tmp 67),type:=87,pos:= "seqs.go:80",after:=#[{on:=1,ground:=.data},{on:=2,ground:=.chain},{on:=0,ground:=.phase},{on:=1,ground:=.phase},{on:=2,ground:=.phase}],guard:=none} ?_ rfl (Or.inl ⟨by rfl,?_⟩) ?_;rotate_left
   ·(intro w hSw;(try dsimp only at hSw);go_simp;(try with_reducible rfl))
   try simp only[bf]
   refine bJ 4 {dst:=some 4,op:=.assign (.const (.bool true)),type:=4,pos:= "seqs.go:80",after:=#[{on:=3,ground:=.chain},{on:=0,ground:=.phase},{on:=1,ground:=.phase},{on:=2,ground:=.phase},{on:=3,ground:=.phase}],guard:=none} ?_ rfl (Or.inl ⟨by rfl,?_⟩) ?_;rotate_left
   ·(intro w hSw;(try dsimp only at hSw);go_simp;(try with_reducible rfl))
   try simp only[bf]
   refine wpAnyH_done (by kernel_rfl) ?_ _;have Og:=((rA.out.res.bq 0 (.slice fZ k bD)).bq 1 (.slice eA k bh)).bq 2 (.slice eR k bN);simp only[set_cons_zero,set_cons_succ]at Og;have aaD:=I (((rA.out.dn.setCell (p:=⟨bw,0,none⟩) mv.1 (.slice fZ k bD)).setCell (p:=⟨bw,1,none⟩) mv.1 (.slice eA k bh)).setCell (p:=⟨bw,2,none⟩) mv.1 (.slice eR k bN));have rg:Row (((oo.setCell ⟨bw,0,none⟩ (.slice fZ k bD)).setCell ⟨bw,1,none⟩ (.slice eA k bh)).setCell ⟨bw,2,none⟩ (.slice eR k bN)) g 5 (aO qC):=by
    have ls:g≠bw:=by have:=Il.out;simp at this;omega
    exact((aaW.out.cG (p:=⟨bw,0,none⟩) ls (.slice fZ k bD)).cG (p:=⟨bw,1,none⟩) ls (.slice eA k bh)).cG (p:=⟨bw,2,none⟩) ls (.slice eR k bN)
   have rd:∀(A:a7) (ag:ae),(∀a,A=some a->B<=a.block)->Reads wr A (aO ag)->Reads (((oo.setCell ⟨bw,0,none⟩ (.slice fZ k bD)).setCell ⟨bw,1,none⟩ (.slice eA k bh)).setCell ⟨bw,2,none⟩ (.slice eR k bN)) A (aO ag):=λA ag hA h=>by
    have aZ:∀a,A=some a->a.block≠bw:=λa e=>by have:=hA a e;omega
    exact Ed (Ed (Ed (c7 h ib) aZ (oQ _ ⟨bw,0,none⟩ _)) aZ (oQ _ ⟨bw,1,none⟩ _)) aZ (oQ _ ⟨bw,2,none⟩ _)
   have EG:=I (⟨rd fZ _ pQ.out.1 fc.out.1,rd eA _ pQ.out.2.1 fc.out.2.1,rd eR _ pQ.out.2.2 fc.out.2.2,og rg⟩:_/\_/\_/\_);obtain⟨s0,s1,s2⟩:=dz Og;have cS:=I (⟨s0,s1,s2⟩:_/\_/\_);clear Og rg rd s0 s1 s2 a0 fL a2 d0 d1 d2 f0 f1 f2 hHeld;generalize ((oo.setCell ⟨bw,0,none⟩ (.slice fZ k bD)).setCell ⟨bw,1,none⟩ (.slice eA k bh)).setCell ⟨bw,2,none⟩ (.slice eR k bN)=xa at *;go_wp2;obtain⟨s0,s1,s2⟩:=cS.out;refine bodyPost_ret (v:=.tuple #[.agg #[.slice fZ k bD,.slice eA k bh,.slice eR k bN],.slice (some ⟨g,0,none⟩) qC.length qC.length,.bool true]) (by simp[results,results61,go_sem,s0,s1,s2]) rfl ⟨?_,aaD.out⟩;rw[vF.out];show rm _ _ l;unfold rm;rw[aB mH.out,<-b0.out,sP.out];exact⟨fZ,bD,eA,bh,eR,bN,some ⟨g,0,none⟩,qC.length,rfl,pR.out.1,pR.out.2.1,pR.out.2.2,EG.out.1,EG.out.2.1,EG.out.2.2.1,EG.out.2.2.2⟩
namespace am
theorem J2(X m:Nat)(h:X<2^m):(∀x∈bitsOf X m,x=0)↔X=0:=by
 constructor
 .intro aQ;apply eq_of_testBit_eq
  intro i;rw[zero_testBit,testBit_eq_decide_div_mod_eq];apply bG
  rcases eF i m with ay|ay
  .have h1:=aft X m i ay;have af:=aQ _ (mem_of_getElem? h1);omega
  .rw[div_eq_of_lt (gJ h (dy (by omega) ay))];simp
 .rintro rfl x ai;obtain⟨i,ay,rfl⟩:=getElem_of_mem ai;rw[lM,Nat.zero_div]
theorem apP(V len left:Nat)(bW:V<2^len)(hl:left<=len):decide (((bitsOf V len).drop (len-left)).length<8/\∀x∈(bitsOf V len).drop (len-left),x=0)=qq V len left:=by
 unfold qq;have au:V/2^(len-left)<2^(len-(len-left)):=by
  rw[div_lt_iff_lt_mul (eK _),<-dI,show len-(len-left)+(len-left)=len by omega];exact bW
 have aQ:=J2 _ _ au;rw[Rf,gV,show len-(len-left)=left by omega]at *;exact decide_eq_decide.2 ⟨λh=>⟨h.1,aQ.1 h.2⟩,λh=>⟨h.1,aQ.2 h.2⟩⟩
end am
theorem FC(w:ah)(l:ae)(au:∀x∈l,x<256):∃aC g c,(convert 9 87 (.string (strOf l))).run prog w=.ok (.slice (some ⟨g,0,none⟩) l.length c) aC /\
  Reads aC (some ⟨g,0,none⟩) (aO l)/\(∀a,some (⟨g,0,none⟩:Addr)=some a->0<l.length->a.block<aC.heap.size)/\av w aC:=by
 obtain⟨aC,cap,h,hc,ak⟩:=nW w l au;refine⟨aC,_,cap,h,λ_=>⟨_,0,rfl,λj ar=>?_⟩,λa e ao=>?_,ak⟩
 .rw[i7]at ar;rw[ez,hc j ar,jq l j ar]
 .injection e with e
  subst e;exact RB (hc 0 ao)
def nT(w':ah)(e:Ending):Option (ae×Nat)->Prop
|none=>e=.returned (.tuple #[.slice none 0 0,.int .i64 0])
|some r=>∃A c,e=.returned (.tuple #[.slice A r.1.length c,.int .i64 (r.2:Int)])/\Reads w' A (aO r.1)
theorem ape(A:a7)(c:Nat)(bs:ae)(w:ah)(aA:bs.length<=100000)(cs:∀b∈bs,b<256)(aj:Reads w A (aO bs))(hA:∀a,A=some a->0<bs.length->a.block<w.heap.size) :
  Calls prog 80 #[.slice A bs.length c] w λe w'=>∃da db,e=.returned (.slice da (8*bs.length) db)/\8*bs.length<=db/\db<=maxLen/\Reads w' da (aM (am.bitsOf (bd bs) (8*bs.length)))/\av w w':=by
 refine(Hv A c bs w aA cs aj hA).mono ?_;rintro e w' ⟨u,rfl,b9,eu⟩;obtain⟨da,db,qL,hcm',hmx,_⟩:=NV b9;obtain⟨eR,c2,hform,bt,_⟩:=kJ b9;rw[qL]at hform;injection hform with aG e2 e3
 subst aG e3;exact⟨da,db,by rw[qL],hcm',hmx,bt,eu⟩
theorem aqZ(l:ae)(n:Nat)(w:ah)(aE:∀W,Calls prog 79 #[.string (strOf l)] W λe w'=>Fh e none/\av W w') :
  Calls prog 120 #[.string (strOf l),.int .i64 n] w λe w'=>nT w' e none/\av w w':=by
 have fK:=I aE;clear aE;generalize strOf l=vx at *;go_enter func120,ntmps120
 go_wp2_with fail
 refine(fK.out _).mono ?_;rintro e aw ⟨rfl,aH⟩;have aN:=I aH;clear aH;go_wp2;go_ret2;exact⟨rfl,aN⟩
theorem aq0(s s1 st:ByteArray)(k:Nat)(n:Nat)(w:ah)(ao:0<k)(hk:k<=100000)
  (aE:∀W,Calls prog 79 #[.string s] W λe w'=>e=.returned (.tuple #[.string st,.int .i64 k])/\av W w')
  (fG:∀W:ah,(Instr.slice 9 (.string s) (some (.int .i64 k)) none none).run prog W=.ok (.string s1) W)
  (iM:∀W,Calls prog 79 #[.string s1] W λe w'=>Fh e none/\av W w') :
  Calls prog 120 #[.string s,.int .i64 n] w λe w'=>nT w' e none/\av w w':=by
 have fK:=I aE;have gQ:=I iM;have d0:((k:Int)==0)=false:=cz
 clear aE iM ao;go_enter func120,ntmps120
 go_wp2_with fail
 refine(fK.out _).mono ?_;rintro e aw ⟨rfl,aH⟩;have aN:=I aH;clear aH;go_wp2_with fail
 refine(gQ.out _).mono ?_;rintro e aC ⟨rfl,aJ⟩;have bm:=b3 aN aJ;clear aJ;go_wp2;go_ret2;exact⟨rfl,bm⟩
theorem aqY(s s1:ByteArray)(aI bQ:ae)(k bN:Nat)(n:Nat)(w:ah)(ao:0<k)(hk:k<=100000)(ain:0<bN)(ft:bN<=100000)(aA:n<=100000)(wE:aI.length<=4096)(eu:bQ.length<=4096)
  (yg:∀x∈aI,x<256)(hblt:∀x∈bQ,x<256)
  (aE:∀W,Calls prog 79 #[.string s] W λe w'=>e=.returned (.tuple #[.string (strOf aI),.int .i64 k])/\av W w')
  (fG:∀W:ah,(Instr.slice 9 (.string s) (some (.int .i64 k)) none none).run prog W=.ok (.string s1) W)
  (iM:∀W,Calls prog 79 #[.string s1] W λe w'=>e=.returned (.tuple #[.string (strOf bQ),.int .i64 bN])/\av W w') :
  Calls prog 120 #[.string s,.int .i64 n] w λe w'=>nT w' e (match am.headD aI with|none=>none|some h=>(iI h.1 h.2 bQ (n:Int)).map λc=>(c,k+bN))/\av w w':=by
 have fK:=I aE;have gQ:=I iM;have d0:((k:Int)==0)=false:=cz
 have d2:((bN:Int)==0)=false:=cz
 have qS:(k:Int)+bN=((k+bN:Nat):Int):=by omega
 have aui:k+bN<=200000:=by omega
 generalize k+bN=dD at *;have kQ:=I (λW=>FC W aI yg);have ig:=I (λW=>FC W bQ hblt);have l7:=I (λW A c (h:Reads W A (aO aI)) (hA:∀a,A=some a->0<aI.length->a.block<W.heap.size)=>ape A c aI W (by omega) yg h hA);have bW:=o4 aI yg;rw[h0]at bW;obtain⟨len,hlen⟩:∃len,len=8*aI.length:=⟨_,rfl⟩;have hres:am.headD aI=(match am.takeA (bd aI) (8*aI.length)with|none=>none|some t=>if qq (bd aI) (8*aI.length) t.2.2=true then some (t.1,t.2.1)else none):=rfl;have awg:len<=40000:=by omega
 rw[hres];rw[<-hlen]at bW l7 ⊢;obtain⟨res,aj⟩:∃res,res=(match (match am.takeA (bd aI) len with|none=>none|some t=>if qq (bd aI) len t.2.2=true then some (t.1,t.2.1)else none)with|none=>none|some h=>(iI h.1 h.2 bQ (n:Int)).map λc=>(c,dD)):=⟨_,rfl⟩;rw[<-aj];have jr:Hid (am.takeA (bd aI) len=none->res=none):=I (λh=>by rw[aj,h]);have lF:Hid (∀U bT left,am.takeA (bd aI) len=some (U,bT,left)->qq (bd aI) len left=false->res=none):=I (λU bT left h h1=>by rw[aj,h];simp only[h1];simp);have xj:Hid (∀U bT left,am.takeA (bd aI) len=some (U,bT,left)->qq (bd aI) len left=true->res=(iI U bT bQ (n:Int)).map λc=>(c,dD)):=I (λU bT left h h1=>by rw[aj,h];simp only[h1];simp);clear aj;have hE:=I (λW A c (hc:len<=c) (gX:c<=maxLen) (h:Reads W A (aM (am.bitsOf (bd aI) len)))=>aim A c (bd aI) len W (by omega) hc gX h);have hfair:=λl bT e' (h:am.takeA (bd aI) len=some (l,bT,e'))=>HO _ _ l bT e' h
 have vK:=I (λ(A B:a7) (c d:Nat) (U:ae) (bT:Nat) (W:ah) (aL:dW U bT) (h1:Reads W A (c3 (nj U bT))) (af:Reads W B (aO bQ))=>aid A B c d U bT bQ (n:Int) W aL (by omega) ⟨by omega,by omega⟩ hblt h1 af);clear yg hblt hlen ao ain aE iM hres;generalize bd aI=V at *;have sR:=I eu;have aub:=I wE;clear eu wE;generalize aI.length=axg at *;generalize bQ.length=tF at *;generalize strOf aI=axA at *;generalize strOf bQ=w2 at *;go_enter func120,ntmps120
 go_wp2_with fail
 refine(fK.out _).mono ?_;rintro e aw ⟨rfl,aH⟩;have aN:=I aH;clear aH;go_wp2_with fail
 refine(gQ.out _).mono ?_;rintro e aC ⟨rfl,aJ⟩;have bm:=b3 aN aJ;clear aJ;obtain⟨a6,g3,en,dS,va,wv,bA⟩:=kQ.out aC;have b6:=b3 bm bA;have sZ:=I va;have aaz:=I wv;clear va wv bA;go_wp2_with fail
 refine(l7.out a6 _ _ sZ.out aaz).mono ?_;rintro e bH ⟨pO,c4,rfl,L2,ajd,jS,bc⟩;have dt:=b3 b6 bc;have vS:=I jS;clear jS bc dS;go_wp2_with fail
 refine(hE.out bH pO c4 L2 ajd vS).mono ?_;rintro e dp ⟨wP,cL⟩;have dX:=b3 dt cL;have qB:=I (c7 vS.out cL);clear cL;cases iw:am.takeA V len with
|none=>
  rw[iw]at wP;unfold Ig at wP;dsimp only at wP;subst wP;have b4:=I (jr.out iw);clear hfair iw;go_wp2;go_ret2;exact⟨by rw[b4.out];rfl,dX⟩
|some t=>
  obtain⟨U,bT,left⟩:=t;rw[iw]at wP;unfold Ig at wP;dsimp only at wP ⊢;obtain⟨rj,uv,rfl,n4⟩:=wP;obtain⟨kp,hle⟩:=hfair U bT left iw;obtain⟨q,hq⟩:∃q:Nat,q=len-left:=⟨_,rfl⟩;have yC:(len:Int)-left=q:=by omega
  have Mq:((q:Int)==0)=false:=cz
  have hrest:=apP V len left bW (by omega);rw[<-hq]at hrest;have ko:((am.bitsOf V len).drop q).length=len-q:=by rw[cB,gV]
  have eU:=λW (h:Reads W pO (aM (am.bitsOf V len)))=>Yi (mN pO c4 q) (c4-q) ((am.bitsOf V len).drop q) W (by omega) (Ol h (by rw[gV];exact L2))
  rw[hrest,ko]at eU;have ff:=I eU;have hcut:=λW=>Cw pO len c4 q W (by omega) L2
  have LM:p9 (U.map (λn:Nat=>(n:Int))) (bT:Int)=true:=by unfold p9;exact bE (Sp U bT kp)
  have LN:=λW (h:Reads W rj (aM U))=>ajG rj uv (U.map (λn:Nat=>(n:Int))) (bT:Int) W (by rw[cQ];have:=kp.len;omega) (by rw[jF];exact h)
  rw[LM,cQ]at LN;have ack:=I LN;have abF:=I (λW (h:Reads W rj (aM U))=>alo rj uv U bT W kp h);have uf:=I n4;have u9:=kp.high;have awi:=kp.len;have PZ:=I (λA B c d W (h1:Reads W A (c3 (nj U bT))) (af:Reads W B (aO bQ))=>vK.out A B c d U bT W kp h1 af);rw[yC];have aaI:=I (lF.out U bT left iw);have aaF:=I (xj.out U bT left iw);clear hfair hle hq hrest ko eU LM LN n4 iw bW;generalize mN pO c4 q=at3 at *;generalize c4-q=aum at *;generalize len-q=len' at *;cases cO:qq V len left with
 |false=>
   rw[cO]at ff;have b4:=I (aaI.out cO);clear cO;go_wp2_with fail
   refine(ff.out _ qB).mono ?_;rintro e dB ⟨rfl,rfl⟩;go_wp2;go_ret2;exact⟨by rw[b4.out];rfl,dX⟩
 |true=>
   rw[cO]at ff;have b4:=I (aaF.out cO);clear cO;go_wp2_with fail
   refine(ff.out _ qB).mono ?_;rintro e dB ⟨rfl,rfl⟩;go_wp2_with fail
   refine(ack.out _ uf).mono ?_;rintro e dB ⟨rfl,rfl⟩;go_wp2_with fail
   refine(abF.out _ uf).mono ?_;rintro e dk ⟨g7,rfl,yf,Vq,fW⟩;have ic:=b3 dX fW;have Js:=I (og Vq);clear fW Vq yf;obtain⟨oo,g8,agm,dS,vb,aix,k3⟩:=ig.out dk;have zh:=b3 ic k3;have adw:=I vb;have adK:=I (c7 Js.out k3);clear vb aix k3;obtain⟨S,cD⟩:∃S,S=2^bT:=⟨_,rfl⟩;rw[<-cD]at PZ ⊢;clear cD;rcases PZ.out (some ⟨g7,0,none⟩) (some ⟨g8,0,none⟩) S agm oo adK.out adw.out with⟨jP,hcall⟩|⟨ag,jP,hcall⟩
   .rw[jP,map_none]at b4;have cY:=I hcall;clear hcall jP;go_wp2_with fail
    refine cY.out.mono ?_;rintro e xa ⟨rfl,Ai⟩;have Iy:=b3 zh Ai;clear Ai;go_wp2;go_ret2;exact⟨by rw[b4.out];rfl,Iy⟩
   .rw[jP,map_some]at b4;have cY:=I hcall;clear hcall jP;go_wp2_with fail
    refine cY.out.mono ?_;rintro e xa ⟨Bm,Ct,rfl,Vh,Ai⟩;have Iy:=b3 zh Ai;have adx:=I Vh;clear Ai Vh;go_wp2;go_ret2;exact⟨by rw[b4.out];exact⟨Bm,Ct,rfl,adx⟩,Iy⟩
theorem aoX(l:ae)(n:Nat)(w:ah)(hl:l.length<=100000)(au:∀x∈l,x<256)(aA:n<=100000) :
  Calls prog 120 #[.string (strOf l),.int .i64 n] w λe w'=>nT w' e (lh l n)/\av w w':=by
 unfold lh;cases ax:ht l with
|none=>exact aqZ l n w (λW=>ax▸Hs l W hl au)
|some p=>
  obtain⟨lz,cl,cp,nF⟩:=y9 l p ax;have aE:=λW=>Hs l W hl au
  have fG:=λW=>o2 l p.2 (by omega) W
  have TY:∀x∈l.drop p.2,x<256:=λx ai=>au x (mem_of_mem_drop ai)
  have iM:=λW=>Hs (l.drop p.2) W (by rw[cB];omega) TY
  rw[ax]at aE;dsimp only;cases hq:ht (l.drop p.2)with
 |none=>
   rw[hq]at iM;exact aq0 _ _ _ p.2 n w lz (by omega) aE fG iM
 |some q=>
   obtain⟨tJ,gp,fl,lB⟩:=y9 _ q hq;rw[cB]at gp;rw[hq]at iM;exact aqY _ _ p.1 q.1 p.2 q.2 n w lz (by omega) tJ (by omega) aA cp fl (λx ai=>au x (nF x ai)) (λx ai=>TY x (lB x ai)) aE fG iM
set_option linter.unusedVariables false
namespace am
theorem YX(t:ae)(n:Nat)(r:ae×Nat)(h:lh t n=some r):0<r.2/\r.2<=t.length:=by
 unfold lh at h;split at h
 .cases h
 .next p ax=>
  obtain⟨lz,cl,_⟩:=y9 t p ax;split at h
  .cases h
  .next q hq=>
   obtain⟨tJ,gp,_⟩:=y9 _ q hq;rw[cB]at gp;split at h
   .cases h
   .next u hu=>
    cases aI:iI u.1 u.2 q.1 (n:Int)with
   |none=>rw[aI]at h;cases h
   |some c=>
     rw[aI,map_some]at h;injection h with h
     subst h;exact⟨by dsimp only;omega,by dsimp only;omega⟩
theorem Zt(bs:ae)(n:Nat):lC bs n=(match nG bs n with|none=>none|some r=>if ∀x∈r.1,x<28 then some r else none):=rfl
end am
theorem asW(n:Nat)(w:ah) :
  Calls prog 78 #[.string (strOf []),.int .i64 n] w λe w'=>nT w' e none/\av w w':=by
 have eY:=uE [];rw[bE rfl]at eY;generalize strOf []=s at eY;go_enter func78,ntmps78
 go_wp2;go_ret2;exact⟨rfl,Below.refl _ _⟩
theorem asP(s:ByteArray)(L n:Nat)(w:ah)(eY:s.toList.isEmpty=false)(bB:s.size=L)(bR:L<=100000)(g6:1<=n)(aA:n<=4096)(hidx:∀W:ah,(Instr.index 9 (.string s) (.int .i64 0)).run prog W=.ok (.int .u8 0) W)(h:L<n+1) :
  Calls prog 78 #[.string s,.int .i64 n] w λe w'=>nT w' e none/\av w w':=by
 have hp:decide ((n:Int)<0)=false:=aU;have b2:decide ((4096:Int)<n)=false:=aU;have bU:decide (4096<n)=false:=aU;have d3:decide ((L:Int)-1<n)=true:=cf;clear h;go_enter func78,ntmps78
 go_wp2;go_ret2;exact⟨rfl,Below.refl _ _⟩
theorem asQ(s:ByteArray)(L n:Nat)(w:ah)(eY:s.toList.isEmpty=false)(bB:s.size=L)(bR:L<=100000)(g6:1<=n)(aA:n<=4096)(hidx:∀W:ah,(Instr.index 9 (.string s) (.int .i64 0)).run prog W=.ok (.int .u8 0) W)(cl:Nat)(ax:cl=n+1)(h:cl<=L)(out:ae)(Mc:out.length=n)(Md:∀x∈out,x<256)
  (hmid:∀W:ah,(Instr.slice 9 (.string s) (some (.int .i64 1)) (some (.int .i64 cl)) none).run prog W=.ok (.string (strOf out)) W) :
  Calls prog 78 #[.string s,.int .i64 n] w λe w'=>nT w' e (if ∀x∈out,x<28 then some (out,cl)else none)/\av w w':=by
 have hp:decide ((n:Int)<0)=false:=aU;have b2:decide ((4096:Int)<n)=false:=aU;have bU:decide (4096<n)=false:=aU;have d3:decide ((L:Int)-1<n)=false:=aU;have iL:(1:Int)+n=cl:=by omega
 have bP:cl<=5000:=by omega
 obtain⟨dD,qS⟩:∃dD,dD=cl:=⟨_,rfl⟩;rw[<-qS];obtain⟨res,hres⟩:∃res,res=if ∀x∈out,x<28 then some (out,dD)else none:=⟨_,rfl⟩
 rw[<-hres];have b4:=I hres;have ce:=I Md;have cj:Hid (n=out.length):=I Mc.symm;obtain⟨aw,g1,bh,dS,cg,uH,aH⟩:=FC w out Md;clear uH;generalize (some (⟨g1,0,none⟩:Addr))=eA at dS cg;have fc:=I cg;have eb:=I aH;rw[Mc]at dS;subst qS;clear ax h Md Mc hres cg aH;generalize strOf out=so at *;go_enter func78,ntmps78
 go_wp2;obtain⟨m,hm⟩:∃m,m=n:=⟨_,rfl⟩;rw[<-hm]at cj ⊢;have gZ:m<=5000:=by omega
 clear hm dS;go_loopw [11] (λi wt=>wt=aw/\∃j:Nat,i=.int .i64 j/\j<=m/\Hid (∀x∈out.take j,x<28)) (λi _=>m-(intOf i).toNat)
 case atStart=>exact⟨rfl,0,rfl,zero_le _,I (by simp)⟩
 case round=>
  obtain⟨rfl,j,rfl,ar,hall⟩:=hrel;by_cases uZ:j<m
  .have fk:j<out.length:=by rw[<-cj.out];exact uZ
   obtain⟨g,off,rfl,hc⟩:=m9 fc.out (by intro e;rw[e]at fk;simp at fk);have gp:=hc j fk;have ai:=ce.out out[j] (b8 fk);have j2:=I (b8 fk);have hE:Hid (out.take (j+1)=out.take j++[out[j]]):=I (by rw[take_add_one,bI fk];rfl);have oM:decide ((j:Int)<m)=true:=cf;clear hc;generalize out[j]=x at *;by_cases ej:28<=x
   .have aG:decide (28<=x)=true:=bE ej;have e2:decide ((28:Int)<=x)=true:=cf;have b0:Hid (res=none):=I (by rw[b4.out,az (λh=>by have:=h x j2.out;omega)]);clear hall ej;go_wp2;go_ret2;exact⟨by rw[b0.out];rfl,eb⟩
   .have aG:decide (28<=x)=false:=bG ej;have e2:decide ((28:Int)<=x)=false:=aU;have rq:Hid (∀y∈out.take (j+1),y<28):=I (λy hy=>by
     rw[hE.out]at hy;rcases List.mem_append.1 hy with hy|hy
     .exact hall.out y hy
     .rw[List.mem_singleton.1 hy];omega)
    clear hall ej;go_wp2;go_roundw
    case rel=>exact⟨trivial,j+1,by go_num,by omega,rq⟩
    case measure=>simp[intOf];omega
  .obtain rfl:j=m:=by omega
   have b0:Hid (res=some (out,dD)):=I (by
    have h:=hall.out;rw[cj.out,take_length]at h;rw[b4.out,aB h])
   have oM:decide ((j:Int)<j)=false:=aU;clear hall;go_wp2;go_ret2;exact⟨by rw[b0.out];unfold nT;dsimp only;rw[<-cj.out];exact⟨_,_,rfl,fc⟩,eb⟩
theorem asS(s:ByteArray)(L n:Nat)(w:ah)(eY:s.toList.isEmpty=false)(bB:s.size=L)(bR:L<=100000)(g6:1<=n)(aA:n<=4096)(hidx:∀W:ah,(Instr.index 9 (.string s) (.int .i64 0)).run prog W=.ok (.int .u8 1) W)(h:L=1) :
  Calls prog 78 #[.string s,.int .i64 n] w λe w'=>nT w' e none/\av w w':=by
 have hp:decide ((n:Int)<0)=false:=aU;have b2:decide ((4096:Int)<n)=false:=aU;have bU:decide (4096<n)=false:=aU;subst h;go_enter func78,ntmps78
 go_wp2;go_ret2;exact⟨rfl,Below.refl _ _⟩
theorem asR(s:ByteArray)(L n:Nat)(w:ah)(eY:s.toList.isEmpty=false)(bB:s.size=L)(bR:L<=100000)(g6:1<=n)(aA:n<=4096)(b:Nat)(ak:28<=b)(aJ:b<256)(hidx:∀W:ah,(Instr.index 9 (.string s) (.int .i64 0)).run prog W=.ok (.int .u8 1) W)
  (hidx1:∀W:ah,(Instr.index 9 (.string s) (.int .i64 1)).run prog W=.ok (.int .u8 b) W)(h:2<=L) :
  Calls prog 78 #[.string s,.int .i64 n] w λe w'=>nT w' e none/\av w w':=by
 have hp:decide ((n:Int)<0)=false:=aU;have b2:decide ((4096:Int)<n)=false:=aU;have bU:decide (4096<n)=false:=aU;have d1:decide ((L:Int)<2)=false:=aU;have d2:decide ((28:Int)<=b)=true:=cf;have d3:decide (28<=b)=true:=cf;have d4:decide (L<2)=false:=aU;clear h;go_enter func78,ntmps78
 go_wp2;go_ret2;exact⟨rfl,Below.refl _ _⟩
theorem asT(s:ByteArray)(L n:Nat)(w:ah)(eY:s.toList.isEmpty=false)(bB:s.size=L)(bR:L<=100000)(g6:1<=n)(aA:n<=4096)(b:Nat)(ak:b<28)(hidx:∀W:ah,(Instr.index 9 (.string s) (.int .i64 0)).run prog W=.ok (.int .u8 1) W)
  (hidx1:∀W:ah,(Instr.index 9 (.string s) (.int .i64 1)).run prog W=.ok (.int .u8 b) W)(h:2<=L) :
  Calls prog 78 #[.string s,.int .i64 n] w λe w'=>nT w' e (if ∀x∈List.replicate n b,x<28 then some (List.replicate n b,2)else none)/\av w w':=by
 have hp:decide ((n:Int)<0)=false:=aU;have b2:decide ((4096:Int)<n)=false:=aU;have bU:decide (4096<n)=false:=aU;have d1:decide ((L:Int)<2)=false:=aU;have d2:decide ((28:Int)<=b)=false:=aU;have d3:decide (28<=b)=false:=aU;have d4:decide (L<2)=false:=aU;clear h;obtain⟨i0,ay,bC,bL,bz⟩:=info_parts ob;obtain⟨dD,qS⟩:∃dD,dD=2:=⟨_,rfl⟩;obtain⟨out,hout⟩:∃out,out=List.replicate n b:=⟨_,rfl⟩;rw[<-qS,<-hout];obtain⟨res,hres⟩:∃res,res=if ∀x∈out,x<28 then some (out,dD)else none:=⟨_,rfl⟩
 rw[<-hres];have b4:=I hres;have oy:=I hout;have Qb:=I qS;have ce:Hid (∀x∈out,x<256):=I (λx ai=>by rw[hout,mem_replicate]at ai;omega);have cj:Hid (n=out.length):=I (by rw[hout,iZ]);clear hres hout qS;go_enter func78,ntmps78
 go_wp2;go_loopw [6,8] (λu i wr=>∃k:Nat,i=.int .i64 k/\k<=n/\Hid (wr.ownsRow w.heap.size 5 1 u k (aO (List.replicate k b)))/\Hid (av w wr)) (λ_ i _=>n-(intOf i).toNat)
 case atStart=>exact⟨0,rfl,zero_le _,I (World.ownsRow_nil _ _ _ _),I dM⟩
 case round=>
  obtain⟨k,rfl,hk,hown,hbel⟩:=hrel;by_cases kG:k<n
  .have uC:decide ((k:Int)<n)=true:=cf;have wR:(b:Int)%256=(b:Int):=by omega
   go_wp2_with (at_builtin;refine wpList_append_own _ rfl _ _ 87 rfl w.heap.size 5 i0 (.int .u8 0) 1 1 underlying87 ay bC bL bz rfl (by decide) _ _ _ rfl (hown.out.alloc _) ⟨wr.heap.size,0,none⟩ 1 1 [.int .u8 b] rfl rfl ?d1 ?d2 ?d3 ?d4 ?d5 ?_)
   case d1=>
    intro j u ar;match j,ar with
   |0,ar=>simp at ar;subst ar;simp[Addr.add]
   case d2=>intro u hu;simp at hu;subst hu;rfl
   case d3=>unfold maxLen;omega
   case d4=>omega
   case d5=>have:=hbel.out.size;simp;omega
   intro gN dk de di _;have jz:av w dk:=(hbel.out.alloc hbel.out.size _).grown di (by have:=hbel.out.size;simp;omega) (λx e=>(hown.out.lt x e).1);have e:aO (List.replicate k b)++[Value.int .u8 b]=aO (List.replicate (k+1) b):=by rw[replicate_succ'];simp[aO]
   rw[e]at de;have js:=I de;have nb:=I jz;clear de di jz e hown hbel;go_wp2;go_roundw
   case rel=>exact⟨k+1,by go_num,by omega,js,nb⟩
   case measure=>simp[intOf];omega
  .obtain rfl:k=n:=by omega
   have uC:decide ((k:Int)<k)=false:=aU;obtain⟨A,c,hA,bt,_⟩:=kJ hown.out;rw[<-oy.out]at bt;have fc:=I bt;have eb:=hbel;rw[hA];clear hown bt hA hbel;go_wp2;rw[show(2:Int)=dD by rw[Qb.out];rfl];have av8:dD<=2:=by rw[Qb.out];omega
   obtain⟨m,hm⟩:∃m,m=k:=⟨_,rfl⟩;rw[<-hm]at cj ⊢;have gZ:m<=5000:=by omega
   clear hm;go_loopw [11] (λi wt=>wt=wr/\∃j:Nat,i=.int .i64 j/\j<=m/\Hid (∀x∈out.take j,x<28)) (λi _=>m-(intOf i).toNat)
   case atStart=>exact⟨rfl,0,rfl,zero_le _,I (by simp)⟩
   case round=>
    obtain⟨rfl,j,rfl,ar,hall⟩:=hrel;by_cases uZ:j<m
    .have fk:j<out.length:=by rw[<-cj.out];exact uZ
     obtain⟨g,off,rfl,hc⟩:=m9 fc.out (by intro e;rw[e]at fk;simp at fk);have gp:=hc j fk;have ai:=ce.out out[j] (b8 fk);have j2:=I (b8 fk);have hE:Hid (out.take (j+1)=out.take j++[out[j]]):=I (by rw[take_add_one,bI fk];rfl);have oM:decide ((j:Int)<m)=true:=cf;clear hc;generalize out[j]=x at *;by_cases ej:28<=x
     .have aG:decide (28<=x)=true:=bE ej;have e2:decide ((28:Int)<=x)=true:=cf;have b0:Hid (res=none):=I (by rw[b4.out,az (λh=>by have:=h x j2.out;omega)]);clear hall ej;go_wp2;go_ret2;exact⟨by rw[b0.out];rfl,eb⟩
     .have aG:decide (28<=x)=false:=bG ej;have e2:decide ((28:Int)<=x)=false:=aU;have rq:Hid (∀y∈out.take (j+1),y<28):=I (λy hy=>by
       rw[hE.out]at hy;rcases List.mem_append.1 hy with hy|hy
       .exact hall.out y hy
       .rw[List.mem_singleton.1 hy];omega)
      clear hall ej;go_wp2;go_roundw
      case rel=>exact⟨trivial,j+1,by go_num,by omega,rq⟩
      case measure=>simp[intOf];omega
    .obtain rfl:j=m:=by omega
     have b0:Hid (res=some (out,dD)):=I (by
      have h:=hall.out;rw[cj.out,take_length]at h;rw[b4.out,aB h])
     have oM:decide ((j:Int)<j)=false:=aU;clear hall;go_wp2;go_ret2;exact⟨by rw[b0.out];unfold nT;dsimp only;rw[<-cj.out];exact⟨_,_,rfl,fc⟩,eb⟩
theorem asU(s:ByteArray)(L n:Nat)(w:ah)(eY:s.toList.isEmpty=false)(bB:s.size=L)(bR:L<=100000)(g6:1<=n)(aA:n<=4096)(t:ae)(hidx:∀W:ah,(Instr.index 9 (.string s) (.int .i64 0)).run prog W=.ok (.int .u8 2) W)(e1:t.length<=100000)(htlt:∀x∈t,x<256)
  (fG:∀W:ah,(Instr.slice 9 (.string s) (some (.int .i64 1)) none none).run prog W=.ok (.string (strOf t)) W) :
  Calls prog 78 #[.string s,.int .i64 n] w λe w'=>nT w' e (match (lh t n).map λr=>(r.1,1+r.2)with|none=>none|some r=>if ∀x∈r.1,x<28 then some r else none)/\av w w':=by
 have hp:decide ((n:Int)<0)=false:=aU;have b2:decide ((4096:Int)<n)=false:=aU;have bU:decide (4096<n)=false:=aU;have mW:=λW=>aoX t n W e1 htlt (by omega)
 cases aI:lh t n with
|none=>
  rw[aI]at mW;have s3:=I mW;clear mW aI;rw[map_none];generalize strOf t=st at *;go_enter func78,ntmps78
  go_wp2_with fail
  refine(s3.out _).mono ?_;rintro e aw ⟨rfl,aH⟩;have aN:=I aH;clear aH;go_wp2;go_ret2;exact⟨rfl,aN⟩
|some r=>
  obtain⟨out,k⟩:=r;obtain⟨h1,af⟩:=YW t n out k htlt aI;obtain⟨aq,aK⟩:=YX t n _ aI;dsimp only at aq aK;rw[aI]at mW;have s3:=I mW;rw[map_some];dsimp only;obtain⟨dD,qS⟩:∃dD,dD=1+k:=⟨_,rfl⟩;rw[<-qS];have At:(1:Int)+k=dD:=by omega
  have bD:((k:Int)==0)=false:=cz
  have pu:dD<=200000:=by omega
  obtain⟨res,hres⟩:∃res,res=if ∀x∈out,x<28 then some (out,dD)else none:=⟨_,rfl⟩
  rw[<-hres];have b4:=I hres;have ce:=I af;have cj:Hid (n=out.length):=I h1.symm;clear mW aI qS hres af aq htlt e1;clear aK;generalize strOf t=st at *;go_enter func78,ntmps78
  go_wp2_with fail
  refine(s3.out _).mono ?_;rintro e aw ⟨⟨eA,c1,rfl,cg⟩,aH⟩;have eb:=I aH;have fc:=I cg;clear aH cg;dsimp only;rw[h1];clear h1;go_wp2;obtain⟨m,hm⟩:∃m,m=n:=⟨_,rfl⟩;rw[<-hm]at cj ⊢;have gZ:m<=5000:=by omega
  clear hm;go_loopw [11] (λi wt=>wt=aw/\∃j:Nat,i=.int .i64 j/\j<=m/\Hid (∀x∈out.take j,x<28)) (λi _=>m-(intOf i).toNat)
  case atStart=>exact⟨rfl,0,rfl,zero_le _,I (by simp)⟩
  case round=>
   obtain⟨rfl,j,rfl,ar,hall⟩:=hrel;by_cases uZ:j<m
   .have fk:j<out.length:=by rw[<-cj.out];exact uZ
    obtain⟨g,off,rfl,hc⟩:=m9 fc.out (by intro e;rw[e]at fk;simp at fk);have gp:=hc j fk;have ai:=ce.out out[j] (b8 fk);have j2:=I (b8 fk);have hE:Hid (out.take (j+1)=out.take j++[out[j]]):=I (by rw[take_add_one,bI fk];rfl);have oM:decide ((j:Int)<m)=true:=cf;clear hc;generalize out[j]=x at *;by_cases ej:28<=x
    .have aG:decide (28<=x)=true:=bE ej;have e2:decide ((28:Int)<=x)=true:=cf;have b0:Hid (res=none):=I (by rw[b4.out,az (λh=>by have:=h x j2.out;omega)]);clear hall ej;go_wp2;go_ret2;exact⟨by rw[b0.out];rfl,eb⟩
    .have aG:decide (28<=x)=false:=bG ej;have e2:decide ((28:Int)<=x)=false:=aU;have rq:Hid (∀y∈out.take (j+1),y<28):=I (λy hy=>by
      rw[hE.out]at hy;rcases List.mem_append.1 hy with hy|hy
      .exact hall.out y hy
      .rw[List.mem_singleton.1 hy];omega)
     clear hall ej;go_wp2;go_roundw
     case rel=>exact⟨trivial,j+1,by go_num,by omega,rq⟩
     case measure=>simp[intOf];omega
   .obtain rfl:j=m:=by omega
    have b0:Hid (res=some (out,dD)):=I (by
     have h:=hall.out;rw[cj.out,take_length]at h;rw[b4.out,aB h])
    have oM:decide ((j:Int)<j)=false:=aU;clear hall;go_wp2;go_ret2;exact⟨by rw[b0.out];unfold nT;dsimp only;rw[<-cj.out];exact⟨_,_,rfl,fc⟩,eb⟩
theorem asV(s:ByteArray)(L n:Nat)(w:ah)(eY:s.toList.isEmpty=false)(bB:s.size=L)(bR:L<=100000)(g6:1<=n)(aA:n<=4096)(k:Nat)(hk:2<k)(ft:k<256)(hidx:∀W:ah,(Instr.index 9 (.string s) (.int .i64 0)).run prog W=.ok (.int .u8 k) W) :
  Calls prog 78 #[.string s,.int .i64 n] w λe w'=>nT w' e none/\av w w':=by
 have hp:decide ((n:Int)<0)=false:=aU;have b2:decide ((4096:Int)<n)=false:=aU;have bU:decide (4096<n)=false:=aU;have bD:((k:Int)==0)=false:=cz
 have bh:((k:Int)==1)=false:=cz
 have bN:((k:Int)==2)=false:=cz
 clear hk;go_enter func78,ntmps78
 go_wp2;go_loopw [11] (λi wr=>wr=w/\i=.int .i64 0) (λ_ _=>0)
 case atStart=>exact⟨rfl,rfl⟩
 case round=>
  obtain⟨rfl,rfl⟩:=hrel;go_wp2;go_ret2;exact⟨rfl,Below.refl _ _⟩
theorem aoY(l:ae)(n:Nat)(w:ah)(hl:l.length<=100000)(au:∀x∈l,x<256)(g6:1<=n)(aA:n<=4096) :
  Calls prog 78 #[.string (strOf l),.int .i64 n] w λe w'=>nT w' e (lC l n)/\av w w':=by
 cases l with
|nil=>exact asW n w
|cons k t=>
  have eY:(strOf (k::t)).toList.isEmpty=false:=by rw[uE];simp
  have bB:=cy (k::t);rw[bY]at bB hl;have hk:k<256:=au k dU;have htlt:∀x∈t,x<256:=λx ai=>au x (eo _ ai)
  have hidx:∀W:ah,(Instr.index 9 (.string (strOf (k::t))) (.int .i64 0)).run prog W=.ok (.int .u8 k) W:=λW=>pE (k::t) 0 W (by simp) hk
  have fG:=λW=>o2 (k::t) 1 (by simp) W
  rw[Zt];by_cases ao:k=0
  .subst ao;rw[yX];by_cases h:n<=t.length
   .rw[aB h];have hmid:=λW=>Zp (0::t) 1 (n+1) (by omega) (by rw[bY];omega) W
    rw[take_succ_cons,drop_succ_cons,drop_zero]at hmid;have hu:=asQ (strOf (0::t)) (t.length+1) n w eY bB hl g6 aA hidx (n+1) rfl (by omega) (t.take n) (by rw[cr];omega) (λx ai=>htlt x (mem_of_mem_take ai)) hmid;rw[Nat.add_comm n 1]at hu;exact hu
   .rw[az h];exact asP (strOf (0::t)) (t.length+1) n w eY bB hl g6 aA hidx (by omega)
  .by_cases h1:k=1
   .subst h1;rw[yY];cases t with
   |nil=>
     rw[az (by simp)];exact asS _ 1 n w eY bB (by omega) g6 aA hidx rfl
   |cons b t=>
     rw[aB (by simp),dH,b7];have ak:=htlt b dU;have hidx1:∀W:ah,(Instr.index 9 (.string (strOf (1::b::t))) (.int .i64 1)).run prog W=.ok (.int .u8 b) W:=λW=>pE (1::b::t) 1 W (by simp) ak
     rw[bY]at bB hl;by_cases aF:28<=b
     .have eU:¬∀x∈(List.replicate n b,2).1,x<28:=λh=>by
       have:=h b (List.mem_replicate.2 ⟨by omega,rfl⟩);omega
      dsimp only;rw[az eU];exact asR _ _ n w eY bB hl g6 aA b aF ak hidx hidx1 (by omega)
     .exact asT _ _ n w eY bB hl g6 aA b (by omega) hidx hidx1 (by omega)
   .by_cases af:k=2
    .subst af;rw[yZ];exact asU _ _ n w eY bB hl g6 aA t hidx (by omega) htlt fG
    .rw[Bb k t n (by omega)];exact asV _ _ n w eY bB hl g6 aA k (by omega) hk hidx
namespace am
theorem arL(bs:ae)(n:Nat)(aA:1<=n)(r:ae×Nat)(h:lC bs n=some r):0<r.2/\r.2<=bs.length:=by
 rw[Zt]at h;cases bs with
|nil=>cases h
|cons k t=>
  split at h
  .cases h
  .next q hq=>
   split at h
   .injection h with h
    subst h;by_cases ao:k=0
    .subst ao;rw[yX]at hq;split at hq
     .injection hq with hq
      subst hq;exact⟨by dsimp only;omega,by rw[bY];dsimp only;omega⟩
     .cases hq
    .by_cases h1:k=1
     .subst h1;rw[yY]at hq;split at hq
      .injection hq with hq
       subst hq;exact⟨by dsimp only;omega,by rw[bY];dsimp only;omega⟩
      .cases hq
     .by_cases af:k=2
      .subst af;rw[yZ]at hq;cases aI:lh t n with
      |none=>rw[aI]at hq;cases hq
      |some x=>
        rw[aI,map_some]at hq;injection hq with hq
        subst hq;obtain⟨a,b⟩:=YX t n x aI;exact⟨by dsimp only;omega,by rw[bY];dsimp only;omega⟩
      .rw[Bb k t n (by omega)]at hq;cases hq
   .cases h
theorem ahQ(c:Nat)(h:c<28):hT c=(fV c:Int):=by
 unfold hT fV;by_cases h1:c<16
 .rw[aB h1,aB h1];rfl
 .rw[az h1,az (by omega),az h1]
end am
def Ck(w':ah)(e:Ending):Option (List am.dx×Nat)->Prop
|none=>e=.returned (.tuple #[.slice none 0 0,.int .i64 0])
|some t=>∃A c,e=.returned (.tuple #[.slice A t.1.length c,.int .i64 (t.2:Int)])/\lL w' A t.1
theorem apf(A:a7)(c:Nat)(bs:ae)(w:ah)(aA:bs.length<=100000)(cs:∀b∈bs,b<256)(aj:Reads w A (aO bs))(hA:∀a,A=some a->0<bs.length->a.block<w.heap.size) :
  Calls prog 80 #[.slice A bs.length c] w λe w'=>∃da db,e=.returned (.slice da (8*bs.length) db)/\8*bs.length<=db/\db<=maxLen/\Reads w' da (aM (am.bitsOf (bd bs) (8*bs.length)))/\(∀a,da=some a->a.block<w'.heap.size)/\av w w':=by
 refine(Hv A c bs w aA cs aj hA).mono ?_;rintro e w' ⟨u,rfl,b9,eu⟩;obtain⟨da,db,qL,hcm',hmx,_⟩:=NV b9;obtain⟨eR,c2,hform,bt,C4⟩:=kJ b9;rw[qL]at hform;injection hform with aG e2 e3
 subst aG e3;exact⟨da,db,by rw[qL],hcm',hmx,bt,λa e=>(C4 a e).2.1,eu⟩
theorem afl(A:a7)(c q n:Nat)(h:∀a,A=some a->a.block<n):∀a,mN A c q=some a->a.block<n:=by
 intro a aV;unfold mN at aV;split at aV
 .exact h a aV
 .obtain⟨x,ai,rfl⟩:=Option.map_eq_some_iff.1 aV;have:=h x ai;unfold Addr.add;split<;>simpa using this
structure p0(dK W:ah)(ch B:Nat)(r:Int×Int×Int)(u:Value)(D:List am.dx):Prop where
 dn:Below ch dK W
 lg:Row W ch 30 [.int .i64 r.1,.int .i64 r.2.1,.int .i64 r.2.2]
 own:W.ownsRow B 118 3 u D.length (gF D)
 low:ch<B/\B<=W.heap.size
section
variable {dK W bb:ah} {ch B:Nat} {r:Int×Int×Int} {u:Value} {D:List am.dx}
theorem p0.below(h:p0 dK W ch B r u D)(ak:av W bb):p0 dK bb ch B r u D:=by
 have ap:=ak.size;have hl:=h.low;refine⟨h.dn.trans (ak.mono (by omega)),h.lg.below ak,h.own.kept (row:=none) (dj ak none) (by cases u.ownBlock<;>simp),by omega⟩
theorem p0.cG(h:p0 dK W ch B r u D){p:Addr}(ax:B<=p.block)(aZ:∀x,u.ownBlock=some x->x≠p.block)(v:Value):p0 dK (W.setCell p v) ch B r u D:=by
 have hl:=h.low;refine⟨h.dn.setCell (by omega) v,h.lg.cG (by omega) v,?_,by simpa [World.setCell]using hl⟩;refine h.own.kept (oQ W p v) ?_;cases hu:u.ownBlock with
|none=>exact .inl rfl
|some x=>exact .inr (λe=>by injection e with e;exact aZ x hu e)
theorem p0.turn(h:p0 dK W ch B r u D)(a b c:Int):p0 dK (((W.setCell ⟨ch,0,none⟩ (.int .i64 a)).setCell ⟨ch,1,none⟩ (.int .i64 b)).setCell ⟨ch,2,none⟩ (.int .i64 c)) ch B (a,b,c) u D:=by
 have hl:=h.low;have ai:∀x,u.ownBlock=some x->x≠ch:=λx e=>by have:=(h.own.lt x e).1;omega
 have bh:∀(W:ah) (i:Nat) (v:Value),W.ownsRow B 118 3 u D.length (gF D)->(W.setCell ⟨ch,i,none⟩ v).ownsRow B 118 3 u D.length (gF D):=λW i v b9=>by
  refine b9.kept (oQ W ⟨ch,i,none⟩ v) ?_;cases hu:u.ownBlock with
 |none=>exact .inl rfl
 |some x=>exact .inr (λe=>by injection e with e;exact ai x hu e)
 have hr:=((h.lg.bq 0 (.int .i64 a)).bq 1 (.int .i64 b)).bq 2 (.int .i64 c);simp only[set_cons_zero,set_cons_succ]at hr;exact⟨((h.dn.setCell bl _).setCell bl _).setCell bl _,hr,bh _ _ _ (bh _ _ _ (bh _ _ _ h.own)),by simpa [World.setCell]using hl⟩
end
theorem aoQ(s:ByteArray)(v k:Nat)(most:Int)(w:ah)(aD:v<18446744073709551616)(hk:k<=100000)(hm:ec most)(h:¬(0<k/\(v:Int)<=most/\v<=1000))
  (aL:Calls prog 25 #[.string s] w λe w'=>e=.returned (.tuple #[.int .u64 v,.int .i64 k])/\av w w') :
  Calls prog 48 #[.string s,.int .i64 most] w λe w'=>Ck w' e none/\av w w':=by
 have br:=I aL;have key:k=0\/(((k:Int)==0)=false/\decide (most<0)=true)\/(((k:Int)==0)=false/\decide (most<0)=false/\IntKind.u64.wrap most=most/\decide (most<(v:Int))=true) \/
   (((k:Int)==0)=false/\decide (most<0)=false/\IntKind.u64.wrap most=most/\decide (most<(v:Int))=false/\decide ((1000:Int)<v)=true/\decide (1000<v)=true):=by
  unfold ec at hm;by_cases h1:k=0
  .exact .inl h1
  .have aG:((k:Int)==0)=false:=cz
   by_cases af:most<0
   .exact .inr (.inl ⟨aG,bE af⟩)
   .have e2:IntKind.u64.wrap most=most:=by rw[IntKind.wrap_u64];omega
    by_cases aq:most<(v:Int)
    .exact .inr (.inr (.inl ⟨aG,bG af,e2,bE aq⟩))
    .exact .inr (.inr (.inr ⟨aG,bG af,e2,bG aq,bE (by omega),bE (by omega)⟩))
 unfold ec at hm;clear aL h;rcases key with rfl|⟨aG,e2⟩|⟨aG,e2,e3,e4⟩|⟨aG,e2,e3,e4,e5,gG⟩
 all_goals
  go_enter func48,ntmps48
  go_wp2_with fail
  refine br.out.mono ?_;rintro e aw ⟨rfl,aH⟩;have aN:=I aH;clear aH;go_wp2;go_ret2;exact⟨rfl,aN⟩
theorem aoR(s:ByteArray)(k:Nat)(most:Int)(w:ah)(gl:0<k)(hk:k<=100000)(hm:0<=most/\most<=9223372036854775807)
  (aL:Calls prog 25 #[.string s] w λe w'=>e=.returned (.tuple #[.int .u64 0,.int .i64 k])/\av w w') :
  Calls prog 48 #[.string s,.int .i64 most] w λe w'=>Ck w' e (some ([],k))/\av w w':=by
 have br:=I aL;have aG:((k:Int)==0)=false:=cz
 have e2:decide (most<0)=false:=aU;have e3:IntKind.u64.wrap most=most:=by rw[IntKind.wrap_u64];omega
 clear aL gl;go_enter func48,ntmps48
 go_wp2_with fail
 refine br.out.mono ?_;rintro e aw ⟨rfl,aH⟩;have aN:=I aH;clear aH;go_wp2;go_ret2;exact⟨⟨none,0,rfl,lL.nil _ _⟩,aN⟩
theorem aoP(l:ae)(n k:Nat)(most:Int)(w:ah)(hl:l.length<=50000)(au:∀x∈l,x<256)(g6:1<=n)(aA:n<=1000)(hm:(n:Int)<=most)(gZ:most<=9223372036854775807)(gl:0<k)(a8:k<=l.length)
  (aL:Calls prog 25 #[.string (strOf l)] w λe w'=>e=.returned (.tuple #[.int .u64 n,.int .i64 k])/\av w w') :
  Calls prog 48 #[.string (strOf l),.int .i64 most] w λe w'=>Ck w' e (match hs 3 (l.drop k) n with
  |none=>none
  |some p=>match ht ((l.drop k).drop p.2)with
   |none=>none
   |some q=>(ol p.1 n q.1).map λm=>(m,k+p.2+q.2))/\av w w':=by
 obtain⟨res,hres⟩:∃res,res=(match hs 3 (l.drop k) n with
  |none=>none
  |some p=>match ht ((l.drop k).drop p.2)with
   |none=>none
   |some q=>(ol p.1 n q.1).map λm=>(m,k+p.2+q.2)):=⟨_,rfl⟩
 rw[<-hres];obtain⟨xN,rV⟩:∃xN,xN=hs 3 (l.drop k) n:=⟨_,rfl⟩;rw[<-rV]at hres;have Iu:=I rV;have b4:=I hres;have br:=I aL;have uh:=I (λm W=>aoY (l.drop m) n W (by rw[cB];omega) (jh au m) g6 (by omega));have lK:=I (λm W=>Hs (l.drop m) W (by rw[cB];omega) (jh au m));have pU:=I (λm (h:m<=l.length) W=>o2 l m h W);have ce:=I (λm=>jh au m);have auB:((k:Int)==0)=false:=cz
 have auF:decide (most<0)=false:=aU;have auK:IntKind.u64.wrap most=most:=by rw[IntKind.wrap_u64];omega
 have auG:decide (most<(n:Int))=false:=aU;have aur:decide ((1000:Int)<n)=false:=aU;have rM:decide (1000<n)=false:=aU;have FN:((n:Int)==0)=false:=cz
 obtain⟨N,cU⟩:∃N,N=l.length:=⟨_,rfl⟩;rw[<-cU]at hl a8 pU;have jr:=I cU;have BG:Hid (∀m x,x<=(l.drop m).length->m<=N->m+x<=N):=I (λm x h af=>by rw[cB]at h;omega);have zt:=I g6;clear au hres rV aL cU gl hm g6;generalize strOf l=vx at *;go_enter func48,ntmps48
 go_wp2_with fail
 refine br.out.mono ?_;rintro e aw ⟨rfl,aH⟩;obtain⟨ba,jj⟩:∃ba,aw.heap.size=ba:=⟨_,rfl⟩;have eN:=Row.new aw 108 (oj n [] 3);have hbel:=(Below.refl aw.heap.size aw).alloc bl (.cells #[.slice none 0 0,.slice none 0 0,.slice none 0 0] 108);have e3:aw.alloc (.cells (oj n [] 3).toArray 108)=aw.alloc (.cells #[.slice none 0 0,.slice none 0 0,.slice none 0 0] 108):=rfl;rw[e3,jj]at eN;have oC:=I eN;have zi:=I jj;have e6:=I (aH.trans (hbel.mono aH.size));have dT:w.heap.size<=ba:=by rw[<-jj];exact aH.size
 clear eN hbel e3 jj aH;go_wp2;rw[zi.out];generalize aw.alloc (.cells #[.slice none 0 0,.slice none 0 0,.slice none 0 0] 108)=dK at *;go_loopw [7,10,11,12] (λp i _ _ wr=>∃(j at_:Nat) (eM:List (a7×Nat×ae)),i=.int .i64 j/\p=.int .i64 ((k+at_:Nat):Int)/\j<=3/\k+at_<=N/\Hid (eM.length=j)/\Hid (Row wr ba 108 (oj n eM (3-j)))/\Hid (rK wr n eM)/\Hid (av w wr) /\
  Hid (xN=(hs (3-j) (l.drop (k+at_)) n).map λq=>(eM.map (λs=>s.2.2)++q.1,at_+q.2))) (λ_ i _ _ _=>3-(intOf i).toNat)
 case atStart=>
  refine⟨0,0,[],rfl,rfl,by omega,by omega,I rfl,oC,I (λs ap=>by cases ap),e6,I ?_⟩;rw[fX,Nat.sub_zero,Iu.out];cases hs 3 (l.drop k) n<;>simp
 case round=>
  obtain⟨j,at_,eM,rfl,rfl,ar,GD,k2,hrow,fQ,ak,hstr⟩:=hrel;obtain⟨p,ax⟩:∃p,p=k+at_:=⟨_,rfl⟩;rw[<-ax]at GD hstr ⊢;have jK:=I ax;clear ax;have hcut:=pU.out p GD;by_cases yl:j<3
  .have oM:(j:Int)<3:=by omega
   have cY:=I (uh.out p wr);have hj:=I hstr.out;obtain⟨d,aI⟩:∃d,3-j=d+1:=⟨3-j-1,by omega⟩;rw[aI,hs]at hj;have Ja:=I (λy dD h=>Zq (l.drop p) n (ce.out _) y dD h);have hrow':=hrow.out;rw[aI]at hrow';have dr:=I hrow';have fC:=I (show 3-(j+1)=d by omega);clear hstr hrow hrow' aI;cases ap:lC (l.drop p) n with
  |none=>
    rw[ap]at hj cY;dsimp only at hj;have dO:Hid (res=none):=I (by rw[b4.out,hj.out];rfl);clear ap fQ;go_wp2_with fail
    refine cY.out.mono ?_;rintro e bH ⟨rfl,bc⟩;have dt:=b3 ak bc;clear bc ak;go_wp2;go_ret2;rw[dO.out];exact⟨rfl,dt⟩
  |some t=>
    obtain⟨y,dD⟩:=t;rw[ap]at hj cY;dsimp only at hj;have cj:=I (Ja.out y dD ap);obtain⟨Ut,LZ⟩:=arL (l.drop p) n zt.out (y,dD) ap;dsimp only at Ut LZ;have Mj:=BG.out p dD LZ GD;have auC:((dD:Int)==0)=false:=cz
    rw[drop_drop]at hj;clear ap Ut LZ;go_wp2_with fail
    refine cY.out.mono ?_;rintro e bH ⟨⟨A,c,rfl,bt⟩,bc⟩;dsimp only at bt ⊢;have hrow4:=dr.out.below bc;have Dy:=fQ.out.below bc;have r9:Reads (bH.setCell ⟨ba,j,none⟩ (.slice A n c)) A (aO y):=Hw hrow4 (HD n (d+1) eM) bt (oQ bH ⟨ba,j,none⟩ (.slice A n c));have Dz:=Dy.Hb hrow4 (HD n (d+1) eM) (oQ bH ⟨ba,j,none⟩ (.slice A n c));have yI:=hrow4.bq j (.slice A n c);have hset:(oj n eM (d+1)).set j (.slice A n c)=oj n (eM++[(A,c,y)]) d:=by
     unfold oj;rw[set_append_right _ _ (by rw[cQ,k2.out];omega),cQ,k2.out,Nat.sub_self,replicate_succ,set_cons_zero,map_append,df];rfl
    rw[hset]at yI;have f0:=hrow4.free j;have hsome:∃u,bH.cell? ⟨ba,j,none⟩=some u:=by
     rw[hrow4.cell];unfold oj;rw[iY (by rw[cQ,k2.out];omega),cQ,k2.out,Nat.sub_self];exact⟨_,rfl⟩
    obtain⟨u0,MI⟩:=hsome;have cL:Below w.heap.size w (bH.setCell ⟨ba,j,none⟩ (.slice A n c)):=(ak.out.trans (bc.mono ak.out.size)).setCell dT _;have Cb:Hid (rK (bH.setCell ⟨ba,j,none⟩ (.slice A n c)) n (eM++[(A,c,y)])):=I (λs ap=>by
     rcases List.mem_append.1 ap with ap|ap
     .exact Dz s ap
     .rw[List.mem_singleton.1 ap];exact⟨cj,r9⟩)
    have B5:=I yI;have dX:=I cL;have kb:y.length=n:=cj.out.1;rw[kb];have U7:(p:Int)+dD=((p+dD:Nat):Int):=by omega
    have nf:Hid (p+dD=k+(at_+dD)):=I (by rw[jK.out,iO]);generalize p+dD=Yc at *;have awx:Yc<=50000:=by omega
    clear hrow4 Dy r9 Dz yI hset cL bt bc fQ ak kb;go_wp2;go_roundw
    case rel=>
     refine⟨j+1,at_+dD,eM++[(A,c,y)],by go_num,by rw[<-nf.out],by omega,by rw[<-nf.out];exact Mj,I (by rw[aY,k2.out];rfl),by rw[fC.out];exact B5,Cb,dX,I ?_⟩;rw[hj.out,fC.out,<-nf.out];cases hs d (l.drop Yc) n<;>simp[iO]
    case measure=>simp[intOf];omega
  .have uY:j=3:=by omega
   subst uY;obtain⟨s0,s1,s2,aiU⟩:∃s0 s1 s2,eM=[s0,s1,s2]:=by
    match eM,k2.out with
   |[x,y,z],_=>exact⟨x,y,z,rfl⟩
   subst aiU;have hj:=I hstr.out;rw[Nat.sub_self,hs,map_some,append_nil,fX]at hj;have hrow2:Row wr ba 108 [.slice s0.1 n s0.2.1,.slice s1.1 n s1.2.1,.slice s2.1 n s2.2.1]:=hrow.out;have cY:=I (lK.out p wr);have ii:=I b4.out;rw[hj.out]at ii;simp only[map_cons,map_nil]at ii;rw[drop_drop,<-jK.out]at ii;have dr:=I hrow2;clear hstr hrow hrow2 k2;cases qj:ht (l.drop p)with
  |none=>
    rw[qj]at cY ii;dsimp only at ii;clear fQ qj;go_wp2_with fail
    refine cY.out.mono ?_;rintro e bH ⟨rfl,bc⟩;have dt:=b3 ak bc;clear bc ak;go_wp2;go_ret2;rw[ii.out];exact⟨rfl,dt⟩
  |some t=>
    obtain⟨bQ,DP⟩:=t;rw[qj]at cY ii;unfold Fh at cY;dsimp only at ii cY;obtain⟨gl,yo,eu,x6⟩:=y9 _ _ qj;dsimp only at gl yo eu x6;have hblt:∀x∈bQ,x<256:=λx ai=>ce.out p x (x6 x ai)
    have Dp:=BG.out p DP yo GD;have auD:((DP:Int)==0)=false:=cz
    have nP:=I (λW=>FC W bQ hblt);have l7:=I (λW A c (h:Reads W A (aO bQ)) (hA:∀a,A=some a->0<bQ.length->a.block<W.heap.size)=>apf A c bQ W (by omega) hblt h hA);have hsteps:ol [s0.2.2,s1.2.2,s2.2.2] n bQ=rO (jZ (jo [s0.2.2,s1.2.2,s2.2.2] n) (bd bQ) (8*bQ.length) (1,2,4)):=rfl;rw[hsteps]at ii;obtain⟨L,bR⟩:∃L,L=8*bQ.length:=⟨_,rfl⟩;have bW:=o4 bQ hblt;rw[h0,<-bR]at bW;have ja:=I bW;clear bW;rw[<-bR]at ii l7;have Lc:L<=32768:=by omega
    have U7:(p:Int)+DP=((p+DP:Nat):Int):=by omega
    clear hsteps qj gl yo x6 hblt bR;clear eu;generalize p+DP=pt at *;generalize bd bQ=V at *;generalize bQ.length=tF at *;generalize strOf bQ=w2 at *;obtain⟨fZ,bD,c0⟩:=s0;obtain⟨eA,bh,c1⟩:=s1;obtain⟨eR,bN,c2⟩:=s2;dsimp only at dr ii;go_wp2_with fail
    refine cY.out.mono ?_;rintro e bH ⟨rfl,bc⟩;have dt:=b3 ak bc;have ug:=I (dr.out.below bc);have Jy:=I (fQ.out.below bc);clear bc ak fQ;obtain⟨dp,g5,c5,dS,Vg,SR,cL⟩:=nP.out bH;have dX:=b3 dt cL;have B5:=I (ug.out.below cL);have Cb:=I (Jy.out.below cL);have qB:=I Vg;have aaA:=I SR;clear Vg SR cL;go_wp2_with fail
    refine(l7.out dp _ _ qB.out aaA).mono ?_;rintro e dB ⟨rj,uv,rfl,UA,aje,n4,SS,gA⟩;have kf:=b3 dX gA;have adJ:=I (B5.out.below gA);have zB:=I (Cb.out.below gA);have uf:=I n4;have Py:=I SS;clear n4 SS gA dS;go_wp2;obtain⟨ch,ka⟩:∃ch,dB.heap.size=ch:=⟨_,rfl⟩;obtain⟨B,bx⟩:∃B,ch+1=B:=⟨_,rfl⟩;have aS:p0 dB (dB.alloc (.cells #[.int .i64 1,.int .i64 2,.int .i64 4] 30)) ch B (1,2,4) (.slice none 0 0) []:=by
     have aj:=Row.new dB 30 [.int .i64 1,.int .i64 2,.int .i64 4];rw[ka]at aj;exact⟨(Below.refl ch dB).alloc (by omega) _,aj,World.ownsRow_nil _ _ _ _,by rw[World.size_alloc];omega⟩
    have cN:=I aS;rw[ka];have xm:=I ka;have MO:w.heap.size<=ch:=by rw[<-ka];exact kf.out.size
    rw[ka]at Py;have s4:Hid (∀W,Below ch dB W->av dB W):=I (λW h=>by show Below (dB.heap.size) dB W;rw[ka];exact h);generalize dB.alloc (.cells #[.int .i64 1,.int .i64 2,.int .i64 4] 30)=vA at *;obtain⟨i0,ay,bC,bL,bz⟩:=info_parts M3;have aay:Hid (c0.length=n/\∀x∈c0,x<28):=I (zB.out (fZ,bD,c0) (by simp)).1;have Ih:Hid (c1.length=n/\∀x∈c1,x<28):=I (zB.out (eA,bh,c1) (by simp)).1;have Ii:Hid (c2.length=n/\∀x∈c2,x<28):=I (zB.out (eR,bN,c2) (by simp)).1;have aaT:Hid (Reads dB fZ (aO c0)/\Reads dB eA (aO c1)/\Reads dB eR (aO c2)):=I ⟨(zB.out (fZ,bD,c0) (by simp)).2,(zB.out (eA,bh,c1) (by simp)).2,(zB.out (eR,bN,c2) (by simp)).2⟩;clear aS ka hcut aje dT;have aa7:Hid (V<2^L/\L<=32768):=I ⟨ja,Lc⟩;go_loopw [15,17,18,19,20,21,22,23] (λbits u i _ _ _ _ _ wr=>∃(hY m X h5:Nat) (za:a7) (D:List am.dx) (r:Int×Int×Int),i=.int .i64 hY/\hY<=n/\m<=32768/\bits=.slice za m h5/\m<=h5/\Hid (D.length=hY)/\Hid (xM r)/\Hid (X<2^m) /\
     Hid (Reads dB za (aM (am.bitsOf X m)))/\Hid (∀a,za=some a->a.block<ch)/\Hid (p0 dB wr ch B r u D) /\
     Hid (res=(rO ((jZ ((jo [c0,c1,c2] n).drop hY) X m r).map λq=>(D++q.1,q.2))).map λm=>(m,pt))) (λ_ _ i _ _ _ _ _ _=>n-(intOf i).toNat)
    case atStart=>
     refine⟨0,L,V,uv,rj,[],(1,2,4),rfl,zero_le _,Lc,rfl,UA,I rfl,I ⟨by decide,by decide,by decide⟩,I aa7.out.1,uf,Py,cN,I ?_⟩;rw[ii.out,drop_zero];cases jZ (jo [c0,c1,c2] n) V L (1,2,4)<;>rfl
    case round=>
     obtain⟨hY,m,X,h5,za,D,r,rfl,Uv,hm,rfl,UB,cH,aj,ck,cW,K1,aS,hres⟩:=hrel;clear UA Lc;by_cases kG:hY<n
     .have uC:decide ((hY:Int)<n)=true:=cf;have B7:Hid ((jo [c0,c1,c2] n).drop hY=jx [c0,c1,c2] hY::(jo [c0,c1,c2] n).drop (hY+1)):=I (YC _ n hY kG);have sl:=aS.out.below ((Below.refl wr.heap.size wr).alloc bl (.cells #[.int .i64 0,.int .i64 0,.int .i64 0] 30));have eO:=Row.new wr 30 (sz []);have e3:wr.alloc (.cells (sz []).toArray 30)=wr.alloc (.cells #[.int .i64 0,.int .i64 0,.int .i64 0] 30):=rfl;rw[e3]at eO;obtain⟨lN,k4⟩:∃lN,wr.heap.size=lN:=⟨_,rfl⟩;rw[k4]at eO;have SX:B<=lN:=by rw[<-k4];exact aS.out.low.2
      have QK:Hid (∀x,u17.ownBlock=some x->x≠lN):=I (λx e=>by have:=(aS.out.own.lt x e).2;omega);have zC:=I sl;have oD:=I eO;have zk:=I k4;clear sl eO e3 k4 aS;go_wp2;rw[zk.out];generalize wr.alloc (.cells #[.int .i64 0,.int .i64 0,.int .i64 0] 30)=qw at *;rename ah=>sL
      go_loopw [15,20,21,22] (λbits i _ _ wr=>∃(j m2 mc oJ:Nat) (tT:a7) (xs:ae),i=.int .i64 j/\j<=3/\m2<=32768/\bits=.slice tT m2 oJ/\m2<=oJ/\Hid (xs.length=j)/\Hid (∀x∈xs,x<=65535)/\Hid (mc<2^m2) /\
       Hid (Reads dB tT (aM (am.bitsOf mc m2)))/\Hid (∀a,tT=some a->a.block<ch)/\Hid (p0 dB wr ch B r u17 D)/\Hid (Row wr lN 30 (sz xs)) /\
       Hid (la (jx [c0,c1,c2] hY) X m=(la ((jx [c0,c1,c2] hY).drop j) mc m2).map λt=>(xs++t.1,t.2))) (λ_ i _ _ _=>3-(intOf i).toNat)
      case atStart=>
       refine⟨0,m,X,h5,za,[],rfl,by omega,hm,rfl,UB,I rfl,I (by simp),ck,cW,K1,zC,oD,I ?_⟩;rw[drop_zero];cases la (jx [c0,c1,c2] hY) X m<;>rfl
      case round=>
       obtain⟨j,m2,mc,oJ,tT,xs,rfl,Ar,aka,rfl,De,n8,sq,x5,Dt,CN,aS,eO,jD⟩:=hrel;clear cW K1 ck UB;by_cases Un:j<3
       .have key:∃(g off c dD:Nat),wr.cell? ⟨ba,j,none⟩=some (.slice (some ⟨g,off,none⟩) n dD)/\wr.cell? ⟨g,off+hY,none⟩=some (.int .u8 c)/\c<28/\Hid ((jx [c0,c1,c2] hY).drop j=c::(jx [c0,c1,c2] hY).drop (j+1)):=by
         have mq:=s4.out wr aS.out.dn;obtain⟨kP,j0,ke⟩:=dz (adJ.out.below mq);obtain⟨gK,gE,c9⟩:=aaT.out;have one:∀(A:a7) (ag:ae),(ag.length=n/\∀x∈ag,x<28)->Reads dB A (aO ag)->∃g off,A=some ⟨g,off,none⟩/\∃c:Nat,wr.cell? ⟨g,off+hY,none⟩=some (.int .u8 c)/\c<28/\ag[hY]?.getD 0=c:=λA ag h aj=>by
          have a8:hY<ag.length:=by omega
          obtain⟨g,off,e,hc⟩:=m9 (c7 aj mq) (by intro e;rw[e]at a8;simp at a8);exact⟨g,off,e,ag[hY],hc hY a8,h.2 _ (b8 a8),by rw[bI a8];rfl⟩
         rcases(by omega:j=0\/j=1\/j=2)with rfl|rfl|rfl
         .obtain⟨g,off,e,c,h1,af,aq⟩:=one fZ c0 aay.out gK;exact⟨g,off,c,bD,by rw[kP,e],h1,af,I (by simp only[jx,map_cons,map_nil,drop_succ_cons,drop_zero,aq])⟩
         .obtain⟨g,off,e,c,h1,af,aq⟩:=one eA c1 Ih.out gE;exact⟨g,off,c,bh,by rw[j0,e],h1,af,I (by simp only[jx,map_cons,map_nil,drop_succ_cons,drop_zero,aq])⟩
         .obtain⟨g,off,e,c,h1,af,aq⟩:=one eR c2 Ii.out c9;exact⟨g,off,c,bN,by rw[ke,e],h1,af,I (by simp only[jx,map_cons,map_nil,drop_succ_cons,drop_zero,aq])⟩
        obtain⟨g,off,c,dD,hall,hcell,hc28,hdrop⟩:=key;have oM:(j:Int)<3:=by omega
        have fv:=I jD.out;rw[hdrop.out,la]at fv;have hex:=ahP c hc28;have rx:=I (λW=>alY c W (by omega));rw[ahQ c hc28]at rx;obtain⟨ex,LJ⟩:∃ex,ex=fV c:=⟨_,rfl⟩;have gR:=I (⟨LJ,rfl⟩:ex=fV c/\nE c mc=nE c mc);rw[<-LJ]at rx fv hex;have f0:=eO.out.free j;have hsome:∃u,wr.cell? ⟨lN,j,none⟩=some u:=by
         rw[eO.out.cell];rcases(by omega:j=0\/j=1\/j=2)with rfl|rfl|rfl<;>exact⟨_,rfl⟩
        obtain⟨u0,MI⟩:=hsome;clear LJ jD hdrop;by_cases hfit:ex<=m2
        .rw[aB hfit]at fv;have ahl:decide ((m2:Int)<ex)=false:=aU;have ahm:decide (m2<ex)=false:=aU;have hcut:=λW=>Cw tT m2 oJ ex W hfit De
         have Mt:Reads dB (mN tT oJ ex) (aM (am.bitsOf (mc/2^ex) (m2-ex))):=by
          have h:=Ol (q:=ex) Dt.out (by rw[gV];exact De);rw[Rf]at h;exact h
         have Qz:=I Mt;have Pz:=I (afl tT oJ ex ch CN);have PN:Hid (mc/2^ex<2^(m2-ex)):=I (by
          rw[div_lt_iff_lt_mul (eK _),<-dI,show m2-ex+ex=m2 by omega];exact x5)
         have vf:=XG c mc hc28;have hrow2:=eO.out.bq j (.int .i64 c);have jE:=aS.out.cG (p:=⟨lN,j,none⟩) SX (by simpa using QK.out) (.int .i64 c);have hbw2:Below ch dB (wr.setCell ⟨lN,j,none⟩ (.int .i64 c)):=jE.dn;have f2:=hrow2.free j;have p3:(wr.setCell ⟨lN,j,none⟩ (.int .i64 c)).cell? ⟨lN,j,none⟩=some (.int .i64 c):=by
          rw[hrow2.cell];rcases(by omega:j=0\/j=1\/j=2)with rfl|rfl|rfl<;>rfl
         have hi:=I hrow2;have gP:=I jE;have hmx:m2-ex<=oJ-ex:=by omega
         have US:m2-ex<=32768:=by omega
         generalize yx:m2-ex=m3 at *;generalize k5:oJ-ex=Rw at *;generalize mN tT oJ ex=Pt at *;obtain⟨v,aD⟩:∃v,v=nE c mc:=⟨_,rfl⟩;rw[<-aD]at fv vf;have h4:Hid (((sz xs).set j (.int .i64 c)).set j (.int .i64 v)=sz (xs++[v])):=I (by
          rw[set_set,<-n8.out,XH xs v (by rw[n8.out];exact Un)])
         by_cases eI:c<16
         .have d16:decide (16<=c)=false:=aU;have ag8:decide ((16:Int)<=c)=false:=aU;have MN:v=c:=by rw[aD];unfold nE;rw[aB eI]
          have kU:Hid (Row (wr.setCell ⟨lN,j,none⟩ (.int .i64 c)) lN 30 (sz (xs++[v]))):=I (by
           rw[<-h4.out,set_set,MN];exact hi)
          clear hrow2 jE hbw2 f2 p3 Mt aS eO aD yx k5 hfit De Dt CN x5;go_wp2_with fail
          refine(rx.out _).mono ?_;rintro e dk ⟨rfl,rfl⟩;go_wp2;go_roundw
          case rel=>
           refine⟨j+1,m3,mc/2^ex,Rw,Pt,xs++[v],by go_num,by omega,US,rfl,hmx,I (by rw[aY,n8.out];rfl),I (λx ai=>?_),PN,Qz,Pz,gP,kU,I ?_⟩
           .rcases List.mem_append.1 ai with ai|ai
            .exact sq.out x ai
            .rw[List.mem_singleton.1 ai];exact vf
           .rw[fv.out];cases la ((jx [c0,c1,c2] hY).drop (j+1)) (mc/2^ex) m3<;>simp
          case measure=>simp[intOf];omega
         .have d16:decide (16<=c)=true:=cf;have ag8:decide ((16:Int)<=c)=true:=cf;have T5:ex=c-12:=by
           rw[gR.out.1];unfold fV;rw[az eI]
          obtain⟨P,cJ⟩:∃P,P=2^ex:=⟨_,rfl⟩;obtain⟨R,cK⟩:∃R,R=mc%2^ex:=⟨_,rfl⟩;have MN:v=P+R:=by rw[aD,cJ,cK,T5];unfold nE;rw[az eI]
          have V8:(P:Int)+R=v:=by omega
          have bB:=λW=>ve (ex:Int) W (by omega)
          rw[cX,<-cJ]at bB;have fS:=I bB;obtain⟨hU,He,SU,fh⟩:=Dt.out (by intro e;have:=congrArg List.length e;rw[gm,gV,length_nil]at this;omega);have ls:=CN.out _ SU;dsimp only at ls;have C9:hU<dB.heap.size:=by rw[xm.out];exact ls
          have GA:=λW (h:Below ch dB W)=>Yz hU He ex oJ mc W (by omega) (by omega) (λt aE=>by
           have h1:=fh t (by rw[gm,gV];omega);rw[iN _ t (by rw[gV];omega),lM]at h1;exact(h.cell (p:=⟨hU,He+t,none⟩) ls).trans h1)
          rw[<-cK]at GA;have ac5:=I GA;subst SU;have qi:=λW=>FI (some ⟨hU,He,none⟩) m2 oJ ex W hfit De
          have Li:R<=65535:=by omega
          have Af:P<=65535:=by omega
          have avo:IntKind.i64.wrap (R:Int)=R:=IntWalk.i64_in _ (by omega);clear hrow2 jE Mt aS eO aD yx k5 hfit Dt CN x5 MN cJ cK bB GA fh T5 ls C9;clear hbw2 f2;go_upto_region 35 with(go_at_call 81;refine(rx.out _).mono ?_;rintro e dk ⟨rfl,rfl⟩)
          generalize wr.setCell ⟨lN,j,none⟩ (.int .i64 c)=aC at *;have PH:=I (gP.out.below dM.drew);have PD:=I (hi.out.below dM.drew);have f2:=PD.out.free j;have hbw2:=PH.out.dn;refine wp_region_held_drew (S:=(λW:ah=>Below ch dB W)) (by kernel_rfl) (by exact hbw2) (λhHeld=>?_);refine bJ 0 {dst:=some 110,op:=.move (.tmp 20),type:=3,pos:= "ref.go:142",after:=#[],guard:=none} ?_ rfl (Or.inl ⟨by rfl,?_⟩) ?_;rotate_left
          ·(intro w hSw;(try dsimp only at hSw);go_simp;(try with_reducible rfl))
          try simp only[bf]
          refine bJ 1 {dst:=some 111,op:=.move (.tmp 22),type:=3,pos:= "ref.go:142",after:=#[],guard:=none} ?_ rfl (Or.inl ⟨by rfl,?_⟩) ?_;rotate_left
          ·(intro w hSw;(try dsimp only at hSw);go_simp;(try with_reducible rfl))
          try simp only[bf]
          refine bJ 3 {dst:=some 113,op:=.move (.tmp 15),type:=112,pos:= "ref.go:142",after:=#[],guard:=none} ?_ rfl (Or.inl ⟨by rfl,?_⟩) ?_;rotate_left
          ·(intro w hSw;(try dsimp only at hSw);go_simp;(try with_reducible rfl))
          try simp only[bf]
          refine bJ 4 {dst:=some 114,op:=.move (.tmp 22),type:=3,pos:= "ref.go:142",after:=#[],guard:=none} ?_ rfl (Or.inl ⟨by rfl,?_⟩) ?_;rotate_left
          ·(intro w hSw;(try dsimp only at hSw);go_simp;(try with_reducible rfl))
          try simp only[bf]
          refine bJ 5 {dst:=some 115,op:=.slice 112 (.tmp 113) none (some (.tmp 114)) none,type:=112,pos:= "ref.go:142",after:=#[{on:=3,ground:=.data},{on:=4,ground:=.data}],guard:=none} ?_ rfl (Or.inl ⟨by rfl,?_⟩) ?_;rotate_left
          ·(intro w hSw;(try dsimp only at hSw);go_simp;(try with_reducible rfl))
          try simp only[bf]
          refine hd 2 {dst:=some 112,op:=.call {callee:=.value (.func 82),args:=#[.tmp 111],argTypes:=#[3]},type:=3,pos:= "ref.go:142",after:=#[{on:=1,ground:=.data}],guard:=none} rfl (λK hK=>?_);go_simp
          (go_at_call 82;refine(fS.out _).mono ?_;rintro oN oo ⟨rfl,rfl⟩)
          go_simp;refine hK.out _ _ (by exact hbw2) (λhHeld=>?_);clear hK K
          try simp only[bf]
          refine hd 6 {dst:=some 116,op:=.call {callee:=.value (.func 83),args:=#[.tmp 115],argTypes:=#[112]},type:=132,pos:= "ref.go:142",after:=#[{on:=5,ground:=.data},{on:=2,ground:=.chain}],guard:=none} rfl (λK hK=>?_);go_simp
          (go_at_call 83;refine(ac5.out _ hbw2).mono ?_;rintro KA xa ⟨rfl,rfl⟩)
          go_simp;refine hK.out _ _ (by exact hbw2) (λhHeld=>?_);clear hK K
          try simp only[bf]
          refine bJ 7 {dst:=some 117,op:=.convert 132 3 (.tmp 116),type:=3,pos:= "ref.go:142",after:=#[{on:=6,ground:=.data}],guard:=none} ?_ rfl (Or.inl ⟨by rfl,?_⟩) ?_;rotate_left
          ·(intro w hSw;(try dsimp only at hSw);go_simp;(try with_reducible rfl))
          try simp only[bf]
          refine bJ 8 {dst:=some 118,op:=.binOp .add 3 (.tmp 112) (.tmp 117) 3,type:=3,pos:= "ref.go:142",after:=#[{on:=2,ground:=.data},{on:=7,ground:=.data}],guard:=none} ?_ rfl (Or.inl ⟨by rfl,?_⟩) ?_;rotate_left
          ·(intro w hSw;(try dsimp only at hSw);go_simp;(try with_reducible rfl))
          try simp only[bf]
          refine bJ 9 {dst:=some 119,op:=.indexAddr 30 (.tmp 19) (.tmp 110),type:=0,pos:= "ref.go:142",after:=#[{on:=0,ground:=.data},{on:=0,ground:=.phase},{on:=1,ground:=.phase},{on:=2,ground:=.phase},{on:=3,ground:=.phase},{on:=4,ground:=.phase},{on:=5,ground:=.phase},{on:=6,ground:=.phase},{on:=7,ground:=.phase},{on:=8,ground:=.phase}],guard:=none} ?_ rfl (Or.inl ⟨by rfl,?_⟩) ?_;rotate_left
          ·(intro w hSw;(try dsimp only at hSw);go_simp;(try with_reducible rfl))
          try simp only[bf]
          refine hd 10 {dst:=none,op:=.store 3 (.tmp 119) (.tmp 118),type:=0,pos:= "ref.go:142",after:=#[{on:=9,ground:=.data},{on:=8,ground:=.data},{on:=6,ground:=.chain},{on:=0,ground:=.phase},{on:=1,ground:=.phase},{on:=2,ground:=.phase},{on:=3,ground:=.phase},{on:=4,ground:=.phase},{on:=5,ground:=.phase},{on:=6,ground:=.phase},{on:=7,ground:=.phase},{on:=8,ground:=.phase}],guard:=none} rfl (λK hK=>?_);go_simp;refine hK.out _ _ (by exact hbw2.setCell (by show ch<=lN;omega) _) (λhHeld=>?_);clear hK K
          try simp only[bf]
          refine wpAnyH_done (by kernel_rfl) ?_ _;have vV:=I (PH.out.cG (p:=⟨lN,j,none⟩) SX (by simpa using QK.out) (.int .i64 v));have hrow3:=PD.out.bq j (.int .i64 v);rw[h4.out]at hrow3;have kU:=I hrow3;clear hrow3 hbw2 f2 p3 qi;go_wp2;go_roundw
          case rel=>
           refine⟨j+1,m3,mc/2^ex,Rw,Pt,xs++[v],by go_num,by omega,US,rfl,hmx,I (by rw[aY,n8.out];rfl),I (λx ai=>?_),PN,Qz,Pz,vV,kU,I ?_⟩
           .rcases List.mem_append.1 ai with ai|ai
            .exact sq.out x ai
            .rw[List.mem_singleton.1 ai];exact vf
           .rw[fv.out];cases la ((jx [c0,c1,c2] hY).drop (j+1)) (mc/2^ex) m3<;>simp
          case measure=>simp[intOf];omega
        .rw[az hfit]at fv;have dO:Hid (res=none):=I (by rw[hres.out,B7.out,jZ,fv.out];rfl);have ahl:decide ((m2:Int)<ex)=true:=cf;have ahm:decide (m2<ex)=true:=cf;have bm:=I (kf.out.trans (aS.out.dn.mono MO));clear hres hfit aS eO;go_wp2_with fail
         refine(rx.out _).mono ?_;rintro e dk ⟨rfl,rfl⟩;go_wp2;go_ret2;rw[dO.out];exact⟨rfl,bm⟩
       .have ajY:j=3:=by omega
        subst ajY;have fv:=I jD.out;rw[show(jx [c0,c1,c2] hY).drop 3=[]from rfl,la,map_some,append_nil]at fv;obtain⟨qm,mx,q3,MT⟩:∃qm mx q3,xs=[qm,mx,q3]:=by
         match xs,n8.out with
        |[x,y,z],_=>exact⟨x,y,z,rfl⟩
        subst MT;have qT:qm<=65535:=sq.out qm (by simp);have hmx:mx<=65535:=sq.out mx (by simp);have aki:q3<=65535:=sq.out q3 (by simp);have AF:Row wr lN 30 [.int .i64 qm,.int .i64 mx,.int .i64 q3]:=eO.out;obtain⟨x0,iQ,iD⟩:=dz AF;obtain⟨dV,bO,rc⟩:=r;obtain⟨kP,j0,ke⟩:=dz aS.out.lg;obtain⟨aV,hV,hc⟩:=aj.out;dsimp only at kP j0 ke aV hV hc;have kT:=I hres.out;rw[B7.out,jZ,fv.out]at kT;simp only[dH,dJ,b7]at kT;have cY:=I (λW=>aoW dV bO rc q3 W aki aV hV hc);have gP:=I aS.out;have E4:=I AF;clear hres jD eO AF aS sq n8;cases hoff:jW dV bO rc (q3:Int)with
       |none=>
         rw[hoff]at kT cY;rw[getD_none]at cY;have dO:Hid (res=none):=I kT.out;have bm:=I (kf.out.trans (gP.out.dn.mono MO));clear hoff;go_wp2_with fail
         refine(cY.out _).mono ?_;rintro e dk ⟨rfl,fW⟩;have akE:w.heap.size<=wr.heap.size:=bm.out.size;have ic:=I (bm.out.trans (fW.mono akE));clear fW;go_wp2;go_ret2;rw[dO.out];exact⟨rfl,ic⟩
       |some x=>
         rw[hoff]at kT cY;rw[b7]at cY;dsimp only at kT;have ai:=XL _ _ _ _ _ hoff;have IA:=I (λW=>alW dV bO rc x W);have zy:=I (On (dV,bO,rc) x aj.out ai);dsimp only at zy;obtain⟨⟨oO,p7,mj⟩,bS⟩:∃c9,c9=hn dV bO rc x:=⟨_,rfl⟩;rw[<-bS]at IA zy kT;dsimp only at IA;clear hoff bS aV hV hc aj;obtain⟨kO,rfl⟩:∃kO:Nat,x=(kO:Int):=⟨x.toNat,by omega⟩;rw[cX]at kT;have auM:((kO:Int)==0)=false:=cz
         have akc:(mx:Int)+3=((mx+3:Nat):Int):=by omega
         go_wp2_with fail
         refine(cY.out _).mono ?_;rintro e dk ⟨rfl,fW⟩;have QF:=I (gP.out.below fW);have adG:=I (E4.out.below fW);obtain⟨z0,gh,z2⟩:=dz QF.out.lg;dsimp only at z0 gh z2;clear fW x0 iQ iD kP j0 ke;go_wp2_with fail
         refine(IA.out _).mono ?_;rintro e oo ⟨rfl,k3⟩;have rA:=I (QF.out.below k3);have adH:=I (adG.out.below k3);clear k3 z0 gh z2;obtain⟨z0,gh,z2⟩:=dz rA.out.lg;have g0:=rA.out.lg.free 0;have g1:=rA.out.lg.free 1;have g2:=rA.out.lg.free 2;have NC:lN≠ch:=by omega
         have xH:=I (rA.out.turn oO p7 mj);have Vo:Row (((oo.setCell ⟨ch,0,none⟩ (.int .i64 oO)).setCell ⟨ch,1,none⟩ (.int .i64 p7)).setCell ⟨ch,2,none⟩ (.int .i64 mj)) lN 30 [.int .i64 qm,.int .i64 mx,.int .i64 q3]:=((adH.out.cG (p:=⟨ch,0,none⟩) NC _).cG (p:=⟨ch,1,none⟩) NC _).cG (p:=⟨ch,2,none⟩) NC _;have adI:=I Vo;clear Vo;go_upto_region 41 with fail
         generalize ((oo.setCell ⟨ch,0,none⟩ (.int .i64 oO)).setCell ⟨ch,1,none⟩ (.int .i64 p7)).setCell ⟨ch,2,none⟩ (.int .i64 mj)=Pl at *;clear z0 gh z2 g0 g1 g2;obtain⟨x0,iQ,iD⟩:=dz adI.out;obtain⟨tD,UT⟩:∃tD,tD=mx+3:=⟨_,rfl⟩;rw[<-UT]at akc kT;have L7:tD<=65538:=by omega
         have hown:=xH.out.own;rw[cH.out]at hown;have iR:=I hown;clear UT hown;go_wp2_with (at_builtin;refine wpList_append_own _ rfl _ _ 68 rfl B 118 i0 (.agg #[.int .i64 0,.int .i64 0,.int .i64 0]) 3 24 underlying68 ay bC bL bz rfl (by decide) _ _ _ rfl (iR.out.alloc _) ⟨Pl.heap.size,0,none⟩ 1 1 [.int .i64 qm,.int .i64 tD,.int .i64 kO] rfl rfl ?d1 ?d2 ?d3 ?d4 ?d5 ?_)
         case d1=>
          intro j u ar;match j,ar with
         |0,ar=>simp at ar;subst ar;simp[Addr.add]
         |1,ar=>simp at ar;subst ar;simp[Addr.add]
         |2,ar=>simp at ar;subst ar;simp[Addr.add]
         case d2=>
          intro u hu;simp at hu;rcases hu with rfl|rfl|rfl<;>rfl
         case d3=>unfold maxLen;omega
         case d4=>omega
         case d5=>have:=xH.out.low;simp;omega
         intro gN xa Mg Gr _;have gd:gF D++[.int .i64 qm,.int .i64 tD,.int .i64 kO]=gF (D++[(qm,tD,kO)]):=by rw[Y9];rfl
         rw[gd]at Mg;have VO:p0 dB xa ch B (oO,p7,mj) gN (D++[(qm,tD,kO)]):=by
          have hl:=xH.out.low;have n3:=Gr.size;rw[World.size_alloc]at n3;refine⟨(xH.out.dn.alloc (by omega) _).grown Gr (by rw[World.size_alloc];omega) (λx e=>by have:=(iR.out.lt x e).1;omega),?_,by rw[aY,cH.out];exact Mg,by omega⟩;have eN:=xH.out.lg.alloc (.cells #[.int .i64 qm,.int .i64 tD,.int .i64 kO] 118);exact eN.keep (Gr.block ch eN.lt (λe=>by have:=(iR.out.lt ch e.symm).1;omega))
         have adX:=I VO;have adE:Hid (res=(rO ((jZ ((jo [c0,c1,c2] n).drop (hY+1)) mc m2 (oO,p7,mj)).map λq=>((D++[(qm,tD,kO)])++q.1,q.2))).map λm=>(m,pt)):=I (by
          rw[kT.out];cases jZ ((jo [c0,c1,c2] n).drop (hY+1)) mc m2 (oO,p7,mj)<;>simp)
         clear gd Mg VO Gr x0 iQ iD;go_wp2;go_roundw
         case rel=>exact⟨hY+1,m2,mc,oJ,tT,D++[(qm,tD,kO)],(oO,p7,mj),by go_num,by omega,aka,rfl,De,I (by rw[aY,cH.out];rfl),zy,x5,Dt,CN,adX,adE⟩
         case measure=>simp[intOf];omega
     .have hkn':hY=n:=by omega
      subst hkn';have uC:decide ((hY:Int)<hY)=false:=aU;have fg:=I hres.out;rw[show(jo [c0,c1,c2] hY).drop hY=[]from drop_of_length_le (by simp[jo]),jZ,map_some,append_nil]at fg;unfold rO at fg;dsimp only at fg;have hcall:=Yi za h5 (am.bitsOf X m) wr (by rw[gV];omega) (c7 cW.out (s4.out wr aS.out.dn));have hdec:decide ((am.bitsOf X m).length<8/\∀x∈am.bitsOf X m,x=0)=decide (m<8/\X=0):=by
       rw[gV];exact decide_eq_decide.2 ⟨λh=>⟨h.1,(J2 X m ck).1 h.2⟩,λh=>⟨h.1,(J2 X m ck).2 h.2⟩⟩
      rw[hdec,gV]at hcall;have cY:=I hcall;obtain⟨aan,co,MK,lV,_⟩:=Zl aS.out.own;rw[cH.out]at MK;rw[MK];have xE:=I lV;have bm:=I (kf.out.trans (aS.out.dn.mono MO));clear hcall hdec hres aS lV MK cW K1 ck;by_cases hend:m<8/\X=0
      .rw[aB hend]at fg;rw[bE hend]at cY;clear hend;go_wp2_with fail
       refine cY.out.mono ?_;rintro e a6 ⟨rfl,rfl⟩;go_wp2;go_ret2;rw[fg.out,map_some];refine⟨?_,bm⟩;unfold Ck;dsimp only;rw[cH.out];exact⟨aan,co,rfl,xE⟩
      .rw[az hend]at fg;rw[bG hend]at cY;clear hend;go_wp2_with fail
       refine cY.out.mono ?_;rintro e a6 ⟨rfl,rfl⟩;go_wp2;go_ret2;rw[fg.out];exact⟨rfl,bm⟩
theorem aoO(l:ae)(most:Int)(w:ah)(hl:l.length<=50000)(au:∀x∈l,x<256)(hm:ec most) :
  Calls prog 48 #[.string (strOf l),.int .i64 most] w λe w'=>Ck w' e (iC l most)/\av w w':=by
 have aL:=z7 l w (by omega) au;have aD:(aX l).1<18446744073709551616:=by
  rcases eq_zero_or_pos (aX l).2 with h|h
  .have:=KN l (aX l).1 (by rw[<-h]);omega
  .exact gJ (rP l (aX l).1 (aX l).2 h rfl).1 (by decide)
 have hk:(aX l).2<=l.length:=by
  rcases eq_zero_or_pos (aX l).2 with h|h
  .omega
  .exact(rP l _ _ h rfl).2.2
 unfold iC;generalize (aX l).1=v at *;generalize (aX l).2=k at *;by_cases h:0<k/\(v:Int)<=most/\v<=1000
 .rw[aB h];by_cases ao:v=0
  .subst ao;rw[aB rfl];exact aoR _ k most w h.1 (by omega) ⟨by omega,hm.2⟩ aL
  .rw[az ao];exact aoP l v k most w hl au (by omega) h.2.2 h.2.1 hm.2 h.1 hk aL
 .rw[az h];exact aoQ _ v k most w aD (by omega) hm h aL
end Go.Proofs.YtgiicohbigiapaaGreat
