/- Contracts, and what they rest on. Conditions: the theorems' premises. -/
import Derived.Test.YtaebnkeddcbmkaaGreatYap
set_option maxHeartbeats 4000000
set_option maxRecDepth 100000
open Go.Lib(hid)
open Go.Proofs.Tryz Go.Proofs.YtaebnkeddcbmkaaGreat.Bm
namespace Go.Proofs.YtaebnkeddcbmkaaGreat
open Go.RowKit
namespace Bm
def yS(N:List (List Nat))(vs:List Nat)(j:Nat):List Nat:=cZ j N++(vs[j]?).toList.map kX
theorem Yq(N:List (List Nat))(j:Nat):yS N [] j=cZ j N:=by simp[yS]
theorem Rm(N:List (List Nat))(vs:List Nat):yS N vs vs.length=cZ vs.length N:=by simp[yS]
theorem Rn(N:List (List Nat))(vs:List Nat)(v:Nat):yS N (vs++[v]) vs.length=yS N vs vs.length++[kX v]:=by
 rw[Rm];simp[yS]
theorem Nc(N:List (List Nat))(vs:List Nat)(v:Nat)(j:Nat)(h:j≠vs.length):yS N (vs++[v]) j=yS N vs j:=by
 unfold yS;rcases Nat.lt_or_ge j vs.length with h1 | h1
 ·rw[List.getElem?_append_left h1]
 ·rw[List.getElem?_eq_none (by rw[List.length_append,List.length_singleton];omega),List.getElem?_eq_none h1]
theorem Yo(N:List (List Nat))(vs:List Nat)(j:Nat)(h:j<vs.length):yS N vs j=cZ j (N++[vs]):=by
 unfold yS cZ;rw[List.getElem?_eq_getElem h,List.map_append];simp[h]
theorem Yp(N:List (List Nat))(vs:List Nat)(j:Nat):(yS N vs j).length<=N.length+1:=by
 unfold yS cZ;rw[List.length_append,List.length_map,List.length_map];cases vs[j]?<;>simp
theorem ach(m:Int)(h:-9223372036854775808<=m/\m<=9223372036854775807):-9223372036854775808<=IntKind.i64.wrap (m-3)/\IntKind.i64.wrap (m-3)<=9223372036854775807:=by
 by_cases h1:-9223372036854775808<=m-3
 ·rw[IntWalk.i64_in _ (by omega)];omega
 ·have:m=-9223372036854775808\/m=-9223372036854775807\/m=-9223372036854775806:=by omega
  rcases this with rfl | rfl | rfl<;>decide
theorem amm(m:Int)(h:-9223372036854775808<=m/\m<=9223372036854775807):(3<=m/\m<=65538->IntKind.i64.wrap (m-3)=m-3)/\(0<=IntKind.i64.wrap (m-3)/\IntKind.i64.wrap (m-3)<=65535->3<=m/\m<=65538):=by
 refine⟨fun hm=>IntWalk.i64_in _ (by omega),fun hw=>?_⟩;by_cases h1:-9223372036854775808<=m-3
 ·rw[IntWalk.i64_in _ (by omega)]at hw;omega
 ·exfalso
  have:m=-9223372036854775808\/m=-9223372036854775807\/m=-9223372036854775806:=by omega
  rcases this with rfl | rfl | rfl
  ·have e:IntKind.i64.wrap (-9223372036854775808-3)=9223372036854775805:=by decide
   rw[e]at hw;omega
  ·have e:IntKind.i64.wrap (-9223372036854775807-3)=9223372036854775806:=by decide
   rw[e]at hw;omega
  ·have e:IntKind.i64.wrap (-9223372036854775806-3)=9223372036854775807:=by decide
   rw[e]at hw;omega
end Bm
theorem Bh.congr{w:World}{base:Nat}{vs:List Value}{L L':Nat->List Nat}(h:Bh w base vs L)(hL:∀s,s<vs.length->L' s=L s):Bh w base vs L':=
 ⟨fun s v hv=>by rw[hL s (List.getElem?_eq_some_iff.1 hv).1];exact h.own s v hv,h.apart⟩
structure CoO(w W:World)(B b2 b5 b6 b7:Nat)(us:List Value)(P:Nat->List Nat)(F:List Nat)(r:Int×Int×Int):Prop where
 res:Row W b2 111 [.slice none 0 0,.slice none 0 0,.slice none 0 0]
 all:Row W b5 111 us
 len:us.length=3
 fam:Bh W B us P
 wr:WS W b6 0 (bG F).1 (bG F).2
 VK:Row W b7 157 [.int .i64 r.1,.int .i64 r.2.1,.int .i64 r.2.2]
 bel:Below w.heap.size w W
 low:w.heap.size<=b2/\b2<b5/\b5<b6/\b6<b7/\b7<B/\B<=W.heap.size
section
variable {w W W':World} {B b2 b5 b6 b7:Nat} {us:List Value} {P:Nat->List Nat} {F:List Nat} {r:Int×Int×Int}
theorem CoO.below(h:CoO w W B b2 b5 b6 b7 us P F r)(hb:Below W.heap.size W W'):CoO w W' B b2 b5 b6 b7 us P F r:=by
 obtain⟨h1,h2,h3,h4,h5,h6,h7,h8⟩:=h;exact⟨h1.below hb,h2.below hb,h3,h4.below hb,h5.below hb,h6.below hb,h7.trans (hb.mono h7.size),by have:=hb.size;omega⟩
theorem CoO.congr(h:CoO w W B b2 b5 b6 b7 us P F r){P':Nat->List Nat}(hP:∀s,s<3->P' s=P s):CoO w W B b2 b5 b6 b7 us P' F r:=by
 obtain⟨h1,h2,h3,h4,h5,h6,h7,h8⟩:=h;exact⟨h1,h2,h3,h4.congr (fun s hs=>hP s (by omega)),h5,h6,h7,h8⟩
theorem CoO.put(h:CoO w W B b2 b5 b6 b7 us P F r){F':List Nat}(hg:W.grownBy W' (some b6))(hw:WS W' b6 0 (bG F').1 (bG F').2):CoO w W' B b2 b5 b6 b7 us P F' r:=by
 obtain⟨h1,h2,h3,h4,_,h6,h7,h8⟩:=h;refine⟨h1.keep (hg.block _ (by omega) (by simp;omega)),h2.keep (hg.block _ (by omega) (by simp;omega)),h3,⟨fun s v hv=>(h4.own s v hv).kept hg ?_,h4.apart⟩,hw,h6.keep (hg.block _ (by omega) (by simp;omega)),h7.grown hg h7.size (fun x e=>by injection e with e;omega),by have:=hg.size;omega⟩;rcases hq:v.ownBlock with _ | q
 ·exact .inl rfl
 ·have:=((h4.own s v hv).lt q hq).1;exact .inr (by simp;omega)
theorem CoO.turn(h:CoO w W B b2 b5 b6 b7 us P F r)(a b c:Int):CoO w (((W.setCell ⟨b7,0,none⟩ (.int .i64 a)).setCell ⟨b7,1,none⟩ (.int .i64 b)).setCell ⟨b7,2,none⟩ (.int .i64 c)) B b2 b5 b6 b7 us P F (a,b,c):=by
 obtain⟨h1,h2,h3,h4,h5,h6,h7,h8⟩:=h;have e1:∀(W:World) i u {t cs},Row W b2 t cs->Row (W.setCell ⟨b7,i,none⟩ u) b2 t cs:=fun W i u t cs h=>h.far (by show b2≠b7;omega) u
 have e2:∀(W:World) i u {t cs},Row W b5 t cs->Row (W.setCell ⟨b7,i,none⟩ u) b5 t cs:=fun W i u t cs h=>h.far (by show b5≠b7;omega) u
 have e3:∀(W:World) i u,yR W b7 188->WS W b6 0 (bG F).1 (bG F).2->WS (W.setCell ⟨b7,i,none⟩ u) b6 0 (bG F).1 (bG F).2:=fun W i u hn h=>h.keep (dZ W ⟨b7,i,none⟩ u) (by simp;omega) (fun g e=>by injection e with e;rw[<-e];exact hn)
 have hn0:=h6.UG (u:=188) (by decide);have hn1:=hn0.setCell ⟨b7,0,none⟩ (.int .i64 a);have hn2:=hn1.setCell ⟨b7,1,none⟩ (.int .i64 b);have e4:∀(W:World) i u,Bh W B us P->Bh (W.setCell ⟨b7,i,none⟩ u) B us P:=fun W i u h=>h.far (fun s v hv e=>by have:=((h.own s v hv).lt _ e).1;dsimp only at this;omega) u
 have r4:=((h6.aT 0 (.int .i64 a)).aT 1 (.int .i64 b)).aT 2 (.int .i64 c);simp only[List.set_cons_zero,List.set_cons_succ]at r4;have q1:=e1 _ 2 (.int .i64 c) (e1 _ 1 (.int .i64 b) (e1 _ 0 (.int .i64 a) h1));have q2:=e2 _ 2 (.int .i64 c) (e2 _ 1 (.int .i64 b) (e2 _ 0 (.int .i64 a) h2));have q3:=e3 _ 2 (.int .i64 c) hn2 (e3 _ 1 (.int .i64 b) hn1 (e3 _ 0 (.int .i64 a) hn0 h5));have q4:=e4 _ 2 (.int .i64 c) (e4 _ 1 (.int .i64 b) (e4 _ 0 (.int .i64 a) h4));have q5:=((h7.setCell (p:=⟨b7,0,none⟩) (by show w.heap.size<=b7;omega) (.int .i64 a)).setCell (p:=⟨b7,1,none⟩) (by show w.heap.size<=b7;omega) (.int .i64 b)).setCell (p:=⟨b7,2,none⟩) (by show w.heap.size<=b7;omega) (.int .i64 c);exact⟨q1,q2,h3,q4,q3,r4,q5,by simpa [World.setCell]using h8⟩
theorem CoO.app(h:CoO w W B b2 b5 b6 b7 us P F r){P':Nat->List Nat}{j:Nat}{u:Value}(hu:us[j]?=some u){g n cap:Nat}(hg:W.grownBy W' u.ownBlock)(hat:u.ownBlock=some g\/g=W.heap.size)
  (hown:W'.ownsRow B 5 1 (.slice (some ⟨g,0,none⟩) n cap) n (u8s (P' j))) (hn:(P' j).length=n) (hL:∀t,t≠j->P' t=P t) :
  CoO w (W'.setCell ⟨b5,j,none⟩ (.slice (some ⟨g,0,none⟩) n cap)) B b2 b5 b6 b7 (us.set j (.slice (some ⟨g,0,none⟩) n cap)) P' F r:=by
 obtain⟨h1,h2,h3,h4,h5,h6,h7,h8⟩:=h;have hlo:∀q,u.ownBlock=some q->B<=q/\q<W.heap.size:=fun q e=>(h4.own j u hu).lt q e
 have hne:∀b,b<B->u.ownBlock≠some b:=fun b hb e=>by have:=(hlo b e).1;omega
 have k1:=(h1.keep (hg.block _ (by omega) (fun e=>hne b2 (by omega) e.symm))).far (p:=⟨b5,j,none⟩) (by show b2≠b5;omega) (.slice (some ⟨g,0,none⟩) n cap);have k2:=(h2.keep (hg.block _ (by omega) (fun e=>hne b5 (by omega) e.symm))).aT j (.slice (some ⟨g,0,none⟩) n cap);have k2':=(h2.keep (hg.block _ (by omega) (fun e=>hne b5 (by omega) e.symm))).UG (u:=188) (by decide);have k4:=Bh.push (L':=P') h4 hu hg hat hown hn hL;have k5:WS W' b6 0 (bG F).1 (bG F).2:=h5.keep hg (hne b6 (by omega)) (fun q e=>by
  obtain⟨c,fz,hk⟩:=Lib.ownsRow_kind (h4.own j u hu) q e;exact⟨c,5,fz,hk,by decide⟩)
 have k5':=k5.keep (dZ W' ⟨b5,j,none⟩ (.slice (some ⟨g,0,none⟩) n cap)) (by simp;omega) (fun q e=>by injection e with e;rw[<-e];exact k2');have k6:=(h6.keep (hg.block _ (by omega) (fun e=>hne b7 (by omega) e.symm))).far (p:=⟨b5,j,none⟩) (by show b7≠b5;omega) (.slice (some ⟨g,0,none⟩) n cap);have k7:=(h7.grown hg h7.size (fun q e=>by have:=(hlo q e).1;omega)).setCell (p:=⟨b5,j,none⟩) (by show w.heap.size<=b5;omega) (.slice (some ⟨g,0,none⟩) n cap);have k4':=k4.far (p:=⟨b5,j,none⟩) (fun s v hv e=>by have:=((k4.own s v hv).lt _ e).1;dsimp only at this;omega) (.slice (some ⟨g,0,none⟩) n cap);exact⟨k1,k2,by rw[List.length_set];exact h3,k4',k5',k6,k7,by have:=hg.size;simpa [World.setCell]using (by omega:w.heap.size<=b2/\b2<b5/\b5<b6/\b6<b7/\b7<B/\B<=W'.heap.size)⟩
end
namespace Bm
theorem ado:∀(l:List StZ) (r:Int×Int×Int),Nb r->(∀s∈l,Gj s)->Nb (CF r l)
 | [],_,h,_=>h
 | s :: l,r,h,hm=>by
  have hs:=hm s List.mem_cons_self;rw[CF];exact ado l _ (VL r s.2.2 h ⟨hs.2.2.2.2.1,hs.2.2.2.2.2⟩) (fun x hx=>hm x (List.mem_cons_of_mem _ hx))
end Bm
theorem Xf(w:World)(t0 t1 t2:TypeId)(l0 l1 l2:List Value):∃W b0 b1 b2,((w.alloc (.cells l0.toArray t0)).alloc (.cells l1.toArray t1)).alloc (.cells l2.toArray t2)=W /\
  w.heap.size=b0/\w.heap.size+1=b1/\w.heap.size+1+1=b2/\W.heap.size=b2+1/\Row W b0 t0 l0/\Row W b1 t1 l1/\Row W b2 t2 l2/\Below w.heap.size w W:=by
 have h0:=Row.new w t0 l0;have h1:=Row.new (w.alloc (.cells l0.toArray t0)) t1 l1;have h2:=Row.new ((w.alloc (.cells l0.toArray t0)).alloc (.cells l1.toArray t1)) t2 l2;have k1:(w.alloc (.cells l0.toArray t0)).heap.size=w.heap.size+1:=by simp
 have k2:((w.alloc (.cells l0.toArray t0)).alloc (.cells l1.toArray t1)).heap.size=w.heap.size+1+1:=by simp
 rw[k1]at h1;rw[k2]at h2;exact⟨_,_,_,_,rfl,rfl,rfl,rfl,by simp,(h0.alloc _).alloc _,h1.alloc _,h2,
  (((Below.refl w.heap.size w).alloc (Nat.le_refl _) _).alloc (by simp) _).alloc (by simp;omega) _⟩
theorem TT(x y z:Int)(W:World):(Instr.index 156 (.agg #[.int .i64 x,.int .i64 y,.int .i64 z]) (.int .i64 0)).run prog W=.ok (.int .i64 x) W /\
  (Instr.index 156 (.agg #[.int .i64 x,.int .i64 y,.int .i64 z]) (.int .i64 1)).run prog W=.ok (.int .i64 y) W/\(Instr.index 156 (.agg #[.int .i64 x,.int .i64 y,.int .i64 z]) (.int .i64 2)).run prog W=.ok (.int .i64 z) W:=by
 refine⟨?_,?_,?_⟩
 all_goals
  simp[Instr.index,run_underlying underlying156,asIntOf,go_sem]
theorem TU(x y z u:Int)(j:Nat)(h:[x,y,z][j]?=some u)(W:World):(Instr.index 156 (.agg #[.int .i64 x,.int .i64 y,.int .i64 z]) (.int .i64 (j:Int))).run prog W=.ok (.int .i64 u) W:=by
 obtain⟨h0,h1,h2⟩:=TT x y z W;match j,h with
 | 0,h=>simp at h;subst h;exact h0
 | 1,h=>simp at h;subst h;exact h1
 | 2,h=>simp at h;subst h;exact h2
theorem vQ(b v:Nat)(F:List Nat)(W:World)(hv:v<=65535)(hF:∀x∈F,x<=65535)(hl:F.length<=10000)(h:WS W b 0 (bG F).1 (bG F).2) :
  Calls prog 93 #[.pointer (some ⟨b,0,none⟩),.int .u32 (kI v:Int),.int .i64 (gG v:Int)] W fun e w'=>e=.returned (.bool true)/\WS w' b 0 (bG (F++[v])).1 (bG (F++[v])).2/\W.grownBy w' (some b):=by
 obtain⟨_,h2,h3,_⟩:=mX v hv;have h4:=vE F hF;have h1:=qY b 0 (bG F).1 (bG F).2 (kI v) (gG v) W (by omega) (by omega) (by omega) h;rw[Nat.mod_eq_of_lt (Je v)]at h1;rw[zC];exact h1
def mJ(w':World)(e:Ending)(l:List StZ):Prop:=
 if ∀s∈l,Gj s then ∃A0 k0 A1 k1 A2 k2 A k,e=.returned (.tuple #[.agg #[.slice A0 l.length k0,.slice A1 l.length k1,.slice A2 l.length k2],.slice A (dM (aP (1,2,4) l)).length k,.bool true]) /\
  l.length<=k0/\l.length<=k1/\l.length<=k2/\Reads w' A0 (u8s (cZ 0 (aP (1,2,4) l)))/\Reads w' A1 (u8s (cZ 1 (aP (1,2,4) l)))/\Reads w' A2 (u8s (cZ 2 (aP (1,2,4) l)))/\Reads w' A (u8s (dM (aP (1,2,4) l)))
 else e=.returned (.tuple #[.agg #[.slice none 0 0,.slice none 0 0,.slice none 0 0],.slice none 0 0,.bool false])
theorem Pb(A:Option Addr)(c:Nat)(l:List StZ)(w:World)(hl:l.length<=700)(hok:ZOk l)(hr:XO w A l) :
  Calls prog 64 #[.slice A l.length c] w fun e w'=>mJ w' e l/\Below w.heap.size w w':=by
 obtain⟨i0,hi,hy0,hy1,hy2⟩:=info_parts jh;obtain⟨Pst,Td⟩:∃Pst:World->Ending->Prop,Pst=fun w' e=>mJ w' e l:=⟨_,rfl⟩
 have acv:=hid Td;have hgoal:(fun(e:Ending) (w':World)=>mJ w' e l/\Below w.heap.size w w')=fun e w'=>Pst w' e/\Below w.heap.size w w':=by rw[Td]
 rw[hgoal];clear hgoal Td;have Hr:=hid hr;have Hok:=hid hok;have ahN:=hid EI;have Hcy:=hid (fun(v:Nat) (h:v<=65535) (W:World)=>Lr.1 W v h);have Hcn:=hid (fun(z:Int) (h0:mO z) (h:z<0\/65535<z) (W:World)=>Lr.2 W z h0 h);clear hr hok;go_enter func64,ntmps64
 go_wp2_with fail
 obtain⟨W3,b2,b5,b6,hW3,e2,e5,e6,es,r2,r5,r6,NS⟩:=Xf w 111 111 155 [.slice none 0 0,.slice none 0 0,.slice none 0 0] [.slice none 0 0,.slice none 0 0,.slice none 0 0] [.pointer none,.int .u64 0,.int .i64 0];have hws:WS W3 b6 0 0 0:=by
  have h:=WS.new ((w.alloc (.cells #[.slice none 0 0,.slice none 0 0,.slice none 0 0] 111)).alloc (.cells #[.slice none 0 0,.slice none 0 0,.slice none 0 0] 111)) 155 (by decide);rw[hW3]at h;rw[<-e6];have hs:((w.alloc (.cells #[.slice none 0 0,.slice none 0 0,.slice none 0 0] 111)).alloc (.cells #[.slice none 0 0,.slice none 0 0,.slice none 0 0] 111)).heap.size=w.heap.size+1+1:=by simp
  rw[hs]at h;exact h
 rw[hW3,e6,e5,e2];refine(ahN.out _).mono ?_;rintro e w2 ⟨rfl,hb2⟩;obtain⟨b7,hb7⟩:∃b7,w2.heap.size=b7:=⟨_,rfl⟩;obtain⟨B,hB⟩:∃B,b7+1=B:=⟨_,rfl⟩;have hal:=(Below.refl w2.heap.size w2).alloc (Nat.le_refl _) (.cells #[.int .i64 1,.int .i64 2,.int .i64 4] 157);have r7:=Row.new w2 157 [.int .i64 1,.int .i64 2,.int .i64 4];rw[hb7]at r7;have hst:CoO w (w2.alloc (.cells #[.int .i64 1,.int .i64 2,.int .i64 4] 157)) B b2 b5 b6 b7 (List.replicate 3 (.slice none 0 0)) (fun j=>cZ j []) [] (1,2,4):=by
  have hs2:=hb2.size;refine⟨(r2.below hb2).below hal,(r5.below hb2).below hal,rfl,Bh.amd _ _ _ (fun s=>by simp[cZ]),(hws.below hb2).below hal,r7,?_,?_⟩
  ·exact(NS.trans (hb2.mono (by omega))).trans (hal.mono (by omega))
  ·rw[World.size_alloc];omega
 have Hst:=hid hst;have Hb7:=hid hb7;clear hb2 hal r7 hst hb7 r2 r5 r6 hws NS hW3 e2 e5 e6 es ahN hB;go_wp2;rw[Hb7.out];generalize w2.alloc (.cells #[.int .i64 1,.int .i64 2,.int .i64 4] 157)=wA at *;clear Hb7;obtain⟨n,hn⟩:∃n,n=l.length:=⟨_,rfl⟩;have Hn:=hid hn;rw[<-hn]at hl ⊢;clear hn;go_loopw [9,10,11,12,13,14,15,16,17,18,22] (fun _ _ _ _ _ _ _ _ _ _ i wr=>∃(k:Nat) (us:List Value),i=.int .i64 (k:Int)/\k<=n/\Hid (∀s∈l.take k,Gj s) /\
  Hid (CoO w wr B b2 b5 b6 b7 us (fun j=>cZ j (aP (1,2,4) (l.take k))) (aP (1,2,4) (l.take k)).flatten (CF (1,2,4) (l.take k)))) (fun _ _ _ _ _ _ _ _ _ _ i _=>n-(intOf i).toNat)
 case atStart=>exact⟨0,_,rfl,Nat.zero_le _,hid (by simp),Hst⟩
 case round=>
  obtain⟨k,us,rfl,hk,hall,hst⟩:=hrel;clear Hst;by_cases hkn:k<n
  ·have dk:decide ((k:Int)<(n:Int))=true:=decide_eq_true (by omega);have hkl:k<l.length:=by rw[<-Hn.out];exact hkn
   obtain⟨g,off,rfl,hg,hc⟩:=(Hr.out.below hst.out.bel) (by omega);obtain⟨c0,c1,c2⟩:=hc k hkl;obtain⟨x,m,o,hs⟩:∃x m o,l[k]=(x,m,o):=⟨_,_,_,rfl⟩;have Hs:=hid hs;obtain⟨ox,om,oo⟩:=Hok.out l[k] (List.getElem_mem hkl);rw[hs]at c0 c1 c2 ox om oo;simp only at c0 c1 c2 ox om oo;have Htk:Hid (l.take (k+1)=l.take k++[(x,m,o)]):=hid (by rw[List.take_add_one,List.getElem?_eq_getElem hkl,hs];rfl);have acY:=hst.out.below ((Below.refl wr.heap.size wr).alloc (Nat.le_refl _) (.cells #[.int .i64 x,.int .i64 m,.int .i64 o] 121));obtain⟨y0,y1,y2⟩:=gB acY.VK;have alQ:=ado (l.take k) (1,2,4) ⟨by decide,by decide,by decide⟩ hall.out;obtain⟨hra,hrb,hrc⟩:=adp alQ;obtain⟨N,hN⟩:∃N,N=aP (1,2,4) (l.take k):=⟨_,rfl⟩;have HN:=hid hN;have HN2:Hid (aP (1,2,4) (l.take (k+1))=N++[kU (CF (1,2,4) (l.take k)) (x,m,o)]/\CF (1,2,4) (l.take (k+1))=oV (CF (1,2,4) (l.take k)).1 (CF (1,2,4) (l.take k)).2.1 (CF (1,2,4) (l.take k)).2.2 o):=hid (by rw[Htk.out,Aj,Fy,hN];exact⟨rfl,rfl⟩);rw[<-hN]at acY;generalize CF (1,2,4) (l.take k)=r at *;have adS:=hid acY;clear hc hs hst acY hN;by_cases ho:1<=o/\o<=65533
   ·have bA:=hid (fun W=>Vz W r.1 r.2.1 r.2.2 (x,m,o) hra hrb hrc ho);dsimp only at bA;have hz2:=Ct r.1 r.2.1 r.2.2 o ho.1 ho.2;obtain⟨⟨ra,rb,rc⟩,anx⟩:∃r',r'=oV r.1 r.2.1 r.2.2 o:=⟨_,rfl⟩;rw[<-anx]at bA HN2;have hth:kU r (x,m,o)=[x.toNat,(m-3).toNat,(oH r.1 r.2.1 r.2.2 o).toNat]:=rfl;rw[hth]at HN2;obtain⟨z2,aoO⟩:∃z2,z2=oH r.1 r.2.1 r.2.2 o:=⟨_,rfl⟩;rw[<-aoO]at bA HN2 hz2;have hw3:=amm m om;obtain⟨z1,alX⟩:∃z1,z1=IntKind.i64.wrap (m-3):=⟨_,rfl⟩;rw[<-alX]at bA hw3;have Hw3:=hid hw3;have Hoz:Hid (mO z1):=hid (by rw[alX];exact ach m om);dsimp only at bA;clear anx hth aoO alX hw3 hra hrb hrc alQ;go_wp2_with fail
    refine(bA.out _).mono ?_;rintro e w3 ⟨rfl,hb3⟩;have XQ:=adS.out.below hb3;have aeS:=XQ.low;obtain⟨bn,hbn⟩:∃bn,w3.heap.size=bn:=⟨_,rfl⟩;have rt:=Row.new (w3.alloc (.cells #[.int .i64 x,.int .i64 z1,.int .i64 z2] 156)) 157 [.int .i64 ra,.int .i64 rb,.int .i64 rc];have rn:=(Row.new w3 156 [.int .i64 x,.int .i64 z1,.int .i64 z2]).alloc (.cells #[.int .i64 ra,.int .i64 rb,.int .i64 rc] 157);rw[World.size_alloc,hbn]at rt;rw[hbn]at rn;have lV:=(XQ.below ((Below.refl w3.heap.size w3).alloc (Nat.le_refl _) (.cells #[.int .i64 x,.int .i64 z1,.int .i64 z2] 156))).below ((Below.refl _ (w3.alloc (.cells #[.int .i64 x,.int .i64 z1,.int .i64 z2] 156))).alloc (Nat.le_refl _) (.cells #[.int .i64 ra,.int .i64 rb,.int .i64 rc] 157));have wm:=hid lV;have Hrt:=hid rt;have Hrn:=hid rn;have Hbn:=hid hbn;obtain⟨t0,t1,t2⟩:=gB lV.VK;have f0:=lV.VK.free 0;have f1:=lV.VK.free 1;have f2:=lV.VK.free 2;obtain⟨q0,q1,q2⟩:=gB rt;obtain⟨p0,p1,p2⟩:=gB rn;have n1:bn+1≠b7:=by omega
    have n2:bn≠b7:=by omega
    rw[<-hbn]at q0 q1 q2 p0 p1 p2 n1 n2;clear hb3 XQ lV rt rn hbn aeS bA adS y0 y1 y2 c0 c1 c2;go_wp2;rw[Hbn.out];have TN:=wm.out.turn ra rb rc;have amX:Hid (CoO w (((((w3.alloc (.cells #[.int .i64 x,.int .i64 z1,.int .i64 z2] 156)).alloc (.cells #[.int .i64 ra,.int .i64 rb,.int .i64 rc] 157)).setCell ⟨b7,0,none⟩ (.int .i64 ra)).setCell ⟨b7,1,none⟩ (.int .i64 rb)).setCell ⟨b7,2,none⟩ (.int .i64 rc)) B b2 b5 b6 b7 us (yS N []) (N.flatten++[]) (ra,rb,rc)):=hid (by
     rw[List.append_nil];exact TN.congr (fun s _=>Yq N s))
    clear TN wm Hrt Hrn Hbn t0 t1 t2 f0 f1 f2 q0 q1 q2 p0 p1 p2 n1 n2;generalize ((((w3.alloc (.cells #[.int .i64 x,.int .i64 z1,.int .i64 z2] 156)).alloc (.cells #[.int .i64 ra,.int .i64 rb,.int .i64 rc] 157)).setCell ⟨b7,0,none⟩ (.int .i64 ra)).setCell ⟨b7,1,none⟩ (.int .i64 rb)).setCell ⟨b7,2,none⟩ (.int .i64 rc)=wB at *;have HNf:Hid ((∀v∈N.flatten,v<=65535)/\N.flatten.length<=3*700/\N.length<=700):=hid (by
     rw[HN.out,jf,fP,List.length_take];exact⟨tC _ _ hall.out,by omega,by omega⟩)
    rename World=>wo
    go_loopw [13,14,15,16,17,18,38] (fun _ _ _ _ _ _ i wr=>∃(j:Nat) (vs:List Nat) (us:List Value),i=.int .i64 (j:Int)/\j<=3/\Hid (vs.length=j)/\Hid (∀v∈vs,v<=65535)/\Hid ([x,z1,z2].take j=vs.map fun v:Nat=>(v:Int)) /\
     Hid (CoO w wr B b2 b5 b6 b7 us (yS N vs) (N.flatten++vs) (ra,rb,rc))) (fun _ _ _ _ _ _ i _=>3-(intOf i).toNat)
    case atStart=>exact⟨0,[],us,rfl,by omega,hid rfl,hid (by simp),hid rfl,amX⟩
    case round=>
     obtain⟨j,vs,us,rfl,hj,hvs,ajv,hzs,hst⟩:=hrel;clear amX;by_cases hj3:j<3
     ·have dj:(j:Int)<3:=by omega
      obtain⟨z,hz⟩:∃z,[x,z1,z2][j]?=some z:=⟨_,List.getElem?_eq_getElem (by simpa using hj3)⟩;have hidx:=TU x z1 z2 z j hz;have Hz:=hid hz;have alY:mO z:=by
       rcases(by omega:j=0\/j=1\/j=2)with rfl | rfl | rfl
       ·simp at hz;subst hz;exact ox
       ·simp at hz;subst hz;exact Hoz.out
       ·simp at hz;subst hz;unfold mO;omega
      have hu:∃u,us[j]?=some u:=⟨_,List.getElem?_eq_getElem (by rw[hst.out.len];exact hj3)⟩;obtain⟨u,hu⟩:=hu;have Hu:=hid hu;clear hz hu;by_cases hz0:0<=z/\z<=65535
      ·obtain⟨v,rfl⟩:∃v:Nat,z=(v:Int):=⟨z.toNat,by omega⟩;have hv:v<=65535:=by omega
       have bA:=hid (fun W=>Hcy.out v hv W);have hm2:=(mX v hv).2.1;have hcu:IntKind.u32.wrap ((kI v:Nat):Int)=((kI v:Nat):Int):=by rw[IntKind.wrap_u32];omega
       have Bl:=hid (fun W h=>vQ b6 v (N.flatten++vs) W hv (fun q hq=>(List.mem_append.1 hq).elim (HNf.out.1 q) (ajv.out q)) (by rw[List.length_append,hvs.out];have:=HNf.out.2.1;omega) h);have lT:=hid hst.out;have hP:(yS N vs j).length<=701:=Nat.le_trans (Yp N vs j) (by have:=HNf.out.2.2;omega);clear hz0 hst alY Hcy Hcn;go_wp2_with fail
       refine(bA.out _).mono ?_;rintro e w4 ⟨rfl,hb4⟩;have lV:=lT.out.below hb4;have c5:=(lV.all.cell j).trans Hu.out;have Dv:=hid (lV.fam.own j u Hu.out);have hs4:=lV.low;have wm:=hid lV;clear hb4 lV lT bA;generalize hcd:kX v=cd at *;go_wp2_with (at_builtin;refine wpList_append_lies _ rfl _ _ 60 rfl B 5 i0 (.int .u8 0) 1 1 underlying60 hi hy0 hy1 hy2 rfl (by decide) _ _ _ rfl (Dv.out.alloc _) ⟨w4.heap.size,0,none⟩ 1 1 [.int .u8 (cd:Int)] rfl rfl ?d1 ?d2 (by decide) ?d3 ?d4 ?d5 _ rfl ?_)
       case d1=>
        intro j u hj;match j,hj with
        | 0,hj=>simp at hj;subst hj;simp[Addr.add]
       case d2=>intro u hu;simp at hu;subst hu;rfl
       case d3=>unfold maxLen;omega
       case d4=>omega
       case d5=>simp;omega
       intro g7 akl w7 bM fO ahg akp;have TN:=wm.out.below ((Below.refl w4.heap.size w4).alloc (Nat.le_refl _) (.cells #[.int .u8 (cd:Int)] 5));have happ:=Rn N vs v;rw[hcd,hvs.out]at happ;have e7:u8s (yS N vs j)++[Value.int .u8 (cd:Int)]=u8s (yS N (vs++[v]) j):=by rw[happ];simp[u8s]
       rw[e7]at bM;have aiX:(yS N (vs++[v]) j).length=(yS N vs j).length+1:=by rw[happ];simp
       have ahm:=TN.app (P':=yS N (vs++[v])) Hu.out fO (by rw[World.size_alloc];exact ahg) bM aiX (fun t ht=>Nc N vs v t (by rw[hvs.out];exact ht));have aqf:=TN.low;have aob:∀q,q<B->u.ownBlock≠some q:=fun q hq e=>by have:=(Dv.out.lt q e).1;omega
       have r5':=TN.all.keep (fO.block b5 (by omega) (fun e=>aob b5 (by omega) e.symm));have c7:=(r5'.cell j).trans Hu.out;have f7:=r5'.free j;have adT:=hid ahm;have Hp6:=hid (Bl.out _ ahm.wr);clear bM fO ahg akp TN happ e7 aiX ahm aqf aob r5' Dv wm c5 Bl;go_wp2_with fail
       refine Hp6.out.mono ?_;rintro e w8 ⟨rfl,aoL,hg8⟩;have aha:=hid (adT.out.put hg8 aoL);clear aoL hg8 adT Hp6 c7 f7;go_wp2;go_roundw
       case rel=>
        refine⟨j+1,vs++[v],_,by go_num,by omega,hid (by rw[List.length_append,hvs.out];rfl),hid (fun q hq=>?_),hid ?_,by rw[<-List.append_assoc];exact aha⟩
        ·rcases List.mem_append.1 hq with hq | hq
         ·exact ajv.out q hq
         ·rw[List.mem_singleton.1 hq];exact hv
        ·rw[List.take_add_one,Hz.out,hzs.out,List.map_append];rfl
       case measure=>simp[intOf];omega
      ·have hzb:z<0\/65535<z:=by omega
       have bA:=hid (fun W=>Hcn.out z alY hzb W);have MX:Hid (¬∀s∈l,Gj s):=hid (fun h=>by
        have hm:=h (x,m,o) (by rw[<-Hs.out];exact List.getElem_mem hkl);obtain⟨m1,m2,m3,m4,m5,m6⟩:=hm;dsimp only at m1 m2 m3 m4 m5 m6;have hz:=Hz.out;have hw1:=Hw3.out.1 ⟨m3,m4⟩;rcases(by omega:j=0\/j=1\/j=2)with rfl | rfl | rfl
        ·simp at hz;omega
        ·simp at hz;omega
        ·simp at hz;omega)
       have lT:=hid hst.out;clear hz0 hst alY Hcy Hcn hzb Hu;go_wp2_with fail
       refine(bA.out _).mono ?_;rintro e w4 ⟨rfl,hb4⟩;have lV:=lT.out.below hb4;obtain⟨d0,d1,d2⟩:=gB lV.res;have f0:=lV.res.free 0;have f1:=lV.res.free 1;have f2:=lV.res.free 2;have aeR:=lV.low;have r4:=((lV.res.aT 0 (.slice none 0 0)).aT 1 (.slice none 0 0)).aT 2 (.slice none 0 0);simp only[List.set_cons_zero,List.set_cons_succ]at r4;obtain⟨s0,s1,s2⟩:=gB r4;have HS:=hid (⟨s0,s1,s2⟩:_/\_/\_);have HB4:=hid (((lV.bel.setCell (p:=⟨b2,0,none⟩) aeR.1 (.slice none 0 0)).setCell (p:=⟨b2,1,none⟩) aeR.1 (.slice none 0 0)).setCell (p:=⟨b2,2,none⟩) aeR.1 (.slice none 0 0));clear hb4 lV r4 s0 s1 s2 bA lT;go_wp2;obtain⟨s0,s1,s2⟩:=HS.out;refine bodyPost_ret (v:=.tuple #[.agg #[.slice none 0 0,.slice none 0 0,.slice none 0 0],.slice none 0 0,.bool false]) (by simp[results,results64,go_sem,s0,s1,s2]) rfl ⟨?_,HB4.out⟩;rw[acv.out];show mJ _ _ l;unfold mJ;rw[if_neg MX.out]
     ·have aeO:j=3:=by omega
      subst aeO;have alZ:=hzs.out;rw[show [x,z1,z2].take 3=[x,z1,z2]from rfl]at alZ;obtain⟨v0,v1,v2,hv3⟩:∃v0 v1 v2,vs=[v0,v1,v2]:=by
       match vs,hvs.out with
       | [a,b,c],_=>exact⟨a,b,c,rfl⟩
      subst hv3;simp only[List.map_cons,List.map_nil,List.cons.injEq,and_true]at alZ;obtain⟨ex,e1,e2⟩:=alZ;have b0:=ajv.out v0 (by simp);have b1:=ajv.out v1 (by simp);have hm3:=Hw3.out.2 (by omega);have hw1:=Hw3.out.1 hm3;have Tg:Hid (∀s∈l.take (k+1),Gj s):=hid (fun s hs=>by
       rw[Htk.out]at hs;rcases List.mem_append.1 hs with hs | hs
       ·exact hall.out s hs
       ·rw[List.mem_singleton.1 hs];unfold Gj;dsimp only;omega)
      have aoG:[x.toNat,(m-3).toNat,z2.toNat]=[v0,v1,v2]:=by
       rw[<-hw1,ex,e1,e2];simp
      have akm:=HN2.out;rw[aoG]at akm;have apy:Hid (CoO w wr B b2 b5 b6 b7 us (fun j=>cZ j (aP (1,2,4) (l.take (k+1)))) (aP (1,2,4) (l.take (k+1))).flatten (CF (1,2,4) (l.take (k+1)))):=hid (by
       rw[akm.1,akm.2,List.flatten_append,List.flatten_singleton];exact hst.out.congr (fun s hs=>(Yo N [v0,v1,v2] s (by simpa using hs)).symm))
      clear hst aoG akm hw1 hm3 b0 b1 ex e1 e2 hzs hvs ajv HN2 HNf Hw3 Hoz HN Htk;go_wp2;go_roundw
      case rel=>exact⟨k+1,us,by go_num,by omega,Tg,apy⟩
      case measure=>simp[intOf];omega
   ·have bA:=hid (fun W=>aaN W r.1 r.2.1 r.2.2 (x,m,o) hra hrb hrc oo ho);dsimp only at bA;have MX:Hid (¬∀s∈l,Gj s):=hid (fun h=>by
     have hm:=h (x,m,o) (by rw[<-Hs.out];exact List.getElem_mem hkl);exact ho ⟨hm.2.2.2.2.1,hm.2.2.2.2.2⟩)
    have lT:=adS;clear adS hra hrb hrc alQ ho HN2 HN Htk Hcy Hcn;generalize IntKind.i64.wrap (m-3)=z1 at *;go_wp2_with fail
    refine(bA.out _).mono ?_;rintro e w4 ⟨rfl,hb4⟩;have lV:=lT.out.below hb4;have lV:=(lV.below ((Below.refl w4.heap.size w4).alloc (Nat.le_refl _) (.cells #[.int .i64 x,.int .i64 z1,.int .i64 0] 156))).below ((Below.refl _ (w4.alloc (.cells #[.int .i64 x,.int .i64 z1,.int .i64 0] 156))).alloc (Nat.le_refl _) (.cells #[.int .i64 r.1,.int .i64 r.2.1,.int .i64 r.2.2] 157));obtain⟨d0,d1,d2⟩:=gB lV.res;have f0:=lV.res.free 0;have f1:=lV.res.free 1;have f2:=lV.res.free 2;have aeR:=lV.low;have r4:=((lV.res.aT 0 (.slice none 0 0)).aT 1 (.slice none 0 0)).aT 2 (.slice none 0 0);simp only[List.set_cons_zero,List.set_cons_succ]at r4;obtain⟨s0,s1,s2⟩:=gB r4;have HS:=hid (⟨s0,s1,s2⟩:_/\_/\_);have HB4:=hid (((lV.bel.setCell (p:=⟨b2,0,none⟩) aeR.1 (.slice none 0 0)).setCell (p:=⟨b2,1,none⟩) aeR.1 (.slice none 0 0)).setCell (p:=⟨b2,2,none⟩) aeR.1 (.slice none 0 0));clear hb4 lV r4 s0 s1 s2 bA lT;go_wp2_with fail
    generalize (w4.alloc (.cells #[.int .i64 x,.int .i64 z1,.int .i64 0] 156)).alloc (.cells #[.int .i64 r.1,.int .i64 r.2.1,.int .i64 r.2.2] 157)=wC at *;go_wp2;obtain⟨s0,s1,s2⟩:=HS.out;refine bodyPost_ret (v:=.tuple #[.agg #[.slice none 0 0,.slice none 0 0,.slice none 0 0],.slice none 0 0,.bool false]) (by simp[results,results64,go_sem,s0,s1,s2]) rfl ⟨?_,HB4.out⟩;rw[acv.out];show mJ _ _ l;unfold mJ;rw[if_neg MX.out]
  ·have hkn':k=n:=by omega
   subst hkn';have dk:decide ((k:Int)<(k:Int))=false:=decide_eq_false (by omega);have htl:l.take k=l:=by rw[Hn.out,List.take_length]
   have Tg:=hall.out;rw[htl]at Tg;have yX:=hst.out;rw[htl]at yX;have XY:=hid Tg;have Hst:=hid yX;clear hall hst Tg yX htl Hcy Hcn;obtain⟨u0,u1,u2,hus⟩:∃u0 u1 u2,us=[u0,u1,u2]:=by
    match us,Hst.out.len with
    | [a,b,c],_=>exact⟨a,b,c,rfl⟩
   subst hus;have hlo:=Hst.out.low;have o0:=Hst.out.fam.own 0 u0 rfl;have o1:=Hst.out.fam.own 1 u1 rfl;have o2:=Hst.out.fam.own 2 u2 rfl;have hpl:∀j,(cZ j (aP (1,2,4) l)).length=k:=fun j=>by rw[cZ,List.length_map,fP,Hn.out]
   rw[hpl]at o0 o1 o2;obtain⟨A0,k0,rfl,hr0,hA0⟩:=dP o0;obtain⟨A1,k1,rfl,hr1,hA1⟩:=dP o1;obtain⟨A2,k2,rfl,hr2,hA2⟩:=dP o2;have hk0:=(Cw o0).1;have hk1:=(Cw o1).1;have hk2:=(Cw o2).1;have hnl:(bG (aP (1,2,4) l).flatten).2<=100000:=by
    have h1:=vE _ (tC l (1,2,4) XY.out);rw[jf]at h1;have:=Hn.out;omega
   have Hby:=hid (kr b6 0 _ _ wr.drew (by omega) Hst.out.wr.drew);have HR:=hid (⟨hr0,hr1,hr2⟩:_/\_/\_);have HA:=hid (⟨fun a e=>(hA0 a e).1,fun a e=>(hA1 a e).1,fun a e=>(hA2 a e).1⟩:(∀a,A0=some a->B<=a.block)/\(∀a,A1=some a->B<=a.block)/\(∀a,A2=some a->B<=a.block));have HK:=hid (⟨hk0,hk1,hk2⟩:k<=k0/\k<=k1/\k<=k2);obtain⟨a0,a1,a2⟩:=gB Hst.out.all;have hbl:(dM (aP (1,2,4) l)).length=((bG (aP (1,2,4) l).flatten).2+7)/8:=by rw[dM,Bm.bytesOf_length]
   have hbe:Bm.bytesOf (bG (aP (1,2,4) l).flatten).1 (((bG (aP (1,2,4) l).flatten).2+7)/8)=dM (aP (1,2,4) l):=rfl;rw[hbe,<-hbl]at Hby;clear o0 o1 o2 hpl hr0 hr1 hr2 hA0 hA1 hA2 hk0 hk1 hk2 hnl hbl hbe;generalize hbE:dM (aP (1,2,4) l)=bE at *;have HbE:=hid hbE;clear hbE;go_upto_region 21 with fail
   refine wp_region_held_drew (S:=(fun W:World=>W.cell? ⟨b5,0,none⟩=some (.slice A0 k k0)/\W.cell? ⟨b5,1,none⟩=some (.slice A1 k k1)/\W.cell? ⟨b5,2,none⟩=some (.slice A2 k k2))) (by kernel_rfl) (by exact⟨a0,a1,a2⟩) (fun hHeld=>?_);refine wpAnyH_take (i:=0) (oi:={dst:=some 66,op:=.load 111 (.tmp 5),type:=111,pos:= "seqs.go:80",after:=#[],guard:=none}) (v:=?_) rfl (by kernel_rfl) (by kernel_rfl) (by kernel_rfl) (fun _ _ _ h=>h) (Or.inl ⟨by rfl,?_⟩) (by assumption) ?_;rotate_left
   ·(intro w hSw;(try dsimp only at hSw);go_simp;(try with_reducible rfl))
   try simp only[Act.put,List.setIfInBounds_toArray,List.set_cons_zero,List.set_cons_succ]
   refine wpAnyH_ready (rs:=[1]) (by kernel_rfl) (by simp) ?_;refine AllReadyH.cons (o:={dst:=some 67,op:=.call {callee:=.value (.func 94),args:=#[.tmp 6],argTypes:=#[155]},type:=60,pos:= "seqs.go:80",after:=#[],guard:=none}) rfl (fun K hK=>?_) AllReadyH.nil;go_simp
   (go_at_call 94;refine Hby.out.mono ?_;rintro e w8 ⟨g,rfl,hge,ajp,hb8⟩;have HX:=hid ((Below.refl wr.heap.size wr).drew.trans (hb8.mono (Nat.le_refl _)));have HR8:=hid ajp;have HG:=hid hge;clear hge ajp hb8)
   go_simp;refine hK.out _ _ (by exact gB (Hst.out.below HX.out).all) (fun hHeld=>?_);clear hK K
   try simp only[Act.put,List.setIfInBounds_toArray,List.set_cons_zero,List.set_cons_succ]
   have ahn:=Hst.out.below HX.out;obtain⟨d0,d1,d2⟩:=gB ahn.res;have f0:=ahn.res.free 0;have f1:=ahn.res.free 1;have f2:=ahn.res.free 2;have aha:=hid ahn;clear ahn;refine wpAnyH_ready (rs:=[2]) (by kernel_rfl) (by simp) ?_;refine AllReadyH.cons (o:={dst:=none,op:=.store 111 (.tmp 2) (.tmp 66),type:=0,pos:= "seqs.go:80",after:=#[{on:=0,ground:=.data},{on:=1,ground:=.chain},{on:=0,ground:=.phase},{on:=1,ground:=.textOnly Go.Departure.lateStoresUnsure}],guard:=none}) rfl (fun K hK=>?_) AllReadyH.nil;go_simp;refine hK.out _ _ (by exact gB (((aha.out.all.far (p:=⟨b2,0,none⟩) (by show b5≠b2;omega) (.slice A0 k k0)).far (p:=⟨b2,1,none⟩) (by show b5≠b2;omega) (.slice A1 k k1)).far (p:=⟨b2,2,none⟩) (by show b5≠b2;omega) (.slice A2 k k2))) (fun hHeld=>?_);clear hK K
   try simp only[Act.put,List.setIfInBounds_toArray,List.set_cons_zero,List.set_cons_succ]
   refine wpAnyH_take (i:=3) (oi:={dst:=some 3,op:=.assign (.tmp 67),type:=60,pos:= "seqs.go:80",after:=#[{on:=1,ground:=.data},{on:=2,ground:=.chain},{on:=0,ground:=.phase},{on:=1,ground:=.phase},{on:=2,ground:=.phase}],guard:=none}) (v:=?_) rfl (by kernel_rfl) (by kernel_rfl) (by kernel_rfl) (fun _ _ _ h=>h) (Or.inl ⟨by rfl,?_⟩) (by assumption) ?_;rotate_left
   ·(intro w hSw;(try dsimp only at hSw);go_simp;(try with_reducible rfl))
   try simp only[Act.put,List.setIfInBounds_toArray,List.set_cons_zero,List.set_cons_succ]
   refine wpAnyH_take (i:=4) (oi:={dst:=some 4,op:=.assign (.const (.bool true)),type:=4,pos:= "seqs.go:80",after:=#[{on:=3,ground:=.chain},{on:=0,ground:=.phase},{on:=1,ground:=.phase},{on:=2,ground:=.phase},{on:=3,ground:=.phase}],guard:=none}) (v:=?_) rfl (by kernel_rfl) (by kernel_rfl) (by kernel_rfl) (fun _ _ _ h=>h) (Or.inl ⟨by rfl,?_⟩) (by assumption) ?_;rotate_left
   ·(intro w hSw;(try dsimp only at hSw);go_simp;(try with_reducible rfl))
   try simp only[Act.put,List.setIfInBounds_toArray,List.set_cons_zero,List.set_cons_succ]
   refine wpAnyH_done (by kernel_rfl) ?_ _;have rb2:=((aha.out.res.aT 0 (.slice A0 k k0)).aT 1 (.slice A1 k k1)).aT 2 (.slice A2 k k2);simp only[List.set_cons_zero,List.set_cons_succ]at rb2;have HB9:=hid (((aha.out.bel.setCell (p:=⟨b2,0,none⟩) hlo.1 (.slice A0 k k0)).setCell (p:=⟨b2,1,none⟩) hlo.1 (.slice A1 k k1)).setCell (p:=⟨b2,2,none⟩) hlo.1 (.slice A2 k k2));have rg:Row (((w8.setCell ⟨b2,0,none⟩ (.slice A0 k k0)).setCell ⟨b2,1,none⟩ (.slice A1 k k1)).setCell ⟨b2,2,none⟩ (.slice A2 k k2)) g 5 (u8s bE):=by
    have hgb:g≠b2:=by have:=HG.out;simp at this;omega
    exact((HR8.out.far (p:=⟨b2,0,none⟩) hgb (.slice A0 k k0)).far (p:=⟨b2,1,none⟩) hgb (.slice A1 k k1)).far (p:=⟨b2,2,none⟩) hgb (.slice A2 k k2)
   have rd:∀(A:Option Addr) (cs:List Nat),(∀a,A=some a->B<=a.block)->Reads wr A (u8s cs)->Reads (((w8.setCell ⟨b2,0,none⟩ (.slice A0 k k0)).setCell ⟨b2,1,none⟩ (.slice A1 k k1)).setCell ⟨b2,2,none⟩ (.slice A2 k k2)) A (u8s cs):=fun A cs hA h=>by
    have hne:∀a,A=some a->a.block≠b2:=fun a e=>by have:=hA a e;omega
    exact kL (kL (kL (aC h HX.out) hne (dZ _ ⟨b2,0,none⟩ _)) hne (dZ _ ⟨b2,1,none⟩ _)) hne (dZ _ ⟨b2,2,none⟩ _)
   have HRD:=hid (⟨rd A0 _ HA.out.1 HR.out.1,rd A1 _ HA.out.2.1 HR.out.2.1,rd A2 _ HA.out.2.2 HR.out.2.2,bP rg⟩:_/\_/\_/\_);obtain⟨s0,s1,s2⟩:=gB rb2;have HS:=hid (⟨s0,s1,s2⟩:_/\_/\_);clear rb2 rg rd s0 s1 s2 aha Hst HX HR8 HG HR HA a0 a1 a2 d0 d1 d2 f0 f1 f2 hHeld Hby;generalize ((w8.setCell ⟨b2,0,none⟩ (.slice A0 k k0)).setCell ⟨b2,1,none⟩ (.slice A1 k k1)).setCell ⟨b2,2,none⟩ (.slice A2 k k2)=w9 at *;go_wp2;obtain⟨s0,s1,s2⟩:=HS.out;refine bodyPost_ret (v:=.tuple #[.agg #[.slice A0 k k0,.slice A1 k k1,.slice A2 k k2],.slice (some ⟨g,0,none⟩) bE.length bE.length,.bool true]) (by simp[results,results64,go_sem,s0,s1,s2]) rfl ⟨?_,HB9.out⟩;rw[acv.out];show mJ _ _ l;unfold mJ;rw[if_pos XY.out,<-Hn.out,HbE.out];exact⟨A0,k0,A1,k1,A2,k2,some ⟨g,0,none⟩,bE.length,rfl,HK.out.1,HK.out.2.1,HK.out.2.2,HRD.out.1,HRD.out.2.1,HRD.out.2.2.1,HRD.out.2.2.2⟩
end Go.Proofs.YtaebnkeddcbmkaaGreat
