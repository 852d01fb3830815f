/- Contracts. -/
import Derived.Test.YtgiicohbigiapaaGreatOaf
import Derived.Test.YtgiicohbigiapaaGreatOak
import Derived.Test.YtgiicohbigiapaaGreatOz1
import Derived.Test.YtgiicohbigiapaaGreatOz0
set_option maxHeartbeats 4000000
set_option maxRecDepth 100000
open Go.Proofs.Tryz Go.Proofs.YtgiicohbigiapaaGreat.am List Nat Option
namespace Go.Proofs.YtgiicohbigiapaaGreat
open Go.RowKit
theorem four(w:ah)(t0 t1 t2 t3:TypeId)(k9 cb cR ql:b1):∃W bF bP bw eg,(((w.alloc (.cells k9.toArray t0)).alloc (.cells cb.toArray t1)).alloc (.cells cR.toArray t2)).alloc (.cells ql.toArray t3)=W /\
  w.heap.size=bF/\w.heap.size+1=bP/\w.heap.size+1+1=bw/\w.heap.size+1+1+1=eg/\Row W bF t0 k9/\Row W bP t1 cb/\Row W bw t2 cR/\Row W eg t3 ql/\av w W:=by
 have ao:=Row.new w t0 k9;have h1:=Row.new (w.alloc (.cells k9.toArray t0)) t1 cb;have af:=Row.new ((w.alloc (.cells k9.toArray t0)).alloc (.cells cb.toArray t1)) t2 cR;have aq:=Row.new (((w.alloc (.cells k9.toArray t0)).alloc (.cells cb.toArray t1)).alloc (.cells cR.toArray t2)) t3 ql;have bh:(w.alloc (.cells k9.toArray t0)).heap.size=w.heap.size+1:=by simp
 have bN:((w.alloc (.cells k9.toArray t0)).alloc (.cells cb.toArray t1)).heap.size=w.heap.size+1+1:=by simp
 have en:(((w.alloc (.cells k9.toArray t0)).alloc (.cells cb.toArray t1)).alloc (.cells cR.toArray t2)).heap.size=w.heap.size+1+1+1:=by simp
 rw[bh]at h1;rw[bN]at af;rw[en]at aq;exact⟨_,_,_,_,_,rfl,rfl,rfl,rfl,rfl,((ao.alloc _).alloc _).alloc _,(h1.alloc _).alloc _,af.alloc _,aq,
  ((((Below.refl w.heap.size w).alloc bl _).alloc (by simp) _).alloc (by simp;omega) _).alloc (by simp;omega) _⟩
theorem Yg(w:ah)(l m o a b c n p q y oW:Int)(ok:Bool)(hm:IntKind.i64.wrap (m-3)=oW)
  (jr:∀W,Calls prog 129 #[.agg #[.int .i64 a,.int .i64 b,.int .i64 c],.int .i64 o] W λe w'=>e=.returned (.tuple #[.int .i64 n,.agg #[.int .i64 p,.int .i64 q,.int .i64 y],.bool ok])/\av W w') :
  Calls prog 97 #[.agg #[.int .i64 l,.int .i64 m,.int .i64 o],.agg #[.int .i64 a,.int .i64 b,.int .i64 c]] w λe w'=>e=.returned (.tuple #[.agg #[.int .i64 l,.int .i64 oW,.int .i64 n],.agg #[.int .i64 p,.int .i64 q,.int .i64 y],.bool ok])/\av w w':=by
 have cU:=I jr;obtain⟨W,bF,bP,bw,eg,bk,e0,aG,e2,e3,gK,gE,c9,hr,hbel⟩:=four w 118 154 30 154 [.int .i64 l,.int .i64 m,.int .i64 o] [.int .i64 a,.int .i64 b,.int .i64 c] [.int .i64 0,.int .i64 0,.int .i64 0] [.int .i64 0,.int .i64 0,.int .i64 0];have cj:=I hm;have kB:=I bk;have e7:=I (⟨e0,aG,e2,e3⟩:_/\_/\_/\_);have bj:=I (⟨gK,c9,hr,hbel⟩:_/\_/\_/\_);clear bk e0 aG e2 e3 gK gE c9 hr hbel hm;go_enter func97,ntmps97
 go_wp2_with fail
 rw[kB.out,e7.out.2.2.2,e7.out.2.2.1,e7.out.2.1,e7.out.1];have yu:bF<bw/\bw<eg/\w.heap.size<=bw:=by have:=e7.out;omega
 refine(cU.out W).mono ?_;rintro e aC ⟨rfl,aJ⟩;obtain⟨gK,c9,hr,hbel⟩:=bj.out;have gK:=(gK.below aJ).alloc (.cells #[.int .i64 p,.int .i64 q,.int .i64 y] 154);have c9:=(c9.below aJ).alloc (.cells #[.int .i64 p,.int .i64 q,.int .i64 y] 154);have L6:=(hr.below aJ).lt;have hr:=(hr.below aJ).alloc (.cells #[.int .i64 p,.int .i64 q,.int .i64 y] 154);have hbel:=hbel.trans (aJ.mono hbel.size);have iz:=Row.new aC 154 [.int .i64 p,.int .i64 q,.int .i64 y];obtain⟨pm,bc⟩:∃pm,aC.heap.size=pm:=⟨_,rfl⟩;have hbel:=hbel.alloc hbel.size (.cells #[.int .i64 p,.int .i64 q,.int .i64 y] 154);have dt:=I bc;rw[bc]at iz L6;have eb:=I hbel;have lE:=I gK;have dN:=I c9;have hD:=I hr;have ot:=I iz;clear cU aJ hbel gK c9 hr iz bc;have em:=cj.out;go_wp2_with fail
 rw[dt.out];obtain⟨c0,c1,c2⟩:=dz lE.out;obtain⟨c3,c4,c5⟩:=dz ot.out;have f0:=dN.out.free 0;have f1:=dN.out.free 1;have f2:=dN.out.free 2;have f3:=hD.out.free 0;have f4:=hD.out.free 1;have f5:=hD.out.free 2;obtain⟨d0,d1,d2⟩:=dz dN.out;obtain⟨d3,d4,d5⟩:=dz hD.out;have b2:bw≠eg:=by omega
 have bU:eg≠bw:=by omega
 have G7:bF≠bw:=by omega
 have wY:bF≠eg:=by omega
 have G8:pm≠bw:=by omega
 have G9:pm≠eg:=by omega
 generalize (aC.alloc (.cells #[.int .i64 p,.int .i64 q,.int .i64 y] 154))=vA at *;go_region
 have z2:=(((((dN.out.bq 0 (.int .i64 l)).bq 1 (.int .i64 oW)).bq 2 (.int .i64 n)).cG (p:=⟨eg,0,none⟩) b2 (.int .i64 p)).cG (p:=⟨eg,1,none⟩) b2 (.int .i64 q)).cG (p:=⟨eg,2,none⟩) b2 (.int .i64 y);have z3:=(((((hD.out.cG (p:=⟨bw,0,none⟩) bU (.int .i64 l)).cG (p:=⟨bw,1,none⟩) bU (.int .i64 oW)).cG (p:=⟨bw,2,none⟩) bU (.int .i64 n)).bq 0 (.int .i64 p)).bq 1 (.int .i64 q)).bq 2 (.int .i64 y);have lF:=I ((((((eb.out.setCell (p:=⟨bw,0,none⟩) yu.2.2 (.int .i64 l)).setCell (p:=⟨bw,1,none⟩) yu.2.2 (.int .i64 oW)).setCell (p:=⟨bw,2,none⟩) yu.2.2 (.int .i64 n)).setCell (p:=⟨eg,0,none⟩) (by show w.heap.size<=eg;omega) (.int .i64 p)).setCell (p:=⟨eg,1,none⟩) (by show w.heap.size<=eg;omega) (.int .i64 q)).setCell (p:=⟨eg,2,none⟩) (by show w.heap.size<=eg;omega) (.int .i64 y)).drew;simp only[set_cons_zero,set_cons_succ]at z2 z3;obtain⟨x0,iQ,iD⟩:=dz z2;obtain⟨kP,j0,ke⟩:=dz z3;have ck:=I (⟨x0,iQ,iD,kP,j0,ke⟩:_/\_/\_/\_/\_/\_);clear c0 c1 c2 c3 c4 c5 f0 f1 f2 f3 f4 f5 d0 d1 d2 d3 d4 d5 x0 iQ iD kP j0 ke z2 z3 b2 bU G7 wY G8 G9;generalize ((((((vA.setCell ⟨bw,0,none⟩ (.int .i64 l)).setCell ⟨bw,1,none⟩ (.int .i64 oW)).setCell ⟨bw,2,none⟩ (.int .i64 n)).setCell ⟨eg,0,none⟩ (.int .i64 p)).setCell ⟨eg,1,none⟩ (.int .i64 q)).setCell ⟨eg,2,none⟩ (.int .i64 y))=qw at *;go_wp2;obtain⟨x0,iQ,iD,kP,j0,ke⟩:=ck.out;exact bodyPost_ret (by simp[results,results97,go_sem,x0,iQ,iD,kP,j0,ke]) rfl ⟨rfl,lF.out⟩
theorem Yj(w:ah)(l m o a b c n p q y oW:Int)(ok:Bool)(hm:IntKind.i64.wrap (m+3)=oW)
  (jr:∀W,Calls prog 187 #[.agg #[.int .i64 a,.int .i64 b,.int .i64 c],.int .i64 o] W λe w'=>e=.returned (.tuple #[.int .i64 n,.agg #[.int .i64 p,.int .i64 q,.int .i64 y],.bool ok])/\av W w') :
  Calls prog 150 #[.agg #[.int .i64 l,.int .i64 m,.int .i64 o],.agg #[.int .i64 a,.int .i64 b,.int .i64 c]] w λe w'=>e=.returned (.tuple #[.agg #[.int .i64 l,.int .i64 oW,.int .i64 n],.agg #[.int .i64 p,.int .i64 q,.int .i64 y],.bool ok])/\av w w':=by
 have cU:=I jr;obtain⟨W,bF,bP,bw,eg,bk,e0,aG,e2,e3,gK,gE,c9,hr,hbel⟩:=four w 30 154 118 154 [.int .i64 l,.int .i64 m,.int .i64 o] [.int .i64 a,.int .i64 b,.int .i64 c] [.int .i64 0,.int .i64 0,.int .i64 0] [.int .i64 0,.int .i64 0,.int .i64 0];have cj:=I hm;have kB:=I bk;have e7:=I (⟨e0,aG,e2,e3⟩:_/\_/\_/\_);have bj:=I (⟨gK,c9,hr,hbel⟩:_/\_/\_/\_);clear bk e0 aG e2 e3 gK gE c9 hr hbel hm;go_enter func150,ntmps150
 go_wp2_with fail
 rw[kB.out,e7.out.2.2.2,e7.out.2.2.1,e7.out.2.1,e7.out.1];have yu:bF<bw/\bw<eg/\w.heap.size<=bw:=by have:=e7.out;omega
 refine(cU.out W).mono ?_;rintro e aC ⟨rfl,aJ⟩;obtain⟨gK,c9,hr,hbel⟩:=bj.out;have gK:=(gK.below aJ).alloc (.cells #[.int .i64 p,.int .i64 q,.int .i64 y] 154);have c9:=(c9.below aJ).alloc (.cells #[.int .i64 p,.int .i64 q,.int .i64 y] 154);have L6:=(hr.below aJ).lt;have hr:=(hr.below aJ).alloc (.cells #[.int .i64 p,.int .i64 q,.int .i64 y] 154);have hbel:=hbel.trans (aJ.mono hbel.size);have iz:=Row.new aC 154 [.int .i64 p,.int .i64 q,.int .i64 y];obtain⟨pm,bc⟩:∃pm,aC.heap.size=pm:=⟨_,rfl⟩;have hbel:=hbel.alloc hbel.size (.cells #[.int .i64 p,.int .i64 q,.int .i64 y] 154);have dt:=I bc;rw[bc]at iz L6;have eb:=I hbel;have lE:=I gK;have dN:=I c9;have hD:=I hr;have ot:=I iz;clear cU aJ hbel gK c9 hr iz bc;have em:=cj.out;go_wp2_with fail
 rw[dt.out];obtain⟨c0,c1,c2⟩:=dz lE.out;obtain⟨c3,c4,c5⟩:=dz ot.out;have f0:=dN.out.free 0;have f1:=dN.out.free 1;have f2:=dN.out.free 2;have f3:=hD.out.free 0;have f4:=hD.out.free 1;have f5:=hD.out.free 2;obtain⟨d0,d1,d2⟩:=dz dN.out;obtain⟨d3,d4,d5⟩:=dz hD.out;have b2:bw≠eg:=by omega
 have bU:eg≠bw:=by omega
 have G7:bF≠bw:=by omega
 have wY:bF≠eg:=by omega
 have G8:pm≠bw:=by omega
 have G9:pm≠eg:=by omega
 generalize (aC.alloc (.cells #[.int .i64 p,.int .i64 q,.int .i64 y] 154))=vA at *;go_region
 have z2:=(((((dN.out.bq 0 (.int .i64 l)).bq 1 (.int .i64 oW)).bq 2 (.int .i64 n)).cG (p:=⟨eg,0,none⟩) b2 (.int .i64 p)).cG (p:=⟨eg,1,none⟩) b2 (.int .i64 q)).cG (p:=⟨eg,2,none⟩) b2 (.int .i64 y);have z3:=(((((hD.out.cG (p:=⟨bw,0,none⟩) bU (.int .i64 l)).cG (p:=⟨bw,1,none⟩) bU (.int .i64 oW)).cG (p:=⟨bw,2,none⟩) bU (.int .i64 n)).bq 0 (.int .i64 p)).bq 1 (.int .i64 q)).bq 2 (.int .i64 y);have lF:=I ((((((eb.out.setCell (p:=⟨bw,0,none⟩) yu.2.2 (.int .i64 l)).setCell (p:=⟨bw,1,none⟩) yu.2.2 (.int .i64 oW)).setCell (p:=⟨bw,2,none⟩) yu.2.2 (.int .i64 n)).setCell (p:=⟨eg,0,none⟩) (by show w.heap.size<=eg;omega) (.int .i64 p)).setCell (p:=⟨eg,1,none⟩) (by show w.heap.size<=eg;omega) (.int .i64 q)).setCell (p:=⟨eg,2,none⟩) (by show w.heap.size<=eg;omega) (.int .i64 y)).drew;simp only[set_cons_zero,set_cons_succ]at z2 z3;obtain⟨x0,iQ,iD⟩:=dz z2;obtain⟨kP,j0,ke⟩:=dz z3;have ck:=I (⟨x0,iQ,iD,kP,j0,ke⟩:_/\_/\_/\_/\_/\_);clear c0 c1 c2 c3 c4 c5 f0 f1 f2 f3 f4 f5 d0 d1 d2 d3 d4 d5 x0 iQ iD kP j0 ke z2 z3 b2 bU G7 wY G8 G9;generalize ((((((vA.setCell ⟨bw,0,none⟩ (.int .i64 l)).setCell ⟨bw,1,none⟩ (.int .i64 oW)).setCell ⟨bw,2,none⟩ (.int .i64 n)).setCell ⟨eg,0,none⟩ (.int .i64 p)).setCell ⟨eg,1,none⟩ (.int .i64 q)).setCell ⟨eg,2,none⟩ (.int .i64 y))=qw at *;go_wp2;obtain⟨x0,iQ,iD,kP,j0,ke⟩:=ck.out;exact bodyPost_ret (by simp[results,results150,go_sem,x0,iQ,iD,kP,j0,ke]) rfl ⟨rfl,lF.out⟩
theorem aoM(w:ah)(a b c:Int)(s:eS)(aV:hv a)(ak:hv b)(hc:hv c)(ap:1<=s.2.2/\s.2.2<=65533) :
  Calls prog 97 #[.agg #[.int .i64 s.1,.int .i64 s.2.1,.int .i64 s.2.2],.agg #[.int .i64 a,.int .i64 b,.int .i64 c]] w λe w'=>
   e=.returned (.tuple #[.agg #[.int .i64 s.1,.int .i64 (IntKind.i64.wrap (s.2.1-3)),.int .i64 (hb a b c s.2.2)],.agg #[.int .i64 (hn a b c s.2.2).1,.int .i64 (hn a b c s.2.2).2.1,.int .i64 (hn a b c s.2.2).2.2],.bool true])/\av w w':=
 Yg w s.1 s.2.1 s.2.2 a b c _ _ _ _ _ true rfl λW=>(Na W a b c s.2.2 aV ak hc (by unfold hv;omega)).mono λe w' ⟨h1,_,aq⟩=>⟨h1 (Hd a b c s.2.2 ap.1 ap.2).1,aq⟩
theorem aoL(w:ah)(a b c:Int)(s:eS)(aV:hv a)(ak:hv b)(hc:hv c)(b9:hv s.2.2)(ap:¬(1<=s.2.2/\s.2.2<=65533)) :
  Calls prog 97 #[.agg #[.int .i64 s.1,.int .i64 s.2.1,.int .i64 s.2.2],.agg #[.int .i64 a,.int .i64 b,.int .i64 c]] w λe w'=>
   e=.returned (.tuple #[.agg #[.int .i64 s.1,.int .i64 (IntKind.i64.wrap (s.2.1-3)),.int .i64 0],.agg #[.int .i64 a,.int .i64 b,.int .i64 c],.bool false])/\av w w':=
 Yg w s.1 s.2.1 s.2.2 a b c _ _ _ _ _ false rfl λW=>(Na W a b c s.2.2 aV ak hc b9).mono λe w' ⟨_,af,aq⟩=>⟨af (by unfold hb;rw[aB (by omega)];omega),aq⟩
theorem ao0(w:ah)(a b c x:Int)(l m o:Nat)(aV:hv a)(ak:hv b)(hc:hv c)(hm:m<=65535)(b9:o<=65535)(ai:jW a b c (o:Int)=some x) :
  Calls prog 150 #[.agg #[.int .i64 l,.int .i64 m,.int .i64 o],.agg #[.int .i64 a,.int .i64 b,.int .i64 c]] w λe w'=>
   e=.returned (.tuple #[.agg #[.int .i64 l,.int .i64 ((m+3:Nat):Int),.int .i64 x],.agg #[.int .i64 (hn a b c x).1,.int .i64 (hn a b c x).2.1,.int .i64 (hn a b c x).2.2],.bool true])/\av w w':=
 Yj w l m o a b c _ _ _ _ _ true (by rw[IntWalk.i64_in _ (by omega)];omega) λW=>(WN W a b c o aV ak hc (by unfold hv;omega)).mono λe w' ⟨h1,_,aq⟩=>⟨h1 x ai,aq⟩
theorem aoZ(w:ah)(a b c:Int)(l m o:Nat)(aV:hv a)(ak:hv b)(hc:hv c)(hm:m<=65535)(b9:o<=65535)(ai:jW a b c (o:Int)=none) :
  Calls prog 150 #[.agg #[.int .i64 l,.int .i64 m,.int .i64 o],.agg #[.int .i64 a,.int .i64 b,.int .i64 c]] w λe w'=>
   e=.returned (.tuple #[.agg #[.int .i64 l,.int .i64 ((m+3:Nat):Int),.int .i64 0],.agg #[.int .i64 a,.int .i64 b,.int .i64 c],.bool false])/\av w w':=
 Yj w l m o a b c _ _ _ _ _ false (by rw[IntWalk.i64_in _ (by omega)];omega) λW=>(WN W a b c o aV ak hc (by unfold hv;omega)).mono λe w' ⟨_,af,aq⟩=>⟨af ai,aq⟩
namespace am
def sy(l:ae):Nat:=l.foldl (λa c=>a*256+c) 0
theorem XE(l:ae)(c:Nat):sy (l++[c])=sy l*256+c:=by simp[sy]
theorem NL:∀(k:Nat) (l:ae),l.length=k->(∀x∈l,x<256)->sy l<256^k
|0,l,hl,_=>by rw[lf hl];simp[sy]
|k+1,l,hl,h=>by
  have aZ:l≠[]:=λe=>by rw[e]at hl;simp at hl
  have e:=dropLast_concat_getLast aZ;have h1:=NL k l.dropLast (by simp[hl]) (λx ai=>h x (dropLast_subset _ ai));have af:=h _ (getLast_mem aZ);rw[<-e,XE,ea];omega
end am
theorem anF(x c:Nat)(ai:x<16777216)(hc:c<256):bits .or .i64 ((x:Int)*256) (c:Int)=((x*256+c:Nat):Int):=by
 have e:(x:Int)*256=((x*256:Nat):Int):=by simp
 have b9:x*256 ||| c=x*256+c:=by
  have:=yV 8 c x hc;rw[Nat.or_comm,this,Nat.add_comm]
 rw[e];show IntKind.i64.wrap (((BitVec.ofInt 64 ((x*256:Nat):Int)) ||| (BitVec.ofInt 64 (c:Int))).toNat:Int)=_;rw[BitVec.ofInt_natCast,BitVec.ofInt_natCast,BitVec.toNat_or,BitVec.toNat_ofNat,BitVec.toNat_ofNat,mod_eq_of_lt (by omega),mod_eq_of_lt (by omega),b9];exact IntWalk.i64_in _ (by omega)
theorem aag(b n:Nat)(T:ae)(w:ah)(au:∀x∈T,x<256)(cq:T.length<=2000)(aA:n+3<=T.length)(hc:w.cell? ⟨b,0,none⟩=some (.string (strOf T))) :
  Calls prog 127 #[.pointer (some ⟨b,0,none⟩),.int .i64 n] w λe w'=>e=.returned (.int .i64 (k8 T n))/\av w w':=by
 obtain⟨l,hl⟩:∃l,l=am.three T n:=⟨_,rfl⟩;have wF:l.length=3:=by rw[hl,O2 T n aA];rfl
 have u6:∀x∈l,x<256:=by rw[hl];exact jh (pN au _) _
 have axd:∀W:ah,(Instr.slice 9 (.string (strOf T)) (some (.int .i64 n)) (some (.int .i64 ((n:Int)+3))) none).run prog W=.ok (.string (strOf l)) W:=λW=>by
  have h:=Zr T n (n+3) (by omega) aA W;rw[Int.natCast_add]at h;rw[hl];exact h
 obtain⟨aC,cap,dS,hcells,aJ⟩:=nW w l u6;have sT:=I hcells;have bm:=I aJ;have ce:=I u6;have b4:Hid (k8 T n=sy l%2003):=I (by rw[hl];rfl);have Io:=I wF;rw[wF]at dS;generalize strOf T=ss at *;clear hl wF u6 au hcells aJ;obtain⟨g,aF⟩:∃g,g=w.heap.size:=⟨_,rfl⟩;rw[<-aF]at dS sT;clear aF;go_enter func127,ntmps127
 go_wp2;go_loopw [5,18] (λO7 iy wr=>∃k:Nat,k<=3/\iy=.int .i64 k/\O7=.int .i64 (sy (l.take k):Int)/\Hid (wr=aC)) (λ_ iy _=>3-(intOf iy).toNat)
 case atStart=>exact⟨0,by omega,rfl,rfl,I rfl⟩
 case round=>
  obtain⟨k,hk,rfl,rfl,hw⟩:=hrel;have lw:=hw.out;subst lw;clear hw;by_cases kq:k<3
  .have a8:k<l.length:=by rw[Io.out];exact kq
   have c1:=sT.out k a8;have ap:=XE (l.take k) l[k];rw[<-fY a8]at ap;have aD:=NL k (l.take k) (by rw[cr];omega) (λx ai=>ce.out x (mem_of_mem_take ai));have n6:(256:Nat)^k<=256^2:=dy (by omega) (by omega);have ai:=ce.out l[k] (b8 a8);have ca:=I ap;clear ap;have AP:sy (l.take k)<65536:=by omega
   clear aD n6;generalize sy (l.take k)=v at *;generalize l[k]'a8=x at *;have b9:=anF v x (by omega) ai;go_wp2;go_roundw
   case rel=>exact⟨k+1,by omega,by go_num,by rw[ca.out];simp,I (by first|rfl|trivial)⟩
   case measure=>simp[intOf];omega
  .obtain rfl:k=3:=by omega
   have e3:l.take 3=l:=take_of_length_le (by rw[Io.out];exact Nat.le_refl _);rw[e3];have fg:=I (show(k8 T n:Int)=(sy l:Int)%2003 by rw[b4.out];simp);have aD:=NL 3 l Io.out ce.out;clear e3;generalize sy l=v at *;go_wp2;go_ret;rw[fg.out];exact⟨rfl,bm⟩
theorem Sz(k:Nat)(hk:k<256):([]:ae)++am.bytesOf k (fO 1)=[k]:=by
 rw[show fO 1=1 by decide,nil_append];simp[am.bytesOf];omega
theorem Ns(k:Nat)(s:ae)(w:ah)(hk:k<256)(ap:s.length<=10000000) :
  Calls prog 66 #[.int .u64 k,.string (strOf s)] w λe w'=>e=.returned (.pointer (some ⟨w.heap.size,0,none⟩))/\fH w' w.heap.size (k::bg s.length)/\av w w':=by
 have bB:=cy s;have pf:=I (fH.new w);have e6:=I ((Below.refl w.heap.size w).alloc bl (.cells #[.pointer none,.int .i64 0] 62));have aL:=λW b h=>HV b k 1 [] W (by omega) (by omega) (by omega) (by simp) h
 rw[Sz k hk]at aL;have br:=I aL;have jb:=I (λW b h=>Bh b s.length [k] W (by omega) (by simp) h);clear aL;have hle:(s.length:Int)<=10000000:=by omega
 generalize strOf s=str at *;go_enter func66,ntmps66
 go_wp2_with fail
 refine(br.out _ _ pf).mono ?_;rintro e aw ⟨rfl,bM,a1⟩;have aN:=I (e6.out.trans (below_grown a1 bl e6.out.size));have dm:=I (jb.out aw _ bM);clear bM a1;go_wp2_with fail
 refine dm.out.mono ?_;rintro e aC ⟨rfl,c8,bp⟩;go_wp2;go_ret;exact⟨rfl,c8,aN.out.trans (below_grown bp bl aN.out.size)⟩
theorem amA(s:ae)(w:ah)(ap:s.length<=10000000)(au:∀x∈s,x<256) :
  Calls prog 67 #[.string (strOf s)] w λe w'=>e=.returned (.string (strOf (q4 s)))/\av w w':=by
 have lE:Calls prog 66 #[.int .u64 0,.string (strOf s)] w _:=Ns 0 s w (by decide) ap;have ca:=I lE;have AN:=lP s.length (by omega);have bj:=I (λW b h=>tR b (0::bg s.length) s W (by rw[bY];omega) h);have fK:=I (λW b h=>vC b ((0::bg s.length)++s) W (by rw[aY,bY];omega) (Be 0 s.length s (by decide) (by omega) au) h);clear au ap AN;have e0:(0::bg s.length)++s=q4 s:=rfl;rw[e0]at bj fK;generalize q4 s=R at *;generalize strOf R=axF at *;generalize strOf s=str at *;go_enter func67,ntmps67
 go_wp2_with fail
 refine ca.out.mono ?_;rintro e aw ⟨rfl,bM,aH⟩;have aN:=I aH;have fw:=I (bj.out aw _ bM);clear bM aH;go_wp2_with fail
 refine fw.out.mono ?_;rintro e aC ⟨rfl,c8,bp⟩;have bm:=I (aN.out.trans (below_grown bp bl aN.out.size));have gQ:=I (fK.out aC _ c8);clear c8 bp;go_wp2_with fail
 refine gQ.out.mono ?_;rintro e a6 ⟨rfl,bA⟩;have b6:=b3 bm bA;clear bA;go_wp2;go_ret;exact⟨rfl,b6⟩
theorem anh(A:a7)(c:Nat)(bs:ae)(w:ah)(hl:bs.length<=1000000)(au:∀x∈bs,x<256)(aj:Reads w A (aO bs)) :
  Calls prog 64 #[.slice A bs.length c] w λe w'=>∃da db,e=.returned (.slice da (eL bs) db)/\(Reads w' da (aM (il bs))/\∀a,da=some a->w.heap.size<=a.block)/\av w w':=by
 rcases eq_zero_or_pos bs.length with ao|ao
 .have ak:bs=[]:=lf ao;subst ak;go_enter func64,ntmps64
  go_wp2;go_ret;exact⟨none,0,rfl,⟨λh=>absurd rfl h,λa h=>by cases h⟩,Below.refl _ _⟩
 have aQ:((bs.length:Int)==0)=false:=cz
 obtain⟨i0,ay,bC,bL,bz⟩:=info_parts oa;have bj:=I aj;have ce:=I au;have cq:=tP bs au;have Lq:=HR bs (by intro e;rw[e]at ao;simp at ao);have Jb:=I (Xz A c bs w (by omega) ao au aj);clear aj au;obtain⟨g0,hJ⟩:∃g,g=w.heap.size:=⟨_,rfl⟩;have fJ:=I hJ;obtain⟨T,uL⟩:∃T,T=eL bs:=⟨_,rfl⟩;have xl:=I uL;have Jc:Hid (Calls prog 105 #[.slice A bs.length c] w λe w'=>e=.returned (.int .u8 ((T:Int)-1))/\w=w'):=I (by rw[uL];exact Jb);rw[<-uL]at cq Lq ⊢;clear hJ uL;go_enter func64,ntmps64
 go_wp2_with fail
 refine Jc.out.mono ?_;rintro e w' ⟨rfl,rfl⟩;have aG:((T:Int)-1)+1=(T:Int):=by omega
 go_wp2_with (at_make;refine wpList_make_full _ rfl _ _ 112 rfl w.heap.size 3 i0 (.int .i64 0) 1 underlying112 ay bC bL .i64 .i64 _ _ T rfl rfl ?c1 ?c1 ?c2 ?c3 ?c4 ?_)
 case c1=>omega
 case c2=>first|omega|(rw[bz];omega)
 case c3=>unfold maxLen;omega
 try case c4=>exact Nat.le_refl _
 intro aw hown1 a1;have aH:=kZ a1;have cg:=tK hown1;rw[<-fJ.out]at cg ⊢;have aN:=I aH;rw[xl.out,<-RW]at cg;have fw:=I cg;clear hown1 a1 aH cg ay bC bL bz aG aQ;go_wp2;go_loopw [16] (λi wr=>∃k:Nat,k<=bs.length/\i=.int .i64 k/\Hid (Row wr g0 3 (aM (nr bs k)))/\Hid (av w wr)) (λi _=>bs.length-(intOf i).toNat)
 case atStart=>exact⟨0,by omega,rfl,fw,aN⟩
 case round=>
  obtain⟨k,hk,rfl,hrow,hbel⟩:=hrel;by_cases a8:k<bs.length
  .have aZ:bs≠[]:=by intro e;rw[e]at a8;simp at a8
   obtain⟨g,off,rfl,hc⟩:=m9 (c7 bj.out hbel) aZ;have c0:=hc k a8;have ak:=ce.out bs[k] (b8 a8);have C0:bs[k]<T:=by rw[xl.out];exact w8 bs _ (b8 a8)
   have fh:(bs.take k).count bs[k]<=bs.length:=dl count_le_length (by rw[cr];omega);have hcell:=hrow.out.cell bs[k];have mT:=RU bs k bs[k] (by rw[<-xl.out];exact C0);simp only[aM,getElem?_map,mT,map_some]at hcell;have hfree:=hrow.out.free bs[k];have b0:=I (RV bs k a8);clear hc mT;generalize (bs.take k).count bs[k]=q at fh hcell b0;generalize bs[k]=b at c0 ak C0 hcell hfree b0;go_wp2;go_roundw
   case rel=>
    refine⟨k+1,by omega,by go_num,I ?_,I (hbel.out.setCell (by rw[fJ.out];exact Nat.le_refl _) _)⟩;rw[b0.out];have h1:=hrow.out.bq b (.int .i64 ((q:Int)+1));rw[show aM ((nr bs k).set b (q+1))=(aM (nr bs k)).set b (.int .i64 ((q:Int)+1)) by simp[aM,map_set]];exact h1
   case measure=>simp[intOf];omega
  .obtain rfl:k=bs.length:=by omega
   rw[RT]at hrow;go_wp2;go_ret;exact⟨some ⟨g0,0,none⟩,T,rfl,⟨og hrow,λa e=>by injection e with e;rw[<-e];exact Nat.le_of_eq fJ.out.symm⟩,hbel⟩
namespace am
theorem Oo(l:List Int)(h:Right l):∃ag:ae,l=ag.map (λn:Nat=>(n:Int))/\l.map Int.toNat=ag/\ag.length=l.length/\(∀x∈ag,x<=1048576)/\ag.length<=256/\ld ag=gv l/\0<ag.sum:=by
 have hl:l=(l.map Int.toNat).map (λn:Nat=>(n:Int)):=by
  rw[List.map_map];conv=>lhs;rw[<-List.map_id l]
  apply map_congr_left
  intro x ai;have:=h.2.1 x ai;simp only[Function.comp_apply,id];omega
 refine⟨l.map Int.toNat,hl,rfl,by simp,?_,by simpa using h.1,?_,?_⟩
 .intro x ai;obtain⟨y,hy,rfl⟩:=List.mem_map.1 ai;have:=h.2.1 y hy;omega
 .unfold ld gv;rw[countP_map];apply countP_congr
  intro x _;simp
 .obtain⟨x,ai,ao⟩:=h.2.2;have h1:=Xg (l.map Int.toNat) x.toNat (List.mem_map_of_mem ai);omega
theorem arR(ag:ae):(ag.map (λn:Nat=>(n:Int))).sum=((ag.sum:Nat):Int):=by
 induction ag with
|nil=>simp
|cons a l ih=>rw[map_cons,sum_cons,ih,sum_cons];omega
theorem amu(sym q:Nat):su sym q=if max (4*sym) q<=32 then 5 else if max (4*sym) q<=64 then 6 else if max (4*sym) q<=128 then 7 else if max (4*sym) q<=256 then 8 else 9:=by
 unfold su;simp only[Nat.max_le]
theorem amv(sym q b:Nat)(aT:5<=b)(h:b<=su sym q):b<su sym q↔b<9/\2^b<max (4*sym) q:=by
 rw[amu]at h ⊢;generalize max (4*sym) q=M at h ⊢;have dh:b<=9:=by
  by_cases h1:M<=32
  .rw[aB h1]at h;omega
  rw[az h1]at h;by_cases af:M<=64
  .rw[aB af]at h;omega
  rw[az af]at h;by_cases aq:M<=128
  .rw[aB aq]at h;omega
  rw[az aq]at h;by_cases aK:M<=256
  .rw[aB aK]at h;omega
  rw[az aK]at h;omega
 have ak:b=5/\2^b=32\/b=6/\2^b=64\/b=7/\2^b=128\/b=8/\2^b=256\/b=9/\2^b=512:=by
  have ak:b=5\/b=6\/b=7\/b=8\/b=9:=by omega
  rcases ak with rfl|rfl|rfl|rfl|rfl<;>decide
 generalize 2^b=P at ak ⊢;by_cases h1:M<=32
 .rw[aB h1]at h ⊢;omega
 rw[az h1]at h ⊢;by_cases af:M<=64
 .rw[aB af]at h ⊢;omega
 rw[az af]at h ⊢;by_cases aq:M<=128
 .rw[aB aq]at h ⊢;omega
 rw[az aq]at h ⊢;by_cases aK:M<=256
 .rw[aB aK]at h ⊢;omega
 rw[az aK]at h ⊢;omega
end am
theorem anf:aao:=by
 intro A c l w hl cV aj;have jL:=I (NI A c l w (by omega) aj);by_cases h:am.Right l
 .have bx:q5 l=true:=bE h;rw[bx]at jL;obtain⟨ag,hcs,hcs2,hlen,hm,Av,hpos,ao⟩:=Oo l h;have hsum:=OW ag 1048576 hm;have ju:=I (Hc A c l w (by omega) aj);have bS:Reads w A (aM ag):=by rw[<-jF,<-hcs];exact aj
  have lX:=NK A c ag w (by omega) (by omega) bS;rw[hlen]at lX;have Ch:=I lX;have mw:e9 l=su (gv l) (ag.sum/8):=by
   unfold e9;rw[aB h];congr 2
   rw[hcs,arR,cX]
  have fQ:=HM l;rw[mw];clear mw lX bS hpos hcs2 hm bx h aj cV;generalize gv l=cM at fQ ju ⊢;generalize ag.sum=S at hsum Ch ao ⊢;have hmx:max (4*(cM:Int)) ((S:Int)/8)=((max (4*cM) (S/8):Nat):Int):=by omega
  have aiI:max (4*cM) (S/8)<=1000000000:=by omega
  have pX:=I (λb aT ak=>amv cM (S/8) b aT ak);have aiH:=W9 cM (S/8) (by omega);obtain⟨aT,dh,_⟩:=aiH;generalize su cM (S/8)=L at pX aT dh ⊢;generalize max (4*cM) (S/8)=M at hmx aiI pX;clear hcs;go_enter func162,ntmps162
  go_wp2_with fail
  refine jL.out.mono ?_;rintro e w' ⟨rfl,rfl⟩;go_wp2_with fail
  refine ju.out.mono ?_;rintro e w' ⟨rfl,rfl⟩;go_wp2_with fail
  refine Ch.out.mono ?_;rintro e w' ⟨rfl,rfl⟩;go_wp2;clear hmx;go_loop [4] (λi=>∃b:Nat,5<=b/\b<=L/\i=.int .i64 b) (λi=>9-(intOf i).toNat)
  case atStart=>exact⟨5,by omega,by omega,rfl⟩
  case round=>
   obtain⟨b,cL,ai3,rfl⟩:=hrel;have gH:=pX.out b cL ai3;have cJ:=N7 b (by omega) (by omega);have xy:Hid ((2:Int)^b=((2^b:Nat):Int)):=I (by simp);generalize 2^b=P at cJ xy gH;have hw:wrap64 (P:Int)=P:=ri _ (by omega) (by omega);by_cases au:b<L
   .have aA:=gH.1 au;have d1:decide ((b:Int)<9)=true:=cf;have d2:decide (P<M)=true:=cf;have pA:=xy.out;clear gH aA;go_wp2;go_round
    case rel=>exact⟨b+1,by omega,by omega,by go_num⟩
    case measure=>simp[intOf];omega
   .obtain rfl:b=L:=by omega
    have aA:¬(b<9/\P<M):=λh=>au (gH.2 h)
    clear gH;by_cases K0:b<9
    .have d1:decide ((b:Int)<9)=true:=cf;have d2:decide (P<M)=false:=bG (λh=>aA ⟨K0,h⟩);have pA:=xy.out;clear aA;go_wp2;go_ret;exact⟨rfl,Below.refl _ _⟩
    .have d1:decide ((b:Int)<9)=false:=aU;clear aA;go_wp2;go_ret;exact⟨rfl,Below.refl _ _⟩
 .have bx:q5 l=false:=bG h;have bR:e9 l=0:=by unfold e9;rw[az h]
  rw[bx]at jL;rw[bR];clear h bx bR;go_enter func162,ntmps162
  go_wp2_with fail
  refine jL.out.mono ?_;rintro e w' ⟨rfl,rfl⟩;go_wp2;go_ret;exact⟨rfl,Below.refl _ _⟩
namespace am
theorem ahf(size k:Nat)(p:ae)(ax:ld p<=size)(ap:p.sum=size+(k+1)) :
  fN p<p.length/\2<=jn p/\(p.modify (fN p) (·-1)).sum=size+k/\ld (p.modify (fN p) (·-1))<=size:=by
 have aZ:p≠[]:=by rintro rfl;simp at ap
 have au:=CH p aZ;have hget:=CG p au;have af:2<=jn p:=by
  rcases eF (jn p) 2 with h1|h1
  .have:=Zz p (λx ai=>by have:=G3 p x ai;omega);omega
  .exact h1
 have hsum:=OX p (fN p) (·-1) au;rw[hget]at hsum;have hsame:oI (p.modify (fN p) (·-1)) p:=by
  refine⟨by simp,λi=>?_⟩;rw[get_modify];split
  .next e=>
   subst e;rw[bI au,hget];simp;omega
  .exact Iff.rfl
 exact⟨au,af,by omega,by rw[hsame.ld];exact ax⟩
theorem Xp(p:ae)(k:Nat)(f:Nat->Nat)(h:k<p.length):p.modify k f=p.set k (f p[k]):=by
 apply ext_getElem?
 intro i;rw[get_modify,getElem?_set];split
 .next e=>subst e;simp[h]
 .rfl
theorem OA(l:List Int)(log:Int)(h:¬rI l log):o1 l log=[]:=by unfold o1;rw[az h]
end am
theorem Wy(l:ae)(i b:Nat):(aM l).set i (.int .i64 b)=aM (l.set i b):=by simp[aM,map_set]
theorem ank:aaq:=by
 intro A c l log w hl cV mw aj;have jL:=I (NI A c l w (by omega) aj);have fS:=I (XD log w);by_cases h:am.Right l
 case neg=>
  have bx:q5 l=false:=bG h;have eU:¬rI l log:=λh1=>h h1.1
  rw[bx]at jL;rw[OA l log eU,bG eU];clear h bx eU fS;go_enter func163,ntmps163
  go_wp2_with fail
  refine jL.out.mono ?_;rintro e w' ⟨rfl,rfl⟩;go_wp2;go_ret2;exact⟨none,0,rfl,λh=>absurd rfl h,Below.refl _ _⟩
 have bx:q5 l=true:=bE h;rw[bx]at jL;by_cases ap:am.sizedB log=true
 case neg=>
  have qh:am.sizedB log=false:=by simpa using ap
  have eU:¬rI l log:=λh1=>ap (bE ⟨h1.2.1,h1.2.2.1⟩)
  rw[qh]at fS;rw[OA l log eU,bG eU];clear h bx eU ap qh;go_enter func163,ntmps163
  go_wp2_with fail
  refine jL.out.mono ?_;rintro e w' ⟨rfl,rfl⟩;go_wp2_with fail
  refine fS.out.mono ?_;rintro e w' ⟨rfl,rfl⟩;go_wp2;go_ret2;exact⟨none,0,rfl,λh=>absurd rfl h,Below.refl _ _⟩
 obtain⟨aT,dh⟩:5<=log/\log<=9:=of_decide_eq_true ap;rw[ap]at fS;have ju:=I (Hc A c l w (by omega) aj);obtain⟨b,rfl⟩:=Int.eq_ofNat_of_zero_le (show 0<=log by omega);have cJ:=N7 b (by omega) (by omega);have AH:rI l (b:Int)↔gv l<=2^b:=⟨λh1=>by have:=h1.2.2.2;rwa [cX]at this,λh1=>⟨h,aT,dh,by rwa [cX]⟩⟩;have wL:rI l (b:Int)->o1 l (b:Int)=(vv (l.map Int.toNat) (2^b)).map (λn:Nat=>(n:Int)):=λh1=>by unfold o1;rw[aB h1,cX]
 have xy:Hid ((2:Int)^b=((2^b:Nat):Int)):=I (by simp);generalize 2^b=P at cJ AH wL xy;have hw:wrap64 (P:Int)=P:=ri _ (by omega) (by omega);have fQ:=HM l;have u6:=h.1;by_cases hle:gv l<=P
 case neg=>
  have eU:¬rI l (b:Int):=λh1=>hle (AH.1 h1)
  rw[OA l _ eU,bG eU];have aI:decide (P<gv l)=true:=cf;have pA:=xy.out;clear h bx eU ap AH wL;generalize gv l=cM at aI fQ ju hle;go_enter func163,ntmps163
  go_wp2_with fail
  refine jL.out.mono ?_;rintro e w' ⟨rfl,rfl⟩;go_wp2_with fail
  refine fS.out.mono ?_;rintro e w' ⟨rfl,rfl⟩;go_wp2_with fail
  refine ju.out.mono ?_;rintro e w' ⟨rfl,rfl⟩;go_wp2;go_ret2;exact⟨none,0,rfl,λh=>absurd rfl h,Below.refl _ _⟩
 have hyes:=AH.2 hle;rw[wL hyes,bE hyes,jF];obtain⟨ag,hcs,hcs2,hlen,hm,Av,hpos,ao⟩:=Oo l h;rw[hcs2];have bS:Reads w A (aM ag):=by rw[<-jF,<-hcs];exact aj
 have fg:=I bS;have Qp:Hid (Calls prog 193 #[.slice A l.length c,.int .i64 P] w λe w'=>∃g,e=.returned (.slice (some ⟨g,0,none⟩) l.length l.length)/\w.heap.size<=g/\Row w' g 3 (aM (am.parts ag P))/\av w w'):=I (by
  have h1:=anj A c ag P w Av hm (by omega) bS;rw[hlen]at h1;exact h1)
 have kS:Hid (∀W,av w W->Calls prog 194 #[.slice A l.length c] W λe w'=>e=.returned (.int .i64 (fN ag))/\W=w'):=I (λW ak=>by
  have h1:=Xu A c ag W (by omega) (λx ai=>by have:=hm x ai;omega) (c7 bS ak);rw[hlen]at h1;exact h1)
 have hspec:=OB ag P ao (by rw[hpos];exact hle);have AA:(am.parts ag P).length=l.length:=by simp[am.parts,hlen]
 have Vc:=X5 ag P;have Va:am.ld (am.parts ag P)<=P:=by rw[Vc.ld,hpos];exact hle
 have Dl:∀x∈am.parts ag P,x<=1000000000:=λx ai=>by
  unfold am.parts at ai;obtain⟨y,hy,rfl⟩:=List.mem_map.1 ai;have h1:=hm y hy;unfold oY;split
  .omega
  .have af:y*P/ag.sum<=y*P:=div_le_self _ _;have aq:y*P<=1048576*512:=Nat.mul_le_mul h1 cJ.2;omega
 have Mn:=OW (am.parts ag P) 1000000000 Dl;rw[AA]at Mn;have lr:fN ag<l.length:=by rw[<-hlen];exact CH ag (by rintro rfl;simp at ao)
 have mW:vv ag P=if (am.parts ag P).sum<P then(am.parts ag P).modify (fN ag) (·+(P-(am.parts ag P).sum))else am.decs ((am.parts ag P).sum-P) (am.parts ag P):=rfl
 have Lj:(vv ag P).length=l.length:=by rw[hspec.2.1,hlen]
 rw[cQ,Lj];have xI:Hid (∀W B d,Reads W B (aM (am.parts ag P))->Calls prog 191 #[.slice B l.length d] W λe w'=>e=.returned (.int .i64 ((am.parts ag P).sum:Int))/\W=w'):=I (λW B d h1=>by
  have af:=NK B d (am.parts ag P) W (by rw[AA];omega) (by omega) h1;rw[AA]at af;exact af)
 generalize vv ag P=R at mW Lj ⊢;generalize am.parts ag P=lz at AA Va Dl Mn mW xI Qp;have fc:=I mW;have Qq:=I Dl;have Qr:=I AA;obtain⟨dY,Lk⟩:∃S,S=lz.sum:=⟨_,rfl⟩;have xB:=I Lk;rw[<-Lk]at Mn fc xI;clear Lk;clear mW Dl AA hspec Vc hpos hm hcs2 bS hcs AH wL hyes bx ap h aj cV mw hlen Av Lj ao;generalize gv l=cM at hle ju fQ;generalize fN ag=f at kS lr fc;have aI:decide (P<cM)=false:=aU;have pA:=xy.out;clear fg;clear ag;generalize l.length=n at *;clear l;go_enter func163,ntmps163
 go_wp2_with fail
 refine jL.out.mono ?_;rintro e w' ⟨rfl,rfl⟩;go_wp2_with fail
 refine fS.out.mono ?_;rintro e w' ⟨rfl,rfl⟩;go_wp2_with fail
 refine ju.out.mono ?_;rintro e w' ⟨rfl,rfl⟩;go_wp2_with fail
 refine Qp.out.mono ?_;rintro e aw ⟨g,rfl,aF,hrow,aH⟩;have dr:=I hrow;have aN:=I aH;clear hrow aH jL fS ju Qp aI pA hw;go_wp2_with fail
 refine(xI.out aw _ _ (og dr)).mono ?_;rintro e w' ⟨rfl,rfl⟩;clear xI;by_cases au:dY<P
 .have n2:decide ((0:Int)<P-(dY:Int))=true:=cf;go_wp2_with fail
  refine(kS.out aw aN).mono ?_;rintro e w' ⟨rfl,rfl⟩;clear kS;rw[aB au]at fc;have yb:f<lz.length:=by rw[Qr.out];exact lr
  have hW:=dr.out.cell f;rw[iN lz f yb]at hW;have qQ:=dr.out.free f;have ai:=Qq.out lz[f] (b8 yb);have PE:Hid (R=lz.set f (lz[f]+(P-dY))):=I (by rw[fc.out,Xp lz f _ yb]);clear fc;generalize lz[f]=x at hW ai PE;have n8:(x:Int)+((P:Int)-dY)=((x+(P-dY):Nat):Int):=by omega
  have aen:=I n8;clear n8 yb;go_wp2;go_loop [8] (λm=>m=.int .i64 ((P:Int)-dY)) (λ_=>0)
  case atStart=>rfl
  case round=>
   subst hrel;have r1:decide ((P:Int)-dY<0)=false:=aU;go_wp2;go_ret2;refine⟨some ⟨g,0,none⟩,⟨n,rfl⟩,?_,aN.out.setCell (p:=⟨g,f,none⟩) aF _⟩;rw[PE.out,<-Wy];have h1:=dr.out.bq f (.int .i64 ((x:Int)+((P:Int)-dY)));rw[aen.out]at h1 ⊢;exact og h1
 .have n2:decide ((0:Int)<P-(dY:Int))=false:=aU;rw[az au]at fc;go_wp2;clear n2;go_loopw [8] (λm wr=>∃(j:Nat) (p:ae),m=.int .i64 (-(j:Int))/\j<=1000000000000/\Hid (R=am.decs j p)/\Hid (p.length=n)/\Hid (am.ld p<=P/\p.sum=P+j)/\Hid (∀x∈p,x<=1000000000)/\Hid (Row wr g 3 (aM p))/\Hid (av w wr)) (λm _=>(-(intOf m)).toNat)
  case atStart=>exact⟨dY-P,lz,by go_num,by omega,fc,Qr,I ⟨Va,by have:=xB.out;omega⟩,Qq,dr,aN⟩
  case round=>
   obtain⟨j,p,rfl,ar,PF,ng,Qt,Jo,bj,ie⟩:=hrel;rcases j with _|j
   .go_wp2;go_ret2;refine⟨some ⟨g,0,none⟩,n,rfl,?_,ie⟩;rw[PF.out];exact og bj.out
   .obtain⟨wD,af,iX,qW⟩:=ahf P j p Qt.out.1 Qt.out.2;have a1:=CG p wD;have qV:=ng.out;have acz:Hid (Calls prog 194 #[.slice (some ⟨g,0,none⟩) n n] wr λe w'=>e=.returned (.int .i64 (fN p))/\wr=w'):=I (by
     have h1:=Xu (some ⟨g,0,none⟩) n p wr (by omega) (λx ai=>by have:=Jo.out x ai;omega) (og bj.out);rw[qV]at h1;exact h1)
    have hW:=bj.out.cell (fN p);rw[iN p _ wD,a1]at hW;have qQ:=bj.out.free (fN p);have hmx:=Jo.out _ (Ny p (by rintro rfl;simp at wD));have ac0:Hid (p.modify (fN p) (·-1)=p.set (fN p) (jn p-1)):=I (by rw[Xp p _ _ wD,a1]);have fC:Hid (R=am.decs j (p.modify (fN p) (·-1))):=PF;have vU:Hid (am.ld (p.modify (fN p) (·-1))<=P/\(p.modify (fN p) (·-1)).sum=P+j):=I ⟨qW,iX⟩;rw[ac0.out]at fC vU;clear PF a1 iX qW ac0 Qt;have avS:fN p<n:=by omega
    generalize fN p=q at *;generalize jn p=y at *;have g6:decide (-((j:Int)+1)<0)=true:=cf;clear qV;go_wp2_with fail
    refine acz.out.mono ?_;rintro e w' ⟨rfl,rfl⟩;go_wp2;go_roundw
    case rel=>
     refine⟨j,p.set q (y-1),by go_num,by omega,fC,I (by rw[length_set,ng.out]),vU,I ?_,I ?_,I (ie.out.setCell (by exact aF) _)⟩
     .intro x ai;rcases mem_or_eq_of_mem_set ai with h1|h1
      .exact Jo.out x h1
      .omega
     .have h1:=bj.out.bq q (.int .i64 ((y:Int)-1));rw[show((y:Int)-1)=((y-1:Nat):Int) by omega,Wy]at h1;rw[show((y:Int)-1)=((y-1:Nat):Int) by omega];exact h1
    case measure=>simp[intOf];omega
theorem Zp(l:ae)(i j:Nat)(h:i<=j)(ar:j<=l.length)(W:ah):(Instr.slice 9 (.string (strOf l)) (some (.int .i64 i)) (some (.int .i64 j)) none).run prog W=.ok (.string (strOf ((l.take j).drop i))) W:=by
 rw[run_slice_string W 9 _ .i64 .i64 i j underlying9 (by omega) (by omega) (by rw[cy];omega),cX,cX,Em]
def Fh(e:Ending):Option (ae×Nat)->Prop
|none=>e=.returned (.tuple #[.string (strOf []),.int .i64 0])
|some t=>e=.returned (.tuple #[.string (strOf t.1),.int .i64 (t.2:Int)])
theorem asj(s st:ByteArray)(L v k r:Nat)(w:ah)(bB:s.size=L)(bR:L<=100000)(ao:0<k)(aD:v<=4096)(aj:r=k+v)(pD:r<=L)
  (hcut:∀W:ah,(Instr.slice 9 (.string s) (some (.int .i64 k)) (some (.int .i64 r)) none).run prog W=.ok (.string st) W)
  (aL:Calls prog 25 #[.string s] w λe w'=>e=.returned (.tuple #[.int .u64 v,.int .i64 k])/\av w w') :
  Calls prog 79 #[.string s] w λe w'=>e=.returned (.tuple #[.string st,.int .i64 r])/\av w w':=by
 have z0:((k:Int)==0)=false:=cz
 have d2:decide ((4096:Int)<v)=false:=aU;have aus:decide (4096<v)=false:=aU;obtain⟨q,hq⟩:∃q:Nat,(L:Int)-k=q:=⟨L-k,by omega⟩;have d3:decide ((q:Int)<v)=false:=aU;have R0:decide (q<v)=false:=aU;have J8:q<=100000:=by omega
 have iL:(k:Int)+v=r:=by omega
 have bP:r<=100000:=by omega
 clear ao aj pD;have br:=I aL;clear aL;go_enter func79,ntmps79
 go_wp2_with fail
 refine br.out.mono ?_;rintro e aw ⟨rfl,aH⟩;have aN:=I aH;clear aH;go_wp2;go_ret2;exact⟨rfl,aN⟩
theorem Hs(l:ae)(w:ah)(hl:l.length<=100000)(au:∀x∈l,x<256) :
  Calls prog 79 #[.string (strOf l)] w λe w'=>Fh e (ht l)/\av w w':=by
 have br:=I (z7 l w (by omega) au);have bB:=cy l;have hcut:=Zp l;obtain⟨v,aD⟩:∃v,v=(aX l).1:=⟨_,rfl⟩;obtain⟨k,hk⟩:∃k,k=(aX l).2:=⟨_,rfl⟩;have a8:k<=l.length:=by
  rcases eq_zero_or_pos k with h|h
  .omega
  .exact(rP l v k h (by rw[aD,hk])).2.2
 have hres:ht l=if 0<k/\v<=4096/\v<=l.length-k then some ((l.drop k).take v,k+v)else none:=by rw[aD,hk];rfl
 rw[hres];rw[<-aD,<-hk]at br;clear aD hk hres au;obtain⟨L,bR⟩:∃L,L=l.length:=⟨_,rfl⟩;rw[<-bR]at hl bB a8 hcut ⊢;by_cases ao:k=0
 .subst ao;rw[az (by omega)];clear hcut bR;generalize strOf l=vx at *;go_enter func79,ntmps79
  go_wp2_with fail
  refine br.out.mono ?_;rintro e aw ⟨rfl,aH⟩;have aN:=I aH;clear aH;go_wp2;go_ret2;exact⟨rfl,aN⟩
 .have d0:((k:Int)==0)=false:=cz
  by_cases h1:4096<v
  .rw[az (by omega)];have d1:decide (4096<v)=true:=bE h1;have d2:decide ((4096:Int)<v)=true:=cf;clear hcut bR ao;generalize strOf l=vx at *;go_enter func79,ntmps79
   go_wp2_with fail
   refine br.out.mono ?_;rintro e aw ⟨rfl,aH⟩;have aN:=I aH;clear aH;go_wp2;go_ret2;exact⟨rfl,aN⟩
  .have d1:decide (4096<v)=false:=bG h1;have d2:decide ((4096:Int)<v)=false:=aU;obtain⟨q,hq⟩:∃q,L=k+q:=⟨L-k,by omega⟩;have gU:wrap64 ((L:Int)-k)=(q:Int):=by rw[ri _ (by omega) (by omega)];omega
   have mX:IntKind.i64.wrap ((L:Int)-k)=(q:Int):=by rw[IntWalk.i64_in _ (by omega)];omega
   have kI:IntKind.u64.wrap (q:Int)=q:=by rw[IntKind.wrap_u64];omega
   by_cases af:q<v
   .rw[az (by omega)];have d3:decide (q<v)=true:=bE af;have d4:decide ((q:Int)<v)=true:=cf;clear hcut ao;have jt:=I hq;clear hq bR;generalize strOf l=vx at *;go_enter func79,ntmps79
    go_wp2_with fail
    refine br.out.mono ?_;rintro e aw ⟨rfl,aH⟩;have aN:=I aH;clear aH;go_wp2;go_ret2;exact⟨rfl,aN⟩
   .rw[aB (by omega)];have d3:decide (q<v)=false:=bG af;have d4:decide ((q:Int)<v)=false:=aU;have LG:=hcut k (k+v) (by omega) (by omega);obtain⟨r,aj⟩:∃r,r=k+v:=⟨_,rfl⟩;have hlist:(l.take r).drop k=(l.drop k).take v:=by rw[aj,drop_take];congr 1;omega
    rw[<-aj]at LG ⊢;rw[hlist]at LG;exact asj _ _ L v k r w bB hl (by omega) (by omega) aj (by omega) LG br.out
theorem Yi(A:a7)(c:Nat)(l:ae)(w:ah)(hl:l.length<=1000000)(aj:Reads w A (aM l)) :
  Calls prog 86 #[.slice A l.length c] w λe w'=>e=.returned (.bool (decide (l.length<8/\∀x∈l,x=0)))/\w=w':=by
 have bj:=I aj;obtain⟨n,aA⟩:∃n,n=l.length:=⟨_,rfl⟩;have b0:=I aA;obtain⟨r,hres⟩:∃r,r=decide (l.length<8/\∀x∈l,x=0):=⟨_,rfl⟩;rw[<-hres];have b4:=I hres;rw[<-aA]at hl ⊢;clear aj aA hres;go_enter func86,ntmps86
 go_wp2;go_loopw [3] (λi wr=>wr=w/\∃k:Nat,i=.int .i64 k/\k<=n/\Hid (∀x∈l.take k,x=0)) (λi _=>n-(intOf i).toNat)
 case atStart=>exact⟨rfl,0,rfl,zero_le _,I (by simp)⟩
 case round=>
  obtain⟨rfl,k,rfl,hk,hall⟩:=hrel;by_cases a8:k<n
  .have hkl':k<l.length:=by rw[<-b0.out];exact a8
   obtain⟨g,off,rfl,hc⟩:=bj.out (by intro e;have:=congrArg List.length e;rw[gm,length_nil]at this;omega);have c1:=hc k (by rw[gm];exact hkl');rw[iN l k hkl']at c1;have hE:Hid (l.take (k+1)=l.take k++[l[k]]):=I (by rw[take_add_one,bI hkl'];rfl);have j2:=I (b8 hkl');clear hc;generalize l[k]=x at *;by_cases ao:x=0
   .subst ao;have rq:Hid (∀y∈l.take (k+1),y=0):=I (λy hy=>by
     rw[hE.out]at hy;rcases List.mem_append.1 hy with hy|hy
     .exact hall.out y hy
     .exact List.mem_singleton.1 hy)
    clear hall;go_wp2;go_roundw
    case rel=>exact⟨trivial,k+1,by go_num,by omega,rq⟩
    case measure=>simp[intOf];omega
   .have d0:((x:Int) != 0)=true:=by rw[bne_iff_ne];omega
    have cc:Hid (r=false):=I (by rw[b4.out];exact bG (λh=>ao (h.2 x j2)));clear hall ao;go_wp2;go_ret;rw[cc.out];exact⟨rfl,rfl⟩
  .obtain rfl:k=n:=by omega
   have d0:decide (k<8)=r:=by
    have h:=hall.out;rw[b0.out,take_length]at h;rw[b4.out,<-b0.out];exact decide_eq_decide.2 ⟨λh1=>⟨h1,h⟩,λh1=>h1.1⟩
   have d1:decide ((k:Int)<8)=r:=by rw[<-d0];exact decide_eq_decide.2 (by omega)
   have uC:decide ((k:Int)<k)=false:=aU;clear hall;go_wp2;go_ret;exact⟨rfl,rfl⟩
theorem aoW(a b c:Int)(n:Nat)(w:ah)(aA:n<=65535)(aV:1<=a/\a<=65533)(ak:1<=b/\b<=65533)(hc:1<=c/\c<=65533) :
  Calls prog 84 #[.agg #[.int .i64 a,.int .i64 b,.int .i64 c],.int .i64 n] w λe w'=>e=.returned (.int .i64 ((jW a b c (n:Int)).getD 0))/\av w w':=by
 obtain⟨x,ai⟩:∃x,x=kd a b c (n:Int):=⟨_,rfl⟩;have akX:-9223372036854775808<=x/\x<=9223372036854775807:=by rw[ai];unfold kd;split;omega;split;omega;split<;>omega
 have fv:=I (λW=>alZ a b c x W akX);obtain⟨z,aQ⟩:∃z,z=hb a b c x:=⟨_,rfl⟩;rw[<-aQ]at fv;have hoff:jW a b c (n:Int)=if z=(n:Int)then some x else none:=by
  unfold jW;rw[az (by omega),<-ai,<-aQ]
 rw[hoff];have sd:(n=0/\x=a)\/(n=1/\x=b)\/(n=2/\x=c)\/(2<n/\x=(n:Int)-2):=by
  rw[ai];unfold kd;by_cases af:2<n
  .rw[aB (by omega)];exact .inr (.inr (.inr ⟨af,rfl⟩))
  .rw[az (by omega)];rcases(by omega:n=0\/n=1\/n=2)with rfl|rfl|rfl
   .exact .inl ⟨rfl,by simp⟩
   .exact .inr (.inl ⟨rfl,by simp⟩)
   .exact .inr (.inr (.inl ⟨rfl,by simp⟩))
 clear hoff ai aQ;have dw:=(Below.refl w.heap.size w).alloc bl (.cells #[.int .i64 a,.int .i64 b,.int .i64 c] 30);have lG:=I dw;have gK:=Row.new w 30 [.int .i64 a,.int .i64 b,.int .i64 c];obtain⟨c0,c1,c2⟩:=dz gK;clear dw gK;have xW:(2<n/\decide ((n:Int)<3)=false)\/n<=2:=by
  by_cases h:2<n
  .exact .inl ⟨h,bG (by omega)⟩
  .exact .inr (by omega)
 by_cases he:z=(n:Int)
 .rw[aB he,b7];have d0:(z != (n:Int))=false:=by rw[he];simp
  clear he;rcases sd with⟨rfl,rfl⟩|⟨rfl,rfl⟩|⟨rfl,rfl⟩|⟨af,rfl⟩
  case' inr.inr.inr=>obtain⟨_,d3⟩:2<n/\decide ((n:Int)<3)=false:=⟨af,bG (by omega)⟩
  all_goals
   clear xW;go_enter func84,ntmps84
   go_wp2_with fail
   refine(fv.out _).mono ?_;rintro e aC ⟨rfl,aJ⟩;have bm:=b3 lG aJ;clear aJ;go_wp2;go_ret;exact⟨rfl,bm⟩
 .rw[az he,getD_none];have d0:(z != (n:Int))=true:=by rw[bne_iff_ne];exact he
  clear he;rcases sd with⟨rfl,rfl⟩|⟨rfl,rfl⟩|⟨rfl,rfl⟩|⟨af,rfl⟩
  case' inr.inr.inr=>obtain⟨_,d3⟩:2<n/\decide ((n:Int)<3)=false:=⟨af,bG (by omega)⟩
  all_goals
   clear xW;go_enter func84,ntmps84
   go_wp2_with fail
   refine(fv.out _).mono ?_;rintro e aC ⟨rfl,aJ⟩;have bm:=b3 lG aJ;clear aJ;go_wp2;go_ret;exact⟨rfl,bm⟩
end Go.Proofs.YtgiicohbigiapaaGreat
