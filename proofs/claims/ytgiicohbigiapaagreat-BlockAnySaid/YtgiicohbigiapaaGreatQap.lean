/- Contracts. -/
import Derived.Test.YtgiicohbigiapaaGreatQaf
import Derived.Test.YtgiicohbigiapaaGreatQak
import Derived.Test.YtgiicohbigiapaaGreatQz1
import Derived.Test.YtgiicohbigiapaaGreatQz0
set_option maxHeartbeats 4000000
set_option maxRecDepth 100000
open Go.Proofs.Tryz Go.Proofs.YtgiicohbigiapaaGreat.ao List Nat Option
namespace Go.Proofs.YtgiicohbigiapaaGreat
open Go.RowKit
theorem four(w:ai)(t0 t1 t2 t3:TypeId)(lm ca cT qB:b3):∃W bD bP bq eo,(((w.alloc (.cells lm.toArray t0)).alloc (.cells ca.toArray t1)).alloc (.cells cT.toArray t2)).alloc (.cells qB.toArray t3)=W /\
  w.heap.size=bD/\w.heap.size+1=bP/\w.heap.size+1+1=bq/\w.heap.size+1+1+1=eo/\Row W bD t0 lm/\Row W bP t1 ca/\Row W bq t2 cT/\Row W eo t3 qB/\Below w.heap.size w W:=by
 have am:=Row.new w t0 lm;have h1:=Row.new (w.alloc (.cells lm.toArray t0)) t1 ca;have af:=Row.new ((w.alloc (.cells lm.toArray t0)).alloc (.cells ca.toArray t1)) t2 cT;have aq:=Row.new (((w.alloc (.cells lm.toArray t0)).alloc (.cells ca.toArray t1)).alloc (.cells cT.toArray t2)) t3 qB;have bf:(w.alloc (.cells lm.toArray t0)).heap.size=w.heap.size+1:=by simp
 have bM:((w.alloc (.cells lm.toArray t0)).alloc (.cells ca.toArray t1)).heap.size=w.heap.size+1+1:=by simp
 have ev:(((w.alloc (.cells lm.toArray t0)).alloc (.cells ca.toArray t1)).alloc (.cells cT.toArray t2)).heap.size=w.heap.size+1+1+1:=by simp
 rw[bf]at h1;rw[bM]at af;rw[ev]at aq;exact⟨_,_,_,_,_,rfl,rfl,rfl,rfl,rfl,((am.alloc _).alloc _).alloc _,(h1.alloc _).alloc _,af.alloc _,aq,
  ((((Below.refl w.heap.size w).alloc bh _).alloc (by simp) _).alloc (by simp;omega) _).alloc (by simp;omega) _⟩
theorem Z7(w:ai)(l m o a b c n p q y pg:Int)(ok:Bool)(hm:IntKind.i64.wrap (m-3)=pg)
  (g6:∀W,Calls prog 129 #[.agg #[.int .i64 a,.int .i64 b,.int .i64 c],.int .i64 o] W λe w'=>e=.returned (.tuple #[.int .i64 n,.agg #[.int .i64 p,.int .i64 q,.int .i64 y],.bool ok])/\Below W.heap.size W w') :
  Calls prog 97 #[.agg #[.int .i64 l,.int .i64 m,.int .i64 o],.agg #[.int .i64 a,.int .i64 b,.int .i64 c]] w λe w'=>e=.returned (.tuple #[.agg #[.int .i64 l,.int .i64 pg,.int .i64 n],.agg #[.int .i64 p,.int .i64 q,.int .i64 y],.bool ok])/\Below w.heap.size w w':=by
 have cV:=I g6;obtain⟨W,bD,bP,bq,eo,bg,e0,aF,e2,e3,gW,gO,dc,hD,hbel⟩:=four w 118 154 30 154 [.int .i64 l,.int .i64 m,.int .i64 o] [.int .i64 a,.int .i64 b,.int .i64 c] [.int .i64 0,.int .i64 0,.int .i64 0] [.int .i64 0,.int .i64 0,.int .i64 0];have ci:=I hm;have jG:=I bg;have eS:=I (⟨e0,aF,e2,e3⟩:_/\_/\_/\_);have aU:=I (⟨gW,dc,hD,hbel⟩:_/\_/\_/\_);clear g6 bg e0 aF e2 e3 gW gO dc hD hbel hm;go_enter func97,ntmps97
 go_wp2_with fail
 rw[jG.out,eS.out.2.2.2,eS.out.2.2.1,eS.out.2.1,eS.out.1];have zm:bD<bq/\bq<eo/\w.heap.size<=bq:=by have:=eS.out;omega
 clear jG eS;refine(cV.out W).mono ?_;rintro e aB ⟨rfl,aI⟩;obtain⟨gW,dc,hD,hbel⟩:=aU.out;have gW:=(gW.below aI).alloc (.cells #[.int .i64 p,.int .i64 q,.int .i64 y] 154);have dc:=(dc.below aI).alloc (.cells #[.int .i64 p,.int .i64 q,.int .i64 y] 154);have M3:=(hD.below aI).lt;have hD:=(hD.below aI).alloc (.cells #[.int .i64 p,.int .i64 q,.int .i64 y] 154);have hbel:=hbel.trans (aI.mono hbel.size);have iK:=Row.new aB 154 [.int .i64 p,.int .i64 q,.int .i64 y];obtain⟨pE,a8⟩:∃pE,aB.heap.size=pE:=⟨_,rfl⟩;have hbel:=hbel.alloc hbel.size (.cells #[.int .i64 p,.int .i64 q,.int .i64 y] 154);have cx:=I a8;rw[a8]at iK M3;have dN:=I hbel;have kZ:=I gW;have dk:=I dc;have gD:=I hD;have nD:=I iK;clear aU cV aI hbel gW dc hD iK a8;have em:=ci.out;go_wp2_with fail
 rw[cx.out];obtain⟨c0,c1,c2⟩:=dE kZ.out;obtain⟨c3,c4,c5⟩:=dE nD.out;have f0:=dk.out.free 0;have f1:=dk.out.free 1;have f2:=dk.out.free 2;have f3:=gD.out.free 0;have f4:=gD.out.free 1;have f5:=gD.out.free 2;obtain⟨d0,d1,d2⟩:=dE dk.out;obtain⟨d3,d4,d5⟩:=dE gD.out;have b4:bq≠eo:=by omega
 have bT:eo≠bq:=by omega
 have Ic:bD≠bq:=by omega
 have xS:bD≠eo:=by omega
 have Ie:pE≠bq:=by omega
 have If:pE≠eo:=by omega
 generalize (aB.alloc (.cells #[.int .i64 p,.int .i64 q,.int .i64 y] 154))=wq at *;clear cx;go_region
 have z2:=(((((dk.out.bm 0 (.int .i64 l)).bm 1 (.int .i64 pg)).bm 2 (.int .i64 n)).cG (p:=⟨eo,0,none⟩) b4 (.int .i64 p)).cG (p:=⟨eo,1,none⟩) b4 (.int .i64 q)).cG (p:=⟨eo,2,none⟩) b4 (.int .i64 y);have z3:=(((((gD.out.cG (p:=⟨bq,0,none⟩) bT (.int .i64 l)).cG (p:=⟨bq,1,none⟩) bT (.int .i64 pg)).cG (p:=⟨bq,2,none⟩) bT (.int .i64 n)).bm 0 (.int .i64 p)).bm 1 (.int .i64 q)).bm 2 (.int .i64 y);have jo:=I ((((((dN.out.setCell (p:=⟨bq,0,none⟩) zm.2.2 (.int .i64 l)).setCell (p:=⟨bq,1,none⟩) zm.2.2 (.int .i64 pg)).setCell (p:=⟨bq,2,none⟩) zm.2.2 (.int .i64 n)).setCell (p:=⟨eo,0,none⟩) (by show w.heap.size<=eo;omega) (.int .i64 p)).setCell (p:=⟨eo,1,none⟩) (by show w.heap.size<=eo;omega) (.int .i64 q)).setCell (p:=⟨eo,2,none⟩) (by show w.heap.size<=eo;omega) (.int .i64 y)).drew;simp only[set_cons_zero,set_cons_succ]at z2 z3;obtain⟨x0,je,iO⟩:=dE z2;obtain⟨lu,kn,ko⟩:=dE z3;have cK:=I (⟨x0,je,iO,lu,kn,ko⟩:_/\_/\_/\_/\_/\_);clear c0 c1 c2 c3 c4 c5 f0 f1 f2 f3 f4 f5 d0 d1 d2 d3 d4 d5 x0 je iO lu kn ko z2 z3 b4 bT Ic xS Ie If;generalize ((((((wq.setCell ⟨bq,0,none⟩ (.int .i64 l)).setCell ⟨bq,1,none⟩ (.int .i64 pg)).setCell ⟨bq,2,none⟩ (.int .i64 n)).setCell ⟨eo,0,none⟩ (.int .i64 p)).setCell ⟨eo,1,none⟩ (.int .i64 q)).setCell ⟨eo,2,none⟩ (.int .i64 y))=qM at *;go_wp2;obtain⟨x0,je,iO,lu,kn,ko⟩:=cK.out;exact bodyPost_ret (by simp[results,results97,go_sem,x0,je,iO,lu,kn,ko]) rfl ⟨rfl,jo.out⟩
theorem aac(w:ai)(l m o a b c n p q y pg:Int)(ok:Bool)(hm:IntKind.i64.wrap (m+3)=pg)
  (g6:∀W,Calls prog 187 #[.agg #[.int .i64 a,.int .i64 b,.int .i64 c],.int .i64 o] W λe w'=>e=.returned (.tuple #[.int .i64 n,.agg #[.int .i64 p,.int .i64 q,.int .i64 y],.bool ok])/\Below W.heap.size W w') :
  Calls prog 150 #[.agg #[.int .i64 l,.int .i64 m,.int .i64 o],.agg #[.int .i64 a,.int .i64 b,.int .i64 c]] w λe w'=>e=.returned (.tuple #[.agg #[.int .i64 l,.int .i64 pg,.int .i64 n],.agg #[.int .i64 p,.int .i64 q,.int .i64 y],.bool ok])/\Below w.heap.size w w':=by
 have cV:=I g6;obtain⟨W,bD,bP,bq,eo,bg,e0,aF,e2,e3,gW,gO,dc,hD,hbel⟩:=four w 30 154 118 154 [.int .i64 l,.int .i64 m,.int .i64 o] [.int .i64 a,.int .i64 b,.int .i64 c] [.int .i64 0,.int .i64 0,.int .i64 0] [.int .i64 0,.int .i64 0,.int .i64 0];have ci:=I hm;have jG:=I bg;have eS:=I (⟨e0,aF,e2,e3⟩:_/\_/\_/\_);have aU:=I (⟨gW,dc,hD,hbel⟩:_/\_/\_/\_);clear g6 bg e0 aF e2 e3 gW gO dc hD hbel hm;go_enter func150,ntmps150
 go_wp2_with fail
 rw[jG.out,eS.out.2.2.2,eS.out.2.2.1,eS.out.2.1,eS.out.1];have zm:bD<bq/\bq<eo/\w.heap.size<=bq:=by have:=eS.out;omega
 clear jG eS;refine(cV.out W).mono ?_;rintro e aB ⟨rfl,aI⟩;obtain⟨gW,dc,hD,hbel⟩:=aU.out;have gW:=(gW.below aI).alloc (.cells #[.int .i64 p,.int .i64 q,.int .i64 y] 154);have dc:=(dc.below aI).alloc (.cells #[.int .i64 p,.int .i64 q,.int .i64 y] 154);have M3:=(hD.below aI).lt;have hD:=(hD.below aI).alloc (.cells #[.int .i64 p,.int .i64 q,.int .i64 y] 154);have hbel:=hbel.trans (aI.mono hbel.size);have iK:=Row.new aB 154 [.int .i64 p,.int .i64 q,.int .i64 y];obtain⟨pE,a8⟩:∃pE,aB.heap.size=pE:=⟨_,rfl⟩;have hbel:=hbel.alloc hbel.size (.cells #[.int .i64 p,.int .i64 q,.int .i64 y] 154);have cx:=I a8;rw[a8]at iK M3;have dN:=I hbel;have kZ:=I gW;have dk:=I dc;have gD:=I hD;have nD:=I iK;clear aU cV aI hbel gW dc hD iK a8;have em:=ci.out;go_wp2_with fail
 rw[cx.out];obtain⟨c0,c1,c2⟩:=dE kZ.out;obtain⟨c3,c4,c5⟩:=dE nD.out;have f0:=dk.out.free 0;have f1:=dk.out.free 1;have f2:=dk.out.free 2;have f3:=gD.out.free 0;have f4:=gD.out.free 1;have f5:=gD.out.free 2;obtain⟨d0,d1,d2⟩:=dE dk.out;obtain⟨d3,d4,d5⟩:=dE gD.out;have b4:bq≠eo:=by omega
 have bT:eo≠bq:=by omega
 have Ic:bD≠bq:=by omega
 have xS:bD≠eo:=by omega
 have Ie:pE≠bq:=by omega
 have If:pE≠eo:=by omega
 generalize (aB.alloc (.cells #[.int .i64 p,.int .i64 q,.int .i64 y] 154))=wq at *;clear cx;go_region
 have z2:=(((((dk.out.bm 0 (.int .i64 l)).bm 1 (.int .i64 pg)).bm 2 (.int .i64 n)).cG (p:=⟨eo,0,none⟩) b4 (.int .i64 p)).cG (p:=⟨eo,1,none⟩) b4 (.int .i64 q)).cG (p:=⟨eo,2,none⟩) b4 (.int .i64 y);have z3:=(((((gD.out.cG (p:=⟨bq,0,none⟩) bT (.int .i64 l)).cG (p:=⟨bq,1,none⟩) bT (.int .i64 pg)).cG (p:=⟨bq,2,none⟩) bT (.int .i64 n)).bm 0 (.int .i64 p)).bm 1 (.int .i64 q)).bm 2 (.int .i64 y);have jo:=I ((((((dN.out.setCell (p:=⟨bq,0,none⟩) zm.2.2 (.int .i64 l)).setCell (p:=⟨bq,1,none⟩) zm.2.2 (.int .i64 pg)).setCell (p:=⟨bq,2,none⟩) zm.2.2 (.int .i64 n)).setCell (p:=⟨eo,0,none⟩) (by show w.heap.size<=eo;omega) (.int .i64 p)).setCell (p:=⟨eo,1,none⟩) (by show w.heap.size<=eo;omega) (.int .i64 q)).setCell (p:=⟨eo,2,none⟩) (by show w.heap.size<=eo;omega) (.int .i64 y)).drew;simp only[set_cons_zero,set_cons_succ]at z2 z3;obtain⟨x0,je,iO⟩:=dE z2;obtain⟨lu,kn,ko⟩:=dE z3;have cK:=I (⟨x0,je,iO,lu,kn,ko⟩:_/\_/\_/\_/\_/\_);clear c0 c1 c2 c3 c4 c5 f0 f1 f2 f3 f4 f5 d0 d1 d2 d3 d4 d5 x0 je iO lu kn ko z2 z3 b4 bT Ic xS Ie If;generalize ((((((wq.setCell ⟨bq,0,none⟩ (.int .i64 l)).setCell ⟨bq,1,none⟩ (.int .i64 pg)).setCell ⟨bq,2,none⟩ (.int .i64 n)).setCell ⟨eo,0,none⟩ (.int .i64 p)).setCell ⟨eo,1,none⟩ (.int .i64 q)).setCell ⟨eo,2,none⟩ (.int .i64 y))=qM at *;go_wp2;obtain⟨x0,je,iO,lu,kn,ko⟩:=cK.out;exact bodyPost_ret (by simp[results,results150,go_sem,x0,je,iO,lu,kn,ko]) rfl ⟨rfl,jo.out⟩
theorem aop(w:ai)(a b c:Int)(s:fc)(aS:hI a)(ak:hI b)(hc:hI c)(ap:1<=s.2.2/\s.2.2<=65533) :
  Calls prog 97 #[.agg #[.int .i64 s.1,.int .i64 s.2.1,.int .i64 s.2.2],.agg #[.int .i64 a,.int .i64 b,.int .i64 c]] w λe w'=>
   e=.returned (.tuple #[.agg #[.int .i64 s.1,.int .i64 (IntKind.i64.wrap (s.2.1-3)),.int .i64 (ht a b c s.2.2)],.agg #[.int .i64 (hx a b c s.2.2).1,.int .i64 (hx a b c s.2.2).2.1,.int .i64 (hx a b c s.2.2).2.2],.bool true])/\Below w.heap.size w w':=
 Z7 w s.1 s.2.1 s.2.2 a b c _ _ _ _ _ true rfl λW=>(Oa W a b c s.2.2 aS ak hc (by unfold hI;omega)).mono λe w' ⟨h1,_,aq⟩=>⟨h1 (Ij a b c s.2.2 ap.1 ap.2).1,aq⟩
theorem aoo(w:ai)(a b c:Int)(s:fc)(aS:hI a)(ak:hI b)(hc:hI c)(b8:hI s.2.2)(ap:¬(1<=s.2.2/\s.2.2<=65533)) :
  Calls prog 97 #[.agg #[.int .i64 s.1,.int .i64 s.2.1,.int .i64 s.2.2],.agg #[.int .i64 a,.int .i64 b,.int .i64 c]] w λe w'=>
   e=.returned (.tuple #[.agg #[.int .i64 s.1,.int .i64 (IntKind.i64.wrap (s.2.1-3)),.int .i64 0],.agg #[.int .i64 a,.int .i64 b,.int .i64 c],.bool false])/\Below w.heap.size w w':=
 Z7 w s.1 s.2.1 s.2.2 a b c _ _ _ _ _ false rfl λW=>(Oa W a b c s.2.2 aS ak hc b8).mono λe w' ⟨_,af,aq⟩=>⟨af (by unfold ht;rw[aA (by omega)];omega),aq⟩
theorem aoD(w:ai)(a b c x:Int)(l m o:Nat)(aS:hI a)(ak:hI b)(hc:hI c)(hm:m<=65535)(b8:o<=65535)(ah:ka a b c (o:Int)=some x) :
  Calls prog 150 #[.agg #[.int .i64 l,.int .i64 m,.int .i64 o],.agg #[.int .i64 a,.int .i64 b,.int .i64 c]] w λe w'=>
   e=.returned (.tuple #[.agg #[.int .i64 l,.int .i64 ((m+3:Nat):Int),.int .i64 x],.agg #[.int .i64 (hx a b c x).1,.int .i64 (hx a b c x).2.1,.int .i64 (hx a b c x).2.2],.bool true])/\Below w.heap.size w w':=
 aac w l m o a b c _ _ _ _ _ true (by rw[IntWalk.i64_in _ (by omega)];omega) λW=>(YG W a b c o aS ak hc (by unfold hI;omega)).mono λe w' ⟨h1,_,aq⟩=>⟨h1 x ah,aq⟩
theorem aoC(w:ai)(a b c:Int)(l m o:Nat)(aS:hI a)(ak:hI b)(hc:hI c)(hm:m<=65535)(b8:o<=65535)(ah:ka a b c (o:Int)=none) :
  Calls prog 150 #[.agg #[.int .i64 l,.int .i64 m,.int .i64 o],.agg #[.int .i64 a,.int .i64 b,.int .i64 c]] w λe w'=>
   e=.returned (.tuple #[.agg #[.int .i64 l,.int .i64 ((m+3:Nat):Int),.int .i64 0],.agg #[.int .i64 a,.int .i64 b,.int .i64 c],.bool false])/\Below w.heap.size w w':=
 aac w l m o a b c _ _ _ _ _ false (by rw[IntWalk.i64_in _ (by omega)];omega) λW=>(YG W a b c o aS ak hc (by unfold hI;omega)).mono λe w' ⟨_,af,aq⟩=>⟨af ah,aq⟩
namespace ao
def s8(l:ae):Nat:=l.foldl (λa c=>a*256+c) 0
theorem Zw(l:ae)(c:Nat):s8 (l++[c])=s8 l*256+c:=by simp[s8]
theorem OP:∀(k:Nat) (l:ae),l.length=k->(∀x∈l,x<256)->s8 l<256^k
 | 0,l,hl,_=>by rw[lq hl];simp[s8]
 | k+1,l,hl,h=>by
  have aX:l≠[]:=λe=>by rw[e]at hl;simp at hl
  have e:=dropLast_concat_getLast aX;have h1:=OP k l.dropLast (by simp[hl]) (λx ah=>h x (dropLast_subset _ ah));have af:=h _ (getLast_mem aX);rw[<-e,Zw,ej];omega
end ao
theorem anh(x c:Nat)(ah:x<16777216)(hc:c<256):bits .or .i64 ((x:Int)*256) (c:Int)=((x*256+c:Nat):Int):=by
 have e:(x:Int)*256=((x*256:Nat):Int):=by simp
 have b8:x*256 ||| c=x*256+c:=by
  have:=zN 8 c x hc;rw[Nat.or_comm,this,Nat.add_comm]
 rw[e];show IntKind.i64.wrap (((BitVec.ofInt 64 ((x*256:Nat):Int)) ||| (BitVec.ofInt 64 (c:Int))).toNat:Int)=_;rw[BitVec.ofInt_natCast,BitVec.ofInt_natCast,BitVec.toNat_or,BitVec.toNat_ofNat,BitVec.toNat_ofNat,mod_eq_of_lt (by omega),mod_eq_of_lt (by omega),b8];exact IntWalk.i64_in _ (by omega)
theorem ab8(b n:Nat)(T:ae)(w:ai)(av:∀x∈T,x<256)(cp:T.length<=2000)(az:n+3<=T.length)(hc:w.cell? ⟨b,0,none⟩=some (.string (strOf T))) :
  Calls prog 127 #[.pointer (some ⟨b,0,none⟩),.int .i64 n] w λe w'=>e=.returned (.int .i64 (ll T n))/\Below w.heap.size w w':=by
 obtain⟨l,hl⟩:∃l,l=ao.three T n:=⟨_,rfl⟩;have xy:l.length=3:=by rw[hl,P0 T n az];rfl
 have vL:∀x∈l,x<256:=by rw[hl];exact jw (p3 av _) _
 have awQ:∀W:ai,(Instr.slice 9 (.string (strOf T)) (some (.int .i64 n)) (some (.int .i64 ((n:Int)+3))) none).run prog W=.ok (.string (strOf l)) W:=λW=>by
  have h:=abl T n (n+3) (by omega) az W;rw[Int.natCast_add]at h;rw[hl];exact h
 obtain⟨aB,cap,eD,hcells,aI⟩:=oo w l vL;have qR:=I hcells;have aV:=I aI;have b5:=I vL;have bt:Hid (ll T n=s8 l%2003):=I (by rw[hl];rfl);have JB:=I xy;rw[xy]at eD;generalize strOf T=ss at *;clear hl xy vL av hcells aI;obtain⟨g,aD⟩:∃g,g=w.heap.size:=⟨_,rfl⟩;rw[<-aD]at eD qR;clear aD;go_enter func127,ntmps127
 go_wp2;go_loopw [5,18] (λP5 iJ wr=>∃k:Nat,k<=3/\iJ=.int .i64 k/\P5=.int .i64 (s8 (l.take k):Int)/\Hid (wr=aB)) (λ_ iJ _=>3-(intOf iJ).toNat)
 case atStart=>exact⟨0,by omega,rfl,rfl,I rfl⟩
 case round=>
  obtain⟨k,hk,rfl,rfl,hw⟩:=hrel;have lP:=hw.out;subst lP;clear hw;by_cases kB:k<3
  .have bb:k<l.length:=by rw[JB.out];exact kB
   have c1:=qR.out k bb;have ap:=Zw (l.take k) l[k];rw[<-gb bb]at ap;have aE:=OP k (l.take k) (by rw[cq];omega) (λx ah=>b5.out x (mem_of_mem_take ah));have oB:(256:Nat)^k<=256^2:=dD (by omega) (by omega);have ah:=b5.out l[k] (b7 bb);have bU:=I ap;clear ap;have BJ:s8 (l.take k)<65536:=by omega
   clear aE oB;generalize s8 (l.take k)=v at *;generalize l[k]'bb=x at *;have b8:=anh v x (by omega) ah;clear qR b5;go_wp2;go_roundw
   case rel=>exact⟨k+1,by omega,by go_num,by rw[bU.out];simp,I (by first | rfl | trivial)⟩
   case measure=>simp[intOf];omega
  .obtain rfl:k=3:=by omega
   have e3:l.take 3=l:=take_of_length_le (by rw[JB.out];exact Nat.le_refl _);rw[e3];have eA:=I (show(ll T n:Int)=(s8 l:Int)%2003 by rw[bt.out];simp);have aE:=OP 3 l JB.out b5.out;clear bt e3;generalize s8 l=v at *;go_wp2;go_ret;rw[eA.out];exact⟨rfl,aV⟩
theorem Uz(k:Nat)(hk:k<256):([]:ae)++ao.bytesOf k (hi 1)=[k]:=by
 rw[show hi 1=1 by decide,nil_append];simp[ao.bytesOf];omega
theorem Ot(k:Nat)(s:ae)(w:ai)(hk:k<256)(ap:s.length<=10000000) :
  Calls prog 66 #[.int .u64 k,.string (strOf s)] w λe w'=>e=.returned (.pointer (some ⟨w.heap.size,0,none⟩))/\fM w' w.heap.size (k :: br s.length)/\Below w.heap.size w w':=by
 have bI:=cZ s;have lB:=I (fM.new w);have eZ:=I ((Below.refl w.heap.size w).alloc bh (.cells #[.pointer none,.int .i64 0] 62));have aL:=λW b h=>I9 b k 1 [] W (by omega) (by omega) (by omega) (by simp) h
 rw[Uz k hk]at aL;have bk:=I aL;have kp:=I (λW b h=>Ca b s.length [k] W (by omega) (by simp) h);clear aL;have hle:(s.length:Int)<=10000000:=by omega
 generalize strOf s=str at *;go_enter func66,ntmps66
 go_wp2_with fail
 refine(bk.out _ _ lB).mono ?_;rintro e au ⟨rfl,bL,aZ⟩;have aK:=I (eZ.out.trans (below_grown aZ bh eZ.out.size));have cv:=I (kp.out au _ bL);clear bL aZ eZ bk kp;go_wp2_with fail
 refine cv.out.mono ?_;rintro e aB ⟨rfl,db,bl⟩;go_wp2;go_ret;exact⟨rfl,db,aK.out.trans (below_grown bl bh aK.out.size)⟩
theorem amd(s:ae)(w:ai)(ap:s.length<=10000000)(av:∀x∈s,x<256) :
  Calls prog 67 #[.string (strOf s)] w λe w'=>e=.returned (.string (strOf (rC s)))/\Below w.heap.size w w':=by
 have kZ:Calls prog 66 #[.int .u64 0,.string (strOf s)] w _:=Ot 0 s w (by decide) ap;have bU:=I kZ;have BH:=nS s.length (by omega);have aU:=I (λW b h=>uA b (0 :: br s.length) s W (by rw[b1];omega) h);have eM:=I (λW b h=>wv b ((0 :: br s.length)++s) W (by rw[aY,b1];omega) (B7 0 s.length s (by decide) (by omega) av) h);clear av ap BH kZ;have e0:(0 :: br s.length)++s=rC s:=rfl;rw[e0]at aU eM;generalize rC s=R at *;generalize strOf R=axd at *;generalize strOf s=str at *;go_enter func67,ntmps67
 go_wp2_with fail
 refine bU.out.mono ?_;rintro e au ⟨rfl,bL,aH⟩;have aK:=I aH;have dx:=I (aU.out au _ bL);clear bL aH bU aU;go_wp2_with fail
 refine dx.out.mono ?_;rintro e aB ⟨rfl,db,bl⟩;have aV:=I (aK.out.trans (below_grown bl bh aK.out.size));have fC:=I (eM.out aB _ db);clear db bl aK dx eM;go_wp2_with fail
 refine fC.out.mono ?_;rintro e a1 ⟨rfl,bz⟩;have bE:=b9 aV bz;clear bz aV fC;go_wp2;go_ret;exact⟨rfl,bE⟩
theorem amT(A:a7)(c:Nat)(bs:ae)(w:ai)(hl:bs.length<=1000000)(av:∀x∈bs,x<256)(aj:Reads w A (aN bs)) :
  Calls prog 64 #[.slice A bs.length c] w λe w'=>∃de df,e=.returned (.slice de (eX bs) df)/\(Reads w' de (aM (iC bs))/\∀a,de=some a->w.heap.size<=a.block)/\Below w.heap.size w w':=by
 rcases eq_zero_or_pos bs.length with am | am
 .have ak:bs=[]:=lq am;subst ak;go_enter func64,ntmps64
  go_wp2;go_ret;exact⟨none,0,rfl,⟨λh=>absurd rfl h,λa h=>by cases h⟩,Below.refl _ _⟩
 have aO:((bs.length:Int) == 0)=false:=cz
 obtain⟨i0,ax,bB,bK,bw⟩:=info_parts oF;have aU:=I aj;have b5:=I av;have cp:=uy bs av;have Ml:=I5 bs (by intro e;rw[e]at am;simp at am);have CP:=I (Zr A c bs w (by omega) am av aj);clear aj av;obtain⟨g0,hW⟩:∃g,g=w.heap.size:=⟨_,rfl⟩;have fA:=I hW;obtain⟨T,vu⟩:∃T,T=eX bs:=⟨_,rfl⟩;have yh:=I vu;have CQ:Hid (Calls prog 105 #[.slice A bs.length c] w λe w'=>e=.returned (.int .u8 ((T:Int)-1))/\w=w'):=I (by rw[vu];exact CP);rw[<-vu]at cp Ml ⊢;clear hW vu CP;go_enter func64,ntmps64
 go_wp2_with fail
 refine CQ.out.mono ?_;rintro e w' ⟨rfl,rfl⟩;clear CQ;have aF:((T:Int)-1)+1=(T:Int):=by omega
 go_wp2_with (at_make;refine wpList_make_full _ rfl _ _ 112 rfl w.heap.size 3 i0 (.int .i64 0) 1 underlying112 ax bB bK .i64 .i64 _ _ T rfl rfl ?c1 ?c1 ?c2 ?c3 ?c4 ?_)
 case c1=>omega
 case c2=>first | omega | (rw[bw];omega)
 case c3=>unfold maxLen;omega
 try case c4=>exact Nat.le_refl _
 intro au hown1 aZ;have aH:=k8 aZ;have cd:=ut hown1;rw[<-fA.out]at cd ⊢;have aK:=I aH;rw[yh.out,<-TX]at cd;have dx:=I cd;clear hown1 aZ aH cd ax bB bK bw aF aO;go_wp2;go_loopw [16] (λi wr=>∃k:Nat,k<=bs.length/\i=.int .i64 k/\Hid (Row wr g0 3 (aM (nQ bs k)))/\Hid (Below w.heap.size w wr)) (λi _=>bs.length-(intOf i).toNat)
 case atStart=>exact⟨0,by omega,rfl,dx,aK⟩
 case round=>
  obtain⟨k,hk,rfl,hrow,hbel⟩:=hrel;clear dx aK;by_cases bb:k<bs.length
  .have aX:bs≠[]:=by intro e;rw[e]at bb;simp at bb
   obtain⟨g,off,rfl,hc⟩:=nA (c9 aU.out hbel) aX;have c0:=hc k bb;have ak:=b5.out bs[k] (b7 bb);have DS:bs[k]<T:=by rw[yh.out];exact x2 bs _ (b7 bb)
   have fo:(bs.take k).count bs[k]<=bs.length:=du count_le_length (by rw[cq];omega);have hcell:=hrow.out.cell bs[k];have nr:=TV bs k bs[k] (by rw[<-yh.out];exact DS);simp only[aM,getElem?_map,nr,map_some]at hcell;have hfree:=hrow.out.free bs[k];have bX:=I (TW bs k bb);clear hc nr;generalize (bs.take k).count bs[k]=q at fo hcell bX;generalize bs[k]=b at c0 ak DS hcell hfree bX;go_wp2;go_roundw
   case rel=>
    refine⟨k+1,by omega,by go_num,I ?_,I (hbel.out.setCell (by rw[fA.out];exact Nat.le_refl _) _)⟩;rw[bX.out];have h1:=hrow.out.bm b (.int .i64 ((q:Int)+1));rw[show aM ((nQ bs k).set b (q+1))=(aM (nQ bs k)).set b (.int .i64 ((q:Int)+1)) by simp[aM,map_set]];exact h1
   case measure=>simp[intOf];omega
  .obtain rfl:k=bs.length:=by omega
   rw[TU]at hrow;go_wp2;go_ret;exact⟨some ⟨g0,0,none⟩,T,rfl,⟨oK hrow,λa e=>by injection e with e;rw[<-e];exact Nat.le_of_eq fA.out.symm⟩,hbel⟩
namespace ao
theorem Pr(l:List Int)(h:Right l):∃ag:ae,l=ag.map (λn:Nat=>(n:Int))/\l.map Int.toNat=ag/\ag.length=l.length/\(∀x∈ag,x<=1048576)/\ag.length<=256/\lp ag=gC l/\0<ag.sum:=by
 have hl:l=(l.map Int.toNat).map (λn:Nat=>(n:Int)):=by
  rw[List.map_map];conv=>lhs;rw[<-List.map_id l]
  apply map_congr_left
  intro x ah;have:=h.2.1 x ah;simp only[Function.comp_apply,id];omega
 refine⟨l.map Int.toNat,hl,rfl,by simp,?_,by simpa using h.1,?_,?_⟩
 .intro x ah;obtain⟨y,hy,rfl⟩:=List.mem_map.1 ah;have:=h.2.1 y hy;omega
 .unfold lp gC;rw[countP_map];apply countP_congr
  intro x _;simp
 .obtain⟨x,ah,am⟩:=h.2.2;have h1:=Y8 (l.map Int.toNat) x.toNat (List.mem_map_of_mem ah);omega
theorem arx(ag:ae):(ag.map (λn:Nat=>(n:Int))).sum=((ag.sum:Nat):Int):=by
 induction ag with
 | nil=>simp
 | cons a l ih=>rw[map_cons,sum_cons,ih,sum_cons];omega
theorem al7(sym q:Nat):s4 sym q=if max (4*sym) q<=32 then 5 else if max (4*sym) q<=64 then 6 else if max (4*sym) q<=128 then 7 else if max (4*sym) q<=256 then 8 else 9:=by
 unfold s4;simp only[Nat.max_le]
theorem al8(sym q b:Nat)(aR:5<=b)(h:b<=s4 sym q):b<s4 sym q↔b<9/\2^b<max (4*sym) q:=by
 rw[al7]at h ⊢;generalize max (4*sym) q=M at h ⊢;have dm:b<=9:=by
  by_cases h1:M<=32
  .rw[aA h1]at h;omega
  rw[ay h1]at h;by_cases af:M<=64
  .rw[aA af]at h;omega
  rw[ay af]at h;by_cases aq:M<=128
  .rw[aA aq]at h;omega
  rw[ay aq]at h;by_cases aJ:M<=256
  .rw[aA aJ]at h;omega
  rw[ay aJ]at h;omega
 have ak:b=5/\2^b=32\/b=6/\2^b=64\/b=7/\2^b=128\/b=8/\2^b=256\/b=9/\2^b=512:=by
  have ak:b=5\/b=6\/b=7\/b=8\/b=9:=by omega
  rcases ak with rfl | rfl | rfl | rfl | rfl<;>decide
 generalize 2^b=P at ak ⊢;by_cases h1:M<=32
 .rw[aA h1]at h ⊢;omega
 rw[ay h1]at h ⊢;by_cases af:M<=64
 .rw[aA af]at h ⊢;omega
 rw[ay af]at h ⊢;by_cases aq:M<=128
 .rw[aA aq]at h ⊢;omega
 rw[ay aq]at h ⊢;by_cases aJ:M<=256
 .rw[aA aJ]at h ⊢;omega
 rw[ay aJ]at h ⊢;omega
end ao
theorem amR:ach:=by
 intro A c l w hl cW aj;have iy:=I (OL A c l w (by omega) aj);by_cases h:ao.Right l
 .have bu:rD l=true:=bG h;rw[bu]at iy;obtain⟨ag,hcs,hcs2,hlen,hm,Bq,hpos,am⟩:=Pr l h;have hsum:=PU ag 1048576 hm;have gH:=I (Ii A c l w (by omega) aj);have bS:Reads w A (aM ag):=by rw[<-jT,<-hcs];exact aj
  have mf:=OO A c ag w (by omega) (by omega) bS;rw[hlen]at mf;have yE:=I mf;have mQ:fk l=s4 (gC l) (ag.sum/8):=by
   unfold fk;rw[aA h];congr 2
   rw[hcs,arx,cY]
  have fU:=I0 l;rw[mQ];clear mQ mf bS hpos hcs2 hm bu h aj cW;generalize gC l=cM at fU gH ⊢;generalize ag.sum=S at hsum yE am ⊢;have hmx:max (4*(cM:Int)) ((S:Int)/8)=((max (4*cM) (S/8):Nat):Int):=by omega
  have ain:max (4*cM) (S/8)<=1000000000:=by omega
  have nG:=I (λb aR ak=>al8 cM (S/8) b aR ak);have aim:=Y1 cM (S/8) (by omega);obtain⟨aR,dm,_⟩:=aim;generalize s4 cM (S/8)=L at nG aR dm ⊢;generalize max (4*cM) (S/8)=M at hmx ain nG;clear hcs;go_enter func162,ntmps162
  go_wp2_with fail
  refine iy.out.mono ?_;rintro e w' ⟨rfl,rfl⟩;go_wp2_with fail
  refine gH.out.mono ?_;rintro e w' ⟨rfl,rfl⟩;go_wp2_with fail
  refine yE.out.mono ?_;rintro e w' ⟨rfl,rfl⟩;clear iy gH yE;go_wp2;clear hmx;go_loop [4] (λi=>∃b:Nat,5<=b/\b<=L/\i=.int .i64 b) (λi=>9-(intOf i).toNat)
  case atStart=>exact⟨5,by omega,by omega,rfl⟩
  case round=>
   obtain⟨b,cL,aiH,rfl⟩:=hrel;have gS:=nG.out b cL aiH;have cJ:=Pa b (by omega) (by omega);have yu:Hid ((2:Int)^b=((2^b:Nat):Int)):=I (by simp);generalize 2^b=P at cJ yu gS;have hw:wrap64 (P:Int)=P:=rM _ (by omega) (by omega);by_cases av:b<L
   .have az:=gS.1 av;have d1:decide ((b:Int)<9)=true:=cl;have d2:decide (P<M)=true:=cl;have pP:=yu.out;clear gS az;go_wp2;go_round
    case rel=>exact⟨b+1,by omega,by omega,by go_num⟩
    case measure=>simp[intOf];omega
   .obtain rfl:b=L:=by omega
    have az:¬(b<9/\P<M):=λh=>av (gS.2 h)
    clear gS;by_cases LW:b<9
    .have d1:decide ((b:Int)<9)=true:=cl;have d2:decide (P<M)=false:=bF (λh=>az ⟨LW,h⟩);have pP:=yu.out;clear az;go_wp2;go_ret;exact⟨rfl,Below.refl _ _⟩
    .have d1:decide ((b:Int)<9)=false:=aT;clear az;go_wp2;go_ret;exact⟨rfl,Below.refl _ _⟩
 .have bu:rD l=false:=bF h;have bR:fk l=0:=by unfold fk;rw[ay h]
  rw[bu]at iy;rw[bR];clear h bu bR;go_enter func162,ntmps162
  go_wp2_with fail
  refine iy.out.mono ?_;rintro e w' ⟨rfl,rfl⟩;go_wp2;go_ret;exact⟨rfl,Below.refl _ _⟩
namespace ao
theorem agW(size k:Nat)(p:ae)(aw:lp p<=size)(ap:p.sum=size+(k+1)) :
  fR p<p.length/\2<=jC p/\(p.modify (fR p) (·-1)).sum=size+k/\lp (p.modify (fR p) (·-1))<=size:=by
 have aX:p≠[]:=by rintro rfl;simp at ap
 have av:=Dx p aX;have hget:=Dw p av;have af:2<=jC p:=by
  rcases eP (jC p) 2 with h1 | h1
  .have:=abt p (λx ah=>by have:=H8 p x ah;omega);omega
  .exact h1
 have hsum:=PV p (fR p) (·-1) av;rw[hget]at hsum;have hsame:o0 (p.modify (fR p) (·-1)) p:=by
  refine⟨by simp,λi=>?_⟩;rw[get_modify];split
  .next e=>
   subst e;rw[bH av,hget];simp;omega
  .exact Iff.rfl
 exact⟨av,af,by omega,by rw[hsame.lp];exact aw⟩
theorem Zh(p:ae)(k:Nat)(f:Nat->Nat)(h:k<p.length):p.modify k f=p.set k (f p[k]):=by
 apply ext_getElem?
 intro i;rw[get_modify,getElem?_set];split
 .next e=>subst e;simp[h]
 .rfl
theorem PB(l:List Int)(log:Int)(h:¬sg l log):pk l log=[]:=by unfold pk;rw[ay h]
end ao
theorem Yr(l:ae)(i b:Nat):(aM l).set i (.int .i64 b)=aM (l.set i b):=by simp[aM,map_set]
theorem amW:acj:=by
 intro A c l log w hl cW mQ aj;have iy:=I (OL A c l w (by omega) aj);have eT:=I (Zv log w);by_cases h:ao.Right l
 case neg=>
  have bu:rD l=false:=bF h;have fe:¬sg l log:=λh1=>h h1.1
  rw[bu]at iy;rw[PB l log fe,bF fe];clear h bu fe eT;go_enter func163,ntmps163
  go_wp2_with fail
  refine iy.out.mono ?_;rintro e w' ⟨rfl,rfl⟩;go_wp2;go_ret2;exact⟨none,0,rfl,λh=>absurd rfl h,Below.refl _ _⟩
 have bu:rD l=true:=bG h;rw[bu]at iy;by_cases ap:ao.sizedB log=true
 case neg=>
  have qx:ao.sizedB log=false:=by simpa using ap
  have fe:¬sg l log:=λh1=>ap (bG ⟨h1.2.1,h1.2.2.1⟩)
  rw[qx]at eT;rw[PB l log fe,bF fe];clear h bu fe ap qx;go_enter func163,ntmps163
  go_wp2_with fail
  refine iy.out.mono ?_;rintro e w' ⟨rfl,rfl⟩;go_wp2_with fail
  refine eT.out.mono ?_;rintro e w' ⟨rfl,rfl⟩;go_wp2;go_ret2;exact⟨none,0,rfl,λh=>absurd rfl h,Below.refl _ _⟩
 obtain⟨aR,dm⟩:5<=log/\log<=9:=of_decide_eq_true ap;rw[ap]at eT;have gH:=I (Ii A c l w (by omega) aj);obtain⟨b,rfl⟩:=Int.eq_ofNat_of_zero_le (show 0<=log by omega);have cJ:=Pa b (by omega) (by omega);have BB:sg l (b:Int)↔gC l<=2^b:=⟨λh1=>by have:=h1.2.2.2;rwa [cY]at this,λh1=>⟨h,aR,dm,by rwa [cY]⟩⟩;have xF:sg l (b:Int)->pk l (b:Int)=(wk (l.map Int.toNat) (2^b)).map (λn:Nat=>(n:Int)):=λh1=>by unfold pk;rw[aA h1,cY]
 have yu:Hid ((2:Int)^b=((2^b:Nat):Int)):=I (by simp);generalize 2^b=P at cJ BB xF yu;have hw:wrap64 (P:Int)=P:=rM _ (by omega) (by omega);have fU:=I0 l;have vL:=h.1;by_cases hle:gC l<=P
 case neg=>
  have fe:¬sg l (b:Int):=λh1=>hle (BB.1 h1)
  rw[PB l _ fe,bF fe];have aG:decide (P<gC l)=true:=cl;have pP:=yu.out;clear h bu fe ap BB xF;generalize gC l=cM at aG fU gH hle;go_enter func163,ntmps163
  go_wp2_with fail
  refine iy.out.mono ?_;rintro e w' ⟨rfl,rfl⟩;go_wp2_with fail
  refine eT.out.mono ?_;rintro e w' ⟨rfl,rfl⟩;go_wp2_with fail
  refine gH.out.mono ?_;rintro e w' ⟨rfl,rfl⟩;go_wp2;go_ret2;exact⟨none,0,rfl,λh=>absurd rfl h,Below.refl _ _⟩
 have hyes:=BB.2 hle;rw[xF hyes,bG hyes,jT];obtain⟨ag,hcs,hcs2,hlen,hm,Bq,hpos,am⟩:=Pr l h;rw[hcs2];have bS:Reads w A (aM ag):=by rw[<-jT,<-hcs];exact aj
 have eA:=I bS;have Km:Hid (Calls prog 193 #[.slice A l.length c,.int .i64 P] w λe w'=>∃g,e=.returned (.slice (some ⟨g,0,none⟩) l.length l.length)/\w.heap.size<=g/\Row w' g 3 (aM (ao.parts ag P))/\Below w.heap.size w w'):=I (by
  have h1:=amV A c ag P w Bq hm (by omega) bS;rw[hlen]at h1;exact h1)
 have jH:Hid (∀W,Below w.heap.size w W->Calls prog 194 #[.slice A l.length c] W λe w'=>e=.returned (.int .i64 (fR ag))/\W=w'):=I (λW ak=>by
  have h1:=Zm A c ag W (by omega) (λx ah=>by have:=hm x ah;omega) (c9 bS ak);rw[hlen]at h1;exact h1)
 have hspec:=PD ag P am (by rw[hpos];exact hle);have Bv:(ao.parts ag P).length=l.length:=by simp[ao.parts,hlen]
 have W6:=ZW ag P;have W4:ao.lp (ao.parts ag P)<=P:=by rw[W6.lp,hpos];exact hle
 have Ee:∀x∈ao.parts ag P,x<=1000000000:=λx ah=>by
  unfold ao.parts at ah;obtain⟨y,hy,rfl⟩:=List.mem_map.1 ah;have h1:=hm y hy;unfold pi;split
  .omega
  .have af:y*P/ag.sum<=y*P:=div_le_self _ _;have aq:y*P<=1048576*512:=Nat.mul_le_mul h1 cJ.2;omega
 have Nl:=PU (ao.parts ag P) 1000000000 Ee;rw[Bv]at Nl;have lL:fR ag<l.length:=by rw[<-hlen];exact Dx ag (by rintro rfl;simp at am)
 have nu:wk ag P=if (ao.parts ag P).sum<P then(ao.parts ag P).modify (fR ag) (·+(P-(ao.parts ag P).sum))else ao.decs ((ao.parts ag P).sum-P) (ao.parts ag P):=rfl
 have Mf:(wk ag P).length=l.length:=by rw[hspec.2.1,hlen]
 rw[cQ,Mf];have uW:Hid (∀W B d,Reads W B (aM (ao.parts ag P))->Calls prog 191 #[.slice B l.length d] W λe w'=>e=.returned (.int .i64 ((ao.parts ag P).sum:Int))/\W=w'):=I (λW B d h1=>by
  have af:=OO B d (ao.parts ag P) W (by rw[Bv];omega) (by omega) h1;rw[Bv]at af;exact af)
 generalize wk ag P=R at nu Mf ⊢;generalize ao.parts ag P=ml at Bv W4 Ee Nl nu uW Km;have dO:=I nu;have R5:=I Ee;have R7:=I Bv;obtain⟨eg,Mg⟩:∃S,S=ml.sum:=⟨_,rfl⟩;have yv:=I Mg;rw[<-Mg]at Nl dO uW;clear Mg;clear nu Ee Bv hspec W6 hpos hm hcs2 bS hcs BB xF hyes bu ap h aj cW mQ hlen Bq Mf am;generalize gC l=cM at hle gH fU;generalize fR ag=f at jH lL dO;have aG:decide (P<cM)=false:=aT;have pP:=yu.out;clear eA;clear ag;generalize l.length=n at *;clear l;go_enter func163,ntmps163
 go_wp2_with fail
 refine iy.out.mono ?_;rintro e w' ⟨rfl,rfl⟩;go_wp2_with fail
 refine eT.out.mono ?_;rintro e w' ⟨rfl,rfl⟩;go_wp2_with fail
 refine gH.out.mono ?_;rintro e w' ⟨rfl,rfl⟩;go_wp2_with fail
 refine Km.out.mono ?_;rintro e au ⟨g,rfl,aD,hrow,aH⟩;have da:=I hrow;have aK:=I aH;clear hrow aH iy eT gH Km aG pP hw;go_wp2_with fail
 refine(uW.out au _ _ (oK da)).mono ?_;rintro e w' ⟨rfl,rfl⟩;clear uW;by_cases av:eg<P
 .have ox:decide ((0:Int)<P-(eg:Int))=true:=cl;go_wp2_with fail
  refine(jH.out au aK).mono ?_;rintro e w' ⟨rfl,rfl⟩;clear jH;rw[aA av]at dO;have y5:f<ml.length:=by rw[R7.out];exact lL
  have h7:=da.out.cell f;rw[ja ml f y5]at h7;have rk:=da.out.free f;have ah:=R5.out ml[f] (b7 y5);have QF:Hid (R=ml.set f (ml[f]+(P-eg))):=I (by rw[dO.out,Zh ml f _ y5]);clear dO;generalize ml[f]=x at h7 ah QF;have oD:(x:Int)+((P:Int)-eg)=((x+(P-eg):Nat):Int):=by omega
  have aeb:=I oD;clear oD y5;go_wp2;go_loop [8] (λm=>m=.int .i64 ((P:Int)-eg)) (λ_=>0)
  case atStart=>rfl
  case round=>
   subst hrel;have sC:decide ((P:Int)-eg<0)=false:=aT;go_wp2;go_ret2;refine⟨some ⟨g,0,none⟩,⟨n,rfl⟩,?_,aK.out.setCell (p:=⟨g,f,none⟩) aD _⟩;rw[QF.out,<-Yr];have h1:=da.out.bm f (.int .i64 ((x:Int)+((P:Int)-eg)));rw[aeb.out]at h1 ⊢;exact oK h1
 .have ox:decide ((0:Int)<P-(eg:Int))=false:=aT;rw[ay av]at dO;go_wp2;clear ox;go_loopw [8] (λm wr=>∃(j:Nat) (p:ae),m=.int .i64 (-(j:Int))/\j<=1000000000000/\Hid (R=ao.decs j p)/\Hid (p.length=n)/\Hid (ao.lp p<=P/\p.sum=P+j)/\Hid (∀x∈p,x<=1000000000)/\Hid (Row wr g 3 (aM p))/\Hid (Below w.heap.size w wr)) (λm _=>(-(intOf m)).toNat)
  case atStart=>exact⟨eg-P,ml,by go_num,by omega,dO,R7,I ⟨W4,by have:=yv.out;omega⟩,R5,da,aK⟩
  case round=>
   obtain⟨j,p,rfl,ar,JF,my,Ko,Kp,aU,gE⟩:=hrel;rcases j with _ | j
   .go_wp2;go_ret2;refine⟨some ⟨g,0,none⟩,n,rfl,?_,gE⟩;rw[JF.out];exact oK aU.out
   .obtain⟨xw,af,jj,rr⟩:=agW P j p Ko.out.1 Ko.out.2;have aZ:=Dw p xw;have rq:=my.out;have adf:Hid (Calls prog 194 #[.slice (some ⟨g,0,none⟩) n n] wr λe w'=>e=.returned (.int .i64 (fR p))/\wr=w'):=I (by
     have h1:=Zm (some ⟨g,0,none⟩) n p wr (by omega) (λx ah=>by have:=Kp.out x ah;omega) (oK aU.out);rw[rq]at h1;exact h1)
    have h7:=aU.out.cell (fR p);rw[ja p _ xw,aZ]at h7;have rk:=aU.out.free (fR p);have hmx:=Kp.out _ (Oz p (by rintro rfl;simp at xw));have RW:Hid (p.modify (fR p) (·-1)=p.set (fR p) (jC p-1)):=I (by rw[Zh p _ _ xw,aZ]);have dS:Hid (R=ao.decs j (p.modify (fR p) (·-1))):=JF;have tG:Hid (ao.lp (p.modify (fR p) (·-1))<=P/\(p.modify (fR p) (·-1)).sum=P+j):=I ⟨rr,jj⟩;rw[RW.out]at dS tG;clear JF aZ jj rr RW Ko;have avw:fR p<n:=by omega
    generalize fR p=q at *;generalize jC p=y at *;have hp:decide (-((j:Int)+1)<0)=true:=cl;clear rq;go_wp2_with fail
    refine adf.out.mono ?_;rintro e w' ⟨rfl,rfl⟩;go_wp2;go_roundw
    case rel=>
     refine⟨j,p.set q (y-1),by go_num,by omega,dS,I (by rw[length_set,my.out]),tG,I ?_,I ?_,I (gE.out.setCell (by exact aD) _)⟩
     .intro x ah;rcases mem_or_eq_of_mem_set ah with h1 | h1
      .exact Kp.out x h1
      .omega
     .have h1:=aU.out.bm q (.int .i64 ((y:Int)-1));rw[show((y:Int)-1)=((y-1:Nat):Int) by omega,Yr]at h1;rw[show((y:Int)-1)=((y-1:Nat):Int) by omega];exact h1
    case measure=>simp[intOf];omega
theorem abj(l:ae)(i j:Nat)(h:i<=j)(ar:j<=l.length)(W:ai):(Instr.slice 9 (.string (strOf l)) (some (.int .i64 i)) (some (.int .i64 j)) none).run prog W=.ok (.string (strOf ((l.take j).drop i))) W:=by
 rw[run_slice_string W 9 _ .i64 .i64 i j underlying9 (by omega) (by omega) (by rw[cZ];omega),cY,cY,Ff]
def Gp(e:Ending):Option (ae×Nat)->Prop
 | none=>e=.returned (.tuple #[.string (strOf []),.int .i64 0])
 | some t=>e=.returned (.tuple #[.string (strOf t.1),.int .i64 (t.2:Int)])
theorem arZ(s st:ByteArray)(L v k r:Nat)(w:ai)(bI:s.size=L)(bR:L<=100000)(am:0<k)(aE:v<=4096)(aj:r=k+v)(pS:r<=L)
  (hcut:∀W:ai,(Instr.slice 9 (.string s) (some (.int .i64 k)) (some (.int .i64 r)) none).run prog W=.ok (.string st) W)
  (aL:Calls prog 25 #[.string s] w λe w'=>e=.returned (.tuple #[.int .u64 v,.int .i64 k])/\Below w.heap.size w w') :
  Calls prog 79 #[.string s] w λe w'=>e=.returned (.tuple #[.string st,.int .i64 r])/\Below w.heap.size w w':=by
 have z0:((k:Int) == 0)=false:=cz
 have d2:decide ((4096:Int)<v)=false:=aT;have at8:decide (4096<v)=false:=aT;obtain⟨q,hq⟩:∃q:Nat,(L:Int)-k=q:=⟨L-k,by omega⟩;have d3:decide ((q:Int)<v)=false:=aT;have T2:decide (q<v)=false:=aT;have K4:q<=100000:=by omega
 have i6:(k:Int)+v=r:=by omega
 have bP:r<=100000:=by omega
 clear am aj pS;have bk:=I aL;clear aL;go_enter func79,ntmps79
 go_wp2_with fail
 refine bk.out.mono ?_;rintro e au ⟨rfl,aH⟩;have aK:=I aH;clear aH bk;go_wp2;go_ret2;exact⟨rfl,aK⟩
theorem IA(l:ae)(w:ai)(hl:l.length<=100000)(av:∀x∈l,x<256) :
  Calls prog 79 #[.string (strOf l)] w λe w'=>Gp e (hG l)/\Below w.heap.size w w':=by
 have bk:=I (A3 l w (by omega) av);have bI:=cZ l;have hcut:=abj l;obtain⟨v,aE⟩:∃v,v=(aW l).1:=⟨_,rfl⟩;obtain⟨k,hk⟩:∃k,k=(aW l).2:=⟨_,rfl⟩;have bb:k<=l.length:=by
  rcases eq_zero_or_pos k with h | h
  .omega
  .exact(sn l v k h (by rw[aE,hk])).2.2
 have hres:hG l=if 0<k/\v<=4096/\v<=l.length-k then some ((l.drop k).take v,k+v)else none:=by rw[aE,hk];rfl
 rw[hres];rw[<-aE,<-hk]at bk;clear aE hk hres av;obtain⟨L,bR⟩:∃L,L=l.length:=⟨_,rfl⟩;rw[<-bR]at hl bI bb hcut ⊢;by_cases am:k=0
 .subst am;rw[ay (by omega)];clear hcut bR;generalize strOf l=wm at *;go_enter func79,ntmps79
  go_wp2_with fail
  refine bk.out.mono ?_;rintro e au ⟨rfl,aH⟩;have aK:=I aH;clear aH bk;go_wp2;go_ret2;exact⟨rfl,aK⟩
 .have d0:((k:Int) == 0)=false:=cz
  by_cases h1:4096<v
  .rw[ay (by omega)];have d1:decide (4096<v)=true:=bG h1;have d2:decide ((4096:Int)<v)=true:=cl;clear hcut bR am;generalize strOf l=wm at *;go_enter func79,ntmps79
   go_wp2_with fail
   refine bk.out.mono ?_;rintro e au ⟨rfl,aH⟩;have aK:=I aH;clear aH bk;go_wp2;go_ret2;exact⟨rfl,aK⟩
  .have d1:decide (4096<v)=false:=bF h1;have d2:decide ((4096:Int)<v)=false:=aT;obtain⟨q,hq⟩:∃q,L=k+q:=⟨L-k,by omega⟩;have hd:wrap64 ((L:Int)-k)=(q:Int):=by rw[rM _ (by omega) (by omega)];omega
   have nv:IntKind.i64.wrap ((L:Int)-k)=(q:Int):=by rw[IntWalk.i64_in _ (by omega)];omega
   have kT:IntKind.u64.wrap (q:Int)=q:=by rw[IntKind.wrap_u64];omega
   by_cases af:q<v
   .rw[ay (by omega)];have d3:decide (q<v)=true:=bG af;have d4:decide ((q:Int)<v)=true:=cl;clear hcut am;have iR:=I hq;clear hq bR;generalize strOf l=wm at *;go_enter func79,ntmps79
    go_wp2_with fail
    refine bk.out.mono ?_;rintro e au ⟨rfl,aH⟩;have aK:=I aH;clear aH bk;go_wp2;go_ret2;exact⟨rfl,aK⟩
   .rw[aA (by omega)];have d3:decide (q<v)=false:=bF af;have d4:decide ((q:Int)<v)=false:=aT;have MC:=hcut k (k+v) (by omega) (by omega);obtain⟨r,aj⟩:∃r,r=k+v:=⟨_,rfl⟩;have hlist:(l.take r).drop k=(l.drop k).take v:=by rw[aj,drop_take];congr 1;omega
    rw[<-aj]at MC ⊢;rw[hlist]at MC;exact arZ _ _ L v k r w bI hl (by omega) (by omega) aj (by omega) MC bk.out
theorem Z9(A:a7)(c:Nat)(l:ae)(w:ai)(hl:l.length<=1000000)(aj:Reads w A (aM l)) :
  Calls prog 86 #[.slice A l.length c] w λe w'=>e=.returned (.bool (decide (l.length<8/\∀x∈l,x=0)))/\w=w':=by
 have aU:=I aj;obtain⟨n,az⟩:∃n,n=l.length:=⟨_,rfl⟩;have bX:=I az;obtain⟨r,hres⟩:∃r,r=decide (l.length<8/\∀x∈l,x=0):=⟨_,rfl⟩;rw[<-hres];have bt:=I hres;rw[<-az]at hl ⊢;clear aj az hres;go_enter func86,ntmps86
 go_wp2;go_loopw [3] (λi wr=>wr=w/\∃k:Nat,i=.int .i64 k/\k<=n/\Hid (∀x∈l.take k,x=0)) (λi _=>n-(intOf i).toNat)
 case atStart=>exact⟨rfl,0,rfl,zero_le _,I (by simp)⟩
 case round=>
  obtain⟨rfl,k,rfl,hk,hall⟩:=hrel;by_cases bb:k<n
  .have hkl':k<l.length:=by rw[<-bX.out];exact bb
   obtain⟨g,off,rfl,hc⟩:=aU.out (by intro e;have:=congrArg List.length e;rw[gw,length_nil]at this;omega);have c1:=hc k (by rw[gw];exact hkl');rw[ja l k hkl']at c1;have ek:Hid (l.take (k+1)=l.take k++[l[k]]):=I (by rw[take_add_one,bH hkl'];rfl);have gg:=I (b7 hkl');clear hc;generalize l[k]=x at *;by_cases am:x=0
   .subst am;have rS:Hid (∀y∈l.take (k+1),y=0):=I (λy hy=>by
     rw[ek.out]at hy;rcases List.mem_append.1 hy with hy | hy
     .exact hall.out y hy
     .exact List.mem_singleton.1 hy)
    clear hall ek gg;go_wp2;go_roundw
    case rel=>exact⟨trivial,k+1,by go_num,by omega,rS⟩
    case measure=>simp[intOf];omega
   .have d0:((x:Int) != 0)=true:=by rw[bne_iff_ne];omega
    have b2:Hid (r=false):=I (by rw[bt.out];exact bF (λh=>am (h.2 x gg)));clear hall ek gg am;go_wp2;go_ret;rw[b2.out];exact⟨rfl,rfl⟩
  .obtain rfl:k=n:=by omega
   have d0:decide (k<8)=r:=by
    have h:=hall.out;rw[bX.out,take_length]at h;rw[bt.out,<-bX.out];exact decide_eq_decide.2 ⟨λh1=>⟨h1,h⟩,λh1=>h1.1⟩
   have d1:decide ((k:Int)<8)=r:=by rw[<-d0];exact decide_eq_decide.2 (by omega)
   have vj:decide ((k:Int)<k)=false:=aT;clear hall;go_wp2;go_ret;exact⟨rfl,rfl⟩
theorem aoz(a b c:Int)(n:Nat)(w:ai)(az:n<=65535)(aS:1<=a/\a<=65533)(ak:1<=b/\b<=65533)(hc:1<=c/\c<=65533) :
  Calls prog 84 #[.agg #[.int .i64 a,.int .i64 b,.int .i64 c],.int .i64 n] w λe w'=>e=.returned (.int .i64 ((ka a b c (n:Int)).getD 0))/\Below w.heap.size w w':=by
 obtain⟨x,ah⟩:∃x,x=kl a b c (n:Int):=⟨_,rfl⟩;have akA:-9223372036854775808<=x/\x<=9223372036854775807:=by rw[ah];unfold kl;split;omega;split;omega;split<;>omega
 have ez:=I (λW=>alC a b c x W akA);obtain⟨z,aO⟩:∃z,z=ht a b c x:=⟨_,rfl⟩;rw[<-aO]at ez;have hoff:ka a b c (n:Int)=if z=(n:Int)then some x else none:=by
  unfold ka;rw[ay (by omega),<-ah,<-aO]
 rw[hoff];have sO:(n=0/\x=a)\/(n=1/\x=b)\/(n=2/\x=c)\/(2<n/\x=(n:Int)-2):=by
  rw[ah];unfold kl;by_cases af:2<n
  .rw[aA (by omega)];exact .inr (.inr (.inr ⟨af,rfl⟩))
  .rw[ay (by omega)];rcases(by omega:n=0\/n=1\/n=2)with rfl | rfl | rfl
   .exact .inl ⟨rfl,by simp⟩
   .exact .inr (.inl ⟨rfl,by simp⟩)
   .exact .inr (.inr (.inl ⟨rfl,by simp⟩))
 clear hoff ah aO;have dA:=(Below.refl w.heap.size w).alloc bh (.cells #[.int .i64 a,.int .i64 b,.int .i64 c] 30);have jW:=I dA;have gW:=Row.new w 30 [.int .i64 a,.int .i64 b,.int .i64 c];obtain⟨c0,c1,c2⟩:=dE gW;clear dA gW;have xg:(2<n/\decide ((n:Int)<3)=false)\/n<=2:=by
  by_cases h:2<n
  .exact .inl ⟨h,bF (by omega)⟩
  .exact .inr (by omega)
 by_cases he:z=(n:Int)
 .rw[aA he,b6];have d0:(z != (n:Int))=false:=by rw[he];simp
  clear he;rcases sO with⟨rfl,rfl⟩ | ⟨rfl,rfl⟩ | ⟨rfl,rfl⟩ | ⟨af,rfl⟩
  case' inr.inr.inr=>obtain⟨_,d3⟩:2<n/\decide ((n:Int)<3)=false:=⟨af,bF (by omega)⟩
  all_goals
   clear xg;go_enter func84,ntmps84
   go_wp2_with fail
   refine(ez.out _).mono ?_;rintro e aB ⟨rfl,aI⟩;have aV:=b9 jW aI;clear aI ez;go_wp2;go_ret;exact⟨rfl,aV⟩
 .rw[ay he,getD_none];have d0:(z != (n:Int))=true:=by rw[bne_iff_ne];exact he
  clear he;rcases sO with⟨rfl,rfl⟩ | ⟨rfl,rfl⟩ | ⟨rfl,rfl⟩ | ⟨af,rfl⟩
  case' inr.inr.inr=>obtain⟨_,d3⟩:2<n/\decide ((n:Int)<3)=false:=⟨af,bF (by omega)⟩
  all_goals
   clear xg;go_enter func84,ntmps84
   go_wp2_with fail
   refine(ez.out _).mono ?_;rintro e aB ⟨rfl,aI⟩;have aV:=b9 jW aI;clear aI ez;go_wp2;go_ret;exact⟨rfl,aV⟩
end Go.Proofs.YtgiicohbigiapaaGreat
