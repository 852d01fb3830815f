/- Contracts. -/
import Derived.Test.YtgiicohbigiapaaGreatOay
import Derived.Test.YtgiicohbigiapaaGreatOaw
import Derived.Test.YtgiicohbigiapaaGreatOau
import Derived.Test.YtgiicohbigiapaaGreatOz1
import Derived.Test.YtgiicohbigiapaaGreatOz0
set_option maxHeartbeats 4000000
set_option maxRecDepth 100000
open Go.Proofs.Tryz Go.Proofs.YtgiicohbigiapaaGreat.am List Nat Option
namespace Go.Proofs.YtgiicohbigiapaaGreat
open Go.RowKit
namespace am
theorem ahc(bs:ae)(m n:Int)(tt:m<=n)(t:ae×Nat)(h:jg bs m=some t):jg bs n=some t:=by
 unfold jg at h ⊢;cases bs with
|nil=>cases h
|cons k r=>
  dsimp only at h ⊢;split at h
  .next hc=>rw[aB ⟨hc.1,Int.le_trans hc.2.1 tt,hc.2.2⟩];exact h
  .cases h
theorem XO(T:ae):∀(l:List dx) (a:Nat),pi T a l->a+l.length<=T.length
|[],_,h=>h
|s::l,a,h=>by
  have h1:=XO T l _ h.2.2.2.2.2;have af:=h.1;rw[bY];omega
theorem arB(l:List dx):(l.map h9).map wZ=l:=by
 rw[List.map_map];have:(wZ ∘ h9)=id:=by
  funext s
  obtain⟨a,b,c⟩:=s;simp[wZ,h9]
 rw[this,List.map_id]
end am
theorem atY{T:ae}{a:Nat}{l:List am.dx}(h:pi T a l)(cq:T.length<=1000000000):wa (l.map h9):=λs ap=>by
 obtain⟨t,aE,rfl⟩:=List.mem_map.1 ap;have:=XR T l a h t aE;exact⟨⟨by show _<=(t.1:Int);omega,by show(t.1:Int)<=_;omega⟩,⟨by show _<=(t.2.1:Int);omega,by show(t.2.1:Int)<=_;omega⟩,⟨by show _<=(t.2.2:Int);omega,by show(t.2.2:Int)<=_;omega⟩⟩
theorem alb(D X E S:ae)(l:List am.dx)(cV:pi (D++X) D.length l)(fx:xO (hZ X 0 l) E)(cD:Cl (l.map h9) S)(hlen:(E++S).length<X.length):rk D X 2 (E++S):=by
 have he:=NP (D++X) l D.length cV;have uU:=FT l D.length 0;rw[fX]at uU;rw[aY]at he;have iq:=G0 X l 0 (by omega);have hcount:=XO (D++X) l D.length cV;rw[aY]at hcount;have aj:=cD.read [];rw[append_nil,arB,cQ]at aj;refine afk D X E S l (hZ X 0 l) (ahc E _ _ (by omega) _ fx.2.2.2) (aqP S _ _ (by omega) _ aj) ?_ fx.2.1 cD.lt hlen;rw[ae1 D X l X.length cV,az (Nat.lt_irrefl _)]
theorem afq(D X:ae)(v:Int)(w:ah)(cH:D.length<=256)(ck:X.length<=512)(hDlt:∀x∈D,x<256)(hXlt:∀x∈X,x<256)(aD:ec v) :
  Calls prog 17 #[.string (strOf X),.string (strOf D),.int .i64 v] w λe w'=>(∃T ok,e=.returned (.tuple #[.string (strOf T),.bool ok])/\T.length<=100000/\(∀x∈T,x<256)/\(ok=true->T.length<X.length->rk D X 2 T))/\av w w':=by
 have cN:=I (aox w D X v (by omega) (by omega) hDlt hXlt aD);rw[show D.length-600=0 by omega,drop_zero,take_of_length_le (by omega:X.length<=600)]at cN;have BJ:=I (λW A c (l:List am.dx) (hl:l.length<=600) (cV:pi (D++X) D.length l) (aj:lL W A l)=>aoF A c (l.map h9) W (by rw[cQ];omega) (atY cV (by rw[aY];omega)) (OU aj));have dO:Hid (∀l,pi (D++X) D.length l->k0 0 l<=X.length):=I (λl h=>by
  have h1:=NP (D++X) l D.length h;have af:=FT l D.length 0;rw[fX]at af;rw[aY]at h1;omega)
 have acR:=I (λW A c l (hl:l.length<=600) (he:k0 0 l<=X.length) (aj:lL W A l)=>aoe W X A c l (by omega) (by omega) hXlt he aj);have qz:=I (λW l (he:k0 0 l<=X.length)=>amM (hZ X 0 l) W (by have:=G0 X l 0 he;omega) (Np hXlt l 0));have ib:=I ck;have acS:=I (λl (he:k0 0 l<=X.length)=>G0 X l 0 he);clear cH hDlt hXlt aD ck;generalize strOf D=jY at *;generalize strOf X=kM at *;go_enter func17,ntmps17
 go_wp2_with fail
 refine cN.out.mono ?_;rintro e aw ⟨A,c,l,rfl,cg,hl,cV,_,aH⟩;have aN:=I aH;have tn:=BJ.out aw A c l hl cV cg;rw[cQ]at tn;have aca:=I tn;have fw:=I cg;have kh:=I cV;have mu:=dO.out l cV;clear aH cg cV tn;go_wp2_with fail
 refine aca.out.mono ?_;rintro e aC ⟨ax,aJ⟩;have bm:=b3 aN aJ;have ox:=I (acR.out aC A c l hl mu (fw.out.below aJ));have BS:=I (λW=>qz.out W l mu);have iq:=acS.out l mu;have hgen:∃S ok,e=.returned (.tuple #[.string (strOf S),.bool ok])/\S.length<=10000/\(∀x∈S,x<256)/\(ok=true->Cl (l.map h9) S):=by
  unfold o8 at ax;split at ax
  .obtain⟨S,cD,rfl⟩:=ax;exact⟨S,true,rfl,cD.len,cD.lt,λ_=>cD⟩
  .exact⟨[],false,ax,by simp,by simp,λh=>by cases h⟩
 obtain⟨S,ok,rfl,k2,Tb,Td⟩:=hgen;have cS:=I Tb;have aa2:=I Td;clear ax aJ Tb Td;go_wp2_with fail
 refine ox.out.mono ?_;rintro e a6 ⟨rfl,bA⟩;have b6:=b3 bm bA;clear bA;go_wp2_with fail
 refine(BS.out _).mono ?_;rintro e bH ⟨⟨E,fx,rfl⟩,bc⟩;have dt:=b3 b6 bc;have aiB:=fx.2.2.1;have ck:=ib.out;have jC:=lP (hZ X 0 l).length (by omega);have hadd:=λW=>ra E S (by omega) W
 have fe:Hid ((E++S).length<=100000/\(∀x∈E++S,x<256)/\(ok=true->(E++S).length<X.length->rk D X 2 (E++S))):=I ⟨by rw[aY];omega,Cp fx.2.1 cS.out,λh af=>alb D X E S l kh.out fx (aa2.out h) af⟩;clear fx bc ck aiB jC iq hl mu;go_wp2;go_ret2;exact⟨⟨E++S,ok,rfl,fe⟩,dt⟩
def aeB(D X:ae)(aP:Nat)(e:Ending):Prop:=∃k T,rk D X k T/\e=.returned (.tuple #[.string (strOf (fF k aP X++T)),.int .i64 0])
theorem afm(D X:ae)(aP:Nat)(v:Int)(w:ah)(cH:D.length<=256)(ck:X.length<=512)(hDlt:∀x∈D,x<256)(hXlt:∀x∈X,x<256)(ev:aP<=1073741824)(aD:ec v) :
  Calls prog 8 #[.string (strOf X),.string (strOf D),.int .i64 aP,.int .i64 v] w λe w'=>aeB D X aP e/\av w w':=by
 have lG:=I (afr X w (by omega) hXlt);have j2:=I (λW=>afq D X v W cH ck hDlt hXlt aD);have IC:=I (λW k T (hk:k<256) cq rW=>afd k aP X T W hk ev (by omega) cq hXlt rW);have ng:=I (afj D X hXlt);have hM:=cy X;have gd:=cy D;have d1:decide ((512:Int)<(X.length:Int))=false:=aU;have d2:decide ((256:Int)<(D.length:Int))=false:=aU;have d3:decide ((aP:Int)<0)=false:=aU;have d4:decide ((1073741824:Int)<aP)=false:=aU;have uk:=I hXlt;clear cH hDlt hXlt aD ev;by_cases dw:0<X.length/\X=List.replicate X.length (X[0]?.getD 0)
 .rw[bE dw]at lG;have qi:∀W:ah,(Instr.slice 9 (.string (strOf X)) none (some (.int .i64 1)) none).run prog W=.ok (.string (strOf [X[0]?.getD 0])) W:=λW=>by
   have h:=rb X 1 (by omega) W;have aG:X.take 1=[X[0]?.getD 0]:=by
    cases X with
   |nil=>simp at dw
   |cons x u=>rfl
   rw[aG]at h;exact h
  have hx256:X[0]?.getD 0<256:=by
   rw[bI dw.1];exact uk.out _ (b8 _)
  have jt:=I (afi D X _ hx256 dw.1 dw.2);have abB:Hid (∀W,Calls prog 16 #[.int .u64 1,.string (strOf X),.int .i64 aP,.string (strOf [X[0]?.getD 0])] W λe w'=>e=.returned (.string (strOf (fF 1 aP X++[X[0]?.getD 0])))/\av W w'):=
   I (λW=>IC.out W 1 [X[0]?.getD 0] (by decide) (by simp) (λx ai=>by rw[List.mem_singleton.1 ai];exact hx256))
  clear dw hx256;generalize X[0]?.getD 0=x at *;generalize strOf [x]=s1 at *;generalize strOf D=jY at *;generalize AI:strOf X=kM at *;clear AI;go_enter func8,ntmps8
  go_wp2_with fail
  refine lG.out.mono ?_;rintro e aw ⟨rfl,aH⟩;have aN:=I aH;clear aH;go_wp2_with fail
  refine(abB.out _).mono ?_;rintro e aC ⟨rfl,aJ⟩;have bm:=b3 aN aJ;clear aJ;go_wp2;go_ret2;exact⟨⟨1,[x],jt,rfl⟩,bm⟩
 .rw[bG dw]at lG;have abA:Hid (∀W,Calls prog 16 #[.int .u64 0,.string (strOf X),.int .i64 aP,.string (strOf X)] W λe w'=>e=.returned (.string (strOf (fF 0 aP X++X)))/\av W w'):=
   I (λW=>IC.out W 0 X (by decide) (by omega) uk.out)
  have abC:Hid (∀W T,T.length<=100000->(∀x∈T,x<256)->Calls prog 16 #[.int .u64 2,.string (strOf X),.int .i64 aP,.string (strOf T)] W λe w'=>e=.returned (.string (strOf (fF 2 aP X++T)))/\av W w'):=
   I (λW T h1 af=>IC.out W 2 T (by decide) (by omega) af)
  clear dw;generalize strOf D=jY at *;generalize strOf X=kM at *;go_enter func8,ntmps8
  go_wp2_with fail
  refine lG.out.mono ?_;rintro e aw ⟨rfl,aH⟩;have aN:=I aH;clear aH;go_wp2_with fail
  refine(j2.out _).mono ?_;rintro e aC ⟨⟨T,ok,rfl,cq,rW,jO⟩,aJ⟩;have bm:=b3 aN aJ;have b6:=I (λW=>abC.out W T cq rW);have Bs:=I jO;have si:=cy T;clear aJ jO rW;by_cases hy:ok=true/\T.length<X.length
  .obtain⟨rfl,au⟩:=hy;have jt:=I (Bs.out rfl au);have d5:decide ((T.length:Int)<(X.length:Int))=true:=cf;generalize cK:strOf T=q6 at *;clear cK;go_wp2_with fail
   refine(b6.out _).mono ?_;rintro e a6 ⟨rfl,bA⟩;have dt:=b3 bm bA;clear bA;go_wp2;go_ret2;exact⟨⟨2,T,jt,rfl⟩,dt⟩
  .have d5:(ok && decide ((T.length:Int)<(X.length:Int)))=false:=by
    cases ok with
   |false=>rfl
   |true=>rw[bG (λc=>hy ⟨rfl,by omega⟩)];rfl
   clear hy;generalize strOf T=q6 at *;have dX:=I (λW=>abA.out W);cases ok with
  |false=>
    go_wp2_with fail
    refine(dX.out _).mono ?_;rintro e a6 ⟨rfl,bA⟩;have dt:=b3 bm bA;clear bA;go_wp2;go_ret2;exact⟨⟨0,X,ng,rfl⟩,dt⟩
  |true=>
    rw[Bool.true_and]at d5;have aA:¬T.length<X.length:=λc=>by
     have:=of_decide_eq_false d5;omega
    have d6:decide (T.length<X.length)=false:=bG aA;go_wp2_with fail
    refine(dX.out _).mono ?_;rintro e a6 ⟨rfl,bA⟩;have dt:=b3 bm bA;clear bA;go_wp2;go_ret2;exact⟨⟨0,X,ng,rfl⟩,dt⟩
theorem afo(D X:ae)(aP v:Int)(w:ah)(h:512<X.length\/256<D.length) :
  Calls prog 8 #[.string (strOf X),.string (strOf D),.int .i64 aP,.int .i64 v] w λe w'=>e=.returned (.tuple #[.string (strOf []),.int .i64 5])/\av w w':=by
 have hM:=cy X;have gd:=cy D;generalize strOf D=jY at *;generalize strOf X=kM at *;by_cases h1:512<X.length
 .have d1:decide ((512:Int)<(X.length:Int))=true:=cf;clear h;go_enter func8,ntmps8
  go_wp2;go_ret2;exact⟨rfl,Below.refl _ _⟩
 .have d1:decide ((512:Int)<(X.length:Int))=false:=aU;have d2:decide ((256:Int)<(D.length:Int))=true:=cf;clear h;go_enter func8,ntmps8
  go_wp2;go_ret2;exact⟨rfl,Below.refl _ _⟩
theorem afn(D X:ae)(aP v:Int)(w:ah)(cH:D.length<=256)(ck:X.length<=512)(h:aP<0\/1073741824<aP) :
  Calls prog 8 #[.string (strOf X),.string (strOf D),.int .i64 aP,.int .i64 v] w λe w'=>e=.returned (.tuple #[.string (strOf []),.int .i64 1])/\av w w':=by
 have hM:=cy X;have gd:=cy D;have d1:decide ((512:Int)<(X.length:Int))=false:=aU;have d2:decide ((256:Int)<(D.length:Int))=false:=aU;generalize strOf D=jY at *;generalize strOf X=kM at *;by_cases h1:aP<0
 .have d3:decide (aP<0)=true:=bE h1;clear h cH ck;go_enter func8,ntmps8
  go_wp2;go_ret2;exact⟨rfl,Below.refl _ _⟩
 .have d3:decide (aP<0)=false:=bG h1;have d4:decide (1073741824<aP)=true:=cf;clear h cH ck;go_enter func8,ntmps8
  go_wp2;go_ret2;exact⟨rfl,Below.refl _ _⟩
end Go.Proofs.YtgiicohbigiapaaGreat
