/- Contracts. -/
import Derived.Test.YtgiicohbigiapaaGreatQay
import Derived.Test.YtgiicohbigiapaaGreatQaw
import Derived.Test.YtgiicohbigiapaaGreatQau
import Derived.Test.YtgiicohbigiapaaGreatQz1
import Derived.Test.YtgiicohbigiapaaGreatQz0
set_option maxHeartbeats 4000000
set_option maxRecDepth 100000
open Go.Proofs.Tryz Go.Proofs.YtgiicohbigiapaaGreat.ao List Nat Option
namespace Go.Proofs.YtgiicohbigiapaaGreat
open Go.RowKit
namespace ao
theorem agT(bs:ae)(m n:Int)(ue:m<=n)(t:ae×Nat)(h:jv bs m=some t):jv bs n=some t:=by
 unfold jv at h ⊢;cases bs with
 | nil=>cases h
 | cons k r=>
  dsimp only at h ⊢;split at h
  .next hc=>rw[aA ⟨hc.1,Int.le_trans hc.2.1 ue,hc.2.2⟩];exact h
  .cases h
theorem ZF(T:ae):∀(l:List dC) (a:Nat),pB T a l->a+l.length<=T.length
 | [],_,h=>h
 | s :: l,a,h=>by
  have h1:=ZF T l _ h.2.2.2.2.2;have af:=h.1;rw[b1];omega
theorem arf(l:List dC):(l.map iu).map xT=l:=by
 rw[List.map_map];have:(xT ∘ iu)=id:=by
  funext s
  obtain⟨a,b,c⟩:=s;simp[xT,iu]
 rw[this,List.map_id]
end ao
theorem atE{T:ae}{a:Nat}{l:List ao.dC}(h:pB T a l)(cp:T.length<=1000000000):xa (l.map iu):=λs ap=>by
 obtain⟨t,aC,rfl⟩:=List.mem_map.1 ap;have:=ZI T l a h t aC;exact⟨⟨by show _<=(t.1:Int);omega,by show(t.1:Int)<=_;omega⟩,⟨by show _<=(t.2.1:Int);omega,by show(t.2.1:Int)<=_;omega⟩,⟨by show _<=(t.2.2:Int);omega,by show(t.2.2:Int)<=_;omega⟩⟩
theorem akO(D X E S:ae)(l:List ao.dC)(cW:pB (D++X) D.length l)(fD:yK (ia X 0 l) E)(cu:De (l.map iu) S)(hlen:(E++S).length<X.length):rO D X 2 (E++S):=by
 have he:=OT (D++X) l D.length cW;have vD:=G7 l D.length 0;rw[ga]at vD;rw[aY]at he;have iE:=H5 X l 0 (by omega);have hcount:=ZF (D++X) l D.length cW;rw[aY]at hcount;have aj:=cu.read [];rw[append_nil,arf,cQ]at aj;refine ae6 D X E S l (ia X 0 l) (agT E _ _ (by omega) _ fD.2.2.2) (aqu S _ _ (by omega) _ aj) ?_ fD.2.1 cu.lt hlen;rw[aeP D X l X.length cW,ay (Nat.lt_irrefl _)]
theorem ae9(D X:ae)(v:Int)(w:ai)(cR:D.length<=256)(cK:X.length<=512)(hDlt:∀x∈D,x<256)(hXlt:∀x∈X,x<256)(aE:en v) :
  Calls prog 17 #[.string (strOf X),.string (strOf D),.int .i64 v] w λe w'=>(∃T ok,e=.returned (.tuple #[.string (strOf T),.bool ok])/\T.length<=100000/\(∀x∈T,x<256)/\(ok=true->T.length<X.length->rO D X 2 T))/\Below w.heap.size w w':=by
 have cb:=I (aoa w D X v (by omega) (by omega) hDlt hXlt aE);rw[show D.length-600=0 by omega,drop_zero,take_of_length_le (by omega:X.length<=600)]at cb;have CB:=I (λW A c (l:List ao.dC) (hl:l.length<=600) (cW:pB (D++X) D.length l) (aj:l2 W A l)=>aoi A c (l.map iu) W (by rw[cQ];omega) (atE cW (by rw[aY];omega)) (PT aj));have dw:Hid (∀l,pB (D++X) D.length l->k9 0 l<=X.length):=I (λl h=>by
  have h1:=OT (D++X) l D.length h;have af:=G7 l D.length 0;rw[ga]at af;rw[aY]at h1;omega)
 have RQ:=I (λW A c l (hl:l.length<=600) (he:k9 0 l<=X.length) (aj:l2 W A l)=>anR W X A c l (by omega) (by omega) hXlt he aj);have oe:=I (λW l (he:k9 0 l<=X.length)=>amq (ia X 0 l) W (by have:=H5 X l 0 he;omega) (On hXlt l 0));have hP:=I cK;have RR:=I (λl (he:k9 0 l<=X.length)=>H5 X l 0 he);clear cR hDlt hXlt aE cK;generalize strOf D=nB at *;generalize strOf X=rF at *;go_enter func17,ntmps17
 go_wp2_with fail
 refine cb.out.mono ?_;rintro e au ⟨A,c,l,rfl,cd,hl,cW,_,aH⟩;have aK:=I aH;have tZ:=CB.out au A c l hl cW cd;rw[cQ]at tZ;have Ru:=I tZ;have dx:=I cd;have iQ:=I cW;have mO:=dw.out l cW;clear aH cd cW tZ cb CB;go_wp2_with fail
 refine Ru.out.mono ?_;rintro e aB ⟨aw,aI⟩;have aV:=b9 aK aI;have nF:=I (RQ.out aB A c l hl mO (dx.out.below aI));have Ap:=I (λW=>oe.out W l mO);have iE:=RR.out l mO;have hgen:∃S ok,e=.returned (.tuple #[.string (strOf S),.bool ok])/\S.length<=10000/\(∀x∈S,x<256)/\(ok=true->De (l.map iu) S):=by
  unfold pv at aw;split at aw
  .obtain⟨S,cu,rfl⟩:=aw;exact⟨S,true,rfl,cu.len,cu.lt,λ_=>cu⟩
  .exact⟨[],false,aw,by simp,by simp,λh=>by cases h⟩
 obtain⟨S,ok,rfl,ld,tV,Vb⟩:=hgen;have cI:=I tV;have QM:=I Vb;clear aw aI Ru aK dx RQ oe tV Vb;go_wp2_with fail
 refine nF.out.mono ?_;rintro e a1 ⟨rfl,bz⟩;have bE:=b9 aV bz;clear bz aV nF;go_wp2_with fail
 refine(Ap.out _).mono ?_;rintro e bA ⟨⟨E,fD,rfl⟩,a8⟩;have cx:=b9 bE a8;have aig:=fD.2.2.1;have cK:=hP.out;have jQ:=nS (ia X 0 l).length (by omega);have hadd:=λW=>B8 E S (by omega) W
 have ey:Hid ((E++S).length<=100000/\(∀x∈E++S,x<256)/\(ok=true->(E++S).length<X.length->rO D X 2 (E++S))):=I ⟨by rw[aY];omega,Di fD.2.1 cI.out,λh af=>akO D X E S l iQ.out fD (QM.out h) af⟩;clear fD a8 bE Ap cI QM iQ hP cK aig jQ RR iE hl mO dw;go_wp2;go_ret2;exact⟨⟨E++S,ok,rfl,ey⟩,cx⟩
def aep(D X:ae)(a6:Nat)(e:Ending):Prop:=∃k T,rO D X k T/\e=.returned (.tuple #[.string (strOf (hB k a6 X++T)),.int .i64 0])
theorem ae8(D X:ae)(a6:Nat)(v:Int)(w:ai)(cR:D.length<=256)(cK:X.length<=512)(hDlt:∀x∈D,x<256)(hXlt:∀x∈X,x<256)(eE:a6<=1073741824)(aE:en v) :
  Calls prog 8 #[.string (strOf X),.string (strOf D),.int .i64 a6,.int .i64 v] w λe w'=>aep D X a6 e/\Below w.heap.size w w':=by
 have jW:=I (afa X w (by omega) hXlt);have gg:=I (λW=>ae9 D X v W cR cK hDlt hXlt aE);have Cq:=I (λW k T (hk:k<256) cp sx=>aeZ k a6 X T W hk eE (by omega) cp hXlt sx);have my:=I (ae5 D X hXlt);have jB:=cZ X;have gT:=cZ D;have d1:decide ((512:Int)<(X.length:Int))=false:=aT;have d2:decide ((256:Int)<(D.length:Int))=false:=aT;have d3:decide ((a6:Int)<0)=false:=aT;have d4:decide ((1073741824:Int)<a6)=false:=aT;have og:=I hXlt;clear cR hDlt hXlt aE eE;by_cases dA:0<X.length/\X=List.replicate X.length (X[0]?.getD 0)
 .rw[bG dA]at jW;have qy:∀W:ai,(Instr.slice 9 (.string (strOf X)) none (some (.int .i64 1)) none).run prog W=.ok (.string (strOf [X[0]?.getD 0])) W:=λW=>by
   have h:=ti X 1 (by omega) W;have aF:X.take 1=[X[0]?.getD 0]:=by
    cases X with
    | nil=>simp at dA
    | cons x u=>rfl
   rw[aF]at h;exact h
  have hx256:X[0]?.getD 0<256:=by
   rw[bH dA.1];exact og.out _ (b7 _)
  have iR:=I (ae4 D X _ hx256 dA.1 dA.2);have Q8:Hid (∀W,Calls prog 16 #[.int .u64 1,.string (strOf X),.int .i64 a6,.string (strOf [X[0]?.getD 0])] W λe w'=>e=.returned (.string (strOf (hB 1 a6 X++[X[0]?.getD 0])))/\Below W.heap.size W w'):=
   I (λW=>Cq.out W 1 [X[0]?.getD 0] (by decide) (by simp) (λx ah=>by rw[List.mem_singleton.1 ah];exact hx256))
  clear Cq gg dA hx256 my og;generalize X[0]?.getD 0=x at *;generalize strOf [x]=s1 at *;generalize strOf D=nB at *;generalize BD:strOf X=rF at *;clear BD;go_enter func8,ntmps8
  go_wp2_with fail
  refine jW.out.mono ?_;rintro e au ⟨rfl,aH⟩;have aK:=I aH;clear aH jW;go_wp2_with fail
  refine(Q8.out _).mono ?_;rintro e aB ⟨rfl,aI⟩;have aV:=b9 aK aI;clear aI aK Q8;go_wp2;go_ret2;exact⟨⟨1,[x],iR,rfl⟩,aV⟩
 .rw[bF dA]at jW;have Q7:Hid (∀W,Calls prog 16 #[.int .u64 0,.string (strOf X),.int .i64 a6,.string (strOf X)] W λe w'=>e=.returned (.string (strOf (hB 0 a6 X++X)))/\Below W.heap.size W w'):=
   I (λW=>Cq.out W 0 X (by decide) (by omega) og.out)
  have Q9:Hid (∀W T,T.length<=100000->(∀x∈T,x<256)->Calls prog 16 #[.int .u64 2,.string (strOf X),.int .i64 a6,.string (strOf T)] W λe w'=>e=.returned (.string (strOf (hB 2 a6 X++T)))/\Below W.heap.size W w'):=
   I (λW T h1 af=>Cq.out W 2 T (by decide) (by omega) af)
  clear Cq dA og;generalize strOf D=nB at *;generalize strOf X=rF at *;go_enter func8,ntmps8
  go_wp2_with fail
  refine jW.out.mono ?_;rintro e au ⟨rfl,aH⟩;have aK:=I aH;clear aH jW;go_wp2_with fail
  refine(gg.out _).mono ?_;rintro e aB ⟨⟨T,ok,rfl,cp,sx,j2⟩,aI⟩;have aV:=b9 aK aI;have bE:=I (λW=>Q9.out W T cp sx);have wy:=I j2;have sT:=cZ T;clear aI aK gg j2 sx Q9;by_cases hy:ok=true/\T.length<X.length
  .obtain⟨rfl,av⟩:=hy;have iR:=I (wy.out rfl av);have d5:decide ((T.length:Int)<(X.length:Int))=true:=cl;clear wy;generalize cS:strOf T=rE at *;clear cS;go_wp2_with fail
   refine(bE.out _).mono ?_;rintro e a1 ⟨rfl,bz⟩;have cx:=b9 aV bz;clear bz aV bE;go_wp2;go_ret2;exact⟨⟨2,T,iR,rfl⟩,cx⟩
  .have d5:(ok && decide ((T.length:Int)<(X.length:Int)))=false:=by
    cases ok with
    | false=>rfl
    | true=>rw[bF (λc=>hy ⟨rfl,by omega⟩)];rfl
   clear wy hy bE;generalize strOf T=rE at *;have dh:=I (λW=>Q7.out W);clear Q7;cases ok with
   | false=>
    go_wp2_with fail
    refine(dh.out _).mono ?_;rintro e a1 ⟨rfl,bz⟩;have cx:=b9 aV bz;clear bz aV dh;go_wp2;go_ret2;exact⟨⟨0,X,my,rfl⟩,cx⟩
   | true=>
    rw[Bool.true_and]at d5;have az:¬T.length<X.length:=λc=>by
     have:=of_decide_eq_false d5;omega
    have d6:decide (T.length<X.length)=false:=bF az;go_wp2_with fail
    refine(dh.out _).mono ?_;rintro e a1 ⟨rfl,bz⟩;have cx:=b9 aV bz;clear bz aV dh;go_wp2;go_ret2;exact⟨⟨0,X,my,rfl⟩,cx⟩
end Go.Proofs.YtgiicohbigiapaaGreat
