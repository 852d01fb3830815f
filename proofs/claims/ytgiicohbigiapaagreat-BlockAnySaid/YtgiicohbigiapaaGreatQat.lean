/- Contracts. -/
import Derived.Test.YtgiicohbigiapaaGreatQap
import Derived.Test.YtgiicohbigiapaaGreatQag
import Derived.Test.YtgiicohbigiapaaGreatQz1
import Derived.Test.YtgiicohbigiapaaGreatQz0
set_option maxHeartbeats 4000000
set_option maxRecDepth 100000
open Go.Proofs.Tryz Go.Proofs.YtgiicohbigiapaaGreat.ao List Nat Option
namespace Go.Proofs.YtgiicohbigiapaaGreat
open Go.RowKit
def tq(s:ByteArray):b3:=.string s :: (List.replicate 2000 (.bool false)++(List.replicate 2003 (.int .i16 0)++List.replicate 2000 (.int .i16 0)))
theorem atG(W:ai):(zeroValue 147).run prog W=.ok (.agg (tq ⟨#[]⟩).toArray) W:=by kernel_rfl
theorem atI(s:ByteArray):(tq ⟨#[]⟩).toArray.setIfInBounds 0 (.string s)=(tq s).toArray:=by
 rw[setIfInBounds_toArray];rfl
theorem atH:¬(tq ⟨#[]⟩).toArray=#[]:=λh=>by
 have h1:=congrArg Array.toList h;rw[List.toList_toArray,tq]at h1;exact cons_ne_nil _ _ h1
structure yH(C:b3)(T P:ae)(L A:Nat->Nat):Prop where
 c0:C[0]?=some (.string (strOf T))
 noted:∀i,i<2000->C[1+i]?=some (.bool (decide (i∈P)))
 last:∀c,c<2003->C[2001+c]?=some (.int .i16 (L c))
 ahead:∀i,i<2000->C[4004+i]?=some (.int .i16 (A i))
theorem yH.new(T:ae):yH (tq (strOf T)) T [] (λ_=>0) (λ_=>0):=by
 refine⟨rfl,λi ax=>?_,λc hc=>?_,λi ax=>?_⟩
 .rw[tq,Nat.add_comm,dU,hZ (by rw[jl];exact ax),getElem?_replicate_of_lt ax];simp
 .rw[tq,show 2001+c=(2000+c)+1 by omega,dU,jk (by rw[jl];omega),jl,Nat.add_sub_cancel_left,hZ (by rw[jl];exact hc),getElem?_replicate_of_lt hc];rfl
 .rw[tq,show 4004+i=(2000+(2003+i))+1 by omega,dU,jk (by rw[jl];omega),jl,Nat.add_sub_cancel_left,jk (by rw[jl];omega),jl,Nat.add_sub_cancel_left,getElem?_replicate_of_lt ax];rfl
theorem mK{α:Type}(l:List α)(i j:Nat)(x:α)(h:i≠j):(l.set i x)[j]?=l[j]?:=getElem?_set_ne h
theorem LQ{α:Type}{l:List α}{i:Nat}{x y:α}(h:l[i]?=some y):(l.set i x)[i]?=some x:=by
 have ax:i<l.length:=by
  rcases eP i l.length with h1 | h1
  .exact h1
  .rw[getElem?_eq_none h1]at h;cases h
 rw[getElem?_set_self ax]
theorem yH.note{C:b3}{T P:ae}{L A:Nat->Nat}(h:yH C T P L A)(a c:Nat)(aS:a<2000)(hc:c<2003) :
  yH (((C.set (1+a) (.bool true)).set (4004+a) (.int .i16 (L c))).set (2001+c) (.int .i16 ((a+1:Nat):Int))) T (P++[a]) (λx=>if x=c then a+1 else L x) (λp=>if p=a then L c else A p):=by
 refine⟨?_,λi ax=>?_,λx ah=>?_,λi ax=>?_⟩
 .rw[mK _ _ _ _ (by omega),mK _ _ _ _ (by omega),mK _ _ _ _ (by omega)];exact h.c0
 .rw[mK _ _ _ _ (by omega),mK _ _ _ _ (by omega)];by_cases ze:i=a
  .subst ze;rw[LQ (h.noted i ax)];simp
  .rw[mK _ _ _ _ (by omega),h.noted i ax];simp[ze]
 .by_cases xO:x=c
  .subst xO;rw[LQ (y:=.int .i16 (L x)) (by rw[mK _ _ _ _ (by omega),mK _ _ _ _ (by omega)];exact h.last x ah)];simp
  .rw[mK _ _ _ _ (by omega),mK _ _ _ _ (by omega),mK _ _ _ _ (by omega),h.last x ah,ay xO]
 .rw[mK _ _ _ _ (by omega)];by_cases ze:i=a
  .subst ze;rw[LQ (y:=.int .i16 (A i)) (by rw[mK _ _ _ _ (by omega)];exact h.ahead i ax)];simp
  .rw[mK _ _ _ _ (by omega),mK _ _ _ _ (by omega),h.ahead i ax,ay ze]
def jK(w:ai)(b:Nat)(T P:ae):Prop:=∃(C:b3) (L A:Nat->Nat),Row w b 147 C/\yH C T P L A/\yb T P L A/\ao.Places T P
theorem jK.keep{w w':ai}{b:Nat}{T P:ae}(h:jK w b T P)(ak:w'.heap[b]?=w.heap[b]?):jK w' b T P:=by
 obtain⟨C,L,A,h1,af⟩:=h;exact⟨C,L,A,h1.keep ak,af⟩
theorem jK.lt{w:ai}{b:Nat}{T P:ae}(h:jK w b T P):b<w.heap.size:=by
 obtain⟨C,L,A,h1,af⟩:=h;exact h1.lt
theorem jK.text{w:ai}{b:Nat}{T P:ae}(h:jK w b T P):w.cell? ⟨b,0,none⟩=some (.string (strOf T)):=by
 obtain⟨C,L,A,h1,af,_⟩:=h;rw[h1.cell 0,af.c0]
theorem atD(w:ai)(T:ae)(cp:T.length<=2000) :
  Calls prog 58 #[.string (strOf T)] w λe w'=>∃b,e=.returned (.pointer (some ⟨b,0,none⟩))/\jK w' b T []/\w.heap.size<=b/\Below w.heap.size w w':=by
 have bI:=cZ T;have hcut:∀W:ai,(Instr.slice 9 (.string (strOf T)) none (some (.int .i64 (T.length:Int))) none).run prog W=.ok (.string (strOf T)) W:=λW=>by
  have h:=ti T T.length bh W;rwa [take_length]at h
 have hmin:min (T.length:Int) 2000=(T.length:Int):=by omega
 have ly:=I (aqg (strOf T) w (by rw[bI];omega));have aO:=atG;have BM:=atI (strOf T);have awL:=atH;have m9:=I (yH.new T);generalize tq (strOf T)=C at *;generalize (tq ⟨#[]⟩).toArray=Z at *;generalize strOf T=ss at *;go_enter func58,ntmps58
 go_wp2_with fail
 refine ly.out.mono ?_;rintro e au ⟨rfl,aH⟩;have aK:=I aH;clear aH ly;go_wp2;go_ret;exact⟨_,rfl,⟨C,_,_,Row.new au _ C,m9.out,yb.zero T,(λp aw=>by simp at aw)⟩,aK.out.size,aK.out.alloc aK.out.size _⟩
theorem afa(X:ae)(w:ai)(hl:X.length<=1000)(av:∀x∈X,x<256) :
  Calls prog 15 #[.string (strOf X)] w λe w'=>e=.returned (.bool (decide (0<X.length/\X=List.replicate X.length (X[0]?.getD 0))))/\Below w.heap.size w w':=by
 cases X with
 | nil=>
  rw[bF (by simp)];have he:=vl [];rw[bG rfl]at he;go_enter func15,ntmps15
  go_wp2;go_ret;exact⟨rfl,Below.refl _ _⟩
 | cons x u=>
  have he:=vl (x :: u);rw[bF (by simp)]at he;have qy:∀W:ai,(Instr.slice 9 (.string (strOf (x :: u))) none (some (.int .i64 1)) none).run prog W=.ok (.string (strOf [x])) W:=λW=>ti (x :: u) 1 (by simp) W
  have az:(x :: u).length<=1000:=hl;have Hrep:=I (λW=>PJ x (x :: u).length W (by omega));have avh:=Fe (x :: u) (List.replicate (x :: u).length x) av (λy hy=>by rw[(List.mem_replicate.1 hy).2];exact av x ea);rw[show(decide (0<(x :: u).length/\x :: u=List.replicate (x :: u).length ((x :: u)[0]?.getD 0)))=decide (x :: u=List.replicate (x :: u).length x)from decide_eq_decide.2 ⟨λc=>c.2,λc=>⟨by simp,c⟩⟩];have bI:=cZ (x :: u);have Nz:((strOf (x :: u)).toList == (ByteArray.mk #[]).toList)=false:=by
   rw[show(ByteArray.mk #[])=strOf []from rfl,Fe _ _ av (by simp)];rfl
  generalize decide (x :: u=List.replicate (x :: u).length x)=B at *;generalize strOf (List.replicate (x :: u).length x)=aaC at *;generalize (x :: u).length=n at *;generalize strOf (x :: u)=rF at *;generalize strOf [x]=s1 at *;clear av;go_enter func15,ntmps15
  go_wp2_with fail
  refine(Hrep.out _).mono ?_;rintro e au ⟨rfl,aH⟩;go_wp2;go_ret;exact⟨rfl,aH⟩
theorem aeZ(k a6:Nat)(X T:ae)(w:ai)(hk:k<256)(eE:a6<=1073741824)(cK:X.length<=100000)(cp:T.length<=1000000)(hXlt:∀x∈X,x<256)(sx:∀x∈T,x<256) :
  Calls prog 16 #[.int .u64 k,.string (strOf X),.int .i64 a6,.string (strOf T)] w λe w'=>e=.returned (.string (strOf (hB k a6 X++T)))/\Below w.heap.size w w':=by
 have bI:=cZ X;have h1:=nS a6 (by omega);have af:=nS X.length (by omega);have hnew:=fM.new w;have nn:=(Below.refl w.heap.size w).alloc bh (.cells #[.pointer none,.int .i64 0] 62);have aL:=λW b h=>I9 b k 1 [] W (by omega) (by omega) (by omega) (by simp) h
 rw[Uz k hk]at aL;have aZ:=λW b h=>Ca b a6 [k] W (by omega) (by simp) h
 have bl:=λW b h=>Ca b X.length ([k]++br a6) W (by omega) (by rw[aY,length_singleton];omega) h
 have XG:=λW=>aaY X W (by omega) hXlt
 have Bj:=λW b h=>I9 b (ao.sumOf X) 8 ([k]++br a6++br X.length) W (by omega) (by omega) (abp X) (by simp only[aY,length_singleton];omega) h
 have o5:[k]++br a6++br X.length++ao.bytesOf (ao.sumOf X) (hi 8)=hB k a6 X:=by
  rw[show hi 8=8 by decide];unfold hB;simp
 rw[o5]at Bj;have ajI:(hB k a6 X).length<=100:=by rw[y3];omega
 have hraw:=λW b h=>uA b (hB k a6 X) T W (by omega) h
 have hall:∀x∈hB k a6 X++T,x<256:=Di (λx ah=>by
  unfold hB at ah;rcases List.mem_cons.1 ah with rfl | ah
  .exact hk
  .rcases List.mem_append.1 ah with ah | ah
   .exact qr a6 (by omega) x ah
   .rcases List.mem_append.1 ah with ah | ah
    .exact qr X.length (by omega) x ah
    .exact u9 _ _ x ah) sx
 have hstr:=λW b h=>wv b (hB k a6 X++T) W (by rw[aY];omega) hall h
 have lB:=I hnew;have eZ:=I nn;have bk:=I aL;have cv:=I aZ;have cN:=I bl;have AC:=I XG;have FR:=I Bj;have ef:=I hraw;have fO:=I hstr;have hw:IntKind.u64.wrap (a6:Int)=a6:=Fs a6 (by omega);have nv:IntKind.u64.wrap (X.length:Int)=(X.length:Int):=Fs X.length (by omega);clear hnew nn aL aZ bl XG Bj hraw hstr o5 hall ajI hXlt sx h1 af;generalize strOf (hB k a6 X++T)=aaC at *;generalize hB k a6 X=H at *;generalize [k]++br a6++br X.length=atN at *;generalize [k]++br a6=atM at *;generalize [k]=atL at *;generalize ao.sumOf X=y at *;generalize strOf X=rF at *;generalize X.length=n at *;generalize strOf T=rE at *;go_enter func16,ntmps16
 go_wp2_with fail
 refine(bk.out _ _ lB).mono ?_;rintro e au ⟨rfl,bL,aZ⟩;have aK:=I (eZ.out.trans (below_grown aZ bh eZ.out.size));have k0:=I (cv.out au _ bL);clear bL aZ eZ bk cv lB;go_wp2_with fail
 refine k0.out.mono ?_;rintro e aB ⟨rfl,db,bl⟩;have aV:=I (aK.out.trans (below_grown bl bh aK.out.size));have gp:=I (cN.out aB _ db);clear db bl aK k0 cN;go_wp2_with fail
 refine gp.out.mono ?_;rintro e a1 ⟨rfl,lh,cs⟩;have bE:=I (aV.out.trans (below_grown cs bh aV.out.size));have wD:=I lh;clear lh cs aV gp;go_wp2_with fail
 refine(AC.out _).mono ?_;rintro e bA ⟨rfl,a8⟩;have cx:=b9 bE a8;have qQ:=I (FR.out bA _ (wD.out.below a8));clear a8 bE wD FR AC;go_wp2_with fail
 refine qQ.out.mono ?_;rintro e dG ⟨rfl,jA,fp⟩;have dh:=I (cx.out.trans (below_grown fp bh cx.out.size));have k1:=I (ef.out dG _ jA);clear jA fp cx qQ ef;go_wp2_with fail
 refine k1.out.mono ?_;rintro e dp ⟨rfl,vz,gu⟩;have iP:=I (dh.out.trans (below_grown gu bh dh.out.size));have uK:=I (fO.out dp _ vz);clear vz gu dh k1 fO;go_wp2_with fail
 refine uK.out.mono ?_;rintro e dt ⟨rfl,fZ⟩;have h2:=b9 iP fZ;clear fZ iP uK;go_wp2;go_ret;exact⟨rfl,h2⟩
end Go.Proofs.YtgiicohbigiapaaGreat
