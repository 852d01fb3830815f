/- Contracts. -/
import Derived.Test.YtgiicohbigiapaaGreatOap
import Derived.Test.YtgiicohbigiapaaGreatOag
import Derived.Test.YtgiicohbigiapaaGreatOz1
import Derived.Test.YtgiicohbigiapaaGreatOz0
set_option maxHeartbeats 4000000
set_option maxRecDepth 100000
open Go.Proofs.Tryz Go.Proofs.YtgiicohbigiapaaGreat.am List Nat Option
namespace Go.Proofs.YtgiicohbigiapaaGreat
open Go.RowKit
def sM(s:ByteArray):b1:=.string s::(List.replicate 2000 (.bool false)++(List.replicate 2003 (.int .i16 0)++List.replicate 2000 (.int .i16 0)))
theorem at0(W:ah):(zeroValue 147).run prog W=.ok (.agg (sM ⟨#[]⟩).toArray) W:=by kernel_rfl
theorem at2(s:ByteArray):(sM ⟨#[]⟩).toArray.setIfInBounds 0 (.string s)=(sM s).toArray:=by
 rw[setIfInBounds_toArray];rfl
theorem at1:¬(sM ⟨#[]⟩).toArray=#[]:=λh=>by
 have h1:=congrArg Array.toList h;rw[List.toList_toArray,sM]at h1;exact cons_ne_nil _ _ h1
structure xL(C:b1)(T P:ae)(L A:Nat->Nat):Prop where
 c0:C[0]?=some (.string (strOf T))
 noted:∀i,i<2000->C[1+i]?=some (.bool (decide (i∈P)))
 last:∀c,c<2003->C[2001+c]?=some (.int .i16 (L c))
 ahead:∀i,i<2000->C[4004+i]?=some (.int .i16 (A i))
theorem xL.new(T:ae):xL (sM (strOf T)) T [] (λ_=>0) (λ_=>0):=by
 refine⟨rfl,λi ay=>?_,λc hc=>?_,λi ay=>?_⟩
 .rw[sM,Nat.add_comm,dJ,hO (by rw[iZ];exact ay),getElem?_replicate_of_lt ay];simp
 .rw[sM,show 2001+c=(2000+c)+1 by omega,dJ,iY (by rw[iZ];omega),iZ,Nat.add_sub_cancel_left,hO (by rw[iZ];exact hc),getElem?_replicate_of_lt hc];rfl
 .rw[sM,show 4004+i=(2000+(2003+i))+1 by omega,dJ,iY (by rw[iZ];omega),iZ,Nat.add_sub_cancel_left,iY (by rw[iZ];omega),iZ,Nat.add_sub_cancel_left,getElem?_replicate_of_lt ay];rfl
theorem ml{α:Type}(l:List α)(i j:Nat)(x:α)(h:i≠j):(l.set i x)[j]?=l[j]?:=getElem?_set_ne h
theorem KV{α:Type}{l:List α}{i:Nat}{x y:α}(h:l[i]?=some y):(l.set i x)[i]?=some x:=by
 have ay:i<l.length:=by
  rcases eF i l.length with h1|h1
  .exact h1
  .rw[getElem?_eq_none h1]at h;cases h
 rw[getElem?_set_self ay]
theorem xL.note{C:b1}{T P:ae}{L A:Nat->Nat}(h:xL C T P L A)(a c:Nat)(aV:a<2000)(hc:c<2003) :
  xL (((C.set (1+a) (.bool true)).set (4004+a) (.int .i16 (L c))).set (2001+c) (.int .i16 ((a+1:Nat):Int))) T (P++[a]) (λx=>if x=c then a+1 else L x) (λp=>if p=a then L c else A p):=by
 refine⟨?_,λi ay=>?_,λx ai=>?_,λi ay=>?_⟩
 .rw[ml _ _ _ _ (by omega),ml _ _ _ _ (by omega),ml _ _ _ _ (by omega)];exact h.c0
 .rw[ml _ _ _ _ (by omega),ml _ _ _ _ (by omega)];by_cases yk:i=a
  .subst yk;rw[KV (h.noted i ay)];simp
  .rw[ml _ _ _ _ (by omega),h.noted i ay];simp[yk]
 .by_cases wU:x=c
  .subst wU;rw[KV (y:=.int .i16 (L x)) (by rw[ml _ _ _ _ (by omega),ml _ _ _ _ (by omega)];exact h.last x ai)];simp
  .rw[ml _ _ _ _ (by omega),ml _ _ _ _ (by omega),ml _ _ _ _ (by omega),h.last x ai,az wU]
 .rw[ml _ _ _ _ (by omega)];by_cases yk:i=a
  .subst yk;rw[KV (y:=.int .i16 (A i)) (by rw[ml _ _ _ _ (by omega)];exact h.ahead i ay)];simp
  .rw[ml _ _ _ _ (by omega),ml _ _ _ _ (by omega),h.ahead i ay,az yk]
def jv(w:ah)(b:Nat)(T P:ae):Prop:=∃(C:b1) (L A:Nat->Nat),Row w b 147 C/\xL C T P L A/\xg T P L A/\am.Places T P
theorem jv.keep{w w':ah}{b:Nat}{T P:ae}(h:jv w b T P)(ak:w'.heap[b]?=w.heap[b]?):jv w' b T P:=by
 obtain⟨C,L,A,h1,af⟩:=h;exact⟨C,L,A,h1.keep ak,af⟩
theorem jv.lt{w:ah}{b:Nat}{T P:ae}(h:jv w b T P):b<w.heap.size:=by
 obtain⟨C,L,A,h1,af⟩:=h;exact h1.lt
theorem jv.text{w:ah}{b:Nat}{T P:ae}(h:jv w b T P):w.cell? ⟨b,0,none⟩=some (.string (strOf T)):=by
 obtain⟨C,L,A,h1,af,_⟩:=h;rw[h1.cell 0,af.c0]
theorem atX(w:ah)(T:ae)(cq:T.length<=2000) :
  Calls prog 58 #[.string (strOf T)] w λe w'=>∃b,e=.returned (.pointer (some ⟨b,0,none⟩))/\jv w' b T []/\w.heap.size<=b/\av w w':=by
 have bB:=cy T;have hcut:∀W:ah,(Instr.slice 9 (.string (strOf T)) none (some (.int .i64 (T.length:Int))) none).run prog W=.ok (.string (strOf T)) W:=λW=>by
  have h:=rb T T.length bl W;rwa [take_length]at h
 have hmin:min (T.length:Int) 2000=(T.length:Int):=by omega
 have ov:=I (aqB (strOf T) w (by rw[bB];omega));have aQ:=at0;have AS:=at2 (strOf T);have aw8:=at1;have oA:=I (xL.new T);generalize sM (strOf T)=C at *;generalize (sM ⟨#[]⟩).toArray=Z at *;generalize strOf T=ss at *;go_enter func58,ntmps58
 go_wp2_with fail
 refine ov.out.mono ?_;rintro e aw ⟨rfl,aH⟩;have aN:=I aH;clear aH;go_wp2;go_ret;exact⟨_,rfl,⟨C,_,_,Row.new aw _ C,oA.out,xg.zero T,(λp ax=>by simp at ax)⟩,aN.out.size,aN.out.alloc aN.out.size _⟩
theorem afr(X:ae)(w:ah)(hl:X.length<=1000)(au:∀x∈X,x<256) :
  Calls prog 15 #[.string (strOf X)] w λe w'=>e=.returned (.bool (decide (0<X.length/\X=List.replicate X.length (X[0]?.getD 0))))/\av w w':=by
 cases X with
|nil=>
  rw[bG (by simp)];have he:=uE [];rw[bE rfl]at he;go_enter func15,ntmps15
  go_wp2;go_ret;exact⟨rfl,Below.refl _ _⟩
|cons x u=>
  have he:=uE (x::u);rw[bG (by simp)]at he;have qi:∀W:ah,(Instr.slice 9 (.string (strOf (x::u))) none (some (.int .i64 1)) none).run prog W=.ok (.string (strOf [x])) W:=λW=>rb (x::u) 1 (by simp) W
  have aA:(x::u).length<=1000:=hl;have Hrep:=I (λW=>OI x (x::u).length W (by omega));have avD:=El (x::u) (List.replicate (x::u).length x) au (λy hy=>by rw[(List.mem_replicate.1 hy).2];exact au x dU);rw[show(decide (0<(x::u).length/\x::u=List.replicate (x::u).length ((x::u)[0]?.getD 0)))=decide (x::u=List.replicate (x::u).length x)from decide_eq_decide.2 ⟨λc=>c.2,λc=>⟨by simp,c⟩⟩];have bB:=cy (x::u);have MA:((strOf (x::u)).toList==(ByteArray.mk #[]).toList)=false:=by
   rw[show(ByteArray.mk #[])=strOf []from rfl,El _ _ au (by simp)];rfl
  generalize decide (x::u=List.replicate (x::u).length x)=B at *;generalize strOf (List.replicate (x::u).length x)=YK at *;generalize (x::u).length=n at *;generalize strOf (x::u)=kM at *;generalize strOf [x]=s1 at *;clear au;go_enter func15,ntmps15
  go_wp2_with fail
  refine(Hrep.out _).mono ?_;rintro e aw ⟨rfl,aH⟩;go_wp2;go_ret;exact⟨rfl,aH⟩
theorem afd(k aP:Nat)(X T:ae)(w:ah)(hk:k<256)(ev:aP<=1073741824)(ck:X.length<=100000)(cq:T.length<=1000000)(hXlt:∀x∈X,x<256)(rW:∀x∈T,x<256) :
  Calls prog 16 #[.int .u64 k,.string (strOf X),.int .i64 aP,.string (strOf T)] w λe w'=>e=.returned (.string (strOf (fF k aP X++T)))/\av w w':=by
 have bB:=cy X;have h1:=lP aP (by omega);have af:=lP X.length (by omega);have hnew:=fH.new w;have jy:=(Below.refl w.heap.size w).alloc bl (.cells #[.pointer none,.int .i64 0] 62);have aL:=λW b h=>HV b k 1 [] W (by omega) (by omega) (by omega) (by simp) h
 rw[Sz k hk]at aL;have a1:=λW b h=>Bh b aP [k] W (by omega) (by simp) h
 have bp:=λW b h=>Bh b X.length ([k]++bg aP) W (by omega) (by rw[aY,length_singleton];omega) h
 have VM:=λW=>Y7 X W (by omega) hXlt
 have Ao:=λW b h=>HV b (am.sumOf X) 8 ([k]++bg aP++bg X.length) W (by omega) (by omega) (OV X) (by simp only[aY,length_singleton];omega) h
 have oN:[k]++bg aP++bg X.length++am.bytesOf (am.sumOf X) (fO 8)=fF k aP X:=by
  rw[show fO 8=8 by decide];unfold fF;simp
 rw[oN]at Ao;have aj5:(fF k aP X).length<=100:=by rw[x9];omega
 have hraw:=λW b h=>tR b (fF k aP X) T W (by omega) h
 have hall:∀x∈fF k aP X++T,x<256:=Cp (λx ai=>by
  unfold fF at ai;rcases List.mem_cons.1 ai with rfl|ai
  .exact hk
  .rcases List.mem_append.1 ai with ai|ai
   .exact qb aP (by omega) x ai
   .rcases List.mem_append.1 ai with ai|ai
    .exact qb X.length (by omega) x ai
    .exact ut _ _ x ai) rW
 have hstr:=λW b h=>vC b (fF k aP X++T) W (by rw[aY];omega) hall h
 have pf:=I hnew;have e6:=I jy;have br:=I aL;have dm:=I a1;have du:=I bp;have Jz:=I VM;have IV:=I Ao;have fD:=I hraw;have hj:=I hstr;have hw:IntKind.u64.wrap (aP:Int)=aP:=Bf aP (by omega);have mX:IntKind.u64.wrap (X.length:Int)=(X.length:Int):=Bf X.length (by omega);clear hnew jy aL a1 bp VM Ao hraw hstr oN hall aj5 hXlt rW h1 af;generalize strOf (fF k aP X++T)=YK at *;generalize fF k aP X=H at *;generalize [k]++bg aP++bg X.length=at7 at *;generalize [k]++bg aP=at6 at *;generalize [k]=at5 at *;generalize am.sumOf X=y at *;generalize strOf X=kM at *;generalize X.length=n at *;generalize strOf T=q6 at *;go_enter func16,ntmps16
 go_wp2_with fail
 refine(br.out _ _ pf).mono ?_;rintro e aw ⟨rfl,bM,a1⟩;have aN:=I (e6.out.trans (below_grown a1 bl e6.out.size));have kQ:=I (dm.out aw _ bM);clear bM a1;go_wp2_with fail
 refine kQ.out.mono ?_;rintro e aC ⟨rfl,c8,bp⟩;have bm:=I (aN.out.trans (below_grown bp bl aN.out.size));have ig:=I (du.out aC _ c8);clear c8 bp;go_wp2_with fail
 refine ig.out.mono ?_;rintro e a6 ⟨rfl,k5,ct⟩;have b6:=I (bm.out.trans (below_grown ct bl bm.out.size));have BB:=I k5;clear k5 ct;go_wp2_with fail
 refine(Jz.out _).mono ?_;rintro e bH ⟨rfl,bc⟩;have dt:=b3 b6 bc;have vI:=I (IV.out bH _ (BB.out.below bc));clear bc;go_wp2_with fail
 refine vI.out.mono ?_;rintro e dp ⟨rfl,jm,fi⟩;have dX:=I (dt.out.trans (below_grown fi bl dt.out.size));have nc:=I (fD.out dp _ jm);clear jm fi;go_wp2_with fail
 refine nc.out.mono ?_;rintro e dB ⟨rfl,uQ,gk⟩;have kf:=I (dX.out.trans (below_grown gk bl dX.out.size));have xo:=I (hj.out dB _ uQ);clear uQ gk;go_wp2_with fail
 refine xo.out.mono ?_;rintro e dk ⟨rfl,fW⟩;have ic:=b3 kf fW;clear fW;go_wp2;go_ret;exact⟨rfl,ic⟩
end Go.Proofs.YtgiicohbigiapaaGreat
