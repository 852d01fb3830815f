/- Contracts, and what they rest on. Conditions: the theorems' premises. -/
import Derived.Test.YtgiicohbigiapaaGreatRbw
import Derived.Test.YtgiicohbigiapaaGreatRbo
import Derived.Test.YtgiicohbigiapaaGreatRbk
import Derived.Test.YtgiicohbigiapaaGreatRbv
set_option maxHeartbeats 4000000
set_option maxRecDepth 100000
open Go.Lib(hid)
open Go.Proofs.Tryz Go.Proofs.YtgiicohbigiapaaGreat.Bm
namespace Go.Proofs.YtgiicohbigiapaaGreat
open Go.RowKit
namespace Bm
theorem Pn(bs:List Nat)(m n:Int)(hmn:m≤n)(t:List Nat×Nat)(h:tY bs m=some t):tY bs n=some t:=by
 unfold tY at h ⊢;cases bs with
 | nil=>cases h
 | cons k r=>
  dsimp only at h ⊢;split at h
  ·next hc=>rw[if_pos ⟨hc.1,Int.le_trans hc.2.1 hmn,hc.2.2⟩];exact h
  ·cases h
theorem Jz(T:List Nat):∀(l:List Stp) (a:Nat),OkS T a l→a+l.length≤T.length
 | [],_,h=>h
 | s :: l,a,h=>by
  have h1:=Jz T l _ h.2.2.2.2.2;have h2:=h.1;rw[List.length_cons];omega
theorem acL(l:List Stp):(l.map qP).map Zx=l:=by
 rw[List.map_map];have:(Zx ∘ qP)=id:=by
  funext s
  obtain⟨a,b,c⟩:=s;simp[Zx,qP]
 rw[this,List.map_id]
end Bm
theorem YK{T:List Nat}{a:Nat}{l:List Bm.Stp}(h:OkS T a l)(hT:T.length≤1000000000):ZOk (l.map qP):=fun s hs=>by
 obtain⟨t,ht,rfl⟩:=List.mem_map.1 hs;have:=JB T l a h t ht;exact⟨⟨by show _≤(t.1:Int);omega,by show(t.1:Int)≤_;omega⟩,⟨by show _≤(t.2.1:Int);omega,by show(t.2.1:Int)≤_;omega⟩,⟨by show _≤(t.2.2:Int);omega,by show(t.2.2:Int)≤_;omega⟩⟩
theorem abv(D X E S:List Nat)(l:List Bm.Stp)(hok:OkS (D++X) D.length l)(hE:aap (nT X 0 l) E)(hS:aev (l.map qP) S)(hlen:(E++S).length<X.length):uO D X 2 (E++S):=by
 have he:=Rs (D++X) l D.length hok;have he2:=uG l D.length 0;rw[Nat.add_zero]at he2;rw[List.length_append]at he;have hll:=kR X l 0 (by omega);have hcount:=Jz (D++X) l D.length hok;rw[List.length_append]at hcount;have hr:=hS.read [];rw[List.append_nil,acL,List.length_map]at hr;refine OB D X E S l (nT X 0 l) (Pn E _ _ (by omega) _ hE.2.2.2) (XO S _ _ (by omega) _ hr) ?_ hE.2.1 hS.lt hlen;rw[Ol D X l X.length hok,if_neg (Nat.lt_irrefl _)]
theorem Cg(D X:List Nat)(v:Int)(w:World)(hD:D.length≤256)(hX:X.length≤512)(hDlt:∀x∈D,x<256)(hXlt:∀x∈X,x<256)(hv:bM v) :
  Calls prog 17 #[.string (strOf X),.string (strOf D),.int .i64 v] w fun e w'=>(∃T ok,e=.returned (.tuple #[.string (strOf T),.bool ok])∧T.length≤100000∧(∀x∈T,x<256)∧(ok=true→T.length<X.length→uO D X 2 T))∧Below w.heap.size w w':=by
 have Hst:=hid (RV w D X v (by omega) (by omega) hDlt hXlt hv);rw[show D.length-600=0 by omega,List.drop_zero,List.take_of_length_le (by omega:X.length≤600)]at Hst;have YR:=hid (fun W A c (l:List Bm.Stp) (hl:l.length≤600) (hok:OkS (D++X) D.length l) (hr:BL W A l)=>Xl A c (l.map qP) W (by rw[List.length_map];omega) (YK hok (by rw[List.length_append];omega)) (ZJ hr));have gV:Hid (∀l,OkS (D++X) D.length l→xO 0 l≤X.length):=hid (fun l h=>by
  have h1:=Rs (D++X) l D.length h;have h2:=uG l D.length 0;rw[Nat.add_zero]at h2;rw[List.length_append]at h1;omega)
 have adZ:=hid (fun W A c l (hl:l.length≤600) (he:xO 0 l≤X.length) (hr:BL W A l)=>Xe W X A c l (by omega) (by omega) hXlt he hr);have Hls:=hid (fun W l (he:xO 0 l≤X.length)=>QY (nT X 0 l) W (by have:=kR X l 0 he;omega) (FK hXlt l 0));have HX:=hid hX;have YS:=hid (fun l (he:xO 0 l≤X.length)=>kR X l 0 he);clear hD hDlt hXlt hv hX;generalize strOf D=sD at *;generalize strOf X=sX at *;go_enter func17,ntmps17
 go_wp2_with fail
 refine Hst.out.mono ?_;rintro e w1 ⟨A,c,l,rfl,hr1,hl,hok,_,hb1⟩;have Hb1:=hid hb1;have he1:=YR.out w1 A c l hl hok hr1;rw[List.length_map]at he1;have He1:=hid he1;have Hr1:=hid hr1;have Hok:=hid hok;have hen:=gV.out l hok;clear hb1 hr1 hok he1 Hst YR;go_wp2_with fail
 refine He1.out.mono ?_;rintro e w2 ⟨hp,hb2⟩;have Hb2:=hid (Hb1.out.trans (hb2.mono Hb1.out.size));have Hl2:=hid (adZ.out w2 A c l hl hen (Hr1.out.below hb2));have adg:=hid (fun W=>Hls.out W l hen);have hll:=YS.out l hen;have hgen:∃S ok,e=.returned (.tuple #[.string (strOf S),.bool ok])∧S.length≤10000∧(∀x∈S,x<256)∧(ok=true→aev (l.map qP) S):=by
  unfold Im at hp;split at hp
  ·obtain⟨S,hS,rfl⟩:=hp;exact⟨S,true,rfl,hS.len,hS.lt,fun _=>hS⟩
  ·exact⟨[],false,hp,by simp,by simp,fun h=>by cases h⟩
 obtain⟨S,ok,rfl,hSl,aje,hSq⟩:=hgen;have HS:=hid aje;have HSq:=hid hSq;clear hp hb2 He1 Hb1 Hr1 adZ Hls aje hSq;go_wp2_with fail
 refine Hl2.out.mono ?_;rintro e w3 ⟨rfl,hb3⟩;have Hb3:=hid (Hb2.out.trans (hb3.mono Hb2.out.size));clear hb3 Hb2 Hl2;go_wp2_with fail
 refine(adg.out _).mono ?_;rintro e w4 ⟨⟨E,hE,rfl⟩,hb4⟩;have Hb4:=hid (Hb3.out.trans (hb4.mono Hb3.out.size));have hEl:=hE.2.2.1;have hX:=HX.out;have hgl:=dx (nT X 0 l).length (by omega);have hadd:=fun W=>jM E S (by omega) W
 have lu:Hid ((E++S).length≤100000∧(∀x∈E++S,x<256)∧(ok=true→(E++S).length<X.length→uO D X 2 (E++S))):=hid ⟨by rw[List.length_append];omega,jU hE.2.1 HS.out,fun h h2=>abv D X E S l Hok.out hE (HSq.out h) h2⟩;clear hE hb4 Hb3 adg HS HSq Hok HX hX hEl hgl YS hll hl hen gV;go_wp2;go_ret2;exact⟨⟨E++S,ok,rfl,lu.out⟩,Hb4.out⟩
def ahj(D X:List Nat)(ep:Nat)(e:Ending):Prop:=∃k T,uO D X k T∧e=.returned (.tuple #[.string (strOf (hdB k ep X++T)),.int .i64 0])
theorem Vf(D X:List Nat)(ep:Nat)(v:Int)(w:World)(hD:D.length≤256)(hX:X.length≤512)(hDlt:∀x∈D,x<256)(hXlt:∀x∈X,x<256)(hep:ep≤1073741824)(hv:bM v) :
  Calls prog 8 #[.string (strOf X),.string (strOf D),.int .i64 (ep:Int),.int .i64 v] w fun e w'=>ahj D X ep e∧Below w.heap.size w w':=by
 have Hal:=hid (Ch X w (by omega) hXlt);have Hin:=hid (fun W=>Cg D X v W hD hX hDlt hXlt hv);have adH:=hid (fun W k T (hk:k<256) hT PX=>KA k ep X T W hk hep (by omega) hT hXlt PX);have Hpl:=hid (OA D X hXlt);have hs1:=ay X;have hs2:=ay D;have d1:decide ((512:Int)<(X.length:Int))=false:=decide_eq_false (by omega);have d2:decide ((256:Int)<(D.length:Int))=false:=decide_eq_false (by omega);have d3:decide ((ep:Int)<0)=false:=decide_eq_false (by omega);have d4:decide ((1073741824:Int)<(ep:Int))=false:=decide_eq_false (by omega);have Hxl:=hid hXlt;clear hD hDlt hXlt hv hep;by_cases hal:0<X.length∧X=List.replicate X.length (X[0]?.getD 0)
 ·rw[decide_eq_true hal]at Hal;have hto:∀W:World,(Instr.slice 9 (.string (strOf X)) none (some (.int .i64 1)) none).run prog W=.ok (.string (strOf [X[0]?.getD 0])) W:=fun W=>by
   have h:=oh X 1 (by omega) W;have e1:X.take 1=[X[0]?.getD 0]:=by
    cases X with
    | nil=>simp at hal
    | cons x u=>rfl
   rw[e1]at h;exact h
  have hx256:X[0]?.getD 0<256:=by
   rw[List.getElem?_eq_getElem hal.1];exact Hxl.out _ (List.getElem_mem _)
  have Hq:=hid (Oy D X _ hx256 hal.1 hal.2);have adJ:Hid (∀W,Calls prog 16 #[.int .u64 1,.string (strOf X),.int .i64 (ep:Int),.string (strOf [X[0]?.getD 0])] W fun e w'=>e=.returned (.string (strOf (hdB 1 ep X++[X[0]?.getD 0])))∧Below W.heap.size W w'):=
   hid (fun W=>adH.out W 1 [X[0]?.getD 0] (by decide) (by simp) (fun x hx=>by rw[List.mem_singleton.1 hx];exact hx256))
  clear adH Hin hal hx256 Hpl Hxl;generalize X[0]?.getD 0=x at *;generalize strOf [x]=s1 at *;generalize strOf D=sD at *;generalize hsX:strOf X=sX at *;clear hsX;go_enter func8,ntmps8
  go_wp2_with fail
  refine Hal.out.mono ?_;rintro e w1 ⟨rfl,hb1⟩;have Hb1:=hid hb1;clear hb1 Hal;go_wp2_with fail
  refine(adJ.out _).mono ?_;rintro e w2 ⟨rfl,hb2⟩;have Hb2:=hid (Hb1.out.trans (hb2.mono Hb1.out.size));clear hb2 Hb1 adJ;go_wp2;go_ret2;exact⟨⟨1,[x],Hq.out,rfl⟩,Hb2.out⟩
 ·rw[decide_eq_false hal]at Hal;have adI:Hid (∀W,Calls prog 16 #[.int .u64 0,.string (strOf X),.int .i64 (ep:Int),.string (strOf X)] W fun e w'=>e=.returned (.string (strOf (hdB 0 ep X++X)))∧Below W.heap.size W w'):=
   hid (fun W=>adH.out W 0 X (by decide) (by omega) Hxl.out)
  have adK:Hid (∀W T,T.length≤100000→(∀x∈T,x<256)→Calls prog 16 #[.int .u64 2,.string (strOf X),.int .i64 (ep:Int),.string (strOf T)] W fun e w'=>e=.returned (.string (strOf (hdB 2 ep X++T)))∧Below W.heap.size W w'):=
   hid (fun W T h1 h2=>adH.out W 2 T (by decide) (by omega) h2)
  clear adH hal Hxl;generalize strOf D=sD at *;generalize strOf X=sX at *;go_enter func8,ntmps8
  go_wp2_with fail
  refine Hal.out.mono ?_;rintro e w1 ⟨rfl,hb1⟩;have Hb1:=hid hb1;clear hb1 Hal;go_wp2_with fail
  refine(Hin.out _).mono ?_;rintro e w2 ⟨⟨T,ok,rfl,hT,PX,hQ⟩,hb2⟩;have Hb2:=hid (Hb1.out.trans (hb2.mono Hb1.out.size));have Hb3:=hid (fun W=>adK.out W T hT PX);have HQ:=hid hQ;have hs3:=ay T;clear hb2 Hb1 Hin hQ PX adK;by_cases hy:ok=true∧T.length<X.length
  ·obtain⟨rfl,hlt⟩:=hy;have Hq:=hid (HQ.out rfl hlt);have d5:decide ((T.length:Int)<(X.length:Int))=true:=decide_eq_true (by omega);clear HQ;generalize hR:strOf T=sT at *;clear hR;go_wp2_with fail
   refine(Hb3.out _).mono ?_;rintro e w3 ⟨rfl,hb3⟩;have Hb4:=hid (Hb2.out.trans (hb3.mono Hb2.out.size));clear hb3 Hb2 Hb3;go_wp2;go_ret2;exact⟨⟨2,T,Hq.out,rfl⟩,Hb4.out⟩
  ·have d5:(ok && decide ((T.length:Int)<(X.length:Int)))=false:=by
    cases ok with
    | false=>rfl
    | true=>rw[decide_eq_false (fun c=>hy ⟨rfl,by omega⟩)];rfl
   clear HQ hy Hb3;generalize strOf T=sT at *;have Hb5:=hid (fun W=>adI.out W);clear adI;cases ok with
   | false=>
    go_wp2_with fail
    refine(Hb5.out _).mono ?_;rintro e w3 ⟨rfl,hb3⟩;have Hb4:=hid (Hb2.out.trans (hb3.mono Hb2.out.size));clear hb3 Hb2 Hb5;go_wp2;go_ret2;exact⟨⟨0,X,Hpl.out,rfl⟩,Hb4.out⟩
   | true=>
    rw[Bool.true_and]at d5;have hn:¬T.length<X.length:=fun c=>by
     have:=of_decide_eq_false d5;omega
    have d6:decide (T.length<X.length)=false:=decide_eq_false hn;go_wp2_with fail
    refine(Hb5.out _).mono ?_;rintro e w3 ⟨rfl,hb3⟩;have Hb4:=hid (Hb2.out.trans (hb3.mono Hb2.out.size));clear hb3 Hb2 Hb5;go_wp2;go_ret2;exact⟨⟨0,X,Hpl.out,rfl⟩,Hb4.out⟩
namespace Bm
structure Uy(D X:List Nat)(ep:Nat)(S:List Nat):Prop where
 lt:∀x∈S,x<256
 len:S.length≤X.length+16
 pos:0<S.length
 plain:S.length≤(hdB 0 ep X++X).length
 head:∃k a,0<a∧gy S=some (k,ep,X.length,sumOf X,a)
 yes:∀lim:Int,(X.length:Int)≤lim→oD D S lim=(X,0)
 few:∀lim:Int,lim<(X.length:Int)→oD D S lim=([],5)
 cut:∀j,j<S.length→oD D (S.take j) (X.length:Int)=([],3)
 more:∀x,oD D (S++[x]) (X.length:Int)=([],3)
 other:∀(D':List Nat) (lim:Int) (Y:List Nat),oD D' S lim=(Y,0)→sumOf Y=sumOf X
theorem aeT(k ep:Nat)(X:List Nat)(hk:k<256)(hep:ep≤1073741824)(hX:X.length≤512):∀x∈hdB k ep X,x<256:=fun x hx=>by
 unfold hdB at hx;rcases List.mem_cons.1 hx with rfl | hx
 ·exact hk
 ·rcases List.mem_append.1 hx with hx | hx
  ·exact jX ep (by omega) x hx
  ·rcases List.mem_append.1 hx with hx | hx
   ·exact jX X.length (by omega) x hx
   ·exact eF _ _ x hx
theorem aho{D X T:List Nat}{k ep:Nat}(h:uO D X k T)(hep:ep≤1073741824)(hX:X.length≤512):Uy D X ep (hdB k ep X++T):=by
 have h1:=aeS k ep X hep hX;have h2:=iZ k ep X;have h3:=iZ 0 ep X;have h4:=h.len;have h5:=h.kind;refine⟨fun x hx=>(List.mem_append.1 hx).elim (aeT k ep X (by omega) hep hX x) (h.lt x),?_,?_,?_,⟨k,_,?_,fJ k ep X T h.kind hep hX⟩,aaA h hep hX,aay h.kind hep hX,aax h hep hX,Vh h hep hX,fun D' lim Y=>OI h.kind hep hX lim⟩
 ·rw[List.length_append];omega
 ·rw[List.length_append];omega
 ·rw[List.length_append,List.length_append];omega
 ·omega
end Bm
theorem OC(D X:List Nat)(ep:Nat)(v:Int)(w:World)(hD:D.length≤256)(hX:X.length≤512)(hDlt:∀x∈D,x<256)(hXlt:∀x∈X,x<256)(hep:ep≤1073741824)(hv:bM v) :
  Calls prog 8 #[.string (strOf X),.string (strOf D),.int .i64 (ep:Int),.int .i64 v] w fun e w'=>(∃S,Uy D X ep S∧e=.returned (.tuple #[.string (strOf S),.int .i64 0]))∧Below w.heap.size w w':=by
 refine(Vf D X ep v w hD hX hDlt hXlt hep hv).mono ?_;rintro e w' ⟨⟨k,T,hq,he⟩,hb⟩;exact⟨⟨_,aho hq hep hX,he⟩,hb⟩
theorem Zb{D X S:List Nat}{ep:Nat}(hf:Uy D X ep S)(D':List Nat)(lim:Int)(w:World)(hX:X.length≤512)(hD':D'.length≤1000)(hDlt:∀x∈D',x<256) :
  Calls prog 9 #[.string (strOf S),.string (strOf D'),.int .i64 lim] w fun e w'=>e=.returned (.tuple #[.string (strOf (oD D' S lim).1),.int .i64 ((oD D' S lim).2:Int)])∧Below w.heap.size w w':=
 Ve D' S lim w (by have:=hf.len;omega) hf.lt hD' hDlt
theorem Kc:strOf []=⟨#[]⟩:=rfl
theorem Tt:strOf [104,101,108,108,111,32,104,101,108,108,111,32,104,101,108,108,111]=⟨#[104,101,108,108,111,32,104,101,108,108,111,32,104,101,108,108,111]⟩:=by decide
theorem Yc:strOf [104,101,108,108,111,32]=⟨#[104,101,108,108,111,32]⟩:=by decide
theorem Vi{D:List Nat}{S:List Nat}(h:Uy D [] 0 S):S.length=11:=by
 have h1:=h.plain;obtain⟨k,a,_,hk⟩:=h.head;have h2:(hdB 0 0 []++[]).length=11:=by decide
 have h3:11≤S.length:=by
  have hy:=h.yes 0 (by simp);rcases Nat.lt_or_ge 10 S.length with h0 | h0
  ·exact h0
  ·exfalso
   have hh:gy S=none∨∃z,gy S=some z∧11≤S.length:=by
    unfold gy;cases S with
    | nil=>exact .inl rfl
    | cons x r=>
     dsimp only;split
     ·exact .inl rfl
     ·cases ht:uh r with
      | none=>exact .inl rfl
      | some t=>
       refine .inr ⟨_,rfl,?_⟩;unfold uh at ht;split at ht
       ·split at ht
        ·rw[List.length_cons];omega
        ·cases ht
       ·cases ht
   rcases hh with hh | ⟨_,_,hh⟩
   ·rw[hh]at hk;cases hk
   ·omega
 omega
theorem yD(w:World):Calls prog 7 #[] w fun e w'=>e=.returned (.bool true)∧Below w.heap.size w w':=by
 have H1:=hid (OC [104,101,108,108,111,32] [104,101,108,108,111,32,104,101,108,108,111,32,104,101,108,108,111] 3 2 w (by decide) (by decide) (by decide) (by decide) (by decide) ⟨by omega,by omega⟩);have H2:=hid (fun W S (hf:Uy [104,101,108,108,111,32] [104,101,108,108,111,32,104,101,108,108,111,32,104,101,108,108,111] 3 S)=>Zb hf [104,101,108,108,111,32] 17 W (by decide) (by decide) (by decide));have H5:=hid (fun W=>OC [] [] 0 1 W (by decide) (by decide) (by decide) (by decide) (by decide) ⟨by omega,by omega⟩);obtain⟨X,hX⟩:∃X,X=[104,101,108,108,111,32,104,101,108,108,111,32,104,101,108,108,111]:=⟨_,rfl⟩;obtain⟨D,hD⟩:∃D,D=[104,101,108,108,111,32]:=⟨_,rfl⟩;have hXl:X.length=17:=by rw[hX];rfl
 have hsX:=Tt;have hsD:=Yc;rw[←hX]at H1 H2 hsX;rw[←hD]at H1 H2 hsD;rw[hsX,hsD]at H1;rw[hsD]at H2;rw[Kc]at H5;have H1:Hid (Calls prog 8 #[.string ⟨#[104,101,108,108,111,32,104,101,108,108,111,32,104,101,108,108,111]⟩,.string ⟨#[104,101,108,108,111,32]⟩,.int .i64 3,.int .i64 2] w fun e w'=>(∃S,Uy D X 3 S∧e=.returned (.tuple #[.string (strOf S),.int .i64 0]))∧Below w.heap.size w w'):=hid H1.out;have H5:Hid (∀W,Calls prog 8 #[.string ⟨#[]⟩,.string ⟨#[]⟩,.int .i64 0,.int .i64 1] W fun e w'=>(∃S,Uy [] [] 0 S∧e=.returned (.tuple #[.string (strOf S),.int .i64 0]))∧Below W.heap.size W w'):=hid H5.out;have hXX:((ByteArray.mk #[104,101,108,108,111,32,104,101,108,108,111,32,104,101,108,108,111]).toList == (ByteArray.mk #[104,101,108,108,111,32,104,101,108,108,111,32,104,101,108,108,111]).toList)=true:=by simp
 clear hX hD hsD;go_enter func7,ntmps7
 go_wp2_with fail
 refine H1.out.mono ?_;rintro e w1 ⟨⟨S,hf,rfl⟩,hb1⟩;have Hb1:=hid hb1;have hd:=fun W=>H2.out W S hf
 rw[hf.yes 17 (by omega)]at hd;dsimp only at hd;rw[hsX]at hd;obtain⟨k,a,_,hh⟩:=hf.head;have hln:=hf.len;have hep:=fun W=>KC S W (by omega) hf.lt
 have hsi:=fun W=>OT S W (by omega) hf.lt
 rw[hh]at hep hsi;dsimp only at hep hsi;rw[hXl]at hsi;have Hd:=hid hd;have Hep:=hid hep;have Hsi:=hid hsi;clear hb1 hd hep hsi hf hh hln H1 H2 hsX;generalize strOf S=sS at *;go_wp2_with fail
 refine(Hd.out _).mono ?_;rintro e w2 ⟨rfl,hb2⟩;have Hb2:=hid (Hb1.out.trans (hb2.mono Hb1.out.size));clear hb2 Hb1 Hd;go_wp2_with fail
 refine(Hep.out _).mono ?_;rintro e w3 ⟨rfl,hb3⟩;have Hb3:=hid (Hb2.out.trans (hb3.mono Hb2.out.size));clear hb3 Hb2 Hep;go_wp2_with fail
 refine(Hsi.out _).mono ?_;rintro e w4 ⟨rfl,hb4⟩;have Hb4:=hid (Hb3.out.trans (hb4.mono Hb3.out.size));clear hb4 Hb3 Hsi;go_wp2_with fail
 refine(H5.out _).mono ?_;rintro e w5 ⟨⟨S0,hf0,rfl⟩,hb5⟩;have Hb5:=hid (Hb4.out.trans (hb5.mono Hb4.out.size));have h11:(strOf S0).size=11:=by rw[ay];exact Vi hf0
 clear hb5 Hb4 H5 hf0;generalize strOf S0=s0 at *;go_wp2;go_ret;exact⟨rfl,Hb5.out⟩
theorem aaw{D bs:List Nat}(lim:Int)(hD:∀x∈D,x<256)(hbs:∀x∈bs,x<256):∀x∈(oD D bs lim).1,x<256:=by
 have h0:∀x∈([]:List Nat),x<256:=fun x hx=>by cases hx
 unfold oD;split
 ·exact h0
 ·next h _=>
  split
  ·exact h0
  ·split
   ·exact h0
   ·next X hX=>
    split
    ·exact OJ hD (bZ hbs h.2.2.2.2) hX
    ·exact h0
def two(a b:ByteArray):List Value:=[.string a,.string b]
theorem EH(X D E:List Nat)(v:Int)(w:World)(hX:X.length≤9223372036854775807)(hD:D.length≤9223372036854775807)(hE:E.length≤9223372036854775807)(h:200<X.length∨100<D.length∨100<E.length) :
  Calls prog 5 #[.string (strOf X),.agg #[.string (strOf D),.string (strOf E)],.int .i64 v] w fun e w'=>e=.returned (.bool true)∧Below w.heap.size w w':=by
 have hbA:=(Below.refl w.heap.size w).alloc (Nat.le_refl _) (.cells #[.string (strOf D),.string (strOf E)] 22);have hrow:Row (w.alloc (.cells #[.string (strOf D),.string (strOf E)] 22)) w.heap.size 22 (two (strOf D) (strOf E)):=Row.new w 22 (two (strOf D) (strOf E));have Haw:=hid (fun W=>yD W);have hs1:=ay X;have hs2:=ay D;have hs3:=ay E;have HbA:=hid hbA;have fu:=hid hrow;clear hbA hrow;generalize strOf X=sX at *;generalize strOf D=sD at *;generalize strOf E=sE at *;generalize X.length=l at *;generalize D.length=m at *;generalize E.length=n at *;go_enter func5,ntmps5
 go_wp2_with fail
 refine(Haw.out _).mono ?_;rintro e w1 ⟨rfl,hb1⟩;have hb2:=HbA.out.trans (hb1.mono HbA.out.size);have hr:=fu.out.keep (hb1.block _ fu.out.lt);have c0:w1.cell? ⟨w.heap.size,0,none⟩=some (.string sD):=hr.cell 0;have c1:w1.cell? ⟨w.heap.size,1,none⟩=some (.string sE):=hr.cell 1;have Hb2:=hid hb2;clear hb1 hr HbA fu Haw hb2;by_cases h1:200<l
 ·have d1:decide ((200:Int)<(l:Int))=true:=decide_eq_true (by omega);clear h;go_wp2;go_ret;exact⟨rfl,Hb2.out⟩
 ·have d1:decide ((200:Int)<(l:Int))=false:=decide_eq_false (by omega);by_cases h2:100<m
  ·have d2:decide ((100:Int)<(m:Int))=true:=decide_eq_true (by omega);clear h;go_wp2;go_ret;exact⟨rfl,Hb2.out⟩
  ·have d2:decide ((100:Int)<(m:Int))=false:=decide_eq_false (by omega);have d3:decide ((100:Int)<(n:Int))=true:=decide_eq_true (by omega);clear h;go_wp2;go_ret;exact⟨rfl,Hb2.out⟩
theorem KH(X D E:List Nat)(v:Int)(w:World)(hX:X.length≤200)(hD:D.length≤100)(hE:E.length≤100)(hXlt:∀x∈X,x<256)(hDlt:∀x∈D,x<256)(agl:∀x∈E,x<256)(hv:bM v) :
  Calls prog 5 #[.string (strOf X),.agg #[.string (strOf D),.string (strOf E)],.int .i64 v] w fun e w'=>e=.returned (.bool true)∧Below w.heap.size w w':=by
 have hbA:=(Below.refl w.heap.size w).alloc (Nat.le_refl _) (.cells #[.string (strOf D),.string (strOf E)] 22);have hrow:Row (w.alloc (.cells #[.string (strOf D),.string (strOf E)] 22)) w.heap.size 22 (two (strOf D) (strOf E)):=Row.new w 22 (two (strOf D) (strOf E));have Haw:=hid (fun W=>yD W);have hs1:=ay X;have hs2:=ay D;have hs3:=ay E;have HbA:=hid hbA;have fu:=hid hrow;have d1:decide ((200:Int)<(X.length:Int))=false:=decide_eq_false (by omega);have d2:decide ((100:Int)<(D.length:Int))=false:=decide_eq_false (by omega);have d3:decide ((100:Int)<(E.length:Int))=false:=decide_eq_false (by omega);have henc:∀W,Calls prog 8 #[.string (strOf X),.string (strOf D),.int .i64 1,.int .i64 v] W fun e w'=>(∃S,Uy D X 1 S∧e=.returned (.tuple #[.string (strOf S),.int .i64 0]))∧Below W.heap.size W w':=fun W=>OC D X 1 v W (by omega) (by omega) hDlt hXlt (by omega) hv
 have YR:=hid henc;have UD:=hid (fun W S (hf:Uy D X 1 S)=>Zb hf E 512 W (by omega) (by omega) agl);have Hhd:=hid (fun W S (hl:S.length≤1000000) (hlt:∀x∈S,x<256)=>KJ S W hl hlt);have hpl:∀W Y,Y.length≤512→(∀x∈Y,x<256)→Calls prog 12 #[.string (strOf Y),.int .i64 1] W fun e w'=>e=.returned (.string (strOf (hdB 0 1 Y++Y)))∧Below W.heap.size W w':=fun W Y hl hlt=>EJ Y 1 W (by omega) hlt (by decide)
 have Hpl:=hid hpl;have Hde:=hid (mU D E hDlt agl);have aij:=hid hXlt;have agy:=hid agl;clear hbA hrow henc hpl hXlt hDlt agl hv;generalize hsX:strOf X=sX at *;have HsX:=hid hsX;clear hsX;generalize strOf D=sD at *;generalize strOf E=sE at *;go_enter func5,ntmps5
 go_wp2_with fail
 refine(Haw.out _).mono ?_;rintro e w1 ⟨rfl,hb1⟩;have Hb1:=hid (HbA.out.trans (hb1.mono HbA.out.size));have hr:=fu.out.keep (hb1.block _ fu.out.lt);have Hr1:=hid hr;have c0:w1.cell? ⟨w.heap.size,0,none⟩=some (.string sD):=hr.cell 0;have c1:w1.cell? ⟨w.heap.size,1,none⟩=some (.string sE):=hr.cell 1;clear hb1 hr HbA fu Haw;go_wp2_with fail
 refine(YR.out _).mono ?_;rintro e w2 ⟨⟨S,hf,rfl⟩,hb2⟩;have Hb2:=hid (Hb1.out.trans (hb2.mono Hb1.out.size));have hr:=Hr1.out.keep (hb2.block _ Hr1.out.lt);clear c0 c1;have c0:w2.cell? ⟨w.heap.size,0,none⟩=some (.string sD):=hr.cell 0;have c1:w2.cell? ⟨w.heap.size,1,none⟩=some (.string sE):=hr.cell 1;have Hr2:=hid hr;have Hf:=hid hf;have Hd2:=hid (fun W=>UD.out W S hf);have Hh2:=hid (fun W=>Hhd.out W S (by have:=hf.len;omega) hf.lt);have hbl:=aaz E S 512;have hylt:=aaw (bs:=S) 512 agy.out hf.lt;have hoth:=hf.other E 512;have hyes:=hf.yes 512 (by omega);obtain⟨k,a,_,hk⟩:=hf.head;rw[hk]at Hh2;have hDE:D=E→oD E S 512=(X,0):=fun h=>by rw[←h];exact hyes
 generalize oD E S 512=Z at *;obtain⟨Y,z⟩:=Z;dsimp only at hbl hylt Hd2 hoth hDE;have Hh2:Hid (∀W,Calls prog 11 #[.string (strOf S)] W fun e w'=>e=.returned (.tuple #[.agg #[.int .i64 (k:Int),.int .i64 ((1:Nat):Int),.int .i64 (X.length:Int)],.int .u64 (Bm.sumOf X:Int),.int .i64 (a:Int)])∧Below W.heap.size W w'):=hid Hh2.out;clear hb2 hr hf Hb1 Hr1 YR UD hyes hk;generalize strOf S=sS at *;go_wp2_with fail
 refine(Hd2.out _).mono ?_;rintro e w3 ⟨rfl,hb3⟩;have Hb3:=hid (Hb2.out.trans (hb3.mono Hb2.out.size));have hr:=Hr2.out.keep (hb3.block _ Hr2.out.lt);clear c0 c1;have c0:w3.cell? ⟨w.heap.size,0,none⟩=some (.string sD):=hr.cell 0;have c1:w3.cell? ⟨w.heap.size,1,none⟩=some (.string sE):=hr.cell 1;clear hb3 hr Hb2 Hr2 Hd2;by_cases hz:z=0
 ·subst hz;have hsum:=hoth Y rfl;have Hp3:=hid (fun W=>Hpl.out W Y hbl.2.2.1 hylt);have hll:(hdB 0 1 Y++Y).length≤1000000:=by rw[List.length_append];have:=aeS 0 1 Y (by decide) hbl.2.2.1;have:=hbl.2.2.1;omega
  have hh:=fun W=>Hhd.out W (hdB 0 1 Y++Y) hll (jU (aeT 0 1 Y (by decide) (by decide) hbl.2.2.1) hylt)
  rw[fJ 0 1 Y Y (by decide) (by decide) hbl.2.2.1,hsum]at hh;generalize (hdB 0 1 Y).length=a2 at hh;have Hh3:Hid (∀W,Calls prog 11 #[.string (strOf (hdB 0 1 Y++Y))] W fun e w'=>e=.returned (.tuple #[.agg #[.int .i64 ((0:Nat):Int),.int .i64 ((1:Nat):Int),.int .i64 (Y.length:Int)],.int .u64 (Bm.sumOf X:Int),.int .i64 (a2:Int)])∧Below W.heap.size W w'):=hid hh;clear hh hbl hylt hoth hDE hsum hll Hpl Hhd Hf Hde aij agy HsX;generalize strOf (hdB 0 1 Y++Y)=sP at *;generalize strOf Y=sY at *;generalize Bm.sumOf X=y at *;go_wp2_with fail
  refine(Hh2.out _).mono ?_;rintro e w4 ⟨rfl,hb4⟩;have Hb4:=hid (fun u=>(Hb3.out.trans (hb4.mono Hb3.out.size)).alloc (Hb3.out.trans (hb4.mono Hb3.out.size)).size u);clear hb4 Hb3 Hh2 c0 c1;go_wp2_with fail
  refine(Hp3.out _).mono ?_;rintro e w5 ⟨rfl,hb5⟩;have Hb5:=hid ((Hb4.out _).trans (hb5.mono (Hb4.out _).size));clear hb5 Hb4 Hp3;go_wp2_with fail
  refine(Hh3.out _).mono ?_;rintro e w6 ⟨rfl,hb6⟩;have Hb6:=hid (fun u=>(Hb5.out.trans (hb6.mono Hb5.out.size)).alloc (Hb5.out.trans (hb6.mono Hb5.out.size)).size u);clear hb6 Hb5 Hh3;cases hq:(sY.toList == sX.toList)with
  | true=>
   go_wp2;go_ret;exact⟨rfl,Hb6.out _⟩
  | false=>
   go_wp2;go_ret;exact⟨rfl,Hb6.out _⟩
 ·have hy:Y=[]:=hbl.1 hz;have hne:¬D=E:=fun h=>by have:=congrArg Prod.snd (hDE h);exact hz this
  have hde:=Hde.out;rw[decide_eq_false hne]at hde;subst hy;rw[Kc];have dz:((z:Int) == 0)=false:=by rw[beq_eq_false_iff_ne];omega
  clear hbl hylt hoth hDE Hpl Hhd Hf Hde aij agy HsX Hh2 hne;go_wp2;go_ret;exact⟨rfl,Hb3.out⟩
end Go.Proofs.YtgiicohbigiapaaGreat
