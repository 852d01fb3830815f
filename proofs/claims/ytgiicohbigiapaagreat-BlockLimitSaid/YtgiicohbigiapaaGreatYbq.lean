/- Contracts, and what they rest on. Conditions: the theorems' premises. -/
import Derived.Test.YtgiicohbigiapaaGreatYbp
import Derived.Test.YtgiicohbigiapaaGreatYbn
import Derived.Test.YtgiicohbigiapaaGreatYbj
import Derived.Test.YtgiicohbigiapaaGreatYbc
set_option maxHeartbeats 4000000
set_option maxRecDepth 100000
open Go.Lib(hid)
open Go.Proofs.Tryz Go.Proofs.YtgiicohbigiapaaGreat.Bm
namespace Go.Proofs.YtgiicohbigiapaaGreat
open Go.RowKit
namespace Bm
theorem OL(bs:List Nat)(m n:Int)(hmn:m≤n)(t:List Nat×Nat)(h:tC bs m=some t):tC bs n=some t:=by
 unfold tC at h ⊢;cases bs with
 | nil=>cases h
 | cons k r=>
  dsimp only at h ⊢;split at h
  ·next hc=>rw[if_pos ⟨hc.1,Int.le_trans hc.2.1 hmn,hc.2.2⟩];exact h
  ·cases h
theorem Jj(T:List Nat):∀(l:List Stp) (a:Nat),OkS T a l→a+l.length≤T.length
 | [],_,h=>h
 | s :: l,a,h=>by
  have h1:=Jj T l _ h.2.2.2.2.2;have h2:=h.1;rw[List.length_cons];omega
theorem abX(l:List Stp):(l.map qH).map YT=l:=by
 rw[List.map_map];have:(YT ∘ qH)=id:=by
  funext s
  obtain⟨a,b,c⟩:=s;simp[YT,qH]
 rw[this,List.map_id]
end Bm
theorem Yh{T:List Nat}{a:Nat}{l:List Bm.Stp}(h:OkS T a l)(hT:T.length≤1000000000):ZOk (l.map qH):=fun s hs=>by
 obtain⟨t,ht,rfl⟩:=List.mem_map.1 hs;have:=Jl T l a h t ht;exact⟨⟨by show _≤(t.1:Int);omega,by show(t.1:Int)≤_;omega⟩,⟨by show _≤(t.2.1:Int);omega,by show(t.2.1:Int)≤_;omega⟩,⟨by show _≤(t.2.2:Int);omega,by show(t.2.2:Int)≤_;omega⟩⟩
theorem aaK(D X E S:List Nat)(l:List Bm.Stp)(hok:OkS (D++X) D.length l)(hE:ZH (nK X 0 l) E)(hS:adN (l.map qH) S)(hlen:(E++S).length<X.length):uD D X 2 (E++S):=by
 have he:=QM (D++X) l D.length hok;have he2:=tY l D.length 0;rw[Nat.add_zero]at he2;rw[List.length_append]at he;have hll:=kJ X l 0 (by omega);have hcount:=Jj (D++X) l D.length hok;rw[List.length_append]at hcount;have hr:=hS.read [];rw[List.append_nil,abX,List.length_map]at hr;refine Oc D X E S l (nK X 0 l) (OL E _ _ (by omega) _ hE.2.2.2) (Xl S _ _ (by omega) _ hr) ?_ hE.2.1 hS.lt hlen;rw[NQ D X l X.length hok,if_neg (Nat.lt_irrefl _)]
theorem BK(D X:List Nat)(v:Int)(w:World)(hD:D.length≤256)(hX:X.length≤512)(hDlt:∀x∈D,x<256)(hXlt:∀x∈X,x<256)(hv:bN v) :
  Calls prog 17 #[.string (strOf X),.string (strOf D),.int .i64 v] w fun e w'=>(∃T ok,e=.returned (.tuple #[.string (strOf T),.bool ok])∧T.length≤100000∧(∀x∈T,x<256)∧(ok=true→T.length<X.length→uD D X 2 T))∧Below w.heap.size w w':=by
 have Hst:=hid (Rp w D X v (by omega) (by omega) hDlt hXlt hv);rw[show D.length-600=0 by omega,List.drop_zero,List.take_of_length_le (by omega:X.length≤600)]at Hst;have Yp:=hid (fun W A c (l:List Bm.Stp) (hl:l.length≤600) (hok:OkS (D++X) D.length l) (hr:Bj W A l)=>WH A c (l.map qH) W (by rw[List.length_map];omega) (Yh hok (by rw[List.length_append];omega)) (Zd hr));have gT:Hid (∀l,OkS (D++X) D.length l→xu 0 l≤X.length):=hid (fun l h=>by
  have h1:=QM (D++X) l D.length h;have h2:=tY l D.length 0;rw[Nat.add_zero]at h2;rw[List.length_append]at h1;omega)
 have adt:=hid (fun W A c l (hl:l.length≤600) (he:xu 0 l≤X.length) (hr:Bj W A l)=>Wy W X A c l (by omega) (by omega) hXlt he hr);have Hls:=hid (fun W l (he:xu 0 l≤X.length)=>Qy (nK X 0 l) W (by have:=kJ X l 0 he;omega) (Fp hXlt l 0));have HX:=hid hX;have Yq:=hid (fun l (he:xu 0 l≤X.length)=>kJ X l 0 he);clear hD hDlt hXlt hv hX;generalize strOf D=sD at *;generalize strOf X=sX at *;go_enter func17,ntmps17
 go_wp2_with fail
 refine Hst.out.mono ?_;rintro e w1 ⟨A,c,l,rfl,hr1,hl,hok,_,hb1⟩;have Hb1:=hid hb1;have he1:=Yp.out w1 A c l hl hok hr1;rw[List.length_map]at he1;have He1:=hid he1;have Hr1:=hid hr1;have Hok:=hid hok;have hen:=gT.out l hok;clear hb1 hr1 hok he1 Hst Yp;go_wp2_with fail
 refine He1.out.mono ?_;rintro e w2 ⟨hp,hb2⟩;have Hb2:=hid (Hb1.out.trans (hb2.mono Hb1.out.size));have Hl2:=hid (adt.out w2 A c l hl hen (Hr1.out.below hb2));have acy:=hid (fun W=>Hls.out W l hen);have hll:=Yq.out l hen;have hgen:∃S ok,e=.returned (.tuple #[.string (strOf S),.bool ok])∧S.length≤10000∧(∀x∈S,x<256)∧(ok=true→adN (l.map qH) S):=by
  unfold GX at hp;split at hp
  ·obtain⟨S,hS,rfl⟩:=hp;exact⟨S,true,rfl,hS.len,hS.lt,fun _=>hS⟩
  ·exact⟨[],false,hp,by simp,by simp,fun h=>by cases h⟩
 obtain⟨S,ok,rfl,hSl,ait,hSq⟩:=hgen;have HS:=hid ait;have HSq:=hid hSq;clear hp hb2 He1 Hb1 Hr1 adt Hls ait hSq;go_wp2_with fail
 refine Hl2.out.mono ?_;rintro e w3 ⟨rfl,hb3⟩;have Hb3:=hid (Hb2.out.trans (hb3.mono Hb2.out.size));clear hb3 Hb2 Hl2;go_wp2_with fail
 refine(acy.out _).mono ?_;rintro e w4 ⟨⟨E,hE,rfl⟩,hb4⟩;have Hb4:=hid (Hb3.out.trans (hb4.mono Hb3.out.size));have hEl:=hE.2.2.1;have hX:=HX.out;have hgl:=eO (nK X 0 l).length (by omega);have hadd:=fun W=>Gq E S (by omega) W
 have kV:Hid ((E++S).length≤100000∧(∀x∈E++S,x<256)∧(ok=true→(E++S).length<X.length→uD D X 2 (E++S))):=hid ⟨by rw[List.length_append];omega,jN hE.2.1 HS.out,fun h h2=>aaK D X E S l Hok.out hE (HSq.out h) h2⟩;clear hE hb4 Hb3 acy HS HSq Hok HX hX hEl hgl Yq hll hl hen gT;go_wp2;go_ret2;exact⟨⟨E++S,ok,rfl,kV.out⟩,Hb4.out⟩
def agz(D X:List Nat)(ep:Nat)(e:Ending):Prop:=∃k T,uD D X k T∧e=.returned (.tuple #[.string (strOf (hdB k ep X++T)),.int .i64 0])
theorem Uv(D X:List Nat)(ep:Nat)(v:Int)(w:World)(hD:D.length≤256)(hX:X.length≤512)(hDlt:∀x∈D,x<256)(hXlt:∀x∈X,x<256)(hep:ep≤1073741824)(hv:bN v) :
  Calls prog 8 #[.string (strOf X),.string (strOf D),.int .i64 (ep:Int),.int .i64 v] w fun e w'=>agz D X ep e∧Below w.heap.size w w':=by
 have Hal:=hid (BL X w (by omega) hXlt);have Hin:=hid (fun W=>BK D X v W hD hX hDlt hXlt hv);have acY:=hid (fun W k T (hk:k<256) hT Po=>Kh k ep X T W hk hep (by omega) hT hXlt Po);have Hpl:=hid (Ob D X hXlt);have hs1:=aA X;have hs2:=aA D;have d1:decide ((512:Int)<(X.length:Int))=false:=decide_eq_false (by omega);have d2:decide ((256:Int)<(D.length:Int))=false:=decide_eq_false (by omega);have d3:decide ((ep:Int)<0)=false:=decide_eq_false (by omega);have d4:decide ((1073741824:Int)<(ep:Int))=false:=decide_eq_false (by omega);have Hxl:=hid hXlt;clear hD hDlt hXlt hv hep;by_cases hal:0<X.length∧X=List.replicate X.length (X[0]?.getD 0)
 ·rw[decide_eq_true hal]at Hal;have hto:∀W:World,(Instr.slice 9 (.string (strOf X)) none (some (.int .i64 1)) none).run prog W=.ok (.string (strOf [X[0]?.getD 0])) W:=fun W=>by
   have h:=ql X 1 (by omega) W;have e1:X.take 1=[X[0]?.getD 0]:=by
    cases X with
    | nil=>simp at hal
    | cons x u=>rfl
   rw[e1]at h;exact h
  have hx256:X[0]?.getD 0<256:=by
   rw[List.getElem?_eq_getElem hal.1];exact Hxl.out _ (List.getElem_mem _)
  have Hq:=hid (Oa D X _ hx256 hal.1 hal.2);have ada:Hid (∀W,Calls prog 16 #[.int .u64 1,.string (strOf X),.int .i64 (ep:Int),.string (strOf [X[0]?.getD 0])] W fun e w'=>e=.returned (.string (strOf (hdB 1 ep X++[X[0]?.getD 0])))∧Below W.heap.size W w'):=
   hid (fun W=>acY.out W 1 [X[0]?.getD 0] (by decide) (by simp) (fun x hx=>by rw[List.mem_singleton.1 hx];exact hx256))
  clear acY Hin hal hx256 Hpl Hxl;generalize X[0]?.getD 0=x at *;generalize strOf [x]=s1 at *;generalize strOf D=sD at *;generalize hsX:strOf X=sX at *;clear hsX;go_enter func8,ntmps8
  go_wp2_with fail
  refine Hal.out.mono ?_;rintro e w1 ⟨rfl,hb1⟩;have Hb1:=hid hb1;clear hb1 Hal;go_wp2_with fail
  refine(ada.out _).mono ?_;rintro e w2 ⟨rfl,hb2⟩;have Hb2:=hid (Hb1.out.trans (hb2.mono Hb1.out.size));clear hb2 Hb1 ada;go_wp2;go_ret2;exact⟨⟨1,[x],Hq.out,rfl⟩,Hb2.out⟩
 ·rw[decide_eq_false hal]at Hal;have acZ:Hid (∀W,Calls prog 16 #[.int .u64 0,.string (strOf X),.int .i64 (ep:Int),.string (strOf X)] W fun e w'=>e=.returned (.string (strOf (hdB 0 ep X++X)))∧Below W.heap.size W w'):=
   hid (fun W=>acY.out W 0 X (by decide) (by omega) Hxl.out)
  have adb:Hid (∀W T,T.length≤100000→(∀x∈T,x<256)→Calls prog 16 #[.int .u64 2,.string (strOf X),.int .i64 (ep:Int),.string (strOf T)] W fun e w'=>e=.returned (.string (strOf (hdB 2 ep X++T)))∧Below W.heap.size W w'):=
   hid (fun W T h1 h2=>acY.out W 2 T (by decide) (by omega) h2)
  clear acY hal Hxl;generalize strOf D=sD at *;generalize strOf X=sX at *;go_enter func8,ntmps8
  go_wp2_with fail
  refine Hal.out.mono ?_;rintro e w1 ⟨rfl,hb1⟩;have Hb1:=hid hb1;clear hb1 Hal;go_wp2_with fail
  refine(Hin.out _).mono ?_;rintro e w2 ⟨⟨T,ok,rfl,hT,Po,hQ⟩,hb2⟩;have Hb2:=hid (Hb1.out.trans (hb2.mono Hb1.out.size));have Hb3:=hid (fun W=>adb.out W T hT Po);have HQ:=hid hQ;have hs3:=aA T;clear hb2 Hb1 Hin hQ Po adb;by_cases hy:ok=true∧T.length<X.length
  ·obtain⟨rfl,hlt⟩:=hy;have Hq:=hid (HQ.out rfl hlt);have d5:decide ((T.length:Int)<(X.length:Int))=true:=decide_eq_true (by omega);clear HQ;generalize hR:strOf T=sT at *;clear hR;go_wp2_with fail
   refine(Hb3.out _).mono ?_;rintro e w3 ⟨rfl,hb3⟩;have Hb4:=hid (Hb2.out.trans (hb3.mono Hb2.out.size));clear hb3 Hb2 Hb3;go_wp2;go_ret2;exact⟨⟨2,T,Hq.out,rfl⟩,Hb4.out⟩
  ·have d5:(ok && decide ((T.length:Int)<(X.length:Int)))=false:=by
    cases ok with
    | false=>rfl
    | true=>rw[decide_eq_false (fun c=>hy ⟨rfl,by omega⟩)];rfl
   clear HQ hy Hb3;generalize strOf T=sT at *;have Hb5:=hid (fun W=>acZ.out W);clear acZ;cases ok with
   | false=>
    go_wp2_with fail
    refine(Hb5.out _).mono ?_;rintro e w3 ⟨rfl,hb3⟩;have Hb4:=hid (Hb2.out.trans (hb3.mono Hb2.out.size));clear hb3 Hb2 Hb5;go_wp2;go_ret2;exact⟨⟨0,X,Hpl.out,rfl⟩,Hb4.out⟩
   | true=>
    rw[Bool.true_and]at d5;have hn:¬T.length<X.length:=fun c=>by
     have:=of_decide_eq_false d5;omega
    have d6:decide (T.length<X.length)=false:=decide_eq_false hn;go_wp2_with fail
    refine(Hb5.out _).mono ?_;rintro e w3 ⟨rfl,hb3⟩;have Hb4:=hid (Hb2.out.trans (hb3.mono Hb2.out.size));clear hb3 Hb2 Hb5;go_wp2;go_ret2;exact⟨⟨0,X,Hpl.out,rfl⟩,Hb4.out⟩
end Go.Proofs.YtgiicohbigiapaaGreat
