/- Contracts, and what they rest on. Conditions: the theorems' premises. -/
import Derived.Test.YtgiicohbigiapaaGreatYbo
import Derived.Test.YtgiicohbigiapaaGreatYax
set_option maxHeartbeats 4000000
set_option maxRecDepth 100000
open Go.Lib(hid)
open Go.Proofs.Tryz Go.Proofs.YtgiicohbigiapaaGreat.Bm
namespace Go.Proofs.YtgiicohbigiapaaGreat
open Go.RowKit
theorem BL(X:List Nat)(w:World)(hl:X.length≤1000)(hlt:∀x∈X,x<256) :
  Calls prog 15 #[.string (strOf X)] w fun e w'=>e=.returned (.bool (decide (0<X.length∧X=List.replicate X.length (X[0]?.getD 0))))∧Below w.heap.size w w':=by
 cases X with
 | nil=>
  rw[decide_eq_false (by simp)];have he:=Cg [];rw[decide_eq_true rfl]at he;go_enter func15,ntmps15
  go_wp2;go_ret;exact⟨rfl,Below.refl _ _⟩
 | cons x u=>
  have he:=Cg (x :: u);rw[decide_eq_false (by simp)]at he;have hto:∀W:World,(Instr.slice 9 (.string (strOf (x :: u))) none (some (.int .i64 1)) none).run prog W=.ok (.string (strOf [x])) W:=fun W=>ql (x :: u) 1 (by simp) W
  have hn:(x :: u).length≤1000:=hl;have Hrep:=hid (fun W=>oH x (x :: u).length W (by omega));have hbq:=DL (x :: u) (List.replicate (x :: u).length x) hlt (fun y hy=>by rw[(List.mem_replicate.1 hy).2];exact hlt x List.mem_cons_self);rw[show(decide (0<(x :: u).length∧x :: u=List.replicate (x :: u).length ((x :: u)[0]?.getD 0)))=decide (x :: u=List.replicate (x :: u).length x)from decide_eq_decide.2 ⟨fun c=>c.2,fun c=>⟨by simp,c⟩⟩];have hsz:=aA (x :: u);have hse:((strOf (x :: u)).toList == (ByteArray.mk #[]).toList)=false:=by
   rw[show(ByteArray.mk #[])=strOf []from rfl,DL _ _ hlt (by simp)];rfl
  generalize decide (x :: u=List.replicate (x :: u).length x)=B at *;generalize strOf (List.replicate (x :: u).length x)=sR at *;generalize (x :: u).length=n at *;generalize strOf (x :: u)=sX at *;generalize strOf [x]=s1 at *;clear hlt;go_enter func15,ntmps15
  go_wp2_with fail
  refine(Hrep.out _).mono ?_;rintro e w1 ⟨rfl,hb1⟩;go_wp2;go_ret;exact⟨rfl,hb1⟩
theorem Kh(k ep:Nat)(X T:List Nat)(w:World)(hk:k<256)(hep:ep≤1073741824)(hX:X.length≤100000)(hT:T.length≤1000000)(hXlt:∀x∈X,x<256)(Po:∀x∈T,x<256) :
  Calls prog 16 #[.int .u64 (k:Int),.string (strOf X),.int .i64 (ep:Int),.string (strOf T)] w fun e w'=>e=.returned (.string (strOf (hdB k ep X++T)))∧Below w.heap.size w w':=by
 have hsz:=aA X;have h1:=eO ep (by omega);have h2:=eO X.length (by omega);have hnew:=CW.new w;have hbA:=(Below.refl w.heap.size w).alloc (Nat.le_refl _) (.cells #[.pointer none,.int .i64 0] 62);have hf:=fun W b h=>nG b k 1 [] W (by omega) (by omega) (by omega) (by simp) h
 rw[Pk k hk]at hf;have hg1:=fun W b h=>iM b ep [k] W (by omega) (by simp) h
 have hg2:=fun W b h=>iM b X.length ([k]++grp ep) W (by omega) (by rw[List.length_append,List.length_singleton];omega) h
 have ajr:=fun W=>Sv X W (by omega) hXlt
 have hf8:=fun W b h=>nG b (Bm.sumOf X) 8 ([k]++grp ep++grp X.length) W (by omega) (by omega) (JJ X) (by simp only[List.length_append,List.length_singleton];omega) h
 have e8:[k]++grp ep++grp X.length++Bm.bytesOf (Bm.sumOf X) (fx 8)=hdB k ep X:=by
  rw[show fx 8=8 by decide];unfold hdB;simp
 rw[e8]at hf8;have hlh:(hdB k ep X).length≤100:=by rw[iU];omega
 have hraw:=fun W b h=>gV b (hdB k ep X) T W (by omega) h
 have hall:∀x∈hdB k ep X++T,x<256:=jN (fun x hx=>by
  unfold hdB at hx;rcases List.mem_cons.1 hx with rfl | hx
  ·exact hk
  ·rcases List.mem_append.1 hx with hx | hx
   ·exact kX ep (by omega) x hx
   ·rcases List.mem_append.1 hx with hx | hx
    ·exact kX X.length (by omega) x hx
    ·exact eB _ _ x hx) Po
 have hstr:=fun W b h=>iK b (hdB k ep X++T) W (by rw[List.length_append];omega) hall h
 have xH:=hid hnew;have HbA:=hid hbA;have Hf:=hid hf;have Hg1:=hid hg1;have Hg2:=hid hg2;have acA:=hid ajr;have Hf8:=hid hf8;have fI:=hid hraw;have oN:=hid hstr;have hw:IntKind.u64.wrap (ep:Int)=(ep:Int):=uz ep (by omega);have hw2:IntKind.u64.wrap (X.length:Int)=(X.length:Int):=uz X.length (by omega);clear hnew hbA hf hg1 hg2 ajr hf8 hraw hstr e8 hall hlh hXlt Po h1 h2;generalize strOf (hdB k ep X++T)=sR at *;generalize hdB k ep X=H at *;generalize [k]++grp ep++grp X.length=G2 at *;generalize [k]++grp ep=G1 at *;generalize [k]=G0 at *;generalize Bm.sumOf X=y at *;generalize strOf X=sX at *;generalize X.length=n at *;generalize strOf T=sT at *;go_enter func16,ntmps16
 go_wp2_with fail
 refine(Hf.out _ _ xH.out).mono ?_;rintro e w1 ⟨rfl,hc1,hg1⟩;have Hb1:=hid (HbA.out.trans (below_grown hg1 (Nat.le_refl _) HbA.out.size));have Hc1:=hid (Hg1.out w1 _ hc1);clear hc1 hg1 HbA Hf Hg1 xH;go_wp2_with fail
 refine Hc1.out.mono ?_;rintro e w2 ⟨rfl,hc2,hg2⟩;have Hb2:=hid (Hb1.out.trans (below_grown hg2 (Nat.le_refl _) Hb1.out.size));have Hc2:=hid (Hg2.out w2 _ hc2);clear hc2 hg2 Hb1 Hc1 Hg2;go_wp2_with fail
 refine Hc2.out.mono ?_;rintro e w3 ⟨rfl,hc3,hg3⟩;have Hb3:=hid (Hb2.out.trans (below_grown hg3 (Nat.le_refl _) Hb2.out.size));have Hc3:=hid hc3;clear hc3 hg3 Hb2 Hc2;go_wp2_with fail
 refine(acA.out _).mono ?_;rintro e w4 ⟨rfl,hb4⟩;have Hb4:=hid (Hb3.out.trans (hb4.mono Hb3.out.size));have Hc4:=hid (Hf8.out w4 _ (Hc3.out.below hb4));clear hb4 Hb3 Hc3 Hf8 acA;go_wp2_with fail
 refine Hc4.out.mono ?_;rintro e w5 ⟨rfl,hc5,hg5⟩;have Hb5:=hid (Hb4.out.trans (below_grown hg5 (Nat.le_refl _) Hb4.out.size));have Hc5:=hid (fI.out w5 _ hc5);clear hc5 hg5 Hb4 Hc4 fI;go_wp2_with fail
 refine Hc5.out.mono ?_;rintro e w6 ⟨rfl,hc6,hg6⟩;have Hb6:=hid (Hb5.out.trans (below_grown hg6 (Nat.le_refl _) Hb5.out.size));have Hc6:=hid (oN.out w6 _ hc6);clear hc6 hg6 Hb5 Hc5 oN;go_wp2_with fail
 refine Hc6.out.mono ?_;rintro e w7 ⟨rfl,hb7⟩;have Hb7:=hid (Hb6.out.trans (hb7.mono Hb6.out.size));clear hb7 Hb6 Hc6;go_wp2;go_ret;exact⟨rfl,Hb7.out⟩
end Go.Proofs.YtgiicohbigiapaaGreat
