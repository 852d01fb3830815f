/- Contracts, and what they rest on. Conditions: the theorems' premises. -/
import Derived.Test.YtaebnkeddcbmkaaGreatYak
set_option maxHeartbeats 4000000
set_option maxRecDepth 100000
open Go.Lib(hid)
open Go.Proofs.Tryz Go.Proofs.YtaebnkeddcbmkaaGreat.Bm
namespace Go.Proofs.YtaebnkeddcbmkaaGreat
open Go.RowKit
def nJ(s:ByteArray):List Value:=.string s :: (List.replicate 2000 (.bool false)++(List.replicate 2003 (.int .i16 0)++List.replicate 2000 (.int .i16 0)))
theorem amn(W:World):(zeroValue 149).run prog W=.ok (.agg (nJ ⟨#[]⟩).toArray) W:=by kernel_rfl
theorem XH(s:ByteArray):(nJ ⟨#[]⟩).toArray.setIfInBounds 0 (.string s)=(nJ s).toArray:=by
 rw[List.setIfInBounds_toArray];rfl
theorem acs:¬(nJ ⟨#[]⟩).toArray=#[]:=fun h=>by
 have h1:=congrArg Array.toList h;rw[List.toList_toArray,nJ]at h1;exact List.cons_ne_nil _ _ h1
structure wu(C:List Value)(T P:List Nat)(L A:Nat->Nat):Prop where
 c0:C[0]?=some (.string (strOf T))
 noted:∀i,i<2000->C[1+i]?=some (.bool (decide (i∈P)))
 last:∀c,c<2003->C[2001+c]?=some (.int .i16 (L c:Int))
 ahead:∀i,i<2000->C[4004+i]?=some (.int .i16 (A i:Int))
theorem wu.new(T:List Nat):wu (nJ (strOf T)) T [] (fun _=>0) (fun _=>0):=by
 refine⟨rfl,fun i hi=>?_,fun c hc=>?_,fun i hi=>?_⟩
 ·rw[nJ,Nat.add_comm,List.getElem?_cons_succ,List.getElem?_append_left (by rw[List.length_replicate];exact hi),List.getElem?_replicate_of_lt hi];simp
 ·rw[nJ,show 2001+c=(2000+c)+1 by omega,List.getElem?_cons_succ,List.getElem?_append_right (by rw[List.length_replicate];omega),List.length_replicate,Nat.add_sub_cancel_left,List.getElem?_append_left (by rw[List.length_replicate];exact hc),List.getElem?_replicate_of_lt hc];rfl
 ·rw[nJ,show 4004+i=(2000+(2003+i))+1 by omega,List.getElem?_cons_succ,List.getElem?_append_right (by rw[List.length_replicate];omega),List.length_replicate,Nat.add_sub_cancel_left,List.getElem?_append_right (by rw[List.length_replicate];omega),List.length_replicate,Nat.add_sub_cancel_left,List.getElem?_replicate_of_lt hi];rfl
theorem aZ{α:Type}(l:List α)(i j:Nat)(x:α)(h:i≠j):(l.set i x)[j]?=l[j]?:=List.getElem?_set_ne h
theorem sU{α:Type}{l:List α}{i:Nat}{x y:α}(h:l[i]?=some y):(l.set i x)[i]?=some x:=by
 have hi:i<l.length:=by
  rcases Nat.lt_or_ge i l.length with h1 | h1
  ·exact h1
  ·rw[List.getElem?_eq_none h1]at h;cases h
 rw[List.getElem?_set_self hi]
theorem wu.note{C:List Value}{T P:List Nat}{L A:Nat->Nat}(h:wu C T P L A)(a c:Nat)(ha:a<2000)(hc:c<2003) :
  wu (((C.set (1+a) (.bool true)).set (4004+a) (.int .i16 (L c:Int))).set (2001+c) (.int .i16 ((a+1:Nat):Int))) T (P++[a]) (fun x=>if x=c then a+1 else L x) (fun p=>if p=a then L c else A p):=by
 refine⟨?_,fun i hi=>?_,fun x hx=>?_,fun i hi=>?_⟩
 ·rw[aZ _ _ _ _ (by omega),aZ _ _ _ _ (by omega),aZ _ _ _ _ (by omega)];exact h.c0
 ·rw[aZ _ _ _ _ (by omega),aZ _ _ _ _ (by omega)];by_cases hia:i=a
  ·subst hia;rw[sU (h.noted i hi)];simp
  ·rw[aZ _ _ _ _ (by omega),h.noted i hi];simp[hia]
 ·by_cases hxc:x=c
  ·subst hxc;rw[sU (y:=.int .i16 (L x:Int)) (by rw[aZ _ _ _ _ (by omega),aZ _ _ _ _ (by omega)];exact h.last x hx)];simp
  ·rw[aZ _ _ _ _ (by omega),aZ _ _ _ _ (by omega),aZ _ _ _ _ (by omega),h.last x hx,if_neg hxc]
 ·rw[aZ _ _ _ _ (by omega)];by_cases hia:i=a
  ·subst hia;rw[sU (y:=.int .i16 (A i:Int)) (by rw[aZ _ _ _ _ (by omega)];exact h.ahead i hi)];simp
  ·rw[aZ _ _ _ _ (by omega),aZ _ _ _ _ (by omega),h.ahead i hi,if_neg hia]
def PF(w:World)(b:Nat)(T P:List Nat):Prop:=∃(C:List Value) (L A:Nat->Nat),Row w b 149 C/\wu C T P L A/\Gm T P L A/\Bm.Places T P
theorem PF.keep{w w':World}{b:Nat}{T P:List Nat}(h:PF w b T P)(hb:w'.heap[b]?=w.heap[b]?):PF w' b T P:=by
 obtain⟨C,L,A,h1,h2⟩:=h;exact⟨C,L,A,h1.keep hb,h2⟩
theorem PF.lt{w:World}{b:Nat}{T P:List Nat}(h:PF w b T P):b<w.heap.size:=by
 obtain⟨C,L,A,h1,h2⟩:=h;exact h1.lt
theorem PF.text{w:World}{b:Nat}{T P:List Nat}(h:PF w b T P):w.cell? ⟨b,0,none⟩=some (.string (strOf T)):=by
 obtain⟨C,L,A,h1,h2,_⟩:=h;rw[h1.cell 0,h2.c0]
theorem acp(w:World)(T:List Nat)(hT:T.length<=2000) :
  Calls prog 61 #[.string (strOf T)] w fun e w'=>∃b,e=.returned (.pointer (some ⟨b,0,none⟩))/\PF w' b T []/\w.heap.size<=b/\Below w.heap.size w w':=by
 have hsz:=aA T;have hcut:∀W:World,(Instr.slice 9 (.string (strOf T)) none (some (.int .i64 (T.length:Int))) none).run prog W=.ok (.string (strOf T)) W:=fun W=>by
  have h:=uU T T.length (Nat.le_refl _) W;rwa [List.take_length]at h
 have hmin:min (T.length:Int) 2000=(T.length:Int):=by omega
 have Hcl:=hid (Ay (strOf T) w (by rw[hsz];omega));have hz:=amn;have hzs:=XH (strOf T);have hzn:=acs;have Hpc:=hid (wu.new T);generalize nJ (strOf T)=C at *;generalize (nJ ⟨#[]⟩).toArray=Z at *;generalize strOf T=ss at *;go_enter func61,ntmps61
 go_wp2_with fail
 refine Hcl.out.mono ?_;rintro e w1 ⟨rfl,hb1⟩;have Hb1:=hid hb1;clear hb1 Hcl;go_wp2;go_ret;exact⟨_,rfl,⟨C,_,_,Row.new w1 _ C,Hpc.out,Gm.zero T,(fun p hp=>by simp at hp)⟩,Hb1.out.size,Hb1.out.alloc Hb1.out.size _⟩
theorem DN(X:List Nat)(w:World)(hl:X.length<=1000)(hlt:∀x∈X,x<256) :
  Calls prog 13 #[.string (strOf X)] w fun e w'=>e=.returned (.bool (decide (0<X.length/\X=List.replicate X.length (X[0]?.getD 0))))/\Below w.heap.size w w':=by
 cases X with
 | nil=>
  rw[decide_eq_false (by simp)];have he:=Ei [];rw[decide_eq_true rfl]at he;go_enter func13,ntmps13
  go_wp2;go_ret;exact⟨rfl,Below.refl _ _⟩
 | cons x u=>
  have he:=Ei (x :: u);rw[decide_eq_false (by simp)]at he;have hto:∀W:World,(Instr.slice 9 (.string (strOf (x :: u))) none (some (.int .i64 1)) none).run prog W=.ok (.string (strOf [x])) W:=fun W=>uU (x :: u) 1 (by simp) W
  have hn:(x :: u).length<=1000:=hl;have Hrep:=hid (fun W=>pV x (x :: u).length W (by omega));have hbq:=FN (x :: u) (List.replicate (x :: u).length x) hlt (fun y hy=>by rw[(List.mem_replicate.1 hy).2];exact hlt x List.mem_cons_self);rw[show(decide (0<(x :: u).length/\x :: u=List.replicate (x :: u).length ((x :: u)[0]?.getD 0)))=decide (x :: u=List.replicate (x :: u).length x)from decide_eq_decide.2 ⟨fun c=>c.2,fun c=>⟨by simp,c⟩⟩];have hsz:=aA (x :: u);have hse:((strOf (x :: u)).toList == (ByteArray.mk #[]).toList)=false:=by
   rw[show(ByteArray.mk #[])=strOf []from rfl,FN _ _ hlt (by simp)];rfl
  generalize decide (x :: u=List.replicate (x :: u).length x)=B at *;generalize strOf (List.replicate (x :: u).length x)=sR at *;generalize (x :: u).length=n at *;generalize strOf (x :: u)=sX at *;generalize strOf [x]=s1 at *;clear hlt;go_enter func13,ntmps13
  go_wp2_with fail
  refine(Hrep.out _).mono ?_;rintro e w1 ⟨rfl,hb1⟩;go_wp2;go_ret;exact⟨rfl,hb1⟩
theorem Nh(k ep:Nat)(X T:List Nat)(w:World)(hk:k<256)(hep:ep<=1073741824)(hX:X.length<=100000)(hT:T.length<=1000000)(hXlt:∀x∈X,x<256)(Tf:∀x∈T,x<256) :
  Calls prog 14 #[.int .u64 (k:Int),.string (strOf X),.int .i64 (ep:Int),.string (strOf T)] w fun e w'=>e=.returned (.string (strOf (hdB k ep X++T)))/\Below w.heap.size w w':=by
 have hsz:=aA X;have h1:=eZ ep (by omega);have h2:=eZ X.length (by omega);have hnew:=CW.new w;have hbA:=(Below.refl w.heap.size w).alloc (Nat.le_refl _) (.cells #[.pointer none,.int .i64 0] 72);have hf:=fun W b h=>oz b k 1 [] W (by omega) (by omega) (by omega) (by simp) h
 rw[Ta k hk]at hf;have hg1:=fun W b h=>iX b ep [k] W (by omega) (by simp) h
 have hg2:=fun W b h=>iX b X.length ([k]++grp ep) W (by omega) (by rw[List.length_append,List.length_singleton];omega) h
 have aov:=fun W=>Wy X W (by omega) hXlt
 have hf8:=fun W b h=>oz b (Bm.sumOf X) 8 ([k]++grp ep++grp X.length) W (by omega) (by omega) (MH X) (by simp only[List.length_append,List.length_singleton];omega) h
 have e8:[k]++grp ep++grp X.length++Bm.bytesOf (Bm.sumOf X) (fx 8)=hdB k ep X:=by
  rw[show fx 8=8 by decide];unfold hdB;simp
 rw[e8]at hf8;have hlh:(hdB k ep X).length<=100:=by rw[jg];omega
 have hraw:=fun W b h=>iq b (hdB k ep X) T W (by omega) h
 have hall:∀x∈hdB k ep X++T,x<256:=mR (fun x hx=>by
  unfold hdB at hx;rcases List.mem_cons.1 hx with rfl | hx
  ·exact hk
  ·rcases List.mem_append.1 hx with hx | hx
   ·exact lU ep (by omega) x hx
   ·rcases List.mem_append.1 hx with hx | hx
    ·exact lU X.length (by omega) x hx
    ·exact eH _ _ x hx) Tf
 have hstr:=fun W b h=>iU b (hdB k ep X++T) W (by rw[List.length_append];omega) hall h
 have uY:=hid hnew;have HbA:=hid hbA;have Hf:=hid hf;have Hg1:=hid hg1;have Hg2:=hid hg2;have agY:=hid aov;have Hf8:=hid hf8;have fT:=hid hraw;have qj:=hid hstr;have hw:IntKind.u64.wrap (ep:Int)=(ep:Int):=vS ep (by omega);have hw2:IntKind.u64.wrap (X.length:Int)=(X.length:Int):=vS X.length (by omega);clear hnew hbA hf hg1 hg2 aov hf8 hraw hstr e8 hall hlh hXlt Tf h1 h2;generalize strOf (hdB k ep X++T)=sR at *;generalize hdB k ep X=H at *;generalize [k]++grp ep++grp X.length=G2 at *;generalize [k]++grp ep=G1 at *;generalize [k]=G0 at *;generalize Bm.sumOf X=y at *;generalize strOf X=sX at *;generalize X.length=n at *;generalize strOf T=sT at *;go_enter func14,ntmps14
 go_wp2_with fail
 refine(Hf.out _ _ uY.out).mono ?_;rintro e w1 ⟨rfl,hc1,hg1⟩;have Hb1:=hid (HbA.out.trans (below_grown hg1 (Nat.le_refl _) HbA.out.size));have Hc1:=hid (Hg1.out w1 _ hc1);clear hc1 hg1 HbA Hf Hg1 uY;go_wp2_with fail
 refine Hc1.out.mono ?_;rintro e w2 ⟨rfl,hc2,hg2⟩;have Hb2:=hid (Hb1.out.trans (below_grown hg2 (Nat.le_refl _) Hb1.out.size));have Hc2:=hid (Hg2.out w2 _ hc2);clear hc2 hg2 Hb1 Hc1 Hg2;go_wp2_with fail
 refine Hc2.out.mono ?_;rintro e w3 ⟨rfl,hc3,hg3⟩;have Hb3:=hid (Hb2.out.trans (below_grown hg3 (Nat.le_refl _) Hb2.out.size));have Hc3:=hid hc3;clear hc3 hg3 Hb2 Hc2;go_wp2_with fail
 refine(agY.out _).mono ?_;rintro e w4 ⟨rfl,hb4⟩;have Hb4:=hid (Hb3.out.trans (hb4.mono Hb3.out.size));have Hc4:=hid (Hf8.out w4 _ (Hc3.out.below hb4));clear hb4 Hb3 Hc3 Hf8 agY;go_wp2_with fail
 refine Hc4.out.mono ?_;rintro e w5 ⟨rfl,hc5,hg5⟩;have Hb5:=hid (Hb4.out.trans (below_grown hg5 (Nat.le_refl _) Hb4.out.size));have Hc5:=hid (fT.out w5 _ hc5);clear hc5 hg5 Hb4 Hc4 fT;go_wp2_with fail
 refine Hc5.out.mono ?_;rintro e w6 ⟨rfl,hc6,hg6⟩;have Hb6:=hid (Hb5.out.trans (below_grown hg6 (Nat.le_refl _) Hb5.out.size));have Hc6:=hid (qj.out w6 _ hc6);clear hc6 hg6 Hb5 Hc5 qj;go_wp2_with fail
 refine Hc6.out.mono ?_;rintro e w7 ⟨rfl,hb7⟩;have Hb7:=hid (Hb6.out.trans (hb7.mono Hb6.out.size));clear hb7 Hb6 Hc6;go_wp2;go_ret;exact⟨rfl,Hb7.out⟩
end Go.Proofs.YtaebnkeddcbmkaaGreat
