/- Contracts, and what they rest on. Conditions: the theorems' premises. -/
import Derived.Test.YtgiicohbigiapaaGreatRaw
import Derived.Test.YtgiicohbigiapaaGreatRak
set_option maxHeartbeats 4000000
set_option maxRecDepth 100000
open Go.Lib(hid)
open Go.Proofs.Tryz Go.Proofs.YtgiicohbigiapaaGreat.Bm
namespace Go.Proofs.YtgiicohbigiapaaGreat
open Go.RowKit
def mX(s:ByteArray):List Value:=.string s :: (List.replicate 2000 (.bool false)++(List.replicate 2003 (.int .i16 0)++List.replicate 2000 (.int .i16 0)))
theorem aic(W:World):(zeroValue 147).run prog W=.ok (.agg (mX ⟨#[]⟩).toArray) W:=by kernel_rfl
theorem Ur(s:ByteArray):(mX ⟨#[]⟩).toArray.setIfInBounds 0 (.string s)=(mX s).toArray:=by
 rw[List.setIfInBounds_toArray];rfl
theorem YL:¬(mX ⟨#[]⟩).toArray=#[]:=fun h=>by
 have h1:=congrArg Array.toList h;rw[List.toList_toArray,mX]at h1;exact List.cons_ne_nil _ _ h1
structure uX(C:List Value)(T P:List Nat)(L A:Nat→Nat):Prop where
 c0:C[0]?=some (.string (strOf T))
 noted:∀i,i<2000→C[1+i]?=some (.bool (decide (i∈P)))
 last:∀c,c<2003→C[2001+c]?=some (.int .i16 (L c:Int))
 ahead:∀i,i<2000→C[4004+i]?=some (.int .i16 (A i:Int))
theorem uX.new(T:List Nat):uX (mX (strOf T)) T [] (fun _=>0) (fun _=>0):=by
 refine⟨rfl,fun i hi=>?_,fun c hc=>?_,fun i hi=>?_⟩
 ·rw[mX,Nat.add_comm,List.getElem?_cons_succ,List.getElem?_append_left (by rw[List.length_replicate];exact hi),List.getElem?_replicate_of_lt hi];simp
 ·rw[mX,show 2001+c=(2000+c)+1 by omega,List.getElem?_cons_succ,List.getElem?_append_right (by rw[List.length_replicate];omega),List.length_replicate,Nat.add_sub_cancel_left,List.getElem?_append_left (by rw[List.length_replicate];exact hc),List.getElem?_replicate_of_lt hc];rfl
 ·rw[mX,show 4004+i=(2000+(2003+i))+1 by omega,List.getElem?_cons_succ,List.getElem?_append_right (by rw[List.length_replicate];omega),List.length_replicate,Nat.add_sub_cancel_left,List.getElem?_append_right (by rw[List.length_replicate];omega),List.length_replicate,Nat.add_sub_cancel_left,List.getElem?_replicate_of_lt hi];rfl
theorem aZ{α:Type}(l:List α)(i j:Nat)(x:α)(h:i≠j):(l.set i x)[j]?=l[j]?:=List.getElem?_set_ne h
theorem rC{α:Type}{l:List α}{i:Nat}{x y:α}(h:l[i]?=some y):(l.set i x)[i]?=some x:=by
 have hi:i<l.length:=by
  rcases Nat.lt_or_ge i l.length with h1 | h1
  ·exact h1
  ·rw[List.getElem?_eq_none h1]at h;cases h
 rw[List.getElem?_set_self hi]
theorem uX.note{C:List Value}{T P:List Nat}{L A:Nat→Nat}(h:uX C T P L A)(a c:Nat)(ha:a<2000)(hc:c<2003) :
  uX (((C.set (1+a) (.bool true)).set (4004+a) (.int .i16 (L c:Int))).set (2001+c) (.int .i16 ((a+1:Nat):Int))) T (P++[a]) (fun x=>if x=c then a+1 else L x) (fun p=>if p=a then L c else A p):=by
 refine⟨?_,fun i hi=>?_,fun x hx=>?_,fun i hi=>?_⟩
 ·rw[aZ _ _ _ _ (by omega),aZ _ _ _ _ (by omega),aZ _ _ _ _ (by omega)];exact h.c0
 ·rw[aZ _ _ _ _ (by omega),aZ _ _ _ _ (by omega)];by_cases hia:i=a
  ·subst hia;rw[rC (h.noted i hi)];simp
  ·rw[aZ _ _ _ _ (by omega),h.noted i hi];simp[hia]
 ·by_cases hxc:x=c
  ·subst hxc;rw[rC (y:=.int .i16 (L x:Int)) (by rw[aZ _ _ _ _ (by omega),aZ _ _ _ _ (by omega)];exact h.last x hx)];simp
  ·rw[aZ _ _ _ _ (by omega),aZ _ _ _ _ (by omega),aZ _ _ _ _ (by omega),h.last x hx,if_neg hxc]
 ·rw[aZ _ _ _ _ (by omega)];by_cases hia:i=a
  ·subst hia;rw[rC (y:=.int .i16 (A i:Int)) (by rw[aZ _ _ _ _ (by omega)];exact h.ahead i hi)];simp
  ·rw[aZ _ _ _ _ (by omega),aZ _ _ _ _ (by omega),h.ahead i hi,if_neg hia]
def PF(w:World)(b:Nat)(T P:List Nat):Prop:=∃(C:List Value) (L A:Nat→Nat),Row w b 147 C∧uX C T P L A∧Ey T P L A∧Bm.Places T P
theorem PF.keep{w w':World}{b:Nat}{T P:List Nat}(h:PF w b T P)(hb:w'.heap[b]?=w.heap[b]?):PF w' b T P:=by
 obtain⟨C,L,A,h1,h2⟩:=h;exact⟨C,L,A,h1.keep hb,h2⟩
theorem PF.lt{w:World}{b:Nat}{T P:List Nat}(h:PF w b T P):b<w.heap.size:=by
 obtain⟨C,L,A,h1,h2⟩:=h;exact h1.lt
theorem PF.text{w:World}{b:Nat}{T P:List Nat}(h:PF w b T P):w.cell? ⟨b,0,none⟩=some (.string (strOf T)):=by
 obtain⟨C,L,A,h1,h2,_⟩:=h;rw[h1.cell 0,h2.c0]
theorem YJ(w:World)(T:List Nat)(hT:T.length≤2000) :
  Calls prog 58 #[.string (strOf T)] w fun e w'=>∃b,e=.returned (.pointer (some ⟨b,0,none⟩))∧PF w' b T []∧w.heap.size≤b∧Below w.heap.size w w':=by
 have hsz:=ay T;have hcut:∀W:World,(Instr.slice 9 (.string (strOf T)) none (some (.int .i64 (T.length:Int))) none).run prog W=.ok (.string (strOf T)) W:=fun W=>by
  have h:=oh T T.length (Nat.le_refl _) W;rwa [List.take_length]at h
 have hmin:min (T.length:Int) 2000=(T.length:Int):=by omega
 have Hcl:=hid (MJ (strOf T) w (by rw[hsz];omega));have hz:=aic;have hzs:=Ur (strOf T);have hzn:=YL;have Hpc:=hid (uX.new T);generalize mX (strOf T)=C at *;generalize (mX ⟨#[]⟩).toArray=Z at *;generalize strOf T=ss at *;go_enter func58,ntmps58
 go_wp2_with fail
 refine Hcl.out.mono ?_;rintro e w1 ⟨rfl,hb1⟩;have Hb1:=hid hb1;clear hb1 Hcl;go_wp2;go_ret;exact⟨_,rfl,⟨C,_,_,Row.new w1 _ C,Hpc.out,Ey.zero T,(fun p hp=>by simp at hp)⟩,Hb1.out.size,Hb1.out.alloc Hb1.out.size _⟩
end Go.Proofs.YtgiicohbigiapaaGreat
