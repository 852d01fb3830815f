/- Contracts, and what they rest on. Conditions: the theorems' premises. -/
import Derived.Test.YtgiicohbigiapaaGreatRap
import Derived.Deep.Fields
import Derived.ShutString
set_option maxHeartbeats 4000000
set_option maxRecDepth 100000
open Go.Proofs.Tryz
namespace Go.Proofs.YtgiicohbigiapaaGreat
open Go.RowKit Go.ChangeShapes Go.WideShapes Go.ChangeAt
section
variable {H:Type} {enc:TypeId×Value→H}
theorem aau{w:World}{base:Nat}{spare:Nat→Bool}{held:Bool}{r:Reach}{b0 fuel:Nat}{v:Value}{x:DataW H×List MemPlace}(hv:Value.okWide prog w r b0 22 v)
  (h:DataW.trod enc prog w base spare held fuel 22 v.cells.toList=some x):∃a b:ByteArray,v=.agg #[.string a,.string b]∧a.size≤maxLen∧b.size≤maxLen:=by
 have hu:=underlying22;have hC:prog.cellsOf 22=2:=by kernel_rfl
 have ci:prog.cellsOf 9=1:=by kernel_rfl
 obtain⟨cs,rfl,hsz⟩:∃cs,v=.agg cs∧cs.size=prog.cellsOf 22:=by
  simp only[Value.okWide,hu]at hv;obtain⟨cs,h1,h2,_⟩:=hv;exact⟨cs,h1,h2⟩
 rw[hC]at hsz;obtain⟨c0,c1,rfl⟩:∃c0 c1,cs=#[c0,c1]:=by
  obtain⟨l⟩:=cs;match l,hsz with
  | [c0,c1],_=>exact⟨c0,c1,rfl⟩
 obtain⟨xs,m,_,_,_,hl,hi⟩:=DataW.trod_array hu h;match xs,hl with
 | [y0,y1],_=>
  have h0:=hi 0 (by omega);have h1:=hi 1 (by omega);rw[ci]at h0 h1;simp only[Value.cells,Nat.zero_mul,Nat.one_mul,List.drop_zero,List.drop_succ_cons,List.take_succ_cons,List.take_zero,List.getElem?_cons_zero,List.getElem?_cons_succ]at h0 h1;obtain⟨a,e0,_,wa⟩:=DataW.trod_string underlying9 h0;obtain⟨b,e1,_,wb⟩:=DataW.trod_string underlying9 h1;simp at e0 e1;subst e0 e1;exact⟨a,b,rfl,wa,wb⟩
end
end Go.Proofs.YtgiicohbigiapaaGreat
