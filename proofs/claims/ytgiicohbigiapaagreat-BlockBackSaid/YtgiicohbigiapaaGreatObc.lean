/- Contracts. -/
import Derived.Test.YtgiicohbigiapaaGreatOaj
import Derived.Deep.Fields
import Derived.ShutString
import Derived.Test.YtgiicohbigiapaaGreatOz1
import Derived.Test.YtgiicohbigiapaaGreatOz0
set_option maxHeartbeats 4000000
set_option maxRecDepth 100000
open Go.Proofs.Tryz Go.Proofs.YtgiicohbigiapaaGreat.am List Nat Option
namespace Go.Proofs.YtgiicohbigiapaaGreat
open Go.RowKit Go.ChangeShapes Go.WideShapes Go.ChangeAt
section
variable {H:Type} {enc:TypeId×Value->H}
theorem ae2{w:ah}{base:Nat}{spare:Nat->Bool}{held:Bool}{r:Reach}{bF fuel:Nat}{v:Value}{x:DataW H×List MemPlace}(aD:Value.okWide prog w r bF 22 v)
  (h:DataW.trod enc prog w base spare held fuel 22 v.cells.toList=some x):∃a b:ByteArray,v=.agg #[.string a,.string b]/\a.size<=maxLen/\b.size<=maxLen:=by
 have hu:=underlying22;have ji:prog.cellsOf 22=2:=by kernel_rfl
 have agD:prog.cellsOf 9=1:=by kernel_rfl
 obtain⟨ag,rfl,bB⟩:∃ag,v=.agg ag/\ag.size=prog.cellsOf 22:=by
  simp only[Value.okWide,hu]at aD;obtain⟨ag,h1,af,_⟩:=aD;exact⟨ag,h1,af⟩
 rw[ji]at bB;obtain⟨c0,c1,rfl⟩:∃c0 c1,ag=#[c0,c1]:=by
  obtain⟨l⟩:=ag;match l,bB with
 |[c0,c1],_=>exact⟨c0,c1,rfl⟩
 obtain⟨xs,m,_,_,_,hl,ay⟩:=DataW.trod_array hu h;match xs,hl with
|[kP,j0],_=>
  have ao:=ay 0 (by omega);have h1:=ay 1 (by omega);rw[agD]at ao h1;simp only[Value.cells,Nat.zero_mul,Nat.one_mul,drop_zero,drop_succ_cons,take_succ_cons,take_zero,dH,dJ]at ao h1;obtain⟨a,e0,_,h2⟩:=DataW.trod_string underlying9 ao;obtain⟨b,aG,_,hP⟩:=DataW.trod_string underlying9 h1;simp at e0 aG;subst e0 aG;exact⟨a,b,rfl,h2,hP⟩
end
end Go.Proofs.YtgiicohbigiapaaGreat
