/- Contracts. -/
import Derived.Deep.RegionHeld3
namespace Go.Proofs.YtgiicohbigiapaaGreat
theorem ch{P:Program}{ops:Array Oper}{Q:Exit->Act->World->Prop}{md:Region.Mode}{S:World->Prop}{fuel:Nat}{listed:Array Bool}{a:Act}{w:World}(i:Nat)(Im:Oper)(v:Value)(am:ops[i]?=some Im)(hy:YieldsIf P ops S Im v a)(k:wpAnyH P md ops Q S fuel (listed.setIfInBounds i true) (a.put Im.dst v) w)
  (h1:Region.noSelect ops=true:=by kernel_rfl) (af:Region.free md ops listed i=true:=by kernel_rfl) (aq:(Region.ready md ops listed).contains i=true:=by kernel_rfl) (aJ:∀c (a:Act) w,Q (Exit.panic c) (a.put Im.dst v) w->Q (Exit.panic c) a w:=by exact λ_ _ _ h=>h) (aR:S w:=by assumption):wpAnyH P md ops Q S (fuel+1) listed a w:=
 wpAnyH_take am h1 af aq aJ hy aR k
theorem iq{P:Program}{ops:Array Oper}{Q:Exit->Act->World->Prop}{md:Region.Mode}{S:World->Prop}{fuel:Nat}{listed:Array Bool}{a:Act}{w:World}(i:Nat)(o:Oper)(am:ops[i]?=some o)(k:∀KM:Act->World->Prop,Shut (∀(a:Act) (w:World),S w->(S w->wpAnyH P md ops Q S fuel (listed.setIfInBounds i true) a w)->KM a w)->if Region.wanted o (yielded ops a.tmps)=true then Oper.wp P o a w KM Q else KM (a.put o.dst undef) w)
  (h1:Region.ready md ops listed=[i]:=by kernel_rfl):wpAnyH P md ops Q S (fuel+1) listed a w:=
 wpAnyH_ready h1 (by simp) (AllReadyH.cons am k AllReadyH.nil)
end Go.Proofs.YtgiicohbigiapaaGreat
