/- Contracts. -/
import Derived.Deep.RegionHeld3
namespace Go.Proofs.YtgiicohbigiapaaGreat
theorem bJ{P:Program}{ops:Array Oper}{Q:Exit->Act->World->Prop}{md:Region.Mode}{S:World->Prop}{fuel:Nat}{listed:Array Bool}{a:Act}{w:World}(i:Nat)(Hg:Oper)(v:Value)(ao:ops[i]?=some Hg)(hy:YieldsIf P ops S Hg v a)(k:wpAnyH P md ops Q S fuel (listed.setIfInBounds i true) (a.put Hg.dst v) w)
  (h1:Region.noSelect ops=true:=by kernel_rfl) (af:Region.free md ops listed i=true:=by kernel_rfl) (aq:(Region.ready md ops listed).contains i=true:=by kernel_rfl) (aK:∀c (a:Act) w,Q (Exit.panic c) (a.put Hg.dst v) w->Q (Exit.panic c) a w:=by exact λ_ _ _ h=>h) (aT:S w:=by assumption):wpAnyH P md ops Q S (fuel+1) listed a w:=
 wpAnyH_take ao h1 af aq aK hy aT k
theorem hd{P:Program}{ops:Array Oper}{Q:Exit->Act->World->Prop}{md:Region.Mode}{S:World->Prop}{fuel:Nat}{listed:Array Bool}{a:Act}{w:World}(i:Nat)(o:Oper)(ao:ops[i]?=some o)(k:∀JP:Act->World->Prop,Shut (∀(a:Act) (w:World),S w->(S w->wpAnyH P md ops Q S fuel (listed.setIfInBounds i true) a w)->JP a w)->if Region.wanted o (yielded ops a.tmps)=true then Oper.wp P o a w JP Q else JP (a.put o.dst undef) w)
  (h1:Region.ready md ops listed=[i]:=by kernel_rfl):wpAnyH P md ops Q S (fuel+1) listed a w:=
 wpAnyH_ready h1 (by simp) (AllReadyH.cons ao k AllReadyH.nil)
end Go.Proofs.YtgiicohbigiapaaGreat
