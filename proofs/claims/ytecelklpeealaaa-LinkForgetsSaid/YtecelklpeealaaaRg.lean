/-
  A region that draws its order: what is held of the world may be turned to more on the way (behind a call that has made memory: 'as it is now, below'). No condition.
-/
import Derived.Test.YtecelklpeealaaaGw
import Derived.Deep.RegionHeld3
namespace Go.Proofs.Ytecelklpeealaaa
theorem wpAnyH_turn {P : Program} {ops : Array Oper} {Q : Exit → Act → World → Prop} {md : Region.Mode} {S S' : World → Prop} (hSS : ∀ w, S' w → S w) :
    ∀ (fuel : Nat) (listed : Array Bool) (a : Act) (w : World), wpAnyH P md ops Q S' fuel listed a w → wpAnyH P md ops Q S fuel listed a w
  | 0, _, _, _, h => h
  | fuel + 1, _, _, _, h => ⟨h.1, fun i hi => wpOp_mono (fun a' w' h' => ⟨hSS _ h'.1, wpAnyH_turn hSS fuel _ a' w' h'.2⟩) (h.2 i hi)⟩
end Go.Proofs.Ytecelklpeealaaa
