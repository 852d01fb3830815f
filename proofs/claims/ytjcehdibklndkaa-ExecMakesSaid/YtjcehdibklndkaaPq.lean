/-
  What layer 12's calls (parse) answer, put together as the laws' walks ask for it (psteps_is, pright_is, plits_is, pabc_is). No condition beyond the definitions' own.
-/
import Derived.Test.YtjcehdibklndkaaPt
import Derived.Test.YtjcehdibklndkaaPr
import Derived.Test.YtjcehdibklndkaaPl
import Derived.Test.YtjcehdibklndkaaPh
namespace Go.Proofs.Ytjcehdibklndkaa
open Go.RowKit

theorem psteps_is : PSteps := fun w D X v hD hX hDl hXl hv => (parsteps_any D X v w hD hX hDl hXl hv).mono fun _ _ ⟨A, c, he, hr, hb⟩ =>
  ⟨A, c, _, he, hr, Bm.stepsA_length D X v, Bm.stepsA_ok D X v, Bm.stepsA_none D X v, hb⟩
theorem plits_is : PLits := fun w X A c l hX hl hlt he hr => parlits_any X A c l w hX hl hlt he hr
theorem pabc_is : PAbc := fun w => by
  have h := parsteps_any [] [97, 98, 99, 97, 98, 99, 97, 98, 99] 1 w (by decide) (by decide) (by decide) (by decide) ⟨by omega, by omega⟩
  rw [Bm.steps_abc] at h
  exact h
end Go.Proofs.Ytjcehdibklndkaa
