/-
  No cell of these rows narrows 'for every input' (looked for: loops, veiled, ifaces, maps, wideKeys, modest, calm, conditions, laid).
  DERIVED. THE GIVEN ROWS OF THIS SEAT. 3 by the template 'for every input the law returns true; each argument reads behind the call as it read before'; 0 by the template 'total and deterministic' (their statements: YtnjmoameedmikaaTotals.lean).
  GIVEN WITH THE SEED: the statements are not yours to turn. If you find one false, say at which input.
  Laid BY PROGRAM, IN A SANDBOX (cutbox-rows.mjs): the forced cells as the released guide's own fill.sh prints them over the translation ee67b538cbf873ab… (all of the seat's roots in one cut). By AI agents, Wed Nov 11 2026. No macro, syntax, notation, axiom, sorry.
-/
import Derived.Test.YtnjmoameedmikaaChecked
import GoSem.Claim
import GoSem.ClaimJoined
import GoSem.ClaimMapViews
import Derived.JoinedTies
import Derived.KernelRfl
namespace Go.Proofs.Ytnjmoameedmikaa
/- THE CELL 'sum', in the pinned program and in every row, IS THE sha256 OF THE DUMP (.gsa) THAT YtnjmoameedmikaaProg.lean LOADS. Nothing in Lean hashes anything: it is a label: what it is worth is what the hold of that sum in a sandbox is worth. -/
noncomputable def Try.pinned : Pinned := { name := "ytnjmoameedmikaa", sum := "ee67b538cbf873aba88186d9763ae42af383c9bc3e464c6e6249ee4e7c5f4fec", checked := Try.checked }
namespace Rows
def none {H : Type} : Left H := { results := [], args := [] }

/-- 'pemmicanlaw20.DictBack': WHATEVER THE INPUT: true; the input reads as it did. -/
def dictBackSpec : ChangeSpec := { name := "dictBack", fn := fun _ => fun
  | [d] => { results := [.lit (.bool true)], args := [d] }
  | _ => none }
def dictBackRow : OpenClaim := { program := "ytnjmoameedmikaa", sum := "ee67b538cbf873aba88186d9763ae42af383c9bc3e464c6e6249ee4e7c5f4fec", func := "pemmican/pemmicanlaw20.DictBack", spec := "dictBack", apart := false }
def DictBackSaid : Prop := dictBackRow.holds Try.pinned (OpenSpec.ofChange dictBackSpec)

/-- ITS FALSE NEIGHBOUR: 'it returns false'. Refute it at one input. -/
def dictBackWrong : ChangeSpec := { name := "dictBack", fn := fun _ => fun
  | [d] => { results := [.lit (.bool false)], args := [d] }
  | _ => none }
def DictBackWrongFalsely : Prop := dictBackRow.holds Try.pinned (OpenSpec.ofChange dictBackWrong)

/-- 'pemmicanlaw20.DictAny': WHATEVER THE INPUT: true; the input reads as it did. -/
def dictAnySpec : ChangeSpec := { name := "dictAny", fn := fun _ => fun
  | [d] => { results := [.lit (.bool true)], args := [d] }
  | _ => none }
def dictAnyRow : OpenClaim := { program := "ytnjmoameedmikaa", sum := "ee67b538cbf873aba88186d9763ae42af383c9bc3e464c6e6249ee4e7c5f4fec", func := "pemmican/pemmicanlaw20.DictAny", spec := "dictAny", apart := false }
def DictAnySaid : Prop := dictAnyRow.holds Try.pinned (OpenSpec.ofChange dictAnySpec)

/-- ITS FALSE NEIGHBOUR: 'it returns false'. Refute it at one input. -/
def dictAnyWrong : ChangeSpec := { name := "dictAny", fn := fun _ => fun
  | [d] => { results := [.lit (.bool false)], args := [d] }
  | _ => none }
def DictAnyWrongFalsely : Prop := dictAnyRow.holds Try.pinned (OpenSpec.ofChange dictAnyWrong)

/-- 'pemmicanlaw20.DictTurned': WHATEVER THE INPUT: true; the input reads as it did. -/
def dictTurnedSpec : ChangeSpec := { name := "dictTurned", fn := fun _ => fun
  | [d1, d2, d3] => { results := [.lit (.bool true)], args := [d1, d2, d3] }
  | _ => none }
def dictTurnedRow : OpenClaim := { program := "ytnjmoameedmikaa", sum := "ee67b538cbf873aba88186d9763ae42af383c9bc3e464c6e6249ee4e7c5f4fec", func := "pemmican/pemmicanlaw20.DictTurned", spec := "dictTurned", apart := false }
def DictTurnedSaid : Prop := dictTurnedRow.holds Try.pinned (OpenSpec.ofChange dictTurnedSpec)

/-- ITS FALSE NEIGHBOUR: 'it returns false'. Refute it at one input. -/
def dictTurnedWrong : ChangeSpec := { name := "dictTurned", fn := fun _ => fun
  | [d1, d2, d3] => { results := [.lit (.bool false)], args := [d1, d2, d3] }
  | _ => none }
def DictTurnedWrongFalsely : Prop := dictTurnedRow.holds Try.pinned (OpenSpec.ofChange dictTurnedWrong)

/- THE SECOND FORM. 'bulk': how many values and letters a reading holds, each counted each time it is reached (what is shared counts as often as it is met; a slice's spare places count too). A statement '..UptoSaid' is the law's where the arguments, and the package variables that the reading takes, are together of bulk at most 1048576: NARROWER than '..Said'. Prove '..Said' where nothing that the law and all that it calls make is longer than what came in: it says more and counts as full. Else prove '..UptoSaid'. A law counts once. -/
mutual
def uptoBulk {H : Type} : DataW H → Nat
  | .lit (.string bytes) => bytes.length + 1
  | .lit _ => 1
  | .nil => 1
  | .ptr d => uptoBulk d + 1
  | .slice elems spare => uptoBulkAll elems + uptoBulkAll spare + 1
  | .agg parts => uptoBulkAll parts + 1
  | .iface _ d => uptoBulk d + 1
  | .map entries => uptoBulkEntries entries + 1
  | .held _ => 1
def uptoBulkAll {H : Type} : List (DataW H) → Nat
  | [] => 0
  | d :: r => uptoBulk d + uptoBulkAll r
def uptoBulkEntries {H : Type} : List (Lit × DataW H) → Nat
  | [] => 0
  | x :: r => uptoBulkEntry x + uptoBulkEntries r
def uptoBulkEntry {H : Type} : Lit × DataW H → Nat
  | (.string bytes, d) => bytes.length + uptoBulk d + 1
  | (_, d) => uptoBulk d + 1
 end
def uptoSmall : (H : Type) → List (DataW H) → Bool := fun _ ds => decide (uptoBulkAll ds ≤ 1048576)
def OpenSpec.upto (s : _root_.Go.ChangeSpec) : _root_.Go.OpenSpec := { _root_.Go.OpenSpec.ofChange s with cond := some uptoSmall }

/-- 'pemmicanlaw20.DictBack', WHERE WHAT IT READS IS OF BULK AT MOST 1048576: true; the input reads as it did. -/
def dictBackUptoRow : OpenClaim := { program := "ytnjmoameedmikaa", sum := "ee67b538cbf873aba88186d9763ae42af383c9bc3e464c6e6249ee4e7c5f4fec", func := "pemmican/pemmicanlaw20.DictBack", spec := "dictBack", apart := false, narrowed := true }
def DictBackUptoSaid : Prop := dictBackUptoRow.holds Try.pinned (OpenSpec.upto dictBackSpec)

/-- 'pemmicanlaw20.DictAny', WHERE WHAT IT READS IS OF BULK AT MOST 1048576: true; the input reads as it did. -/
def dictAnyUptoRow : OpenClaim := { program := "ytnjmoameedmikaa", sum := "ee67b538cbf873aba88186d9763ae42af383c9bc3e464c6e6249ee4e7c5f4fec", func := "pemmican/pemmicanlaw20.DictAny", spec := "dictAny", apart := false, narrowed := true }
def DictAnyUptoSaid : Prop := dictAnyUptoRow.holds Try.pinned (OpenSpec.upto dictAnySpec)

/-- 'pemmicanlaw20.DictTurned', WHERE WHAT IT READS IS OF BULK AT MOST 1048576: true; the input reads as it did. -/
def dictTurnedUptoRow : OpenClaim := { program := "ytnjmoameedmikaa", sum := "ee67b538cbf873aba88186d9763ae42af383c9bc3e464c6e6249ee4e7c5f4fec", func := "pemmican/pemmicanlaw20.DictTurned", spec := "dictTurned", apart := false, narrowed := true }
def DictTurnedUptoSaid : Prop := dictTurnedUptoRow.holds Try.pinned (OpenSpec.upto dictTurnedSpec)

end Rows
end Go.Proofs.Ytnjmoameedmikaa
