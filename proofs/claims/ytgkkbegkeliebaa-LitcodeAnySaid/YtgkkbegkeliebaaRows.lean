/-
  No cell of these rows narrows 'for every input' (looked for: loops, veiled, ifaces, maps, wideKeys, modest, calm, conditions, laid).
  DERIVED. THE GIVEN ROWS OF THIS SEAT. 4 by the template 'for every input the law returns true; each argument reads behind the call as it read before'; 0 by the template 'total and deterministic' (their statements: YtgkkbegkeliebaaTotals.lean).
  GIVEN WITH THE SEED: the statements are not yours to turn. If you find one false, say at which input.
  Laid BY PROGRAM, IN A SANDBOX (cutbox-rows.mjs): the forced cells as the released guide's own fill.sh prints them over the translation a84f3b705c79c81d… (all of the seat's roots in one cut). By AI agents, Wed Nov 11 2026. No macro, syntax, notation, axiom, sorry.
-/
import Derived.Test.YtgkkbegkeliebaaChecked
import GoSem.Claim
import GoSem.ClaimJoined
import GoSem.ClaimMapViews
import Derived.JoinedTies
import Derived.KernelRfl
namespace Go.Proofs.Ytgkkbegkeliebaa
/- THE CELL 'sum', in the pinned program and in every row, IS THE sha256 OF THE DUMP (.gsa) THAT YtgkkbegkeliebaaProg.lean LOADS. Nothing in Lean hashes anything: it is a label: what it is worth is what the hold of that sum in a sandbox is worth. -/
noncomputable def Try.pinned : Pinned := { name := "ytgkkbegkeliebaa", sum := "a84f3b705c79c81d818574f080333e021648a4588f235202b5840690e1d0750c", checked := Try.checked }
namespace Rows
def none {H : Type} : Left H := { results := [], args := [] }

/-- 'pemmicanlaw10.LitcodeBack': WHATEVER THE INPUT: true; the input reads as it did. -/
def litcodeBackSpec : ChangeSpec := { name := "litcodeBack", fn := fun _ => fun
  | [d1, d2] => { results := [.lit (.bool true)], args := [d1, d2] }
  | _ => none }
def litcodeBackRow : OpenClaim := { program := "ytgkkbegkeliebaa", sum := "a84f3b705c79c81d818574f080333e021648a4588f235202b5840690e1d0750c", func := "pemmican/pemmicanlaw10.LitcodeBack", spec := "litcodeBack", apart := false }
def LitcodeBackSaid : Prop := litcodeBackRow.holds Try.pinned (OpenSpec.ofChange litcodeBackSpec)

/-- ITS FALSE NEIGHBOUR: 'it returns false'. Refute it at one input. -/
def litcodeBackWrong : ChangeSpec := { name := "litcodeBack", fn := fun _ => fun
  | [d1, d2] => { results := [.lit (.bool false)], args := [d1, d2] }
  | _ => none }
def LitcodeBackWrongFalsely : Prop := litcodeBackRow.holds Try.pinned (OpenSpec.ofChange litcodeBackWrong)

/-- 'pemmicanlaw10.LitcodeAny': WHATEVER THE INPUT: true; the input reads as it did. -/
def litcodeAnySpec : ChangeSpec := { name := "litcodeAny", fn := fun _ => fun
  | [d1, d2, d3] => { results := [.lit (.bool true)], args := [d1, d2, d3] }
  | _ => none }
def litcodeAnyRow : OpenClaim := { program := "ytgkkbegkeliebaa", sum := "a84f3b705c79c81d818574f080333e021648a4588f235202b5840690e1d0750c", func := "pemmican/pemmicanlaw10.LitcodeAny", spec := "litcodeAny", apart := false }
def LitcodeAnySaid : Prop := litcodeAnyRow.holds Try.pinned (OpenSpec.ofChange litcodeAnySpec)

/-- ITS FALSE NEIGHBOUR: 'it returns false'. Refute it at one input. -/
def litcodeAnyWrong : ChangeSpec := { name := "litcodeAny", fn := fun _ => fun
  | [d1, d2, d3] => { results := [.lit (.bool false)], args := [d1, d2, d3] }
  | _ => none }
def LitcodeAnyWrongFalsely : Prop := litcodeAnyRow.holds Try.pinned (OpenSpec.ofChange litcodeAnyWrong)

/-- 'pemmicanlaw10.LitcodeTables': WHATEVER THE INPUT: true; the input reads as it did. -/
def litcodeTablesSpec : ChangeSpec := { name := "litcodeTables", fn := fun _ => fun
  | [d1, d2] => { results := [.lit (.bool true)], args := [d1, d2] }
  | _ => none }
def litcodeTablesRow : OpenClaim := { program := "ytgkkbegkeliebaa", sum := "a84f3b705c79c81d818574f080333e021648a4588f235202b5840690e1d0750c", func := "pemmican/pemmicanlaw10.LitcodeTables", spec := "litcodeTables", apart := false }
def LitcodeTablesSaid : Prop := litcodeTablesRow.holds Try.pinned (OpenSpec.ofChange litcodeTablesSpec)

/-- ITS FALSE NEIGHBOUR: 'it returns false'. Refute it at one input. -/
def litcodeTablesWrong : ChangeSpec := { name := "litcodeTables", fn := fun _ => fun
  | [d1, d2] => { results := [.lit (.bool false)], args := [d1, d2] }
  | _ => none }
def LitcodeTablesWrongFalsely : Prop := litcodeTablesRow.holds Try.pinned (OpenSpec.ofChange litcodeTablesWrong)

/-- 'pemmicanlaw10.LitcodeCosts': WHATEVER THE INPUT: true; the input reads as it did. -/
def litcodeCostsSpec : ChangeSpec := { name := "litcodeCosts", fn := fun _ => fun
  | [d] => { results := [.lit (.bool true)], args := [d] }
  | _ => none }
def litcodeCostsRow : OpenClaim := { program := "ytgkkbegkeliebaa", sum := "a84f3b705c79c81d818574f080333e021648a4588f235202b5840690e1d0750c", func := "pemmican/pemmicanlaw10.LitcodeCosts", spec := "litcodeCosts", unfollowed := true, recurses := true, apart := false }
def LitcodeCostsSaid : Prop := litcodeCostsRow.holds Try.pinned (OpenSpec.ofChange litcodeCostsSpec)

/-- ITS FALSE NEIGHBOUR: 'it returns false'. Refute it at one input. -/
def litcodeCostsWrong : ChangeSpec := { name := "litcodeCosts", fn := fun _ => fun
  | [d] => { results := [.lit (.bool false)], args := [d] }
  | _ => none }
def LitcodeCostsWrongFalsely : Prop := litcodeCostsRow.holds Try.pinned (OpenSpec.ofChange litcodeCostsWrong)

/- THE SECOND FORM. 'bulk': how many values and letters a reading holds, each counted each time it is reached (what is shared counts as often as it is met; a slice's spare places count too). A statement '..UptoSaid' is the law's where the arguments, and the package variables that the reading takes, are together of bulk at most 1048576: NARROWER than '..Said'. Prove '..Said' where nothing that the law and all that it calls make is longer than what came in: it says more and counts as full. Else prove '..UptoSaid'. A law counts once. -/
mutual
def uptoBulk {H : Type} : DataW H → Nat
  | .lit (.string bytes) => bytes.length + 1
  | .lit _ => 1
  | .nil => 1
  | .ptr d => uptoBulk d + 1
  | .slice elems spare => uptoBulkAll elems + uptoBulkAll spare + 1
  | .agg parts => uptoBulkAll parts + 1
  | .iface _ d => uptoBulk d + 1
  | .map entries => uptoBulkEntries entries + 1
  | .held _ => 1
def uptoBulkAll {H : Type} : List (DataW H) → Nat
  | [] => 0
  | d :: r => uptoBulk d + uptoBulkAll r
def uptoBulkEntries {H : Type} : List (Lit × DataW H) → Nat
  | [] => 0
  | x :: r => uptoBulkEntry x + uptoBulkEntries r
def uptoBulkEntry {H : Type} : Lit × DataW H → Nat
  | (.string bytes, d) => bytes.length + uptoBulk d + 1
  | (_, d) => uptoBulk d + 1
 end
def uptoSmall : (H : Type) → List (DataW H) → Bool := fun _ ds => decide (uptoBulkAll ds ≤ 1048576)
def OpenSpec.upto (s : _root_.Go.ChangeSpec) : _root_.Go.OpenSpec := { _root_.Go.OpenSpec.ofChange s with cond := some uptoSmall }

/-- 'pemmicanlaw10.LitcodeBack', WHERE WHAT IT READS IS OF BULK AT MOST 1048576: true; the input reads as it did. -/
def litcodeBackUptoRow : OpenClaim := { program := "ytgkkbegkeliebaa", sum := "a84f3b705c79c81d818574f080333e021648a4588f235202b5840690e1d0750c", func := "pemmican/pemmicanlaw10.LitcodeBack", spec := "litcodeBack", apart := false, narrowed := true }
def LitcodeBackUptoSaid : Prop := litcodeBackUptoRow.holds Try.pinned (OpenSpec.upto litcodeBackSpec)

/-- 'pemmicanlaw10.LitcodeAny', WHERE WHAT IT READS IS OF BULK AT MOST 1048576: true; the input reads as it did. -/
def litcodeAnyUptoRow : OpenClaim := { program := "ytgkkbegkeliebaa", sum := "a84f3b705c79c81d818574f080333e021648a4588f235202b5840690e1d0750c", func := "pemmican/pemmicanlaw10.LitcodeAny", spec := "litcodeAny", apart := false, narrowed := true }
def LitcodeAnyUptoSaid : Prop := litcodeAnyUptoRow.holds Try.pinned (OpenSpec.upto litcodeAnySpec)

/-- 'pemmicanlaw10.LitcodeTables', WHERE WHAT IT READS IS OF BULK AT MOST 1048576: true; the input reads as it did. -/
def litcodeTablesUptoRow : OpenClaim := { program := "ytgkkbegkeliebaa", sum := "a84f3b705c79c81d818574f080333e021648a4588f235202b5840690e1d0750c", func := "pemmican/pemmicanlaw10.LitcodeTables", spec := "litcodeTables", apart := false, narrowed := true }
def LitcodeTablesUptoSaid : Prop := litcodeTablesUptoRow.holds Try.pinned (OpenSpec.upto litcodeTablesSpec)

/-- 'pemmicanlaw10.LitcodeCosts', WHERE WHAT IT READS IS OF BULK AT MOST 1048576: true; the input reads as it did. -/
def litcodeCostsUptoRow : OpenClaim := { program := "ytgkkbegkeliebaa", sum := "a84f3b705c79c81d818574f080333e021648a4588f235202b5840690e1d0750c", func := "pemmican/pemmicanlaw10.LitcodeCosts", spec := "litcodeCosts", unfollowed := true, recurses := true, apart := false, narrowed := true }
def LitcodeCostsUptoSaid : Prop := litcodeCostsUptoRow.holds Try.pinned (OpenSpec.upto litcodeCostsSpec)

end Rows
end Go.Proofs.Ytgkkbegkeliebaa
