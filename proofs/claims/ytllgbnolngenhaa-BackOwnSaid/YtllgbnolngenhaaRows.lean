/-
  No cell of these rows narrows 'for every input' (looked for: loops, veiled, ifaces, maps, wideKeys, modest, calm, conditions, laid).
  DERIVED. THE GIVEN ROWS OF THIS SEAT. 3 by the template 'for every input the law returns true; each argument reads behind the call as it read before'; 0 by the template 'total and deterministic' (their statements: YtllgbnolngenhaaTotals.lean).
  GIVEN WITH THE SEED: the statements are not yours to turn. If you find one false, say at which input.
  Laid BY PROGRAM, IN A SANDBOX (cutbox-rows.mjs): the forced cells as the released guide's own fill.sh prints them over the translation c4749a71b7fda8c5… (all of the seat's roots in one cut). By AI agents, Wed Nov 11 2026. No macro, syntax, notation, axiom, sorry.
-/
import Derived.Test.YtllgbnolngenhaaChecked
import GoSem.Claim
import GoSem.ClaimJoined
import GoSem.ClaimMapViews
import Derived.JoinedTies
import Derived.KernelRfl
namespace Go.Proofs.Ytllgbnolngenhaa
/- THE CELL 'sum', in the pinned program and in every row, IS THE sha256 OF THE DUMP (.gsa) THAT YtllgbnolngenhaaProg.lean LOADS. Nothing in Lean hashes anything: it is a label: what it is worth is what the hold of that sum in a sandbox is worth. -/
noncomputable def Try.pinned : Pinned := { name := "ytllgbnolngenhaa", sum := "c4749a71b7fda8c58a9ad129b8fecd29f6ea50ecc40dbd4ce4c9b01b4302f0e5", checked := Try.checked }
namespace Rows
def none {H : Type} : Left H := { results := [], args := [] }

/-- 'pemmicanlaw02.BackSeals': WHATEVER THE INPUT: true; the input reads as it did. -/
def backSealsSpec : ChangeSpec := { name := "backSeals", fn := fun _ => fun
  | [d] => { results := [.lit (.bool true)], args := [d] }
  | _ => none }
def backSealsRow : OpenClaim := { program := "ytllgbnolngenhaa", sum := "c4749a71b7fda8c58a9ad129b8fecd29f6ea50ecc40dbd4ce4c9b01b4302f0e5", func := "pemmican/pemmicanlaw02.BackSeals", spec := "backSeals", apart := false }
def BackSealsSaid : Prop := backSealsRow.holds Try.pinned (OpenSpec.ofChange backSealsSpec)

/-- ITS FALSE NEIGHBOUR: 'it returns false'. Refute it at one input. -/
def backSealsWrong : ChangeSpec := { name := "backSeals", fn := fun _ => fun
  | [d] => { results := [.lit (.bool false)], args := [d] }
  | _ => none }
def BackSealsWrongFalsely : Prop := backSealsRow.holds Try.pinned (OpenSpec.ofChange backSealsWrong)

/-- 'pemmicanlaw02.BackTake': WHATEVER THE INPUT: true; the input reads as it did. -/
def backTakeSpec : ChangeSpec := { name := "backTake", fn := fun _ => fun
  | [d1, d2] => { results := [.lit (.bool true)], args := [d1, d2] }
  | _ => none }
def backTakeRow : OpenClaim := { program := "ytllgbnolngenhaa", sum := "c4749a71b7fda8c58a9ad129b8fecd29f6ea50ecc40dbd4ce4c9b01b4302f0e5", func := "pemmican/pemmicanlaw02.BackTake", spec := "backTake", apart := false }
def BackTakeSaid : Prop := backTakeRow.holds Try.pinned (OpenSpec.ofChange backTakeSpec)

/-- ITS FALSE NEIGHBOUR: 'it returns false'. Refute it at one input. -/
def backTakeWrong : ChangeSpec := { name := "backTake", fn := fun _ => fun
  | [d1, d2] => { results := [.lit (.bool false)], args := [d1, d2] }
  | _ => none }
def BackTakeWrongFalsely : Prop := backTakeRow.holds Try.pinned (OpenSpec.ofChange backTakeWrong)

/-- 'pemmicanlaw02.BackOwn': WHATEVER THE INPUT: true; the input reads as it did. -/
def backOwnSpec : ChangeSpec := { name := "backOwn", fn := fun _ => fun
  | [d1, d2, d3] => { results := [.lit (.bool true)], args := [d1, d2, d3] }
  | _ => none }
def backOwnRow : OpenClaim := { program := "ytllgbnolngenhaa", sum := "c4749a71b7fda8c58a9ad129b8fecd29f6ea50ecc40dbd4ce4c9b01b4302f0e5", func := "pemmican/pemmicanlaw02.BackOwn", spec := "backOwn", unfollowed := true, recurses := true, apart := false }
def BackOwnSaid : Prop := backOwnRow.holds Try.pinned (OpenSpec.ofChange backOwnSpec)

/-- ITS FALSE NEIGHBOUR: 'it returns false'. Refute it at one input. -/
def backOwnWrong : ChangeSpec := { name := "backOwn", fn := fun _ => fun
  | [d1, d2, d3] => { results := [.lit (.bool false)], args := [d1, d2, d3] }
  | _ => none }
def BackOwnWrongFalsely : Prop := backOwnRow.holds Try.pinned (OpenSpec.ofChange backOwnWrong)

/- THE SECOND FORM. 'bulk': how many values and letters a reading holds, each counted each time it is reached (what is shared counts as often as it is met; a slice's spare places count too). A statement '..UptoSaid' is the law's where the arguments, and the package variables that the reading takes, are together of bulk at most 1048576: NARROWER than '..Said'. Prove '..Said' where nothing that the law and all that it calls make is longer than what came in: it says more and counts as full. Else prove '..UptoSaid'. A law counts once. -/
mutual
def uptoBulk {H : Type} : DataW H → Nat
  | .lit (.string bytes) => bytes.length + 1
  | .lit _ => 1
  | .nil => 1
  | .ptr d => uptoBulk d + 1
  | .slice elems spare => uptoBulkAll elems + uptoBulkAll spare + 1
  | .agg parts => uptoBulkAll parts + 1
  | .iface _ d => uptoBulk d + 1
  | .map entries => uptoBulkEntries entries + 1
  | .held _ => 1
def uptoBulkAll {H : Type} : List (DataW H) → Nat
  | [] => 0
  | d :: r => uptoBulk d + uptoBulkAll r
def uptoBulkEntries {H : Type} : List (Lit × DataW H) → Nat
  | [] => 0
  | x :: r => uptoBulkEntry x + uptoBulkEntries r
def uptoBulkEntry {H : Type} : Lit × DataW H → Nat
  | (.string bytes, d) => bytes.length + uptoBulk d + 1
  | (_, d) => uptoBulk d + 1
 end
def uptoSmall : (H : Type) → List (DataW H) → Bool := fun _ ds => decide (uptoBulkAll ds ≤ 1048576)
def OpenSpec.upto (s : _root_.Go.ChangeSpec) : _root_.Go.OpenSpec := { _root_.Go.OpenSpec.ofChange s with cond := some uptoSmall }

/-- 'pemmicanlaw02.BackSeals', WHERE WHAT IT READS IS OF BULK AT MOST 1048576: true; the input reads as it did. -/
def backSealsUptoRow : OpenClaim := { program := "ytllgbnolngenhaa", sum := "c4749a71b7fda8c58a9ad129b8fecd29f6ea50ecc40dbd4ce4c9b01b4302f0e5", func := "pemmican/pemmicanlaw02.BackSeals", spec := "backSeals", apart := false, narrowed := true }
def BackSealsUptoSaid : Prop := backSealsUptoRow.holds Try.pinned (OpenSpec.upto backSealsSpec)

/-- 'pemmicanlaw02.BackTake', WHERE WHAT IT READS IS OF BULK AT MOST 1048576: true; the input reads as it did. -/
def backTakeUptoRow : OpenClaim := { program := "ytllgbnolngenhaa", sum := "c4749a71b7fda8c58a9ad129b8fecd29f6ea50ecc40dbd4ce4c9b01b4302f0e5", func := "pemmican/pemmicanlaw02.BackTake", spec := "backTake", apart := false, narrowed := true }
def BackTakeUptoSaid : Prop := backTakeUptoRow.holds Try.pinned (OpenSpec.upto backTakeSpec)

/-- 'pemmicanlaw02.BackOwn', WHERE WHAT IT READS IS OF BULK AT MOST 1048576: true; the input reads as it did. -/
def backOwnUptoRow : OpenClaim := { program := "ytllgbnolngenhaa", sum := "c4749a71b7fda8c58a9ad129b8fecd29f6ea50ecc40dbd4ce4c9b01b4302f0e5", func := "pemmican/pemmicanlaw02.BackOwn", spec := "backOwn", unfollowed := true, recurses := true, apart := false, narrowed := true }
def BackOwnUptoSaid : Prop := backOwnUptoRow.holds Try.pinned (OpenSpec.upto backOwnSpec)

end Rows
end Go.Proofs.Ytllgbnolngenhaa
