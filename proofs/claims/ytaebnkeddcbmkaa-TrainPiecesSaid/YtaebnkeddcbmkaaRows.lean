/-
  No cell of these rows narrows 'for every input' (looked for: loops, veiled, ifaces, maps, wideKeys, modest, calm, conditions, laid).
  DERIVED. THE GIVEN ROWS OF THIS SEAT. 3 by the template 'for every input the law returns true; each argument reads behind the call as it read before'; 0 by the template 'total and deterministic' (their statements: YtaebnkeddcbmkaaTotals.lean).
  GIVEN WITH THE SEED: the statements are not yours to turn. If you find one false, say at which input.
  Laid BY PROGRAM, IN A SANDBOX (cutbox-rows.mjs): the forced cells as the released guide's own fill.sh prints them over the translation cac93bb9d981f0fa… (all of the seat's roots in one cut). By AI agents, Wed Nov 11 2026. No macro, syntax, notation, axiom, sorry.
-/
import Derived.Test.YtaebnkeddcbmkaaChecked
import GoSem.Claim
import GoSem.ClaimJoined
import GoSem.ClaimMapViews
import Derived.JoinedTies
import Derived.KernelRfl
namespace Go.Proofs.Ytaebnkeddcbmkaa
/- THE CELL 'sum', in the pinned program and in every row, IS THE sha256 OF THE DUMP (.gsa) THAT YtaebnkeddcbmkaaProg.lean LOADS. Nothing in Lean hashes anything: it is a label: what it is worth is what the hold of that sum in a sandbox is worth. -/
noncomputable def Try.pinned : Pinned := { name := "ytaebnkeddcbmkaa", sum := "cac93bb9d981f0fa763fe6ff9beaf5a1dd3425a7661d90e15c8bc09d99acff9e", checked := Try.checked }
namespace Rows
def none {H : Type} : Left H := { results := [], args := [] }

/-- 'pemmicanlaw19.TrainPieces': WHATEVER THE INPUT: true; the input reads as it did. -/
def trainPiecesSpec : ChangeSpec := { name := "trainPieces", fn := fun _ => fun
  | [d1, d2] => { results := [.lit (.bool true)], args := [d1, d2] }
  | _ => none }
def trainPiecesRow : OpenClaim := { program := "ytaebnkeddcbmkaa", sum := "cac93bb9d981f0fa763fe6ff9beaf5a1dd3425a7661d90e15c8bc09d99acff9e", func := "pemmican/pemmicanlaw19.TrainPieces", spec := "trainPieces", inPlace := ["internal/bytealg.IndexByteString", "internal/bytealg.IndexString", "internal/abi.NoEscape", "internal/bytealg.MakeNoZero"], unfollowed := true, recurses := true, named := ["internal/bytealg.MaxLen"], apart := false }
def TrainPiecesSaid : Prop := trainPiecesRow.holds Try.pinned (OpenSpec.ofChange trainPiecesSpec)

/-- ITS FALSE NEIGHBOUR: 'it returns false'. Refute it at one input. -/
def trainPiecesWrong : ChangeSpec := { name := "trainPieces", fn := fun _ => fun
  | [d1, d2] => { results := [.lit (.bool false)], args := [d1, d2] }
  | _ => none }
def TrainPiecesWrongFalsely : Prop := trainPiecesRow.holds Try.pinned (OpenSpec.ofChange trainPiecesWrong)

/-- 'pemmicanlaw19.TrainWorth': WHATEVER THE INPUT: true; the input reads as it did. -/
def trainWorthSpec : ChangeSpec := { name := "trainWorth", fn := fun _ => fun
  | [d1, d2] => { results := [.lit (.bool true)], args := [d1, d2] }
  | _ => none }
def trainWorthRow : OpenClaim := { program := "ytaebnkeddcbmkaa", sum := "cac93bb9d981f0fa763fe6ff9beaf5a1dd3425a7661d90e15c8bc09d99acff9e", func := "pemmican/pemmicanlaw19.TrainWorth", spec := "trainWorth", inPlace := ["internal/bytealg.IndexByteString", "internal/bytealg.IndexString", "internal/abi.NoEscape", "internal/bytealg.MakeNoZero"], unfollowed := true, recurses := true, named := ["internal/bytealg.MaxLen"], apart := false }
def TrainWorthSaid : Prop := trainWorthRow.holds Try.pinned (OpenSpec.ofChange trainWorthSpec)

/-- ITS FALSE NEIGHBOUR: 'it returns false'. Refute it at one input. -/
def trainWorthWrong : ChangeSpec := { name := "trainWorth", fn := fun _ => fun
  | [d1, d2] => { results := [.lit (.bool false)], args := [d1, d2] }
  | _ => none }
def TrainWorthWrongFalsely : Prop := trainWorthRow.holds Try.pinned (OpenSpec.ofChange trainWorthWrong)

/-- 'pemmicanlaw19.TrainMost': WHATEVER THE INPUT: true; the input reads as it did. -/
def trainMostSpec : ChangeSpec := { name := "trainMost", fn := fun _ => fun
  | [d1, d2] => { results := [.lit (.bool true)], args := [d1, d2] }
  | _ => none }
def trainMostRow : OpenClaim := { program := "ytaebnkeddcbmkaa", sum := "cac93bb9d981f0fa763fe6ff9beaf5a1dd3425a7661d90e15c8bc09d99acff9e", func := "pemmican/pemmicanlaw19.TrainMost", spec := "trainMost", inPlace := ["internal/bytealg.IndexByteString", "internal/bytealg.IndexString", "internal/abi.NoEscape", "internal/bytealg.MakeNoZero"], unfollowed := true, recurses := true, named := ["internal/bytealg.MaxLen"], apart := false }
def TrainMostSaid : Prop := trainMostRow.holds Try.pinned (OpenSpec.ofChange trainMostSpec)

/-- ITS FALSE NEIGHBOUR: 'it returns false'. Refute it at one input. -/
def trainMostWrong : ChangeSpec := { name := "trainMost", fn := fun _ => fun
  | [d1, d2] => { results := [.lit (.bool false)], args := [d1, d2] }
  | _ => none }
def TrainMostWrongFalsely : Prop := trainMostRow.holds Try.pinned (OpenSpec.ofChange trainMostWrong)

/- THE SECOND FORM. 'bulk': how many values and letters a reading holds, each counted each time it is reached (what is shared counts as often as it is met; a slice's spare places count too). A statement '..UptoSaid' is the law's where the arguments, and the package variables that the reading takes, are together of bulk at most 1048576: NARROWER than '..Said'. Prove '..Said' where nothing that the law and all that it calls make is longer than what came in: it says more and counts as full. Else prove '..UptoSaid'. A law counts once. -/
mutual
def uptoBulk {H : Type} : DataW H → Nat
  | .lit (.string bytes) => bytes.length + 1
  | .lit _ => 1
  | .nil => 1
  | .ptr d => uptoBulk d + 1
  | .slice elems spare => uptoBulkAll elems + uptoBulkAll spare + 1
  | .agg parts => uptoBulkAll parts + 1
  | .iface _ d => uptoBulk d + 1
  | .map entries => uptoBulkEntries entries + 1
  | .held _ => 1
def uptoBulkAll {H : Type} : List (DataW H) → Nat
  | [] => 0
  | d :: r => uptoBulk d + uptoBulkAll r
def uptoBulkEntries {H : Type} : List (Lit × DataW H) → Nat
  | [] => 0
  | x :: r => uptoBulkEntry x + uptoBulkEntries r
def uptoBulkEntry {H : Type} : Lit × DataW H → Nat
  | (.string bytes, d) => bytes.length + uptoBulk d + 1
  | (_, d) => uptoBulk d + 1
 end
def uptoSmall : (H : Type) → List (DataW H) → Bool := fun _ ds => decide (uptoBulkAll ds ≤ 1048576)
def OpenSpec.upto (s : _root_.Go.ChangeSpec) : _root_.Go.OpenSpec := { _root_.Go.OpenSpec.ofChange s with cond := some uptoSmall }

/-- 'pemmicanlaw19.TrainPieces', WHERE WHAT IT READS IS OF BULK AT MOST 1048576: true; the input reads as it did. -/
def trainPiecesUptoRow : OpenClaim := { program := "ytaebnkeddcbmkaa", sum := "cac93bb9d981f0fa763fe6ff9beaf5a1dd3425a7661d90e15c8bc09d99acff9e", func := "pemmican/pemmicanlaw19.TrainPieces", spec := "trainPieces", inPlace := ["internal/bytealg.IndexByteString", "internal/bytealg.IndexString", "internal/abi.NoEscape", "internal/bytealg.MakeNoZero"], unfollowed := true, recurses := true, named := ["internal/bytealg.MaxLen"], apart := false, narrowed := true }
def TrainPiecesUptoSaid : Prop := trainPiecesUptoRow.holds Try.pinned (OpenSpec.upto trainPiecesSpec)

/-- 'pemmicanlaw19.TrainWorth', WHERE WHAT IT READS IS OF BULK AT MOST 1048576: true; the input reads as it did. -/
def trainWorthUptoRow : OpenClaim := { program := "ytaebnkeddcbmkaa", sum := "cac93bb9d981f0fa763fe6ff9beaf5a1dd3425a7661d90e15c8bc09d99acff9e", func := "pemmican/pemmicanlaw19.TrainWorth", spec := "trainWorth", inPlace := ["internal/bytealg.IndexByteString", "internal/bytealg.IndexString", "internal/abi.NoEscape", "internal/bytealg.MakeNoZero"], unfollowed := true, recurses := true, named := ["internal/bytealg.MaxLen"], apart := false, narrowed := true }
def TrainWorthUptoSaid : Prop := trainWorthUptoRow.holds Try.pinned (OpenSpec.upto trainWorthSpec)

/-- 'pemmicanlaw19.TrainMost', WHERE WHAT IT READS IS OF BULK AT MOST 1048576: true; the input reads as it did. -/
def trainMostUptoRow : OpenClaim := { program := "ytaebnkeddcbmkaa", sum := "cac93bb9d981f0fa763fe6ff9beaf5a1dd3425a7661d90e15c8bc09d99acff9e", func := "pemmican/pemmicanlaw19.TrainMost", spec := "trainMost", inPlace := ["internal/bytealg.IndexByteString", "internal/bytealg.IndexString", "internal/abi.NoEscape", "internal/bytealg.MakeNoZero"], unfollowed := true, recurses := true, named := ["internal/bytealg.MaxLen"], apart := false, narrowed := true }
def TrainMostUptoSaid : Prop := trainMostUptoRow.holds Try.pinned (OpenSpec.upto trainMostSpec)

end Rows
end Go.Proofs.Ytaebnkeddcbmkaa
