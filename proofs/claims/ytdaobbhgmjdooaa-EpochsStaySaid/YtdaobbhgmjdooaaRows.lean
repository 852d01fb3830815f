/-
  No cell of these rows narrows 'for every input' (looked for: loops, veiled, ifaces, maps, wideKeys, modest, calm, conditions, laid).
  DERIVED. THE GIVEN ROWS OF THIS SEAT. 3 by the template 'for every input the law returns true; each argument reads behind the call as it read before'; 0 by the template 'total and deterministic' (their statements: YtdaobbhgmjdooaaTotals.lean).
  GIVEN WITH THE SEED: the statements are not yours to turn. If you find one false, say at which input.
  Laid BY PROGRAM, IN A SANDBOX (cutbox-rows.mjs): the forced cells as the released guide's own fill.sh prints them over the translation bef8189bd10e705a… (all of the seat's roots in one cut). By AI agents, Wed Nov 11 2026. No macro, syntax, notation, axiom, sorry.
-/
import Derived.Test.YtdaobbhgmjdooaaChecked
import GoSem.Claim
import GoSem.ClaimJoined
import GoSem.ClaimMapViews
import Derived.JoinedTies
import Derived.KernelRfl
namespace Go.Proofs.Ytdaobbhgmjdooaa
/- THE CELL 'sum', in the pinned program and in every row, IS THE sha256 OF THE DUMP (.gsa) THAT YtdaobbhgmjdooaaProg.lean LOADS. Nothing in Lean hashes anything: it is a label: what it is worth is what the hold of that sum in a sandbox is worth. -/
noncomputable def Try.pinned : Pinned := { name := "ytdaobbhgmjdooaa", sum := "bef8189bd10e705a690e3f9892e76972d53eabeaea8587ecc8b743fc349356cc", checked := Try.checked }
namespace Rows
def none {H : Type} : Left H := { results := [], args := [] }

/-- 'pemmicanlaw21.EpochsRuns': WHATEVER THE INPUT: true; the input reads as it did. -/
def epochsRunsSpec : ChangeSpec := { name := "epochsRuns", fn := fun _ => fun
  | [d] => { results := [.lit (.bool true)], args := [d] }
  | _ => none }
def epochsRunsRow : OpenClaim := { program := "ytdaobbhgmjdooaa", sum := "bef8189bd10e705a690e3f9892e76972d53eabeaea8587ecc8b743fc349356cc", func := "pemmican/pemmicanlaw21.EpochsRuns", spec := "epochsRuns", unfollowed := true, recurses := true, apart := false }
def EpochsRunsSaid : Prop := epochsRunsRow.holds Try.pinned (OpenSpec.ofChange epochsRunsSpec)

/-- ITS FALSE NEIGHBOUR: 'it returns false'. Refute it at one input. -/
def epochsRunsWrong : ChangeSpec := { name := "epochsRuns", fn := fun _ => fun
  | [d] => { results := [.lit (.bool false)], args := [d] }
  | _ => none }
def EpochsRunsWrongFalsely : Prop := epochsRunsRow.holds Try.pinned (OpenSpec.ofChange epochsRunsWrong)

/-- 'pemmicanlaw21.EpochsStay': WHATEVER THE INPUT: true; the input reads as it did. -/
def epochsStaySpec : ChangeSpec := { name := "epochsStay", fn := fun _ => fun
  | [d1, d2] => { results := [.lit (.bool true)], args := [d1, d2] }
  | _ => none }
def epochsStayRow : OpenClaim := { program := "ytdaobbhgmjdooaa", sum := "bef8189bd10e705a690e3f9892e76972d53eabeaea8587ecc8b743fc349356cc", func := "pemmican/pemmicanlaw21.EpochsStay", spec := "epochsStay", unfollowed := true, recurses := true, apart := false }
def EpochsStaySaid : Prop := epochsStayRow.holds Try.pinned (OpenSpec.ofChange epochsStaySpec)

/-- ITS FALSE NEIGHBOUR: 'it returns false'. Refute it at one input. -/
def epochsStayWrong : ChangeSpec := { name := "epochsStay", fn := fun _ => fun
  | [d1, d2] => { results := [.lit (.bool false)], args := [d1, d2] }
  | _ => none }
def EpochsStayWrongFalsely : Prop := epochsStayRow.holds Try.pinned (OpenSpec.ofChange epochsStayWrong)

/-- 'pemmicanlaw21.EpochsNobody': WHATEVER THE INPUT: true; the input reads as it did. -/
def epochsNobodySpec : ChangeSpec := { name := "epochsNobody", fn := fun _ => fun
  | [d1, d2] => { results := [.lit (.bool true)], args := [d1, d2] }
  | _ => none }
def epochsNobodyRow : OpenClaim := { program := "ytdaobbhgmjdooaa", sum := "bef8189bd10e705a690e3f9892e76972d53eabeaea8587ecc8b743fc349356cc", func := "pemmican/pemmicanlaw21.EpochsNobody", spec := "epochsNobody", unfollowed := true, recurses := true, apart := false }
def EpochsNobodySaid : Prop := epochsNobodyRow.holds Try.pinned (OpenSpec.ofChange epochsNobodySpec)

/-- ITS FALSE NEIGHBOUR: 'it returns false'. Refute it at one input. -/
def epochsNobodyWrong : ChangeSpec := { name := "epochsNobody", fn := fun _ => fun
  | [d1, d2] => { results := [.lit (.bool false)], args := [d1, d2] }
  | _ => none }
def EpochsNobodyWrongFalsely : Prop := epochsNobodyRow.holds Try.pinned (OpenSpec.ofChange epochsNobodyWrong)

/- THE SECOND FORM. 'bulk': how many values and letters a reading holds, each counted each time it is reached (what is shared counts as often as it is met; a slice's spare places count too). A statement '..UptoSaid' is the law's where the arguments, and the package variables that the reading takes, are together of bulk at most 1048576: NARROWER than '..Said'. Prove '..Said' where nothing that the law and all that it calls make is longer than what came in: it says more and counts as full. Else prove '..UptoSaid'. A law counts once. -/
mutual
def uptoBulk {H : Type} : DataW H → Nat
  | .lit (.string bytes) => bytes.length + 1
  | .lit _ => 1
  | .nil => 1
  | .ptr d => uptoBulk d + 1
  | .slice elems spare => uptoBulkAll elems + uptoBulkAll spare + 1
  | .agg parts => uptoBulkAll parts + 1
  | .iface _ d => uptoBulk d + 1
  | .map entries => uptoBulkEntries entries + 1
  | .held _ => 1
def uptoBulkAll {H : Type} : List (DataW H) → Nat
  | [] => 0
  | d :: r => uptoBulk d + uptoBulkAll r
def uptoBulkEntries {H : Type} : List (Lit × DataW H) → Nat
  | [] => 0
  | x :: r => uptoBulkEntry x + uptoBulkEntries r
def uptoBulkEntry {H : Type} : Lit × DataW H → Nat
  | (.string bytes, d) => bytes.length + uptoBulk d + 1
  | (_, d) => uptoBulk d + 1
 end
def uptoSmall : (H : Type) → List (DataW H) → Bool := fun _ ds => decide (uptoBulkAll ds ≤ 1048576)
def OpenSpec.upto (s : _root_.Go.ChangeSpec) : _root_.Go.OpenSpec := { _root_.Go.OpenSpec.ofChange s with cond := some uptoSmall }

/-- 'pemmicanlaw21.EpochsRuns', WHERE WHAT IT READS IS OF BULK AT MOST 1048576: true; the input reads as it did. -/
def epochsRunsUptoRow : OpenClaim := { program := "ytdaobbhgmjdooaa", sum := "bef8189bd10e705a690e3f9892e76972d53eabeaea8587ecc8b743fc349356cc", func := "pemmican/pemmicanlaw21.EpochsRuns", spec := "epochsRuns", unfollowed := true, recurses := true, apart := false, narrowed := true }
def EpochsRunsUptoSaid : Prop := epochsRunsUptoRow.holds Try.pinned (OpenSpec.upto epochsRunsSpec)

/-- 'pemmicanlaw21.EpochsStay', WHERE WHAT IT READS IS OF BULK AT MOST 1048576: true; the input reads as it did. -/
def epochsStayUptoRow : OpenClaim := { program := "ytdaobbhgmjdooaa", sum := "bef8189bd10e705a690e3f9892e76972d53eabeaea8587ecc8b743fc349356cc", func := "pemmican/pemmicanlaw21.EpochsStay", spec := "epochsStay", unfollowed := true, recurses := true, apart := false, narrowed := true }
def EpochsStayUptoSaid : Prop := epochsStayUptoRow.holds Try.pinned (OpenSpec.upto epochsStaySpec)

/-- 'pemmicanlaw21.EpochsNobody', WHERE WHAT IT READS IS OF BULK AT MOST 1048576: true; the input reads as it did. -/
def epochsNobodyUptoRow : OpenClaim := { program := "ytdaobbhgmjdooaa", sum := "bef8189bd10e705a690e3f9892e76972d53eabeaea8587ecc8b743fc349356cc", func := "pemmican/pemmicanlaw21.EpochsNobody", spec := "epochsNobody", unfollowed := true, recurses := true, apart := false, narrowed := true }
def EpochsNobodyUptoSaid : Prop := epochsNobodyUptoRow.holds Try.pinned (OpenSpec.upto epochsNobodySpec)

end Rows
end Go.Proofs.Ytdaobbhgmjdooaa
