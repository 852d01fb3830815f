/-
  The reference of layer 10 (litcode), by its walk: Code, Encode. Conditions: as each theorem's premises say (up to a thousand lengths of 0 to 11, up to ten thousand bytes).
  The reference of layer 10 (litcode), by its walk: begins. Conditions: as the theorem's premises say.
-/
import Derived.Test.YtgcfdjgfnagmjaaGag
import Derived.Test.YtgcfdjgfnagmjaaGac
import Derived.Test.YtgcfdjgfnagmjaaGae
import Derived.BigQuiet
import Derived.WalkSmall
import Derived.Deep.QuietTactic
namespace Go.Proofs.Ytgcfdjgfnagmjaa
open Go.RowKit

namespace Bm
theorem cbits_take (ls : List Nat) (s k : Nat) (h : k < ls[s]?.getD 0) : (cbits ls s).take (k + 1) = (cbits ls s).take k ++ [codeN9 ls s / 2 ^ (ls[s]?.getD 0 - 1 - k) % 2] := by
  have hk : k < (cbits ls s).length := by rw [cbits_length]; exact h
  rw [List.take_succ_eq_append_getElem hk, cbits_get]
theorem code_le (ls : List Nat) (s : Nat) : codeN9 ls s ≤ 1024 * ls.length := by
  unfold codeN9
  split
  · omega
  · exact Nat.le_trans (Nat.div_le_self _ _) (aheadQ_le ls s ls.length)
end Bm

/-- A string and true, or nothing and false. -/
def strV : Option (List Nat) → Value
  | none => .tuple #[.string (strOf []), .bool false]
  | some s => .tuple #[.string (strOf s), .bool true]
end Go.Proofs.Ytgcfdjgfnagmjaa

namespace Go.Proofs.Ytgcfdjgfnagmjaa
open Go.RowKit

theorem prefix_take (l cs : List Nat) (h : cs.length ≤ l.length) (k : Nat) (hk : k < cs.length) : l.take (k + 1) = cs.take (k + 1) ↔ l.take k = cs.take k ∧ l[k] = cs[k] := by
  rw [List.take_succ_eq_append_getElem hk, List.take_succ_eq_append_getElem (show k < l.length by omega)]
  constructor
  · intro e
    have h1 := List.append_inj' e rfl
    exact ⟨h1.1, by simpa using h1.2⟩
  · rintro ⟨h1, h2⟩
    rw [h1, h2]
theorem prefix_iff (l cs : List Nat) : cs <+: l ↔ cs.length ≤ l.length ∧ l.take cs.length = cs.take cs.length := by
  rw [List.take_length]
  constructor
  · rintro ⟨t, rfl⟩
    exact ⟨by simp, by rw [List.take_left']; rfl⟩
  · rintro ⟨_, h⟩
    exact ⟨l.drop cs.length, (congrArg (· ++ l.drop cs.length) h.symm).trans (List.take_append_drop cs.length l)⟩

end Go.Proofs.Ytgcfdjgfnagmjaa
