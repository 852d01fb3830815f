/-
  The program's layer 12 (parse), by its walk: matches, Right of steps that make the text. Conditions: as each theorem's premises say.
-/
import Derived.Test.YtjcehdibklndkaaPc
import Derived.Test.YtjcehdibklndkaaEf
import Derived.RegionTactic
import Derived.BigQuiet
namespace Go.Proofs.Ytjcehdibklndkaa
open Go.RowKit

theorem strOf_same (s : ByteArray) : (s.toList == s.toList) = true := by simp
/-- The steps from the k-th on make the text from there on. -/
theorem ok_head {T : List Nat} {a : Nat} {l : List Bm.Stp} {k : Nat} (hk : k < l.length) (h : Bm.OkS T a (l.drop k)) : 3 ≤ l[k].2.1 ∧ 1 ≤ l[k].2.2 ∧ l[k].2.2 ≤ a + l[k].1 ∧ a + l[k].1 + l[k].2.1 ≤ T.length ∧
    (T.take (a + l[k].1 - l[k].2.2 + l[k].2.1)).drop (a + l[k].1 - l[k].2.2) = (T.take (a + l[k].1 + l[k].2.1)).drop (a + l[k].1) ∧ Bm.OkS T (a + l[k].1 + l[k].2.1) (l.drop (k + 1)) := by
  rw [List.drop_eq_getElem_cons hk] at h
  exact h

end Go.Proofs.Ytjcehdibklndkaa
