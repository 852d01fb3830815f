/-
  Layer 3 (cursor), the Reader, each by its walk: Group. Conditions: as each theorem's premises say (up to a hundred million bytes).
-/
import Derived.Test.YtckmdeiahpijcaaCa
import Derived.Test.YtckmdeiahpijcaaCn
namespace Go.Proofs.Ytckmdeiahpijcaa
open Go.RowKit

theorem andNot_more (c : Nat) (h : c < 256) : bits .andNot .u8 (c : Int) 128 = ((c % 128 : Nat) : Int) := by
  have key : ∀ c, c < 256 → bits .andNot .u8 ((c : Nat) : Int) 128 = ((c % 128 : Nat) : Int) := by decide +kernel
  exact key c h
theorem or_step (l : List Nat) (k : Nat) (hk : k < l.length) (h9 : k ≤ 9) :
    ∃ V', bits .or .u64 ((Bm.val7 (l.take k) : Nat) : Int) (IntKind.u64.wrap (((l[k] % 128 : Nat) : Int) * 2 ^ (7 * k))) = ((V' : Nat) : Int) ∧ V' < 2 ^ 64 ∧ (k ≤ 8 ∨ l[k] = 1 → V' = Bm.val7 (l.take (k + 1))) := by
  have hlen : (l.take k).length = k := by rw [List.length_take]; omega
  have hv := Bm.val7_lt (l.take k)
  rw [hlen] at hv
  have hp : (128 : Nat) ^ k = 2 ^ (7 * k) := by rw [show (128 : Nat) = 2 ^ 7 by rfl, ← Nat.pow_mul]
  have h9p : (128 : Nat) ^ k ≤ 128 ^ 9 := Nat.pow_le_pow_right (by omega) h9
  have h9e : (128 : Nat) ^ 9 = 2 ^ 63 := by decide
  have hv64 : Bm.val7 (l.take k) < 2 ^ 64 := by omega
  refine ⟨_, or_val _ (l[k] % 128) (7 * k) hv64, ?_, ?_⟩
  · exact Nat.or_lt_two_pow hv64 (Nat.mod_lt _ (by decide))
  · intro hc
    have hsmall : l[k] % 128 * 2 ^ (7 * k) < 2 ^ 64 := by
      rw [← hp]
      rcases hc with h | h
      · have h8 : (128 : Nat) ^ k ≤ 128 ^ 8 := Nat.pow_le_pow_right (by omega) h
        have h8e : 127 * (128 : Nat) ^ 8 < 2 ^ 64 := by decide
        have := Nat.mul_le_mul (show l[k] % 128 ≤ 127 by omega) h8
        omega
      · rw [h, show 1 % 128 = 1 from rfl]; omega
    rw [Nat.mod_eq_of_lt hsmall, Bm.or_sum (7 * k) _ (l[k] % 128) (by rw [← hp]; exact hv), Bm.val7_take l k hk, ← hp]

end Go.Proofs.Ytckmdeiahpijcaa
