/-
  Layer 2 (back): bytes.Clone, Open, each by its walk. Conditions: as each theorem's premises say (up to a hundred million bytes).
-/
import Derived.Test.YtllgbnolngenhaaYb
import Derived.Test.YtllgbnolngenhaaWw
import Derived.Lib.SliceRun
namespace Go.Proofs.Ytllgbnolngenhaa
open Go.RowKit

set_option maxHeartbeats 400000 in
theorem clone_some (g off n c : Nat) (bs : List Nat) (w : World) (h0 : 0 < n) (hn : n ≤ 100000000) (hl : bs.length = n) (hrd : Reads w (some ⟨g, off, none⟩) (u8s bs)) (hg : g < w.heap.size) :
    Calls Try.prog 21 #[.slice (some ⟨g, off, none⟩) n c] w fun e w' => ∃ u, e = .returned u ∧ w'.ownsRow w.heap.size 5 1 u n (u8s bs) ∧ Below w.heap.size w w' := by
  obtain ⟨i0, hi, hz0, hz1, hz2⟩ := info_parts info_u8
  have hown0 : (w.alloc (.cells #[] 5)).ownsRow w.heap.size 5 1 (.slice (some ⟨w.heap.size, 0, none⟩) 0 0) 0 [] := World.ownsRow_lit w #[] 0 (Nat.le_refl _) (by unfold maxLen; omega) rfl
  have hnews : ∀ j u, (u8s bs)[j]? = some u → (w.alloc (.cells #[] 5)).cell? ((⟨g, off, none⟩ : Addr).add j) = some u := by
    intro j u hj
    have hjl : j < (u8s bs).length := by
      rcases Nat.lt_or_ge j (u8s bs).length with h1 | h1
      · exact h1
      · rw [List.getElem?_eq_none h1] at hj; cases hj
    obtain ⟨g', off', e, hc⟩ := hrd (by intro e; rw [e] at hjl; simp at hjl)
    injection e with e
    injection e with e1 e2
    subst e1 e2
    have e : ((⟨g, off, none⟩ : Addr).add j) = ⟨g, off + j, none⟩ := by unfold Addr.add; split <;> simp_all
    rw [e, World.cell?_alloc_lt _ _ _ (by exact hg), hc j hjl, hj]
  have hnil : ∀ W, (binOp .eql 34 (.slice (some ⟨g, off, none⟩) n c) (.slice none 0 0)).run Try.prog W = .ok (.bool false) W := fun W => Lib.run_eql_slice_nil W _ _ _ _ _ _ _ Try.underlying34
  have Hnews := Lib.hid hnews
  have Hown0 := Lib.hid hown0
  have Hl := Lib.hid hl
  clear hnews hown0 hrd hl
  go_enter Try.func21, Try.ntmps21
  go_wp2_with (at_builtin; refine wpList_append_own _ rfl _ _ 34 rfl w.heap.size 5 i0 (.int .u8 0) 1 1 Try.underlying34 hi hz0 hz1 hz2 rfl (by decide) _ _ _ rfl Hown0.out ⟨g, off, none⟩ n c (u8s bs) rfl ?c0 Hnews.out ?c2 ?c3 ?c4 ?c5 ?_)
  case c0 => rw [u8s_length, Hl.out, Nat.mul_one]
  case c2 => intro u hu; simp [u8s] at hu; obtain ⟨a, _, rfl⟩ := hu; rfl
  case c3 => unfold maxLen; omega
  case c4 => omega
  case c5 => simp
  intro v' w2 hown2 hgr2 _
  have hb2 : Below w.heap.size w w2 := ((Below.refl w.heap.size w).alloc (Nat.le_refl _) _).grown hgr2 (by simp) (fun k e => by
    have : k = w.heap.size := by simpa [Value.ownBlock] using e.symm
    rw [this]; exact Nat.le_refl _)
  have Hown := Lib.hid hown2
  have Hb := Lib.hid hb2
  clear hown2 hb2 hgr2 Hown0 Hnews
  go_wp2
  go_ret
  exact ⟨_, rfl, Hown.out, Hb.out⟩

/-- Open of no byte, or of bytes whose last one is 0. -/
theorem open_empty (A : Option Addr) (c : Nat) (w : World) :
    Calls Try.prog 10 #[.slice A 0 c] w fun e w' => e = .returned (.tuple #[.pointer none, .bool false]) ∧ w = w' := by
  go_enter Try.func10, Try.ntmps10
  go_wp2
  go_ret2
  exact ⟨rfl, rfl⟩
set_option maxHeartbeats 400000 in
theorem open_zero (g off q c : Nat) (w : World) (hq : q ≤ 100000000) (hc : w.cell? ⟨g, off + q, none⟩ = some (.int .u8 0)) :
    Calls Try.prog 10 #[.slice (some ⟨g, off, none⟩) (q + 1) c] w fun e w' => e = .returned (.tuple #[.pointer none, .bool false]) ∧ w = w' := by
  go_enter Try.func10, Try.ntmps10
  go_wp2
  go_ret2
  exact ⟨rfl, rfl⟩
end Go.Proofs.Ytllgbnolngenhaa
