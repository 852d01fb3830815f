/-
  The reference of layer 8 (header), by its walk: Short. Conditions: as each theorem's premises say.
-/
import Derived.Test.YtefcahmhfjblpaaIn
import Derived.Test.YtefcahmhfjblpaaHm
namespace Go.Proofs.Ytefcahmhfjblpaa
open Go.RowKit

set_option maxRecDepth 100000 in
theorem cut_ints (A : Option Addr) (L c q : Nat) (W : World) (h : q ≤ L) (hc : L ≤ c) : (Instr.slice 22 (.slice A L c) none (some (.int .i64 (q : Int))) none).run Try.prog W = .ok (.slice A q c) W := by
  have h1 : q ≤ c := by omega
  rcases A with _ | a
  · go_simp
  · go_simp
/-- Behind k all are 0, and the last one of the first k isn't. -/
def EndsAt (l : List Int) (k : Nat) : Prop := k ≤ l.length ∧ (∀ j (h : j < l.length), k ≤ j → l[j] = 0) ∧ (k = 0 ∨ ∃ h : k - 1 < l.length, l[k - 1] ≠ 0)
set_option maxHeartbeats 1000000 in
set_option maxRecDepth 100000 in
theorem gshort_any (A : Option Addr) (c : Nat) (l : List Int) (w : World) (hl : l.length ≤ 1000000000) (hc : l.length ≤ c) (hr : Reads w A (i64z l)) :
    Calls Try.prog 20 #[.slice A l.length c] w fun e w' => ∃ k, e = .returned (.slice A k c) ∧ EndsAt l k ∧ w = w' := by
  have Hr := Lib.hid hr
  have Hcut := Lib.hid (fun q (hq : q ≤ l.length) W => cut_ints A l.length c q W hq hc)
  clear hr
  go_enter Try.func20, Try.ntmps20
  go_wp2
  go_loop [3] (fun n => ∃ k : Nat, k ≤ l.length ∧ n = .int .i64 (k : Int) ∧ Hid (∀ j (h : j < l.length), k ≤ j → l[j] = 0)) (fun n => (intOf n).toNat)
  case atStart => exact ⟨l.length, Nat.le_refl _, rfl, Lib.hid (fun j h hk => by omega)⟩
  case round =>
    obtain ⟨k, hk, rfl, hz⟩ := hrel
    have hcut := Hcut.out k hk
    rcases Nat.eq_zero_or_pos k with h0 | h0
    · subst h0
      clear Hr Hcut
      go_wp2
      go_ret
      exact ⟨0, rfl, ⟨by omega, hz.out, .inl rfl⟩, rfl⟩
    · obtain ⟨q, rfl⟩ : ∃ q, k = q + 1 := ⟨k - 1, by omega⟩
      obtain ⟨g, off, rfl, hcell⟩ := reads_iz Hr.out (by omega)
      have c0 := hcell q (by omega)
      have hnz : l[q] ≠ 0 → EndsAt l (q + 1) := fun h => ⟨hk, hz.out, .inr ⟨by omega, h⟩⟩
      have hnx : l[q] = 0 → ∀ j (h : j < l.length), q ≤ j → l[j] = 0 := fun h j hj hq => by
        by_cases e : j = q
        · subst e; exact h
        · exact hz.out j hj (by omega)
      have Hnz := Lib.hid hnz
      have Hnx := Lib.hid hnx
      have hqi : ((q + 1 : Nat) : Int) - 1 = (q : Int) := by omega
      clear hcell hnz hnx Hr Hcut
      generalize l[q] = z at c0 Hnz Hnx
      by_cases hzz : z = 0
      · subst hzz
        have Hn := Lib.hid (Hnx.out rfl)
        clear Hnz Hnx hcut
        go_wp2
        go_round
        case rel => exact ⟨q, by omega, by go_num, Hn⟩
        case measure => simp [intOf]
      · have hd : (z == 0) = false := by simpa using hzz
        have He := Lib.hid (Hnz.out hzz)
        clear Hnz Hnx
        go_wp2
        go_ret
        exact ⟨q + 1, rfl, He.out, rfl⟩
end Go.Proofs.Ytefcahmhfjblpaa
