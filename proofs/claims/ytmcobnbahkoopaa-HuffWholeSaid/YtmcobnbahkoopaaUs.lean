/-
  Layer 9's laws: same (two slices of ints), by its walk. Conditions: as each theorem's premises say.
-/
import Derived.Test.YtmcobnbahkoopaaIn
import Derived.BigQuiet
import Derived.WalkSmall
import Derived.Deep.QuietTactic
namespace Go.Proofs.Ytmcobnbahkoopaa
open Go.RowKit

set_option maxHeartbeats 400000 in
set_option maxRecDepth 100000 in
theorem usame_any (A B : Option Addr) (c d : Nat) (a b : List Int) (w : World) (ha : a.length ≤ 1000000000) (hb : b.length ≤ 1000000000) (hra : Reads w A (i64z a)) (hrb : Reads w B (i64z b)) :
    Calls Try.prog 18 #[.slice A a.length c, .slice B b.length d] w fun e w' => e = .returned (.bool (decide (a = b))) ∧ Below w.heap.size w w' := by
  have Ha := Lib.hid hra
  have Hb := Lib.hid hrb
  clear hra hrb
  obtain ⟨r, hres⟩ : ∃ r, r = decide (a = b) := ⟨_, rfl⟩
  rw [← hres]
  by_cases hlen : a.length = b.length
  · have Hres := Lib.hid hres
    have hl : ((a.length : Int) != (b.length : Int)) = false := by rw [hlen]; simp
    have Hlen := Lib.hid hlen
    clear hres hlen
    go_enter Try.func18, Try.ntmps18
    go_wp2
    clear hl
    go_loopw [4, 5, 13] (fun _ _ i wr => ∃ k : Nat, k ≤ a.length ∧ i = .int .i64 (k : Int) ∧ Hid (a.take k = b.take k) ∧ Hid (Below w.heap.size w wr)) (fun _ _ i _ => a.length - (intOf i).toNat)
    case atStart => exact ⟨0, by omega, rfl, Lib.hid (by simp), Lib.hid (Below.refl _ _)⟩
    case round =>
      obtain ⟨k, hk, rfl, Htk, hbel⟩ := hrel
      by_cases hkl : k < a.length
      · have hkb : k < b.length := by have := Hlen.out; omega
        obtain ⟨g, off, rfl, hc⟩ := reads_iz (reads_on Ha.out hbel.out) (by omega)
        obtain ⟨g2, off2, rfl, hc2⟩ := reads_iz (reads_on Hb.out hbel.out) (by omega)
        have c0 := hc k hkl
        have c1 := hc2 k hkb
        have hn : a.take k = b.take k → a[k] = b[k] → a.take (k + 1) = b.take (k + 1) := fun h1 h2 => by
          rw [List.take_succ_eq_append_getElem hkl, List.take_succ_eq_append_getElem hkb, h1, h2]
        have hd : a[k] ≠ b[k] → false = r := fun h => by
          rw [Hres.out]; symm; exact decide_eq_false (fun e => h (by subst e; rfl))
        have Hn := Lib.hid hn
        have Hd := Lib.hid hd
        clear hc hc2 hn hd
        generalize a[k] = x at c0 Hn Hd
        generalize b[k] = y at c1 Hn Hd
        by_cases hxy : x = y
        · subst hxy
          have hxb : (x != x) = false := by simp
          go_wp2_with fail
          go_quiet (fail)
          go_wp2
          go_roundw
          case rel =>
            exact ⟨k + 1, by omega, by go_num, Lib.hid (Hn.out Htk.out (by trivial)), Lib.hid (below_drewN hbel.out _)⟩
          case measure => simp [intOf]; omega
        · have hf := Lib.hid (Hd.out hxy)
          have hxb : (x != y) = true := by simpa using hxy
          clear Hn Hd Htk
          go_wp2_with fail
          go_quiet (fail)
          go_wp2
          go_ret
          exact ⟨congrArg (fun x => Ending.returned (Value.bool x)) hf.out, below_drewN hbel.out _⟩
      · obtain rfl : k = a.length := by omega
        have hf : true = r := by
          have h1 := Htk.out
          rw [List.take_length, Hlen.out, List.take_length] at h1
          rw [Hres.out, decide_eq_true h1]
        have Hf := Lib.hid hf
        clear hf Htk
        go_wp2
        go_ret
        exact ⟨congrArg (fun x => Ending.returned (Value.bool x)) Hf.out, hbel.out⟩
  · have hf : decide (a = b) = false := decide_eq_false (fun e => hlen (by rw [e]))
    rw [hf] at hres
    subst hres
    have hn : ((a.length : Int) != (b.length : Int)) = true := by simp; omega
    generalize a.length = m at ha hn ⊢
    generalize b.length = n at hb hn ⊢
    go_enter Try.func18, Try.ntmps18
    go_wp2
    go_ret
    exact ⟨rfl, Below.refl _ _⟩
end Go.Proofs.Ytmcobnbahkoopaa
