/-
  The reference of layer 18 (ring), Last and Bytes, and the laws' same (of two slices that read as one list), by their walks. Conditions: as each theorem's premises say.
-/
import Derived.Test.YtegoapmelilphaaQm
import Derived.Test.YtegoapmelilphaaQs
import Derived.RegionTactic
import Derived.BigQuiet
namespace Go.Proofs.Ytegoapmelilphaa
open Go.RowKit

theorem scut_fromI (A : Option Addr) (L c q : Nat) (W : World) (z : Int) (hz : z = (q : Int)) (h : q ≤ L) (hc : L ≤ c) : (Instr.slice 22 (.slice A L c) (some (.int .i64 z)) none none).run Try.prog W = .ok (.slice (behindS A c q) (L - q) (c - q)) W := by
  rw [hz]
  exact scut_from A L c q W h hc
/-- What Last is to answer. -/
def LastP (w : World) (X : List ByteArray) (e : Ending) (w' : World) : Prop := ∃ A c, e = .returned (.slice A X.length c) ∧ Reads w A (strC X) ∧ X.length ≤ c ∧ c ≤ 9223372036854775807 ∧ w = w'
theorem LastP.whole {w : World} {A : Option Addr} {c m : Nat} {l : List ByteArray} (hr : Reads w A (strC l)) (hc : l.length ≤ c) (hc2 : c ≤ 9223372036854775807) (h : l.length ≤ m) : LastP w (Bm.lastL m l) (.returned (.slice A l.length c)) w := by
  unfold LastP
  rw [Bm.lastL_short m l h]
  exact ⟨A, c, rfl, hr, hc, hc2, rfl⟩
theorem LastP.cut {w : World} {A : Option Addr} {c m q : Nat} {l : List ByteArray} (hr : Reads w A (strC l)) (hc : l.length ≤ c) (hc2 : c ≤ 9223372036854775807) (hq : q = l.length - m) : LastP w (Bm.lastL m l) (.returned (.slice (behindS A c q) (l.length - q) (c - q))) w := by
  refine ⟨behindS A c q, c - q, ?_, ?_, ?_, by omega, rfl⟩
  · rw [Bm.lastL_length, show l.length - q = min l.length m by omega]
  · unfold Bm.lastL
    rw [← hq]
    exact sreads_behind hr hc
  · rw [Bm.lastL_length]
    omega
set_option maxHeartbeats 1000000 in
set_option maxRecDepth 100000 in
theorem ringlast_any (A : Option Addr) (c : Nat) (l : List ByteArray) (n : Int) (w : World) (hr : Reads w A (strC l)) (hc : l.length ≤ c) (hc2 : c ≤ 9223372036854775807) :
    Calls Try.prog 9 #[.slice A l.length c, .int .i64 n] w (LastP w (Bm.lastL (Bm.placesN n) l)) := by
  obtain ⟨h1, h64, hmm⟩ := Bm.places_le n
  generalize Bm.placesN n = m at *
  obtain ⟨q, hq⟩ : ∃ q, q = l.length - m := ⟨_, rfl⟩
  have Hcut := Lib.hid (LastP.cut (m := m) (q := q) hr hc hc2 hq)
  have Hwh := Lib.hid (LastP.whole (m := m) hr hc hc2)
  have Hq := Lib.hid hq
  by_cases h : m < l.length
  · have hqm : (l.length : Int) - (m : Int) = (q : Int) := by omega
    have hql : q ≤ l.length := by omega
    clear Hwh hr
    by_cases hn1 : n < 1
    · obtain rfl : m = 1 := by omega
      have hs := fun W => scut_fromI A l.length c q W ((l.length : Int) - 1) (by omega) hql hc
      clear hmm hq hqm hql
      go_enter Try.func9, Try.ntmps9
      go_wp2
      go_ret
      exact Hcut.out
    · by_cases hn64 : 64 < n
      · obtain rfl : m = 64 := by omega
        have hs := fun W => scut_fromI A l.length c q W ((l.length : Int) - 64) (by omega) hql hc
        clear hmm hq hqm hql
        go_enter Try.func9, Try.ntmps9
        go_wp2
        go_ret
        exact Hcut.out
      · obtain rfl : n = (m : Int) := by omega
        have hs := fun W => scut_fromI A l.length c q W ((l.length : Int) - (m : Int)) (by omega) hql hc
        have hd : decide (m < l.length) = true := decide_eq_true h
        clear hmm hq hqm hql
        go_enter Try.func9, Try.ntmps9
        go_wp2
        go_ret
        exact Hcut.out
  · have hw := Lib.hid (Hwh.out (by omega))
    clear Hwh Hcut hr hq
    by_cases hn1 : n < 1
    · obtain rfl : m = 1 := by omega
      clear hmm
      go_enter Try.func9, Try.ntmps9
      go_wp2
      go_ret
      exact hw.out
    · by_cases hn64 : 64 < n
      · obtain rfl : m = 64 := by omega
        clear hmm
        go_enter Try.func9, Try.ntmps9
        go_wp2
        go_ret
        exact hw.out
      · obtain rfl : n = (m : Int) := by omega
        have hd : decide (m < l.length) = false := decide_eq_false h
        clear hmm
        go_enter Try.func9, Try.ntmps9
        go_wp2
        go_ret
        exact hw.out

set_option maxHeartbeats 1000000 in
set_option maxRecDepth 100000 in
theorem ringrbytes_any (A : Option Addr) (c : Nat) (l : List ByteArray) (w : World) (hr : Reads w A (strC l)) (hl : l.length ≤ 1000) (hsz : ∀ s ∈ l, s.size ≤ 281474976710656) :
    Calls Try.prog 12 #[.slice A l.length c] w fun e w' => e = .returned (.int .i64 (Bm.sizeS l : Int)) ∧ w = w' := by
  have Hr := Lib.hid hr
  have Hsz := Lib.hid hsz
  clear hr hsz
  go_enter Try.func12, Try.ntmps12
  go_wp2
  go_loop [3, 4] (fun n i => ∃ k : Nat, k ≤ l.length ∧ i = .int .i64 (k : Int) ∧ n = .int .i64 (Bm.sizeS (l.take k) : Int)) (fun _ i => l.length - (intOf i).toNat)
  case atStart => exact ⟨0, Nat.zero_le _, rfl, rfl⟩
  case round =>
    obtain ⟨k, hk, rfl, rfl⟩ := hrel
    by_cases hkl : k < l.length
    · obtain ⟨g, off, rfl, hc⟩ := reads_str Hr.out (by omega)
      have c0 := hc k hkl
      have hs := Hsz.out l[k] (List.getElem_mem hkl)
      have hB := Bm.sizeS_bound (l.take k) 1000 (by rw [List.length_take]; omega) (fun s hs => Hsz.out s (List.mem_of_mem_take hs))
      have Hnx := Lib.hid (Bm.sizeS_take l k hkl)
      clear hc
      generalize l[k] = s at *
      generalize Bm.sizeS (l.take k) = n at *
      go_wp2
      go_round
      case rel => exact ⟨k + 1, by omega, by go_num, by rw [Hnx.out]; go_num⟩
      case measure => simp [intOf]; omega
    · obtain rfl : k = l.length := by omega
      rw [List.take_length]
      go_wp2
      go_ret
      exact ⟨rfl, rfl⟩

set_option maxHeartbeats 1000000 in
set_option maxRecDepth 100000 in
theorem ringsame_any (A B : Option Addr) (ca cb : Nat) (l : List ByteArray) (w : World) (hl : l.length ≤ 1000) (ha : Reads w A (strC l)) (hb : Reads w B (strC l)) :
    Calls Try.prog 13 #[.slice A l.length ca, .slice B l.length cb] w fun e w' => e = .returned (.bool true) ∧ Below w.heap.size w w' := by
  have Ha := Lib.hid ha
  have Hb := Lib.hid hb
  clear ha hb
  go_enter Try.func13, Try.ntmps13
  go_wp2
  go_loopw [5, 13] (fun _ i wr => ∃ k m : Nat, k ≤ l.length ∧ i = .int .i64 (k : Int) ∧ Hid (wr = w.drewN m)) (fun _ i _ => l.length - (intOf i).toNat)
  case atStart => exact ⟨0, 0, Nat.zero_le _, rfl, Lib.hid rfl⟩
  case round =>
    obtain ⟨k, m, hk, rfl, hw⟩ := hrel
    have hwr := hw.out
    subst hwr
    clear hw
    by_cases hkl : k < l.length
    · obtain ⟨g, off, rfl, hc⟩ := reads_str Ha.out (by omega)
      obtain ⟨g2, off2, rfl, hc2⟩ := reads_str Hb.out (by omega)
      have c0 := hc k hkl
      have c1 := hc2 k hkl
      have hkI : (k : Int) < (l.length : Int) := by omega
      clear hc hc2 Ha Hb
      generalize l[k] = s at *
      have hbe : (s.toList == s.toList) = true := beq_self_eq_true _
      go_wp2_with fail
      go_quiet (fail)
      go_wp2
      go_roundw
      case rel => exact ⟨k + 1, _, by omega, by go_num, Lib.hid rfl⟩
      case measure => simp [intOf]; omega
    · obtain rfl : k = l.length := by omega
      go_wp2
      go_ret
      exact ⟨rfl, rfl, rfl, rfl, Nat.le_refl _, fun _ _ => rfl⟩
end Go.Proofs.Ytegoapmelilphaa
