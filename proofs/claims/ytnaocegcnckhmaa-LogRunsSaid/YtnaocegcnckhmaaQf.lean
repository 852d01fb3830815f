/-
  The reference of layer 18 (ring), Last and Bytes, and the laws' same (of two slices that read as one list), by their walks. Conditions: as each theorem's premises say.
-/
import Derived.Test.YtnaocegcnckhmaaQm
import Derived.Test.YtnaocegcnckhmaaQs
import Derived.RegionTactic
import Derived.BigQuiet
namespace Go.Proofs.Ytnaocegcnckhmaa
open Go.RowKit

theorem scut_fromI (A : Option Addr) (L c q : Nat) (W : World) (z : Int) (hz : z = (q : Int)) (h : q ≤ L) (hc : L ≤ c) : (Instr.slice 27 (.slice A L c) (some (.int .i64 z)) none none).run Try.prog W = .ok (.slice (behindS A c q) (L - q) (c - q)) W := by
  rw [hz]
  exact scut_from A L c q W h hc
/-- What Last is to answer. -/
def LastP (w : World) (X : List ByteArray) (e : Ending) (w' : World) : Prop := ∃ A c, e = .returned (.slice A X.length c) ∧ Reads w A (strC X) ∧ X.length ≤ c ∧ c ≤ 9223372036854775807 ∧ w = w'
theorem LastP.whole {w : World} {A : Option Addr} {c m : Nat} {l : List ByteArray} (hr : Reads w A (strC l)) (hc : l.length ≤ c) (hc2 : c ≤ 9223372036854775807) (h : l.length ≤ m) : LastP w (Bm.lastL m l) (.returned (.slice A l.length c)) w := by
  unfold LastP
  rw [Bm.lastL_short m l h]
  exact ⟨A, c, rfl, hr, hc, hc2, rfl⟩
theorem LastP.cut {w : World} {A : Option Addr} {c m q : Nat} {l : List ByteArray} (hr : Reads w A (strC l)) (hc : l.length ≤ c) (hc2 : c ≤ 9223372036854775807) (hq : q = l.length - m) : LastP w (Bm.lastL m l) (.returned (.slice (behindS A c q) (l.length - q) (c - q))) w := by
  refine ⟨behindS A c q, c - q, ?_, ?_, ?_, by omega, rfl⟩
  · rw [Bm.lastL_length, show l.length - q = min l.length m by omega]
  · unfold Bm.lastL
    rw [← hq]
    exact sreads_behind hr hc
  · rw [Bm.lastL_length]
    omega
set_option maxHeartbeats 1000000 in
set_option maxRecDepth 100000 in
theorem ringrbytes_any (A : Option Addr) (c : Nat) (l : List ByteArray) (w : World) (hr : Reads w A (strC l)) (hl : l.length ≤ 1000) (hsz : ∀ s ∈ l, s.size ≤ 281474976710656) :
    Calls Try.prog 17 #[.slice A l.length c] w fun e w' => e = .returned (.int .i64 (Bm.sizeS l : Int)) ∧ w = w' := by
  have Hr := Lib.hid hr
  have Hsz := Lib.hid hsz
  clear hr hsz
  go_enter Try.func17, Try.ntmps17
  go_wp2
  go_loop [3, 4] (fun n i => ∃ k : Nat, k ≤ l.length ∧ i = .int .i64 (k : Int) ∧ n = .int .i64 (Bm.sizeS (l.take k) : Int)) (fun _ i => l.length - (intOf i).toNat)
  case atStart => exact ⟨0, Nat.zero_le _, rfl, rfl⟩
  case round =>
    obtain ⟨k, hk, rfl, rfl⟩ := hrel
    by_cases hkl : k < l.length
    · obtain ⟨g, off, rfl, hc⟩ := reads_str Hr.out (by omega)
      have c0 := hc k hkl
      have hs := Hsz.out l[k] (List.getElem_mem hkl)
      have hB := Bm.sizeS_bound (l.take k) 1000 (by rw [List.length_take]; omega) (fun s hs => Hsz.out s (List.mem_of_mem_take hs))
      have Hnx := Lib.hid (Bm.sizeS_take l k hkl)
      clear hc
      generalize l[k] = s at *
      generalize Bm.sizeS (l.take k) = n at *
      go_wp2
      go_round
      case rel => exact ⟨k + 1, by omega, by go_num, by rw [Hnx.out]; go_num⟩
      case measure => simp [intOf]; omega
    · obtain rfl : k = l.length := by omega
      rw [List.take_length]
      go_wp2
      go_ret
      exact ⟨rfl, rfl⟩

end Go.Proofs.Ytnaocegcnckhmaa
