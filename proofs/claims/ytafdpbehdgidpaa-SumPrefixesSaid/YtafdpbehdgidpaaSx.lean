/-
  SumPrefixes (layer 4): the law's function by its walk: true for any text. No condition.
-/
import Derived.Test.YtafdpbehdgidpaaSk
namespace Go.Proofs.Ytafdpbehdgidpaa
open Go.RowKit

set_option maxHeartbeats 400000 in
theorem sprefs_long (s : ByteArray) (w : World) (h : 100 < s.size) (hm : s.size ≤ 9223372036854775807) : Calls Try.prog 4 #[.string s] w fun e w' => e = .returned (.bool true) ∧ Below w.heap.size w w' := by
  obtain ⟨n, hn⟩ : ∃ n, s.size = n := ⟨_, rfl⟩
  rw [hn] at h hm
  go_enter Try.func4, Try.ntmps4
  go_wp2_with fail
  refine (sawake_any w).mono ?_
  rintro e w1 ⟨rfl, hb1⟩
  have Hb1 := Lib.hid hb1
  clear hb1
  go_wp2
  go_ret
  exact ⟨rfl, Hb1.out⟩

set_option maxHeartbeats 400000 in
theorem sprefs_short (l : List Nat) (w : World) (h : l.length ≤ 100) (hlt : ∀ x ∈ l, x < 256) : Calls Try.prog 4 #[.string (strOf l)] w fun e w' => e = .returned (.bool true) ∧ Below w.heap.size w w' := by
  have hsz := strOf_size l
  have hto : Hid (∀ k, k < l.length → ∀ W, (Instr.slice 9 (.string (strOf l)) none (some (.int .i64 ((k : Int) + 1))) none).run Try.prog W = .ok (.string (strOf (l.take (k + 1)))) W) := Lib.hid (fun k hk W => str_to l (k + 1) hk W)
  have hgof : Hid (∀ k w, k < l.length → Calls Try.prog 10 #[.string (strOf (l.take (k + 1)))] w fun e w' => e = .returned (.int .u64 (Bm.sumOf (l.take (k + 1)) : Int)) ∧ w = w') := Lib.hid (fun k w hk => gof_any _ w (by rw [List.length_take]; omega) (take_lt hlt _))
  have hpre : Hid (∀ w, Calls Try.prog 12 #[.string (strOf l)] w fun e w' => ∃ g cs, e = .returned (.slice (some ⟨g, 0, none⟩) l.length l.length) ∧ w.heap.size ≤ g ∧ Row w' g 24 cs ∧ PreOk l l.length cs ∧ Below w.heap.size w w') := Lib.hid (fun w => sprefixes_any l w (by omega) hlt)
  clear hlt
  generalize strOf l = s at hsz hto hpre ⊢
  go_enter Try.func4, Try.ntmps4
  go_wp2_with fail
  refine (sawake_any w).mono ?_
  rintro e w1 ⟨rfl, hb1⟩
  have Hb1 := Lib.hid hb1
  clear hb1
  go_wp2_with fail
  refine (hpre.out w1).mono ?_
  rintro e w2 ⟨g, cs, rfl, _, hrow, hok, hb2⟩
  have Hb2 := Lib.hid (Hb1.out.trans (hb2.mono Hb1.out.size))
  have Hrow := Lib.hid hrow
  have Hok := Lib.hid hok
  clear hb2 hrow hok hpre Hb1
  go_wp2
  go_loop [4, 5, 20] (fun _ _ i => ∃ k : Nat, k ≤ l.length ∧ i = .int .i64 (k : Int)) (fun _ _ i => l.length - (intOf i).toNat)
  case atStart => exact ⟨0, by omega, rfl⟩
  case round =>
    obtain ⟨k, hk, rfl⟩ := hrel
    by_cases hkl : k < l.length
    · have c0 := (Hrow.out.cell k).trans (Hok.out.2 k hkl)
      have hto1 := hto.out k hkl
      have Hg := Lib.hid (hgof.out k w2 hkl)
      clear hto hgof
      generalize strOf (l.take (k + 1)) = t at hto1 Hg
      generalize Bm.sumOf (l.take (k + 1)) = S at c0 Hg
      go_wp2_with fail
      refine Hg.out.mono ?_
      rintro e w' ⟨rfl, rfl⟩
      go_wp2
      go_round
      case rel => exact ⟨k + 1, by omega, by go_num⟩
      case measure => simp [intOf]; omega
    · obtain rfl : k = l.length := by omega
      go_wp2
      go_ret
      exact ⟨rfl, Hb2.out⟩
end Go.Proofs.Ytafdpbehdgidpaa
