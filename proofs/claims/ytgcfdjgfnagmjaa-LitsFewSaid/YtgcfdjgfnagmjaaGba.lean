/-
  Layer 15 (lits): the laws' awake, by its walk: true. No condition.
  LitsFew (layer 15): the law's function by its walk: true for any string and any uint16. No condition.
-/
import Derived.Test.YtgcfdjgfnagmjaaGaz
import Derived.Test.YtgcfdjgfnagmjaaGaw
namespace Go.Proofs.Ytgcfdjgfnagmjaa
open Go.RowKit

theorem dec_aaaa : Bm.decL [1, 4, 97] 4 = some ([97, 97, 97, 97], 3) := by decide +kernel
theorem sym_aaaa : Bm.symN (Bm.countsI [97, 97, 97, 97]) = 1 := by decide +kernel
theorem alike_aaaa : Bm.alikeL [97, 97, 97, 97] = [1, 4, 97] := by decide +kernel
theorem raw_ab : Bm.rawL [97, 98] = [0, 2, 97, 98] := by decide +kernel
theorem str_aaaa : strOf [97, 97, 97, 97] = ⟨#[97, 97, 97, 97]⟩ := by decide
theorem str_14a : strOf [1, 4, 97] = ⟨#[1, 4, 97]⟩ := by decide
theorem str_02ab : strOf [0, 2, 97, 98] = ⟨#[0, 2, 97, 98]⟩ := by decide
theorem str_ab : strOf [97, 98] = ⟨#[97, 98]⟩ := by decide
theorem cnew_14a (w : World) : Calls Try.prog 7 #[.string ⟨#[1, 4, 97]⟩] w fun e w' => e = .returned (.pointer (some ⟨w.heap.size, 0, none⟩)) ∧ CR w' w.heap.size (some [1, 4, 97]) ∧ Below w.heap.size w w' := cnew_any [1, 4, 97] w
theorem lsdec_14a (b : Nat) (w : World) (h : CR w b (some [1, 4, 97])) : Calls Try.prog 6 #[.pointer (some ⟨b, 0, none⟩), .int .i64 4] w fun e w' => e = .returned (.tuple #[.string ⟨#[97, 97, 97, 97]⟩, .bool true]) ∧ w.grownBy w' (some b) :=
  (lsdec_any b [1, 4, 97] 4 w (by decide) (by decide) (by constructor <;> decide) h).mono fun e w' ⟨h1, h2⟩ => by
    rw [dec_aaaa] at h1
    have h3 := h1.1
    rw [str_aaaa] at h3
    exact ⟨h3, h2⟩
theorem lsenc_aaaa (w : World) : Calls Try.prog 5 #[.string ⟨#[97, 97, 97, 97]⟩] w fun e w' => e = .returned (.string ⟨#[1, 4, 97]⟩) ∧ Below w.heap.size w w' := by
  have h := lsenc_alike [97, 97, 97, 97] w (by decide) (by decide) sym_aaaa
  rw [alike_aaaa, str_aaaa, str_14a] at h
  exact h
theorem lraw_ab (w : World) : Calls Try.prog 8 #[.string ⟨#[97, 98]⟩] w fun e w' => e = .returned (.string ⟨#[0, 2, 97, 98]⟩) ∧ Below w.heap.size w w' := by
  have h := lraw_any [97, 98] w (by decide) (by decide)
  rw [raw_ab, str_ab, str_02ab] at h
  exact h
set_option maxHeartbeats 1000000 in
set_option maxRecDepth 100000 in
theorem lsawake_any (w : World) : Calls Try.prog 4 #[] w fun e w' => e = .returned (.bool true) ∧ Below w.heap.size w w' := by
  have Hnew := Lib.hid (cnew_14a w)
  have Hdec := Lib.hid (fun W b h => lsdec_14a b W h)
  have Henc := Lib.hid lsenc_aaaa
  have Hraw := Lib.hid lraw_ab
  obtain ⟨b, hb⟩ : ∃ b, b = w.heap.size := ⟨_, rfl⟩
  have Hbb := Lib.hid (show w.heap.size ≤ b by omega)
  rw [← hb] at Hnew ⊢
  have Hbe := Lib.hid hb
  clear hb
  go_enter Try.func4, Try.ntmps4
  go_wp2_with fail
  refine Hnew.out.mono ?_
  rintro e w1 ⟨rfl, hc1, hb1⟩
  have Hb1 := Lib.hid hb1
  have Hd1 := Lib.hid (Hdec.out w1 b hc1)
  clear hc1 hb1 Hnew Hdec
  go_wp2_with fail
  refine Hd1.out.mono ?_
  rintro e w2 ⟨rfl, hg2⟩
  have Hb2 := Lib.hid (Hb1.out.trans (below_grown hg2 (by omega) (by rw [Hbe.out]; exact Hb1.out.size)))
  clear hg2 Hb1 Hd1
  go_wp2_with fail
  refine (Henc.out _).mono ?_
  rintro e w3 ⟨rfl, hb3⟩
  have Hb3 := Lib.hid (Hb2.out.trans (hb3.mono (by rw [Hbe.out]; exact Hb2.out.size)))
  clear hb3 Hb2 Henc
  go_wp2_with fail
  refine (Hraw.out _).mono ?_
  rintro e w4 ⟨rfl, hb4⟩
  have Hb4 := Lib.hid (Hb3.out.trans (hb4.mono (by rw [Hbe.out]; exact Hb3.out.size)))
  clear hb4 Hb3 Hraw
  go_wp2
  go_ret
  exact ⟨rfl, Hb4.out⟩
end Go.Proofs.Ytgcfdjgfnagmjaa

namespace Go.Proofs.Ytgcfdjgfnagmjaa
open Go.RowKit

set_option maxHeartbeats 1000000 in
set_option maxRecDepth 100000 in
theorem lsfew_out (s : List Nat) (c : Int) (w : World) (hs : s.length ≤ 9223372036854775807) (h : 200 < s.length ∨ s.length = 0) :
    Calls Try.prog 3 #[.string (strOf s), .int .u16 c] w fun e w' => e = .returned (.bool true) ∧ Below w.heap.size w w' := by
  have Haw := Lib.hid (lsawake_any w)
  have hsz := strOf_size s
  generalize strOf s = str at *
  go_enter Try.func3, Try.ntmps3
  go_wp2_with fail
  refine Haw.out.mono ?_
  rintro e w1 ⟨rfl, hb1⟩
  have Hb1 := Lib.hid hb1
  clear hb1
  by_cases h2 : 200 < s.length
  · have d2 : decide (200 < s.length) = true := decide_eq_true h2
    have d3 : decide ((200 : Int) < (s.length : Int)) = true := decide_eq_true (by omega)
    go_wp2
    go_ret
    exact ⟨rfl, Hb1.out⟩
  · have d2 : decide (200 < s.length) = false := decide_eq_false h2
    have d3 : decide ((200 : Int) < (s.length : Int)) = false := decide_eq_false (by omega)
    have d4 : ((s.length : Int) == 0) = true := by rw [beq_iff_eq]; omega
    go_wp2
    go_ret
    exact ⟨rfl, Hb1.out⟩
theorem dec_none {w : World} (b : Nat) (bs : List Nat) (most : Int) (hl : bs.length ≤ 1000) (hlt : ∀ x ∈ bs, x < 256) (hm : Bm.IntOk most) (hn : Bm.decL bs most = none) (h : CR w b (some bs)) :
    Calls Try.prog 6 #[.pointer (some ⟨b, 0, none⟩), .int .i64 most] w fun e w' => e = .returned (.tuple #[.string (strOf []), .bool false]) ∧ w.grownBy w' (some b) := by
  have h1 := lsdec_any b bs most w hl hlt hm h
  rw [hn] at h1
  exact h1
set_option maxHeartbeats 2000000 in
set_option maxRecDepth 100000 in
theorem lsfew_in (s : List Nat) (c : Nat) (w : World) (hs : s.length ≤ 200) (h0 : 0 < s.length) (hlt : ∀ x ∈ s, x < 256) (hc : c < 65536) :
    Calls Try.prog 3 #[.string (strOf s), .int .u16 (c : Int)] w fun e w' => e = .returned (.bool true) ∧ Below w.heap.size w w' := by
  have Haw := Lib.hid (lsawake_any w)
  have hsz := strOf_size s
  have d3 : decide ((200 : Int) < (s.length : Int)) = false := decide_eq_false (by omega)
  have d3n : decide (200 < s.length) = false := decide_eq_false (by omega)
  have d4 : ((s.length : Int) == 0) = false := by rw [beq_eq_false_iff_ne]; omega
  have Henc := Lib.hid (fun W => lsenc_any s W (by omega) hlt)
  obtain ⟨n, hn⟩ : ∃ n, n = s.length := ⟨_, rfl⟩
  have Hn := Lib.hid hn
  rw [← hn] at hsz d3 d3n d4 hs h0
  clear hn
  generalize strOf s = str at *
  go_enter Try.func3, Try.ntmps3
  go_wp2_with fail
  refine Haw.out.mono ?_
  rintro e w1 ⟨rfl, hb1⟩
  have Hb1 := Lib.hid hb1
  clear hb1 Haw
  go_wp2_with fail
  refine (Henc.out _).mono ?_
  rintro e w2 ⟨⟨E, hE, rfl⟩, hb2⟩
  have Hb2 := Lib.hid (Hb1.out.trans (hb2.mono Hb1.out.size))
  clear hb2 Hb1 Henc
  obtain ⟨⟨k, t, hk⟩, hE256, hEl, hdec⟩ := hE
  rw [← Hn.out] at hEl hdec hk
  have hten := Bm.grp_ten n (by omega)
  have hE1 : 0 < E.length := by rw [hk]; simp
  have hE2 : E.length ≤ 1000 := by omega
  have hfew : Bm.decL E ((n : Int) - 1) = none := by rw [hk]; exact Bm.decL_few k n t _ (by omega) (by omega)
  have Hfew := Lib.hid (fun W b h => dec_none (w := W) b E ((n : Int) - 1) hE2 hE256 (by constructor <;> omega) hfew h)
  obtain ⟨j, hj⟩ : ∃ j, j = c % E.length := ⟨_, rfl⟩
  have hjl : j < E.length := by rw [hj]; exact Nat.mod_lt _ hE1
  have hcut := Bm.decL_cut E (n : Int) s hdec j hjl
  have Hcut := Lib.hid (fun W b h => dec_none (w := W) b (E.take j) (n : Int) (by rw [List.length_take]; omega) (take_lt hE256 j) (by constructor <;> omega) hcut h)
  have Hnew := Lib.hid (fun W => cnew_any E W)
  have Hnew2 := Lib.hid (fun W => cnew_any (E.take j) W)
  have hsl := fun W : World => str_to E j (by omega) W
  have hsE := strOf_size E
  have hji : (c : Int) % (E.length : Int) = (j : Int) := by rw [hj, Int.natCast_emod]
  have hEb : ((E.length : Int) == 0) = false := by rw [beq_eq_false_iff_ne]; omega
  clear hk hE256 hEl hdec hten hfew hj hcut
  generalize strOf (E.take j) = sJ at *
  generalize strOf E = sE at *
  generalize E.length = lE at *
  go_wp2_with fail
  refine (Hnew.out _).mono ?_
  rintro e w3 ⟨rfl, hc3, hb3⟩
  have Hb3 := Lib.hid (Hb2.out.trans (hb3.mono Hb2.out.size))
  have Hle3 := Lib.hid Hb2.out.size
  have Hd3 := Lib.hid (Hfew.out w3 _ hc3)
  clear hc3 hb3 Hb2 Hnew Hfew
  generalize w2.heap.size = b3 at *
  go_wp2_with fail
  refine Hd3.out.mono ?_
  rintro e w4 ⟨rfl, hg4⟩
  have Hb4 := Lib.hid (Hb3.out.trans (below_grown hg4 Hle3.out Hb3.out.size))
  clear hg4 Hb3 Hd3 Hle3
  go_wp2_with fail
  refine (Hnew2.out _).mono ?_
  rintro e w5 ⟨rfl, hc5, hb5⟩
  have Hb5 := Lib.hid (Hb4.out.trans (hb5.mono Hb4.out.size))
  have Hle5 := Lib.hid Hb4.out.size
  have Hd5 := Lib.hid (Hcut.out w5 _ hc5)
  clear hc5 hb5 Hb4 Hnew2 Hcut
  generalize w4.heap.size = b5 at *
  go_wp2_with fail
  refine Hd5.out.mono ?_
  rintro e w6 ⟨rfl, hg6⟩
  have Hb6 := Lib.hid (Hb5.out.trans (below_grown hg6 Hle5.out Hb5.out.size))
  clear hg6 Hb5 Hd5 Hle5
  go_wp2
  go_ret
  exact ⟨rfl, Hb6.out⟩
end Go.Proofs.Ytgcfdjgfnagmjaa
