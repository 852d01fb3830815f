/-
  Layer 3 (cursor): the laws' awake, by its walk: true. No condition.
-/
import Derived.Test.YtibgddeggcabmaaCe
import Derived.Test.YtibgddeggcabmaaCh
namespace Go.Proofs.Ytibgddeggcabmaa
open Go.RowKit

theorem text_a : Bm.grp 1 = [1] := Bm.grp_small 1 (by decide)
theorem grp_300 : Bm.grp 300 = [172, 2] := by
  rw [Bm.grp_big 300 (by omega) (by omega), Bm.grp_small (300 / 128) (by omega)]
theorem text_all : [] ++ Bm.grp 300 ++ (Bm.grp [97].length ++ [97]) = [172, 2, 1, 97] := by
  rw [grp_300, show ([97] : List Nat).length = 1 from rfl, text_a]; rfl
theorem read_300 : groupS (some [172, 2, 1, 97]) = (300, some [1, 97]) := by
  have h := Bm.firstG_grp 300 [1, 97] (by omega)
  rw [grp_300] at h
  have h' : Bm.firstG [172, 2, 1, 97] = (300, 2) := h
  simp [groupS, h']
theorem read_a : textS 5 (some [1, 97]) = ([97], some []) := by
  have h := Bm.firstG_grp 1 [97] (by omega)
  rw [text_a] at h
  have h' : Bm.firstG [1, 97] = (1, 1) := h
  simp [textS, intS, groupS, h', rawS]

theorem str_a : strOf [97] = ⟨#[97]⟩ := rfl
theorem str_all : strOf [172, 2, 1, 97] = ⟨#[172, 2, 1, 97]⟩ := rfl
theorem ok_small (l : List Nat) (h : ∀ x ∈ l, x < 256) (hl : l.length ≤ 100000000) : OkL (some l) := ⟨h, hl⟩
theorem wgroup_300 (b : Nat) (w : World) (h : CW w b []) : Calls Try.prog 9 #[.pointer (some ⟨b, 0, none⟩), .int .u64 300] w fun e w' => e = .returned (.pointer (some ⟨b, 0, none⟩)) ∧ CW w' b ([] ++ Bm.grp 300) ∧ w.grownBy w' (some b) :=
  wgroup_any b 300 [] w (by decide) (by simp) h
theorem wtext_a (b : Nat) (w : World) (h : CW w b ([] ++ Bm.grp 300)) : Calls Try.prog 12 #[.pointer (some ⟨b, 0, none⟩), .string ⟨#[97]⟩] w fun e w' => e = .returned (.pointer (some ⟨b, 0, none⟩)) ∧ CW w' b [172, 2, 1, 97] ∧ w.grownBy w' (some b) := by
  have h1 := wtext_any b _ [97] w (by rw [grp_300]; simp) (by simp) h
  rw [← List.append_assoc, List.append_assoc, text_all] at h1
  exact h1
theorem wstr_a (b : Nat) (w : World) (h : CW w b [172, 2, 1, 97]) : Calls Try.prog 14 #[.pointer (some ⟨b, 0, none⟩)] w fun e w' => e = .returned (.string ⟨#[172, 2, 1, 97]⟩) ∧ Below w.heap.size w w' :=
  wstr_any b _ w (by simp) (by decide) h
theorem cnew_a (w : World) : Calls Try.prog 15 #[.string ⟨#[172, 2, 1, 97]⟩] w fun e w' => e = .returned (.pointer (some ⟨w.heap.size, 0, none⟩)) ∧ CR w' w.heap.size (some [172, 2, 1, 97]) ∧ Below w.heap.size w w' :=
  cnew_any [172, 2, 1, 97] w
theorem rgroup_300 (b : Nat) (w : World) (h : CR w b (some [172, 2, 1, 97])) : Calls Try.prog 18 #[.pointer (some ⟨b, 0, none⟩)] w fun e w' => e = .returned (.int .u64 300) ∧ CR w' b (some [1, 97]) ∧ w.grownBy w' (some b) := by
  have h1 := rgroup_any b _ w (ok_small _ (by decide) (by simp)) h
  rw [read_300] at h1
  exact h1
theorem rtext_a (b : Nat) (w : World) (h : CR w b (some [1, 97])) : Calls Try.prog 20 #[.pointer (some ⟨b, 0, none⟩), .int .i64 5] w fun e w' => e = .returned (.string ⟨#[97]⟩) ∧ CR w' b (some []) ∧ w.grownBy w' (some b) := by
  have h1 := rtext_any b _ 5 w (by decide) (by decide) (ok_small _ (by decide) (by simp)) h
  rw [read_a] at h1
  exact h1
theorem rdone_a (b : Nat) (w : World) (h : CR w b (some [])) : Calls Try.prog 22 #[.pointer (some ⟨b, 0, none⟩)] w fun e w' => e = .returned (.bool true) ∧ w = w' := rdone_any b _ w h

set_option maxHeartbeats 1000000 in
theorem cawake_any (w : World) : Calls Try.prog 6 #[] w fun e w' => e = .returned (.bool true) ∧ Below w.heap.size w w' := by
  obtain ⟨b, hb⟩ : ∃ b, b = w.heap.size := ⟨_, rfl⟩
  have hnew := CW.new w
  rw [← hb] at hnew
  have hbel := (Below.refl w.heap.size w).alloc (Nat.le_refl _) (.cells #[.pointer none, .int .i64 0] 26)
  rw [← hb] at hbel
  have Hg := Lib.hid (wgroup_300 b _ hnew)
  have Hbel := Lib.hid hbel
  clear hnew hbel
  have Hfin : Hid (∀ w', Below b w w' → Below w.heap.size w w') := fun w' h => by rw [← hb]; exact h
  go_enter Try.func6, Try.ntmps6
  go_wp2_with fail
  rw [← hb]
  refine Hg.out.mono ?_
  rintro e w1 ⟨rfl, hc1, hg1⟩
  have Hb1 := Lib.hid (Hbel.out.grown hg1 (by simp; omega) (fun k e => by injection e with e; omega))
  clear hb
  have Hc1 := Lib.hid hc1
  clear hc1 hg1 Hg Hbel
  go_wp2_with fail
  refine (wtext_a b w1 Hc1.out).mono ?_
  rintro e w2 ⟨rfl, hc2, hg2⟩
  have Hb2 := Lib.hid (Hb1.out.grown hg2 (by have := Hc1.out.lt; omega) (fun k e => by injection e with e; omega))
  have Hc2 := Lib.hid hc2
  clear hc2 hg2
  go_wp2_with fail
  refine (wstr_a b w2 Hc2.out).mono ?_
  rintro e w3 ⟨rfl, hb3⟩
  have Hb3 := Lib.hid (Hb2.out.trans (hb3.mono (by have := Hc2.out.lt; omega)))
  have hl3 : b ≤ w3.heap.size := Nat.le_trans (Nat.le_of_lt Hc2.out.lt) hb3.size
  have Hl3 := Lib.hid hl3
  clear hb3 hl3 Hb1 Hb2 Hc1 Hc2
  go_wp2_with fail
  refine (cnew_a w3).mono ?_
  obtain ⟨r, hr⟩ : ∃ r, r = w3.heap.size := ⟨_, rfl⟩
  rw [← hr]
  rintro e w4 ⟨rfl, hc4, hb4⟩
  have hrb : b ≤ r := by rw [hr]; exact Hl3.out
  have Hb4 := Lib.hid (Hb3.out.trans (hb4.mono hrb))
  have Hc4 := Lib.hid hc4
  have Hrb := Lib.hid hrb
  clear hc4 hb4 hr hrb Hl3 Hb3
  go_wp2_with fail
  refine (rgroup_300 r w4 Hc4.out).mono ?_
  rintro e w5 ⟨rfl, hc5, hg5⟩
  have Hb5 := Lib.hid (Hb4.out.grown hg5 (by have := Hc4.out.lt; have := Hrb.out; omega) (fun k e => by injection e with e; have := Hrb.out; omega))
  have Hc5 := Lib.hid hc5
  clear hc5 hg5
  go_wp2_with fail
  refine (rtext_a r w5 Hc5.out).mono ?_
  rintro e w6 ⟨rfl, hc6, hg6⟩
  have Hb6 := Lib.hid (Hb5.out.grown hg6 (by have := Hc5.out.lt; have := Hrb.out; omega) (fun k e => by injection e with e; have := Hrb.out; omega))
  have Hc6 := Lib.hid hc6
  clear hc6 hg6
  go_wp2_with fail
  refine (rdone_a r w6 Hc6.out).mono ?_
  rintro e w' ⟨rfl, rfl⟩
  go_wp2
  go_ret
  exact ⟨rfl, Hfin.out _ Hb6.out⟩
end Go.Proofs.Ytibgddeggcabmaa
