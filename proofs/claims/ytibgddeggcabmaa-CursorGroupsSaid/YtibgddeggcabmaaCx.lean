/-
  CursorGroups (layer 3): the law's function by its walk: true for any two numbers. No condition.
-/
import Derived.Test.YtibgddeggcabmaaCk
namespace Go.Proofs.Ytibgddeggcabmaa
open Go.RowKit

theorem groups_two (a : Nat) (l : List Nat) (h : a < 2 ^ 64) : groupS (some (Bm.grp a ++ l)) = (a, some l) := by
  have h1 := Bm.firstG_grp a l h
  have h2 := Bm.grp_pos a h
  simp [groupS, h1, h2]
theorem rgroup_two (b a : Nat) (l : List Nat) (w : World) (h : a < 2 ^ 64) (hl : l.length ≤ 10000000) (hlt : ∀ x ∈ l, x < 256) (hc : CR w b (some (Bm.grp a ++ l))) :
    Calls Try.prog 18 #[.pointer (some ⟨b, 0, none⟩)] w fun e w' => e = .returned (.int .u64 (a : Int)) ∧ CR w' b (some l) ∧ w.grownBy w' (some b) := by
  have h10 := Bm.grp_ten a h
  have h1 := rgroup_any b _ w (ok_small _ (append_lt (Bm.grp_lt a h) hlt) (by rw [List.length_append]; omega)) hc
  rw [groups_two a l h] at h1
  exact h1
theorem wstr_nil' (w : World) : Calls Try.prog 14 #[.pointer none] w fun e w' => e = .returned (.string ⟨#[]⟩) ∧ w = w' := wstr_nil w
theorem rgroup_one (b a : Nat) (w : World) (h : a < 2 ^ 64) (hc : CR w b (some (Bm.grp a))) :
    Calls Try.prog 18 #[.pointer (some ⟨b, 0, none⟩)] w fun e w' => e = .returned (.int .u64 (a : Int)) ∧ CR w' b (some []) ∧ w.grownBy w' (some b) :=
  rgroup_two b a [] w h (by simp) (by simp) (by rw [List.append_nil]; exact hc)

set_option maxHeartbeats 2000000 in
set_option maxRecDepth 100000 in
theorem cgroups_walk (a b la lb : Nat) (eq : Bool) (sa sb sab : ByteArray) (ga gb gab : List Nat) (w : World)
    (hsa : sa.size = la) (hsb : sb.size = lb) (hla : 1 ≤ la) (hla10 : la ≤ 10)
    (hadd : ∀ W, (Op.stringOp .add sa sb).run Try.prog W = .ok (.string sab) W) (he : (sa.toList == sb.toList) = eq) (hei : ((a : Int) == (b : Int)) = eq) (hcase : b < a ∨ (a ≤ b ∧ la ≤ lb))
    (Hwa : Hid (∀ p w, CW w p [] → Calls Try.prog 9 #[.pointer (some ⟨p, 0, none⟩), .int .u64 (a : Int)] w fun e w' => e = .returned (.pointer (some ⟨p, 0, none⟩)) ∧ CW w' p ga ∧ w.grownBy w' (some p)))
    (Hwb : Hid (∀ p w, CW w p [] → Calls Try.prog 9 #[.pointer (some ⟨p, 0, none⟩), .int .u64 (b : Int)] w fun e w' => e = .returned (.pointer (some ⟨p, 0, none⟩)) ∧ CW w' p gb ∧ w.grownBy w' (some p)))
    (Hsa : Hid (∀ p w, CW w p ga → Calls Try.prog 14 #[.pointer (some ⟨p, 0, none⟩)] w fun e w' => e = .returned (.string sa) ∧ Below w.heap.size w w'))
    (Hsb : Hid (∀ p w, CW w p gb → Calls Try.prog 14 #[.pointer (some ⟨p, 0, none⟩)] w fun e w' => e = .returned (.string sb) ∧ Below w.heap.size w w'))
    (Hnew : Hid (∀ w, Calls Try.prog 15 #[.string sab] w fun e w' => e = .returned (.pointer (some ⟨w.heap.size, 0, none⟩)) ∧ CR w' w.heap.size (some gab) ∧ Below w.heap.size w w'))
    (Hra : Hid (∀ p w, CR w p (some gab) → Calls Try.prog 18 #[.pointer (some ⟨p, 0, none⟩)] w fun e w' => e = .returned (.int .u64 (a : Int)) ∧ CR w' p (some gb) ∧ w.grownBy w' (some p)))
    (Hrb : Hid (∀ p w, CR w p (some gb) → Calls Try.prog 18 #[.pointer (some ⟨p, 0, none⟩)] w fun e w' => e = .returned (.int .u64 (b : Int)) ∧ CR w' p (some []) ∧ w.grownBy w' (some p)))
    (Hnil : Hid (∀ w, Calls Try.prog 9 #[.pointer none, .int .u64 (a : Int)] w fun e w' => e = .returned (.pointer none) ∧ Below w.heap.size w w')) :
    Calls Try.prog 5 #[.int .u64 (a : Int), .int .u64 (b : Int)] w fun e w' => e = .returned (.bool true) ∧ Below w.heap.size w w' := by
  go_enter Try.func5, Try.ntmps5
  go_wp2_with fail
  refine (cawake_any w).mono ?_
  rintro e w1 ⟨rfl, hb1⟩
  obtain ⟨p1, hp1⟩ : ∃ p, p = w1.heap.size := ⟨_, rfl⟩
  have Hb1 := Lib.hid hb1
  have Hp1 := Lib.hid hp1
  clear hb1 hp1
  have hn1 := CW.new w1
  have hn2 := CW.new (w1.alloc (.cells #[.pointer none, .int .i64 0] 26))
  have hn1' := hn1.below ((Below.refl _ _).alloc (Nat.le_refl _) (.cells #[.pointer none, .int .i64 0] 26))
  rw [show (w1.alloc (.cells #[.pointer none, .int .i64 0] 26)).heap.size = p1 + 1 by simp [Hp1.out]] at hn2
  rw [← Hp1.out] at hn1'
  have hb2 : Below w.heap.size w ((w1.alloc (.cells #[.pointer none, .int .i64 0] 26)).alloc (.cells #[.pointer none, .int .i64 0] 26)) := (Hb1.out.alloc Hb1.out.size _).alloc (by have := Hb1.out.size; simp; omega) _
  have hwp : w.heap.size ≤ p1 := by rw [Hp1.out]; exact Hb1.out.size
  have Hn1 := Lib.hid hn1'
  have Hn2 := Lib.hid hn2
  have Hb2 := Lib.hid hb2
  have Hwp := Lib.hid hwp
  clear hn1 hn2 hn1' hb2 hwp Hb1
  go_wp2_with fail
  rw [← Hp1.out]
  clear Hp1
  generalize ((w1.alloc (.cells #[.pointer none, .int .i64 0] 26)).alloc (.cells #[.pointer none, .int .i64 0] 26)) = w2 at Hn1 Hn2 Hb2 ⊢
  refine (Hwa.out p1 w2 Hn1.out).mono ?_
  rintro e w3 ⟨rfl, hc3, hg3⟩
  have Hc3 := Lib.hid hc3
  have Hd3 := Lib.hid (Hn2.out.keep hg3 (by simp) (fun g e => by injection e with e; subst e; exact Hn1.out.notT))
  have Hb3 := Lib.hid (Hb2.out.grown hg3 Hb2.out.size (fun k e => by injection e with e; have := Hwp.out; omega))
  clear hc3 hg3 Hn1 Hn2 Hb2
  go_wp2_with fail
  refine (Hsa.out p1 w3 Hc3.out).mono ?_
  rintro e w4 ⟨rfl, hb4⟩
  have Hd4 := Lib.hid (Hd3.out.below hb4)
  have Hb4 := Lib.hid (Hb3.out.trans (hb4.mono Hb3.out.size))
  clear hb4 Hd3 Hb3 Hc3
  go_wp2_with fail
  refine (Hwb.out (p1 + 1) w4 Hd4.out).mono ?_
  rintro e w5 ⟨rfl, hc5, hg5⟩
  have Hc5 := Lib.hid hc5
  have Hb5 := Lib.hid (Hb4.out.grown hg5 Hb4.out.size (fun k e => by injection e with e; have := Hwp.out; omega))
  clear hc5 hg5 Hd4 Hb4
  go_wp2_with fail
  refine (Hsb.out (p1 + 1) w5 Hc5.out).mono ?_
  rintro e w6 ⟨rfl, hb6⟩
  have Hb6 := Lib.hid (Hb5.out.trans (hb6.mono Hb5.out.size))
  clear hb6 Hb5 Hc5
  go_wp2_with fail
  refine (Hnew.out w6).mono ?_
  obtain ⟨r, hr⟩ : ∃ r, r = w6.heap.size := ⟨_, rfl⟩
  rw [← hr]
  rintro e w7 ⟨rfl, hc7, hb7⟩
  have hwr : w.heap.size ≤ r := by rw [hr]; exact Hb6.out.size
  have Hc7 := Lib.hid hc7
  have Hb7 := Lib.hid (Hb6.out.trans (hb7.mono hwr))
  have Hwr := Lib.hid hwr
  clear hc7 hb7 hr hwr Hb6
  rcases hcase with hab | ⟨hab, hll⟩
  all_goals
    go_wp2_with fail
    refine (Hra.out r w7 Hc7.out).mono ?_
    rintro e w8 ⟨rfl, hc8, hg8⟩
    have Hc8 := Lib.hid hc8
    have Hb8 := Lib.hid (Hb7.out.grown hg8 Hb7.out.size (fun k e => by injection e with e; have := Hwr.out; omega))
    clear hc8 hg8 Hc7 Hb7
    go_wp2_with fail
    refine (Hrb.out r w8 Hc8.out).mono ?_
    rintro e w9 ⟨rfl, hc9, hg9⟩
    have Hc9 := Lib.hid hc9
    have Hb9 := Lib.hid (Hb8.out.grown hg9 Hb8.out.size (fun k e => by injection e with e; have := Hwr.out; omega))
    clear hc9 hg9 Hc8 Hb8
    go_wp2_with fail
    refine (rdone_a r w9 Hc9.out).mono ?_
    rintro e w' ⟨rfl, rfl⟩
    clear Hc9
    go_wp2_with fail
    refine (Hnil.out w9).mono ?_
    rintro e w10 ⟨rfl, hb10⟩
    have Hb10 := Lib.hid (Hb9.out.trans (hb10.mono Hb9.out.size))
    clear hb10 Hb9
    go_wp2_with fail
    refine (wstr_nil' w10).mono ?_
    rintro e w' ⟨rfl, rfl⟩
    go_wp2_with fail
    refine (rbad_nil w10).mono ?_
    rintro e w' ⟨rfl, rfl⟩
    go_wp2_with fail
    refine (rgroup_nil w10).mono ?_
    rintro e w' ⟨rfl, rfl⟩
    go_wp2_with fail
    refine (rdone_nil w10).mono ?_
    rintro e w' ⟨rfl, rfl⟩
    go_wp2
    go_ret
    exact ⟨rfl, Hb10.out⟩

theorem cgroups_any (a b : Nat) (w : World) (ha : a < 2 ^ 64) (hb : b < 2 ^ 64) :
    Calls Try.prog 5 #[.int .u64 (a : Int), .int .u64 (b : Int)] w fun e w' => e = .returned (.bool true) ∧ Below w.heap.size w w' := by
  have hla := Bm.grp_pos a ha
  have hla10 := Bm.grp_ten a ha
  have hlb10 := Bm.grp_ten b hb
  refine cgroups_walk a b (Bm.grp a).length (Bm.grp b).length (decide (a = b)) (strOf (Bm.grp a)) (strOf (Bm.grp b)) (strOf (Bm.grp a ++ Bm.grp b)) (Bm.grp a) (Bm.grp b) (Bm.grp a ++ Bm.grp b) w
    (strOf_size _) (strOf_size _) hla hla10 (fun W => str_add _ _ (by omega) W) ?_ ?_ ?_ ?_ ?_ ?_ ?_ ?_ ?_ ?_ ?_
  · rw [strOf_beq _ _ (Bm.grp_lt a ha) (Bm.grp_lt b hb)]
    by_cases h : a = b
    · subst h; simp
    · rw [decide_eq_false h, decide_eq_false (fun e => h (Bm.grp_inj a b ha hb e))]
  · by_cases h : a = b
    · subst h; simp
    · rw [decide_eq_false h]; simp; omega
  · by_cases h : b < a
    · exact .inl h
    · exact .inr ⟨by omega, Bm.grp_mono a b hb (by omega)⟩
  · exact fun p w h => wgroup_any p a [] w ha (by simp) h
  · exact fun p w h => wgroup_any p b [] w hb (by simp) h
  · exact fun p w h => wstr_any p (Bm.grp a) w (by omega) (Bm.grp_lt a ha) h
  · exact fun p w h => wstr_any p (Bm.grp b) w (by omega) (Bm.grp_lt b hb) h
  · exact fun w => cnew_any (Bm.grp a ++ Bm.grp b) w
  · exact fun p w h => rgroup_two p a (Bm.grp b) w ha (by omega) (Bm.grp_lt b hb) h
  · exact fun p w h => rgroup_one p b w hb h
  · exact fun w => wgroup_nil a w ha
end Go.Proofs.Ytibgddeggcabmaa
