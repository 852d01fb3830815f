/-
  The reference's layer 16: Text, noughts, offset, Right, by their walks. Conditions: as each theorem's premises say.
-/
import Derived.Test.YtbdciiiimdbmkaaGreatGaw
import Derived.Test.YtbdciiiimdbmkaaGreatGap
import Derived.Test.YtbdciiiimdbmkaaGreatGao
import Derived.Test.YtbdciiiimdbmkaaGreatGad
import Derived.Test.YtbdciiiimdbmkaaGreatGab
namespace Go.Proofs.YtbdciiiimdbmkaaGreat
open Go.RowKit

theorem str_cut (l : List Nat) (i j : Nat) (h : i ≤ j) (hj : j ≤ l.length) (W : World) : (Instr.slice 9 (.string (strOf l)) (some (.int .i64 (i : Int))) (some (.int .i64 (j : Int))) none).run Tryz.prog W = .ok (.string (strOf ((l.take j).drop i))) W := by
  rw [run_slice_string W 9 _ .i64 .i64 i j Tryz.underlying9 (by omega) (by omega) (by rw [strOf_size]; omega), Int.toNat_natCast, Int.toNat_natCast, strOf_extract]
/-- What Text answers. -/
def TxtP (e : Ending) : Option (List Nat × Nat) → Prop
  | none => e = .returned (.tuple #[.string (strOf []), .int .i64 0])
  | some t => e = .returned (.tuple #[.string (strOf t.1), .int .i64 (t.2 : Int)])
set_option maxHeartbeats 1000000 in
set_option maxRecDepth 100000 in
theorem text_in (s st : ByteArray) (L v k r : Nat) (w : World) (hsz : s.size = L) (hL : L ≤ 100000) (h0 : 0 < k) (hv : v ≤ 4096) (hr : r = k + v) (hrl : r ≤ L)
    (hcut : ∀ W : World, (Instr.slice 9 (.string s) (some (.int .i64 (k : Int))) (some (.int .i64 (r : Int))) none).run Tryz.prog W = .ok (.string st) W)
    (hf : Calls Tryz.prog 19 #[.string s] w fun e w' => e = .returned (.tuple #[.int .u64 (v : Int), .int .i64 (k : Int)]) ∧ Below w.heap.size w w') :
    Calls Tryz.prog 21 #[.string s] w fun e w' => e = .returned (.tuple #[.string st, .int .i64 (r : Int)]) ∧ Below w.heap.size w w' := by
  have z0 : ((k : Int) == 0) = false := by rw [beq_eq_false_iff_ne]; omega
  have d2 : decide ((4096 : Int) < (v : Int)) = false := decide_eq_false (by omega)
  have d2n : decide (4096 < v) = false := decide_eq_false (by omega)
  obtain ⟨q, hq⟩ : ∃ q : Nat, (L : Int) - (k : Int) = (q : Int) := ⟨L - k, by omega⟩
  have d3 : decide ((q : Int) < (v : Int)) = false := decide_eq_false (by omega)
  have d3n : decide (q < v) = false := decide_eq_false (by omega)
  have bq : q ≤ 100000 := by omega
  have hp1 : (k : Int) + (v : Int) = (r : Int) := by omega
  have b1 : r ≤ 100000 := by omega
  clear h0 hr hrl
  have Hf := Lib.hid hf
  clear hf
  go_enter Tryz.func21, Tryz.ntmps21
  go_wp2_with fail
  refine Hf.out.mono ?_
  rintro e w1 ⟨rfl, hb1⟩
  have Hb1 := Lib.hid hb1
  clear hb1 Hf
  go_wp2
  go_ret2
  exact ⟨rfl, Hb1.out⟩
set_option maxHeartbeats 1000000 in
set_option maxRecDepth 100000 in
theorem qrtext_any (l : List Nat) (w : World) (hl : l.length ≤ 100000) (hlt : ∀ x ∈ l, x < 256) :
    Calls Tryz.prog 21 #[.string (strOf l)] w fun e w' => TxtP e (Bm.txtD l) ∧ Below w.heap.size w w' := by
  have Hf := Lib.hid (ffirst_any l w (by omega) hlt)
  have hsz := strOf_size l
  have hcut := str_cut l
  obtain ⟨v, hv⟩ : ∃ v, v = (Bm.firstG l).1 := ⟨_, rfl⟩
  obtain ⟨k, hk⟩ : ∃ k, k = (Bm.firstG l).2 := ⟨_, rfl⟩
  have hkl : k ≤ l.length := by
    rcases Nat.eq_zero_or_pos k with h | h
    · omega
    · exact (Bm.firstG_some l v k h (by rw [hv, hk])).2.2
  have hres : Bm.txtD l = if 0 < k ∧ v ≤ 4096 ∧ v ≤ l.length - k then some ((l.drop k).take v, k + v) else none := by rw [hv, hk]; rfl
  rw [hres]
  rw [← hv, ← hk] at Hf
  clear hv hk hres hlt
  obtain ⟨L, hL⟩ : ∃ L, L = l.length := ⟨_, rfl⟩
  rw [← hL] at hl hsz hkl hcut ⊢
  by_cases h0 : k = 0
  · subst h0
    rw [if_neg (by omega)]
    clear hcut hL
    generalize strOf l = sl at *
    go_enter Tryz.func21, Tryz.ntmps21
    go_wp2_with fail
    refine Hf.out.mono ?_
    rintro e w1 ⟨rfl, hb1⟩
    have Hb1 := Lib.hid hb1
    clear hb1 Hf
    go_wp2
    go_ret2
    exact ⟨rfl, Hb1.out⟩
  · have d0 : ((k : Int) == 0) = false := by rw [beq_eq_false_iff_ne]; omega
    by_cases h1 : 4096 < v
    · rw [if_neg (by omega)]
      have d1 : decide (4096 < v) = true := decide_eq_true h1
      have d2 : decide ((4096 : Int) < (v : Int)) = true := decide_eq_true (by omega)
      clear hcut hL h0
      generalize strOf l = sl at *
      go_enter Tryz.func21, Tryz.ntmps21
      go_wp2_with fail
      refine Hf.out.mono ?_
      rintro e w1 ⟨rfl, hb1⟩
      have Hb1 := Lib.hid hb1
      clear hb1 Hf
      go_wp2
      go_ret2
      exact ⟨rfl, Hb1.out⟩
    · have d1 : decide (4096 < v) = false := decide_eq_false h1
      have d2 : decide ((4096 : Int) < (v : Int)) = false := decide_eq_false (by omega)
      obtain ⟨q, hq⟩ : ∃ q, L = k + q := ⟨L - k, by omega⟩
      have hw1 : wrap64 ((L : Int) - (k : Int)) = (q : Int) := by rw [wrap_in _ (by omega) (by omega)]; omega
      have hw2 : IntKind.i64.wrap ((L : Int) - (k : Int)) = (q : Int) := by rw [IntWalk.i64_in _ (by omega)]; omega
      have hw3 : IntKind.u64.wrap (q : Int) = (q : Int) := by rw [IntKind.wrap_u64]; omega
      by_cases h2 : q < v
      · rw [if_neg (by omega)]
        have d3 : decide (q < v) = true := decide_eq_true h2
        have d4 : decide ((q : Int) < (v : Int)) = true := decide_eq_true (by omega)
        clear hcut h0
        have Hq := Lib.hid hq
        clear hq hL
        generalize strOf l = sl at *
        go_enter Tryz.func21, Tryz.ntmps21
        go_wp2_with fail
        refine Hf.out.mono ?_
        rintro e w1 ⟨rfl, hb1⟩
        have Hb1 := Lib.hid hb1
        clear hb1 Hf
        go_wp2
        go_ret2
        exact ⟨rfl, Hb1.out⟩
      · rw [if_pos (by omega)]
        have d3 : decide (q < v) = false := decide_eq_false h2
        have d4 : decide ((q : Int) < (v : Int)) = false := decide_eq_false (by omega)
        have hcut2 := hcut k (k + v) (by omega) (by omega)
        obtain ⟨r, hr⟩ : ∃ r, r = k + v := ⟨_, rfl⟩
        have hlist : (l.take r).drop k = (l.drop k).take v := by rw [hr, List.drop_take]; congr 1; omega
        rw [← hr] at hcut2 ⊢
        rw [hlist] at hcut2
        exact text_in _ _ L v k r w hsz hl (by omega) (by omega) hr (by omega) hcut2 Hf.out
set_option maxHeartbeats 1000000 in
set_option maxRecDepth 100000 in
/-- Are ints noughts alone, fewer than eight? -/
theorem qrnoughts_any (A : Option Addr) (c : Nat) (l : List Nat) (w : World) (hl : l.length ≤ 1000000) (hr : Reads w A (i64s l)) :
    Calls Tryz.prog 28 #[.slice A l.length c] w fun e w' => e = .returned (.bool (decide (l.length < 8 ∧ ∀ x ∈ l, x = 0))) ∧ w = w' := by
  have Hr := Lib.hid hr
  obtain ⟨n, hn⟩ : ∃ n, n = l.length := ⟨_, rfl⟩
  have Hn := Lib.hid hn
  obtain ⟨r, hres⟩ : ∃ r, r = decide (l.length < 8 ∧ ∀ x ∈ l, x = 0) := ⟨_, rfl⟩
  rw [← hres]
  have Hres := Lib.hid hres
  rw [← hn] at hl ⊢
  clear hr hn hres
  go_enter Tryz.func28, Tryz.ntmps28
  go_wp2
  go_loopw [3] (fun i wr => wr = w ∧ ∃ k : Nat, i = .int .i64 (k : Int) ∧ k ≤ n ∧ Hid (∀ x ∈ l.take k, x = 0)) (fun i _ => n - (intOf i).toNat)
  case atStart => exact ⟨rfl, 0, rfl, Nat.zero_le _, Lib.hid (by simp)⟩
  case round =>
    obtain ⟨rfl, k, rfl, hk, hall⟩ := hrel
    by_cases hkl : k < n
    · have hkl' : k < l.length := by rw [← Hn.out]; exact hkl
      obtain ⟨g, off, rfl, hc⟩ := Hr.out (by intro e; have := congrArg List.length e; rw [i64s_length, List.length_nil] at this; omega)
      have c1 := hc k (by rw [i64s_length]; exact hkl')
      rw [i64s_get? l k hkl'] at c1
      have Htk : Hid (l.take (k + 1) = l.take k ++ [l[k]]) := Lib.hid (by rw [List.take_add_one, List.getElem?_eq_getElem hkl']; rfl)
      have Hin := Lib.hid (List.getElem_mem hkl')
      clear hc
      generalize l[k] = x at *
      by_cases h0 : x = 0
      · subst h0
        have Hall2 : Hid (∀ y ∈ l.take (k + 1), y = 0) := Lib.hid (fun y hy => by
          rw [Htk.out] at hy
          rcases List.mem_append.1 hy with hy | hy
          · exact hall.out y hy
          · exact List.mem_singleton.1 hy)
        clear hall Htk Hin
        go_wp2
        go_roundw
        case rel => exact ⟨trivial, k + 1, by go_num, by omega, Hall2⟩
        case measure => simp [intOf]; omega
      · have d0 : ((x : Int) != 0) = true := by rw [bne_iff_ne]; omega
        have Hx : Hid (r = false) := Lib.hid (by rw [Hres.out]; exact decide_eq_false (fun h => h0 (h.2 x Hin.out)))
        clear hall Htk Hin h0
        go_wp2
        go_ret
        rw [Hx.out]
        exact ⟨rfl, rfl⟩
    · obtain rfl : k = n := by omega
      have d0 : decide (k < 8) = r := by
        have h := hall.out
        rw [Hn.out, List.take_length] at h
        rw [Hres.out, ← Hn.out]
        exact decide_eq_decide.2 ⟨fun h1 => ⟨h1, h⟩, fun h1 => h1.1⟩
      have d1 : decide ((k : Int) < 8) = r := by rw [← d0]; exact decide_eq_decide.2 (by omega)
      have dk : decide ((k : Int) < (k : Int)) = false := decide_eq_false (by omega)
      clear hall
      go_wp2
      go_ret
      exact ⟨rfl, rfl⟩
set_option maxHeartbeats 1000000 in
set_option maxRecDepth 100000 in
/-- The offset of a number, or 0. -/
theorem qroff_any (a b c : Int) (n : Nat) (w : World) (hn : n ≤ 65535) (ha : 1 ≤ a ∧ a ≤ 65533) (hb : 1 ≤ b ∧ b ≤ 65533) (hc : 1 ≤ c ∧ c ≤ 65533) :
    Calls Tryz.prog 26 #[.agg #[.int .i64 a, .int .i64 b, .int .i64 c], .int .i64 (n : Int)] w fun e w' => e = .returned (.int .i64 ((Bm.offI a b c (n : Int)).getD 0)) ∧ Below w.heap.size w w' := by
  obtain ⟨x, hx⟩ : ∃ x, x = Bm.offX a b c (n : Int) := ⟨_, rfl⟩
  have hxb : -9223372036854775808 ≤ x ∧ x ≤ 9223372036854775807 := by rw [hx]; unfold Bm.offX; split; omega; split; omega; split <;> omega
  have Hnum := Lib.hid (fun W => krnum_any a b c x W hxb)
  obtain ⟨z, hz⟩ : ∃ z, z = Bm.numI a b c x := ⟨_, rfl⟩
  rw [← hz] at Hnum
  have hoff : Bm.offI a b c (n : Int) = if z = (n : Int) then some x else none := by
    unfold Bm.offI
    rw [if_neg (by omega), ← hx, ← hz]
  rw [hoff]
  have hplace : (n = 0 ∧ x = a) ∨ (n = 1 ∧ x = b) ∨ (n = 2 ∧ x = c) ∨ (2 < n ∧ x = (n : Int) - 2) := by
    rw [hx]
    unfold Bm.offX
    by_cases h2 : 2 < n
    · rw [if_pos (by omega)]; exact .inr (.inr (.inr ⟨h2, rfl⟩))
    · rw [if_neg (by omega)]
      rcases (by omega : n = 0 ∨ n = 1 ∨ n = 2) with rfl | rfl | rfl
      · exact .inl ⟨rfl, by simp⟩
      · exact .inr (.inl ⟨rfl, by simp⟩)
      · exact .inr (.inr (.inl ⟨rfl, by simp⟩))
  clear hoff hx hz
  have hal := (Below.refl w.heap.size w).alloc (Nat.le_refl _) (.cells #[.int .i64 a, .int .i64 b, .int .i64 c] 59)
  have Hal := Lib.hid hal
  have r0 := Row.new w 59 [.int .i64 a, .int .i64 b, .int .i64 c]
  obtain ⟨c0, c1, c2⟩ := row3 r0
  clear hal r0
  have dn : (2 < n ∧ decide ((n : Int) < 3) = false) ∨ n ≤ 2 := by
    by_cases h : 2 < n
    · exact .inl ⟨h, decide_eq_false (by omega)⟩
    · exact .inr (by omega)
  by_cases he : z = (n : Int)
  · rw [if_pos he, Option.getD_some]
    have d0 : (z != (n : Int)) = false := by rw [he]; simp
    clear he
    rcases hplace with ⟨rfl, rfl⟩ | ⟨rfl, rfl⟩ | ⟨rfl, rfl⟩ | ⟨h2, rfl⟩
    case' inr.inr.inr => obtain ⟨_, d3⟩ : 2 < n ∧ decide ((n : Int) < 3) = false := ⟨h2, decide_eq_false (by omega)⟩
    all_goals
      clear dn
      go_enter Tryz.func26, Tryz.ntmps26
      go_wp2_with fail
      refine (Hnum.out _).mono ?_
      rintro e w2 ⟨rfl, hb2⟩
      have Hb2 := Lib.hid (Hal.out.trans (hb2.mono Hal.out.size))
      clear hb2 Hnum
      go_wp2
      go_ret
      exact ⟨rfl, Hb2.out⟩
  · rw [if_neg he, Option.getD_none]
    have d0 : (z != (n : Int)) = true := by rw [bne_iff_ne]; exact he
    clear he
    rcases hplace with ⟨rfl, rfl⟩ | ⟨rfl, rfl⟩ | ⟨rfl, rfl⟩ | ⟨h2, rfl⟩
    case' inr.inr.inr => obtain ⟨_, d3⟩ : 2 < n ∧ decide ((n : Int) < 3) = false := ⟨h2, decide_eq_false (by omega)⟩
    all_goals
      clear dn
      go_enter Tryz.func26, Tryz.ntmps26
      go_wp2_with fail
      refine (Hnum.out _).mono ?_
      rintro e w2 ⟨rfl, hb2⟩
      have Hb2 := Lib.hid (Hal.out.trans (hb2.mono Hal.out.size))
      clear hb2 Hnum
      go_wp2
      go_ret
      exact ⟨rfl, Hb2.out⟩
end Go.Proofs.YtbdciiiimdbmkaaGreat
