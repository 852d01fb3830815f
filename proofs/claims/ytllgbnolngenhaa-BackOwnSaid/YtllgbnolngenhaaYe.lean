/-
  Layer 2 (back): Seal by its walk. Conditions: as each theorem's premises say (up to a hundred million bits).
-/
import Derived.Test.YtllgbnolngenhaaYd
namespace Go.Proofs.Ytllgbnolngenhaa
open Go.RowKit

theorem own_of_row {w : World} {base g : Nat} {l : List Nat} (h : Row w g 5 (u8s l)) (hb : base ≤ g) (hm : l.length ≤ 1000000000) : w.ownsRow base 5 1 (.slice (some ⟨g, 0, none⟩) l.length l.length) l.length (u8s l) :=
  ⟨by rw [u8s_length, Nat.mul_one], .inr ⟨g, l.length, (u8s l).toArray, rfl, hb, h, Nat.le_refl _, by unfold maxLen; omega, by simp [u8s_length], by rw [List.take_of_length_le (by simp [u8s_length])]⟩⟩

set_option maxHeartbeats 1000000 in
theorem seal_whole_any (b off N n : Nat) (w : World) (hn : n ≤ 100000000) (hN : N < 2 ^ n) (h8 : n % 8 = 0) (h : WS w b off N n) :
    Calls Try.prog 9 #[.pointer (some ⟨b, off, none⟩)] w fun e w' => ∃ g cap, e = .returned (.slice (some ⟨g, 0, none⟩) (n / 8 + 1) cap) ∧
      w'.ownsRow w.heap.size 5 1 (.slice (some ⟨g, 0, none⟩) (n / 8 + 1) cap) (n / 8 + 1) (u8s (Bm.bytesOf (N + 2 ^ n) (n / 8 + 1))) ∧ Below w.heap.size w w' := by
  obtain ⟨i0, hi, hz0, hz1, hz2⟩ := info_parts info_u8
  have hby := bytes_any b off N n w (by omega) h
  obtain ⟨q, hq⟩ : ∃ q, q = n / 8 := ⟨_, rfl⟩
  have hq2 : (n + 7) / 8 = q := by omega
  have hqb : q ≤ 100000000 := by omega
  have hsw := Bm.seal_whole N n hN h8
  rw [← hq, hq2] at hsw
  rw [hq2] at hby
  rw [← hq]
  have hws : ∀ w', Below w.heap.size w w' → WS w' b off N n := fun w' hb => h.keep (grown_below hb none) (by simp) (by simp)
  have h8b : ((n : Int) % 8 == 0) = true := by simp; omega
  have Hby := Lib.hid hby
  have Hws := Lib.hid hws
  have Hsw := Lib.hid hsw
  clear hby hws hsw hN h hq hq2 h8
  go_enter Try.func9, Try.ntmps9
  go_wp2_with fail
  refine Hby.out.mono ?_
  rintro e w1 ⟨g, rfl, hg, hrow, hb1⟩
  have hlen := len_any b off (n : Int) w1 (Hws.out w1 hb1).len_cell
  have hown := own_of_row hrow hg (by rw [Bm.bytesOf_length]; omega)
  rw [Bm.bytesOf_length] at hown
  have Hlen := Lib.hid hlen
  have Hown := Lib.hid hown
  have Hb1 := Lib.hid hb1
  clear hlen hown hb1 hrow Hby Hws
  go_wp2_with fail
  refine Hlen.out.mono ?_
  rintro e w2 ⟨rfl, rfl⟩
  go_wp2_with (at_builtin; refine wpList_append_own _ rfl _ _ 34 rfl w.heap.size 5 i0 (.int .u8 0) 1 1 Try.underlying34 hi hz0 hz1 hz2 rfl (by decide) _ _ _ rfl (Hown.out.alloc _) ⟨w1.heap.size, 0, none⟩ 1 1 [.int .u8 1] rfl rfl ?c1 ?c2 ?c3 ?c4 ?c5 ?_)
  case c1 =>
    intro j u hj
    match j, hj with
    | 0, hj => simp at hj; subst hj; simp [Addr.add]
  case c2 => intro u hu; simp at hu; subst hu; rfl
  case c3 => unfold maxLen; omega
  case c4 => omega
  case c5 => have := Hb1.out.size; simp; omega
  intro u' w3 hown' hgrow _
  have e : u8s (Bm.bytesOf N q) ++ [Value.int .u8 1] = u8s (Bm.bytesOf (N + 2 ^ n) (q + 1)) := by
    rw [← Hsw.out]; simp [u8s]
  rw [e] at hown'
  have hb' : Below w.heap.size w w3 := (Hb1.out.alloc Hb1.out.size _).grown hgrow (by have := Hb1.out.size; simp; omega) (fun k e => by
    have : k = g := by simpa [Value.ownBlock] using e.symm
    omega)
  obtain ⟨g3, cap3, hu, _, _⟩ := own_form hown' (by omega)
  rw [hu] at hown' ⊢
  have Hown' := Lib.hid hown'
  have Hb' := Lib.hid hb'
  clear hown' hb' hgrow hu e
  go_wp2
  go_ret
  exact ⟨_, _, rfl, Hown'.out, Hb'.out⟩

theorem or_bit (x r : Nat) (hx : x < 2 ^ r) (hr : r < 8) : bits .or .u8 (x : Int) (2 ^ r % 256) = ((x + 2 ^ r : Nat) : Int) := by
  have h2 : 2 ^ r ≤ 128 := Nat.pow_le_pow_right (n := 2) (j := 7) (by omega) (by omega)
  have e2 : (2 : Int) ^ r = ((2 ^ r : Nat) : Int) := by simp
  have h4 := Bm.or_sum r x 1 hx
  rw [Nat.one_mul] at h4
  rw [e2]
  generalize 2 ^ r = y at hx h2 h4 ⊢
  rw [show ((y : Nat) : Int) % 256 = ((y : Nat) : Int) by omega, u8_or_nat _ _ (by omega) (by omega), h4]

set_option maxHeartbeats 1000000 in
theorem seal_part_any (b off N n : Nat) (w : World) (hn : n ≤ 100000000) (hN : N < 2 ^ n) (h8 : n % 8 ≠ 0) (h : WS w b off N n) :
    Calls Try.prog 9 #[.pointer (some ⟨b, off, none⟩)] w fun e w' => ∃ g cap, e = .returned (.slice (some ⟨g, 0, none⟩) (n / 8 + 1) cap) ∧
      w'.ownsRow w.heap.size 5 1 (.slice (some ⟨g, 0, none⟩) (n / 8 + 1) cap) (n / 8 + 1) (u8s (Bm.bytesOf (N + 2 ^ n) (n / 8 + 1))) ∧ Below w.heap.size w w' := by
  have hby := bytes_any b off N n w (by omega) h
  rw [show (n + 7) / 8 = n / 8 + 1 by omega] at hby
  have hsw := Bm.seal_part N n hN
  have hws : ∀ w', Below w.heap.size w w' → WS w' b off N n := fun w' hb => h.keep (grown_below hb none) (by simp) (by simp)
  have h8b : ((n : Int) % 8 == 0) = false := by simp; omega
  have hxl : N / 256 ^ (n / 8) % 256 < 2 ^ (n % 8) := by
    refine Nat.lt_of_le_of_lt (Nat.mod_le _ _) ?_
    rw [Bm.p256, Nat.div_lt_iff_lt_mul (Nat.two_pow_pos _), ← Nat.pow_add, Nat.mod_add_div]
    exact hN
  have hget : (u8s (Bm.bytesOf N (n / 8 + 1)))[n / 8]? = some (.int .u8 ((N / 256 ^ (n / 8) % 256 : Nat) : Int)) := by
    rw [u8s_get? _ _ (by rw [Bm.bytesOf_length]; omega), Bm.bytesOf_get]
  have hor := or_bit _ _ hxl (by omega)
  generalize N / 256 ^ (n / 8) % 256 = x at hsw hget hor hxl
  have Hby := Lib.hid hby
  have Hws := Lib.hid hws
  have Hsw := Lib.hid hsw
  have Hget := Lib.hid hget
  have Hor := Lib.hid hor
  clear hby hws hsw hN h h8 hget hor hxl
  go_enter Try.func9, Try.ntmps9
  go_wp2_with fail
  refine Hby.out.mono ?_
  rintro e w1 ⟨g, rfl, hg, hrow, hb1⟩
  have hlen := len_any b off (n : Int) w1 (Hws.out w1 hb1).len_cell
  have hcell := (hrow.cell (n / 8)).trans Hget.out
  have hfree := hrow.free (n / 8)
  have hset := hrow.set_ (n / 8) (.int .u8 ((x + 2 ^ (n % 8) : Nat) : Int))
  rw [u8s_set, Hsw.out] at hset
  have hown := own_of_row hset hg (by rw [Bm.bytesOf_length]; omega)
  rw [Bm.bytesOf_length] at hown
  have Hlen := Lib.hid hlen
  have Hown := Lib.hid hown
  have Hb1 := Lib.hid hb1
  clear hlen hown hb1 hrow Hby Hws hset
  go_wp2_with fail
  refine Hlen.out.mono ?_
  rintro e w2 ⟨rfl, rfl⟩
  go_wp2
  go_region
  all_goals go_wp2
  go_ret
  rw [Hor.out]
  exact ⟨_, _, rfl, Hown.out, (Hb1.out.setCell hg _).drew⟩

theorem seal_any (b off N n : Nat) (w : World) (hn : n ≤ 100000000) (hN : N < 2 ^ n) (h : WS w b off N n) :
    Calls Try.prog 9 #[.pointer (some ⟨b, off, none⟩)] w fun e w' => ∃ g cap, e = .returned (.slice (some ⟨g, 0, none⟩) (n / 8 + 1) cap) ∧
      w'.ownsRow w.heap.size 5 1 (.slice (some ⟨g, 0, none⟩) (n / 8 + 1) cap) (n / 8 + 1) (u8s (Bm.bytesOf (N + 2 ^ n) (n / 8 + 1))) ∧ Below w.heap.size w w' := by
  by_cases h8 : n % 8 = 0
  · exact seal_whole_any b off N n w hn hN h8 h
  · exact seal_part_any b off N n w hn hN h8 h
end Go.Proofs.Ytllgbnolngenhaa
