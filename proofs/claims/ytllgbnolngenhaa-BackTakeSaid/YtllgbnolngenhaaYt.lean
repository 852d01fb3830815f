/-
  BackTake (layer 2), the statement's own walk: it returns true and changes nothing that was there. No condition beyond that the arguments are a slice of bytes and a slice of ints.
-/
import Derived.Test.YtllgbnolngenhaaYk
import Derived.Test.YtllgbnolngenhaaAr
namespace Go.Proofs.Ytllgbnolngenhaa
open Go.RowKit

set_option maxHeartbeats 400000 in
theorem ktake_long (A B : Option Addr) (n c m d : Nat) (w : World) (h : 60 < n ∨ 100 < m) (hn : n ≤ 9223372036854775807) (hm : m ≤ 9223372036854775807) :
    Calls Try.prog 4 #[.slice A n c, .slice B m d] w fun e w' => e = .returned (.bool true) ∧ Below w.heap.size w w' := by
  by_cases h1 : 60 < n
  · go_enter Try.func4, Try.ntmps4
    go_wp2_with fail
    refine (kawake_any _).mono ?_
    rintro e w1 ⟨rfl, hb⟩
    go_wp2
    go_ret
    exact ⟨rfl, hb⟩
  · have h2 : 100 < m := by omega
    go_enter Try.func4, Try.ntmps4
    go_wp2_with fail
    refine (kawake_any _).mono ?_
    rintro e w1 ⟨rfl, hb⟩
    go_wp2
    go_ret
    exact ⟨rfl, hb⟩

set_option maxHeartbeats 2000000 in
/-- Bytes that aren't sealed. -/
theorem ktake_none (A B : Option Addr) (n c m d : Nat) (l : List Int) (w : World) (h1 : n ≤ 60) (h2 : m ≤ 100) (hi : ArgI w B m d l)
    (hro : ∀ w1, Below w.heap.size w w1 → Calls Try.prog 16 #[.slice A n c] w1 fun e w' => e = .returned (.tuple #[.slice none 0 0, .bool false]) ∧ w1 = w')
    (hop : ∀ w1, Below w.heap.size w w1 → Calls Try.prog 10 #[.slice A n c] w1 fun e w' => e = .returned (.tuple #[.pointer none, .bool false]) ∧ w1 = w') :
    Calls Try.prog 4 #[.slice A n c, .slice B m d] w fun e w' => e = .returned (.bool true) ∧ Below w.heap.size w w' := by
  obtain ⟨hl2, hwf, hcells, hd, hdm⟩ := hi
  have Hl2 := Lib.hid hl2
  have Hwf := Lib.hid hwf
  have Hcells := Lib.hid hcells
  have Hro := Lib.hid hro
  have Hop := Lib.hid hop
  clear hl2 hwf hcells hd hdm hro hop
  go_enter Try.func4, Try.ntmps4
  go_wp2_with fail
  refine (kawake_any _).mono ?_
  rintro e w1 ⟨rfl, hb1⟩
  have Hb1 := Lib.hid hb1
  clear hb1
  go_wp2_with fail
  refine (Hro.out _ Hb1.out).mono ?_
  rintro e w2 ⟨rfl, rfl⟩
  go_wp2_with fail
  refine (Hop.out _ Hb1.out).mono ?_
  rintro e w2 ⟨rfl, rfl⟩
  go_wp2
  go_loop [5, 47] (fun v i => ∃ k : Nat, k ≤ m ∧ i = .int .i64 (k : Int) ∧ v = .slice none 0 0) (fun _ i => m - (intOf i).toNat)
  case atStart => exact ⟨0, Nat.zero_le _, rfl, rfl⟩
  case round =>
    obtain ⟨k, hk, rfl, rfl⟩ := hrel
    by_cases hlt : k < m
    · obtain ⟨gl, ol, rfl, hgl, hcl⟩ := Hcells.out (by omega)
      have hcz := (Hb1.out.cell (p := ⟨gl, ol + k, none⟩) hgl).trans (hcl k (by rw [Hl2.out]; exact hlt))
      generalize l[k]'(by rw [Hl2.out]; exact hlt) = z at hcz
      clear hcl
      go_wp2_with fail
      refine (btk_nil _ z).mono ?_
      rintro e w4 ⟨rfl, rfl⟩
      go_wp2
      go_round
      case rel => exact ⟨k + 1, by omega, by go_num, rfl⟩
      case measure => simp [intOf]; omega
    · obtain rfl : k = m := by omega
      go_wp2_with fail
      refine (bleft_nil _).mono ?_
      rintro e w4 ⟨rfl, rfl⟩
      go_wp2
      go_ret
      exact ⟨rfl, Hb1.out⟩

set_option maxHeartbeats 4000000 in
/-- Sealed bytes. -/
theorem ktake_some (g off : Nat) (B : Option Addr) (q c m d top : Nat) (bs : List Nat) (l : List Int) (w : World) (h1 : q + 1 ≤ 60) (h2 : m ≤ 100) (hbs : ∀ x ∈ bs, x < 256) (hl : bs.length = q + 1) (hi : ArgI w B m d l) (htl : top < 8 * (q + 1))
    (hro : ∀ w1, Below w.heap.size w w1 → Calls Try.prog 16 #[.slice (some ⟨g, off, none⟩) (q + 1) c] w1 fun e w' => ∃ A c', e = .returned (.tuple #[.slice A top c', .bool true]) ∧ top ≤ c' ∧ c' ≤ maxLen ∧
      Rest w' w1.heap.size A (Bm.valB bs) top ∧ Below w1.heap.size w1 w')
    (hop : ∀ w1, Below w.heap.size w w1 → Calls Try.prog 10 #[.slice (some ⟨g, off, none⟩) (q + 1) c] w1 fun e w' => ∃ b, e = .returned (.tuple #[.pointer (some ⟨b, 0, none⟩), .bool true]) ∧
      TS w' w1.heap.size b bs top ∧ Below w1.heap.size w1 w') :
    Calls Try.prog 4 #[.slice (some ⟨g, off, none⟩) (q + 1) c, .slice B m d] w fun e w' => e = .returned (.bool true) ∧ Below w.heap.size w w' := by
  obtain ⟨hl2, hwf, hcells, hd, hdm⟩ := hi
  have Hl := Lib.hid hl
  have Hbs := Lib.hid hbs
  have Hl2 := Lib.hid hl2
  have Hwf := Lib.hid hwf
  have Hcells := Lib.hid hcells
  have Hro := Lib.hid hro
  have Hop := Lib.hid hop
  clear hl hbs hl2 hwf hcells hd hdm hro hop
  go_enter Try.func4, Try.ntmps4
  go_wp2_with fail
  refine (kawake_any _).mono ?_
  rintro e w1 ⟨rfl, hb1⟩
  have Hb1 := Lib.hid hb1
  clear hb1
  go_wp2_with fail
  refine (Hro.out _ Hb1.out).mono ?_
  rintro e w2 ⟨A, c', rfl, hc', hcm, hrest, hb2⟩
  unfold maxLen at hcm
  have Hb2 := Lib.hid (Hb1.out.trans (hb2.mono Hb1.out.size))
  have Hrest := Lib.hid hrest
  clear hrest hb2
  go_wp2_with fail
  refine (Hop.out _ Hb2.out).mono ?_
  rintro e w3 ⟨b, rfl, hts, hb3⟩
  have Hts := Lib.hid hts
  have Hb3 := Lib.hid hb3
  have hbb : w2.heap.size ≤ b := by
    obtain ⟨_, _, _, _, _, h, _⟩ := hts
    exact h
  clear hts hb3 Hro Hop
  go_wp2
  go_loopw [5, 47] (fun v i wr => ∃ (k L : Nat), k ≤ m ∧ i = .int .i64 (k : Int) ∧ v = .slice A L c' ∧ L ≤ top ∧ Hid (TS wr w2.heap.size b bs L) ∧ Hid (Below w2.heap.size w2 wr)) (fun _ i _ => m - (intOf i).toNat)
  case atStart => exact ⟨0, top, Nat.zero_le _, rfl, rfl, Nat.le_refl _, Hts, Hb3⟩
  case round =>
    obtain ⟨k, L, hk, rfl, rfl, hLt, hts, hbel⟩ := hrel
    clear Hts Hb3
    have hL480 : L ≤ 480 := by omega
    have hLc : L ≤ c' := by omega
    by_cases hlt : k < m
    · obtain ⟨gl, ol, rfl, hgl, hcl⟩ := Hcells.out (by omega)
      have hgl2 : gl < w2.heap.size := Nat.lt_of_lt_of_le hgl Hb2.out.size
      have hcz := ((hbel.out.cell (p := ⟨gl, ol + k, none⟩) hgl2).trans (Hb2.out.cell (p := ⟨gl, ol + k, none⟩) hgl)).trans (hcl k (by rw [Hl2.out]; exact hlt))
      have hwz := Hwf.out (l[k]'(by rw [Hl2.out]; exact hlt)) (List.getElem_mem _)
      generalize l[k]'(by rw [Hl2.out]; exact hlt) = z at hcz hwz
      obtain ⟨hz1, hz2⟩ := hwz
      clear hcl
      by_cases hbad : z < 0 ∨ 32 < z
      · have hbad' : z < 0 ∨ (0 ≤ z ∧ 32 < z) := by omega
        clear hbad
        rcases hbad' with hb | ⟨hb0, hb⟩
        all_goals
          have Hbad : Hid (z < 0 ∨ 32 < z) := by unfold Hid; omega
          go_wp2_with fail
          refine (btk_bad _ z _ Hbad.out).mono ?_
          rintro e w4 ⟨rfl, rfl⟩
          go_wp2
          go_roundw
          case rel => exact ⟨k + 1, L, by omega, by go_num, rfl, hLt, hts, hbel⟩
          case measure => simp [intOf]; omega
      · obtain ⟨y, rfl⟩ := Int.eq_ofNat_of_zero_le (show 0 ≤ z by omega)
        have hy : y ≤ 32 := by omega
        clear hbad hz1 hz2
        by_cases hfew : L < y
        · have hfewZ : (L : Int) < (y : Int) := by omega
          have Hcall := Lib.hid (btk_few w2.heap.size b L bs y wr hy hfew hts.out)
          go_wp2_with fail
          refine Hcall.out.mono ?_
          rintro e w4 ⟨rfl, rfl⟩
          go_wp2
          go_roundw
          case rel => exact ⟨k + 1, L, by omega, by go_num, rfl, hLt, hts, hbel⟩
          case measure => simp [intOf]; omega
        · have hyL : y ≤ L := by omega
          clear hfew
          have hcall := btk_ok w2.heap.size b L bs y wr (by rw [Hl.out]; omega) Hbs.out hy hyL (by rw [Hl.out]; omega) hts.out
          obtain ⟨t, ht⟩ : ∃ t, t = L - y := ⟨_, rfl⟩
          have ht2 : (L : Int) - (y : Int) = (t : Int) := by omega
          have hLy : L - t = y := by omega
          have htL : t ≤ L := by omega
          have hrest : Rest w2 w1.heap.size A (Bm.valB bs) L := by
            rcases Hrest.out with h | ⟨g', off', e, h3, h4, h5⟩
            · exact .inl (by omega)
            · exact .inr ⟨g', off', e, h3, h4, fun j hj => h5 j (by omega)⟩
          have hto := fun W => slice_to A L c' t W htL hLc
          have hon := fun W => slice_on A L c' t W htL hLc
          rw [← ht2] at hto hon
          rw [hLy] at hon
          rw [← ht] at hcall
          generalize hX : Bm.valB bs / 2 ^ t = X at hcall
          have hrest5 := hrest.on (c := c') htL hLc
          rw [hX, hLy] at hrest5
          generalize hY : X % 2 ^ y = Y at hcall
          have Hcall := Lib.hid hcall
          have Hrest5 := Lib.hid hrest5
          have HY := Lib.hid hY
          have Hto := Lib.hid hto
          have Ht2 := Lib.hid ht2
          clear hcall hrest hrest5 hX hY ht ht2 hLy hto
          go_wp2_with fail
          refine Hcall.out.mono ?_
          rintro e w4 ⟨rfl, hts4, hg4⟩
          have hbel4 : Below w2.heap.size w2 w4 := hbel.out.trans (below_grown hg4 hbb hbel.out.size)
          have hrest6 : Rest w4 w1.heap.size (onA A c' t) X y := by
            rcases Hrest5.out with h | ⟨g', off', e, h3, h4, h5⟩
            · exact .inl h
            · exact .inr ⟨g', off', e, h3, Nat.lt_of_lt_of_le h4 hbel4.size, fun j hj => (hbel4.cell (p := ⟨g', off' + j, none⟩) h4).trans (h5 j hj)⟩
          have hnum := rnum_rest (c := c' - t) hrest6 (Nat.le_refl _) hy
          rw [HY.out] at hnum
          have Hnum := Lib.hid hnum
          have Hts4 := Lib.hid hts4
          have Hbel4 := Lib.hid hbel4
          clear hts hbel Hcall hts4 hg4 hbel4 hrest6 hnum Hrest5
          go_wp2_with fail
          refine Hnum.out.mono ?_
          rintro e w5 ⟨rfl, rfl⟩
          have hto := Hto.out
          clear hon Hto Hnum
          go_wp2
          go_roundw
          case rel => exact ⟨k + 1, t, by omega, by go_num, rfl, by omega, Hts4, Hbel4⟩
          case measure => simp [intOf]; omega
    · obtain rfl : k = m := by omega
      have Hleft := Lib.hid (bleft_any _ b L bs wr hts.out)
      go_wp2_with fail
      refine Hleft.out.mono ?_
      rintro e w4 ⟨rfl, rfl⟩
      go_wp2
      go_ret
      exact ⟨by simp, Hb2.out.trans (hbel.out.mono Hb2.out.size)⟩
end Go.Proofs.Ytllgbnolngenhaa
