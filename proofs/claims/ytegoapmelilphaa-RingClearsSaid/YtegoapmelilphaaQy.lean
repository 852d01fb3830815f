/-
  RingClears (layer 18): the law's function by its walk: true for any two slices of strings and any int. Condition: each string within the row's own reach.
-/
import Derived.Test.YtegoapmelilphaaQk
import Derived.Test.YtegoapmelilphaaQf
namespace Go.Proofs.Ytegoapmelilphaa
open Go.RowKit

theorem RG.apart {w w' : World} {b b2 m : Nat} {l : List ByteArray} (h : RG w b2 m l) (hg : w.grownBy w' (Option.some b)) (hne : b2 ≠ b) : RG w' b2 m l :=
  h.keep (hg.block b2 h.lt (fun e => by injection e with e; exact hne e))

set_option maxHeartbeats 400000 in
set_option maxRecDepth 100000 in
theorem ringclears_out (A B : Option Addr) (L c M d : Nat) (n : Int) (w : World) (h : 100 < L ∨ 100 < M) (hL : L ≤ 9223372036854775807) (hM : M ≤ 9223372036854775807) :
    Calls Try.prog 4 #[.slice A L c, .slice B M d, .int .i64 n] w fun e w' => e = .returned (.bool true) ∧ Below w.heap.size w w' := by
  have Haw := Lib.hid (ringawake_any w)
  by_cases h1 : 100 < L
  · have hd : decide (100 < (L : Int)) = true := decide_eq_true (by omega)
    go_enter Try.func4, Try.ntmps4
    go_wp2_with fail
    refine Haw.out.mono ?_
    rintro e w1 ⟨rfl, hb1⟩
    have HB1 := Lib.hid hb1
    clear hb1
    go_wp2
    go_ret
    exact ⟨rfl, HB1.out⟩
  · have hd : decide (100 < (L : Int)) = false := decide_eq_false (by omega)
    have hd2 : decide (100 < (M : Int)) = true := decide_eq_true (by omega)
    clear h
    go_enter Try.func4, Try.ntmps4
    go_wp2_with fail
    refine Haw.out.mono ?_
    rintro e w1 ⟨rfl, hb1⟩
    have HB1 := Lib.hid hb1
    clear hb1
    go_wp2
    go_ret
    exact ⟨rfl, HB1.out⟩

set_option maxHeartbeats 2000000 in
set_option maxRecDepth 100000 in
theorem ringclears_in (A B : Option Addr) (c d : Nat) (l z : List ByteArray) (n : Int) (w : World) (hl : l.length ≤ 100) (hz : z.length ≤ 100) (hr : Reads w A (strC l)) (hq : Reads w B (strC z)) (hsz : ∀ s ∈ l, s.size ≤ 140737488351232) (hsq : ∀ s ∈ z, s.size ≤ 140737488351232) :
    Calls Try.prog 4 #[.slice A l.length c, .slice B z.length d, .int .i64 n] w fun e w' => e = .returned (.bool true) ∧ Below w.heap.size w w' := by
  have Haw := Lib.hid (ringawake_any w)
  have hd : decide (100 < (l.length : Int)) = false := decide_eq_false (by omega)
  have hd2 : decide (100 < (z.length : Int)) = false := decide_eq_false (by omega)
  have Hr := Lib.hid hr
  have Hq := Lib.hid hq
  have Hsz := Lib.hid hsz
  have Hsq := Lib.hid hsq
  have Hnew := Lib.hid (fun W => ringnew_any n W)
  have Hm := Lib.hid (Bm.places_le n)
  clear hr hq hsz hsq
  generalize Bm.placesN n = m at *
  go_enter Try.func4, Try.ntmps4
  go_wp2_with fail
  refine Haw.out.mono ?_
  rintro e w1 ⟨rfl, hb1⟩
  have HB1 := Lib.hid hb1
  clear hb1 Haw
  go_wp2_with fail
  refine (Hnew.out w1).mono ?_
  rintro e w2 ⟨b, rfl, hr2, hb, hb2⟩
  have HR2 := Lib.hid hr2
  have Hb := Lib.hid (Nat.le_trans HB1.out.size hb)
  have HB2 := Lib.hid (HB1.out.trans (hb2.mono HB1.out.size))
  clear hr2 hb hb2 HB1
  go_wp2_with fail
  refine (Hnew.out w2).mono ?_
  rintro e w3 ⟨b2, rfl, hr3, hb, hb3⟩
  have HS3 := Lib.hid hr3
  have HR3 := Lib.hid (HR2.out.below hb3)
  have Hne := Lib.hid (show b2 ≠ b from fun e => by have := HR2.out.lt; omega)
  have Hb2 := Lib.hid (Nat.le_trans HB2.out.size hb)
  have HB3 := Lib.hid (HB2.out.trans (hb3.mono HB2.out.size))
  clear hr3 hb hb3 HB2 HR2 Hnew
  go_wp2
  clear hd hd2
  go_loopw [10, 29] (fun _ i wr => ∃ k : Nat, k ≤ l.length ∧ i = .int .i64 (k : Int) ∧ Hid (RG wr b m (Bm.lastL m (l.take k))) ∧ Hid (RG wr b2 m []) ∧ Hid (Below w.heap.size w wr)) (fun _ i _ => l.length - (intOf i).toNat)
  case atStart => exact ⟨0, Nat.zero_le _, rfl, by rw [List.take_zero, Bm.lastL_nil]; exact HR3, HS3, HB3⟩
  case round =>
    obtain ⟨k, hk, rfl, hrg, hsg, hbel⟩ := hrel
    clear HR3 HS3 HB3
    by_cases hkl : k < l.length
    · obtain ⟨g, off, rfl, hcell⟩ := reads_str (reads_on Hr.out hbel.out) (by omega)
      have c0 := hcell k hkl
      have hs := Hsz.out l[k] (List.getElem_mem hkl)
      have Hadd := Lib.hid (ringadd_any b m _ l[k] wr (by omega) hrg.out)
      rw [Bm.lastL_take m l k Hm.out.1 hkl] at Hadd
      clear hcell
      generalize l[k] = s at *
      go_wp2_with fail
      refine Hadd.out.mono ?_
      rintro e w4 ⟨rfl, hr4, hg4⟩
      have HR4 := Lib.hid hr4
      have HS4 := Lib.hid (hsg.out.apart hg4 Hne.out)
      have HB4 := Lib.hid (hbel.out.trans (below_grown hg4 Hb.out hbel.out.size))
      clear hr4 hg4 Hadd hrg hsg hbel c0
      go_wp2
      go_roundw
      case rel => exact ⟨k + 1, by omega, by go_num, HR4, HS4, HB4⟩
      case measure => simp [intOf]; omega
    · obtain rfl : k = l.length := by omega
      have Hcl := Lib.hid (ringclear_any b m _ wr hrg.out)
      clear hrg
      go_wp2_with fail
      refine Hcl.out.mono ?_
      rintro e w4 ⟨rfl, hr4, hg4⟩
      have HR4 := Lib.hid hr4
      have HS4 := Lib.hid (hsg.out.apart hg4 Hne.out)
      have HB4 := Lib.hid (hbel.out.trans (below_grown hg4 Hb.out hbel.out.size))
      clear hr4 hg4 Hcl hsg hbel
      go_wp2_with fail
      refine (ringlen_at b m [] w4 HR4.out).mono ?_
      rintro e w5 ⟨rfl, rfl⟩
      go_wp2_with fail
      refine (ringbytes_any _ m [] w4 HR4.out.some).mono ?_
      rintro e w5 ⟨rfl, hb5⟩
      rw [show Bm.sizeS [] = 0 from rfl]
      have HR5 := Lib.hid (HR4.out.below hb5)
      have HS5 := Lib.hid (HS4.out.below hb5)
      have HB5 := Lib.hid (HB4.out.trans (hb5.mono HB4.out.size))
      clear hb5 HR4 HS4 HB4
      go_wp2_with fail
      refine (ringall_any _ m [] w5 HR5.out.some).mono ?_
      rintro e w6 ⟨g6, rfl, _, _, hb6⟩
      have HR6 := Lib.hid (HR5.out.below hb6)
      have HS6 := Lib.hid (HS5.out.below hb6)
      have HB6 := Lib.hid (HB5.out.trans (hb6.mono HB5.out.size))
      clear hb6 HR5 HS5 HB5
      go_wp2
      go_loopw [12, 55] (fun _ i wr => ∃ k : Nat, k ≤ z.length ∧ i = .int .i64 (k : Int) ∧ Hid (RG wr b m (Bm.lastL m (z.take k))) ∧ Hid (RG wr b2 m (Bm.lastL m (z.take k))) ∧ Hid (Below w.heap.size w wr)) (fun _ i _ => z.length - (intOf i).toNat)
      case atStart => exact ⟨0, Nat.zero_le _, rfl, by rw [List.take_zero, Bm.lastL_nil]; exact HR6, by rw [List.take_zero, Bm.lastL_nil]; exact HS6, HB6⟩
      case round =>
        obtain ⟨k, hk, rfl, hrg, hsg, hbel⟩ := hrel
        clear HR6 HS6 HB6
        by_cases hkl : k < z.length
        · obtain ⟨g, off, rfl, hcell⟩ := reads_str (reads_on Hq.out hbel.out) (by omega)
          have c0 := hcell k hkl
          have hs := Hsq.out z[k] (List.getElem_mem hkl)
          have Hadd := Lib.hid (fun b W h => ringadd_any b m (Bm.lastL m (z.take k)) z[k] W (by omega) h)
          rw [Bm.lastL_take m z k Hm.out.1 hkl] at Hadd
          clear hcell
          generalize z[k] = s at *
          go_wp2_with fail
          refine (Hadd.out b _ hrg.out).mono ?_
          rintro e w7 ⟨rfl, hr7, hg7⟩
          have HR7 := Lib.hid hr7
          have HS7 := Lib.hid (hsg.out.apart hg7 Hne.out)
          have HB7 := Lib.hid (hbel.out.trans (below_grown hg7 Hb.out hbel.out.size))
          clear hr7 hg7 hrg hsg hbel c0
          go_wp2_with fail
          refine (Hadd.out b2 _ HS7.out).mono ?_
          rintro e w8 ⟨rfl, hs8, hg8⟩
          have HS8 := Lib.hid hs8
          have HR8 := Lib.hid (HR7.out.apart hg8 (Ne.symm Hne.out))
          have HB8 := Lib.hid (HB7.out.trans (below_grown hg8 Hb2.out HB7.out.size))
          clear hs8 hg8 Hadd HR7 HS7 HB7
          go_wp2
          go_roundw
          case rel => exact ⟨k + 1, by omega, by go_num, HR8, HS8, HB8⟩
          case measure => simp [intOf]; omega
        · obtain rfl : k = z.length := by omega
          rw [List.take_length] at hrg hsg
          have hX64 := Nat.le_trans hrg.out.small.2.2.1 Hm.out.2.1
          generalize Bm.lastL m z = X at *
          have Hall := Lib.hid (fun b W h => ringall_any (some ⟨b, 0, none⟩) m X W h)
          have Hby := Lib.hid (fun b W h => ringbytes_any (some ⟨b, 0, none⟩) m X W h)
          have Hsame := Lib.hid (fun g g2 W h1 h2 => ringsame_any (some ⟨g, 0, none⟩) (some ⟨g2, 0, none⟩) X.length X.length X W (by omega) h1 h2)
          go_wp2_with fail
          refine (Hall.out b _ hrg.out.some).mono ?_
          rintro e w7 ⟨g7, rfl, _, hrow7, hb7⟩
          have Hrow7 := Lib.hid (row_reads hrow7)
          have HR7 := Lib.hid (hrg.out.below hb7)
          have HS7 := Lib.hid (hsg.out.below hb7)
          have HB7 := Lib.hid (hbel.out.trans (hb7.mono hbel.out.size))
          clear hrow7 hb7 hrg hsg hbel
          go_wp2_with fail
          refine (Hall.out b2 _ HS7.out.some).mono ?_
          rintro e w8 ⟨g8, rfl, _, hrow8, hb8⟩
          have Hrow8 := Lib.hid (row_reads hrow8)
          have Hrow7' := Lib.hid (reads_on Hrow7.out hb8)
          have HR8 := Lib.hid (HR7.out.below hb8)
          have HS8 := Lib.hid (HS7.out.below hb8)
          have HB8 := Lib.hid (HB7.out.trans (hb8.mono HB7.out.size))
          clear hrow8 hb8 HR7 HS7 HB7 Hrow7 Hall
          go_wp2_with fail
          refine (Hsame.out g7 g8 w8 Hrow7'.out Hrow8.out).mono ?_
          rintro e w9 ⟨rfl, hb9⟩
          have HR9 := Lib.hid (HR8.out.below hb9)
          have HS9 := Lib.hid (HS8.out.below hb9)
          have HB9 := Lib.hid (HB8.out.trans (hb9.mono HB8.out.size))
          clear hb9 HR8 HS8 HB8 Hrow8 Hrow7' Hsame
          generalize Bm.sizeS X = q at *
          go_wp2_with fail
          refine (Hby.out b w9 HR9.out.some).mono ?_
          rintro e w10 ⟨rfl, hb10⟩
          have HS10 := Lib.hid (HS9.out.below hb10)
          have HB10 := Lib.hid (HB9.out.trans (hb10.mono HB9.out.size))
          clear hb10 HR9 HS9 HB9
          go_wp2_with fail
          refine (Hby.out b2 w10 HS10.out.some).mono ?_
          rintro e w11 ⟨rfl, hb11⟩
          have HB11 := Lib.hid (HB10.out.trans (hb11.mono HB10.out.size))
          clear hb11
          go_wp2
          go_ret
          exact ⟨rfl, HB11.out⟩
end Go.Proofs.Ytegoapmelilphaa
