/-
  RingOwn (layer 18): the law's function by its walk: true for any slice of strings and any string. Condition: each string of the slice within the row's own reach.
-/
import Derived.Test.YtegoapmelilphaaQk
import Derived.Test.YtegoapmelilphaaQf
namespace Go.Proofs.Ytegoapmelilphaa
open Go.RowKit

set_option maxHeartbeats 400000 in
set_option maxRecDepth 100000 in
theorem ringown_out (A : Option Addr) (L c : Nat) (s : ByteArray) (w : World) (hl : 20 < L) (hL : L ≤ 9223372036854775807) :
    Calls Try.prog 5 #[.slice A L c, .string s] w fun e w' => e = .returned (.bool true) ∧ Below w.heap.size w w' := by
  have Haw := Lib.hid (ringawake_any w)
  have hd : decide (20 < (L : Int)) = true := decide_eq_true (by omega)
  go_enter Try.func5, Try.ntmps5
  go_wp2_with fail
  refine Haw.out.mono ?_
  rintro e w1 ⟨rfl, hb1⟩
  have HB1 := Lib.hid hb1
  clear hb1
  go_wp2
  go_ret
  exact ⟨rfl, HB1.out⟩

set_option maxHeartbeats 2000000 in
set_option maxRecDepth 100000 in
theorem ringown_in (A : Option Addr) (c : Nat) (l : List ByteArray) (s : ByteArray) (w : World) (hl : l.length ≤ 20) (hr : Reads w A (strC l)) (hsz : ∀ s ∈ l, s.size ≤ 140737488351232) :
    Calls Try.prog 5 #[.slice A l.length c, .string s] w fun e w' => e = .returned (.bool true) ∧ Below w.heap.size w w' := by
  have Haw := Lib.hid (ringawake_any w)
  have hd : decide (20 < (l.length : Int)) = false := decide_eq_false (by omega)
  have Hr := Lib.hid hr
  have Hsz := Lib.hid hsz
  have Hnew := Lib.hid (fun W => ringnew_any 64 W)
  rw [show Bm.placesN 64 = 64 from rfl] at Hnew
  clear hr hsz
  go_enter Try.func5, Try.ntmps5
  go_wp2_with fail
  refine Haw.out.mono ?_
  rintro e w1 ⟨rfl, hb1⟩
  have HB1 := Lib.hid hb1
  clear hb1 Haw
  go_wp2_with fail
  refine (Hnew.out w1).mono ?_
  rintro e w2 ⟨b, rfl, hr2, hb, hb2⟩
  have HR2 := Lib.hid hr2
  have Hb := Lib.hid (Nat.le_trans HB1.out.size hb)
  have HB2 := Lib.hid (HB1.out.trans (hb2.mono HB1.out.size))
  clear hr2 hb hb2 HB1 Hnew hd
  go_wp2
  go_loopw [7, 19] (fun _ i wr => ∃ k : Nat, k ≤ l.length ∧ i = .int .i64 (k : Int) ∧ Hid (RG wr b 64 (l.take k)) ∧ Hid (Below w.heap.size w wr)) (fun _ i _ => l.length - (intOf i).toNat)
  case atStart => exact ⟨0, Nat.zero_le _, rfl, by rw [List.take_zero]; exact HR2, HB2⟩
  case round =>
    obtain ⟨k, hk, rfl, hrg, hbel⟩ := hrel
    clear HR2 HB2
    by_cases hkl : k < l.length
    · obtain ⟨g, off, rfl, hcell⟩ := reads_str (reads_on Hr.out hbel.out) (by omega)
      have c0 := hcell k hkl
      have hs := Hsz.out l[k] (List.getElem_mem hkl)
      have Hadd := Lib.hid (ringadd_any b 64 _ l[k] wr (by omega) hrg.out)
      rw [← List.take_succ_eq_append_getElem hkl, Bm.lastL_short 64 _ (by rw [List.length_take]; omega)] at Hadd
      clear hcell
      generalize l[k] = s at *
      go_wp2_with fail
      refine Hadd.out.mono ?_
      rintro e w4 ⟨rfl, hr4, hg4⟩
      have HR4 := Lib.hid hr4
      have HB4 := Lib.hid (hbel.out.trans (below_grown hg4 Hb.out hbel.out.size))
      clear hr4 hg4 Hadd hrg hbel c0
      go_wp2
      go_roundw
      case rel => exact ⟨k + 1, by omega, by go_num, HR4, HB4⟩
      case measure => simp [intOf]; omega
    · obtain rfl : k = l.length := by omega
      rw [List.take_length] at hrg
      have Hall := Lib.hid (fun W h => ringall_any (some ⟨b, 0, none⟩) 64 l W h)
      go_wp2_with fail
      refine (Hall.out _ hrg.out.some).mono ?_
      rintro e w3 ⟨g3, rfl, hg3, hrow3, hb3⟩
      have HR3 := Lib.hid (hrg.out.below hb3)
      have HB3 := Lib.hid (hbel.out.trans (hb3.mono hbel.out.size))
      have Hrow3 := Lib.hid hrow3
      have Hne := Lib.hid (show b ≠ g3 from fun e => by have := hrg.out.lt; omega)
      have Hwg := Lib.hid (Nat.le_trans hbel.out.size hg3)
      clear hb3 hrow3 hbel hrg hg3
      go_wp2
      go_loopw [9, 31] (fun _ i wr => ∃ (k : Nat) (z : List ByteArray), k ≤ l.length ∧ i = .int .i64 (k : Int) ∧ Hid (z.length = l.length) ∧ Hid (Row wr g3 9 (strC z)) ∧ Hid (RG wr b 64 l) ∧ Hid (Below w.heap.size w wr)) (fun _ i _ => l.length - (intOf i).toNat)
      case atStart => exact ⟨0, l, Nat.zero_le _, rfl, Lib.hid rfl, Hrow3, HR3, HB3⟩
      case round =>
        obtain ⟨k, z, hk, rfl, hz, hrow, hrg, hbel⟩ := hrel
        clear HR3 HB3 Hrow3
        by_cases hkl : k < l.length
        · have c0 := (hrow.out.cell k).trans (strC_get? z k (by rw [hz.out]; exact hkl))
          have f0 := hrow.out.free k
          have hkI : (k : Int) < (l.length : Int) := by omega
          generalize z[k]'_ = s0 at c0
          go_wp2
          go_roundw
          case rel =>
            refine ⟨k + 1, z.set k s, by omega, by go_num, Lib.hid (by rw [List.length_set]; exact hz.out), Lib.hid ?_, Lib.hid (hrg.out.keep (Below.heap_setCell _ _ _ b (by exact Hne.out))), Lib.hid (hbel.out.setCell (by exact Hwg.out) _)⟩
            rw [← strC_set]
            exact hrow.out.set_ k _
          case measure => simp [intOf]; omega
        · obtain rfl : k = l.length := by omega
          clear hz hrow
          go_wp2_with fail
          refine (ringadd_nil s _).mono ?_
          rintro e w5 ⟨rfl, rfl⟩
          go_wp2_with fail
          refine (ringclear_nil _).mono ?_
          rintro e w5 ⟨rfl, rfl⟩
          go_wp2_with fail
          refine (Hall.out _ hrg.out.some).mono ?_
          rintro e w5 ⟨g5, rfl, _, hrow5, hb5⟩
          have HB5 := Lib.hid (hbel.out.trans (hb5.mono hbel.out.size))
          have Hs5 := Lib.hid (ringsame_any (some ⟨g5, 0, none⟩) A l.length c l w5 (by omega) (row_reads hrow5) (reads_on Hr.out HB5.out))
          clear hb5 hrow5 hbel hrg
          go_wp2_with fail
          refine Hs5.out.mono ?_
          rintro e w6 ⟨rfl, hb6⟩
          have HB6 := Lib.hid (HB5.out.trans (hb6.mono HB5.out.size))
          clear hb6 HB5 Hs5
          go_wp2_with fail
          refine (ringlen_nil w6).mono ?_
          rintro e w7 ⟨rfl, rfl⟩
          go_wp2_with fail
          refine (ringall_any none 1 [] w6 (RP.nobody w6)).mono ?_
          rintro e w7 ⟨g7, rfl, _, _, hb7⟩
          have HB7 := Lib.hid (HB6.out.trans (hb7.mono HB6.out.size))
          clear hb7 HB6
          go_wp2_with fail
          refine (ringbytes_any none 1 [] w7 (RP.nobody w7)).mono ?_
          rintro e w8 ⟨rfl, hb8⟩
          rw [show Bm.sizeS [] = 0 from rfl]
          have HB8 := Lib.hid (HB7.out.trans (hb8.mono HB7.out.size))
          clear hb8 HB7
          go_wp2
          go_ret
          exact ⟨rfl, HB8.out⟩
end Go.Proofs.Ytegoapmelilphaa
