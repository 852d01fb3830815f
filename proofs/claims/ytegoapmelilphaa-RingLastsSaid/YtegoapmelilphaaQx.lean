/-
  RingLasts (layer 18): the law's function by its walk: true for any slice of strings and any int. Condition: each string within the row's own reach.
-/
import Derived.Test.YtegoapmelilphaaQk
import Derived.Test.YtegoapmelilphaaQf
namespace Go.Proofs.Ytegoapmelilphaa
open Go.RowKit

set_option maxHeartbeats 400000 in
set_option maxRecDepth 100000 in
theorem ringlasts_out (A : Option Addr) (L c : Nat) (n : Int) (w : World) (hl : 200 < L) (hL : L ≤ 9223372036854775807) :
    Calls Try.prog 3 #[.slice A L c, .int .i64 n] w fun e w' => e = .returned (.bool true) ∧ Below w.heap.size w w' := by
  have Haw := Lib.hid (ringawake_any w)
  have hd : decide (200 < (L : Int)) = true := decide_eq_true (by omega)
  go_enter Try.func3, Try.ntmps3
  go_wp2_with fail
  refine Haw.out.mono ?_
  rintro e w1 ⟨rfl, hb1⟩
  have HB1 := Lib.hid hb1
  clear hb1
  go_wp2
  go_ret
  exact ⟨rfl, HB1.out⟩

theorem scut_toI (A : Option Addr) (L c q : Nat) (W : World) (z : Int) (hz : z = (q : Int)) (h : q ≤ L) (hc : L ≤ c) : (Instr.slice 22 (.slice A L c) none (some (.int .i64 z)) none).run Try.prog W = .ok (.slice A q c) W := by
  rw [hz]
  exact scut_to A L c q W h hc
theorem ringlast_take (A : Option Addr) (c : Nat) (l : List ByteArray) (n : Int) (k : Nat) (w : World) (hk : k ≤ l.length) (hr : Reads w A (strC l)) (hc : l.length ≤ c) (hc2 : c ≤ 9223372036854775807) :
    Calls Try.prog 9 #[.slice A k c, .int .i64 n] w (LastP w (Bm.lastL (Bm.placesN n) (l.take k))) := by
  have e : (l.take k).length = k := by rw [List.length_take]; omega
  have h := ringlast_any A c (l.take k) n w (sreads_take hr) (by omega) hc2
  rwa [e] at h

set_option maxHeartbeats 2000000 in
set_option maxRecDepth 100000 in
theorem ringlasts_in (A : Option Addr) (c : Nat) (l : List ByteArray) (n : Int) (w : World) (hl : l.length ≤ 200) (hr : Reads w A (strC l)) (hc : l.length ≤ c) (hc2 : c ≤ 9223372036854775807) (hsz : ∀ s ∈ l, s.size ≤ 140737488351232) :
    Calls Try.prog 3 #[.slice A l.length c, .int .i64 n] w fun e w' => e = .returned (.bool true) ∧ Below w.heap.size w w' := by
  have Haw := Lib.hid (ringawake_any w)
  have hd : decide (200 < (l.length : Int)) = false := decide_eq_false (by omega)
  have Hr := Lib.hid hr
  have Hsz := Lib.hid hsz
  have Hnew := Lib.hid (fun W => ringnew_any n W)
  have Hm := Lib.hid (Bm.places_le n)
  have Hlast := Lib.hid (fun W k hk hr => ringlast_take A c l n k W hk hr hc hc2)
  have Hc := Lib.hid hc
  clear hr hsz
  generalize Bm.placesN n = m at *
  go_enter Try.func3, Try.ntmps3
  go_wp2_with fail
  refine Haw.out.mono ?_
  rintro e w1 ⟨rfl, hb1⟩
  have HB1 := Lib.hid hb1
  clear hb1 Haw
  go_wp2_with fail
  refine (Hnew.out w1).mono ?_
  rintro e w2 ⟨b, rfl, hr2, hb, hb2⟩
  have HR2 := Lib.hid hr2
  have Hb := Lib.hid (Nat.le_trans HB1.out.size hb)
  have HB2 := Lib.hid (HB1.out.trans (hb2.mono HB1.out.size))
  clear hr2 hb hb2 HB1 Hnew hd
  go_wp2
  go_loopw [6, 7, 8, 18] (fun _ _ _ i wr => ∃ k : Nat, k ≤ l.length ∧ i = .int .i64 (k : Int) ∧ Hid (RG wr b m (Bm.lastL m (l.take k))) ∧ Hid (Below w.heap.size w wr)) (fun _ _ _ i _ => l.length - (intOf i).toNat)
  case atStart => exact ⟨0, Nat.zero_le _, rfl, by rw [List.take_zero, Bm.lastL_nil]; exact HR2, HB2⟩
  case round =>
    obtain ⟨k, hk, rfl, hrg, hbel⟩ := hrel
    clear HR2 HB2
    by_cases hkl : k < l.length
    · obtain ⟨g, off, rfl, hcell⟩ := reads_str (reads_on Hr.out hbel.out) (by omega)
      have c0 := hcell k hkl
      have hs := Hsz.out l[k] (List.getElem_mem hkl)
      have Hadd := Lib.hid (ringadd_any b m _ l[k] wr (by omega) hrg.out)
      rw [Bm.lastL_take m l k Hm.out.1 hkl] at Hadd
      have Hla := Lib.hid (fun W hr => Hlast.out W (k + 1) (by omega) hr)
      have hcut := fun W => scut_toI (some ⟨g, off, none⟩) l.length c (k + 1) W ((k : Int) + 1) (by omega) (by omega) Hc.out
      clear hcell Hlast
      generalize l[k] = s at *
      obtain ⟨X, hX⟩ : ∃ X, X = Bm.lastL m (l.take (k + 1)) := ⟨_, rfl⟩
      rw [← hX] at Hadd Hla
      have HX := Lib.hid hX
      clear hX
      go_wp2_with fail
      refine Hadd.out.mono ?_
      rintro e w3 ⟨rfl, hr3, hg3⟩
      have HR3 := Lib.hid hr3
      have HB3 := Lib.hid (hbel.out.trans (below_grown hg3 Hb.out hbel.out.size))
      clear hr3 hg3 Hadd hrg hbel c0
      go_wp2_with fail
      refine (Hla.out w3 (reads_on Hr.out HB3.out)).mono ?_
      rintro e w4 ⟨A2, c2, rfl, hr4, hc4, hc5, rfl⟩
      obtain ⟨_, _, hX64, hXs⟩ := HR3.out.small
      have hX64' : X.length ≤ 64 := Nat.le_trans hX64 Hm.out.2.1
      have Hlen := Lib.hid (ringlen_at b m X w3 HR3.out)
      have Hby := Lib.hid (ringbytes_any _ m X w3 HR3.out.some)
      have Hrb := Lib.hid (fun W hr => ringrbytes_any A2 c2 X W hr (by omega) hXs)
      have Hall := Lib.hid (fun W h => ringall_any (some ⟨b, 0, none⟩) m X W h)
      have Hsame := Lib.hid (fun g W h1 h2 => ringsame_any (some ⟨g, 0, none⟩) A2 X.length c2 X W (by omega) h1 h2)
      have Hr4 := Lib.hid hr4
      have hzz : ((Bm.sizeS X : Int) == (Bm.sizeS X : Int)) = true := beq_self_eq_true _
      clear hr4 hX64 hXs hc4 hc5 Hla hcut hs
      generalize Bm.sizeS X = z at *
      by_cases h7 : k % 7 = 0
      · have h7' : ((k : Int) % 7 == 0) = true := by rw [beq_iff_eq]; omega
        have h8' : (k % 7 == 0) = true := by rw [beq_iff_eq]; exact h7
        clear h7
        go_wp2_with fail
        refine Hlen.out.mono ?_
        rintro e w5 ⟨rfl, rfl⟩
        go_wp2_with fail
        refine Hby.out.mono ?_
        rintro e w5 ⟨rfl, hb5⟩
        have HR5 := Lib.hid (HR3.out.below hb5)
        have HB5 := Lib.hid (HB3.out.trans (hb5.mono HB3.out.size))
        have Hr5 := Lib.hid (reads_on Hr4.out hb5)
        clear hb5 Hby Hlen Hr4
        go_wp2_with fail
        refine (Hrb.out w5 Hr5.out).mono ?_
        rintro e w6 ⟨rfl, rfl⟩
        go_wp2_with fail
        refine (Hall.out w5 HR5.out.some).mono ?_
        rintro e w6 ⟨g6, rfl, _, hrow6, hb6⟩
        have HR6 := Lib.hid (HR5.out.below hb6)
        have HB6 := Lib.hid (HB5.out.trans (hb6.mono HB5.out.size))
        have Hr6 := Lib.hid (reads_on Hr5.out hb6)
        have Hrow6 := Lib.hid (row_reads hrow6)
        clear hb6 hrow6 Hr5 HR5
        go_wp2_with fail
        refine (Hsame.out g6 w6 Hrow6.out Hr6.out).mono ?_
        rintro e w7 ⟨rfl, hb7⟩
        have HR7 := Lib.hid (HR6.out.below hb7)
        have HB7 := Lib.hid (HB6.out.trans (hb7.mono HB6.out.size))
        clear hb7
        go_wp2
        go_roundw
        case rel => exact ⟨k + 1, by omega, by go_num, by rw [← HX.out]; exact HR7, HB7⟩
        case measure => simp [intOf]; omega
      · have h7' : ((k : Int) % 7 == 0) = false := by rw [beq_eq_false_iff_ne]; omega
        have h8' : (k % 7 == 0) = false := by rw [beq_eq_false_iff_ne]; exact h7
        clear h7
        go_wp2_with fail
        refine Hlen.out.mono ?_
        rintro e w5 ⟨rfl, rfl⟩
        go_wp2_with fail
        refine Hby.out.mono ?_
        rintro e w5 ⟨rfl, hb5⟩
        have HR5 := Lib.hid (HR3.out.below hb5)
        have HB5 := Lib.hid (HB3.out.trans (hb5.mono HB3.out.size))
        have Hr5 := Lib.hid (reads_on Hr4.out hb5)
        clear hb5 Hby Hlen Hr4
        go_wp2_with fail
        refine (Hrb.out w5 Hr5.out).mono ?_
        rintro e w6 ⟨rfl, rfl⟩
        go_wp2
        go_roundw
        case rel => exact ⟨k + 1, by omega, by go_num, by rw [← HX.out]; exact HR5, HB5⟩
        case measure => simp [intOf]; omega
    · obtain rfl : k = l.length := by omega
      have Hla := Lib.hid (fun W hr => Hlast.out W l.length (Nat.le_refl _) hr)
      rw [List.take_length] at hrg Hla
      have hX64 := Nat.le_trans hrg.out.small.2.2.1 Hm.out.2.1
      generalize Bm.lastL m l = X at *
      have Hall := Lib.hid (ringall_any _ m X wr hrg.out.some)
      have Hsame := Lib.hid (fun g A2 c2 W h1 h2 => ringsame_any (some ⟨g, 0, none⟩) A2 X.length c2 X W (by omega) h1 h2)
      clear Hlast
      go_wp2_with fail
      refine Hall.out.mono ?_
      rintro e w3 ⟨g3, rfl, _, hrow3, hb3⟩
      have HB3 := Lib.hid (hbel.out.trans (hb3.mono hbel.out.size))
      have Hrow3 := Lib.hid (row_reads hrow3)
      clear hb3 hrow3 hbel Hall
      go_wp2_with fail
      refine (Hla.out w3 (reads_on Hr.out HB3.out)).mono ?_
      rintro e w4 ⟨A2, c2, rfl, hr4, hc4, hc5, rfl⟩
      have Hs4 := Lib.hid (Hsame.out g3 A2 c2 w3 Hrow3.out hr4)
      clear hr4 hc4 hc5 Hsame Hla
      go_wp2_with fail
      refine Hs4.out.mono ?_
      rintro e w5 ⟨rfl, hb5⟩
      have HB5 := Lib.hid (HB3.out.trans (hb5.mono HB3.out.size))
      clear hb5
      go_wp2
      go_ret
      exact ⟨rfl, HB5.out⟩
end Go.Proofs.Ytegoapmelilphaa
