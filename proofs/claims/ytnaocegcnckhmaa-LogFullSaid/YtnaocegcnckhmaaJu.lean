/-
  LogFull (layer 26): the law's function by its walk: true for every uint8 and every string. No condition beyond each theorem's premises.
-/
import Derived.Test.YtnaocegcnckhmaaJq
namespace Go.Proofs.Ytnaocegcnckhmaa
open Go.RowKit

theorem sizeS_rep (n : Nat) (s : ByteArray) : Bm.sizeS (List.replicate n s) = n * s.size := by
  unfold Bm.sizeS
  rw [List.map_replicate, List.sum_replicate_nat]
set_option maxHeartbeats 400000 in
set_option maxRecDepth 100000 in
theorem lgfull_out (x : Int) (s : ByteArray) (w : World) (hs : 20 < s.size) :
    Calls Try.prog 4 #[.int .u8 x, .string s] w fun e w' => e = .returned (.bool true) ∧ Below w.heap.size w w' := by
  have Haw := Lib.hid (lgawake_any w)
  have hd : decide (20 < (s.size : Int)) = true := decide_eq_true (by omega)
  go_enter Try.func4, Try.ntmps4
  go_wp2_with fail
  refine Haw.out.mono ?_
  rintro e w1 ⟨rfl, hb1⟩
  have HB1 := Lib.hid hb1
  clear hb1
  go_wp2
  go_ret
  exact ⟨rfl, HB1.out⟩
theorem lgApp_rep (n : Nat) (s : ByteArray) (hs : s.size ≤ 20) : Bm.lgApp (List.replicate (min n 400) s) s = (if n < 400 then n else 0, if n < 400 then 0 else 2, List.replicate (min (n + 1) 400) s) := by
  unfold Bm.lgApp
  rw [if_neg (by omega), List.length_replicate]
  by_cases h : n < 400
  · rw [if_neg (by omega), if_pos h, if_pos h, ← List.replicate_succ', show min n 400 + 1 = min (n + 1) 400 by omega, show min n 400 = n by omega]
  · rw [if_pos (by omega), if_neg h, if_neg h, show min n 400 = min (n + 1) 400 by omega]
set_option maxHeartbeats 2000000 in
set_option maxRecDepth 100000 in
theorem lgfull_in (x : Nat) (s : ByteArray) (w : World) (hx : x < 256) (hs : s.size ≤ 20) :
    Calls Try.prog 4 #[.int .u8 (x : Int), .string s] w fun e w' => e = .returned (.bool true) ∧ Below w.heap.size w w' := by
  have Haw := Lib.hid (lgawake_any w)
  have hd : decide (20 < (s.size : Int)) = false := decide_eq_false (by omega)
  have Hnew := Lib.hid (fun W => lgnew_any W)
  obtain ⟨r, hr⟩ : ∃ r, r = x % 11 := ⟨_, rfl⟩
  have hr11 : r < 11 := by omega
  have hxr : (x : Int) % 11 = (r : Int) := by omega
  clear hr
  go_enter Try.func4, Try.ntmps4
  go_wp2_with fail
  refine Haw.out.mono ?_
  rintro e w1 ⟨rfl, hb1⟩
  have HB1 := Lib.hid hb1
  clear hb1 Haw
  go_wp2_with fail
  refine (Hnew.out w1).mono ?_
  rintro e w2 ⟨b, rfl, hr2, hb, hb2⟩
  have HR2 := Lib.hid hr2
  have Hb := Lib.hid (Nat.le_trans HB1.out.size hb)
  have HB2 := Lib.hid (HB1.out.trans (hb2.mono HB1.out.size))
  clear hr2 hb hb2 HB1 Hnew hd
  go_wp2
  rw [show (396 : Int) + (r : Int) = ((396 + r : Nat) : Int) by omega]
  obtain ⟨n, hn⟩ : ∃ n, n = 396 + r := ⟨_, rfl⟩
  rw [← hn]
  have hn6 : 396 ≤ n ∧ n ≤ 406 := by omega
  clear hn hxr hr11
  go_loopw [7, 8, 9, 21] (fun _ _ _ i wr => ∃ j : Nat, j ≤ n ∧ i = .int .i64 (j : Int) ∧ Hid (LG wr b (List.replicate (min j 400) s) 0) ∧ Hid (Below w.heap.size w wr)) (fun _ _ _ i _ => n - (intOf i).toNat)
  case atStart => exact ⟨0, Nat.zero_le _, rfl, HR2, HB2⟩
  case round =>
    obtain ⟨j, hj, rfl, hlg, hbel⟩ := hrel
    clear HR2 HB2
    by_cases hjn : j < n
    · have hjI : (j : Int) < (n : Int) := by omega
      have Happ := Lib.hid (lgappend_any b _ 0 s wr hlg.out)
      rw [lgApp_rep j s hs] at Happ
      by_cases h4 : j < 400
      · rw [if_pos h4, if_pos h4] at Happ
        have h4I : (j : Int) < 400 := by omega
        go_wp2_with fail
        refine Happ.out.mono ?_
        rintro e w3 ⟨rfl, hr3, hg3⟩
        have HR3 := Lib.hid hr3
        have HB3 := Lib.hid (hbel.out.trans (below_grown hg3 Hb.out hbel.out.size))
        have hjj : ((j : Int) == (j : Int)) = true := beq_self_eq_true _
        clear hr3 hg3 hlg hbel Happ
        go_wp2
        go_roundw
        case rel => exact ⟨j + 1, by omega, by go_num, HR3, HB3⟩
        case measure => simp [intOf]; omega
      · rw [if_neg h4, if_neg h4] at Happ
        have h4I : ¬ (j : Int) < 400 := by omega
        go_wp2_with fail
        refine Happ.out.mono ?_
        rintro e w3 ⟨rfl, hr3, hg3⟩
        have HR3 := Lib.hid hr3
        have HB3 := Lib.hid (hbel.out.trans (below_grown hg3 Hb.out hbel.out.size))
        clear hr3 hg3 hlg hbel Happ
        go_wp2
        go_roundw
        case rel => exact ⟨j + 1, by omega, by go_num, HR3, HB3⟩
        case measure => simp [intOf]; omega
    · obtain rfl : j = n := by omega
      obtain ⟨m, hm⟩ : ∃ m, m = min j 400 := ⟨_, rfl⟩
      rw [← hm] at hlg
      have hmi : min (j : Int) 400 = (m : Int) := by omega
      have hm4 : m ≤ 400 ∧ 1 ≤ m := by omega
      have hlen : (List.replicate m s).length = m := List.length_replicate ..
      have hsz := sizeS_rep m s
      generalize List.replicate m s = L at *
      have Hlen := Lib.hid (lglen_any _ L 0 wr hlg.out.some_)
      have Hby := Lib.hid (fun q => lgbytes_any _ L 0 (wr.drewN q) (hlg.out.some_.keep rfl))
      have Hlen2 := Lib.hid (fun q => lglen_any _ L 0 (wr.drewN q) (hlg.out.some_.keep rfl))
      have Htr := Lib.hid (fun q => lgtrunc_any b L 0 (m : Int) (wr.drewN q) (hlg.out.keep rfl))
      have Htn := Lib.hid (fun W h => lgtrunc_any b L m (m : Int) W h)
      have Hln := Lib.hid (fun W h => lglen_any (some ⟨b, 0, none⟩) L m W h)
      have Hold := Lib.hid (fun W h => lgold_any (some ⟨b, 0, none⟩) L m W h)
      rw [hlen] at Hlen Hlen2 Hln
      rw [hsz] at Hby
      rw [Bm.lgTr_yes L 0 m (by omega) (by omega)] at Htr
      rw [Bm.lgTr_no L m m (by omega)] at Htn
      rw [List.take_of_length_le (by omega)] at Hold
      have hz2 : m * s.size ≤ 8000 := Nat.le_trans (Nat.mul_le_mul hm4.1 hs) (by decide)
      obtain ⟨z, hz⟩ : ∃ z, z = m * s.size := ⟨_, rfl⟩
      have hzi : (s.size : Int) * (m : Int) = (z : Int) := by rw [hz, Nat.mul_comm]; simp
      rw [← hz] at Hby hz2
      clear hz hsz hjn hm
      have HB := hbel
      clear hlg hbel
      have hmm : ((m : Int) == (m : Int)) = true := beq_self_eq_true _
      have hzz : ((z : Int) == (z : Int)) = true := beq_self_eq_true _
      go_wp2_with fail
      refine Hlen.out.mono ?_
      rintro e w3 ⟨rfl, q1, rfl⟩
      go_wp2_with fail
      refine (Hby.out q1).mono ?_
      rintro e w3 ⟨rfl, q2, rfl⟩
      rw [World.drewN_drewN]
      go_wp2_with fail
      refine (Hlen2.out (q1 + q2)).mono ?_
      rintro e w3 ⟨rfl, q3, rfl⟩
      rw [World.drewN_drewN]
      go_wp2_with fail
      refine (Htr.out (q1 + q2 + q3)).mono ?_
      rintro e w3 ⟨rfl, hr3, hg3⟩
      have HR3 := Lib.hid hr3
      have hgx : wr.grownBy w3 (some b) := ⟨hg3.os, hg3.tape, hg3.output, hg3.size, hg3.block⟩
      have HB3 := Lib.hid (HB.out.trans (below_grown hgx Hb.out HB.out.size))
      clear hr3 hg3 hgx Htr Hlen Hlen2 Hby
      go_wp2_with fail
      refine (Hln.out w3 HR3.out.some_).mono ?_
      rintro e w4 ⟨rfl, q4, rfl⟩
      go_wp2_with fail
      refine (Htn.out (w3.drewN q4) (HR3.out.keep rfl)).mono ?_
      rintro e w5 ⟨rfl, hr5, hg5⟩
      have HR5 := Lib.hid hr5
      have hgx : w3.grownBy w5 (some b) := ⟨hg5.os, hg5.tape, hg5.output, hg5.size, hg5.block⟩
      have HB5 := Lib.hid (HB3.out.trans (below_grown hgx Hb.out HB3.out.size))
      clear hr5 hg5 hgx Htn HR3 HB3
      go_wp2_with fail
      refine (Hold.out w5 HR5.out.some_).mono ?_
      rintro e w6 ⟨u, rfl, hown, hb6⟩
      obtain ⟨Au, cu, rfl, _, _, _⟩ := hown.reads
      rw [hlen]
      have HR6 := Lib.hid (HR5.out.below hb6)
      have HB6 := Lib.hid (HB5.out.trans (hb6.mono HB5.out.size))
      clear hown hb6 Hold HR5 HB5
      go_wp2_with fail
      refine (Hln.out w6 HR6.out.some_).mono ?_
      rintro e w7 ⟨rfl, q7, rfl⟩
      have HB7 := Lib.hid (show Below w.heap.size w (w6.drewN q7) from ⟨HB6.out.os, HB6.out.tape, HB6.out.output, HB6.out.size, HB6.out.block⟩)
      clear HB6
      go_wp2
      go_ret
      exact ⟨rfl, HB7.out⟩
end Go.Proofs.Ytnaocegcnckhmaa
