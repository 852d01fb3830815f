/-
  HeaderAny (layer 8): the law's function by its walk: true for any bytes. Premises: what the calls of layer 8 answer.
-/
import Derived.Test.YtefcahmhfjblpaaHk
import Derived.Test.YtefcahmhfjblpaaHn
import Derived.Test.YtefcahmhfjblpaaHt
import Derived.Test.YtefcahmhfjblpaaWu
namespace Go.Proofs.Ytefcahmhfjblpaa
open Go.RowKit

set_option maxHeartbeats 400000 in
set_option maxRecDepth 100000 in
theorem hany_long (hH : HdrOk) (A : Option Addr) (n c : Nat) (w : World) (h : 200 < n) (hn : n ≤ 9223372036854775807) :
    Calls Try.prog 4 #[.slice A n c] w fun e w' => e = .returned (.bool true) ∧ Below w.heap.size w w' := by
  have Haw := Lib.hid (hawake_of hH)
  clear hH
  go_enter Try.func4, Try.ntmps4
  go_wp2_with fail
  refine (Haw.out w).mono ?_
  rintro e w1 ⟨rfl, hb1⟩
  have Hb1 := Lib.hid hb1
  clear hb1
  go_wp2
  go_ret
  exact ⟨rfl, Hb1.out⟩

set_option maxHeartbeats 2000000 in
set_option maxRecDepth 100000 in
theorem hany_short (hH : HdrOk) (A : Option Addr) (c : Nat) (bs : List Nat) (w : World) (h : bs.length ≤ 200) (hlt : ∀ x ∈ bs, x < 256) (hr : Reads w A (u8s bs)) (hA : ∀ a, A = some a → 0 < bs.length → a.block < w.heap.size) :
    Calls Try.prog 4 #[.slice A bs.length c] w fun e w' => e = .returned (.bool true) ∧ Below w.heap.size w w' := by
  have Haw := Lib.hid (hawake_of hH)
  have H1 : Hid (∀ W, Below w.heap.size w W → Calls Try.prog 16 #[.slice A bs.length c] W fun e w' => e = .returned (.pointer (some ⟨W.heap.size, 0, none⟩)) ∧ RS w' W.heap.size 0 bs 0 ∧ Below W.heap.size W w') := Lib.hid (fun W hb => newr_any A c bs W hlt (reads_on hr hb))
  have H2 : Hid (∀ W b, RS W b 0 bs 0 → Calls Try.prog 18 #[.pointer (some ⟨b, 0, none⟩)] W fun e w' => TakeP w' e (Bm.takeA (Bm.valB bs) (8 * bs.length)) ∧ W.grownBy w' (some b) ∧ ∀ t, Bm.takeA (Bm.valB bs) (8 * bs.length) = some t → RS w' b 0 bs (8 * bs.length - t.2.2)) := Lib.hid (fun W b hrs => by
    have h1 := hH.take W b 0 0 bs (by omega) hlt (by omega) hrs
    rw [Nat.pow_zero, Nat.div_one, Nat.sub_zero] at h1
    exact h1)
  have H3 : Hid (∀ W, Below w.heap.size w W → Calls Try.prog 23 #[.slice A bs.length c] W fun e w' => ∃ A' c', e = .returned (.slice A' (8 * bs.length) c') ∧ 8 * bs.length ≤ c' ∧ c' ≤ maxLen ∧ Reads w' A' (i64s (Bm.bitsOf (Bm.valB bs) (8 * bs.length))) ∧ Below W.heap.size W w') := Lib.hid (fun W hb => by
    refine (rbits_any A c bs W (by omega) hlt (reads_on hr hb) (fun a e h0 => Nat.lt_of_lt_of_le (hA a e h0) hb.size)).mono ?_
    rintro e w' ⟨u, rfl, ho, hbl⟩
    obtain ⟨A', c', hc', hcm', hmx, _⟩ := own_rest ho
    obtain ⟨A2, c2, hform, hrd, _⟩ := own_reads ho
    rw [hc'] at hform
    injection hform with e1 e2 e3
    subst e1 e3
    exact ⟨A', c', by rw [hc'], hcm', hmx, hrd, hbl⟩)
  have H4 : Hid (∀ W A' c', 8 * bs.length ≤ c' → c' ≤ maxLen → Reads W A' (i64s (Bm.bitsOf (Bm.valB bs) (8 * bs.length))) → Calls Try.prog 22 #[.slice A' (8 * bs.length) c'] W fun e w' => GTakeP w' e (8 * bs.length) (Bm.takeA (Bm.valB bs) (8 * bs.length)) ∧ Below W.heap.size W w') := Lib.hid (fun W A' c' h1 h2 hrd => gtake_any A' c' (Bm.valB bs) (8 * bs.length) W (by omega) h1 h2 hrd)
  have Hlt := Lib.hid hlt
  cases hc : Bm.takeA (Bm.valB bs) (8 * bs.length) with
  | none =>
    rw [hc] at H2 H4
    have H5 : Hid (∀ W A' c', Calls Try.prog 19 #[.slice A' 0 c', .slice none 0 0] W fun e w' => e = .returned (.bool true) ∧ Below W.heap.size W w') := Lib.hid (fun W A' c' => hsame_any A' none c' 0 [] [] W (by simp) (by simp) (fun h => absurd rfl h) (fun h => absurd rfl h))
    clear hH hr hA hlt hc
    generalize Bm.valB bs = V at *
    generalize hm : bs.length = m at *
    go_enter Try.func4, Try.ntmps4
    go_wp2_with fail
    refine (Haw.out w).mono ?_
    rintro e w1 ⟨rfl, hb1⟩
    have Hb1 := Lib.hid hb1
    clear hb1
    go_wp2_with fail
    refine (H1.out w1 Hb1.out).mono ?_
    rintro e w2 ⟨rfl, hrs2, hb2⟩
    have Hb2 := Lib.hid (Hb1.out.trans (hb2.mono Hb1.out.size))
    have Hrs2 := Lib.hid hrs2
    have Hsz := Lib.hid Hb1.out.size
    clear hb2 hrs2 Hb1
    generalize w1.heap.size = br at *
    go_wp2_with fail
    refine (H2.out w2 br Hrs2.out).mono ?_
    rintro e w3 ⟨⟨A3, c3, rfl⟩, hg3, _⟩
    have Hb3 : Hid (Below w.heap.size w w3) := Lib.hid (Hb2.out.grown hg3 Hb2.out.size (fun k e => by injection e with e; rw [← e]; exact Hsz.out))
    clear hg3 Hb2 Hrs2
    go_wp2_with fail
    refine (H3.out w3 Hb3.out).mono ?_
    rintro e w4 ⟨A4, c4, rfl, hlc, hcm, hr4, hb4⟩
    have Hb4 := Lib.hid (Hb3.out.trans (hb4.mono Hb3.out.size))
    have Hr4 := Lib.hid hr4
    clear hb4 hr4 Hb3
    go_wp2_with fail
    refine (H4.out w4 A4 c4 hlc hcm Hr4.out).mono ?_
    rintro e w5 ⟨rfl, hb5⟩
    have Hb5 := Lib.hid (Hb4.out.trans (hb5.mono Hb4.out.size))
    clear hb5 Hb4 Hr4
    go_wp2_with fail
    refine (H5.out w5 A3 c3).mono ?_
    rintro e w6 ⟨rfl, hb6⟩
    have Hb6 := Lib.hid (Hb5.out.trans (hb6.mono Hb5.out.size))
    clear hb6 Hb5
    go_wp2
    go_ret
    exact ⟨rfl, Hb6.out⟩
  | some t =>
    obtain ⟨l, lg, left⟩ := t
    obtain ⟨hf, hlf⟩ := Bm.takeA_fair _ _ _ _ _ hc
    rw [hc] at H2 H4
    have hl256 := hf.len
    have h5 := hf.low
    have h9 := hf.high
    have hfair := Bm.fairN_fair l lg hf
    have H5 : Hid (∀ W A' B' c' d', Reads W A' (i64s l) → Reads W B' (i64s l) → Calls Try.prog 19 #[.slice A' l.length c', .slice B' l.length d'] W fun e w' => e = .returned (.bool true) ∧ Below W.heap.size W w') := Lib.hid (fun W A' B' c' d' h1 h2 => by
      have h3 := hsame_any A' B' c' d' (l.map (fun n : Nat => (n : Int))) (l.map (fun n : Nat => (n : Int))) W (by simp; omega) (by simp; omega) (by rw [i64z_nat]; exact h1) (by rw [i64z_nat]; exact h2)
      rw [decide_eq_true rfl, List.length_map] at h3
      exact h3)
    have H6 : Hid (∀ W A' c', Reads W A' (i64s l) → Calls Try.prog 9 #[.slice A' l.length c', .int .i64 (lg : Int)] W fun e w' => e = .returned (.bool true) ∧ W = w') := Lib.hid (fun W A' c' h1 => by
      have h3 := hfair_any A' c' (l.map (fun n : Nat => (n : Int))) (lg : Int) W (by simp; omega) (by rw [i64z_nat]; exact h1)
      have hfb : Bm.fairB (l.map (fun n : Nat => (n : Int))) (lg : Int) = true := decide_eq_true hfair
      rw [hfb, List.length_map] at h3
      exact h3)
    have H7 : Hid (∀ W b, RS W b 0 bs (8 * bs.length - left) → Calls Try.prog 21 #[.pointer (some ⟨b, 0, none⟩)] W fun e w' => e = .returned (.int .i64 (left : Int)) ∧ ∃ k, w' = W.drewN k) := Lib.hid (fun W b hrs => by
      have h1 := left_any b 0 bs (8 * bs.length - left) W (by omega) (by omega) hrs
      rw [show 8 * bs.length - (8 * bs.length - left) = left by omega] at h1
      exact h1)
    have H2 : Hid (∀ W b, RS W b 0 bs 0 → Calls Try.prog 18 #[.pointer (some ⟨b, 0, none⟩)] W fun e w' => (∃ A c, e = .returned (.tuple #[.slice A l.length c, .int .i64 (lg : Int), .bool true]) ∧ Reads w' A (i64s l)) ∧ W.grownBy w' (some b) ∧ RS w' b 0 bs (8 * bs.length - left)) := Lib.hid (fun W b hrs => (H2.out W b hrs).mono fun e w' ⟨h1, h2, h3⟩ => ⟨h1, h2, h3 _ rfl⟩)
    clear hH hr hA hlt hc hf hfair
    generalize Bm.valB bs = V at *
    generalize hm : bs.length = m at *
    go_enter Try.func4, Try.ntmps4
    go_wp2_with fail
    refine (Haw.out w).mono ?_
    rintro e w1 ⟨rfl, hb1⟩
    have Hb1 := Lib.hid hb1
    clear hb1
    go_wp2_with fail
    refine (H1.out w1 Hb1.out).mono ?_
    rintro e w2 ⟨rfl, hrs2, hb2⟩
    have Hb2 := Lib.hid (Hb1.out.trans (hb2.mono Hb1.out.size))
    have Hrs2 := Lib.hid hrs2
    have Hsz := Lib.hid Hb1.out.size
    clear hb2 hrs2 Hb1
    generalize w1.heap.size = br at *
    go_wp2_with fail
    refine (H2.out w2 br Hrs2.out).mono ?_
    rintro e w3 ⟨⟨A3, c3, rfl, hr3⟩, hg3, hrs3⟩
    have Hb3 : Hid (Below w.heap.size w w3) := Lib.hid (Hb2.out.grown hg3 Hb2.out.size (fun k e => by injection e with e; rw [← e]; exact Hsz.out))
    have Hr3 := Lib.hid hr3
    have Hrs3 := Lib.hid hrs3
    clear hg3 hr3 hrs3 Hb2 Hrs2
    go_wp2_with fail
    refine (H3.out w3 Hb3.out).mono ?_
    rintro e w4 ⟨A4, c4, rfl, hlc, hcm, hr4, hb4⟩
    have Hb4 := Lib.hid (Hb3.out.trans (hb4.mono Hb3.out.size))
    have Hr4 := Lib.hid hr4
    have Hr34 := Lib.hid (reads_on Hr3.out hb4)
    have Hrs4 := Lib.hid (Hrs3.out.below hb4)
    clear hb4 hr4 Hb3 Hr3 Hrs3
    go_wp2_with fail
    refine (H4.out w4 A4 c4 hlc hcm Hr4.out).mono ?_
    rintro e w5 ⟨⟨A5, c5, rfl, hr5⟩, hb5⟩
    have Hb5 := Lib.hid (Hb4.out.trans (hb5.mono Hb4.out.size))
    have Hr35 := Lib.hid (reads_on Hr34.out hb5)
    have Hrs5 := Lib.hid (Hrs4.out.below hb5)
    have Hr5 := Lib.hid hr5
    have hat : decide ((0 : Int) < ((8 * m : Nat) : Int) - (left : Int)) = true := decide_eq_true (by omega)
    clear hb5 Hb4 Hr4 Hr34 Hrs4 hr5
    go_wp2_with fail
    refine (H5.out w5 A3 A5 c3 c5 Hr35.out Hr5.out).mono ?_
    rintro e w6 ⟨rfl, hb6⟩
    have Hb6 := Lib.hid (Hb5.out.trans (hb6.mono Hb5.out.size))
    have Hr36 := Lib.hid (reads_on Hr35.out hb6)
    have Hrs6 := Lib.hid (Hrs5.out.below hb6)
    clear hb6 Hb5 Hr35 Hrs5 Hr5
    go_wp2_with fail
    refine (H6.out w6 A3 c3 Hr36.out).mono ?_
    rintro e w' ⟨rfl, rfl⟩
    go_wp2_with fail
    refine (H7.out w6 br Hrs6.out).mono ?_
    rintro e w7 ⟨rfl, k7, rfl⟩
    go_wp2
    go_ret
    exact ⟨congrArg (fun x => Ending.returned (Value.bool x)) (by simp; omega), below_drewN Hb6.out k7⟩
end Go.Proofs.Ytefcahmhfjblpaa
