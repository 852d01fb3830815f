/-
  HuffWhole (layer 9): the law's function by its walk: true for any lengths. Premises: what the calls of layer 9 answer.
-/
import Derived.Test.YtmcobnbahkoopaaUk
import Derived.Test.YtmcobnbahkoopaaUs
namespace Go.Proofs.Ytmcobnbahkoopaa
open Go.RowKit

set_option maxHeartbeats 400000 in
set_option maxRecDepth 100000 in
theorem uwhole_long {D : List Int → Prop} (hH : HuffOk D) (hD : D [5, 2, 1]) (A : Option Addr) (n c : Nat) (w : World) (h : 300 < n) (hn : n ≤ 9223372036854775807) :
    Calls Try.prog 4 #[.slice A n c] w fun e w' => e = .returned (.bool true) ∧ Below w.heap.size w w' := by
  have Haw := Lib.hid (uawake_of hH hD)
  clear hH hD
  go_enter Try.func4, Try.ntmps4
  go_wp2_with fail
  refine (Haw.out w).mono ?_
  rintro e w1 ⟨rfl, hb1⟩
  have Hb1 := Lib.hid hb1
  clear hb1
  go_wp2
  go_ret
  exact ⟨rfl, Hb1.out⟩

set_option maxHeartbeats 1000000 in
set_option maxRecDepth 100000 in
theorem uwhole_short {D : List Int → Prop} (hH : HuffOk D) (hD : D [5, 2, 1]) (A : Option Addr) (c : Nat) (l : List Int) (w : World) (h : l.length ≤ 300) (hok : ∀ x ∈ l, Bm.IntOk x) (hr : Reads w A (i64z l)) :
    Calls Try.prog 4 #[.slice A l.length c] w fun e w' => e = .returned (.bool true) ∧ Below w.heap.size w w' := by
  have Haw := Lib.hid (uawake_of hH hD)
  have hmx : l.length ≤ maxLen := by unfold maxLen; omega
  have H1 : Hid (∀ W, Below w.heap.size w W → Calls Try.prog 11 #[.slice A l.length c] W fun e w' => e = .returned (.bool (decide (Bm.WholeI l))) ∧ W = w') := Lib.hid (fun W hb => vwhole_any A c l W (by omega) (reads_on hr hb))
  have H3 : Hid (∀ W, Below w.heap.size w W → Calls Try.prog 17 #[.slice A l.length c] W fun e w' => e = .returned (.bool (decide (Bm.WholeI l))) ∧ Below W.heap.size W w') := Lib.hid (fun W hb => hH.whole W A c l hmx hok (reads_on hr hb))
  by_cases hw : Bm.WholeI l
  · have H2 : Hid (∀ W, Below w.heap.size w W → Calls Try.prog 16 #[.slice A l.length c] W fun e w' => ∃ B d, e = .returned (.tuple #[.slice B l.length d, .bool true]) ∧ Reads w' B (i64s (Bm.codesN (l.map Int.toNat))) ∧ Below W.heap.size W w') := Lib.hid (fun W hb => hH.codes W A c l hmx hok (reads_on hr hb) hw)
    obtain ⟨e1, h11, elen⟩ := Bm.lenR_nat l hw.1
    have hcl : (Bm.codesN (l.map Int.toNat)).length = l.length := by simp [Bm.codesN]
    have H4 : Hid (∀ W, Below w.heap.size w W → Calls Try.prog 19 #[.slice A l.length c] W fun e w' => ∃ g, e = .returned (.slice (some ⟨g, 0, none⟩) l.length l.length) ∧ Reads w' (some ⟨g, 0, none⟩) (i64s (Bm.codesN (l.map Int.toNat))) ∧ Below W.heap.size W w') := Lib.hid (fun W hb => by
      have hr2 := reads_on hr hb
      rw [e1, i64z_nat] at hr2
      have h1 := vcodes_any A c (l.map Int.toNat) W (by omega) h11 hr2
      rw [elen] at h1
      exact h1.mono fun e w' ⟨g, he, _, hrow, hbl⟩ => ⟨g, he, row_reads hrow, hbl⟩)
    have H5 : Hid (∀ W B d g, Reads W B (i64s (Bm.codesN (l.map Int.toNat))) → Reads W (some ⟨g, 0, none⟩) (i64s (Bm.codesN (l.map Int.toNat))) → Calls Try.prog 18 #[.slice B l.length d, .slice (some ⟨g, 0, none⟩) l.length l.length] W fun e w' => e = .returned (.bool true) ∧ Below W.heap.size W w') := Lib.hid (fun W B d g h1 h2 => by
      have h3 := usame_any B (some ⟨g, 0, none⟩) d l.length ((Bm.codesN (l.map Int.toNat)).map fun n : Nat => (n : Int)) ((Bm.codesN (l.map Int.toNat)).map fun n : Nat => (n : Int)) W (by rw [List.length_map]; omega) (by rw [List.length_map]; omega) (by rw [i64z_nat]; exact h1) (by rw [i64z_nat]; exact h2)
      rw [List.length_map, hcl] at h3
      simpa using h3)
    rw [decide_eq_true hw] at H1 H3
    clear hH hD hw hok hr e1 h11 elen hcl hmx
    generalize Bm.codesN (l.map Int.toNat) = cs at *
    generalize l.length = n at *
    go_enter Try.func4, Try.ntmps4
    go_wp2_with fail
    refine (Haw.out w).mono ?_
    rintro e w1 ⟨rfl, hb1⟩
    have Hb1 := Lib.hid hb1
    clear hb1
    go_wp2_with fail
    refine (H1.out w1 Hb1.out).mono ?_
    rintro e w' ⟨rfl, rfl⟩
    go_wp2_with fail
    refine (H2.out w1 Hb1.out).mono ?_
    rintro e w2 ⟨B, d, rfl, hr2, hb2⟩
    have Hr2 := Lib.hid hr2
    have Hb2 := Lib.hid (Hb1.out.trans (hb2.mono Hb1.out.size))
    clear hr2 hb2 Hb1
    go_wp2_with fail
    refine (H3.out w2 Hb2.out).mono ?_
    rintro e w3 ⟨rfl, hb3⟩
    have Hr3 := Lib.hid (reads_on Hr2.out hb3)
    have Hb3 := Lib.hid (Hb2.out.trans (hb3.mono Hb2.out.size))
    clear hb3 Hb2 Hr2
    go_wp2_with fail
    refine (H4.out w3 Hb3.out).mono ?_
    rintro e w4 ⟨g, rfl, hr4, hb4⟩
    have Hr4 := Lib.hid hr4
    have Hr5 := Lib.hid (reads_on Hr3.out hb4)
    have Hb4 := Lib.hid (Hb3.out.trans (hb4.mono Hb3.out.size))
    clear hr4 hb4 Hb3 Hr3
    go_wp2_with fail
    refine (H5.out w4 B d g Hr5.out Hr4.out).mono ?_
    rintro e w5 ⟨rfl, hb5⟩
    have Hb5 := Lib.hid (Hb4.out.trans (hb5.mono Hb4.out.size))
    clear hb5 Hb4
    go_wp2
    go_ret
    exact ⟨rfl, Hb5.out⟩
  · have H2 : Hid (∀ W, Below w.heap.size w W → Calls Try.prog 16 #[.slice A l.length c] W fun e w' => ∃ B d, e = .returned (.tuple #[.slice B 0 d, .bool false]) ∧ Below W.heap.size W w') := Lib.hid (fun W hb => hH.noCodes W A c l hmx hok (reads_on hr hb) hw)
    rw [decide_eq_false hw] at H1 H3
    clear hH hD hw hok hr hmx
    generalize l.length = n at *
    go_enter Try.func4, Try.ntmps4
    go_wp2_with fail
    refine (Haw.out w).mono ?_
    rintro e w1 ⟨rfl, hb1⟩
    have Hb1 := Lib.hid hb1
    clear hb1
    go_wp2_with fail
    refine (H1.out w1 Hb1.out).mono ?_
    rintro e w' ⟨rfl, rfl⟩
    go_wp2_with fail
    refine (H2.out w1 Hb1.out).mono ?_
    rintro e w2 ⟨B, d, rfl, hb2⟩
    have Hb2 := Lib.hid (Hb1.out.trans (hb2.mono Hb1.out.size))
    clear hb2 Hb1
    go_wp2_with fail
    refine (H3.out w2 Hb2.out).mono ?_
    rintro e w3 ⟨rfl, hb3⟩
    have Hb3 := Lib.hid (Hb2.out.trans (hb3.mono Hb2.out.size))
    clear hb3 Hb2
    go_wp2
    go_ret
    exact ⟨rfl, Hb3.out⟩
end Go.Proofs.Ytmcobnbahkoopaa
