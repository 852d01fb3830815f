/-
  ChainSame (layer 11): the law's function by its walk: true for any string and ints. Premises: what the calls of layer 11 answer.
-/
import Derived.Test.YtjoohdeeihjilaaEk
namespace Go.Proofs.Ytjoohdeeihjilaa
open Go.RowKit

set_option maxHeartbeats 1000000 in
set_option maxRecDepth 100000 in
theorem zsame_of {FI : World → Addr → List Nat → List Nat → (Nat → Prop) → Prop} (hF : FindOk FI) (hL : ZLen FI) (hS : ZSame) (hN : ZNil) (T : List Nat) (a b : Int) (w : World) (hT : T.length ≤ 9223372036854775807) (hlt : ∀ x ∈ T, x < 256) (ha : Bm.IntOk a) (hb : Bm.IntOk b) :
    Calls Try.prog 5 #[.string (strOf T), .int .i64 a, .int .i64 b] w fun e w' => e = .returned (.bool true) ∧ Below w.heap.size w w' := by
  have Haw := Lib.hid (zawake_of hF hL w)
  have hsz := strOf_size T
  by_cases h : 200 < T.length
  · clear hF hL hS hN hlt ha hb
    generalize strOf T = ss at *
    go_enter Try.func5, Try.ntmps5
    go_wp2_with fail
    refine Haw.out.mono ?_
    rintro e w1 ⟨rfl, hb1⟩
    have Hb1 := Lib.hid hb1
    clear hb1
    go_wp2
    go_ret
    exact ⟨rfl, Hb1.out⟩
  · have Hs1 := Lib.hid (fun W => hS W T a b (by omega) hlt ha hb)
    have Hs2 := Lib.hid (fun W => hS W T b a (by omega) hlt hb ha)
    have Hr1 := Lib.hid (fun W => (zrsame_any T a b W (by omega) hlt ha hb).mono fun e w' ⟨he, m, hm⟩ => (show e = Ending.returned (.int .i64 (Bm.sameI T a b : Int)) ∧ Below W.heap.size W w' from ⟨he, by rw [hm]; exact below_drewN (Below.refl _ _) m⟩))
    rw [Bm.sameI_comm T b a] at Hs2
    obtain ⟨k1, k2, k3⟩ := hN
    have Hn1 := Lib.hid (fun W => k1 W a)
    have Hn2 := Lib.hid (fun W => k2 W a b)
    have Hn3 := Lib.hid k3
    have d2 : decide (200 < (T.length : Int)) = false := decide_eq_false (by omega)
    clear hF hL hS hlt ha hb k1 k2 k3
    generalize strOf T = ss at *
    generalize Bm.sameI T a b = r at *
    go_enter Try.func5, Try.ntmps5
    go_wp2_with fail
    refine Haw.out.mono ?_
    rintro e w1 ⟨rfl, hb1⟩
    have Hb1 := Lib.hid hb1
    clear hb1
    go_wp2_with fail
    refine (Hn2.out w1).mono ?_
    rintro e w2 ⟨rfl, hb2⟩
    have Hb2 := Lib.hid (Hb1.out.trans (hb2.mono Hb1.out.size))
    clear hb2 Hb1
    go_wp2_with fail
    refine (Hs1.out w2).mono ?_
    rintro e w3 ⟨rfl, hb3⟩
    have Hb3 := Lib.hid (Hb2.out.trans (hb3.mono Hb2.out.size))
    clear hb3 Hb2
    go_wp2_with fail
    refine (Hr1.out w3).mono ?_
    rintro e w4 ⟨rfl, hb4⟩
    have Hb4 := Lib.hid (Hb3.out.trans (hb4.mono Hb3.out.size))
    clear hb4 Hb3
    go_wp2_with fail
    refine (Hs2.out w4).mono ?_
    rintro e w5 ⟨rfl, hb5⟩
    have Hb5 := Lib.hid (Hb4.out.trans (hb5.mono Hb4.out.size))
    clear hb5 Hb4
    go_wp2_with fail
    refine (Hs1.out w5).mono ?_
    rintro e w6 ⟨rfl, hb6⟩
    have Hb6 := Lib.hid (Hb5.out.trans (hb6.mono Hb5.out.size))
    clear hb6 Hb5
    go_wp2_with fail
    refine (Hn1.out w6).mono ?_
    rintro e w7 ⟨rfl, hb7⟩
    have Hb7 := Lib.hid (Hb6.out.trans (hb7.mono Hb6.out.size))
    clear hb7 Hb6
    go_wp2_with fail
    refine (Hn3.out w7).mono ?_
    rintro e w8 ⟨rfl, hb8⟩
    have Hb8 := Lib.hid (Hb7.out.trans (hb8.mono Hb7.out.size))
    clear hb8 Hb7
    go_wp2
    go_ret
    exact ⟨rfl, Hb8.out⟩
end Go.Proofs.Ytjoohdeeihjilaa
