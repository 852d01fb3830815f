/-
  ChainTrue (layer 11): the law's function by its walk: true for any string and place. Premises: what the calls of layer 11 answer.
-/
import Derived.Test.YtjoohdeeihjilaaEk
import Derived.Test.YtjoohdeeihjilaaEt
import Derived.Deep.RegionHeld3
namespace Go.Proofs.Ytjoohdeeihjilaa
open Go.RowKit

set_option maxHeartbeats 2000000 in
set_option maxRecDepth 100000 in
theorem ztrue_of {FI : World → Addr → List Nat → List Nat → (Nat → Prop) → Prop} (hF : FindOk FI) (hL : ZLen FI) (hS : ZSame) (T : List Nat) (k : Nat) (w : World) (hT : T.length ≤ 9223372036854775807) (hlt : ∀ x ∈ T, x < 256) (hk : k < 256) :
    Calls Try.prog 4 #[.string (strOf T), .int .u8 (k : Int)] w fun e w' => e = .returned (.bool true) ∧ Below w.heap.size w w' := by
  have Haw := Lib.hid (zawake_of hF hL w)
  have hsz := strOf_size T
  by_cases h : 120 < T.length
  · clear hF hL hS hlt
    generalize strOf T = ss at *
    go_enter Try.func4, Try.ntmps4
    go_wp2_with fail
    refine Haw.out.mono ?_
    rintro e w1 ⟨rfl, hb1⟩
    have Hb1 := Lib.hid hb1
    clear hb1
    go_wp2
    go_ret
    exact ⟨rfl, Hb1.out⟩
  · have hT2 : T.length ≤ 120 := by omega
    have d2 : decide (120 < (T.length : Int)) = false := decide_eq_false (by omega)
    have Hnew := Lib.hid (fun w => hF.new w T (by omega) hlt)
    have Hnote := Lib.hid (fun w p P S (i : Nat) h (hi : i < 1000) => hF.note w p T P S (i : Int) (by omega) hlt h (by constructor <;> omega))
    have Hfind := Lib.hid (fun w p P S h => hF.find w p T P S (k : Int) 1000 (by omega) hlt h (by constructor <;> omega) (by constructor <;> omega))
    have Hkeep := Lib.hid hF.keep
    have Hlt := Lib.hid hF.lt
    have Hs := Lib.hid (fun W (p : Nat) (hp : p < 1000) => hS W T (p : Int) (k : Int) (by omega) hlt (by constructor <;> omega) (by constructor <;> omega))
    have Hr := Lib.hid (fun W (i : Nat) (hi : i < 1000) => zrsame_any T (i : Int) (k : Int) W (by omega) hlt (by constructor <;> omega) (by constructor <;> omega))
    have Hmid := Lib.hid (fun W i j (h : i ≤ j) (h2 : j ≤ T.length) => str_mid T i j h h2 W)
    obtain ⟨m, hm⟩ : ∃ m, m = min k T.length := ⟨_, rfl⟩
    have hbest := Bm.find_best T k (by omega)
    rw [← hm] at hbest
    have Hbest := Lib.hid hbest
    have hmk : m ≤ k := by omega
    have hmT : m ≤ T.length := by omega
    have Hm := Lib.hid hm
    clear hF hL hS hbest hm hlt
    go_enter Try.func4, Try.ntmps4
    go_wp2_with fail
    refine Haw.out.mono ?_
    rintro e w1 ⟨rfl, hb1⟩
    have Hb1 := Lib.hid hb1
    clear hb1
    go_wp2_with fail
    refine (Hnew.out w1).mono ?_
    rintro e w2 ⟨p, S, rfl, hf2, hS2, hb2⟩
    have HS2 := Lib.hid (fun k hk => Nat.le_trans Hb1.out.size (hS2 k hk))
    have Hb2 := Lib.hid (Hb1.out.trans (hb2.mono Hb1.out.size))
    have Hf2 := Lib.hid hf2
    clear hf2 hS2 hb2 Hnew Hb1
    have hmin : min (k : Int) (T.length : Int) = (m : Int) := by have := Hm.out; omega
    go_wp2
    go_loopw [26] (fun iv wr => ∃ (i : Nat) (S' : Nat → Prop), i ≤ m ∧ iv = .int .i64 (i : Int) ∧ Hid (FI wr p T (Bm.notesN T i) S') ∧ Hid (∀ k, S' k → w.heap.size ≤ k) ∧ Hid (Below w.heap.size w wr)) (fun iv _ => m - (intOf iv).toNat)
    case atStart => exact ⟨0, S, by omega, rfl, Hf2, HS2, Hb2⟩
    case round =>
      obtain ⟨i, S', hi, rfl, hf, hS, hb⟩ := hrel
      clear Hb2 HS2 Hf2
      by_cases him : i < m
      · go_wp2_with fail
        refine (Hnote.out _ p _ S' i hf.out (by omega)).mono ?_
        rintro e w4 ⟨rfl, ⟨S4, hf4, hS4⟩, hsep4⟩
        have Hf4 := Lib.hid hf4
        have Hb4 := Lib.hid (hb.out.trans (hsep4.below hS.out hb.out.size))
        have HS4 := Lib.hid (fun k hk => (hS4 k hk).elim (hS.out k) (Nat.le_trans hb.out.size))
        clear hf4 hsep4 hS4 hf hb hS
        go_wp2
        go_roundw
        case rel => exact ⟨i + 1, S4, by omega, by go_num, Hf4, HS4, Hb4⟩
        case measure => simp [intOf]; omega
      · obtain rfl : i = m := by omega
        clear him
        have Hfa := Lib.hid (Hfind.out wr p _ S' hf.out)
        obtain ⟨r, hr⟩ : ∃ r, r = Bm.findI T (Bm.notesN T i) (k : Int) 1000 := ⟨_, rfl⟩
        rw [← hr] at Hfa Hbest
        clear Hfind Hnote Hkeep Hlt hr hf hS
        go_wp2_with fail
        refine Hfa.out.mono ?_
        rintro e w5 ⟨rfl, hb5⟩
        have Hb5 := Lib.hid (hb.out.trans (hb5.mono hb.out.size))
        clear hb5 hb Hfa
        rename World => wx
        go_wp2
        go_loopw [10, 43] (fun bv jv wr => ∃ j : Nat, j ≤ i ∧ bv = .int .i64 (Bm.bestN T k j : Int) ∧ jv = .int .i64 (j : Int) ∧ Hid (Below w.heap.size w wr)) (fun _ jv _ => i - (intOf jv).toNat)
        case atStart => exact ⟨0, by omega, rfl, rfl, Hb5⟩
        case round =>
          obtain ⟨j, hj, rfl, rfl, hb⟩ := hrel
          clear Hb5
          by_cases hji : j < i
          · have hstep : Bm.bestN T k (j + 1) = if 3 ≤ Bm.sameI T (j : Int) (k : Int) then max (Bm.bestN T k j) (Bm.sameI T (j : Int) (k : Int)) else Bm.bestN T k j := rfl
            have Hrj := Lib.hid (fun W => Hr.out W j (by omega))
            clear Hs Hmid Hbest Hr
            generalize Bm.sameI T (j : Int) (k : Int) = y at *
            generalize Bm.bestN T k j = b at *
            generalize hbn : Bm.bestN T k (j + 1) = b2 at *
            go_wp2_with fail
            refine (Hrj.out _).mono ?_
            rintro e w6 ⟨rfl, m6, rfl⟩
            have Hb6 := Lib.hid (below_drewN hb.out m6)
            clear hb Hrj
            by_cases hy : 3 ≤ y
            · rw [if_pos hy] at hstep
              have dy : decide ((3 : Int) ≤ (y : Int)) = true := decide_eq_true (by omega)
              have hmax : max (b : Int) (y : Int) = (b2 : Int) := by omega
              have Hbn := Lib.hid hbn
              clear hstep hbn
              go_wp2
              go_roundw
              case rel => exact ⟨j + 1, by omega, by rw [Hbn.out], by go_num, Hb6⟩
              case measure => simp [intOf]; omega
            · rw [if_neg hy] at hstep
              have dy : decide ((3 : Int) ≤ (y : Int)) = false := decide_eq_false (by omega)
              subst hstep
              have Hbn := Lib.hid hbn
              clear hbn
              go_wp2
              go_roundw
              case rel => exact ⟨j + 1, by omega, by rw [Hbn.out], by go_num, Hb6⟩
              case measure => simp [intOf]; omega
          · obtain rfl : j = i := by omega
            clear hji Hr
            obtain ⟨hr2, hcase⟩ := Hbest.out
            rcases hcase with hc | ⟨q, hq, hc, hq3⟩
            · have e0 : (Bm.bestN T k j : Int) = 0 := by rw [← hr2, hc]; rfl
              have e1 : (r.1 : Int) = 0 := by rw [hc]; rfl
              have e2 : (r.2 : Int) = 0 := by rw [hc]; rfl
              rw [e0, e1, e2]
              clear Hs Hmid Hbest Hm hr2 e0 e1 e2 hc
              go_wp2
              go_quiet (fail)
              go_wp2
              go_ret
              exact ⟨rfl, below_drewN hb.out _⟩
            · obtain ⟨d, hd⟩ : ∃ d, d = k - q := ⟨_, rfl⟩
              obtain ⟨y, hy⟩ : ∃ y, y = Bm.sameN T q k := ⟨_, rfl⟩
              rw [← hd, ← hy] at hc
              have hyT := (Bm.sameN_le T q k).2
              have hcut := Bm.sameN_cut T q k y hy.symm
              have e0 : (Bm.bestN T k j : Int) = (y : Int) := by rw [← hr2, hc]
              have e1 : (r.1 : Int) = (d : Int) := by rw [hc]
              have e2 : (r.2 : Int) = (y : Int) := by rw [hc]
              have hsI : Bm.sameI T (q : Int) (k : Int) = y := by rw [Bm.sameI, if_pos ⟨by omega, by omega, by omega, by omega⟩, Int.toNat_natCast, Int.toNat_natCast, ← hy]
              have hq2 : (k : Int) - (d : Int) = (q : Int) := by omega
              have hs := fun W => Hs.out W q (by omega)
              rw [hsI] at hs
              have k1 : ∀ W : World, (Instr.slice 9 (.string (strOf T)) (some (.int .i64 (q : Int))) (some (.int .i64 ((q : Int) + (y : Int)))) none).run Try.prog W = .ok (.string (strOf ((T.take (k + y)).drop k))) W := fun W => by
                have h := Hmid.out W q (q + y) (by omega) (by omega)
                rw [hcut, Int.natCast_add] at h
                exact h
              have k2 : ∀ W : World, (Instr.slice 9 (.string (strOf T)) (some (.int .i64 (k : Int))) (some (.int .i64 ((k : Int) + (y : Int)))) none).run Try.prog W = .ok (.string (strOf ((T.take (k + y)).drop k))) W := fun W => by
                have h := Hmid.out W k (k + y) (by omega) (by omega)
                rwa [Int.natCast_add] at h
              have Hs2 := Lib.hid hs
              have hd0 : (0 : Int) < (d : Int) := by omega
              have hy0 : (0 : Int) < (y : Int) := by omega
              have hdk : (d : Int) ≤ (k : Int) := by omega
              have hky : (k : Int) + (y : Int) ≤ (T.length : Int) := by omega
              rw [e0, e1, e2]
              clear Hs Hmid Hbest Hm hr2 hcut hs hsI hc hd hy e0 e1 e2
              generalize strOf ((T.take (k + y)).drop k) = ss at *
              have dd1 : decide (0 < d) = true := decide_eq_true (by omega)
              have dy1 : decide (0 < y) = true := decide_eq_true (by omega)
              go_wp2
              clear dd1 dy1
              have dy0 : ((y : Int) == 0) = false := by rw [beq_eq_false_iff_ne]; omega
              have dyy : ((y : Int) == (y : Int)) = true := beq_self_eq_true _
              have dss : (ss.toList == ss.toList) = true := beq_self_eq_true _
              have ddk : decide ((d : Int) ≤ (k : Int)) = true := decide_eq_true hdk
              have dky : decide ((k : Int) + (y : Int) ≤ (T.length : Int)) = true := decide_eq_true hky
              have w1q : IntKind.i64.wrap ((k : Int) - (d : Int)) = (q : Int) := by rw [← hq2]; exact IntWalk.i64_in _ (by omega)
              have w2q : IntKind.i64.wrap ((q : Int) + (y : Int)) = (q : Int) + (y : Int) := IntWalk.i64_in _ (by omega)
              have w3q : IntKind.i64.wrap ((k : Int) + (y : Int)) = (k : Int) + (y : Int) := IntWalk.i64_in _ (by omega)
              have w0q : IntKind.i64.wrap (q : Int) = (q : Int) := IntWalk.i64_in _ (by omega)
              have ddkN : decide (d ≤ k) = true := decide_eq_true (by omega)
              have dkyN : decide (k + y ≤ T.length) = true := decide_eq_true (by omega)
              go_region_held3 (fun W => Below w.heap.size w W) (first | with_reducible assumption | exact hb.out.drew) (first | (go_at_call 14; (with_reducible refine (Hs2.out _).mono ?_); rintro e wX ⟨rfl, hbX⟩; have HX : Below w.heap.size w wX := Below.trans (by with_reducible assumption) (hbX.mono (Below.size (by with_reducible assumption))); clear hbX))
              go_wp2
              go_ret
              exact ⟨rfl, HX⟩
end Go.Proofs.Ytjoohdeeihjilaa
