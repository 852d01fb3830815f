/-
  DictBack, DictAny (layer 20): the laws' functions by their walks: true for any string. No condition.
-/
import Derived.Test.YtnjmoameedmikaaOk
import Derived.Test.YtnjmoameedmikaaOr
namespace Go.Proofs.Ytnjmoameedmikaa
open Go.RowKit

set_option maxHeartbeats 1000000 in
set_option maxRecDepth 100000 in
theorem dtback_out (X : List Nat) (w : World) (hX : X.length ≤ 9223372036854775807) (h : 400 < X.length) :
    Calls Try.prog 3 #[.string (strOf X)] w fun e w' => e = .returned (.bool true) ∧ Below w.heap.size w w' := by
  have Haw := Lib.hid (dtawake_any w)
  have hs1 := strOf_size X
  have d1 : decide ((400 : Int) < (X.length : Int)) = true := decide_eq_true (by omega)
  generalize strOf X = sX at *
  generalize X.length = m at *
  go_enter Try.func3, Try.ntmps3
  go_wp2_with fail
  refine Haw.out.mono ?_
  rintro e w1 ⟨rfl, hb1⟩
  go_wp2
  go_ret
  exact ⟨rfl, hb1⟩
set_option maxHeartbeats 1000000 in
set_option maxRecDepth 100000 in
theorem dtback_long (X : List Nat) (w : World) (h : X.length ≤ 400) (h2 : 256 < X.length) :
    Calls Try.prog 3 #[.string (strOf X)] w fun e w' => e = .returned (.bool true) ∧ Below w.heap.size w w' := by
  have Haw := Lib.hid (dtawake_any w)
  have Henc := Lib.hid (fun W => dtenc_long X W h2)
  have hs0 : strOf [] = ⟨#[]⟩ := rfl
  rw [hs0] at Henc
  have hs1 := strOf_size X
  have d1 : decide ((400 : Int) < (X.length : Int)) = false := decide_eq_false (by omega)
  have d2 : decide ((256 : Int) < (X.length : Int)) = true := decide_eq_true (by omega)
  generalize strOf X = sX at *
  generalize X.length = m at *
  go_enter Try.func3, Try.ntmps3
  go_wp2_with fail
  refine Haw.out.mono ?_
  rintro e w1 ⟨rfl, hb1⟩
  have Hb1 := Lib.hid hb1
  clear hb1
  go_wp2_with fail
  refine (Henc.out _).mono ?_
  rintro e w2 ⟨rfl, hb2⟩
  have Hb2 := Lib.hid (Hb1.out.trans (hb2.mono Hb1.out.size))
  clear hb2 Hb1
  go_wp2
  go_ret
  exact ⟨rfl, Hb2.out⟩
set_option maxHeartbeats 1000000 in
set_option maxRecDepth 100000 in
theorem dtback_in (X : List Nat) (w : World) (h : X.length ≤ 256) (hlt : ∀ x ∈ X, x < 256) :
    Calls Try.prog 3 #[.string (strOf X)] w fun e w' => e = .returned (.bool true) ∧ Below w.heap.size w w' := by
  have Haw := Lib.hid (dtawake_any w)
  have Henc := Lib.hid (fun W => dtenc_some X W h hlt)
  have hl := Bm.dictN_len (Bm.sumOf X) X
  have h10 := Bm.grp_ten X.length (by omega)
  have Hdec := Lib.hid (fun W => dtdec_any (Bm.dictB X) W (by unfold Bm.dictB; omega) (Bm.dictB_lt X hlt (by omega)))
  rw [Bm.dict_back X h] at Hdec
  dsimp only at Hdec
  have Hby := Lib.hid (fun W => dtrbytes_any X W (by omega) hlt)
  have Hname := Lib.hid (fun W => dtname_any X W (by omega) hlt)
  have Hof := Lib.hid (fun W => gof_any X W (by omega) hlt)
  have hs1 := strOf_size X
  have d1 : decide ((400 : Int) < (X.length : Int)) = false := decide_eq_false (by omega)
  have d2 : decide ((256 : Int) < (X.length : Int)) = false := decide_eq_false (by omega)
  clear hlt hl h10
  generalize strOf (Bm.dictB X) = sD at *
  generalize Bm.sumOf X = v at *
  generalize strOf X = sX at *
  generalize X.length = m at *
  go_enter Try.func3, Try.ntmps3
  go_wp2_with fail
  refine Haw.out.mono ?_
  rintro e w1 ⟨rfl, hb1⟩
  have Hb1 := Lib.hid hb1
  clear hb1
  go_wp2_with fail
  refine (Henc.out _).mono ?_
  rintro e w2 ⟨rfl, hb2⟩
  have Hb2 := Lib.hid (Hb1.out.trans (hb2.mono Hb1.out.size))
  clear hb2 Hb1
  go_wp2_with fail
  refine (Hdec.out _).mono ?_
  rintro e w3 ⟨rfl, hb3⟩
  have Hb3 := Lib.hid (Hb2.out.trans (hb3.mono Hb2.out.size))
  clear hb3 Hb2
  go_wp2_with fail
  refine (Hby.out _).mono ?_
  rintro e w4 ⟨rfl, hb4⟩
  have Hb4 := Lib.hid (Hb3.out.trans (hb4.mono Hb3.out.size))
  clear hb4 Hb3
  go_wp2_with fail
  refine (Hname.out _).mono ?_
  rintro e w5 ⟨rfl, hb5⟩
  have Hb5 := Lib.hid (Hb4.out.trans (hb5.mono Hb4.out.size))
  clear hb5 Hb4
  go_wp2_with fail
  refine (Hof.out _).mono ?_
  rintro e w6 ⟨rfl, rfl⟩
  go_wp2
  go_ret
  exact ⟨rfl, Hb5.out⟩

set_option maxHeartbeats 1000000 in
set_option maxRecDepth 100000 in
theorem dtany_out (X : List Nat) (w : World) (hX : X.length ≤ 9223372036854775807) (h : 400 < X.length) :
    Calls Try.prog 4 #[.string (strOf X)] w fun e w' => e = .returned (.bool true) ∧ Below w.heap.size w w' := by
  have Haw := Lib.hid (dtawake_any w)
  have hs1 := strOf_size X
  have d1 : decide ((400 : Int) < (X.length : Int)) = true := decide_eq_true (by omega)
  generalize strOf X = sX at *
  generalize X.length = m at *
  go_enter Try.func4, Try.ntmps4
  go_wp2_with fail
  refine Haw.out.mono ?_
  rintro e w1 ⟨rfl, hb1⟩
  go_wp2
  go_ret
  exact ⟨rfl, hb1⟩
set_option maxHeartbeats 1000000 in
set_option maxRecDepth 100000 in
theorem dtany_in (X : List Nat) (w : World) (h : X.length ≤ 400) (hlt : ∀ x ∈ X, x < 256) :
    Calls Try.prog 4 #[.string (strOf X)] w fun e w' => e = .returned (.bool true) ∧ Below w.heap.size w w' := by
  have Haw := Lib.hid (dtawake_any w)
  have Hdec := Lib.hid (fun W => dtdec_any X W (by omega) hlt)
  have Href := Lib.hid (fun W => dtrdec_any X W (by omega) hlt)
  have hs1 := strOf_size X
  have d1 : decide ((400 : Int) < (X.length : Int)) = false := decide_eq_false (by omega)
  have hE5 := Bm.dictD_err X
  have hw : IntKind.i64.wrap ((Bm.dictD X).2 : Int) = ((Bm.dictD X).2 : Int) := by rw [IntWalk.i64_in _ (by omega)]
  have hT : (∀ x ∈ (Bm.dictD X).1, x < 256) ∧ (Bm.dictD X).1.length ≤ 256 := by
    by_cases h0 : (Bm.dictD X).2 = 0
    · exact ⟨(Bm.dictD_some X hlt h0).2.2, (Bm.dictD_some X hlt h0).1⟩
    · rw [Bm.dictD_none X h0]; exact ⟨by simp, by simp⟩
  have Henc := Lib.hid (fun W => dtenc_some (Bm.dictD X).1 W hT.2 hT.1)
  have hz : (Bm.dictD X).2 = 0 → strOf (Bm.dictB (Bm.dictD X).1) = strOf X := fun h0 => by rw [(Bm.dictD_some X hlt h0).2.1]
  clear hT hlt
  generalize strOf (Bm.dictB (Bm.dictD X).1) = sB at *
  generalize strOf (Bm.dictD X).1 = sT at *
  generalize (Bm.dictD X).2 = E at *
  generalize strOf X = sX at *
  generalize X.length = m at *
  by_cases h0 : E = 0
  · have hsB := hz h0
    subst h0
    subst hsB
    clear hz
    go_enter Try.func4, Try.ntmps4
    go_wp2_with fail
    refine Haw.out.mono ?_
    rintro e w1 ⟨rfl, hb1⟩
    have Hb1 := Lib.hid hb1
    clear hb1
    go_wp2_with fail
    refine (Hdec.out _).mono ?_
    rintro e w2 ⟨rfl, hb2⟩
    have Hb2 := Lib.hid (Hb1.out.trans (hb2.mono Hb1.out.size))
    clear hb2 Hb1
    go_wp2_with fail
    refine (Href.out _).mono ?_
    rintro e w3 ⟨rfl, hb3⟩
    have Hb3 := Lib.hid (Hb2.out.trans (hb3.mono Hb2.out.size))
    clear hb3 Hb2
    go_wp2_with fail
    refine (Henc.out _).mono ?_
    rintro e w4 ⟨rfl, hb4⟩
    have Hb4 := Lib.hid (Hb3.out.trans (hb4.mono Hb3.out.size))
    clear hb4 Hb3
    go_wp2
    go_ret
    exact ⟨rfl, Hb4.out⟩
  · have he : ((E : Int) == 0) = false := by rw [beq_eq_false_iff_ne]; omega
    clear hz
    go_enter Try.func4, Try.ntmps4
    go_wp2_with fail
    refine Haw.out.mono ?_
    rintro e w1 ⟨rfl, hb1⟩
    have Hb1 := Lib.hid hb1
    clear hb1
    go_wp2_with fail
    refine (Hdec.out _).mono ?_
    rintro e w2 ⟨rfl, hb2⟩
    have Hb2 := Lib.hid (Hb1.out.trans (hb2.mono Hb1.out.size))
    clear hb2 Hb1
    go_wp2_with fail
    refine (Href.out _).mono ?_
    rintro e w3 ⟨rfl, hb3⟩
    have Hb3 := Lib.hid (Hb2.out.trans (hb3.mono Hb2.out.size))
    clear hb3 Hb2
    go_wp2_with fail
    refine (Henc.out _).mono ?_
    rintro e w4 ⟨rfl, hb4⟩
    have Hb4 := Lib.hid (Hb3.out.trans (hb4.mono Hb3.out.size))
    clear hb4 Hb3
    go_wp2
    go_ret
    exact ⟨rfl, Hb4.out⟩
end Go.Proofs.Ytnjmoameedmikaa
