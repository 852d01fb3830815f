/-
  Layer 19's same, laws TrainWorth, TrainPieces, by their walks. Conditions: as each theorem's premises say.
-/
import Derived.Test.YtaebnkeddcbmkaaGk
import Derived.Test.YtaebnkeddcbmkaaGp
namespace Go.Proofs.Ytaebnkeddcbmkaa
open Go.RowKit Go.Proofs.Ytaebnkeddcbmkaa.Bm
set_option maxHeartbeats 1000000 in
set_option maxRecDepth 100000 in
theorem tsame_any (A A2 : Option Addr) (c c2 : Nat) (l : List ByteArray) (w : World) (hl : l.length ≤ 1000000) (h1 : Reads w A (strC l)) (h2 : Reads w A2 (strC l)) :
    Calls Try.prog 9 #[.slice A l.length c, .slice A2 l.length c2] w fun e w' => e = .returned (.bool true) ∧ Below w.heap.size w w' := by
  have H1 := Lib.hid h1
  have H2 := Lib.hid h2
  clear h1 h2
  go_enter Try.func9, Try.ntmps9
  go_wp2
  go_loopw [13] (fun iv wr => ∃ i m : Nat, iv = .int .i64 (i : Int) ∧ i ≤ l.length ∧ wr = w.drewN m) (fun iv _ => l.length - (intOf iv).toNat)
  case atStart => exact ⟨0, 0, rfl, Nat.zero_le _, rfl⟩
  case round =>
    obtain ⟨i, m, rfl, hi, rfl⟩ := hrel
    by_cases hil : i < l.length
    · obtain ⟨gA, oA, eA, hcA⟩ := reads_str H1.out (by omega)
      obtain ⟨gB, oB, eB, hcB⟩ := reads_str H2.out (by omega)
      subst eA eB
      have hca := hcA i hil
      have hcb := hcB i hil
      generalize l[i] = s at hca hcb
      have heq : (s.toList == s.toList) = true := beq_self_eq_true _
      clear hcA hcB
      go_wp2_with fail
      go_quiet (fail)
      go_wp2
      go_roundw
      case rel => exact ⟨i + 1, _, by go_num, by omega, rfl⟩
      case measure => simp [intOf]; omega
    · go_wp2
      go_ret
      exact ⟨rfl, below_drewN (Below.refl _ _) m⟩
set_option maxHeartbeats 1000000 in
set_option maxRecDepth 100000 in
theorem tlworth_any (A : Option Addr) (c : Nat) (R : List ByteArray) (s : ByteArray) (w : World) (hs1 : s.size ≤ 9223372036854775807) (hR : R.length ≤ 9223372036854775807) (hc : R.length ≤ c) (hs : ∀ s ∈ R, s.size ≤ 140737488351232) (hrd : Reads w A (strC R)) (hmax : MaxB w.heap.size w) :
    Calls Try.prog 4 #[.slice A R.length c, .string s] w fun e w' => e = .returned (.bool true) ∧ Below w.heap.size w w' := by
  have Haw := Lib.hid (tawake_any w hmax)
  have Hrd := Lib.hid hrd
  have Hs := Lib.hid hs
  have Hc := Lib.hid hc
  obtain ⟨r, hr⟩ : ∃ r, r = decide (R.length ≤ 70 ∧ sizeT R ≤ 400) := ⟨_, rfl⟩
  have Hsm : Hid (∀ W, Below w.heap.size w W → Calls Try.prog 7 #[.slice A R.length c, .int .i64 70, .int .i64 400] W fun e w' => e = .returned (.bool r) ∧ w' = W) := Lib.hid (fun W hW => by
    have h1 := tsmall_any A c R 70 400 W (by decide) (by decide) hR hs (reads_on hrd hW)
    rw [← hr] at h1
    exact h1)
  clear hrd hs hmax hc hr
  go_enter Try.func4, Try.ntmps4
  go_wp2_with fail
  refine Haw.out.mono ?_
  rintro e w1 ⟨rfl, hb1⟩
  have Hb1 := Lib.hid hb1
  clear hb1 Haw
  go_wp2_with fail
  refine (Hsm.out w1 Hb1.out).mono ?_
  rintro e w2 ⟨rfl, rfl⟩
  clear Hsm
  cases r with
  | false =>
    go_wp2
    go_ret
    exact ⟨rfl, Hb1.out⟩
  | true =>
    by_cases h60 : 60 < s.size
    · have d0 : decide ((60 : Int) < (s.size : Int)) = true := decide_eq_true (by omega)
      go_wp2
      go_ret
      exact ⟨rfl, Hb1.out⟩
    · have d0 : decide ((60 : Int) < (s.size : Int)) = false := decide_eq_false (by omega)
      obtain ⟨v, hv⟩ : ∃ v, v = worthL (brt R) [] s := ⟨_, rfl⟩
      have Hw1 := Lib.hid (tworth_any A c R s w2 (by omega) hR Hc.out Hs.out (reads_on Hrd.out Hb1.out))
      rw [← hv] at Hw1
      have Hv := Lib.hid hv
      clear hv
      go_wp2_with fail
      refine Hw1.out.mono ?_
      rintro e w3 ⟨rfl, hb3⟩
      have Hb3 := Lib.hid (Hb1.out.trans (hb3.mono Hb1.out.size))
      have Hbr := Lib.hid (trbrought_any A c R w3 hR Hs.out (reads_on Hrd.out Hb3.out))
      clear hb3 Hw1
      go_wp2_with fail
      refine Hbr.out.mono ?_
      rintro e w4 ⟨u, rfl, ho, hb4⟩
      obtain ⟨A4, c4, rfl, _, _, hr4⟩ := ho.reads
      have Hb4 := Lib.hid (Hb3.out.trans (hb4.mono Hb3.out.size))
      have hw4 := trworth_any A4 none c4 0 (brt R) [] s w4 (by omega) (by rw [brt_length]; omega) (fun x hx => Nat.le_trans (brt_size R x hx) (by decide)) hr4 (by simp) (fun x hx => by simp at hx) (fun h => absurd rfl h)
      rw [← Hv.out] at hw4
      have Hw4 : Hid (Calls Try.prog 13 #[.slice A4 (brt R).length c4, .string s, .slice none 0 0] w4 fun e w' => e = .returned (.int .i64 (v : Int)) ∧ w' = w4) := Lib.hid hw4
      clear ho hb4 hr4 Hbr hw4
      go_wp2_with fail
      refine Hw4.out.mono ?_
      rintro e w5 ⟨rfl, rfl⟩
      go_wp2
      go_ret
      exact ⟨by simp, Hb4.out⟩
set_option maxHeartbeats 1000000 in
set_option maxRecDepth 100000 in
theorem tlpieces_any (A : Option Addr) (c : Nat) (R : List ByteArray) (sz : Int) (w : World) (hsz : -9223372036854775808 ≤ sz) (hR : R.length ≤ 9223372036854775807) (hc : R.length ≤ c) (hs : ∀ s ∈ R, s.size ≤ 140737488351232) (hrd : Reads w A (strC R)) (hmax : MaxB w.heap.size w) :
    Calls Try.prog 3 #[.slice A R.length c, .int .i64 sz] w fun e w' => e = .returned (.bool true) ∧ Below w.heap.size w w' := by
  have Haw := Lib.hid (tawake_any w hmax)
  have Hrd := Lib.hid hrd
  have Hs := Lib.hid hs
  have Hc := Lib.hid hc
  have Hmax := Lib.hid hmax
  have Hsz := Lib.hid hsz
  obtain ⟨r, hr⟩ : ∃ r, r = decide (R.length ≤ 70 ∧ sizeT R ≤ 240) := ⟨_, rfl⟩
  have Hsm : Hid (∀ W, Below w.heap.size w W → Calls Try.prog 7 #[.slice A R.length c, .int .i64 70, .int .i64 240] W fun e w' => e = .returned (.bool r) ∧ w' = W) := Lib.hid (fun W hW => by
    have h1 := tsmall_any A c R 70 240 W (by decide) (by decide) hR hs (reads_on hrd hW)
    rw [← hr] at h1
    exact h1)
  clear hrd hs hmax hc hr hsz
  go_enter Try.func3, Try.ntmps3
  go_wp2_with fail
  refine Haw.out.mono ?_
  rintro e w1 ⟨rfl, hb1⟩
  have Hb1 := Lib.hid hb1
  clear hb1 Haw
  go_wp2_with fail
  refine (Hsm.out w1 Hb1.out).mono ?_
  rintro e w2 ⟨rfl, rfl⟩
  clear Hsm
  cases r with
  | false =>
    go_wp2
    go_ret
    exact ⟨rfl, Hb1.out⟩
  | true =>
    obtain ⟨P, hP⟩ : ∃ P, P = chosen (brt R) (szN sz) := ⟨_, rfl⟩
    have hPl : P.length ≤ 256 := by rw [hP]; exact Nat.le_trans (chosen_length _ _) (szN_le sz)
    have hPs : sizeT P ≤ szN sz := by rw [hP]; exact chosen_size _ _
    have Hp1 := Lib.hid (tpieces_any A c R sz w2 hR Hc.out Hs.out (reads_on Hrd.out Hb1.out) (maxB_on Hmax.out Hb1.out))
    rw [show (min (max sz 0) 256).toNat = szN sz from rfl, ← hP] at Hp1
    have Hp2 : Hid (∀ W, Below w.heap.size w W → Calls Try.prog 10 #[.slice A R.length c, .int .i64 sz] W fun e w' => ∃ v, e = .returned v ∧ OwnS w' W.heap.size v P ∧ Below W.heap.size W w') := Lib.hid (fun W hW => by
      have h1 := trpieces_any A c R sz W Hsz.out hR Hs.out (reads_on Hrd.out hW)
      rw [show (min (max sz 0) 256).toNat = szN sz from rfl, ← hP] at h1
      exact h1)
    have Hp3 : Hid (∀ W, Below w.heap.size w W → Calls Try.prog 11 #[.slice A R.length c, .int .i64 sz] W fun e w' => e = .returned (.string (catR P)) ∧ Below W.heap.size W w') := Lib.hid (fun W hW => by
      have h1 := ttrain_any A c R sz W hR Hc.out Hs.out (reads_on Hrd.out hW) (maxB_on Hmax.out hW)
      unfold trainD at h1
      rw [← hP] at h1
      exact h1)
    have HPs := Lib.hid hPs
    clear hP hPs
    go_wp2_with fail
    refine Hp1.out.mono ?_
    rintro e w3 ⟨v, rfl, ho3, hb3⟩
    obtain ⟨A3, c3, rfl, _, _, hr3⟩ := ho3.reads
    have Hb3 := Lib.hid (Hb1.out.trans (hb3.mono Hb1.out.size))
    have Hr3 := Lib.hid hr3
    clear ho3 hb3 hr3 Hp1
    go_wp2_with fail
    refine (Hp2.out w3 Hb3.out).mono ?_
    rintro e w4 ⟨v, rfl, ho4, hb4⟩
    obtain ⟨A4, c4, rfl, _, _, hr4⟩ := ho4.reads
    have Hb4 := Lib.hid (Hb3.out.trans (hb4.mono Hb3.out.size))
    have Hr4 := Lib.hid (reads_on Hr3.out hb4)
    have Hsa := Lib.hid (tsame_any A3 A4 c3 c4 P w4 (by omega) Hr4.out hr4)
    clear ho4 hb4 hr4 Hp2
    go_wp2_with fail
    refine Hsa.out.mono ?_
    rintro e w5 ⟨rfl, hb5⟩
    have Hb5 := Lib.hid (Hb4.out.trans (hb5.mono Hb4.out.size))
    have Hr5 := Lib.hid (reads_on Hr4.out hb5)
    have Hcat0 : Hid (catR (P.take 0) = ⟨#[]⟩) := Lib.hid (by simp [catR])
    clear hb5 Hsa
    go_wp2
    go_loopw [6, 25] (fun sv iv wr => ∃ i : Nat, iv = .int .i64 (i : Int) ∧ i ≤ P.length ∧ sv = .string (catR (P.take i)) ∧ wr = w5) (fun _ iv _ => P.length - (intOf iv).toNat)
    case atStart => exact ⟨0, rfl, Nat.zero_le _, by rw [Hcat0.out], rfl⟩
    case round =>
      clear Hcat0
      obtain ⟨i, rfl, hi, rfl, rfl⟩ := hrel
      by_cases hil : i < P.length
      · obtain ⟨gA, oA, eA, hcA⟩ := reads_str Hr5.out (by omega)
        subst eA
        have hcell := hcA i hil
        obtain ⟨s, hsd⟩ : ∃ s, s = P[i] := ⟨_, rfl⟩
        rw [← hsd] at hcell
        obtain ⟨x, hx⟩ : ∃ x, x = catR (P.take i) := ⟨_, rfl⟩
        have Hx2 : Hid (catR (P.take (i + 1)) = s ++ x) := Lib.hid (by rw [List.take_succ_eq_append_getElem hil, catR_snoc, ← hsd, hx])
        have hsum : s.size + x.size ≤ 256 := by
          have h1 : sizeT (P.take (i + 1)) = sizeT (P.take i) + s.size := by rw [List.take_succ_eq_append_getElem hil, sizeT_snoc, ← hsd]
          have h2 : sizeT P = sizeT (P.take (i + 1)) + sizeT (P.drop (i + 1)) := by
            conv => lhs; rw [← List.take_append_drop (i + 1) P]
            unfold sizeT
            rw [List.map_append, List.sum_append]
          have h3 := HPs.out
          have h4 := szN_le sz
          rw [hx, catR_size]
          omega
        have hadd : ∀ W, (Op.stringOp .add s x).run Try.prog W = .ok (.string (s ++ x)) W := fun W => run_string_add_sum W _ _ (by omega)
        rw [← hx]
        clear hcA hsd hx
        go_wp2
        go_roundw
        case rel => exact ⟨i + 1, by go_num, by omega, by rw [Hx2.out], by first | rfl | trivial⟩
        case measure => simp [intOf]; omega
      · have Hfin : Hid (P.take i = P) := Lib.hid (List.take_of_length_le (by omega))
        rw [Hfin.out]
        obtain ⟨x, hx⟩ : ∃ x, x = catR P := ⟨_, rfl⟩
        have Ht := Lib.hid (Hp3.out wr Hb5.out)
        rw [← hx] at Ht ⊢
        have hxs : (x.size : Int) ≤ min (max sz 0) 256 := by
          have h1 := HPs.out
          rw [hx, catR_size]
          unfold szN at h1
          omega
        have heq : (x.toList == x.toList) = true := beq_self_eq_true _
        clear hx Hp3
        go_wp2_with fail
        refine Ht.out.mono ?_
        rintro e w6 ⟨rfl, hb6⟩
        have Hb6 := Lib.hid (Hb5.out.trans (hb6.mono Hb5.out.size))
        clear hb6
        go_wp2
        go_ret
        exact ⟨rfl, Hb6.out⟩
end Go.Proofs.Ytaebnkeddcbmkaa
