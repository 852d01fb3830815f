/-
  The reference of layer 19 (train), by its walk: Brought, Pieces. Conditions: as each theorem's premises say.
-/
import Derived.Test.YtaebnkeddcbmkaaGr
import Derived.Test.YtaebnkeddcbmkaaGx
namespace Go.Proofs.Ytaebnkeddcbmkaa
open Go.RowKit Go.Proofs.Ytaebnkeddcbmkaa.Bm
set_option maxHeartbeats 1000000 in
set_option maxRecDepth 100000 in
theorem trbrought_any (A : Option Addr) (c : Nat) (R : List ByteArray) (w : World) (hR : R.length ≤ 9223372036854775807) (hs : ∀ s ∈ R, s.size ≤ 140737488351232) (hrd : Reads w A (strC R)) :
    Calls Try.prog 14 #[.slice A R.length c] w fun e w' => ∃ u, e = .returned u ∧ OwnS w' w.heap.size u (brt R) ∧ Below w.heap.size w w' := by
  have Hrd := Lib.hid hrd
  have Hs := Lib.hid hs
  have Ho0 : Hid (OwnS w w.heap.size (.slice none 0 0) ((R.take 0).map cutT)) := Lib.hid (ownS_nil _ _)
  clear hrd hs
  go_enter Try.func14, Try.ntmps14
  go_wp2
  go_loopw [3, 4] (fun ov iv wr => ∃ i : Nat, iv = .int .i64 (i : Int) ∧ i ≤ R.length ∧ i ≤ 64 ∧ Hid (OwnS wr w.heap.size ov ((R.take i).map cutT)) ∧ Hid (Below w.heap.size w wr)) (fun _ iv _ => 64 - (intOf iv).toNat)
  case atStart => exact ⟨0, rfl, Nat.zero_le _, Nat.zero_le _, Ho0, Lib.hid (Below.refl _ _)⟩
  case round =>
    obtain ⟨i, rfl, hi, hi64, Ho, Hb⟩ := hrel
    clear Ho0
    by_cases hil : i < R.length
    · by_cases h64 : i < 64
      · obtain ⟨gA, oA, eA, hcA⟩ := reads_str (reads_on Hrd.out Hb.out) (by omega)
        subst eA
        have hcell := hcA i hil
        obtain ⟨s, hsd⟩ : ∃ s, s = R[i] := ⟨_, rfl⟩
        rw [← hsd] at hcell
        have hss : s.size ≤ 140737488351232 := by rw [hsd]; exact Hs.out _ (List.getElem_mem hil)
        have Hts : Hid ((R.take (i + 1)).map cutT = (R.take i).map cutT ++ [cutT s]) := Lib.hid (by rw [List.take_succ_eq_append_getElem hil, List.map_append, List.map_singleton, hsd])
        have hTl : ((R.take i).map cutT).length ≤ 1000000 := by rw [List.length_map, List.length_take]; omega
        have Hbs : Hid (w.heap.size ≤ wr.heap.size) := Lib.hid Hb.out.size
        clear hcA hsd
        by_cases h512 : 512 < s.size
        · have hct : ∀ W, (Instr.slice 9 (.string s) none (some (.int .i64 512)) none).run Try.prog W = .ok (.string (cutT s)) W := fun W => by
            rw [run_slice_string_to_if W 9 s .i64 512 Try.underlying9, if_pos ⟨by omega, by omega⟩]
            unfold cutT
            rw [if_pos h512]
            rfl
          go_wp2_with (at_builtin; refine wpS_append (cutT s) rfl _ _ rfl w.heap.size _ _ rfl Ho.out rfl hTl Hbs.out ?_)
          intro v' w8 ho8 hb8
          have Ho8 : Hid (OwnS w8 w.heap.size v' ((R.take (i + 1)).map cutT)) := Lib.hid (by rw [Hts.out, List.map_take]; exact ho8)
          have Hb8 : Hid (Below w.heap.size w w8) := Lib.hid (Hb.out.trans hb8)
          clear ho8 hb8 hct
          go_wp2
          go_roundw
          case rel => exact ⟨i + 1, by go_num, by omega, by omega, Ho8, Hb8⟩
          case measure => simp [intOf]; omega
        · have hct : cutT s = s := by unfold cutT; rw [if_neg h512]
          rw [hct] at Hts
          clear hct
          go_wp2_with (at_builtin; refine wpS_append s rfl _ _ rfl w.heap.size _ _ rfl Ho.out rfl hTl Hbs.out ?_)
          intro v' w8 ho8 hb8
          have Ho8 : Hid (OwnS w8 w.heap.size v' ((R.take (i + 1)).map cutT)) := Lib.hid (by rw [Hts.out, List.map_take]; exact ho8)
          have Hb8 : Hid (Below w.heap.size w w8) := Lib.hid (Hb.out.trans hb8)
          clear ho8 hb8
          go_wp2
          go_roundw
          case rel => exact ⟨i + 1, by go_num, by omega, by omega, Ho8, Hb8⟩
          case measure => simp [intOf]; omega
      · have Hend : Hid (OwnS wr w.heap.size u3 (brt R)) := Lib.hid (by have h1 := Ho.out; rw [show i = 64 by omega] at h1; exact h1)
        go_wp2
        go_ret
        exact ⟨_, rfl, Hend.out, Hb.out⟩
    · have Hend : Hid (OwnS wr w.heap.size u3 (brt R)) := Lib.hid (by
        have h1 := Ho.out
        unfold brt
        rw [List.take_of_length_le (by omega)] at h1 ⊢
        exact h1)
      go_wp2
      go_ret
      exact ⟨_, rfl, Hend.out, Hb.out⟩
/-- What is held in the rounds of the reference's Pieces. -/
def RpI (B1 : Nat) (B fin : List ByteArray) (w1 wr : World) (T : List ByteArray) (left : Nat) (v : Value) : Prop :=
  OwnS wr B1 v T ∧ (∃ f, left < f ∧ pcN B f left T = fin) ∧ Below B1 w1 wr ∧ ∀ t ∈ T, t.size ≤ 16
set_option maxHeartbeats 2000000 in
set_option maxRecDepth 100000 in
theorem trpieces_any (A : Option Addr) (c : Nat) (R : List ByteArray) (sz : Int) (w : World) (hsz : -9223372036854775808 ≤ sz) (hR : R.length ≤ 9223372036854775807) (hs : ∀ s ∈ R, s.size ≤ 140737488351232) (hrd : Reads w A (strC R)) :
    Calls Try.prog 10 #[.slice A R.length c, .int .i64 sz] w fun e w' => ∃ v, e = .returned v ∧ OwnS w' w.heap.size v (chosen (brt R) (min (max sz 0) 256).toNat) ∧ Below w.heap.size w w' := by
  obtain ⟨q, hq⟩ : ∃ q, q = (min (max sz 0) 256).toNat := ⟨_, rfl⟩
  obtain ⟨z0, hz0⟩ : ∃ z0, z0 = min sz 256 := ⟨_, rfl⟩
  have hzq : z0.toNat = q ∧ z0 ≤ 256 ∧ -9223372036854775808 ≤ z0 := by omega
  have hcase : (256 < sz ∧ z0 = 256) ∨ (sz ≤ 256 ∧ z0 = sz) := by omega
  rw [← hq]
  have hq256 : q ≤ 256 := by omega
  obtain ⟨fin, hfin⟩ : ∃ fin, fin = chosen (brt R) q := ⟨_, rfl⟩
  rw [← hfin]
  have Hfin : Hid (pcN (brt R) (q + 1) q [] = fin) := Lib.hid hfin.symm
  obtain ⟨B, hB⟩ : ∃ B, B = brt R := ⟨_, rfl⟩
  have hBl : B.length ≤ 64 := by rw [hB, brt_length]; omega
  have hBs : ∀ s ∈ B, s.size ≤ 512 := fun s h => brt_size R s (by rw [← hB]; exact h)
  have Hcnt := Lib.hid (trbrought_any A c R w hR hs hrd)
  rw [← hB] at Hcnt Hfin
  have HBs := Lib.hid hBs
  have HBl := Lib.hid hBl
  have Hzq := Lib.hid hzq
  have Hcase := Lib.hid hcase
  clear hR hs hrd hq hfin hB hBs hBl hzq hz0 hcase hsz
  go_enter Try.func10, Try.ntmps10
  go_wp2_with fail
  refine Hcnt.out.mono ?_
  rintro e w1 ⟨u, rfl, hu, hb1⟩
  obtain ⟨A1, c1, rfl, hc1, hc12, hr1⟩ := hu.reads
  have Hr1 := Lib.hid hr1
  have Hb1 := Lib.hid hb1
  have hBl2 : B.length ≤ 64 := HBl.out
  clear hu hb1 hr1 Hcnt
  go_upto_if 16 with fail
  go_cut [1] from 17 to 17 (fun s1 wx => wx = w1 ∧ s1 = .int .i64 z0)
  case first =>
    rcases Hcase.out with ⟨h1, h2⟩ | ⟨h1, h2⟩
    · have d0 : decide (256 < sz) = true := decide_eq_true h1
      go_wp2
      go_meet
      exact ⟨rfl, by rw [h2]⟩
    · have d0 : decide (256 < sz) = false := decide_eq_false (by omega)
      go_wp2
      go_meet
      exact ⟨rfl, by rw [h2]⟩
  case rest =>
  obtain ⟨hwc, rfl⟩ := hcut
  have hwc2 := hwc.symm
  subst hwc2
  clear Hcase
  obtain ⟨B1, hB1⟩ : ∃ B1, B1 = w1.heap.size := ⟨_, rfl⟩
  have HB1 : Hid (w.heap.size ≤ B1) := Lib.hid (by rw [hB1]; exact Hb1.out.size)
  have HB1' := Lib.hid hB1
  have HI0 : Hid (RpI B1 B fin w1 w1 [] z0.toNat (.slice none 0 0)) := Lib.hid ⟨ownS_nil _ _, ⟨q + 1, by rw [Hzq.out.1]; exact Nat.lt_succ_self _, by rw [Hzq.out.1]; exact Hfin.out⟩, Below.refl _ _, fun t ht => by simp at ht⟩
  have hz0b : ([] : List ByteArray).length + z0.toNat ≤ 256 := by rw [Hzq.out.1]; simpa using hq256
  have hz1 : z0 ≤ 256 ∧ -9223372036854775808 ≤ z0 := Hzq.out.2
  clear hB1
  go_wp2
  go_loopw [1, 6] (fun sv ov wr => ∃ (T : List ByteArray) (z : Int), sv = .int .i64 z ∧ z ≤ 256 ∧ -9223372036854775808 ≤ z ∧ T.length + z.toNat ≤ 256 ∧ Hid (RpI B1 B fin w1 wr T z.toNat ov)) (fun sv _ _ => (intOf sv).toNat)
  case atStart => exact ⟨[], z0, rfl, hz1.1, hz1.2, hz0b, HI0⟩
  case round =>
    clear hz0b hz1 HI0 Hzq
    obtain ⟨T, z, rfl, hz2, hz3, hTz, HI⟩ := hrel
    obtain ⟨hI1, _, hI3, hI4⟩ := HI.out
    obtain ⟨A2, c2, hv2, hc2, hc22, hr2⟩ := hI1.reads
    subst hv2
    have hTl : T.length ≤ 256 := by omega
    have Hr2 := Lib.hid hr2
    have Hrw := Lib.hid (reads_on Hr1.out (hI3.mono (by rw [HB1'.out]; exact Nat.le_refl _)))
    have Hts : Hid (∀ t ∈ T, t.size ≤ 140737488351232) := Lib.hid (fun t ht => Nat.le_trans (hI4 t ht) (by decide))
    have Hwo : Hid (∀ t : ByteArray, t.size ≤ 100000 → Calls Try.prog 13 #[.slice A1 B.length c1, .string t, .slice A2 T.length c2] wr fun e w' => e = .returned (.int .i64 ((worthL B T t : Nat) : Int)) ∧ w' = wr) := Lib.hid (fun t ht =>
      trworth_any A1 A2 c1 c2 B T t wr ht (by omega) (fun s h => Nat.le_trans (HBs.out s h) (by decide)) Hrw.out (by omega) Hts.out Hr2.out)
    have Hsc0 : Hid (scan (worthL B T) (cnd (B.drop 0)) (⟨#[]⟩, 0) = bst B T) := Lib.hid rfl
    clear hI1 hI3 hI4 hr2
    go_wp2
    rename World => wo
    go_loopw [7, 8, 9] (fun bv mv iv wr => ∃ (b : ByteArray) (m i : Nat), bv = .string b ∧ mv = .int .i64 (m : Int) ∧ iv = .int .i64 (i : Int) ∧ i ≤ B.length ∧ Hid (scan (worthL B T) (cnd (B.drop i)) (b, m) = bst B T) ∧ wr = wo) (fun _ _ iv _ => B.length - (intOf iv).toNat)
    case atStart => exact ⟨⟨#[]⟩, 0, 0, rfl, rfl, rfl, Nat.zero_le _, Hsc0, rfl⟩
    case round =>
      clear Hsc0
      obtain ⟨b, m, i, rfl, rfl, rfl, hi, Hsc, rfl⟩ := hrel
      by_cases hil : i < B.length
      · obtain ⟨gA, oA, eA, hcA⟩ := reads_str Hrw.out (by omega)
        subst eA
        have hcell := hcA i hil
        obtain ⟨s, hsd⟩ : ∃ s, s = B[i] := ⟨_, rfl⟩
        rw [← hsd] at hcell
        have hss : s.size ≤ 512 := by rw [hsd]; exact HBs.out _ (List.getElem_mem hil)
        have Hdr : Hid (cnd (B.drop i) = pcs s ++ cnd (B.drop (i + 1))) := Lib.hid (by rw [List.drop_eq_getElem_cons hil, ← hsd]; rfl)
        obtain ⟨y, hy⟩ : ∃ y, y = min s.size 16 := ⟨_, rfl⟩
        obtain ⟨N, hN⟩ : ∃ N, N = (pcs s).length := ⟨_, rfl⟩
        have hy16 : y ≤ 16 := by omega
        have hyc : (16 < s.size ∧ y = 16) ∨ (s.size ≤ 16 ∧ y = s.size) := by omega
        have hyN : ∀ k, k < N → 6 ≤ y ∧ k + y ≤ s.size ∧ psz s = y := by
          intro k hk
          rw [hN, pcs_length] at hk
          unfold psz at hk ⊢
          omega
        have hyE : 6 ≤ y → ¬ N + y ≤ s.size := by
          intro h6 hle
          rw [hN, pcs_length] at hle
          unfold psz at hle
          omega
        have hN512 : N ≤ 512 := by
          have := psz_in s
          rw [hN, pcs_length]
          omega
        have Hyc := Lib.hid hyc
        have HyN := Lib.hid hyN
        have HyE := Lib.hid hyE
        have HN := Lib.hid hN
        clear hcA hsd hy hyc hyN hyE hN
        go_upto_if 29 with fail
        go_cut [10] from 30 to 30 (fun s10 wx => wx = wr ∧ s10 = .int .i64 (y : Int))
        case first =>
          rcases Hyc.out with ⟨h1, h2⟩ | ⟨h1, h2⟩
          · have d0 : decide ((16 : Int) < (s.size : Int)) = true := decide_eq_true (by omega)
            go_wp2
            go_meet
            exact ⟨rfl, by rw [h2]; rfl⟩
          · have d0 : decide ((16 : Int) < (s.size : Int)) = false := decide_eq_false (by omega)
            go_wp2
            go_meet
            exact ⟨rfl, by rw [h2]⟩
        case rest =>
        obtain ⟨hwd, rfl⟩ := hcut
        have hwd2 := hwd.symm
        subst hwd2
        clear Hyc
        have Hsk : Hid (scan (worthL B T) ((pcs s).drop 0 ++ cnd (B.drop (i + 1))) (b, m) = bst B T) := Lib.hid (by rw [List.drop_zero, ← Hdr.out]; exact Hsc.out)
        clear Hsc
        go_wp2
        rename World => wp
        go_loopw [7, 8, 11] (fun bv mv kv wr => ∃ (b : ByteArray) (m k : Nat), bv = .string b ∧ mv = .int .i64 (m : Int) ∧ kv = .int .i64 (k : Int) ∧ k ≤ N ∧ Hid (scan (worthL B T) ((pcs s).drop k ++ cnd (B.drop (i + 1))) (b, m) = bst B T) ∧ wr = wp) (fun _ _ kv _ => N - (intOf kv).toNat)
        case atStart => exact ⟨b, m, 0, rfl, rfl, rfl, Nat.zero_le _, Hsk, rfl⟩
        case round =>
          clear Hsk
          obtain ⟨b, m, k, rfl, rfl, rfl, hk, Hsk, rfl⟩ := hrel
          by_cases hkN : k < N
          · obtain ⟨h6, hky, hpy⟩ := HyN.out k hkN
            have d6 : decide ((6 : Int) ≤ (y : Int)) = true := decide_eq_true (by omega)
            have dk : (k : Int) + (y : Int) ≤ (s.size : Int) := by omega
            have hkl : k < (pcs s).length := by rw [← HN.out]; exact hkN
            obtain ⟨t, ht⟩ : ∃ t, t = s.extract k (k + y) := ⟨_, rfl⟩
            have hcut2 : ∀ W, (Instr.slice 9 (.string s) (some (.int .i64 (k : Int))) (some (.int .i64 ((k : Int) + (y : Int)))) none).run Try.prog W = .ok (.string t) W := fun W => by
              have h1 := scut_any s k (k + y) (by omega) hky W
              rw [show ((k + y : Nat) : Int) = (k : Int) + (y : Int) by omega, ← ht] at h1
              exact h1
            have hts : t.size ≤ 100000 := by rw [ht, ByteArray.size_extract]; omega
            have Hnx : Hid ((pcs s).drop k = t :: (pcs s).drop (k + 1)) := Lib.hid (by rw [List.drop_eq_getElem_cons hkl, pcs_get, hpy, ht])
            obtain ⟨v, hv⟩ : ∃ v, v = worthL B T t := ⟨_, rfl⟩
            have Hcall := Lib.hid (Hwo.out t hts)
            rw [← hv] at Hcall
            have Hst : Hid (scan (worthL B T) ((pcs s).drop (k + 1) ++ cnd (B.drop (i + 1))) (if m < v then (t, v) else (b, m)) = bst B T) := Lib.hid (by
              have h1 := Hsk.out
              rw [Hnx.out, List.cons_append, scan, ← hv] at h1
              exact h1)
            clear ht hkl hts hv hpy
            by_cases hmv : m < v
            · have dm : decide ((m : Int) < (v : Int)) = true := decide_eq_true (by omega)
              have Hs2 : Hid (scan (worthL B T) ((pcs s).drop (k + 1) ++ cnd (B.drop (i + 1))) (t, v) = bst B T) := Lib.hid (by have h1 := Hst.out; rw [if_pos hmv] at h1; exact h1)
              clear Hst
              go_wp2_with fail
              refine Hcall.out.mono ?_
              rintro e w4 ⟨rfl, rfl⟩
              go_wp2
              go_roundw
              case rel => exact ⟨t, v, k + 1, rfl, rfl, by go_num, by omega, Hs2, by first | rfl | trivial⟩
              case measure => simp [intOf]; omega
            · have dm : decide ((m : Int) < (v : Int)) = false := decide_eq_false (by omega)
              have Hs2 : Hid (scan (worthL B T) ((pcs s).drop (k + 1) ++ cnd (B.drop (i + 1))) (b, m) = bst B T) := Lib.hid (by have h1 := Hst.out; rw [if_neg hmv] at h1; exact h1)
              clear Hst
              go_wp2_with fail
              refine Hcall.out.mono ?_
              rintro e w4 ⟨rfl, rfl⟩
              go_wp2
              go_roundw
              case rel => exact ⟨b, m, k + 1, rfl, rfl, by go_num, by omega, Hs2, by first | rfl | trivial⟩
              case measure => simp [intOf]; omega
          · have hkE : k = N := by omega
            have Hs2 : Hid (scan (worthL B T) (cnd (B.drop (i + 1))) (b, m) = bst B T) := Lib.hid (by
              have h1 := Hsk.out
              rw [hkE, HN.out, List.drop_length, List.nil_append] at h1
              exact h1)
            by_cases h6 : 6 ≤ y
            · have d6 : decide ((6 : Int) ≤ (y : Int)) = true := decide_eq_true (by omega)
              have dk : ¬ (k : Int) + (y : Int) ≤ (s.size : Int) := by have := HyE.out h6; omega
              clear hkE
              go_wp2
              go_roundw
              case rel => exact ⟨b, m, i + 1, rfl, rfl, by go_num, by omega, Hs2, by first | rfl | trivial⟩
              case measure => simp [intOf]; omega
            · have d6 : decide ((6 : Int) ≤ (y : Int)) = false := decide_eq_false (by omega)
              clear hkE
              go_wp2
              go_roundw
              case rel => exact ⟨b, m, i + 1, rfl, rfl, by go_num, by omega, Hs2, by first | rfl | trivial⟩
              case measure => simp [intOf]; omega
      · have hbst : bst B T = (b, m) := by
          have h1 := Hsc.out
          rw [List.drop_eq_nil_of_le (by omega)] at h1
          exact h1.symm
        have Hbst := Lib.hid hbst
        clear Hsc
        have Hend : Hid (fin = T → ∃ v, Ending.returned (Value.slice A2 T.length c2) = .returned v ∧ OwnS wr w.heap.size v fin ∧ Below w.heap.size w wr) := Lib.hid (fun e => by
          obtain ⟨h1, _, h3, _⟩ := HI.out
          exact ⟨_, rfl, by rw [e]; exact h1.low HB1.out, Hb1.out.trans (h3.mono HB1.out)⟩)
        have Hpe : Hid ((bst B T).2 = 0 ∨ z.toNat < (bst B T).1.size → fin = T) := Lib.hid (fun h => by
          obtain ⟨_, ⟨f, _, h2⟩, _⟩ := HI.out
          rw [← h2]
          exact pcN_end B f _ T h)
        clear hbst
        by_cases hm0 : m = 0
        · have hfT := Lib.hid (Hend.out (Hpe.out (.inl (by rw [Hbst.out]; exact hm0))))
          subst hm0
          go_wp2
          go_ret
          exact hfT.out
        · have hmp : 0 < m := by omega
          have dm : ((m : Int) == 0) = false := by rw [beq_eq_false_iff_ne]; omega
          obtain ⟨hb6, hb16⟩ : 6 ≤ b.size ∧ b.size ≤ 16 := by
            have h1 := bst_size B T (by rw [Hbst.out]; exact hmp)
            rw [Hbst.out] at h1
            exact h1
          by_cases hzb : z < (b.size : Int)
          · have hfT := Lib.hid (Hend.out (Hpe.out (.inr (by rw [Hbst.out]; show z.toNat < b.size; omega))))
            go_wp2
            go_ret
            exact hfT.out
          · have dz : decide (z < (b.size : Int)) = false := decide_eq_false hzb
            have Hbs : Hid (B1 ≤ wr.heap.size) := Lib.hid (by obtain ⟨_, _, h3, _⟩ := HI.out; exact Nat.le_trans (by rw [HB1'.out]; exact Nat.le_refl _) h3.size)
            have Hoo : Hid (OwnS wr B1 (.slice A2 T.length c2) T) := Lib.hid HI.out.1
            go_wp2_with (at_builtin; refine wpS_append b rfl _ _ rfl B1 _ T rfl Hoo.out rfl (by omega) Hbs.out ?_)
            intro v' w8 ho8 hb8
            have HI8 : Hid (RpI B1 B fin w1 w8 (T ++ [b]) (z - (b.size : Int)).toNat v') := Lib.hid (by
              obtain ⟨_, ⟨f, hf, hpc⟩, h3, h4⟩ := HI.out
              obtain ⟨f', rfl⟩ : ∃ f', f = f' + 1 := ⟨f - 1, by omega⟩
              have hbs := Hbst.out
              rw [pcN_step B f' z.toNat T (by rw [hbs]; show ¬ (m = 0 ∨ z.toNat < b.size); omega), hbs] at hpc
              have e : (z - (b.size : Int)).toNat = z.toNat - b.size := by omega
              rw [e]
              exact ⟨ho8, ⟨f', by omega, hpc⟩, h3.trans hb8, fun t ht => by
                rcases List.mem_append.1 ht with h | h
                · exact h4 t h
                · rw [List.mem_singleton.1 h]; exact hb16⟩)
            clear ho8 hb8 Hoo
            go_wp2
            go_roundw
            case rel => exact ⟨T ++ [b], z - (b.size : Int), by go_num, by omega, by omega, by rw [List.length_append, List.length_singleton]; omega, HI8⟩
            case measure => simp [intOf]; omega
end Go.Proofs.Ytaebnkeddcbmkaa
