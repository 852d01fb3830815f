/-
  The reference of layer 19 (train), by its walk: within, one, weight, Worth. Conditions: as each theorem's premises say.
-/
import Derived.Test.YtaebnkeddcbmkaaGi
import Derived.Test.YtaebnkeddcbmkaaQs
namespace Go.Proofs.Ytaebnkeddcbmkaa
open Go.RowKit Go.Proofs.Ytaebnkeddcbmkaa.Bm
theorem text_beq (a b : ByteArray) : (a.toList == b.toList) = decide (a = b) := by
  by_cases h : a = b
  · subst h; simp
  · rw [decide_eq_false h, beq_eq_false_iff_ne]
    intro e
    rw [ByteArray.toList_eq, ByteArray.toList_eq] at e
    exact h (ByteArray.ext (Array.toList_inj.1 e))
set_option maxHeartbeats 1000000 in
set_option maxRecDepth 100000 in
theorem trwithin_any (s g : ByteArray) (w : World) (hs : s.size ≤ 140737488351232) (hg : g.size = 6) :
    Calls Try.prog 23 #[.string s, .string g] w fun e w' => e = .returned (.bool (decide (g ∈ gms s))) ∧ w' = w := by
  obtain ⟨N, hN⟩ : ∃ N, N = (gms s).length := ⟨_, rfl⟩
  have hNs : N = s.size - 5 := by rw [hN, gms_length]
  obtain ⟨r, hr⟩ : ∃ r, r = decide (g ∈ gms s) := ⟨_, rfl⟩
  rw [← hr]
  have Hr := Lib.hid hr
  have Hlen := Lib.hid hN
  have HNs := Lib.hid hNs
  clear hN hr hNs
  go_enter Try.func23, Try.ntmps23
  go_wp2
  go_loopw [5] (fun iv wr => ∃ i : Nat, iv = .int .i64 (i : Int) ∧ i ≤ N ∧ Hid (¬ g ∈ (gms s).take i) ∧ wr = w) (fun iv _ => N - (intOf iv).toNat)
  case atStart => exact ⟨0, rfl, Nat.zero_le _, Lib.hid (by simp), rfl⟩
  case round =>
    obtain ⟨i, rfl, hi, hno, rfl⟩ := hrel
    have hiz : i ≤ s.size := by have := HNs.out; omega
    by_cases hiN : i < N
    · have hi6 : i + 6 ≤ s.size := by have := HNs.out; omega
      have hle : (i : Int) + 6 ≤ (s.size : Int) := by omega
      have hil : i < (gms s).length := by rw [← Hlen.out]; exact hiN
      have hcut := gcut s i hi6
      have Hts := Lib.hid (gms_take_succ s i hil)
      obtain ⟨u, hu⟩ : ∃ u, u = gr s i := ⟨_, rfl⟩
      rw [← hu] at hcut Hts
      by_cases he : u = g
      · have hbe : (u.toList == g.toList) = true := by rw [text_beq, decide_eq_true he]
        have hrt : Hid (r = true) := Lib.hid (by
          rw [Hr.out]
          refine decide_eq_true ?_
          rw [← he, hu, ← gms_get s i hil]
          exact List.getElem_mem hil)
        clear hu he hil
        go_wp2
        go_ret
        exact ⟨congrArg (fun x => Ending.returned (Value.bool x)) hrt.out.symm, rfl⟩
      · have hbe : (u.toList == g.toList) = false := by rw [text_beq, decide_eq_false he]
        have hn2 : Hid (¬ g ∈ (gms s).take (i + 1)) := Lib.hid (by
          rw [Hts.out, List.mem_append, List.mem_singleton]
          rintro (h | h)
          · exact hno.out h
          · exact he h.symm)
        clear hu he hil
        go_wp2
        go_roundw
        case rel => exact ⟨i + 1, by go_num, by omega, hn2, by first | rfl | trivial⟩
        case measure => simp [intOf]; omega
    · have hgt : ¬ (i : Int) + 6 ≤ (s.size : Int) := by have := HNs.out; omega
      have hrt : Hid (r = false) := Lib.hid (by
        rw [Hr.out]
        refine decide_eq_false ?_
        have h1 := hno.out
        rw [show i = N by omega, Hlen.out, List.take_length] at h1
        exact h1)
      go_wp2
      go_ret
      exact ⟨congrArg (fun x => Ending.returned (Value.bool x)) hrt.out.symm, rfl⟩
set_option maxHeartbeats 1000000 in
set_option maxRecDepth 100000 in
theorem trone_any (A : Option Addr) (c : Nat) (T : List ByteArray) (g : ByteArray) (w : World) (hT : T.length ≤ 1000000) (hs : ∀ s ∈ T, s.size ≤ 140737488351232) (hg : g.size = 6) (hr : Reads w A (strC T)) :
    Calls Try.prog 24 #[.slice A T.length c, .string g] w fun e w' => e = .returned (.bool (tkn T g)) ∧ w' = w := by
  obtain ⟨r, hrr⟩ : ∃ r, r = tkn T g := ⟨_, rfl⟩
  rw [← hrr]
  have Hrr := Lib.hid hrr
  have Hr := Lib.hid hr
  have Hs := Lib.hid hs
  have Hg := Lib.hid hg
  clear hrr hr hs hg
  go_enter Try.func24, Try.ntmps24
  go_wp2
  go_loopw [5] (fun iv wr => ∃ i : Nat, iv = .int .i64 (i : Int) ∧ i ≤ T.length ∧ Hid (tkn (T.take i) g = false) ∧ wr = w) (fun iv _ => T.length - (intOf iv).toNat)
  case atStart => exact ⟨0, rfl, Nat.zero_le _, Lib.hid (by simp [tkn]), rfl⟩
  case round =>
    obtain ⟨i, rfl, hi, hno, rfl⟩ := hrel
    by_cases hil : i < T.length
    · obtain ⟨gA, oA, eA, hcA⟩ := reads_str Hr.out (by omega)
      subst eA
      have hcell := hcA i hil
      obtain ⟨s, hsd⟩ : ∃ s, s = T[i] := ⟨_, rfl⟩
      rw [← hsd] at hcell
      have hss : s.size ≤ 140737488351232 := by rw [hsd]; exact Hs.out _ (List.getElem_mem hil)
      have Hts : Hid (T.take (i + 1) = T.take i ++ [s]) := Lib.hid (by rw [hsd]; exact List.take_succ_eq_append_getElem hil)
      have Hmem : Hid (s ∈ T) := Lib.hid (by rw [hsd]; exact List.getElem_mem hil)
      have Hw := Lib.hid (trwithin_any s g wr hss Hg.out)
      clear hcA hsd
      by_cases hm : g ∈ gms s
      · rw [decide_eq_true hm] at Hw
        have hrt : Hid (r = true) := Lib.hid (by
          rw [Hrr.out]
          unfold tkn
          rw [List.any_eq_true]
          exact ⟨s, Hmem.out, by simp [hm]⟩)
        go_wp2_with fail
        refine Hw.out.mono ?_
        rintro e w2 ⟨rfl, rfl⟩
        go_wp2
        go_ret
        exact ⟨congrArg (fun x => Ending.returned (Value.bool x)) hrt.out.symm, rfl⟩
      · rw [decide_eq_false hm] at Hw
        have hn2 : Hid (tkn (T.take (i + 1)) g = false) := Lib.hid (by rw [Hts.out, tkn_snoc, hno.out, decide_eq_false hm]; rfl)
        go_wp2_with fail
        refine Hw.out.mono ?_
        rintro e w2 ⟨rfl, rfl⟩
        go_wp2
        go_roundw
        case rel => exact ⟨i + 1, by go_num, by omega, hn2, by first | rfl | trivial⟩
        case measure => simp [intOf]; omega
    · have hrt : Hid (r = false) := Lib.hid (by
        rw [Hrr.out]
        have h1 := hno.out
        rw [show i = T.length by omega, List.take_length] at h1
        exact h1)
      go_wp2
      go_ret
      exact ⟨congrArg (fun x => Ending.returned (Value.bool x)) hrt.out.symm, rfl⟩
set_option maxHeartbeats 1000000 in
set_option maxRecDepth 100000 in
theorem trweight_any (A : Option Addr) (c : Nat) (R : List ByteArray) (g : ByteArray) (w : World) (hR : R.length ≤ 1000000) (hs : ∀ s ∈ R, s.size ≤ 140737488351232) (hg : g.size = 6) (hr : Reads w A (strC R)) :
    Calls Try.prog 25 #[.slice A R.length c, .string g] w fun e w' => e = .returned (.int .i64 ((wtG R g : Nat) : Int)) ∧ w' = w := by
  obtain ⟨r, hrr⟩ : ∃ r, r = wtG R g := ⟨_, rfl⟩
  rw [← hrr]
  have Hrr := Lib.hid hrr
  have Hr := Lib.hid hr
  have Hs := Lib.hid hs
  have Hg := Lib.hid hg
  clear hrr hr hs hg
  go_enter Try.func25, Try.ntmps25
  go_wp2
  go_loopw [5, 6] (fun nv iv wr => ∃ i n : Nat, iv = .int .i64 (i : Int) ∧ i ≤ R.length ∧ nv = .int .i64 (n : Int) ∧ n ≤ i ∧ Hid (n = cntG (R.take i) g) ∧ wr = w) (fun _ iv _ => R.length - (intOf iv).toNat)
  case atStart => exact ⟨0, 0, rfl, Nat.zero_le _, rfl, Nat.le_refl _, Lib.hid (by simp [cntG]), rfl⟩
  case round =>
    obtain ⟨i, n, rfl, hi, rfl, hni, hn, rfl⟩ := hrel
    by_cases hil : i < R.length
    · obtain ⟨gA, oA, eA, hcA⟩ := reads_str Hr.out (by omega)
      subst eA
      have hcell := hcA i hil
      obtain ⟨s, hsd⟩ : ∃ s, s = R[i] := ⟨_, rfl⟩
      rw [← hsd] at hcell
      have hss : s.size ≤ 140737488351232 := by rw [hsd]; exact Hs.out _ (List.getElem_mem hil)
      have Hts : Hid (cntG (R.take (i + 1)) g = n + (if g ∈ gms s then 1 else 0)) := Lib.hid (by rw [List.take_succ_eq_append_getElem hil, cntG_snoc, ← hsd, hn.out])
      have Hw := Lib.hid (trwithin_any s g wr hss Hg.out)
      clear hcA hsd
      by_cases hm : g ∈ gms s
      · rw [decide_eq_true hm] at Hw
        have hn2 : Hid (n + 1 = cntG (R.take (i + 1)) g) := Lib.hid (by rw [Hts.out, if_pos hm])
        clear hm
        go_wp2_with fail
        refine Hw.out.mono ?_
        rintro e w2 ⟨rfl, rfl⟩
        go_wp2
        go_roundw
        case rel => exact ⟨i + 1, n + 1, by go_num, by omega, by go_num, by omega, hn2, by first | rfl | trivial⟩
        case measure => simp [intOf]; omega
      · rw [decide_eq_false hm] at Hw
        have hn2 : Hid (n = cntG (R.take (i + 1)) g) := Lib.hid (by rw [Hts.out, if_neg hm, Nat.add_zero])
        clear hm
        go_wp2_with fail
        refine Hw.out.mono ?_
        rintro e w2 ⟨rfl, rfl⟩
        go_wp2
        go_roundw
        case rel => exact ⟨i + 1, n, by go_num, by omega, rfl, by omega, hn2, by first | rfl | trivial⟩
        case measure => simp [intOf]; omega
    · have hrn : Hid (r = n - 1) := Lib.hid (by
        rw [Hrr.out]
        have h1 := hn.out
        rw [show i = R.length by omega, List.take_length] at h1
        rw [h1]
        rfl)
      by_cases hn0 : n = 0
      · subst hn0
        go_wp2
        go_ret
        exact ⟨congrArg (fun x : Nat => Ending.returned (Value.int .i64 (x : Int))) (show 0 = r by rw [hrn.out]), rfl⟩
      · obtain ⟨m, rfl⟩ : ∃ m, n = m + 1 := ⟨n - 1, by omega⟩
        have hrm : Hid (r = m) := Lib.hid (by rw [hrn.out]; rfl)
        have hz : (((m + 1 : Nat) : Int) == 0) = false := by rw [beq_eq_false_iff_ne]; omega
        have hz2 : ((m : Int) + 1 == 0) = false := by rw [beq_eq_false_iff_ne]; omega
        go_wp2
        go_ret
        exact ⟨congrArg (fun x : Nat => Ending.returned (Value.int .i64 (x : Int))) hrm.out.symm, rfl⟩
set_option maxHeartbeats 1000000 in
set_option maxRecDepth 100000 in
theorem trworth_any (A A2 : Option Addr) (c c2 : Nat) (R T : List ByteArray) (s : ByteArray) (w : World) (hs1 : s.size ≤ 100000) (hR : R.length ≤ 1000) (hs : ∀ s ∈ R, s.size ≤ 140737488351232) (hr : Reads w A (strC R)) (hT : T.length ≤ 1000000) (hs2 : ∀ s ∈ T, s.size ≤ 140737488351232) (hr2 : Reads w A2 (strC T)) :
    Calls Try.prog 13 #[.slice A R.length c, .string s, .slice A2 T.length c2] w fun e w' => e = .returned (.int .i64 ((worthL R T s : Nat) : Int)) ∧ w' = w := by
  obtain ⟨N, hN⟩ : ∃ N, N = (gms s).length := ⟨_, rfl⟩
  have hNs : N = s.size - 5 := by rw [hN, gms_length]
  have Hlen := Lib.hid hN
  have HNs := Lib.hid hNs
  have Hwi : Hid (∀ u g : ByteArray, u.size ≤ 140737488351232 → g.size = 6 → Calls Try.prog 23 #[.string u, .string g] w fun e w' => e = .returned (.bool (decide (g ∈ gms u))) ∧ w' = w) := Lib.hid (fun u g h1 h2 => trwithin_any u g w h1 h2)
  have Hon : Hid (∀ g : ByteArray, g.size = 6 → Calls Try.prog 24 #[.slice A2 T.length c2, .string g] w fun e w' => e = .returned (.bool (tkn T g)) ∧ w' = w) := Lib.hid (fun g h => trone_any A2 c2 T g w hT hs2 h hr2)
  have Hwe : Hid (∀ g : ByteArray, g.size = 6 → Calls Try.prog 25 #[.slice A R.length c, .string g] w fun e w' => e = .returned (.int .i64 ((wtG R g : Nat) : Int)) ∧ w' = w) := Lib.hid (fun g h => trweight_any A c R g w (by omega) hs h hr)
  have Hle : Hid (∀ k, gsum (fvl R T) [] ((gms s).take k) ≤ 100000000) := Lib.hid (fun k => by
    have h1 := wsum_pre (fvl R T) (gms s) k
    have h2 := wsum_le (fvl R T) 1000 (gms s) [] (fun g _ => Nat.le_trans (fvl_le R T g) hR)
    rw [← hN, hNs] at h2
    omega)
  have Hwb : Hid (∀ g, wtG R g ≤ 1000) := Lib.hid (fun g => by
    have := cntG_le R g
    unfold wtG
    omega)
  clear hN hNs hs hr hs2 hr2
  go_enter Try.func13, Try.ntmps13
  go_wp2
  go_loopw [7, 8] (fun nv iv wr => ∃ i : Nat, iv = .int .i64 (i : Int) ∧ i ≤ N ∧ nv = .int .i64 ((gsum (fvl R T) [] ((gms s).take i) : Nat) : Int) ∧ wr = w) (fun _ iv _ => N - (intOf iv).toNat)
  case atStart => exact ⟨0, rfl, Nat.zero_le _, rfl, rfl⟩
  case round =>
    obtain ⟨i, rfl, hi, rfl, rfl⟩ := hrel
    by_cases hiN : i < N
    · have hi6 : i + 6 ≤ s.size := by have := HNs.out; omega
      have hle : (i : Int) + 6 ≤ (s.size : Int) := by omega
      have hil : i < (gms s).length := by rw [← Hlen.out]; exact hiN
      obtain ⟨S, hS⟩ : ∃ S, S = gsum (fvl R T) [] ((gms s).take i) := ⟨_, rfl⟩
      have hS1 : S ≤ 100000000 := by rw [hS]; exact Hle.out i
      have Hstep := Lib.hid (wsum_step (fvl R T) s i hil)
      rw [← hS] at Hstep ⊢
      obtain ⟨S2, hS2⟩ : ∃ S2, S2 = gsum (fvl R T) [] ((gms s).take (i + 1)) := ⟨_, rfl⟩
      rw [← hS2] at Hstep
      have hcut := gcut s i hi6
      have hgz := gr_size s i hi6
      obtain ⟨u, hu⟩ : ∃ u, u = s.extract 0 (i + 5) := ⟨_, rfl⟩
      have hcut5 : ∀ W, (Instr.slice 9 (.string s) none (some (.int .i64 ((i : Int) + 5))) none).run Try.prog W = .ok (.string u) W := fun W => by
        rw [run_slice_string_to_if W 9 s .i64 ((i : Int) + 5) Try.underlying9, if_pos ⟨by omega, by omega⟩, hu, show ((i : Int) + 5).toNat = i + 5 by omega]
      have hgu : gms u = (gms s).take i := by rw [hu]; exact gms_cut s i (by omega)
      have huz : u.size ≤ 140737488351232 := by rw [hu, ByteArray.size_extract]; omega
      obtain ⟨g, hg⟩ : ∃ g, g = gr s i := ⟨_, rfl⟩
      rw [← hg] at hcut hgz Hstep
      have Hw1 := Lib.hid (Hwi.out u g huz hgz)
      have Hw2 := Lib.hid (Hon.out g hgz)
      have Hw3 := Lib.hid (Hwe.out g hgz)
      rw [hgu] at Hw1
      have HS2 := Lib.hid hS2
      clear hS hg hS2 hil hu hgu huz hgz
      by_cases hm : g ∈ (gms s).take i
      · rw [decide_eq_true hm] at Hw1
        have hSS : Hid (S2 = S) := Lib.hid (by have := Hstep.out; rw [if_pos hm] at this; omega)
        clear Hstep hm
        go_wp2_with fail
        refine Hw1.out.mono ?_
        rintro e w2 ⟨rfl, rfl⟩
        go_wp2
        go_roundw
        case rel => exact ⟨i + 1, by go_num, by omega, by rw [← HS2.out, hSS.out], by first | rfl | trivial⟩
        case measure => simp [intOf]; omega
      · rw [decide_eq_false hm] at Hw1
        by_cases ht : tkn T g = true
        · rw [ht] at Hw2
          have hSS : Hid (S2 = S) := Lib.hid (by have := Hstep.out; rw [if_neg hm] at this; unfold fvl at this; rw [if_pos ht] at this; omega)
          clear Hstep hm ht
          go_wp2_with fail
          refine Hw1.out.mono ?_
          rintro e w2 ⟨rfl, rfl⟩
          go_wp2_with fail
          refine Hw2.out.mono ?_
          rintro e w3 ⟨rfl, rfl⟩
          go_wp2
          go_roundw
          case rel => exact ⟨i + 1, by go_num, by omega, by rw [← HS2.out, hSS.out], by first | rfl | trivial⟩
          case measure => simp [intOf]; omega
        · rw [Bool.eq_false_iff.2 ht] at Hw2
          obtain ⟨v, hv⟩ : ∃ v, v = wtG R g := ⟨_, rfl⟩
          have hvb : v ≤ 1000 := by rw [hv]; exact Hwb.out g
          rw [← hv] at Hw3
          have hSS : Hid (S2 = S + v) := Lib.hid (by have := Hstep.out; rw [if_neg hm] at this; unfold fvl at this; rw [if_neg ht, ← hv] at this; omega)
          clear Hstep hm ht hv
          go_wp2_with fail
          refine Hw1.out.mono ?_
          rintro e w2 ⟨rfl, rfl⟩
          go_wp2_with fail
          refine Hw2.out.mono ?_
          rintro e w3 ⟨rfl, rfl⟩
          go_wp2_with fail
          refine Hw3.out.mono ?_
          rintro e w4 ⟨rfl, rfl⟩
          go_wp2
          go_roundw
          case rel => exact ⟨i + 1, by go_num, by omega, by rw [← HS2.out, hSS.out]; go_num, by first | rfl | trivial⟩
          case measure => simp [intOf]; omega
    · have hgt : ¬ (i : Int) + 6 ≤ (s.size : Int) := by have := HNs.out; omega
      have hiz : i ≤ 100000 := by have := HNs.out; omega
      have Hfin : Hid ((gms s).take i = gms s) := Lib.hid (by rw [show i = N by omega, Hlen.out, List.take_length])
      rw [Hfin.out]
      go_wp2
      go_ret
      exact ⟨rfl, rfl⟩
end Go.Proofs.Ytaebnkeddcbmkaa
