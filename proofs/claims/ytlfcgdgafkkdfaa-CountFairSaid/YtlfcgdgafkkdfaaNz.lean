/-
  The program's layer 5 (count), by its walk: Fair, Log. Conditions: as each theorem's premises say.
-/
import Derived.Test.YtlfcgdgafkkdfaaNq
namespace Go.Proofs.Ytlfcgdgafkkdfaa
open Go.RowKit
theorem wrap_in (x : Int) (h0 : -9223372036854775808 ≤ x) (h1 : x ≤ 9223372036854775807) : wrap64 x = x := by unfold wrap64; omega
namespace Bm
theorem sum_nn (l : List Int) (h : ∀ x ∈ l, 0 ≤ x) : 0 ≤ l.sum := by
  induction l with
  | nil => simp
  | cons a l ih =>
    have h1 := ih (fun x hx => h x (List.mem_cons_of_mem _ hx))
    have h2 := h a List.mem_cons_self
    rw [List.sum_cons]; omega
theorem sum_take_le (l : List Int) (k : Nat) (h : ∀ x ∈ l, 0 ≤ x) : (l.take k).sum ≤ l.sum := by
  have h1 := sum_nn (l.drop k) (fun x hx => h x (List.mem_of_mem_drop hx))
  have h2 : l.sum = (l.take k).sum + (l.drop k).sum := by
    conv => lhs; rw [← List.take_append_drop k l]
    rw [List.sum_append_int]
  omega
theorem mem_le_sumI (l : List Int) (h : ∀ x ∈ l, 0 ≤ x) (x : Int) (hx : x ∈ l) : x ≤ l.sum := by
  induction l with
  | nil => cases hx
  | cons a l ih =>
    have h1 := sum_nn l (fun x hx => h x (List.mem_cons_of_mem _ hx))
    have h2 := h a List.mem_cons_self
    rw [List.sum_cons]
    rcases List.mem_cons.1 hx with rfl | hx
    · omega
    · have := ih (fun x hx => h x (List.mem_cons_of_mem _ hx)) hx; omega
theorem pow_log (b : Nat) (h5 : 5 ≤ b) (h9 : b ≤ 9) : 32 ≤ 2 ^ b ∧ 2 ^ b ≤ 512 :=
  ⟨Nat.pow_le_pow_right (n := 2) (i := 5) (by omega) h5, Nat.pow_le_pow_right (n := 2) (j := 9) (by omega) h9⟩
end Bm

set_option maxHeartbeats 1000000 in
theorem nfair_is : CFair := by
  intro A c l log w hl hok hlog hr
  have Hr := Lib.hid hr
  obtain ⟨r, hres⟩ : ∃ r, r = Bm.fairB l log := ⟨_, rfl⟩
  rw [← hres]
  have hno : ∀ P : Prop, (Bm.Fair l log → P) → ¬ P → false = r := fun P h hp => by
    rw [hres]; symm; unfold Bm.fairB; exact decide_eq_false (fun h1 => hp (h h1))
  have Hno := Lib.hid hno
  have Hres := Lib.hid hres
  have Hok := Lib.hid hok
  have Hsz := Lib.hid (nsized_any log w)
  clear hr hres hno hok hlog
  by_cases hs : Bm.sizedB log = true
  · obtain ⟨h5, h9⟩ : 5 ≤ log ∧ log ≤ 9 := of_decide_eq_true hs
    rw [hs] at Hsz
    clear hs
    by_cases h3 : 256 < l.length
    · have hf : false = r := Hno.out (l.length ≤ 256) (fun h => h.2.2.1) (by omega)
      have h3' : decide (256 < l.length) = true := decide_eq_true h3
      rw [← hf]
      clear hf
      go_enter Try.func13, Try.ntmps13
      go_wp2_with fail
      refine Hsz.out.mono ?_
      rintro e w' ⟨rfl, rfl⟩
      go_wp2
      go_ret
      exact ⟨rfl, Below.refl _ _⟩
    have h3' : decide (256 < l.length) = false := decide_eq_false h3
    obtain ⟨b, rfl⟩ := Int.eq_ofNat_of_zero_le (show 0 ≤ log by omega)
    have hP := Bm.pow_log b (by omega) (by omega)
    have hpd : (2 : Int) ^ b = ((2 ^ b : Nat) : Int) := by simp
    obtain ⟨P, hPe⟩ : ∃ P, P = 2 ^ b := ⟨_, rfl⟩
    rw [← hPe] at hP hpd
    have HPe := Lib.hid hPe
    clear hPe
    have hw : wrap64 (P : Int) = (P : Int) := wrap_in _ (by omega) (by omega)
    go_enter Try.func13, Try.ntmps13
    go_wp2_with fail
    refine Hsz.out.mono ?_
    rintro e w' ⟨rfl, rfl⟩
    clear Hsz
    go_wp2
    clear hpd hw
    go_loop [5, 20] (fun q i => ∃ k : Nat, k ≤ l.length ∧ i = .int .i64 (k : Int) ∧ q = .int .i64 ((P : Int) - (l.take k).sum) ∧ (l.take k).sum ≤ P ∧ ∀ x ∈ l.take k, 0 ≤ x) (fun _ i => l.length - (intOf i).toNat)
    case atStart => exact ⟨0, by omega, rfl, by go_num, by simp, by simp⟩
    case round =>
      obtain ⟨k, hk, rfl, rfl, hle, hall⟩ := hrel
      by_cases hkl : k < l.length
      · obtain ⟨g, off, rfl, hc⟩ := reads_iz Hr.out (by omega)
        have c0 := hc k hkl
        have h0 := Bm.sum_nn _ hall
        have hzb := Hok.out _ (List.getElem_mem hkl)
        have Hs := Lib.hid (Bm.sum_take l k hkl)
        have Ha := Lib.hid (Bm.all_take (fun x => 0 ≤ x) l k hkl hall)
        have Hm := Lib.hid (List.getElem_mem hkl)
        unfold Bm.IntOk at hzb
        clear hc hall Hres
        have Htk : Hid (Bm.Fair l (b : Int) → (l.take (k + 1)).sum ≤ P) := Lib.hid (fun h => by
          have h1 := Bm.sum_take_le l (k + 1) (fun x hx => (h.2.2.2.1 x hx).1)
          have h2 := h.2.2.2.2
          rw [Int.toNat_natCast, ← HPe.out] at h2
          omega)
        generalize (l.take k).sum = m at hle h0 Hs ⊢
        generalize l[k] = z at c0 Hs Ha Hm hzb
        by_cases hz : z < 0
        · have hf : false = r := Hno.out (0 ≤ z) (fun h => (h.2.2.2.1 z Hm.out).1) (by omega)
          have Hf := Lib.hid hf
          clear hf
          go_wp2
          go_ret
          exact ⟨congrArg (fun x => Ending.returned (Value.bool x)) Hf.out, Below.refl _ _⟩
        have hz0 : decide (z < 0) = false := decide_eq_false hz
        by_cases hz2 : (P : Int) - m < z
        · have hf : false = r := Hno.out (m + z ≤ P) (fun h => by rw [← Hs.out]; exact Htk.out h) (by omega)
          have Hf := Lib.hid hf
          have hz3 : decide ((P : Int) - m < z) = true := decide_eq_true hz2
          clear hf
          go_wp2
          go_ret
          exact ⟨congrArg (fun x => Ending.returned (Value.bool x)) Hf.out, Below.refl _ _⟩
        have hz3 : decide ((P : Int) - m < z) = false := decide_eq_false hz2
        go_wp2
        go_round
        case rel => exact ⟨k + 1, by omega, by go_num, by rw [Hs.out]; go_num, by rw [Hs.out]; omega, Ha.out (by omega)⟩
        case measure => simp [intOf]; omega
      · obtain rfl : k = l.length := by omega
        rw [List.take_length] at hall hle ⊢
        have h0 := Bm.sum_nn _ hall
        have hres : ((P : Int) - l.sum == 0) = r := by
          rw [Hres.out]
          unfold Bm.fairB
          rw [Bool.eq_iff_iff, beq_iff_eq, decide_eq_true_iff]
          constructor
          · intro h
            refine ⟨by omega, by omega, by omega, fun x hx => ⟨hall x hx, ?_⟩, ?_⟩
            · have := Bm.mem_le_sumI l hall x hx; omega
            · rw [Int.toNat_natCast, ← HPe.out]; omega
          · intro h
            have h2 := h.2.2.2.2
            rw [Int.toNat_natCast, ← HPe.out] at h2
            omega
        have Hres2 := Lib.hid hres
        clear Hr Hno Hres hall hres
        generalize l.sum = q at Hres2 h0 hle ⊢
        go_wp2
        go_ret
        exact ⟨congrArg (fun x => Ending.returned (Value.bool x)) Hres2.out, Below.refl _ _⟩
  · have hs0 : Bm.sizedB log = false := by simpa using hs
    have hf : false = r := Hno.out (5 ≤ log ∧ log ≤ 9) (fun h => ⟨h.1, h.2.1⟩) (fun h => hs (decide_eq_true h))
    rw [hs0] at Hsz
    clear hs hs0
    rw [← hf]
    clear hf
    go_enter Try.func13, Try.ntmps13
    go_wp2_with fail
    refine Hsz.out.mono ?_
    rintro e w' ⟨rfl, rfl⟩
    go_wp2
    go_ret
    exact ⟨rfl, Below.refl _ _⟩

namespace Bm
theorem right_nat (l : List Int) (h : Right l) : ∃ cs : List Nat, l = cs.map (fun n : Nat => (n : Int)) ∧ l.map Int.toNat = cs ∧ cs.length = l.length ∧ (∀ x ∈ cs, x ≤ 1048576) ∧ cs.length ≤ 256 ∧ posN cs = symN l ∧ 0 < cs.sum := by
  have hl : l = (l.map Int.toNat).map (fun n : Nat => (n : Int)) := by
    rw [List.map_map]
    conv => lhs; rw [← List.map_id l]
    apply List.map_congr_left
    intro x hx
    have := h.2.1 x hx
    simp only [Function.comp_apply, id]
    omega
  refine ⟨l.map Int.toNat, hl, rfl, by simp, ?_, by simpa using h.1, ?_, ?_⟩
  · intro x hx
    obtain ⟨y, hy, rfl⟩ := List.mem_map.1 hx
    have := h.2.1 y hy
    omega
  · unfold posN symN
    rw [List.countP_map]
    apply List.countP_congr
    intro x _
    simp
  · obtain ⟨x, hx, h0⟩ := h.2.2
    have h1 := mem_le_sum (l.map Int.toNat) x.toNat (List.mem_map_of_mem hx)
    omega
theorem sum_cast (cs : List Nat) : (cs.map (fun n : Nat => (n : Int))).sum = ((cs.sum : Nat) : Int) := by
  induction cs with
  | nil => simp
  | cons a l ih => rw [List.map_cons, List.sum_cons, ih, List.sum_cons]; omega
theorem logM_max (sym q : Nat) : logM sym q = if max (4 * sym) q ≤ 32 then 5 else if max (4 * sym) q ≤ 64 then 6 else if max (4 * sym) q ≤ 128 then 7 else if max (4 * sym) q ≤ 256 then 8 else 9 := by
  unfold logM
  simp only [Nat.max_le]
theorem logM_next (sym q b : Nat) (h5 : 5 ≤ b) (h : b ≤ logM sym q) : b < logM sym q ↔ b < 9 ∧ 2 ^ b < max (4 * sym) q := by
  rw [logM_max] at h ⊢
  generalize max (4 * sym) q = M at h ⊢
  have h9 : b ≤ 9 := by
    by_cases h1 : M ≤ 32
    · rw [if_pos h1] at h; omega
    rw [if_neg h1] at h
    by_cases h2 : M ≤ 64
    · rw [if_pos h2] at h; omega
    rw [if_neg h2] at h
    by_cases h3 : M ≤ 128
    · rw [if_pos h3] at h; omega
    rw [if_neg h3] at h
    by_cases h4 : M ≤ 256
    · rw [if_pos h4] at h; omega
    rw [if_neg h4] at h; omega
  have hb : b = 5 ∧ 2 ^ b = 32 ∨ b = 6 ∧ 2 ^ b = 64 ∨ b = 7 ∧ 2 ^ b = 128 ∨ b = 8 ∧ 2 ^ b = 256 ∨ b = 9 ∧ 2 ^ b = 512 := by
    have hb : b = 5 ∨ b = 6 ∨ b = 7 ∨ b = 8 ∨ b = 9 := by omega
    rcases hb with rfl | rfl | rfl | rfl | rfl <;> decide
  generalize 2 ^ b = P at hb ⊢
  by_cases h1 : M ≤ 32
  · rw [if_pos h1] at h ⊢; omega
  rw [if_neg h1] at h ⊢
  by_cases h2 : M ≤ 64
  · rw [if_pos h2] at h ⊢; omega
  rw [if_neg h2] at h ⊢
  by_cases h3 : M ≤ 128
  · rw [if_pos h3] at h ⊢; omega
  rw [if_neg h3] at h ⊢
  by_cases h4 : M ≤ 256
  · rw [if_pos h4] at h ⊢; omega
  rw [if_neg h4] at h ⊢; omega
end Bm

set_option maxHeartbeats 1000000 in
theorem nlog_is : CLog := by
  intro A c l w hl hok hr
  have Hri := Lib.hid (nright_any A c l w (by omega) hr)
  by_cases h : Bm.Right l
  · have hB : Bm.rightB l = true := decide_eq_true h
    rw [hB] at Hri
    obtain ⟨cs, hcs, hcs2, hlen, hm, hlen2, hpos, h0⟩ := Bm.right_nat l h
    have hsum := Bm.sum_le cs 1048576 hm
    have Hsy := Lib.hid (nsymbols_any A c l w (by omega) hr)
    have hr2 : Reads w A (i64s cs) := by rw [← i64z_nat, ← hcs]; exact hr
    have htt := ntotal_any A c cs w (by omega) (by omega) hr2
    rw [hlen] at htt
    have Htt := Lib.hid htt
    have hlog : Bm.logA l = Bm.logM (Bm.symN l) (cs.sum / 8) := by
      unfold Bm.logA
      rw [if_pos h]
      congr 2
      rw [hcs, Bm.sum_cast, Int.toNat_natCast]
    have hsl := Bm.symN_le l
    rw [hlog]
    clear hlog htt hr2 hpos hcs2 hm hB h hr hok
    generalize Bm.symN l = sy at hsl Hsy ⊢
    generalize cs.sum = S at hsum Htt h0 ⊢
    have hmx : max (4 * (sy : Int)) ((S : Int) / 8) = ((max (4 * sy) (S / 8) : Nat) : Int) := by omega
    have hMb : max (4 * sy) (S / 8) ≤ 1000000000 := by omega
    have Hnx := Lib.hid (fun b h5 hb => Bm.logM_next sy (S / 8) b h5 hb)
    have hLo := Bm.logM_ok sy (S / 8) (by omega)
    obtain ⟨h5, h9, _⟩ := hLo
    generalize Bm.logM sy (S / 8) = L at Hnx h5 h9 ⊢
    generalize max (4 * sy) (S / 8) = M at hmx hMb Hnx
    clear hcs
    go_enter Try.func12, Try.ntmps12
    go_wp2_with fail
    refine Hri.out.mono ?_
    rintro e w' ⟨rfl, rfl⟩
    go_wp2_with fail
    refine Hsy.out.mono ?_
    rintro e w' ⟨rfl, rfl⟩
    go_wp2_with fail
    refine Htt.out.mono ?_
    rintro e w' ⟨rfl, rfl⟩
    clear Hri Hsy Htt
    go_wp2
    clear hmx
    go_loop [4] (fun i => ∃ b : Nat, 5 ≤ b ∧ b ≤ L ∧ i = .int .i64 (b : Int)) (fun i => 9 - (intOf i).toNat)
    case atStart => exact ⟨5, by omega, by omega, rfl⟩
    case round =>
      obtain ⟨b, hb5, hbL, rfl⟩ := hrel
      have hnx := Hnx.out b hb5 hbL
      have hP := Bm.pow_log b (by omega) (by omega)
      have Hpd : Hid ((2 : Int) ^ b = ((2 ^ b : Nat) : Int)) := Lib.hid (by simp)
      generalize 2 ^ b = P at hP Hpd hnx
      have hw : wrap64 (P : Int) = (P : Int) := wrap_in _ (by omega) (by omega)
      by_cases hlt : b < L
      · have hn := hnx.1 hlt
        have d1 : decide ((b : Int) < 9) = true := decide_eq_true (by omega)
        have d2 : decide (P < M) = true := decide_eq_true (by omega)
        have hpd := Hpd.out
        clear hnx hn
        go_wp2
        go_round
        case rel => exact ⟨b + 1, by omega, by omega, by go_num⟩
        case measure => simp [intOf]; omega
      · obtain rfl : b = L := by omega
        have hn : ¬ (b < 9 ∧ P < M) := fun h => hlt (hnx.2 h)
        clear hnx
        by_cases h9b : b < 9
        · have d1 : decide ((b : Int) < 9) = true := decide_eq_true (by omega)
          have d2 : decide (P < M) = false := decide_eq_false (fun h => hn ⟨h9b, h⟩)
          have hpd := Hpd.out
          clear hn
          go_wp2
          go_ret
          exact ⟨rfl, Below.refl _ _⟩
        · have d1 : decide ((b : Int) < 9) = false := decide_eq_false (by omega)
          clear hn
          go_wp2
          go_ret
          exact ⟨rfl, Below.refl _ _⟩
  · have hB : Bm.rightB l = false := decide_eq_false h
    have hL : Bm.logA l = 0 := by unfold Bm.logA; rw [if_neg h]
    rw [hB] at Hri
    rw [hL]
    clear h hB hL
    go_enter Try.func12, Try.ntmps12
    go_wp2_with fail
    refine Hri.out.mono ?_
    rintro e w' ⟨rfl, rfl⟩
    go_wp2
    go_ret
    exact ⟨rfl, Below.refl _ _⟩
end Go.Proofs.Ytlfcgdgafkkdfaa
