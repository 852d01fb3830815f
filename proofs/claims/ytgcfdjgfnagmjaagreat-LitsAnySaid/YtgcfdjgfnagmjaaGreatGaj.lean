/-
  The program's layer 5 (count), by its walk: Symbols, Right, total, greatest. Conditions: as each theorem's premises say.
  The program's layer 9 (huff), by its walk: may, cost, Whole, Cost. Conditions: as each theorem's premises say.
  The program's layer 9 (huff), by its walk: Codes. Conditions: as each theorem's premises say.
  The program's layer 5 (count), by its walk: slices.Max over bytes, Of, parts. Conditions: as each theorem's premises say.
-/
import Derived.Test.YtgcfdjgfnagmjaaGreatGah
import Derived.Test.YtgcfdjgfnagmjaaGreatGai
namespace Go.Proofs.YtgcfdjgfnagmjaaGreat
open Go.RowKit

theorem reads_in {w : World} {A : Option Addr} {l : List Nat} (h : Reads w A (i64s l)) (hne : 0 < l.length) : ∃ g off, A = some ⟨g, off, none⟩ ∧ ∀ j (hj : j < l.length), w.cell? ⟨g, off + j, none⟩ = some (.int .i64 (l[j] : Int)) := by
  have hne' : i64s l ≠ [] := fun e => by
    have h1 := congrArg List.length e
    rw [i64s_length, List.length_nil] at h1
    omega
  obtain ⟨g, off, e, hc⟩ := h hne'
  exact ⟨g, off, e, fun j hj => by rw [hc j (by rw [i64s_length]; exact hj), i64s_get? l j hj]⟩

set_option maxHeartbeats 400000 in
set_option maxRecDepth 100000 in
theorem nsymbols_any (A : Option Addr) (c : Nat) (l : List Int) (w : World) (hl : l.length ≤ 1000000000) (hr : Reads w A (i64z l)) :
    Calls Tryz.prog 14 #[.slice A l.length c] w fun e w' => e = .returned (.int .i64 (Bm.symN l : Int)) ∧ w = w' := by
  have Hr := Lib.hid hr
  obtain ⟨r, hres⟩ : ∃ r, r = Bm.symN l := ⟨_, rfl⟩
  rw [← hres]
  have Hres := Lib.hid hres
  clear hr hres
  go_enter Tryz.func14, Tryz.ntmps14
  go_wp2
  go_loop [3, 8] (fun n i => ∃ k : Nat, k ≤ l.length ∧ i = .int .i64 (k : Int) ∧ n = .int .i64 (Bm.symN (l.take k) : Int)) (fun _ i => l.length - (intOf i).toNat)
  case atStart => exact ⟨0, by omega, rfl, rfl⟩
  case round =>
    obtain ⟨k, hk, rfl, rfl⟩ := hrel
    by_cases hkl : k < l.length
    · obtain ⟨g, off, rfl, hc⟩ := reads_iz Hr.out (by omega)
      have c0 := hc k hkl
      have hs := Bm.symN_take l k hkl
      have hle := Bm.symN_le (l.take k)
      rw [List.length_take, Nat.min_eq_left (by omega)] at hle
      have Hs := Lib.hid hs
      clear hc hs
      generalize Bm.symN (l.take k) = m at hle Hs ⊢
      generalize l[k] = z at c0 Hs
      by_cases hz : 0 < z
      · go_wp2
        go_round
        case rel => exact ⟨k + 1, by omega, by go_num, by rw [Hs.out, if_pos hz]; go_num⟩
        case measure => simp [intOf]; omega
      · go_wp2
        go_round
        case rel => exact ⟨k + 1, by omega, by go_num, by rw [Hs.out, if_neg hz]; go_num⟩
        case measure => simp [intOf]; omega
    · obtain rfl : k = l.length := by omega
      rw [List.take_length, ← Hres.out]
      clear Hr
      go_wp2
      go_ret
      exact ⟨rfl, rfl⟩
theorem nsymbols_is : CSymbols := fun A c l w hl hr => (nsymbols_any A c l w (by omega) hr).mono fun _ w' ⟨he, hw⟩ => ⟨he, by subst hw; exact Below.refl _ _⟩

namespace Bm
theorem right_iff (l : List Int) : Right l ↔ l.length ≤ 256 ∧ (∀ x ∈ l, 0 ≤ x ∧ x ≤ 1048576) ∧ 0 < symN l := by
  unfold Right symN
  rw [List.countP_pos_iff]
  simp
def rightB (l : List Int) : Bool := decide (Right l)
end Bm
set_option maxHeartbeats 1000000 in
set_option maxRecDepth 100000 in
theorem nright_any (A : Option Addr) (c : Nat) (l : List Int) (w : World) (hl : l.length ≤ 1000000000) (hr : Reads w A (i64z l)) :
    Calls Tryz.prog 53 #[.slice A l.length c] w fun e w' => e = .returned (.bool (Bm.rightB l)) ∧ w = w' := by
  have Hr := Lib.hid hr
  have Hsy := Lib.hid (nsymbols_any A c l w hl hr)
  obtain ⟨r, hres⟩ : ∃ r, r = Bm.rightB l := ⟨_, rfl⟩
  rw [← hres]
  have hno : ∀ P : Prop, (Bm.Right l → P) → ¬ P → false = r := fun P h hp => by
    rw [hres]; symm; unfold Bm.rightB; exact decide_eq_false (fun h1 => hp (h h1))
  have Hno := Lib.hid hno
  have Hres := Lib.hid hres
  clear hr hres hno
  by_cases h3 : 256 < l.length
  · have hf : false = r := Hno.out (l.length ≤ 256) (fun h => h.1) (by omega)
    rw [← hf]
    go_enter Tryz.func53, Tryz.ntmps53
    go_wp2
    go_ret
    exact ⟨rfl, rfl⟩
  go_enter Tryz.func53, Tryz.ntmps53
  go_wp2
  go_loop [10] (fun i => ∃ k : Nat, k ≤ l.length ∧ i = .int .i64 (k : Int) ∧ ∀ x ∈ l.take k, 0 ≤ x ∧ x ≤ 1048576) (fun i => l.length - (intOf i).toNat)
  case atStart => exact ⟨0, by omega, rfl, by simp⟩
  case round =>
    obtain ⟨k, hk, rfl, hall⟩ := hrel
    by_cases hkl : k < l.length
    · obtain ⟨g, off, rfl, hc⟩ := reads_iz Hr.out (by omega)
      have c0 := hc k hkl
      have Ha := Lib.hid (Bm.all_take (fun x => 0 ≤ x ∧ x ≤ 1048576) l k hkl hall)
      have Hm := Lib.hid (List.getElem_mem hkl)
      clear hc hall Hres Hsy
      generalize l[k] = z at c0 Ha Hm
      by_cases hz : z < 0
      · have hf : false = r := Hno.out (0 ≤ z) (fun h => (h.2.1 z Hm.out).1) (by omega)
        have Hf := Lib.hid hf
        clear hf
        go_wp2
        go_ret
        exact ⟨congrArg (fun x => Ending.returned (Value.bool x)) Hf.out, rfl⟩
      by_cases hz2 : 1048576 < z
      · have hf : false = r := Hno.out (z ≤ 1048576) (fun h => (h.2.1 z Hm.out).2) (by omega)
        have Hf := Lib.hid hf
        clear hf
        go_wp2
        go_ret
        exact ⟨congrArg (fun x => Ending.returned (Value.bool x)) Hf.out, rfl⟩
      go_wp2
      go_round
      case rel => exact ⟨k + 1, by omega, by go_num, Ha.out (by omega)⟩
      case measure => simp [intOf]; omega
    · obtain rfl : k = l.length := by omega
      rw [List.take_length] at hall
      have hres : decide (0 < Bm.symN l) = r := by
        rw [Hres.out]
        unfold Bm.rightB
        rw [decide_eq_decide, Bm.right_iff]
        exact ⟨fun h => ⟨by omega, hall, h⟩, fun h => h.2.2⟩
      clear Hr Hno Hres hall
      generalize Bm.symN l = q at hres Hsy
      have Hsy2 := Lib.hid Hsy.out
      clear Hsy
      go_wp2_with fail
      refine Hsy2.out.mono ?_
      rintro e w' ⟨rfl, rfl⟩
      go_wp2
      go_ret
      exact ⟨congrArg (fun x => Ending.returned (Value.bool x)) (by simp), rfl⟩

end Go.Proofs.YtgcfdjgfnagmjaaGreat

namespace Go.Proofs.YtgcfdjgfnagmjaaGreat
open Go.RowKit
set_option maxHeartbeats 1000000 in
set_option maxRecDepth 100000 in
theorem umay_any (A : Option Addr) (c : Nat) (l : List Int) (w : World) (hl : l.length ≤ 9223372036854775807) (hr : Reads w A (i64z l)) :
    Calls Tryz.prog 55 #[.slice A l.length c] w fun e w' => e = .returned (.bool (decide (Bm.LenR l))) ∧ w = w' := by
  have Hr := Lib.hid hr
  obtain ⟨r, hres⟩ : ∃ r, r = decide (Bm.LenR l) := ⟨_, rfl⟩
  rw [← hres]
  have hno : ∀ P : Prop, (Bm.LenR l → P) → ¬ P → false = r := fun P h hp => by
    rw [hres]; symm; exact decide_eq_false (fun h1 => hp (h h1))
  have Hno := Lib.hid hno
  have Hres := Lib.hid hres
  clear hr hres hno
  by_cases h3 : 256 < l.length
  · have hf : false = r := Hno.out (l.length ≤ 256) (fun h => h.1) (by omega)
    rw [← hf]
    go_enter Tryz.func55, Tryz.ntmps55
    go_wp2
    go_ret
    exact ⟨rfl, rfl⟩
  go_enter Tryz.func55, Tryz.ntmps55
  go_wp2
  go_loop [10] (fun i => ∃ k : Nat, k ≤ l.length ∧ i = .int .i64 (k : Int) ∧ ∀ x ∈ l.take k, 0 ≤ x ∧ x ≤ 11) (fun i => l.length - (intOf i).toNat)
  case atStart => exact ⟨0, by omega, rfl, by simp⟩
  case round =>
    obtain ⟨k, hk, rfl, hall⟩ := hrel
    by_cases hkl : k < l.length
    · obtain ⟨g, off, rfl, hc⟩ := reads_iz Hr.out (by omega)
      have c0 := hc k hkl
      have Ha := Lib.hid (Bm.all_take9 (fun x => 0 ≤ x ∧ x ≤ 11) l k hkl hall)
      have Hm := Lib.hid (List.getElem_mem hkl)
      clear hc hall Hres
      generalize l[k] = z at c0 Ha Hm
      by_cases hz : z < 0
      · have hf : false = r := Hno.out (0 ≤ z) (fun h => (h.2 z Hm.out).1) (by omega)
        have Hf := Lib.hid hf
        clear hf
        go_wp2
        go_ret
        exact ⟨congrArg (fun x => Ending.returned (Value.bool x)) Hf.out, rfl⟩
      by_cases hz2 : 11 < z
      · have hf : false = r := Hno.out (z ≤ 11) (fun h => (h.2 z Hm.out).2) (by omega)
        have Hf := Lib.hid hf
        clear hf
        go_wp2
        go_ret
        exact ⟨congrArg (fun x => Ending.returned (Value.bool x)) Hf.out, rfl⟩
      go_wp2
      go_round
      case rel => exact ⟨k + 1, by omega, by go_num, Ha.out (by omega)⟩
      case measure => simp [intOf]; omega
    · obtain rfl : k = l.length := by omega
      rw [List.take_length] at hall
      have hres : true = r := by
        rw [Hres.out]
        symm
        exact decide_eq_true ⟨by omega, hall⟩
      clear Hr Hno Hres hall
      have Hf := Lib.hid hres
      clear hres
      go_wp2
      go_ret
      exact ⟨congrArg (fun x => Ending.returned (Value.bool x)) Hf.out, rfl⟩
namespace Bm
theorem costTo_le2 (cs ls : List Nat) (hc : ∀ x ∈ cs, x ≤ 1048576) (hl : ∀ x ∈ ls, x ≤ 512) : ∀ k, costTo cs ls k ≤ 536870912 * k
  | 0 => by simp [costTo]
  | k + 1 => by
    have h1 : cs[k]?.getD 0 ≤ 1048576 := by
      rcases h : cs[k]? with _ | x
      · simp
      · exact hc x (List.mem_of_getElem? h)
    have h2 : ls[k]?.getD 0 ≤ 512 := by
      rcases h : ls[k]? with _ | x
      · simp
      · exact hl x (List.mem_of_getElem? h)
    have h3 := Nat.mul_le_mul h1 h2
    have ih := costTo_le2 cs ls hc hl k
    rw [costTo_succ]
    omega
end Bm
namespace Bm
/-- The last length above 0. -/
theorem last_step (ls : List Nat) (k L : Nat) (h : k < ls.length) (h0 : someN (ls.take k) = 0 → krN (ls.take k) = 0) (h1 : someN (ls.take k) = 1 → krN (ls.take k) = partL L) :
    (someN (ls.take (k + 1)) = 0 → krN (ls.take (k + 1)) = 0) ∧ (someN (ls.take (k + 1)) = 1 → krN (ls.take (k + 1)) = partL (if 0 < ls[k] then ls[k] else L)) := by
  obtain ⟨e1, e2⟩ := kr_take ls k h
  rw [e1, e2]
  by_cases hp : 0 < ls[k]
  · rw [if_pos hp, if_pos hp]
    exact ⟨fun h => by omega, fun h => by rw [h0 (by omega)]; omega⟩
  · have hz : ls[k] = 0 := by omega
    have hpz : partL ls[k] = 0 := by unfold partL; rw [if_pos hz]
    rw [if_neg hp, if_neg hp, hpz]
    exact ⟨fun h => by rw [h0 (by omega)], fun h => by rw [h1 (by omega)]; rfl⟩
theorem part_one (L : Nat) (h : L ≤ 11) : partL L = 1024 ↔ L = 1 := by
  have : ∀ n : Fin 12, (partL n.1 = 1024) ↔ n.1 = 1 := by decide
  exact this ⟨L, by omega⟩
theorem part_shr (n : Nat) (h : n ≤ 11) (h0 : 0 < n) : 2048 / 2 ^ n = partL n := by
  have : ∀ n : Fin 12, 0 < n.1 → 2048 / 2 ^ n.1 = partL n.1 := by decide
  exact this ⟨n, by omega⟩ h0
end Bm
set_option maxHeartbeats 1000000 in
set_option maxRecDepth 100000 in
theorem uwhole_no (A : Option Addr) (c : Nat) (l : List Int) (w : World) (hl : l.length ≤ 9223372036854775807) (hr : Reads w A (i64z l)) (hR : ¬ Bm.LenR l) :
    Calls Tryz.prog 57 #[.slice A l.length c] w fun e w' => e = .returned (.bool false) ∧ w = w' := by
  have Hri := Lib.hid (umay_any A c l w hl hr)
  rw [decide_eq_false hR] at Hri
  clear hr hR
  go_enter Tryz.func57, Tryz.ntmps57
  go_wp2_with fail
  refine Hri.out.mono ?_
  rintro e w' ⟨rfl, rfl⟩
  go_wp2
  go_ret
  exact ⟨rfl, rfl⟩
set_option maxHeartbeats 2000000 in
set_option maxRecDepth 100000 in
theorem uwhole_may (A : Option Addr) (c : Nat) (ls : List Nat) (w : World) (hl : ls.length ≤ 256) (h11 : ∀ x ∈ ls, x ≤ 11) (hr : Reads w A (i64s ls)) (hmay : Calls Tryz.prog 55 #[.slice A ls.length c] w fun e w' => e = .returned (.bool true) ∧ w = w') :
    Calls Tryz.prog 57 #[.slice A ls.length c] w fun e w' => e = .returned (.bool (decide (Bm.krN ls = 2048 ∨ (Bm.someN ls = 1 ∧ Bm.krN ls = 1024)))) ∧ w = w' := by
  have Hri := Lib.hid hmay
  have Hr := Lib.hid hr
  have H11 := Lib.hid h11
  clear hr h11 hmay
  obtain ⟨r, hres⟩ : ∃ r, r = decide (Bm.krN ls = 2048 ∨ (Bm.someN ls = 1 ∧ Bm.krN ls = 1024)) := ⟨_, rfl⟩
  rw [← hres]
  have Hres := Lib.hid hres
  clear hres
  go_enter Tryz.func57, Tryz.ntmps57
  go_wp2_with fail
  refine Hri.out.mono ?_
  rintro e w' ⟨rfl, rfl⟩
  clear Hri
  go_wp2
  go_loop [3, 4, 5, 13] (fun t s z i => ∃ (k L : Nat), k ≤ ls.length ∧ L ≤ 11 ∧ i = .int .i64 (k : Int) ∧ s = .int .i64 (Bm.krN (ls.take k) : Int) ∧ t = .int .i64 (Bm.someN (ls.take k) : Int) ∧ z = .int .i64 (L : Int) ∧ Hid ((Bm.someN (ls.take k) = 0 → Bm.krN (ls.take k) = 0) ∧ (Bm.someN (ls.take k) = 1 → Bm.krN (ls.take k) = Bm.partL L))) (fun _ _ _ i => ls.length - (intOf i).toNat)
  case atStart => exact ⟨0, 0, by omega, by omega, rfl, rfl, rfl, rfl, Lib.hid ⟨fun _ => rfl, fun h => by simp [Bm.someN] at h⟩⟩
  case round =>
    obtain ⟨k, L, hk, hL, rfl, rfl, rfl, rfl, hlast⟩ := hrel
    by_cases hkl : k < ls.length
    · obtain ⟨g, off, rfl, hc⟩ := reads_i9 Hr.out (by omega)
      have c0 := hc k hkl
      have Hst := Lib.hid (Bm.kr_take ls k hkl)
      have Hls := Lib.hid (Bm.last_step ls k L hkl hlast.out.1 hlast.out.2)
      have hkr := Bm.kr_le (ls.take k)
      have hso := Bm.some_le (ls.take k)
      rw [List.length_take, Nat.min_eq_left (by omega)] at hkr hso
      have h11 := H11.out ls[k] (List.getElem_mem hkl)
      have hpl := Bm.part_le ls[k]
      have Hsh := Lib.hid (Bm.part_shr ls[k] h11)
      have Hp0 : Hid (ls[k] = 0 → Bm.partL ls[k] = 0) := Lib.hid (fun h => by unfold Bm.partL; rw [if_pos h])
      clear hc hlast
      generalize Bm.krN (ls.take k) = K at *
      generalize Bm.someN (ls.take k) = M at *
      generalize hP : Bm.partL ls[k] = P at hpl Hsh Hp0 Hst
      clear hP
      generalize ls[k] = x at *
      by_cases hx : 0 < x
      · have hsh := Hsh.out hx
        have hls := Hls.out
        simp only [if_pos hx] at hls
        have Hls2 := Lib.hid hls
        clear Hsh Hp0 Hls hls
        have hsh2 : (2048 : Int) / 2 ^ x = (P : Int) := by rw [← hsh]; simp
        clear hsh
        go_wp2
        go_round
        case rel => exact ⟨k + 1, x, by omega, by omega, by go_num, by rw [Hst.out.1]; go_num, by rw [Hst.out.2, if_pos hx]; go_num, rfl, Hls2⟩
        case measure => simp [intOf]; omega
      · have hP0 := Hp0.out (by omega)
        have hls := Hls.out
        simp only [if_neg hx] at hls
        have Hls2 := Lib.hid hls
        subst hP0
        clear Hsh Hp0 Hls hls
        go_wp2
        go_round
        case rel => exact ⟨k + 1, L, by omega, by omega, by go_num, by rw [Hst.out.1]; go_num, by rw [Hst.out.2, if_neg hx]; go_num, rfl, Hls2⟩
        case measure => simp [intOf]; omega
    · obtain rfl : k = ls.length := by omega
      rw [List.take_length] at hlast
      rw [List.take_length]
      clear Hr H11
      have hp1 := Bm.part_one L hL
      generalize Bm.partL L = P at *
      generalize Bm.krN ls = K at *
      generalize Bm.someN ls = M at *
      by_cases h1 : K = 2048
      · have d1 : ((K : Int) == 2048) = true := by rw [h1]; rfl
        have Hf : Hid (true = r) := Lib.hid (by rw [Hres.out, decide_eq_true (.inl h1)])
        clear h1 Hres hp1
        go_wp2
        go_ret
        exact ⟨congrArg (fun x => Ending.returned (Value.bool x)) Hf.out, rfl⟩
      · have d1 : ((K : Int) == 2048) = false := by rw [beq_eq_false_iff_ne]; omega
        by_cases h2 : M = 1
        · have d2 : ((M : Int) == 1) = true := by rw [h2]; rfl
          have hK := hlast.out.2 h2
          have Hf : Hid (((L : Int) == 1) = r) := Lib.hid (by
            rw [Hres.out, Bool.eq_iff_iff, beq_iff_eq, decide_eq_true_iff]
            omega)
          clear h1 h2 Hres hp1 hK hlast
          go_wp2
          go_ret
          exact ⟨congrArg (fun x => Ending.returned (Value.bool x)) Hf.out, rfl⟩
        · have d2 : ((M : Int) == 1) = false := by rw [beq_eq_false_iff_ne]; omega
          have Hf : Hid (false = r) := Lib.hid (by rw [Hres.out, decide_eq_false (by omega)])
          clear h1 h2 Hres hp1 hlast
          go_wp2
          go_ret
          exact ⟨congrArg (fun x => Ending.returned (Value.bool x)) Hf.out, rfl⟩
theorem uwhole_any (A : Option Addr) (c : Nat) (l : List Int) (w : World) (hl : l.length ≤ 9223372036854775807) (hr : Reads w A (i64z l)) :
    Calls Tryz.prog 57 #[.slice A l.length c] w fun e w' => e = .returned (.bool (decide (Bm.WholeI l))) ∧ w = w' := by
  by_cases hR : Bm.LenR l
  · have hm := umay_any A c l w hl hr
    rw [decide_eq_true hR] at hm
    obtain ⟨e1, h11, elen⟩ := Bm.lenR_nat l hR
    have h256 := hR.1
    have hW : Bm.WholeI l ↔ (Bm.krN (l.map Int.toNat) = 2048 ∨ (Bm.someN (l.map Int.toNat) = 1 ∧ Bm.krN (l.map Int.toNat) = 1024)) := by
      unfold Bm.WholeI Bm.WholeN
      exact ⟨fun h => h.2.2.2, fun h => ⟨hR, by omega, h11, h⟩⟩
    have hd : decide (Bm.WholeI l) = decide (Bm.krN (l.map Int.toNat) = 2048 ∨ (Bm.someN (l.map Int.toNat) = 1 ∧ Bm.krN (l.map Int.toNat) = 1024)) := decide_eq_decide.2 hW
    rw [hd]
    have hr2 : Reads w A (i64s (l.map Int.toNat)) := by rw [← i64z_nat, ← e1]; exact hr
    have h := uwhole_may A c (l.map Int.toNat) w (by omega) h11 hr2 (by rw [elen]; exact hm)
    rw [elen] at h
    exact h
  · have hf : decide (Bm.WholeI l) = false := decide_eq_false (fun h => hR h.1)
    rw [hf]
    exact uwhole_no A c l w hl hr hR
namespace Bm
theorem right_nat (l : List Int) (h : Right l) : l = (l.map Int.toNat).map (fun n : Nat => (n : Int)) ∧ (∀ x ∈ l.map Int.toNat, x ≤ 1048576) ∧ (l.map Int.toNat).length = l.length := by
  refine ⟨?_, ?_, by simp⟩
  · rw [List.map_map]
    conv => lhs; rw [← List.map_id l]
    apply List.map_congr_left
    intro x hx
    have := h.2.1 x hx
    simp only [Function.comp_apply, id]
    omega
  · intro x hx
    obtain ⟨y, hy, rfl⟩ := List.mem_map.1 hx
    have := h.2.1 y hy
    omega
end Bm
theorem nright_b (A : Option Addr) (c : Nat) (l : List Int) (w : World) (hl : l.length ≤ maxLen) (hr : Reads w A (i64z l)) :
    Calls Tryz.prog 53 #[.slice A l.length c] w fun e w' => e = .returned (.bool (Bm.rightB l)) ∧ w = w' := by
  by_cases h : l.length ≤ 1000000000
  · exact nright_any A c l w h hr
  · unfold maxLen at hl
    have hf : Bm.rightB l = false := decide_eq_false (fun h1 => by have := h1.1; omega)
    rw [hf]
    clear hr hf
    go_enter Tryz.func53, Tryz.ntmps53
    go_wp2
    go_ret
    exact ⟨rfl, rfl⟩
end Go.Proofs.YtgcfdjgfnagmjaaGreat

namespace Go.Proofs.YtgcfdjgfnagmjaaGreat
open Go.RowKit
namespace Bm
theorem ite_iff9 {p q : Prop} [Decidable p] [Decidable q] (h : p ↔ q) (a b : Nat) : (if p then a else b) = if q then a else b := by
  by_cases hq : q
  · rw [if_pos hq, if_pos (h.2 hq)]
  · rw [if_neg hq, if_neg (fun hp => hq (h.1 hp))]
/-- Is k's code done, behind the lengths ahead of m, and the first q of length m? -/
def doneC (ls : List Nat) (m q k : Nat) : Prop := 0 < ls[k]?.getD 0 ∧ (ls[k]?.getD 0 < m ∨ (ls[k]?.getD 0 = m ∧ k < q))
instance (ls : List Nat) (m q k : Nat) : Decidable (doneC ls m q k) := by unfold doneC; exact inferInstance
def preQ (ls : List Nat) (m q : Nat) : Nat := ((List.range ls.length).map fun k => if doneC ls m q k then partL (ls[k]?.getD 0) else 0).sum
def codesD (ls : List Nat) (m q : Nat) : List Nat := (List.range ls.length).map fun k => if doneC ls m q k then codeN9 ls k else 0
theorem codesD_length (ls : List Nat) (m q : Nat) : (codesD ls m q).length = ls.length := by simp [codesD]
theorem preQ_next (ls : List Nat) (m q : Nat) (h : q < ls.length) (h0 : 0 < m) (he : ls[q]?.getD 0 = m) : preQ ls m (q + 1) = preQ ls m q + partL m := by
  have e : partL m = ((List.range ls.length).map fun k => if k = q then partL m else 0).sum := by rw [sum_single, if_pos h]
  conv => rhs; rw [e]
  unfold preQ
  rw [← sum_map_add]
  congr 1
  apply List.map_congr_left
  intro k _
  by_cases hk : k = q
  · subst hk
    rw [if_pos (show doneC ls m (k + 1) k by unfold doneC; omega), if_neg (show ¬ doneC ls m k k by unfold doneC; omega), if_pos rfl, he, Nat.zero_add]
  · rw [if_neg hk, Nat.add_zero]
    exact ite_iff9 (by unfold doneC; omega) _ _
theorem done_same (ls : List Nat) (m q : Nat) (he : ls[q]?.getD 0 ≠ m) (k : Nat) : doneC ls m (q + 1) k ↔ doneC ls m q k := by
  unfold doneC
  by_cases hk : k = q
  · subst hk; omega
  · omega
theorem preQ_same (ls : List Nat) (m q : Nat) (he : ls[q]?.getD 0 ≠ m) : preQ ls m (q + 1) = preQ ls m q := by
  unfold preQ
  congr 1
  apply List.map_congr_left
  intro k _
  exact ite_iff9 (done_same ls m q he k) _ _
theorem codesD_same (ls : List Nat) (m q : Nat) (he : ls[q]?.getD 0 ≠ m) : codesD ls m (q + 1) = codesD ls m q := by
  unfold codesD
  apply List.map_congr_left
  intro k _
  exact ite_iff9 (done_same ls m q he k) _ _
theorem done_row (ls : List Nat) (m : Nat) (k : Nat) (hk : k < ls.length) : doneC ls m ls.length k ↔ doneC ls (m + 1) 0 k := by unfold doneC; omega
theorem preQ_row (ls : List Nat) (m : Nat) : preQ ls m ls.length = preQ ls (m + 1) 0 := by
  unfold preQ
  congr 1
  apply List.map_congr_left
  intro k hk
  exact ite_iff9 (done_row ls m k (List.mem_range.1 hk)) _ _
theorem codesD_row (ls : List Nat) (m : Nat) : codesD ls m ls.length = codesD ls (m + 1) 0 := by
  unfold codesD
  apply List.map_congr_left
  intro k hk
  exact ite_iff9 (done_row ls m k (List.mem_range.1 hk)) _ _
theorem preQ_zero (ls : List Nat) : preQ ls 1 0 = 0 := by
  unfold preQ
  have : ∀ L : List Nat, (L.map fun k => if doneC ls 1 0 k then partL (ls[k]?.getD 0) else 0).sum = 0 := fun L => by
    induction L with
    | nil => rfl
    | cons k L ih =>
      rw [List.map_cons, List.sum_cons, ih, if_neg (by unfold doneC; omega)]
  exact this _
theorem codesD_zero (ls : List Nat) : codesD ls 1 0 = List.replicate ls.length 0 := by
  unfold codesD
  rw [List.map_congr_left (g := fun _ => 0) (fun k _ => if_neg (by unfold doneC; omega)), List.map_const', List.length_range]
theorem codesD_all (ls : List Nat) (h : ∀ x ∈ ls, x ≤ 11) : codesD ls 12 0 = codesN ls := by
  unfold codesD codesN
  apply List.map_congr_left
  intro k hk
  have hk := List.mem_range.1 hk
  have h1 : ls[k]?.getD 0 ≤ 11 := by rw [List.getElem?_eq_getElem hk, Option.getD_some]; exact h _ (List.getElem_mem hk)
  by_cases h0 : ls[k]?.getD 0 = 0
  · rw [if_neg (by unfold doneC; omega)]
    unfold codeN9
    rw [if_pos h0]
  · rw [if_pos (by unfold doneC; omega)]
theorem preQ_ahead (ls : List Nat) (m q : Nat) (he : ls[q]?.getD 0 = m) : aheadN ls q = preQ ls m q := by
  unfold aheadN aheadQ preQ
  congr 1
  apply List.map_congr_left
  intro k _
  refine ite_iff9 ?_ _ _
  unfold beforeB doneC
  rw [he]
  simp only [Bool.and_eq_true, Bool.or_eq_true, decide_eq_true_eq]
theorem preQ_le (ls : List Nat) (m q : Nat) : preQ ls m q ≤ krN ls := by
  rw [krN_range]
  unfold preQ
  apply sum_map_le
  intro k _
  split
  · exact Nat.le_refl _
  · exact Nat.zero_le _
theorem codesD_next (ls : List Nat) (m q : Nat) (h0 : 0 < m) (he : ls[q]?.getD 0 = m) : codesD ls m (q + 1) = (codesD ls m q).set q (codeN9 ls q) := by
  apply List.ext_getElem
  · simp [codesD_length]
  · intro k h1 h2
    rw [List.getElem_set]
    simp only [codesD, List.getElem_map, List.getElem_range]
    by_cases hk : q = k
    · subst hk
      rw [if_pos rfl, if_pos (by unfold doneC; omega)]
    · rw [if_neg hk]
      exact ite_iff9 (by unfold doneC; omega) _ _
theorem code_is (ls : List Nat) (m q N : Nat) (h0 : 0 < m) (he : ls[q]?.getD 0 = m) (hN : N * 2 ^ (11 - m) = preQ ls m q) : codeN9 ls q = N := by
  unfold codeN9
  rw [he, if_neg (by omega), preQ_ahead ls m q he, ← hN, Nat.mul_div_cancel _ (Nat.two_pow_pos _)]
theorem step_up (N m X : Nat) (h0 : 0 < m) (h : m ≤ 11) (hN : N * 2 ^ (12 - m) = X) : 2 * N * 2 ^ (11 - m) = X := by
  rw [← hN, show 12 - m = (11 - m) + 1 by omega, Nat.pow_succ, Nat.mul_comm 2 N, Nat.mul_assoc, Nat.mul_comm 2]
theorem step_one (N m X : Nat) (h : m ≤ 11) (h0 : 0 < m) (hN : N * 2 ^ (11 - m) = X) : (N + 1) * 2 ^ (11 - m) = X + partL m := by
  unfold partL
  rw [if_neg (by omega), Nat.add_mul, hN, Nat.one_mul]
theorem code_bound (N e X : Nat) (h : N * 2 ^ e = X) (hX : X ≤ 2048) : N ≤ 2048 := Nat.le_trans (by rw [← h]; exact Nat.le_mul_of_pos_right _ (Nat.two_pow_pos _)) hX
end Bm
set_option maxHeartbeats 4000000 in
set_option maxRecDepth 100000 in
theorem ucodes_yes (A : Option Addr) (c : Nat) (ls : List Nat) (w : World) (hl : ls.length ≤ 256) (h11 : ∀ x ∈ ls, x ≤ 11) (hkr : Bm.krN ls ≤ 2048) (hr : Reads w A (i64s ls)) (hwh : Calls Tryz.prog 57 #[.slice A ls.length c] w fun e w' => e = .returned (.bool true) ∧ w = w') :
    Calls Tryz.prog 61 #[.slice A ls.length c] w fun e w' => ∃ g, e = .returned (.tuple #[.slice (some ⟨g, 0, none⟩) ls.length ls.length, .bool true]) ∧ Row w' g 3 (i64s (Bm.codesN ls)) ∧ w.heap.size ≤ g ∧ Below w.heap.size w w' := by
  obtain ⟨i0, hi, hz0, hz1, hz2⟩ := info_parts info_in
  have Hr := Lib.hid hr
  have H11 := Lib.hid h11
  have Hwh := Lib.hid hwh
  have Hle := Lib.hid (fun m q => Nat.le_trans (Bm.preQ_le ls m q) hkr)
  clear hr h11 hwh hkr
  obtain ⟨g0, hg0⟩ : ∃ g, g = w.heap.size := ⟨_, rfl⟩
  have Hg0 := Lib.hid hg0
  clear hg0
  go_enter Tryz.func61, Tryz.ntmps61
  go_wp2_with fail
  refine Hwh.out.mono ?_
  rintro e w' ⟨rfl, rfl⟩
  clear Hwh
  go_wp2_with (at_make; refine wpList_make_full _ rfl _ _ 33 rfl w.heap.size 3 i0 (.int .i64 0) 1 Tryz.underlying33 hi hz0 hz1 .i64 .i64 _ _ ls.length rfl rfl ?c1 ?c1 ?c2 ?c3 ?c4 ?_)
  case c1 => omega
  case c2 => first | omega | (rw [hz2]; omega)
  case c3 => unfold maxLen; omega
  try case c4 => exact Nat.le_refl _
  intro w1 hown1 hg1
  have hb1 := below_of_grown hg1
  have hr1 := row_of_ownI hown1
  rw [← Hg0.out] at hr1 ⊢
  have Hb1 := Lib.hid hb1
  rw [← Bm.codesD_zero ls] at hr1
  have Hr1 := Lib.hid hr1
  clear hown1 hg1 hb1 hr1 hi hz0 hz1 hz2
  go_wp2
  go_loopw [5, 6] (fun nx ln wr => ∃ (N m : Nat), nx = .int .i64 (N : Int) ∧ ln = .int .i64 (m : Int) ∧ 0 < m ∧ m ≤ 12 ∧ N ≤ 2048 ∧ Hid (N * 2 ^ (12 - m) = Bm.preQ ls m 0) ∧ Hid (Row wr g0 3 (i64s (Bm.codesD ls m 0))) ∧ Hid (Below w.heap.size w wr)) (fun _ ln _ => 12 - (intOf ln).toNat)
  case atStart => exact ⟨0, 1, rfl, rfl, by omega, by omega, by omega, Lib.hid (by rw [Bm.preQ_zero, Nat.zero_mul]), Hr1, Hb1⟩
  case round =>
    obtain ⟨N, m, rfl, rfl, hm0, hm12, hN, hpre, hrow, hbel⟩ := hrel
    clear Hr1 Hb1
    by_cases hm : m ≤ 11
    · have Hp1 := Lib.hid (Bm.step_up N m _ hm0 hm hpre.out)
      have hN2 := Bm.code_bound _ _ _ Hp1.out (Hle.out m 0)
      clear hpre
      go_wp2
      rename World => wx
      go_loopw [5, 23] (fun nx iv wr => ∃ (N2 q : Nat), q ≤ ls.length ∧ nx = .int .i64 (N2 : Int) ∧ iv = .int .i64 (q : Int) ∧ N2 ≤ 2048 ∧ Hid (N2 * 2 ^ (11 - m) = Bm.preQ ls m q) ∧ Hid (Row wr g0 3 (i64s (Bm.codesD ls m q))) ∧ Hid (Below w.heap.size w wr)) (fun _ iv _ => ls.length - (intOf iv).toNat)
      case atStart => exact ⟨2 * N, 0, by omega, by go_num, rfl, hN2, Hp1, hrow, hbel⟩
      case round =>
        obtain ⟨N2, q, hq, rfl, rfl, hN3, hpre2, hrow2, hbel2⟩ := hrel
        clear hrow hbel Hp1
        by_cases hql : q < ls.length
        · obtain ⟨g, off, rfl, hc⟩ := reads_i9 (reads_on Hr.out hbel2.out) (by omega)
          have c0 := hc q hql
          have hx11 := H11.out ls[q] (List.getElem_mem hql)
          have hgq : ls[q]?.getD 0 = ls[q] := by rw [List.getElem?_eq_getElem hql, Option.getD_some]
          have Hgq := Lib.hid hgq
          clear hc hgq
          obtain ⟨x, hx⟩ : ∃ x, x = ls[q] := ⟨_, rfl⟩
          rw [← hx] at c0 hx11 Hgq
          clear hx
          by_cases hxm : x = m
          · subst hxm
            have Hp2 := Lib.hid (Bm.step_one N2 x _ hm hm0 hpre2.out)
            rw [← Bm.preQ_next ls x q hql hm0 Hgq.out] at Hp2
            have hN4 := Bm.code_bound _ _ _ Hp2.out (Hle.out x (q + 1))
            have Hcd := Lib.hid (Bm.codesD_next ls x q hm0 Hgq.out)
            rw [Bm.code_is ls x q N2 hm0 Hgq.out hpre2.out] at Hcd
            have hlen : (i64s (Bm.codesD ls x q)).length = ls.length := by rw [i64s_length, Bm.codesD_length]
            have hcell : ∃ v, wr.cell? ⟨g0, q, none⟩ = some v := ⟨_, (hrow2.out.cell q).trans (List.getElem?_eq_getElem (by omega))⟩
            obtain ⟨v0, hcd⟩ := hcell
            have hfd : wr.frozen? ⟨g0, q, none⟩ = false := hrow2.out.free q
            have hrow3 : Row (wr.setCell ⟨g0, q, none⟩ (.int .i64 (N2 : Int))) g0 3 (i64s (Bm.codesD ls x (q + 1))) := by
              have h1 := hrow2.out.set_ q (.int .i64 (N2 : Int))
              rw [Hcd.out, show i64s ((Bm.codesD ls x q).set q N2) = (i64s (Bm.codesD ls x q)).set q (.int .i64 (N2 : Int)) by simp [i64s, List.map_set]]
              exact h1
            have Hrow3 := Lib.hid hrow3
            have Hbel3 := Lib.hid (hbel2.out.setCell (p := ⟨g0, q, none⟩) (by rw [Hg0.out]; exact Nat.le_refl _) (.int .i64 (N2 : Int)))
            clear hrow3 hlen hrow2 hbel2 hpre2 Hcd
            go_wp2
            go_roundw
            case rel => exact ⟨N2 + 1, q + 1, by omega, by go_num, by go_num, hN4, Hp2, Hrow3, Hbel3⟩
            case measure => simp [intOf]; omega
          · have Hp2 : Hid (N2 * 2 ^ (11 - m) = Bm.preQ ls m (q + 1)) := Lib.hid (by rw [Bm.preQ_same ls m q (by rw [Hgq.out]; exact hxm)]; exact hpre2.out)
            have Hrow3 : Hid (Row wr g0 3 (i64s (Bm.codesD ls m (q + 1)))) := Lib.hid (by rw [Bm.codesD_same ls m q (by rw [Hgq.out]; exact hxm)]; exact hrow2.out)
            have hne : ((x : Int) == (m : Int)) = false := by rw [beq_eq_false_iff_ne]; omega
            clear hrow2 hpre2
            go_wp2
            go_roundw
            case rel => exact ⟨N2, q + 1, by omega, rfl, by go_num, hN3, Hp2, Hrow3, hbel2⟩
            case measure => simp [intOf]; omega
        · obtain rfl : q = ls.length := by omega
          have Hp3 : Hid (N2 * 2 ^ (12 - (m + 1)) = Bm.preQ ls (m + 1) 0) := Lib.hid (by rw [← Bm.preQ_row, show 12 - (m + 1) = 11 - m by omega]; exact hpre2.out)
          have Hrow3 : Hid (Row wr g0 3 (i64s (Bm.codesD ls (m + 1) 0))) := Lib.hid (by rw [← Bm.codesD_row]; exact hrow2.out)
          clear hrow2 hpre2
          go_wp2
          go_roundw
          case rel => exact ⟨N2, m + 1, rfl, by go_num, by omega, by omega, hN3, Hp3, Hrow3, hbel2⟩
          case measure => simp [intOf]; omega
    · obtain rfl : m = 12 := by omega
      have Hrow2 : Hid (Row wr g0 3 (i64s (Bm.codesN ls))) := Lib.hid (by rw [← Bm.codesD_all ls H11.out]; exact hrow.out)
      clear hrow hpre
      go_wp2
      go_ret2
      exact ⟨g0, rfl, Hrow2.out, by rw [Hg0.out]; exact Nat.le_refl _, hbel.out⟩
theorem ucodes_no (A : Option Addr) (c : Nat) (l : List Int) (w : World) (hl : l.length ≤ 9223372036854775807) (hr : Reads w A (i64z l)) (hno : ¬ Bm.WholeI l) :
    Calls Tryz.prog 61 #[.slice A l.length c] w fun e w' => e = .returned (.tuple #[.slice none 0 0, .bool false]) ∧ w = w' := by
  have h := uwhole_any A c l w hl hr
  rw [decide_eq_false hno] at h
  have H := Lib.hid h
  clear h hr hno
  go_enter Tryz.func61, Tryz.ntmps61
  go_wp2_with fail
  refine H.out.mono ?_
  rintro e w' ⟨rfl, rfl⟩
  go_wp2
  go_ret2
  exact ⟨rfl, rfl⟩
end Go.Proofs.YtgcfdjgfnagmjaaGreat

namespace Go.Proofs.YtgcfdjgfnagmjaaGreat
open Go.RowKit
namespace Bm
theorem topB_pos (bs : List Nat) (h : bs ≠ []) : 0 < topB bs := by
  cases bs with
  | nil => exact absurd rfl h
  | cons x a => rw [topB]; omega
/-- The parts of the first k counts, noughts behind. -/
def partsTo (cs : List Nat) (size k : Nat) : List Nat := (cs.take k).map (partN size cs.sum) ++ List.replicate (cs.length - k) 0
theorem partsTo_zero (cs : List Nat) (size : Nat) : partsTo cs size 0 = List.replicate cs.length 0 := by simp [partsTo]
theorem partsTo_all (cs : List Nat) (size : Nat) : partsTo cs size cs.length = parts cs size := by simp [partsTo, parts]
theorem partsTo_length (cs : List Nat) (size k : Nat) (h : k ≤ cs.length) : (partsTo cs size k).length = cs.length := by simp [partsTo]; omega
theorem partsTo_get (cs : List Nat) (size k : Nat) (h : k < cs.length) : (partsTo cs size k)[k]? = some 0 := by
  unfold partsTo
  have h1 : ((cs.take k).map (partN size cs.sum)).length = k := by simp; omega
  rw [List.getElem?_append_right (by omega), h1, Nat.sub_self, List.getElem?_replicate, if_pos (by omega)]
theorem partsTo_next (cs : List Nat) (size k : Nat) (h : k < cs.length) : partsTo cs size (k + 1) = (partsTo cs size k).set k (partN size cs.sum cs[k]) := by
  unfold partsTo
  have h1 : ((cs.take k).map (partN size cs.sum)).length = k := by simp; omega
  rw [List.set_append_right _ _ (by omega), h1, Nat.sub_self, List.take_succ_eq_append_getElem h, List.map_append, List.append_assoc]
  congr 1
  obtain ⟨m, hm⟩ : ∃ m, cs.length - k = m + 1 := ⟨cs.length - k - 1, by omega⟩
  rw [hm, show cs.length - (k + 1) = m by omega, List.replicate_succ]
  simp
theorem partsTo_none (cs : List Nat) (size k : Nat) (h : k < cs.length) (h0 : cs[k] = 0) : partsTo cs size (k + 1) = partsTo cs size k := by
  have hz : partN size cs.sum 0 = 0 := by simp [partN]
  rw [partsTo_next cs size k h, h0, hz]
  apply List.ext_getElem?
  intro i
  rw [List.getElem?_set]
  split
  · next e =>
    subst e
    rw [if_pos (by rw [partsTo_length cs size k (by omega)]; omega), partsTo_get cs size k h]
  · rfl
theorem mem_le_sum (l : List Nat) (x : Nat) (h : x ∈ l) : x ≤ l.sum := by
  induction l with
  | nil => cases h
  | cons a l ih =>
    rw [List.sum_cons]
    rcases List.mem_cons.1 h with rfl | h1
    · omega
    · have := ih h1; omega
theorem partN_max (size total c : Nat) (h : 0 < c) : max ((c : Int) * size / total) 1 = (partN size total c : Int) := by
  have e : (c : Int) * size / total = ((c * size / total : Nat) : Int) := by simp
  unfold partN
  rw [e]
  split
  · next h1 => rw [h1.1]; rfl
  · next h1 =>
    have h2 : c * size / total ≠ 0 := fun e => h1 ⟨e, h⟩
    generalize c * size / total = q at h2 ⊢
    omega
theorem sum_le (l : List Nat) (m : Nat) (h : ∀ x ∈ l, x ≤ m) : l.sum ≤ m * l.length := by
  induction l with
  | nil => simp
  | cons a l ih =>
    have h1 := ih (fun x hx => h x (List.mem_cons_of_mem _ hx))
    have h2 := h a List.mem_cons_self
    rw [List.sum_cons, List.length_cons, Nat.mul_succ]
    omega
end Bm

set_option maxHeartbeats 1000000 in
set_option maxRecDepth 100000 in
theorem nmax_any (A : Option Addr) (c : Nat) (bs : List Nat) (w : World) (hl : bs.length ≤ 1000000000) (h0 : 0 < bs.length) (hlt : ∀ x ∈ bs, x < 256) (hr : Reads w A (u8s bs)) :
    Calls Tryz.prog 29 #[.slice A bs.length c] w fun e w' => e = .returned (.int .u8 ((Bm.topB bs : Int) - 1)) ∧ w = w' := by
  have hne : bs ≠ [] := by intro e; rw [e] at h0; simp at h0
  obtain ⟨g, off, rfl, hc⟩ := reads_u8 hr hne
  have Hc := Lib.hid hc
  have Hlt := Lib.hid hlt
  have c0 := hc 0 h0
  have hb0 := hlt bs[0] (List.getElem_mem h0)
  have H0 : Hid (Bm.topB (bs.take 1) = bs[0] + 1) := Lib.hid (by
    have h1 := Bm.topB_take bs 0 h0
    rw [List.take_zero] at h1
    rw [h1]
    simp [Bm.topB])
  obtain ⟨r, hres⟩ : ∃ r, r = Bm.topB bs := ⟨_, rfl⟩
  rw [← hres]
  have Hres := Lib.hid hres
  clear hr hlt hc hres
  rw [Nat.add_zero] at c0
  generalize bs[0] = b0 at c0 hb0 H0
  go_enter Tryz.func29, Tryz.ntmps29
  go_wp2
  go_loop [3, 4] (fun m i => ∃ k : Nat, 1 ≤ k ∧ k ≤ bs.length ∧ i = .int .i64 (k : Int) ∧ m = .int .u8 ((Bm.topB (bs.take k) : Int) - 1)) (fun _ i => bs.length - (intOf i).toNat)
  case atStart => exact ⟨1, by omega, by omega, rfl, by rw [H0.out]; go_num⟩
  case round =>
    obtain ⟨k, hk1, hk, rfl, rfl⟩ := hrel
    clear c0
    by_cases hkl : k < bs.length
    · have c1 := Hc.out k hkl
      have hb := Hlt.out bs[k] (List.getElem_mem hkl)
      have hT1 := Bm.topB_le (bs.take k) (fun x hx => Hlt.out x (List.mem_of_mem_take hx))
      have Hs := Lib.hid (Bm.topB_take bs k hkl)
      have hp : 0 < Bm.topB (bs.take k) := Bm.topB_pos _ (fun e => by
        have h1 := congrArg List.length e
        rw [List.length_take, List.length_nil] at h1
        omega)
      generalize Bm.topB (bs.take k) = T at hT1 Hs hp ⊢
      generalize bs[k] = b at c1 hb Hs
      have hmx := max_top T b
      generalize max T (b + 1) = T2 at hmx Hs
      go_wp2
      go_round
      case rel => exact ⟨k + 1, by omega, by omega, by go_num, by rw [Hs.out]⟩
      case measure => simp [intOf]; omega
    · obtain rfl : k = bs.length := by omega
      rw [List.take_length, ← Hres.out]
      go_wp2
      go_ret
      exact ⟨rfl, rfl⟩

set_option maxHeartbeats 1000000 in
set_option maxRecDepth 100000 in
theorem nof_is : COf := by
  intro A c bs w hl hlt hr
  rcases Nat.eq_zero_or_pos bs.length with h0 | h0
  · have hb : bs = [] := List.eq_nil_of_length_eq_zero h0
    subst hb
    go_enter Tryz.func13, Tryz.ntmps13
    go_wp2
    go_ret
    exact ⟨none, 0, rfl, fun h => absurd rfl h, Below.refl _ _⟩
  have hz : ((bs.length : Int) == 0) = false := by rw [beq_eq_false_iff_ne]; omega
  obtain ⟨i0, hi, hz0, hz1, hz2⟩ := info_parts info_in
  have Hr := Lib.hid hr
  have Hlt := Lib.hid hlt
  have hT := Bm.topB_le bs hlt
  have hT0 := Bm.topB_pos bs (by intro e; rw [e] at h0; simp at h0)
  have Hmx := Lib.hid (nmax_any A c bs w (by omega) h0 hlt hr)
  clear hr hlt
  obtain ⟨g0, hg0⟩ : ∃ g, g = w.heap.size := ⟨_, rfl⟩
  have Hg0 := Lib.hid hg0
  obtain ⟨T, hTe⟩ : ∃ T, T = Bm.topB bs := ⟨_, rfl⟩
  have HTe := Lib.hid hTe
  have Hmx2 : Hid (Calls Tryz.prog 29 #[.slice A bs.length c] w fun e w' => e = .returned (.int .u8 ((T : Int) - 1)) ∧ w = w') := Lib.hid (by rw [hTe]; exact Hmx.out)
  rw [← hTe] at hT hT0 ⊢
  clear hg0 hTe Hmx
  go_enter Tryz.func13, Tryz.ntmps13
  go_wp2_with fail
  refine Hmx2.out.mono ?_
  rintro e w' ⟨rfl, rfl⟩
  clear Hmx2
  have e1 : ((T : Int) - 1) + 1 = (T : Int) := by omega
  go_wp2_with (at_make; refine wpList_make_full _ rfl _ _ 33 rfl w.heap.size 3 i0 (.int .i64 0) 1 Tryz.underlying33 hi hz0 hz1 .i64 .i64 _ _ T rfl rfl ?c1 ?c1 ?c2 ?c3 ?c4 ?_)
  case c1 => omega
  case c2 => first | omega | (rw [hz2]; omega)
  case c3 => unfold maxLen; omega
  try case c4 => exact Nat.le_refl _
  intro w1 hown1 hg1
  have hb1 := below_of_grown hg1
  have hr1 := row_of_ownI hown1
  rw [← Hg0.out] at hr1 ⊢
  have Hb1 := Lib.hid hb1
  rw [HTe.out, ← Bm.countsTo_zero] at hr1
  have Hr1 := Lib.hid hr1
  clear hown1 hg1 hb1 hr1 hi hz0 hz1 hz2 e1 hz
  go_wp2
  go_loopw [16] (fun i wr => ∃ k : Nat, k ≤ bs.length ∧ i = .int .i64 (k : Int) ∧ Hid (Row wr g0 3 (i64s (Bm.countsTo bs k))) ∧ Hid (Below w.heap.size w wr)) (fun i _ => bs.length - (intOf i).toNat)
  case atStart => exact ⟨0, by omega, rfl, Hr1, Hb1⟩
  case round =>
    obtain ⟨k, hk, rfl, hrow, hbel⟩ := hrel
    clear Hr1 Hb1
    by_cases hkl : k < bs.length
    · have hne : bs ≠ [] := by intro e; rw [e] at hkl; simp at hkl
      obtain ⟨g, off, rfl, hc⟩ := reads_u8 (reads_on Hr.out hbel.out) hne
      have c0 := hc k hkl
      have hb := Hlt.out bs[k] (List.getElem_mem hkl)
      have hbT : bs[k] < T := by rw [HTe.out]; exact Bm.topB_mem bs _ (List.getElem_mem hkl)
      have hcb : (bs.take k).count bs[k] ≤ bs.length := Nat.le_trans List.count_le_length (by rw [List.length_take]; omega)
      have hcell := hrow.out.cell bs[k]
      have hgt := Bm.countsTo_get bs k bs[k] (by rw [← HTe.out]; exact hbT)
      simp only [i64s, List.getElem?_map, hgt, Option.map_some] at hcell
      have hfree := hrow.out.free bs[k]
      have Hn := Lib.hid (Bm.countsTo_next bs k hkl)
      clear hc hgt
      generalize (bs.take k).count bs[k] = q at hcb hcell Hn
      generalize bs[k] = b at c0 hb hbT hcell hfree Hn
      go_wp2
      go_roundw
      case rel =>
        refine ⟨k + 1, by omega, by go_num, Lib.hid ?_, Lib.hid (hbel.out.setCell (by rw [Hg0.out]; exact Nat.le_refl _) _)⟩
        rw [Hn.out]
        have h1 := hrow.out.set_ b (.int .i64 ((q : Int) + 1))
        rw [show i64s ((Bm.countsTo bs k).set b (q + 1)) = (i64s (Bm.countsTo bs k)).set b (.int .i64 ((q : Int) + 1)) by simp [i64s, List.map_set]]
        exact h1
      case measure => simp [intOf]; omega
    · obtain rfl : k = bs.length := by omega
      rw [Bm.countsTo_all] at hrow
      go_wp2
      go_ret
      exact ⟨some ⟨g0, 0, none⟩, T, rfl, row_reads hrow.out, hbel.out⟩

end Go.Proofs.YtgcfdjgfnagmjaaGreat
