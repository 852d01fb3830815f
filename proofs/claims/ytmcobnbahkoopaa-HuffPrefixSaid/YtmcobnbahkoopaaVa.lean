/-
  The program's layer 9 (huff), by its walk: may, cost, Whole, Cost. Conditions: as each theorem's premises say.
-/
import Derived.Test.YtmcobnbahkoopaaUt
import Derived.Test.YtmcobnbahkoopaaUf
import Derived.Test.YtmcobnbahkoopaaNp
namespace Go.Proofs.Ytmcobnbahkoopaa
open Go.RowKit
set_option maxHeartbeats 1000000 in
set_option maxRecDepth 100000 in
theorem umay_any (A : Option Addr) (c : Nat) (l : List Int) (w : World) (hl : l.length ≤ 9223372036854775807) (hr : Reads w A (i64z l)) :
    Calls Try.prog 23 #[.slice A l.length c] w fun e w' => e = .returned (.bool (decide (Bm.LenR l))) ∧ w = w' := by
  have Hr := Lib.hid hr
  obtain ⟨r, hres⟩ : ∃ r, r = decide (Bm.LenR l) := ⟨_, rfl⟩
  rw [← hres]
  have hno : ∀ P : Prop, (Bm.LenR l → P) → ¬ P → false = r := fun P h hp => by
    rw [hres]; symm; exact decide_eq_false (fun h1 => hp (h h1))
  have Hno := Lib.hid hno
  have Hres := Lib.hid hres
  clear hr hres hno
  by_cases h3 : 256 < l.length
  · have hf : false = r := Hno.out (l.length ≤ 256) (fun h => h.1) (by omega)
    rw [← hf]
    go_enter Try.func23, Try.ntmps23
    go_wp2
    go_ret
    exact ⟨rfl, rfl⟩
  go_enter Try.func23, Try.ntmps23
  go_wp2
  go_loop [10] (fun i => ∃ k : Nat, k ≤ l.length ∧ i = .int .i64 (k : Int) ∧ ∀ x ∈ l.take k, 0 ≤ x ∧ x ≤ 11) (fun i => l.length - (intOf i).toNat)
  case atStart => exact ⟨0, by omega, rfl, by simp⟩
  case round =>
    obtain ⟨k, hk, rfl, hall⟩ := hrel
    by_cases hkl : k < l.length
    · obtain ⟨g, off, rfl, hc⟩ := reads_iz Hr.out (by omega)
      have c0 := hc k hkl
      have Ha := Lib.hid (Bm.all_take9 (fun x => 0 ≤ x ∧ x ≤ 11) l k hkl hall)
      have Hm := Lib.hid (List.getElem_mem hkl)
      clear hc hall Hres
      generalize l[k] = z at c0 Ha Hm
      by_cases hz : z < 0
      · have hf : false = r := Hno.out (0 ≤ z) (fun h => (h.2 z Hm.out).1) (by omega)
        have Hf := Lib.hid hf
        clear hf
        go_wp2
        go_ret
        exact ⟨congrArg (fun x => Ending.returned (Value.bool x)) Hf.out, rfl⟩
      by_cases hz2 : 11 < z
      · have hf : false = r := Hno.out (z ≤ 11) (fun h => (h.2 z Hm.out).2) (by omega)
        have Hf := Lib.hid hf
        clear hf
        go_wp2
        go_ret
        exact ⟨congrArg (fun x => Ending.returned (Value.bool x)) Hf.out, rfl⟩
      go_wp2
      go_round
      case rel => exact ⟨k + 1, by omega, by go_num, Ha.out (by omega)⟩
      case measure => simp [intOf]; omega
    · obtain rfl : k = l.length := by omega
      rw [List.take_length] at hall
      have hres : true = r := by
        rw [Hres.out]
        symm
        exact decide_eq_true ⟨by omega, hall⟩
      clear Hr Hno Hres hall
      have Hf := Lib.hid hres
      clear hres
      go_wp2
      go_ret
      exact ⟨congrArg (fun x => Ending.returned (Value.bool x)) Hf.out, rfl⟩
namespace Bm
theorem costTo_le2 (cs ls : List Nat) (hc : ∀ x ∈ cs, x ≤ 1048576) (hl : ∀ x ∈ ls, x ≤ 512) : ∀ k, costTo cs ls k ≤ 536870912 * k
  | 0 => by simp [costTo]
  | k + 1 => by
    have h1 : cs[k]?.getD 0 ≤ 1048576 := by
      rcases h : cs[k]? with _ | x
      · simp
      · exact hc x (List.mem_of_getElem? h)
    have h2 : ls[k]?.getD 0 ≤ 512 := by
      rcases h : ls[k]? with _ | x
      · simp
      · exact hl x (List.mem_of_getElem? h)
    have h3 := Nat.mul_le_mul h1 h2
    have ih := costTo_le2 cs ls hc hl k
    rw [costTo_succ]
    omega
end Bm
set_option maxHeartbeats 1000000 in
set_option maxRecDepth 100000 in
theorem ucsum_any (A B : Option Addr) (c d : Nat) (cs ls : List Nat) (w : World) (hl : cs.length ≤ ls.length) (hc2 : cs.length ≤ 256) (hl2 : ls.length ≤ 1000000) (hc20 : ∀ x ∈ cs, x ≤ 1048576) (h11 : ∀ x ∈ ls, x ≤ 512) (hr : Reads w A (i64s cs)) (hs : Reads w B (i64s ls)) :
    Calls Try.prog 25 #[.slice A cs.length c, .slice B ls.length d] w fun e w' => e = .returned (.int .i64 (Bm.costN cs ls : Int)) ∧ w = w' := by
  have Hr := Lib.hid hr
  have Hs := Lib.hid hs
  have Hle := Lib.hid (Bm.costTo_le2 cs ls hc20 h11)
  have H20 := Lib.hid hc20
  have H11 := Lib.hid h11
  clear hr hs hc20 h11
  go_enter Try.func25, Try.ntmps25
  go_wp2
  go_loop [5, 10] (fun s i => ∃ k : Nat, k ≤ cs.length ∧ i = .int .i64 (k : Int) ∧ s = .int .i64 (Bm.costTo cs ls k : Int)) (fun _ i => cs.length - (intOf i).toNat)
  case atStart => exact ⟨0, by omega, rfl, rfl⟩
  case round =>
    obtain ⟨k, hk, rfl, rfl⟩ := hrel
    have hle := Hle.out k
    by_cases hkl : k < cs.length
    · obtain ⟨g, off, rfl, hc⟩ := reads_i9 Hr.out (by omega)
      obtain ⟨g', off', rfl, hc'⟩ := reads_i9 Hs.out (by omega)
      have c0 := hc k hkl
      have c1 := hc' k (by omega)
      have hst := Bm.costTo_succ cs ls k
      rw [List.getElem?_eq_getElem hkl, List.getElem?_eq_getElem (show k < ls.length by omega), Option.getD_some, Option.getD_some] at hst
      have b0 := H20.out cs[k] (List.getElem_mem hkl)
      have b1 := H11.out ls[k] (List.getElem_mem (by omega))
      clear hc hc' Hle
      generalize cs[k] = x at *
      generalize ls[k]'(by omega) = y at *
      have hkl2 : k < ls.length := by omega
      generalize Bm.costTo cs ls k = S at *
      have hxy : (x : Int) * (y : Int) = ((x * y : Nat) : Int) := by simp
      have hxyb : x * y ≤ 1048576 * 512 := Nat.mul_le_mul b0 b1
      have hm0 : 0 ≤ (x : Int) * (y : Int) := by rw [hxy]; omega
      have hm1 : (x : Int) * (y : Int) ≤ 536870912 := by rw [hxy]; omega
      have Hst2 : Hid (((Bm.costTo cs ls (k + 1) : Nat) : Int) = (S : Int) + (x : Int) * (y : Int)) := Lib.hid (by rw [hst, hxy]; omega)
      clear hxy hxyb hst
      go_wp2
      go_round
      case rel => exact ⟨k + 1, by omega, by go_num, by rw [Hst2.out]⟩
      case measure => simp [intOf]; omega
    · obtain rfl : k = cs.length := by omega
      rw [Bm.costTo_all]
      go_wp2
      go_ret
      exact ⟨rfl, rfl⟩
namespace Bm
/-- The last length above 0. -/
theorem last_step (ls : List Nat) (k L : Nat) (h : k < ls.length) (h0 : someN (ls.take k) = 0 → krN (ls.take k) = 0) (h1 : someN (ls.take k) = 1 → krN (ls.take k) = partL L) :
    (someN (ls.take (k + 1)) = 0 → krN (ls.take (k + 1)) = 0) ∧ (someN (ls.take (k + 1)) = 1 → krN (ls.take (k + 1)) = partL (if 0 < ls[k] then ls[k] else L)) := by
  obtain ⟨e1, e2⟩ := kr_take ls k h
  rw [e1, e2]
  by_cases hp : 0 < ls[k]
  · rw [if_pos hp, if_pos hp]
    exact ⟨fun h => by omega, fun h => by rw [h0 (by omega)]; omega⟩
  · have hz : ls[k] = 0 := by omega
    have hpz : partL ls[k] = 0 := by unfold partL; rw [if_pos hz]
    rw [if_neg hp, if_neg hp, hpz]
    exact ⟨fun h => by rw [h0 (by omega)], fun h => by rw [h1 (by omega)]; rfl⟩
theorem part_one (L : Nat) (h : L ≤ 11) : partL L = 1024 ↔ L = 1 := by
  have : ∀ n : Fin 12, (partL n.1 = 1024) ↔ n.1 = 1 := by decide
  exact this ⟨L, by omega⟩
theorem part_shr (n : Nat) (h : n ≤ 11) (h0 : 0 < n) : 2048 / 2 ^ n = partL n := by
  have : ∀ n : Fin 12, 0 < n.1 → 2048 / 2 ^ n.1 = partL n.1 := by decide
  exact this ⟨n, by omega⟩ h0
end Bm
set_option maxHeartbeats 1000000 in
set_option maxRecDepth 100000 in
theorem uwhole_no (A : Option Addr) (c : Nat) (l : List Int) (w : World) (hl : l.length ≤ 9223372036854775807) (hr : Reads w A (i64z l)) (hR : ¬ Bm.LenR l) :
    Calls Try.prog 17 #[.slice A l.length c] w fun e w' => e = .returned (.bool false) ∧ w = w' := by
  have Hri := Lib.hid (umay_any A c l w hl hr)
  rw [decide_eq_false hR] at Hri
  clear hr hR
  go_enter Try.func17, Try.ntmps17
  go_wp2_with fail
  refine Hri.out.mono ?_
  rintro e w' ⟨rfl, rfl⟩
  go_wp2
  go_ret
  exact ⟨rfl, rfl⟩
set_option maxHeartbeats 2000000 in
set_option maxRecDepth 100000 in
theorem uwhole_may (A : Option Addr) (c : Nat) (ls : List Nat) (w : World) (hl : ls.length ≤ 256) (h11 : ∀ x ∈ ls, x ≤ 11) (hr : Reads w A (i64s ls)) (hmay : Calls Try.prog 23 #[.slice A ls.length c] w fun e w' => e = .returned (.bool true) ∧ w = w') :
    Calls Try.prog 17 #[.slice A ls.length c] w fun e w' => e = .returned (.bool (decide (Bm.krN ls = 2048 ∨ (Bm.someN ls = 1 ∧ Bm.krN ls = 1024)))) ∧ w = w' := by
  have Hri := Lib.hid hmay
  have Hr := Lib.hid hr
  have H11 := Lib.hid h11
  clear hr h11 hmay
  obtain ⟨r, hres⟩ : ∃ r, r = decide (Bm.krN ls = 2048 ∨ (Bm.someN ls = 1 ∧ Bm.krN ls = 1024)) := ⟨_, rfl⟩
  rw [← hres]
  have Hres := Lib.hid hres
  clear hres
  go_enter Try.func17, Try.ntmps17
  go_wp2_with fail
  refine Hri.out.mono ?_
  rintro e w' ⟨rfl, rfl⟩
  clear Hri
  go_wp2
  go_loop [3, 4, 5, 13] (fun t s z i => ∃ (k L : Nat), k ≤ ls.length ∧ L ≤ 11 ∧ i = .int .i64 (k : Int) ∧ s = .int .i64 (Bm.krN (ls.take k) : Int) ∧ t = .int .i64 (Bm.someN (ls.take k) : Int) ∧ z = .int .i64 (L : Int) ∧ Hid ((Bm.someN (ls.take k) = 0 → Bm.krN (ls.take k) = 0) ∧ (Bm.someN (ls.take k) = 1 → Bm.krN (ls.take k) = Bm.partL L))) (fun _ _ _ i => ls.length - (intOf i).toNat)
  case atStart => exact ⟨0, 0, by omega, by omega, rfl, rfl, rfl, rfl, Lib.hid ⟨fun _ => rfl, fun h => by simp [Bm.someN] at h⟩⟩
  case round =>
    obtain ⟨k, L, hk, hL, rfl, rfl, rfl, rfl, hlast⟩ := hrel
    by_cases hkl : k < ls.length
    · obtain ⟨g, off, rfl, hc⟩ := reads_i9 Hr.out (by omega)
      have c0 := hc k hkl
      have Hst := Lib.hid (Bm.kr_take ls k hkl)
      have Hls := Lib.hid (Bm.last_step ls k L hkl hlast.out.1 hlast.out.2)
      have hkr := Bm.kr_le (ls.take k)
      have hso := Bm.some_le (ls.take k)
      rw [List.length_take, Nat.min_eq_left (by omega)] at hkr hso
      have h11 := H11.out ls[k] (List.getElem_mem hkl)
      have hpl := Bm.part_le ls[k]
      have Hsh := Lib.hid (Bm.part_shr ls[k] h11)
      have Hp0 : Hid (ls[k] = 0 → Bm.partL ls[k] = 0) := Lib.hid (fun h => by unfold Bm.partL; rw [if_pos h])
      clear hc hlast
      generalize Bm.krN (ls.take k) = K at *
      generalize Bm.someN (ls.take k) = M at *
      generalize hP : Bm.partL ls[k] = P at hpl Hsh Hp0 Hst
      clear hP
      generalize ls[k] = x at *
      by_cases hx : 0 < x
      · have hsh := Hsh.out hx
        have hls := Hls.out
        simp only [if_pos hx] at hls
        have Hls2 := Lib.hid hls
        clear Hsh Hp0 Hls hls
        have hsh2 : (2048 : Int) / 2 ^ x = (P : Int) := by rw [← hsh]; simp
        clear hsh
        go_wp2
        go_round
        case rel => exact ⟨k + 1, x, by omega, by omega, by go_num, by rw [Hst.out.1]; go_num, by rw [Hst.out.2, if_pos hx]; go_num, rfl, Hls2⟩
        case measure => simp [intOf]; omega
      · have hP0 := Hp0.out (by omega)
        have hls := Hls.out
        simp only [if_neg hx] at hls
        have Hls2 := Lib.hid hls
        subst hP0
        clear Hsh Hp0 Hls hls
        go_wp2
        go_round
        case rel => exact ⟨k + 1, L, by omega, by omega, by go_num, by rw [Hst.out.1]; go_num, by rw [Hst.out.2, if_neg hx]; go_num, rfl, Hls2⟩
        case measure => simp [intOf]; omega
    · obtain rfl : k = ls.length := by omega
      rw [List.take_length] at hlast
      rw [List.take_length]
      clear Hr H11
      have hp1 := Bm.part_one L hL
      generalize Bm.partL L = P at *
      generalize Bm.krN ls = K at *
      generalize Bm.someN ls = M at *
      by_cases h1 : K = 2048
      · have d1 : ((K : Int) == 2048) = true := by rw [h1]; rfl
        have Hf : Hid (true = r) := Lib.hid (by rw [Hres.out, decide_eq_true (.inl h1)])
        clear h1 Hres hp1
        go_wp2
        go_ret
        exact ⟨congrArg (fun x => Ending.returned (Value.bool x)) Hf.out, rfl⟩
      · have d1 : ((K : Int) == 2048) = false := by rw [beq_eq_false_iff_ne]; omega
        by_cases h2 : M = 1
        · have d2 : ((M : Int) == 1) = true := by rw [h2]; rfl
          have hK := hlast.out.2 h2
          have Hf : Hid (((L : Int) == 1) = r) := Lib.hid (by
            rw [Hres.out, Bool.eq_iff_iff, beq_iff_eq, decide_eq_true_iff]
            omega)
          clear h1 h2 Hres hp1 hK hlast
          go_wp2
          go_ret
          exact ⟨congrArg (fun x => Ending.returned (Value.bool x)) Hf.out, rfl⟩
        · have d2 : ((M : Int) == 1) = false := by rw [beq_eq_false_iff_ne]; omega
          have Hf : Hid (false = r) := Lib.hid (by rw [Hres.out, decide_eq_false (by omega)])
          clear h1 h2 Hres hp1 hlast
          go_wp2
          go_ret
          exact ⟨congrArg (fun x => Ending.returned (Value.bool x)) Hf.out, rfl⟩
theorem uwhole_any (A : Option Addr) (c : Nat) (l : List Int) (w : World) (hl : l.length ≤ 9223372036854775807) (hr : Reads w A (i64z l)) :
    Calls Try.prog 17 #[.slice A l.length c] w fun e w' => e = .returned (.bool (decide (Bm.WholeI l))) ∧ w = w' := by
  by_cases hR : Bm.LenR l
  · have hm := umay_any A c l w hl hr
    rw [decide_eq_true hR] at hm
    obtain ⟨e1, h11, elen⟩ := Bm.lenR_nat l hR
    have h256 := hR.1
    have hW : Bm.WholeI l ↔ (Bm.krN (l.map Int.toNat) = 2048 ∨ (Bm.someN (l.map Int.toNat) = 1 ∧ Bm.krN (l.map Int.toNat) = 1024)) := by
      unfold Bm.WholeI Bm.WholeN
      exact ⟨fun h => h.2.2.2, fun h => ⟨hR, by omega, h11, h⟩⟩
    have hd : decide (Bm.WholeI l) = decide (Bm.krN (l.map Int.toNat) = 2048 ∨ (Bm.someN (l.map Int.toNat) = 1 ∧ Bm.krN (l.map Int.toNat) = 1024)) := decide_eq_decide.2 hW
    rw [hd]
    have hr2 : Reads w A (i64s (l.map Int.toNat)) := by rw [← i64z_nat, ← e1]; exact hr
    have h := uwhole_may A c (l.map Int.toNat) w (by omega) h11 hr2 (by rw [elen]; exact hm)
    rw [elen] at h
    exact h
  · have hf : decide (Bm.WholeI l) = false := decide_eq_false (fun h => hR h.1)
    rw [hf]
    exact uwhole_no A c l w hl hr hR
set_option maxHeartbeats 2000000 in
set_option maxRecDepth 100000 in
theorem ucost_no (A B : Option Addr) (c d : Nat) (cs ls : List Int) (w : World) (hl2 : ls.length ≤ maxLen) (hs : Reads w B (i64z ls)) (hno : ¬ (Bm.Right cs ∧ cs.length ≤ ls.length ∧ Bm.LenR ls))
    (hri : Calls Try.prog 21 #[.slice A cs.length c] w fun e w' => e = .returned (.bool (Bm.rightB cs)) ∧ w = w') :
    Calls Try.prog 14 #[.slice A cs.length c, .slice B ls.length d] w fun e w' => e = .returned (.tuple #[.int .i64 0, .bool false]) ∧ w = w' := by
  unfold maxLen at hl2
  have Hri := Lib.hid hri
  have Hm := Lib.hid (umay_any B d ls w (by omega) hs)
  clear hri hs
  by_cases h1 : Bm.Right cs
  · rw [show Bm.rightB cs = true from decide_eq_true h1] at Hri
    by_cases h2 : cs.length ≤ ls.length
    · have h3 : ¬ Bm.LenR ls := fun h => hno ⟨h1, h2, h⟩
      rw [decide_eq_false h3] at Hm
      clear hno h1 h3
      go_enter Try.func14, Try.ntmps14
      go_wp2_with fail
      refine Hri.out.mono ?_
      rintro e w' ⟨rfl, rfl⟩
      have d1 : decide ((ls.length : Int) < (cs.length : Int)) = false := decide_eq_false (by omega)
      go_wp2_with fail
      refine Hm.out.mono ?_
      rintro e w' ⟨rfl, rfl⟩
      go_wp2
      go_ret2
      exact ⟨rfl, rfl⟩
    · clear hno h1
      go_enter Try.func14, Try.ntmps14
      go_wp2_with fail
      refine Hri.out.mono ?_
      rintro e w' ⟨rfl, rfl⟩
      have d1 : decide ((ls.length : Int) < (cs.length : Int)) = true := decide_eq_true (by omega)
      go_wp2
      go_ret2
      exact ⟨rfl, rfl⟩
  · rw [show Bm.rightB cs = false from decide_eq_false h1] at Hri
    clear hno h1
    go_enter Try.func14, Try.ntmps14
    go_wp2_with fail
    refine Hri.out.mono ?_
    rintro e w' ⟨rfl, rfl⟩
    go_wp2
    go_ret2
    exact ⟨rfl, rfl⟩
set_option maxHeartbeats 2000000 in
set_option maxRecDepth 100000 in
theorem ucost_yes (A B : Option Addr) (c d : Nat) (cs ls : List Nat) (w : World) (hl : cs.length ≤ ls.length) (hl2 : ls.length ≤ 256) (hc20 : ∀ x ∈ cs, x ≤ 1048576) (h11 : ∀ x ∈ ls, x ≤ 11) (hr : Reads w A (i64s cs)) (hs : Reads w B (i64s ls))
    (hri : Calls Try.prog 21 #[.slice A cs.length c] w fun e w' => e = .returned (.bool true) ∧ w = w') (hmay : Calls Try.prog 23 #[.slice B ls.length d] w fun e w' => e = .returned (.bool true) ∧ w = w') :
    Calls Try.prog 14 #[.slice A cs.length c, .slice B ls.length d] w fun e w' => e = .returned (costV cs ls) ∧ w = w' := by
  have Hsum := Lib.hid (ucsum_any A B c d cs ls w hl (by omega) (by omega) hc20 (fun x hx => by have := h11 x hx; omega) hr hs)
  have Hr := Lib.hid hr
  have Hs := Lib.hid hs
  have Hri := Lib.hid hri
  have Hm := Lib.hid hmay
  have Hno : Hid (∀ i, i < cs.length → 0 < cs[i]?.getD 0 → ls[i]?.getD 0 = 0 → Value.tuple #[.int .i64 0, .bool false] = costV cs ls) := Lib.hid (fun i h1 h2 h3 => by
    have hn : ¬ Bm.FitN cs ls := fun h => by have := h i h1 h2; omega
    unfold costV
    rw [if_neg hn, decide_eq_false hn]
    rfl)
  have Hyes : Hid (Bm.FitN cs ls → Value.tuple #[.int .i64 (Bm.costN cs ls : Int), .bool true] = costV cs ls) := Lib.hid (fun h => by
    unfold costV
    rw [if_pos h, decide_eq_true h])
  clear hr hs hri hmay hc20 h11
  go_enter Try.func14, Try.ntmps14
  go_wp2_with fail
  refine Hri.out.mono ?_
  rintro e w' ⟨rfl, rfl⟩
  have d1 : decide ((ls.length : Int) < (cs.length : Int)) = false := decide_eq_false (by omega)
  go_wp2_with fail
  refine Hm.out.mono ?_
  rintro e w' ⟨rfl, rfl⟩
  clear d1 Hm Hri
  go_wp2
  go_loop [25] (fun i => ∃ k : Nat, k ≤ cs.length ∧ i = .int .i64 (k : Int) ∧ Hid (∀ i, i < k → 0 < cs[i]?.getD 0 → 0 < ls[i]?.getD 0)) (fun i => cs.length - (intOf i).toNat)
  case atStart => exact ⟨0, by omega, rfl, Lib.hid (fun i h => by omega)⟩
  case round =>
    obtain ⟨k, hk, rfl, hfit⟩ := hrel
    by_cases hkl : k < cs.length
    · obtain ⟨g, off, rfl, hc⟩ := reads_i9 Hr.out (by omega)
      obtain ⟨g2, off2, rfl, hc2⟩ := reads_i9 Hs.out (by omega)
      have hkl2 : k < ls.length := by omega
      have c0 := hc k hkl
      have c1 := hc2 k hkl2
      have gx : cs[k]?.getD 0 = cs[k] := by rw [List.getElem?_eq_getElem hkl, Option.getD_some]
      have gy : ls[k]?.getD 0 = ls[k] := by rw [List.getElem?_eq_getElem hkl2, Option.getD_some]
      have hno := Hno.out k hkl
      have hfit2 : (0 < cs[k] → 0 < ls[k]) → ∀ i, i < k + 1 → 0 < cs[i]?.getD 0 → 0 < ls[i]?.getD 0 := fun h i hi h1 => by
        by_cases e : i = k
        · subst e; rw [gx] at h1; rw [gy]; exact h h1
        · exact hfit.out i (by omega) h1
      rw [gx, gy] at hno
      have Hn := Lib.hid hno
      have Hf2 := Lib.hid hfit2
      clear hc hc2 hno hfit2 gx gy hfit
      generalize cs[k] = x at *
      generalize ls[k] = y at *
      by_cases h0 : 0 < x ∧ y = 0
      · obtain ⟨h1, rfl⟩ := h0
        have d1 : decide ((0 : Int) < (x : Int)) = true := decide_eq_true (by omega)
        have Hv := Lib.hid (Hn.out h1 rfl)
        clear Hn Hf2 Hno Hyes Hsum
        go_wp2
        go_ret2
        exact ⟨congrArg Ending.returned Hv.out, rfl⟩
      · have Hf3 := Lib.hid (Hf2.out (fun h => by omega))
        clear Hn Hf2 Hno Hyes Hsum
        by_cases h1 : 0 < x
        · have d1 : decide ((0 : Int) < (x : Int)) = true := decide_eq_true (by omega)
          have d2 : ((y : Int) == 0) = false := by rw [beq_eq_false_iff_ne]; omega
          clear h0
          go_wp2
          go_round
          case rel => exact ⟨k + 1, by omega, by go_num, Hf3⟩
          case measure => simp [intOf]; omega
        · have d1 : decide ((0 : Int) < (x : Int)) = false := decide_eq_false (by omega)
          clear h0
          go_wp2
          go_round
          case rel => exact ⟨k + 1, by omega, by go_num, Hf3⟩
          case measure => simp [intOf]; omega
    · obtain rfl : k = cs.length := by omega
      have Hv := Lib.hid (Hyes.out hfit.out)
      clear Hyes Hno hfit Hr Hs
      go_wp2_with fail
      refine Hsum.out.mono ?_
      rintro e w' ⟨rfl, rfl⟩
      go_wp2
      go_ret2
      exact ⟨congrArg Ending.returned Hv.out, rfl⟩
namespace Bm
theorem right_nat (l : List Int) (h : Right l) : l = (l.map Int.toNat).map (fun n : Nat => (n : Int)) ∧ (∀ x ∈ l.map Int.toNat, x ≤ 1048576) ∧ (l.map Int.toNat).length = l.length := by
  refine ⟨?_, ?_, by simp⟩
  · rw [List.map_map]
    conv => lhs; rw [← List.map_id l]
    apply List.map_congr_left
    intro x hx
    have := h.2.1 x hx
    simp only [Function.comp_apply, id]
    omega
  · intro x hx
    obtain ⟨y, hy, rfl⟩ := List.mem_map.1 hx
    have := h.2.1 y hy
    omega
end Bm
theorem nright_b (A : Option Addr) (c : Nat) (l : List Int) (w : World) (hl : l.length ≤ maxLen) (hr : Reads w A (i64z l)) :
    Calls Try.prog 21 #[.slice A l.length c] w fun e w' => e = .returned (.bool (Bm.rightB l)) ∧ w = w' := by
  by_cases h : l.length ≤ 1000000000
  · exact nright_any A c l w h hr
  · unfold maxLen at hl
    have hf : Bm.rightB l = false := decide_eq_false (fun h1 => by have := h1.1; omega)
    rw [hf]
    clear hr hf
    go_enter Try.func21, Try.ntmps21
    go_wp2
    go_ret
    exact ⟨rfl, rfl⟩
theorem ucost_any (A B : Option Addr) (c d : Nat) (cs ls : List Int) (w : World) (hl : cs.length ≤ maxLen) (hl2 : ls.length ≤ maxLen) (hr : Reads w A (i64z cs)) (hs : Reads w B (i64z ls)) :
    Calls Try.prog 14 #[.slice A cs.length c, .slice B ls.length d] w fun e w' => e = .returned (if Bm.Right cs ∧ cs.length ≤ ls.length ∧ Bm.LenR ls then costV (cs.map Int.toNat) (ls.map Int.toNat) else .tuple #[.int .i64 0, .bool false]) ∧ w = w' := by
  have hri := nright_b A c cs w hl hr
  by_cases h : Bm.Right cs ∧ cs.length ≤ ls.length ∧ Bm.LenR ls
  · rw [if_pos h]
    obtain ⟨h1, h2, h3⟩ := h
    rw [show Bm.rightB cs = true from decide_eq_true h1] at hri
    have hm := umay_any B d ls w (by unfold maxLen at hl2; omega) hs
    rw [decide_eq_true h3] at hm
    obtain ⟨e1, k1, n1⟩ := Bm.right_nat cs h1
    obtain ⟨e2, k2, n2⟩ := Bm.lenR_nat ls h3
    have h256 := h3.1
    have h := ucost_yes A B c d (cs.map Int.toNat) (ls.map Int.toNat) w (by omega) (by omega) k1 k2 (by rw [← i64z_nat, ← e1]; exact hr) (by rw [← i64z_nat, ← e2]; exact hs) (by rw [n1]; exact hri) (by rw [n2]; exact hm)
    rw [n1, n2] at h
    exact h
  · rw [if_neg h]
    exact ucost_no A B c d cs ls w hl2 hs h hri
end Go.Proofs.Ytmcobnbahkoopaa
