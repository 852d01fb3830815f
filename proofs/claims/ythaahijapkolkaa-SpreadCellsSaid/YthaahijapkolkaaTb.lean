/-
  The program's layer 6 (spread), by its walk: Back. Conditions: as each theorem's premises say.
-/
import Derived.Test.YthaahijapkolkaaTl
import Derived.Laws.BitsAllLaws
import Derived.Laws.BitsLemmas
namespace Go.Proofs.Ythaahijapkolkaa
open Go.RowKit
theorem and_low (W b : Nat) (hW : W < 4294967296) (hb : b < 32) : bits .and .i64 (W : Int) (((2 ^ b : Nat) : Int) - 1) = ((W % 2 ^ b : Nat) : Int) := by
  have hp : 2 ^ b < 2 ^ 32 := Nat.pow_lt_pow_right (by omega) hb
  have hpos := Nat.two_pow_pos b
  have h1 : ∀ a : Nat, a < 4294967296 → (BitVec.ofInt 64 (a : Int)).toNat = a := fun a ha => by
    rw [BitVec.ofInt_natCast, BitVec.toNat_ofNat]; exact Nat.mod_eq_of_lt (by omega)
  rw [show ((2 ^ b : Nat) : Int) - 1 = ((2 ^ b - 1 : Nat) : Int) by omega]
  show IntKind.i64.wrap ((BitVec.ofInt 64 (W : Int) &&& BitVec.ofInt 64 ((2 ^ b - 1 : Nat) : Int)).toNat : Int) = _
  rw [BitVec.toNat_and, h1 W hW, h1 _ (by omega), Nat.and_two_pow_sub_one_eq_mod, IntKind.wrap_i64]
  have h2 := Nat.mod_lt W hpos
  omega

set_option maxHeartbeats 1000000 in
set_option maxRecDepth 100000 in
theorem tback_out (w : World) (p : Addr) (ls : List Nat) (log : Nat) (st : Int) (s : Nat) (h : STab w p ls log) (hst : ¬ (0 ≤ st ∧ st < ((2 ^ log : Nat) : Int))) :
    Calls Try.prog 13 #[.pointer (some p), .int .i64 st, .int .u8 (s : Int)] w fun e w' => e = .returned (.tuple #[.int .i64 0, .int .i64 0, .int .i64 0, .bool false]) ∧ w = w' := by
  have Hh := Lib.hid (thas_of (.pointer (some p)) (2 ^ log) st w (tsize_any w p ls log h))
  rw [decide_eq_false hst] at Hh
  clear hst h
  go_enter Try.func13, Try.ntmps13
  go_wp2_with fail
  refine Hh.out.mono ?_
  rintro e w' ⟨rfl, rfl⟩
  go_wp2
  refine bodyPost_ret (v := .tuple #[.int .i64 0, .int .i64 0, .int .i64 0, .bool false]) (by simp [results, Try.results13, go_sem]) rfl ⟨rfl, rfl⟩

set_option maxHeartbeats 1000000 in
set_option maxRecDepth 100000 in
theorem tback_none (w : World) (p : Addr) (ls : List Nat) (log : Nat) (st : Int) (s : Nat) (hf : Bm.FairN ls log) (h : STab w p ls log) (hst : 0 ≤ st ∧ st < ((2 ^ log : Nat) : Int)) (hs : ls[s]?.getD 0 = 0) (hs256 : s < 256) :
    Calls Try.prog 13 #[.pointer (some p), .int .i64 st, .int .u8 (s : Int)] w fun e w' => e = .returned (.tuple #[.int .i64 0, .int .i64 0, .int .i64 0, .bool false]) ∧ w = w' := by
  have Hh := Lib.hid (thas_of (.pointer (some p)) (2 ^ log) st w (tsize_any w p ls log h))
  rw [decide_eq_true hst] at Hh
  have hlen := hf.len
  obtain ⟨b, gc, gs, rfl, h1, h2, vs, h3, h4, h5⟩ := h
  have c1 := h1.cell 2
  simp only [List.getElem?_cons_succ, List.getElem?_cons_zero] at c1
  by_cases hsl : s < ls.length
  · obtain ⟨A, c, h6, h7⟩ := h5 s hsl
    have c2 := (h3.cell s).trans h6
    rw [hs] at c2
    have d1 : decide (ls.length ≤ s) = false := decide_eq_false (by omega)
    clear h1 h2 h3 h4 h5 h6 h7 hst hs hf
    go_enter Try.func13, Try.ntmps13
    go_wp2_with fail
    refine Hh.out.mono ?_
    rintro e w' ⟨rfl, rfl⟩
    go_wp2
    refine bodyPost_ret (v := .tuple #[.int .i64 0, .int .i64 0, .int .i64 0, .bool false]) (by simp [results, Try.results13, go_sem]) rfl ⟨rfl, rfl⟩
  · have d1 : decide (ls.length ≤ s) = true := decide_eq_true (by omega)
    clear h1 h2 h3 h4 h5 hst hs hf
    go_enter Try.func13, Try.ntmps13
    go_wp2_with fail
    refine Hh.out.mono ?_
    rintro e w' ⟨rfl, rfl⟩
    go_wp2
    refine bodyPost_ret (v := .tuple #[.int .i64 0, .int .i64 0, .int .i64 0, .bool false]) (by simp [results, Try.results13, go_sem]) rfl ⟨rfl, rfl⟩

set_option maxHeartbeats 2000000 in
set_option maxRecDepth 100000 in
/-- The walk, over letters: the widths, the shifts. -/
theorem tback_walk (w : World) (b gs g off S i W N cap s L1 wN B x x2 q v m cc : Nat) (n0 : Nat) (hh : ∀ W', W' = w → Calls Try.prog 20 #[.pointer (some ⟨b, 0, none⟩), .int .i64 (i : Int)] W' fun e w' => e = .returned (.bool true) ∧ W' = w')
    (hsz : Calls Try.prog 10 #[.pointer (some ⟨b, 0, none⟩)] w fun e w' => e = .returned (.int .i64 (S : Int)) ∧ w = w')
    (c1 : w.cell? ⟨b, 2, none⟩ = some (.slice (some ⟨gs, 0, none⟩) n0 n0)) (hs : s < n0) (hn0 : n0 ≤ 256) (c2 : w.cell? ⟨gs, s, none⟩ = some (.slice (some ⟨g, off, none⟩) N cap))
    (hN0 : 0 < N) (hN : N ≤ 512) (hW : W = i + S) (hWb : W < 1024) (hw1 : Bm.wid W = L1) (hw2 : Bm.wid N = wN) (hB : L1 = B + wN) (hB9 : B ≤ 20) (hx : x = W / 2 ^ B)
    (hlo : x < N → 1 ≤ B ∧ m = B - 1 ∧ x2 = W / 2 ^ m) (hhi : N ≤ x → m = B ∧ x2 = x) (hq : x2 = N + q) (hqN : q < N) (c3 : w.cell? ⟨g, off + q, none⟩ = some (.int .i64 (v : Int))) (hcc : cc = W % 2 ^ m) :
    Calls Try.prog 13 #[.pointer (some ⟨b, 0, none⟩), .int .i64 (i : Int), .int .u8 (s : Int)] w fun e w' => e = .returned (.tuple #[.int .i64 (v : Int), .int .i64 (cc : Int), .int .i64 (m : Int), .bool true]) ∧ Below w.heap.size w w' := by
  have Hh := Lib.hid (hh w rfl)
  have Hsz := Lib.hid hsz
  have Hwd1 := Lib.hid (fun V => width_wid W V (by omega))
  have Hwd2 := Lib.hid (fun V => width_wid N V (by omega))
  rw [hw1] at Hwd1
  rw [hw2] at Hwd2
  have d1 : decide (n0 ≤ s) = false := decide_eq_false (by omega)
  have d2 : ((N : Int) == 0) = false := by rw [beq_eq_false_iff_ne]; omega
  have e1 : (S : Int) + (i : Int) = (W : Int) := by omega
  have e2 : (L1 : Int) - (wN : Int) = (B : Int) := by omega
  have e3 : (W : Int) / 2 ^ B = (x : Int) := by rw [hx]; simp
  have hm : m ≤ B := by
    rcases Nat.lt_or_ge x N with h | h
    · have := hlo h; omega
    · have := hhi h; omega
  have hP : 2 ^ m ≤ 1048576 := by
    have h2 : 2 ^ m ≤ 2 ^ 20 := Nat.pow_le_pow_right (by omega) (by omega)
    have h3 : (2 : Nat) ^ 20 = 1048576 := by decide
    omega
  have e4 : (2 : Int) ^ m = ((2 ^ m : Nat) : Int) := by simp
  have e5 := and_low W m (by omega) (by omega)
  rw [← hcc] at e5
  have hx2 : x2 = W / 2 ^ m := by
    rcases Nat.lt_or_ge x N with h | h
    · exact (hlo h).2.2
    · obtain ⟨h1, h2⟩ := hhi h; rw [h2, h1, hx]
  have e6 : (W : Int) / ((2 ^ m : Nat) : Int) = (x2 : Int) := by rw [hx2]; simp
  have e7 : (x2 : Int) - (N : Int) = (q : Int) := by omega
  have hx2l : x2 ≤ 1023 := by omega
  have hp0 : 0 < 2 ^ m := Nat.two_pow_pos m
  have hxN : x ≤ 1023 := by
    have := Nat.div_le_self W (2 ^ B)
    omega
  have hSW : S ≤ W := by omega
  have hiW : i ≤ W := by omega
  clear hh hsz hw1 hw2 hcc hx2 hx hW
  have Hq := Lib.hid hq
  clear hq
  generalize 2 ^ m = P at *
  have hwP : IntKind.i64.wrap (P : Int) = (P : Int) := IntWalk.i64_in _ (by omega)
  have hwP1 : IntKind.i64.wrap ((P : Int) - 1) = (P : Int) - 1 := IntWalk.i64_in _ (by omega)
  by_cases hlt : x < N
  · obtain ⟨k1, k2, k3⟩ := hlo hlt
    have d3 : decide (x < N) = true := decide_eq_true hlt
    have e8 : (B : Int) - 1 = (m : Int) := by omega
    clear hlo hhi hB k2 k3
    have E4 := Lib.hid e4
    have E5 := Lib.hid e5
    have E6 := Lib.hid e6
    have E7 := Lib.hid e7
    have E8 := Lib.hid e8
    have HwP := Lib.hid hwP
    have HwP1 := Lib.hid hwP1
    clear e4 e5 e6 e7 e8 hwP hwP1
    go_enter Try.func13, Try.ntmps13
    go_wp2_with fail
    refine Hh.out.mono ?_
    rintro e w' ⟨rfl, rfl⟩
    go_wp2_with fail
    refine Hsz.out.mono ?_
    rintro e w' ⟨rfl, rfl⟩
    go_wp2_with fail
    refine (Hwd1.out _).mono ?_
    rintro e w' ⟨rfl, rfl⟩
    go_wp2_with fail
    refine (Hwd2.out _).mono ?_
    rintro e w' ⟨rfl, rfl⟩
    go_wp2_with fail
    rw [E8.out]
    clear e3
    have e4 := E4.out
    have e5 := E5.out
    have e6 := E6.out
    have e7 := E7.out
    have e7b : (0 : Int) ≤ (q : Int) := by omega
    have e7c : (q : Int) < (N : Int) := by omega
    have hwP := HwP.out
    have hwP1 := HwP1.out
    go_quiet (fail)
    go_wp2
    refine bodyPost_ret (v := .tuple #[.int .i64 (v : Int), .int .i64 (cc : Int), .int .i64 (m : Int), .bool true]) (by simp [results, Try.results13, go_sem]) rfl ⟨rfl, below_drewN (Below.refl _ _) _⟩
  · obtain ⟨rfl, rfl⟩ := hhi (by omega)
    have d3 : decide (x2 < N) = false := decide_eq_false hlt
    clear hlo hhi hB
    have E4 := Lib.hid e4
    have E5 := Lib.hid e5
    have E6 := Lib.hid e6
    have E7 := Lib.hid e7
    have HwP := Lib.hid hwP
    have HwP1 := Lib.hid hwP1
    clear e4 e5 e6 e7 hwP hwP1
    go_enter Try.func13, Try.ntmps13
    go_wp2_with fail
    refine Hh.out.mono ?_
    rintro e w' ⟨rfl, rfl⟩
    go_wp2_with fail
    refine Hsz.out.mono ?_
    rintro e w' ⟨rfl, rfl⟩
    go_wp2_with fail
    refine (Hwd1.out _).mono ?_
    rintro e w' ⟨rfl, rfl⟩
    go_wp2_with fail
    refine (Hwd2.out _).mono ?_
    rintro e w' ⟨rfl, rfl⟩
    go_wp2_with fail
    clear e3
    have e4 := E4.out
    have e5 := E5.out
    have e6 := E6.out
    have e7 := E7.out
    have e7b : (0 : Int) ≤ (q : Int) := by omega
    have e7c : (q : Int) < (N : Int) := by omega
    have hwP := HwP.out
    have hwP1 := HwP1.out
    go_quiet (fail)
    go_wp2
    refine bodyPost_ret (v := .tuple #[.int .i64 (v : Int), .int .i64 (cc : Int), .int .i64 (m : Int), .bool true]) (by simp [results, Try.results13, go_sem]) rfl ⟨rfl, below_drewN (Below.refl _ _) _⟩

set_option maxRecDepth 100000 in
theorem tback_any (w : World) (p : Addr) (ls : List Nat) (log : Nat) (st : Int) (s : Nat) (hf : Bm.FairN ls log) (h : STab w p ls log) (hs256 : s < 256) :
    Calls Try.prog 13 #[.pointer (some p), .int .i64 st, .int .u8 (s : Int)] w fun e w' => e = .returned (backT (Bm.backA ls log st s)) ∧ Below w.heap.size w w' := by
  by_cases hst : 0 ≤ st ∧ st < ((2 ^ log : Nat) : Int)
  · have hA : Bm.backA ls log st s = (Bm.backP ls log st.toNat s).map fun p => (p, st.toNat - Bm.baseAt ls log p, Bm.bitsAt ls log p) := by
      unfold Bm.backA
      rw [if_pos hst]
    rw [hA]
    by_cases h0 : ls[s]?.getD 0 = 0
    · rw [Bm.back_none ls log st.toNat s hf h0]
      exact (tback_none w p ls log st s hf h hst h0 hs256).mono fun e w' ⟨he, hw⟩ => ⟨he, by subst hw; exact Below.refl _ _⟩
    · have hsl : s < ls.length := by
        rcases Nat.lt_or_ge s ls.length with h1 | h1
        · exact h1
        · exact absurd (by rw [List.getElem?_eq_none h1]; rfl) h0
      have hg : ls[s]? = some ls[s] := List.getElem?_eq_getElem hsl
      rw [hg, Option.getD_some] at h0
      obtain ⟨i, rfl⟩ := Int.eq_ofNat_of_zero_le hst.1
      rw [Int.toNat_natCast]
      have hi : i < 2 ^ log := by omega
      have hn := Bm.states_share ls log s _ hf hg
      have hP := pow_fair log hf.low hf.high
      have hall := Bm.states_all ls log s hf
      rw [hg, Option.getD_some] at hall
      have hlen := hf.len
      have hl9 := hf.high
      have hsz := tsize_any w p ls log h
      have hh : ∀ W', W' = w → Calls Try.prog 20 #[.pointer (some p), .int .i64 (i : Int)] W' fun e w' => e = .returned (.bool true) ∧ W' = w' := fun W' e => by
        subst e
        have h1 := thas_of (.pointer (some p)) (2 ^ log) (i : Int) W' (tsize_any W' p ls log h)
        rw [decide_eq_true hst] at h1
        exact h1
      obtain ⟨b, gc, gs, rfl, h1, h2, vs, h3, h4, h5⟩ := h
      have c1 := h1.cell 2
      simp only [List.getElem?_cons_succ, List.getElem?_cons_zero] at c1
      obtain ⟨A, c, h6, h7⟩ := h5 s hsl
      rw [hg, Option.getD_some] at h6
      have c2 := (h3.cell s).trans h6
      have hne : 0 < (Bm.statesTo ls log (2 ^ log) s).length := by omega
      obtain ⟨g, off, rfl, hc⟩ := h7 (fun e => by have := congrArg List.length e; rw [i64s_length, List.length_nil] at this; omega)
      have key : ∀ m, ls[s] ≤ (i + 2 ^ log) / 2 ^ m → (i + 2 ^ log) / 2 ^ m < 2 * ls[s] → ∃ q v : Nat, (i + 2 ^ log) / 2 ^ m = ls[s] + q ∧ q < ls[s] ∧ w.cell? ⟨g, off + q, none⟩ = some (.int .i64 (v : Int)) ∧
          (Bm.backP ls log i s).map (fun p => (p, i - Bm.baseAt ls log p, Bm.bitsAt ls log p)) = some (v, (i + 2 ^ log) % 2 ^ m, m) := fun m k1 k2 => by
        obtain ⟨v, e1, e2, e3, e4⟩ := Bm.back_shift ls log i s ls[s] m hf hg (by omega) hi k1 k2
        refine ⟨(i + 2 ^ log) / 2 ^ m - ls[s], v, by omega, by omega, ?_, by rw [e2, Option.map_some, e3, e4]⟩
        have hql : (i + 2 ^ log) / 2 ^ m - ls[s] < (Bm.statesTo ls log (2 ^ log) s).length := by omega
        rw [hc _ (by rw [i64s_length]; exact hql), i64s_get? _ _ hql]
        rw [List.getElem?_eq_getElem hql] at e1
        injection e1 with e1
        rw [e1]
      have hw2 := Bm.wid_le_of ls[s] (log + 1) (by have : 2 ^ (log + 1) = 2 ^ log * 2 := Nat.pow_succ 2 log; omega)
      have hw3 := Bm.wid_one ls[s] (by omega)
      have hwW : Bm.wid (i + 2 ^ log) = log + 1 := Bm.wid_eq _ log (by omega) (by have : 2 ^ (log + 1) = 2 ^ log * 2 := Nat.pow_succ 2 log; omega)
      rcases Nat.lt_or_ge ((i + 2 ^ log) / 2 ^ (log + 1 - Bm.wid ls[s])) ls[s] with hlt | hge
      · obtain ⟨k1, k2, k3⟩ := Bm.shift_lo log i ls[s] (by omega) hn hlt
        obtain ⟨q, v, q1, q2, q3, q4⟩ := key _ k2 k3
        rw [q4]
        exact tback_walk w b gs g off (2 ^ log) i (i + 2 ^ log) ls[s] c s (log + 1) (Bm.wid ls[s]) (log + 1 - Bm.wid ls[s]) ((i + 2 ^ log) / 2 ^ (log + 1 - Bm.wid ls[s])) ((i + 2 ^ log) / 2 ^ (log + 1 - Bm.wid ls[s] - 1)) q v (log + 1 - Bm.wid ls[s] - 1) _ ls.length hh hsz c1 hsl hlen c2 (by omega) (by omega) rfl (by omega) hwW rfl (by omega) (by omega) rfl (fun _ => ⟨k1, rfl, rfl⟩) (fun h => absurd hlt (by omega)) q1 q2 q3 rfl
      · have k3 := Bm.shift_hi log i ls[s] (by omega) hn hi
        obtain ⟨q, v, q1, q2, q3, q4⟩ := key _ hge k3
        rw [q4]
        exact tback_walk w b gs g off (2 ^ log) i (i + 2 ^ log) ls[s] c s (log + 1) (Bm.wid ls[s]) (log + 1 - Bm.wid ls[s]) ((i + 2 ^ log) / 2 ^ (log + 1 - Bm.wid ls[s])) ((i + 2 ^ log) / 2 ^ (log + 1 - Bm.wid ls[s])) q v (log + 1 - Bm.wid ls[s]) _ ls.length hh hsz c1 hsl hlen c2 (by omega) (by omega) rfl (by omega) hwW rfl (by omega) (by omega) rfl (fun h => absurd h (by omega)) (fun _ => ⟨rfl, rfl⟩) q1 q2 q3 rfl
  · have hA : Bm.backA ls log st s = none := by
      unfold Bm.backA
      rw [if_neg hst]
    rw [hA]
    exact (tback_out w p ls log st s h hst).mono fun e w' ⟨he, hw⟩ => ⟨he, by subst hw; exact Below.refl _ _⟩
end Go.Proofs.Ythaahijapkolkaa
