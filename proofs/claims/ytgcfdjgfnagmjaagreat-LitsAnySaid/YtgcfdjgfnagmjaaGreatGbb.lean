/-
  The program's layer 15 (lits), by its walk: Decode. Conditions: as the theorem's premises say (up to a thousand bytes). (mkdd.py writes this text.)
-/
import Derived.Test.YtgcfdjgfnagmjaaGreatGax
import Derived.Test.YtgcfdjgfnagmjaaGreatGba
namespace Go.Proofs.YtgcfdjgfnagmjaaGreat
open Go.RowKit

theorem fix_read (k : Nat) (r : List Nat) : rawS (fx 1) (some (k :: r)) = ([k], some r) := by
  rw [show fx 1 = 1 by decide]
  simp [rawS]
theorem body_0 (n : Nat) (t : List Nat) : Bm.bodyL 0 n t = if n ≤ t.length then some (t.take n, n) else none := by
  unfold Bm.bodyL
  rw [if_pos rfl]
theorem body_1 (n : Nat) (t : List Nat) : Bm.bodyL 1 n t = if 0 < t.length then some (List.replicate n (t[0]?.getD 0), 1) else none := by
  unfold Bm.bodyL
  rw [if_neg (by decide), if_pos rfl]
theorem body_3 (k n : Nat) (t : List Nat) (h : 2 < k) : Bm.bodyL k n t = none := by
  unfold Bm.bodyL
  rw [if_neg (by omega), if_neg (by omega), if_neg (by omega)]
theorem raw_yes (n : Nat) (t : List Nat) (h : n ≤ t.length) : rawS n (some t) = (t.take n, some (t.drop n)) := by
  simp only [rawS, if_pos h]
theorem raw_no (n : Nat) (t : List Nat) (h : ¬ n ≤ t.length) : rawS n (some t) = ([], none) := by
  simp only [rawS, if_neg h]
set_option maxHeartbeats 2000000 in
set_option maxRecDepth 100000 in
theorem lsdec_bad (b : Nat) (k : Int) (st : Left) (most : Int) (w : World)
    (hfx : Calls Tryz.prog 22 #[.pointer (some ⟨b, 0, none⟩), .int .i64 1] w fun e w' => e = .returned (.int .u64 k) ∧ CR w' b st ∧ w.grownBy w' (some b))
    (hint : ∀ W, CR W b st → Calls Tryz.prog 23 #[.pointer (some ⟨b, 0, none⟩), .int .i64 (min most 1048576)] W fun e W' => e = .returned (.int .i64 0) ∧ CR W' b none ∧ W.grownBy W' (some b)) :
    Calls Tryz.prog 9 #[.pointer (some ⟨b, 0, none⟩), .int .i64 most] w fun e w' => e = .returned (.tuple #[.string (strOf []), .bool false]) ∧ w.grownBy w' (some b) := by
  have Hfx := Lib.hid hfx
  have Hint := Lib.hid hint
  clear hfx hint
  go_enter Tryz.func9, Tryz.ntmps9
  go_wp2_with fail
  refine Hfx.out.mono ?_
  rintro e w1 ⟨rfl, hcr1, hg1⟩
  have Hg1 := Lib.hid hg1
  have Hi1 := Lib.hid (Hint.out w1 hcr1)
  clear hcr1 hg1 Hfx Hint
  go_wp2_with fail
  refine Hi1.out.mono ?_
  rintro e w2 ⟨rfl, hcr2, hg2⟩
  have Hg2 := Lib.hid (grown_trans Hg1.out hg2)
  have Hcr2 := Lib.hid hcr2
  have Hb2 := Lib.hid (rbad_any b _ w2 hcr2)
  clear hcr2 hg2 Hg1 Hi1
  go_wp2_with fail
  refine Hb2.out.mono ?_
  rintro e w3 ⟨rfl, rfl⟩
  clear Hb2
  clear Hcr2
  go_wp2
  go_ret2
  exact ⟨rfl, Hg2.out⟩
set_option maxHeartbeats 2000000 in
set_option maxRecDepth 100000 in
theorem lsdec_0y (b n : Nat) (t r : List Nat) (most : Int) (w : World) (hn : n ≤ t.length)
    (hfx : Calls Tryz.prog 22 #[.pointer (some ⟨b, 0, none⟩), .int .i64 1] w fun e w' => e = .returned (.int .u64 0) ∧ CR w' b (some r) ∧ w.grownBy w' (some b))
    (hint : ∀ W, CR W b (some r) → Calls Tryz.prog 23 #[.pointer (some ⟨b, 0, none⟩), .int .i64 (min most 1048576)] W fun e W' => e = .returned (.int .i64 (n : Int)) ∧ CR W' b (some t) ∧ W.grownBy W' (some b)) :
    Calls Tryz.prog 9 #[.pointer (some ⟨b, 0, none⟩), .int .i64 most] w fun e w' => LitP w' b t e (Bm.bodyL 0 n t) ∧ w.grownBy w' (some b) := by
  have Hfx := Lib.hid hfx
  have Hint := Lib.hid hint
  clear hfx hint
  have Hraw := Lib.hid (fun W (h : CR W b (some t)) => rraw_any b (some t) (n : Int) W h)
  rw [Int.toNat_natCast, raw_yes n t hn] at Hraw
  have Hbody := Lib.hid ((body_0 n t).trans (if_pos hn))
  clear hn
  go_enter Tryz.func9, Tryz.ntmps9
  go_wp2_with fail
  refine Hfx.out.mono ?_
  rintro e w1 ⟨rfl, hcr1, hg1⟩
  have Hg1 := Lib.hid hg1
  have Hi1 := Lib.hid (Hint.out w1 hcr1)
  clear hcr1 hg1 Hfx Hint
  go_wp2_with fail
  refine Hi1.out.mono ?_
  rintro e w2 ⟨rfl, hcr2, hg2⟩
  have Hg2 := Lib.hid (grown_trans Hg1.out hg2)
  have Hcr2 := Lib.hid hcr2
  have Hb2 := Lib.hid (rbad_any b _ w2 hcr2)
  clear hcr2 hg2 Hg1 Hi1
  go_wp2_with fail
  refine Hb2.out.mono ?_
  rintro e w3 ⟨rfl, rfl⟩
  clear Hb2
  have Hr := Lib.hid (Hraw.out w2 Hcr2.out)
  clear Hcr2 Hraw
  go_wp2_with fail
  refine Hr.out.mono ?_
  rintro e w4 ⟨rfl, hcr4, hg4⟩
  have Hg4 := Lib.hid (grown_trans Hg2.out hg4)
  have Hcr4 := Lib.hid hcr4
  have Hb4 := Lib.hid (rbad_any b _ w4 hcr4)
  clear hcr4 hg4 Hg2 Hr
  generalize hs : strOf (t.take n) = sT at *
  have Hs := Lib.hid hs
  clear hs
  go_wp2_with fail
  refine Hb4.out.mono ?_
  rintro e w5 ⟨rfl, rfl⟩
  clear Hb4
  go_wp2
  go_ret2
  rw [Hbody.out, ← Hs.out]
  exact ⟨⟨rfl, Hcr4.out⟩, Hg4.out⟩
set_option maxHeartbeats 2000000 in
set_option maxRecDepth 100000 in
theorem lsdec_0n (b n : Nat) (t r : List Nat) (most : Int) (w : World) (hn : ¬ n ≤ t.length)
    (hfx : Calls Tryz.prog 22 #[.pointer (some ⟨b, 0, none⟩), .int .i64 1] w fun e w' => e = .returned (.int .u64 0) ∧ CR w' b (some r) ∧ w.grownBy w' (some b))
    (hint : ∀ W, CR W b (some r) → Calls Tryz.prog 23 #[.pointer (some ⟨b, 0, none⟩), .int .i64 (min most 1048576)] W fun e W' => e = .returned (.int .i64 (n : Int)) ∧ CR W' b (some t) ∧ W.grownBy W' (some b)) :
    Calls Tryz.prog 9 #[.pointer (some ⟨b, 0, none⟩), .int .i64 most] w fun e w' => LitP w' b t e (Bm.bodyL 0 n t) ∧ w.grownBy w' (some b) := by
  have Hfx := Lib.hid hfx
  have Hint := Lib.hid hint
  clear hfx hint
  have Hraw := Lib.hid (fun W (h : CR W b (some t)) => rraw_any b (some t) (n : Int) W h)
  rw [Int.toNat_natCast, raw_no n t hn] at Hraw
  have Hbody := Lib.hid ((body_0 n t).trans (if_neg hn))
  clear hn
  go_enter Tryz.func9, Tryz.ntmps9
  go_wp2_with fail
  refine Hfx.out.mono ?_
  rintro e w1 ⟨rfl, hcr1, hg1⟩
  have Hg1 := Lib.hid hg1
  have Hi1 := Lib.hid (Hint.out w1 hcr1)
  clear hcr1 hg1 Hfx Hint
  go_wp2_with fail
  refine Hi1.out.mono ?_
  rintro e w2 ⟨rfl, hcr2, hg2⟩
  have Hg2 := Lib.hid (grown_trans Hg1.out hg2)
  have Hcr2 := Lib.hid hcr2
  have Hb2 := Lib.hid (rbad_any b _ w2 hcr2)
  clear hcr2 hg2 Hg1 Hi1
  go_wp2_with fail
  refine Hb2.out.mono ?_
  rintro e w3 ⟨rfl, rfl⟩
  clear Hb2
  have Hr := Lib.hid (Hraw.out w2 Hcr2.out)
  clear Hcr2 Hraw
  go_wp2_with fail
  refine Hr.out.mono ?_
  rintro e w4 ⟨rfl, hcr4, hg4⟩
  have Hg4 := Lib.hid (grown_trans Hg2.out hg4)
  have Hcr4 := Lib.hid hcr4
  have Hb4 := Lib.hid (rbad_any b _ w4 hcr4)
  clear hcr4 hg4 Hg2 Hr
  go_wp2_with fail
  refine Hb4.out.mono ?_
  rintro e w5 ⟨rfl, rfl⟩
  clear Hb4
  go_wp2
  go_ret2
  rw [Hbody.out]
  exact ⟨rfl, Hg4.out⟩
set_option maxHeartbeats 2000000 in
set_option maxRecDepth 100000 in
theorem lsdec_1y (b x n : Nat) (t r : List Nat) (most : Int) (w : World) (hn : n ≤ 1048576) (u : List Nat) (ht : t = x :: u)
    (hfx : Calls Tryz.prog 22 #[.pointer (some ⟨b, 0, none⟩), .int .i64 1] w fun e w' => e = .returned (.int .u64 1) ∧ CR w' b (some r) ∧ w.grownBy w' (some b))
    (hint : ∀ W, CR W b (some r) → Calls Tryz.prog 23 #[.pointer (some ⟨b, 0, none⟩), .int .i64 (min most 1048576)] W fun e W' => e = .returned (.int .i64 (n : Int)) ∧ CR W' b (some t) ∧ W.grownBy W' (some b)) :
    Calls Tryz.prog 9 #[.pointer (some ⟨b, 0, none⟩), .int .i64 most] w fun e w' => LitP w' b t e (Bm.bodyL 1 n t) ∧ w.grownBy w' (some b) := by
  have Hfx := Lib.hid hfx
  have Hint := Lib.hid hint
  clear hfx hint
  have Hraw := Lib.hid (fun W (h : CR W b (some t)) => rraw_any b (some t) 1 W h)
  rw [show (1 : Int).toNat = 1 from rfl, raw_yes 1 t (by rw [ht]; simp)] at Hraw
  have Hbody := Lib.hid ((body_1 n t).trans (if_pos (by rw [ht]; simp)))
  have e1 : t.take 1 = [x] := by rw [ht]; rfl
  have e2 : t[0]?.getD 0 = x := by rw [ht]; rfl
  rw [e1] at Hraw
  rw [e2] at Hbody
  have Hrep := Lib.hid (fun W => srepeat_one x n W (by omega))
  clear hn ht e1 e2
  generalize strOf [x] = s1 at *
  go_enter Tryz.func9, Tryz.ntmps9
  go_wp2_with fail
  refine Hfx.out.mono ?_
  rintro e w1 ⟨rfl, hcr1, hg1⟩
  have Hg1 := Lib.hid hg1
  have Hi1 := Lib.hid (Hint.out w1 hcr1)
  clear hcr1 hg1 Hfx Hint
  go_wp2_with fail
  refine Hi1.out.mono ?_
  rintro e w2 ⟨rfl, hcr2, hg2⟩
  have Hg2 := Lib.hid (grown_trans Hg1.out hg2)
  have Hcr2 := Lib.hid hcr2
  have Hb2 := Lib.hid (rbad_any b _ w2 hcr2)
  clear hcr2 hg2 Hg1 Hi1
  go_wp2_with fail
  refine Hb2.out.mono ?_
  rintro e w3 ⟨rfl, rfl⟩
  clear Hb2
  have Hr := Lib.hid (Hraw.out w2 Hcr2.out)
  clear Hcr2 Hraw
  go_wp2_with fail
  refine Hr.out.mono ?_
  rintro e w4 ⟨rfl, hcr4, hg4⟩
  have Hg4 := Lib.hid (grown_trans Hg2.out hg4)
  have Hcr4 := Lib.hid hcr4
  have Hb4 := Lib.hid (rbad_any b _ w4 hcr4)
  clear hcr4 hg4 Hg2 Hr
  generalize hs : strOf (List.replicate n x) = sT at *
  have Hs := Lib.hid hs
  clear hs
  go_wp2_with fail
  refine (Hrep.out _).mono ?_
  rintro e w5 ⟨rfl, hb5⟩
  have Hg5 := Lib.hid (grown_trans Hg4.out (grown_below hb5 (some b)))
  have Hcr5 := Lib.hid (Hcr4.out.below hb5)
  have Hb5 := Lib.hid (rbad_any b _ w5 Hcr5.out)
  clear hb5 Hg4 Hcr4 Hb4 Hrep
  go_wp2_with fail
  refine Hb5.out.mono ?_
  rintro e w6 ⟨rfl, rfl⟩
  clear Hb5
  go_wp2
  go_ret2
  rw [Hbody.out, ← Hs.out]
  exact ⟨⟨rfl, Hcr5.out⟩, Hg5.out⟩
set_option maxHeartbeats 2000000 in
set_option maxRecDepth 100000 in
theorem lsdec_1n (b n : Nat) (t r : List Nat) (most : Int) (w : World) (hn : n ≤ 1048576) (ht : t = [])
    (hfx : Calls Tryz.prog 22 #[.pointer (some ⟨b, 0, none⟩), .int .i64 1] w fun e w' => e = .returned (.int .u64 1) ∧ CR w' b (some r) ∧ w.grownBy w' (some b))
    (hint : ∀ W, CR W b (some r) → Calls Tryz.prog 23 #[.pointer (some ⟨b, 0, none⟩), .int .i64 (min most 1048576)] W fun e W' => e = .returned (.int .i64 (n : Int)) ∧ CR W' b (some t) ∧ W.grownBy W' (some b)) :
    Calls Tryz.prog 9 #[.pointer (some ⟨b, 0, none⟩), .int .i64 most] w fun e w' => LitP w' b t e (Bm.bodyL 1 n t) ∧ w.grownBy w' (some b) := by
  have Hfx := Lib.hid hfx
  have Hint := Lib.hid hint
  clear hfx hint
  have Hraw := Lib.hid (fun W (h : CR W b (some t)) => rraw_any b (some t) 1 W h)
  rw [show (1 : Int).toNat = 1 from rfl, raw_no 1 t (by rw [ht]; simp)] at Hraw
  have Hbody := Lib.hid ((body_1 n t).trans (if_neg (by rw [ht]; simp)))
  have Hrep := Lib.hid (fun W => srepeat_nil n W (by omega))
  clear hn ht
  generalize hsN : strOf [] = sN at *
  have HsN := Lib.hid hsN
  clear hsN
  go_enter Tryz.func9, Tryz.ntmps9
  go_wp2_with fail
  refine Hfx.out.mono ?_
  rintro e w1 ⟨rfl, hcr1, hg1⟩
  have Hg1 := Lib.hid hg1
  have Hi1 := Lib.hid (Hint.out w1 hcr1)
  clear hcr1 hg1 Hfx Hint
  go_wp2_with fail
  refine Hi1.out.mono ?_
  rintro e w2 ⟨rfl, hcr2, hg2⟩
  have Hg2 := Lib.hid (grown_trans Hg1.out hg2)
  have Hcr2 := Lib.hid hcr2
  have Hb2 := Lib.hid (rbad_any b _ w2 hcr2)
  clear hcr2 hg2 Hg1 Hi1
  go_wp2_with fail
  refine Hb2.out.mono ?_
  rintro e w3 ⟨rfl, rfl⟩
  clear Hb2
  have Hr := Lib.hid (Hraw.out w2 Hcr2.out)
  clear Hcr2 Hraw
  go_wp2_with fail
  refine Hr.out.mono ?_
  rintro e w4 ⟨rfl, hcr4, hg4⟩
  have Hg4 := Lib.hid (grown_trans Hg2.out hg4)
  have Hcr4 := Lib.hid hcr4
  have Hb4 := Lib.hid (rbad_any b _ w4 hcr4)
  clear hcr4 hg4 Hg2 Hr
  go_wp2_with fail
  refine (Hrep.out _).mono ?_
  rintro e w5 ⟨rfl, hb5⟩
  have Hg5 := Lib.hid (grown_trans Hg4.out (grown_below hb5 (some b)))
  have Hcr5 := Lib.hid (Hcr4.out.below hb5)
  have Hb5 := Lib.hid (rbad_any b _ w5 Hcr5.out)
  clear hb5 Hg4 Hcr4 Hb4 Hrep
  go_wp2_with fail
  refine Hb5.out.mono ?_
  rintro e w6 ⟨rfl, rfl⟩
  clear Hb5
  go_wp2
  go_ret2
  rw [Hbody.out, ← HsN.out]
  exact ⟨rfl, Hg5.out⟩
set_option maxHeartbeats 2000000 in
set_option maxRecDepth 100000 in
theorem lsdec_2 (b n : Nat) (t r : List Nat) (most : Int) (w : World) (hn : n ≤ 1048576) (ht : t.length ≤ 1000) (hlt : ∀ x ∈ t, x < 256)
    (hfx : Calls Tryz.prog 22 #[.pointer (some ⟨b, 0, none⟩), .int .i64 1] w fun e w' => e = .returned (.int .u64 2) ∧ CR w' b (some r) ∧ w.grownBy w' (some b))
    (hint : ∀ W, CR W b (some r) → Calls Tryz.prog 23 #[.pointer (some ⟨b, 0, none⟩), .int .i64 (min most 1048576)] W fun e W' => e = .returned (.int .i64 (n : Int)) ∧ CR W' b (some t) ∧ W.grownBy W' (some b)) :
    Calls Tryz.prog 9 #[.pointer (some ⟨b, 0, none⟩), .int .i64 most] w fun e w' => LitP w' b t e (Bm.bodyL 2 n t) ∧ w.grownBy w' (some b) := by
  have Hfx := Lib.hid hfx
  have Hint := Lib.hid hint
  clear hfx hint
  have Hout := Lib.hid (fun W (h : CR W b (some t)) => lout_any b n t W ht hlt hn h)
  clear hn ht hlt
  generalize hB : Bm.bodyL 2 n t = B at *
  go_enter Tryz.func9, Tryz.ntmps9
  go_wp2_with fail
  refine Hfx.out.mono ?_
  rintro e w1 ⟨rfl, hcr1, hg1⟩
  have Hg1 := Lib.hid hg1
  have Hi1 := Lib.hid (Hint.out w1 hcr1)
  clear hcr1 hg1 Hfx Hint
  go_wp2_with fail
  refine Hi1.out.mono ?_
  rintro e w2 ⟨rfl, hcr2, hg2⟩
  have Hg2 := Lib.hid (grown_trans Hg1.out hg2)
  have Hcr2 := Lib.hid hcr2
  have Hb2 := Lib.hid (rbad_any b _ w2 hcr2)
  clear hcr2 hg2 Hg1 Hi1
  go_wp2_with fail
  refine Hb2.out.mono ?_
  rintro e w3 ⟨rfl, rfl⟩
  clear Hb2
  have Ho := Lib.hid (Hout.out w2 Hcr2.out)
  clear Hcr2 Hout
  go_wp2_with fail
  refine Ho.out.mono ?_
  rintro e w4 ⟨hp, hg4⟩
  have Hg4 := Lib.hid (grown_trans Hg2.out hg4)
  clear hg4 Hg2 Ho
  have Hp := Lib.hid hp
  clear hp
  cases B with
  | none =>
    have he := Hp.out
    unfold LitP at he
    subst he
    clear Hp
    go_wp2
    go_ret2
    exact ⟨rfl, Hg4.out⟩
  | some q =>
    have he := Hp.out
    unfold LitP at he
    obtain ⟨he, hc⟩ := he
    have Hc := Lib.hid hc
    subst he
    clear Hp hc
    generalize hs : strOf q.1 = sT at *
    have Hs := Lib.hid hs
    clear hs
    go_wp2
    go_ret2
    exact ⟨⟨by rw [Hs.out]; rfl, Hc.out⟩, Hg4.out⟩
set_option maxHeartbeats 2000000 in
set_option maxRecDepth 100000 in
theorem lsdec_3 (b k n : Nat) (t r : List Nat) (most : Int) (w : World) (hk : 2 < k) (hk2 : k < 256)
    (hfx : Calls Tryz.prog 22 #[.pointer (some ⟨b, 0, none⟩), .int .i64 1] w fun e w' => e = .returned (.int .u64 (k : Int)) ∧ CR w' b (some r) ∧ w.grownBy w' (some b))
    (hint : ∀ W, CR W b (some r) → Calls Tryz.prog 23 #[.pointer (some ⟨b, 0, none⟩), .int .i64 (min most 1048576)] W fun e W' => e = .returned (.int .i64 (n : Int)) ∧ CR W' b (some t) ∧ W.grownBy W' (some b)) :
    Calls Tryz.prog 9 #[.pointer (some ⟨b, 0, none⟩), .int .i64 most] w fun e w' => LitP w' b t e (Bm.bodyL k n t) ∧ w.grownBy w' (some b) := by
  have Hfx := Lib.hid hfx
  have Hint := Lib.hid hint
  clear hfx hint
  have Hbody := Lib.hid (body_3 k n t hk)
  have k0 : ((k : Int) == 0) = false := by rw [beq_eq_false_iff_ne]; omega
  have k1 : ((k : Int) == 1) = false := by rw [beq_eq_false_iff_ne]; omega
  have k2 : ((k : Int) == 2) = false := by rw [beq_eq_false_iff_ne]; omega
  clear hk
  go_enter Tryz.func9, Tryz.ntmps9
  go_wp2_with fail
  refine Hfx.out.mono ?_
  rintro e w1 ⟨rfl, hcr1, hg1⟩
  have Hg1 := Lib.hid hg1
  have Hi1 := Lib.hid (Hint.out w1 hcr1)
  clear hcr1 hg1 Hfx Hint
  go_wp2_with fail
  refine Hi1.out.mono ?_
  rintro e w2 ⟨rfl, hcr2, hg2⟩
  have Hg2 := Lib.hid (grown_trans Hg1.out hg2)
  have Hcr2 := Lib.hid hcr2
  have Hb2 := Lib.hid (rbad_any b _ w2 hcr2)
  clear hcr2 hg2 Hg1 Hi1
  go_wp2_with fail
  refine Hb2.out.mono ?_
  rintro e w3 ⟨rfl, rfl⟩
  clear Hb2
  clear Hcr2
  go_wp2
  go_ret2
  rw [Hbody.out]
  exact ⟨rfl, Hg2.out⟩
theorem lit_up {w' : World} {b k j : Nat} {r : List Nat} {e : Ending} {o : Option (List Nat × Nat)} (h : LitP w' b (r.drop j) e o) : LitP w' b (k :: r) e (o.map fun q => (q.1, 1 + j + q.2)) := by
  cases o with
  | none => exact h
  | some q =>
    refine ⟨h.1, ?_⟩
    have h2 := h.2
    rw [List.drop_drop] at h2
    show CR w' b (some ((k :: r).drop (1 + j + q.2)))
    rw [show 1 + j + q.2 = (j + q.2) + 1 by omega, List.drop_succ_cons]
    exact h2
/-- What Decode answers, of whatever is left. -/
theorem lsdec_any (b : Nat) (bs : List Nat) (most : Int) (w : World) (hl : bs.length ≤ 1000) (hlt : ∀ x ∈ bs, x < 256) (hm : Bm.IntOk most) (h : CR w b (some bs)) :
    Calls Tryz.prog 9 #[.pointer (some ⟨b, 0, none⟩), .int .i64 most] w fun e w' => LitP w' b bs e (Bm.decL bs most) ∧ w.grownBy w' (some b) := by
  have hm2 : -9223372036854775808 ≤ min most 1048576 ∧ min most 1048576 ≤ 9223372036854775807 := by
    obtain ⟨h1, h2⟩ := hm
    omega
  have hfx := rfixed_any b (some bs) 1 w (by omega) (by omega) ⟨hlt, by omega⟩ h
  cases bs with
  | nil =>
    rw [show rawS (fx 1) (some []) = ([], none) from rfl] at hfx
    exact lsdec_bad b _ none most w hfx (fun W hW => rint_any b none (min most 1048576) W hm2.1 hm2.2 trivial hW)
  | cons k r =>
    rw [fix_read] at hfx
    dsimp only at hfx
    rw [show Bm.valB [k] = k by simp [Bm.valB]] at hfx
    have hk := hlt k List.mem_cons_self
    have hrt : ∀ x ∈ r, x < 256 := fun x hx => hlt x (List.mem_cons_of_mem _ hx)
    rw [List.length_cons] at hl
    have hint := fun W (hW : CR W b (some r)) => rint_any b (some r) (min most 1048576) W hm2.1 hm2.2 ⟨hrt, by omega⟩ hW
    by_cases hc : 0 < (Bm.firstG r).2 ∧ ((Bm.firstG r).1 : Int) ≤ min most 1048576
    · rw [int_yes _ r hc.1 hc.2] at hint
      dsimp only at hint
      have hn : (Bm.firstG r).1 ≤ 1048576 := by omega
      have e : Bm.decL (k :: r) most = (Bm.bodyL k (Bm.firstG r).1 (r.drop (Bm.firstG r).2)).map fun q => (q.1, 1 + (Bm.firstG r).2 + q.2) := by
        unfold Bm.decL
        dsimp only
        rw [if_pos ⟨hc.1, by omega, hn⟩]
      rw [e]
      have key : Calls Tryz.prog 9 #[.pointer (some ⟨b, 0, none⟩), .int .i64 most] w fun e w' => LitP w' b (r.drop (Bm.firstG r).2) e (Bm.bodyL k (Bm.firstG r).1 (r.drop (Bm.firstG r).2)) ∧ w.grownBy w' (some b) := by
        have hdl : (r.drop (Bm.firstG r).2).length ≤ 1000 := by rw [List.length_drop]; omega
        have hdt : ∀ x ∈ r.drop (Bm.firstG r).2, x < 256 := drop_lt hrt _
        clear e hc
        generalize (Bm.firstG r).1 = n at *
        generalize r.drop (Bm.firstG r).2 = t at *
        match k, hk, hfx with
        | 0, _, hfx =>
          by_cases h0 : n ≤ t.length
          · exact lsdec_0y b n t r most w h0 hfx hint
          · exact lsdec_0n b n t r most w h0 hfx hint
        | 1, _, hfx =>
          cases t with
          | nil => exact lsdec_1n b n [] r most w hn rfl hfx hint
          | cons x u => exact lsdec_1y b x n (x :: u) r most w hn u rfl hfx hint
        | 2, _, hfx => exact lsdec_2 b n t r most w hn hdl hdt hfx hint
        | k + 3, hk, hfx => exact lsdec_3 b (k + 3) n t r most w (by omega) hk hfx hint
      exact key.mono fun e w' ⟨h1, h2⟩ => ⟨lit_up h1, h2⟩
    · rw [int_no _ r hc] at hint
      have e : Bm.decL (k :: r) most = none := by
        unfold Bm.decL
        dsimp only
        rw [if_neg]
        rintro ⟨h1, h2, h3⟩
        exact hc ⟨h1, by omega⟩
      rw [e]
      exact lsdec_bad b _ (some r) most w hfx hint
end Go.Proofs.YtgcfdjgfnagmjaaGreat
