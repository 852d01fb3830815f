/-
  The references of layer 9 (huff), by their walks: Codes, Cost. Conditions: as each theorem's premises say.
-/
import Derived.Test.YtmcobnbahkoopaaUr
import Derived.BigQuiet
import Derived.IntWalk
import Derived.WalkSmall
import Derived.Deep.QuietTactic
namespace Go.Proofs.Ytmcobnbahkoopaa
open Go.RowKit
namespace Bm
/-- The first q codes, noughts behind. -/
def codesTo (l : List Nat) (q : Nat) : List Nat := (List.range q).map (codeN9 l) ++ List.replicate (l.length - q) 0
theorem codesTo_zero (l : List Nat) : codesTo l 0 = List.replicate l.length 0 := by simp [codesTo]
theorem codesTo_all (l : List Nat) : codesTo l l.length = codesN l := by simp [codesTo, codesN]
theorem codesTo_length (l : List Nat) (q : Nat) (h : q ≤ l.length) : (codesTo l q).length = l.length := by simp [codesTo]; omega
theorem codesTo_get (l : List Nat) (q : Nat) (h : q < l.length) : (codesTo l q)[q]? = some 0 := by
  unfold codesTo
  have h1 : ((List.range q).map (codeN9 l)).length = q := by simp
  rw [List.getElem?_append_right (by omega), h1, Nat.sub_self, List.getElem?_replicate, if_pos (by omega)]
theorem codesTo_next (l : List Nat) (q : Nat) (h : q < l.length) : codesTo l (q + 1) = (codesTo l q).set q (codeN9 l q) := by
  unfold codesTo
  have h1 : ((List.range q).map (codeN9 l)).length = q := by simp
  rw [List.set_append_right _ _ (by omega), h1, Nat.sub_self, List.range_succ, List.map_append, List.append_assoc]
  congr 1
  obtain ⟨m, hm⟩ : ∃ m, l.length - q = m + 1 := ⟨l.length - q - 1, by omega⟩
  rw [hm, show l.length - (q + 1) = m by omega, List.replicate_succ]
  simp
theorem codesTo_none (l : List Nat) (q : Nat) (h : q < l.length) (h0 : codeN9 l q = 0) : codesTo l (q + 1) = codesTo l q := by
  rw [codesTo_next l q h, h0]
  apply List.ext_getElem?
  intro i
  rw [List.getElem?_set]
  split
  · next e =>
    subst e
    rw [if_pos (by rw [codesTo_length l q (by omega)]; omega), codesTo_get l q h]
  · rfl
theorem aheadQ_le (l : List Nat) (i q : Nat) : aheadQ l i q ≤ 1024 * q := by
  induction q with
  | zero => simp [aheadQ]
  | succ q ih =>
    rw [aheadQ_succ]
    have := part_le (l[q]?.getD 0)
    split <;> omega
end Bm
theorem reads_i9 {w : World} {A : Option Addr} {l : List Nat} (h : Reads w A (i64s l)) (hne : 0 < l.length) : ∃ g off, A = some ⟨g, off, none⟩ ∧ ∀ j (hj : j < l.length), w.cell? ⟨g, off + j, none⟩ = some (.int .i64 (l[j] : Int)) := by
  have hne' : i64s l ≠ [] := fun e => by
    have h1 := congrArg List.length e
    rw [i64s_length, List.length_nil] at h1
    omega
  obtain ⟨g, off, e, hc⟩ := h hne'
  exact ⟨g, off, e, fun j hj => by rw [hc j (by rw [i64s_length]; exact hj), i64s_get? l j hj]⟩

set_option maxHeartbeats 4000000 in
set_option maxRecDepth 100000 in
theorem vcodes_any (A : Option Addr) (c : Nat) (ls : List Nat) (w : World) (hl : ls.length ≤ 1000) (h11 : ∀ x ∈ ls, x ≤ 11) (hr : Reads w A (i64s ls)) :
    Calls Try.prog 19 #[.slice A ls.length c] w fun e w' => ∃ g, e = .returned (.slice (some ⟨g, 0, none⟩) ls.length ls.length) ∧ w.heap.size ≤ g ∧ Row w' g 3 (i64s (Bm.codesN ls)) ∧ Below w.heap.size w w' := by
  obtain ⟨i0, hi, hz0, hz1, hz2⟩ := info_parts info_in
  have Hr := Lib.hid hr
  have H11 := Lib.hid h11
  clear hr h11
  obtain ⟨g0, hg0⟩ : ∃ g, g = w.heap.size := ⟨_, rfl⟩
  have Hg0 := Lib.hid hg0
  clear hg0
  go_enter Try.func19, Try.ntmps19
  go_wp2_with (at_make; refine wpList_make_full _ rfl _ _ 22 rfl w.heap.size 3 i0 (.int .i64 0) 1 Try.underlying22 hi hz0 hz1 .i64 .i64 _ _ ls.length rfl rfl ?c1 ?c1 ?c2 ?c3 ?c4 ?_)
  case c1 => omega
  case c2 => first | omega | (rw [hz2]; omega)
  case c3 => unfold maxLen; omega
  try case c4 => exact Nat.le_refl _
  intro w1 hown1 hg1
  have hb1 := below_of_grown hg1
  have hr1 := row_of_ownI hown1
  rw [← Hg0.out] at hr1 ⊢
  have Hb1 := Lib.hid hb1
  rw [← Bm.codesTo_zero ls] at hr1
  have Hr1 := Lib.hid hr1
  clear hown1 hg1 hb1 hr1 hi hz0 hz1 hz2
  go_wp2
  go_loopw [4] (fun i wr => ∃ q : Nat, q ≤ ls.length ∧ i = .int .i64 (q : Int) ∧ Hid (Row wr g0 3 (i64s (Bm.codesTo ls q))) ∧ Hid (Below w.heap.size w wr)) (fun i _ => ls.length - (intOf i).toNat)
  case atStart => exact ⟨0, by omega, rfl, Hr1, Hb1⟩
  case round =>
    obtain ⟨q, hq, rfl, hrow, hbel⟩ := hrel
    clear Hr1 Hb1
    by_cases hql : q < ls.length
    · obtain ⟨g, off, hA, hc⟩ : ∃ g off, A = some ⟨g, off, none⟩ ∧ ∀ W, Below w.heap.size w W → ∀ j (hj : j < ls.length), W.cell? ⟨g, off + j, none⟩ = some (.int .i64 (ls[j] : Int)) := by
        obtain ⟨g, off, e, _⟩ := reads_i9 Hr.out (by omega)
        subst e
        exact ⟨g, off, rfl, fun W hb j hj => by
          obtain ⟨g', off', e, hc⟩ := reads_i9 (reads_on Hr.out hb) (by omega)
          injection e with e
          injection e with e1 e2
          subst e1 e2
          exact hc j hj⟩
      subst hA
      have Hc := Lib.hid hc
      have c0 := hc wr hbel.out q hql
      have hq11 := H11.out ls[q] (List.getElem_mem hql)
      have Hcell : Hid (wr.cell? ⟨g0, q, none⟩ = some (.int .i64 0)) := Lib.hid (by
        have h1 := hrow.out.cell q
        have h2 := Bm.codesTo_get ls q hql
        simp only [i64s, List.getElem?_map, h2, Option.map_some] at h1
        exact h1)
      have hgq : ls[q]?.getD 0 = ls[q] := by rw [List.getElem?_eq_getElem hql, Option.getD_some]
      have Hn := Lib.hid (Bm.codesTo_next ls q hql)
      have Hn0 := Lib.hid (Bm.codesTo_none ls q hql)
      have Hcz : Hid (ls[q] = 0 → Bm.codeN9 ls q = 0) := Lib.hid (fun h => by unfold Bm.codeN9; rw [hgq, if_pos h])
      have Hcn : Hid (ls[q] ≠ 0 → Bm.codeN9 ls q = Bm.aheadN ls q / 2 ^ (11 - ls[q])) := Lib.hid (fun h => by unfold Bm.codeN9; rw [hgq, if_neg h])
      have Hgq := Lib.hid hgq
      clear hc hgq
      obtain ⟨b, hb⟩ : ∃ b, b = ls[q] := ⟨_, rfl⟩
      rw [← hb] at c0 hq11 Hcz Hcn Hgq
      have Hb := Lib.hid hb
      clear hb
      by_cases hb0 : b = 0
      · subst hb0
        have H2 := Lib.hid (Hn0.out (Hcz.out rfl))
        clear Hcn Hcz Hn Hn0 Hcell
        go_wp2
        go_roundw
        case rel => exact ⟨q + 1, by omega, by go_num, Lib.hid (by rw [H2.out]; exact hrow.out), hbel⟩
        case measure => simp [intOf]; omega
      · have hbne : ((b : Int) == 0) = false := by rw [beq_eq_false_iff_ne]; omega
        have Hce := Lib.hid (Hcn.out hb0)
        clear Hcn Hcz Hn0
        obtain ⟨wo, rfl⟩ : ∃ wo : World, wo = wr := ⟨_, rfl⟩
        go_wp2
        clear c0
        go_loopw [5, 6] (fun s k wr => ∃ t : Nat, t ≤ ls.length ∧ k = .int .i64 (t : Int) ∧ s = .int .i64 (Bm.aheadQ ls q t : Int) ∧ ∃ m, wr = wo.drewN m) (fun _ k _ => ls.length - (intOf k).toNat)
        case atStart => exact ⟨0, by omega, rfl, rfl, 0, rfl⟩
        case round =>
          obtain ⟨t, ht, rfl, rfl, m, rfl⟩ := hrel
          have hbd := below_drewN hbel.out m
          by_cases htl : t < ls.length
          · have c1 := Hc.out _ hbel.out t htl
            have c2 := Hc.out _ hbel.out q hql
            rw [← Hb.out] at c2
            have ht11 := H11.out ls[t] (List.getElem_mem htl)
            have hgt : ls[t]?.getD 0 = ls[t] := by rw [List.getElem?_eq_getElem htl, Option.getD_some]
            have Hs := Lib.hid (Bm.aheadQ_succ ls q t)
            have hal := Bm.aheadQ_le ls q t
            have hpl := Bm.part_le ls[t]
            have hbf : Bm.beforeB ls t q = (decide (0 < ls[t]) && (decide (ls[t] < b) || (decide (ls[t] = b) && decide (t < q)))) := by
              unfold Bm.beforeB
              rw [hgt, Hgq.out]
            rw [hbf, hgt] at Hs
            have Hsz : Hid (∀ W, 0 < ls[t] → Calls Try.prog 26 #[.int .i64 (11 - (ls[t] : Int))] W fun e w' => e = .returned (.int .i64 (Bm.partL ls[t] : Int)) ∧ W = w') := Lib.hid (fun W h0 => by
              have h1 := hsize_any (11 - (ls[t] : Int)) W (by omega)
              rw [show (11 - (ls[t] : Int)).toNat = 11 - ls[t] by omega] at h1
              unfold Bm.partL
              rw [if_neg (by omega)]
              exact h1)
            clear hbf hgt
            generalize Bm.aheadQ ls q t = S at *
            generalize Bm.partL ls[t] = P at *
            generalize ls[t] = a at *
            have hi1 : (0 : Int) ≤ (t : Int) := by omega
            have hi2 : (0 : Int) ≤ (q : Int) := by omega
            by_cases k1 : 0 < a
            · have d1 : decide ((0 : Int) < (a : Int)) = true := decide_eq_true (by omega)
              have Hsz2 := Lib.hid (fun W => Hsz.out W k1)
              clear Hsz
              by_cases k2 : a < b ∨ (a = b ∧ t < q)
              · have Hs2 : Hid (Bm.aheadQ ls q (t + 1) = S + P) := Lib.hid (by rw [Hs.out, if_pos]; simp; omega)
                clear Hs
                by_cases k3 : a < b
                · have d3 : decide (a < b) = true := decide_eq_true k3
                  go_wp2_with fail
                  go_quiet (fail)
                  go_wp2_with fail
                  refine (Hsz2.out _).mono ?_
                  rintro e w' ⟨rfl, rfl⟩
                  go_wp2
                  go_roundw
                  case rel => exact ⟨t + 1, by omega, by go_num, by rw [Hs2.out]; go_num, _, rfl⟩
                  case measure => simp [intOf]; omega
                · have d3 : decide (a < b) = false := decide_eq_false k3
                  obtain ⟨rfl, k4⟩ : a = b ∧ t < q := by omega
                  have d4 : decide (t < q) = true := decide_eq_true k4
                  go_wp2_with fail
                  go_quiet (fail)
                  go_wp2_with fail
                  refine (Hsz2.out _).mono ?_
                  rintro e w' ⟨rfl, rfl⟩
                  go_wp2
                  go_roundw
                  case rel => exact ⟨t + 1, by omega, by go_num, by rw [Hs2.out]; go_num, _, rfl⟩
                  case measure => simp [intOf]; omega
              · have Hs2 : Hid (Bm.aheadQ ls q (t + 1) = S) := Lib.hid (by rw [Hs.out, if_neg (by simp; omega)]; omega)
                have d3 : decide (a < b) = false := decide_eq_false (by omega)
                clear Hs Hsz2
                by_cases k4 : a = b
                · subst k4
                  have d4 : decide (t < q) = false := decide_eq_false (by omega)
                  go_wp2_with fail
                  go_quiet (fail)
                  go_wp2
                  go_roundw
                  case rel => exact ⟨t + 1, by omega, by go_num, by rw [Hs2.out], _, rfl⟩
                  case measure => simp [intOf]; omega
                · have d4 : ((a : Int) == (b : Int)) = false := by rw [beq_eq_false_iff_ne]; omega
                  go_wp2_with fail
                  go_quiet (fail)
                  go_wp2
                  go_roundw
                  case rel => exact ⟨t + 1, by omega, by go_num, by rw [Hs2.out], _, rfl⟩
                  case measure => simp [intOf]; omega
            · have d1 : decide ((0 : Int) < (a : Int)) = false := decide_eq_false (by omega)
              have Hs2 : Hid (Bm.aheadQ ls q (t + 1) = S) := Lib.hid (by rw [Hs.out, if_neg (by simp; omega)]; omega)
              clear Hs Hsz
              go_wp2_with fail
              go_quiet (fail)
              go_wp2
              go_roundw
              case rel => exact ⟨t + 1, by omega, by go_num, by rw [Hs2.out], _, rfl⟩
              case measure => simp [intOf]; omega
          · obtain rfl : t = ls.length := by omega
            have c2 := Hc.out _ hbel.out q hql
            rw [← Hb.out] at c2
            have Hsz : Hid (∀ W, Calls Try.prog 26 #[.int .i64 (11 - (b : Int))] W fun e w' => e = .returned (.int .i64 ((2 ^ (11 - b) : Nat) : Int)) ∧ W = w') := Lib.hid (fun W => by
              have h1 := hsize_any (11 - (b : Int)) W (by omega)
              rw [show (11 - (b : Int)).toNat = 11 - b by omega] at h1
              exact h1)
            have hal := Bm.aheadQ_le ls q ls.length
            have hP0 : 0 < 2 ^ (11 - b) := Nat.two_pow_pos _
            have Hfin : Hid (Bm.codeN9 ls q = Bm.aheadQ ls q ls.length / 2 ^ (11 - b)) := Lib.hid Hce.out
            have hcd : (wo.drewN m).cell? ⟨g0, q, none⟩ = some (.int .i64 0) := Hcell.out
            have hfd : (wo.drewN m).frozen? ⟨g0, q, none⟩ = false := hrow.out.free q
            generalize Bm.aheadQ ls q ls.length = S at *
            generalize 2 ^ (11 - b) = P at *
            have hdv : (S : Int) / (P : Int) = ((S / P : Nat) : Int) := by simp
            have hq0 : 0 ≤ (S : Int) / (P : Int) := by rw [hdv]; exact Int.natCast_nonneg _
            have hq1 : (S : Int) / (P : Int) ≤ (S : Int) := by rw [hdv]; exact Int.ofNat_le.2 (Nat.div_le_self S P)
            have Hdv := Lib.hid hdv
            clear hdv
            go_wp2_with fail
            refine (Hsz.out _).mono ?_
            rintro e w' ⟨rfl, rfl⟩
            go_wp2
            go_roundw
            case rel =>
              refine ⟨q + 1, by omega, by go_num, Lib.hid ?_, Lib.hid (hbd.setCell (by rw [Hg0.out]; exact Nat.le_refl _) _)⟩
              have h0 : Row (wo.drewN m) g0 3 (i64s (Bm.codesTo ls q)) := hrow.out
              rw [Hn.out, Hfin.out]
              have h1 := h0.set_ q (.int .i64 ((S : Int) / (P : Int)))
              rw [show i64s ((Bm.codesTo ls q).set q (S / P)) = (i64s (Bm.codesTo ls q)).set q (.int .i64 ((S / P : Nat) : Int)) by simp [i64s, List.map_set], ← Hdv.out]
              exact h1
            case measure => simp [intOf]; omega
    · obtain rfl : q = ls.length := by omega
      rw [Bm.codesTo_all] at hrow
      go_wp2
      go_ret
      exact ⟨g0, rfl, by rw [Hg0.out]; exact Nat.le_refl _, hrow.out, hbel.out⟩
end Go.Proofs.Ytmcobnbahkoopaa
