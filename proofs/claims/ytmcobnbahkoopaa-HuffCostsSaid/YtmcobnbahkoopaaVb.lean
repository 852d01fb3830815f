/-
  The program's layer 9 (huff), by its walk: Codes. Conditions: as each theorem's premises say.
-/
import Derived.Test.YtmcobnbahkoopaaVa
namespace Go.Proofs.Ytmcobnbahkoopaa
open Go.RowKit
namespace Bm
theorem ite_iff9 {p q : Prop} [Decidable p] [Decidable q] (h : p ↔ q) (a b : Nat) : (if p then a else b) = if q then a else b := by
  by_cases hq : q
  · rw [if_pos hq, if_pos (h.2 hq)]
  · rw [if_neg hq, if_neg (fun hp => hq (h.1 hp))]
/-- Is k's code done, behind the lengths ahead of m, and the first q of length m? -/
def doneC (ls : List Nat) (m q k : Nat) : Prop := 0 < ls[k]?.getD 0 ∧ (ls[k]?.getD 0 < m ∨ (ls[k]?.getD 0 = m ∧ k < q))
instance (ls : List Nat) (m q k : Nat) : Decidable (doneC ls m q k) := by unfold doneC; exact inferInstance
def preQ (ls : List Nat) (m q : Nat) : Nat := ((List.range ls.length).map fun k => if doneC ls m q k then partL (ls[k]?.getD 0) else 0).sum
def codesD (ls : List Nat) (m q : Nat) : List Nat := (List.range ls.length).map fun k => if doneC ls m q k then codeN9 ls k else 0
theorem codesD_length (ls : List Nat) (m q : Nat) : (codesD ls m q).length = ls.length := by simp [codesD]
theorem preQ_next (ls : List Nat) (m q : Nat) (h : q < ls.length) (h0 : 0 < m) (he : ls[q]?.getD 0 = m) : preQ ls m (q + 1) = preQ ls m q + partL m := by
  have e : partL m = ((List.range ls.length).map fun k => if k = q then partL m else 0).sum := by rw [sum_single, if_pos h]
  conv => rhs; rw [e]
  unfold preQ
  rw [← sum_map_add]
  congr 1
  apply List.map_congr_left
  intro k _
  by_cases hk : k = q
  · subst hk
    rw [if_pos (show doneC ls m (k + 1) k by unfold doneC; omega), if_neg (show ¬ doneC ls m k k by unfold doneC; omega), if_pos rfl, he, Nat.zero_add]
  · rw [if_neg hk, Nat.add_zero]
    exact ite_iff9 (by unfold doneC; omega) _ _
theorem done_same (ls : List Nat) (m q : Nat) (he : ls[q]?.getD 0 ≠ m) (k : Nat) : doneC ls m (q + 1) k ↔ doneC ls m q k := by
  unfold doneC
  by_cases hk : k = q
  · subst hk; omega
  · omega
theorem preQ_same (ls : List Nat) (m q : Nat) (he : ls[q]?.getD 0 ≠ m) : preQ ls m (q + 1) = preQ ls m q := by
  unfold preQ
  congr 1
  apply List.map_congr_left
  intro k _
  exact ite_iff9 (done_same ls m q he k) _ _
theorem codesD_same (ls : List Nat) (m q : Nat) (he : ls[q]?.getD 0 ≠ m) : codesD ls m (q + 1) = codesD ls m q := by
  unfold codesD
  apply List.map_congr_left
  intro k _
  exact ite_iff9 (done_same ls m q he k) _ _
theorem done_row (ls : List Nat) (m : Nat) (k : Nat) (hk : k < ls.length) : doneC ls m ls.length k ↔ doneC ls (m + 1) 0 k := by unfold doneC; omega
theorem preQ_row (ls : List Nat) (m : Nat) : preQ ls m ls.length = preQ ls (m + 1) 0 := by
  unfold preQ
  congr 1
  apply List.map_congr_left
  intro k hk
  exact ite_iff9 (done_row ls m k (List.mem_range.1 hk)) _ _
theorem codesD_row (ls : List Nat) (m : Nat) : codesD ls m ls.length = codesD ls (m + 1) 0 := by
  unfold codesD
  apply List.map_congr_left
  intro k hk
  exact ite_iff9 (done_row ls m k (List.mem_range.1 hk)) _ _
theorem preQ_zero (ls : List Nat) : preQ ls 1 0 = 0 := by
  unfold preQ
  have : ∀ L : List Nat, (L.map fun k => if doneC ls 1 0 k then partL (ls[k]?.getD 0) else 0).sum = 0 := fun L => by
    induction L with
    | nil => rfl
    | cons k L ih =>
      rw [List.map_cons, List.sum_cons, ih, if_neg (by unfold doneC; omega)]
  exact this _
theorem codesD_zero (ls : List Nat) : codesD ls 1 0 = List.replicate ls.length 0 := by
  unfold codesD
  rw [List.map_congr_left (g := fun _ => 0) (fun k _ => if_neg (by unfold doneC; omega)), List.map_const', List.length_range]
theorem codesD_all (ls : List Nat) (h : ∀ x ∈ ls, x ≤ 11) : codesD ls 12 0 = codesN ls := by
  unfold codesD codesN
  apply List.map_congr_left
  intro k hk
  have hk := List.mem_range.1 hk
  have h1 : ls[k]?.getD 0 ≤ 11 := by rw [List.getElem?_eq_getElem hk, Option.getD_some]; exact h _ (List.getElem_mem hk)
  by_cases h0 : ls[k]?.getD 0 = 0
  · rw [if_neg (by unfold doneC; omega)]
    unfold codeN9
    rw [if_pos h0]
  · rw [if_pos (by unfold doneC; omega)]
theorem preQ_ahead (ls : List Nat) (m q : Nat) (he : ls[q]?.getD 0 = m) : aheadN ls q = preQ ls m q := by
  unfold aheadN aheadQ preQ
  congr 1
  apply List.map_congr_left
  intro k _
  refine ite_iff9 ?_ _ _
  unfold beforeB doneC
  rw [he]
  simp only [Bool.and_eq_true, Bool.or_eq_true, decide_eq_true_eq]
theorem preQ_le (ls : List Nat) (m q : Nat) : preQ ls m q ≤ krN ls := by
  rw [krN_range]
  unfold preQ
  apply sum_map_le
  intro k _
  split
  · exact Nat.le_refl _
  · exact Nat.zero_le _
theorem codesD_next (ls : List Nat) (m q : Nat) (h0 : 0 < m) (he : ls[q]?.getD 0 = m) : codesD ls m (q + 1) = (codesD ls m q).set q (codeN9 ls q) := by
  apply List.ext_getElem
  · simp [codesD_length]
  · intro k h1 h2
    rw [List.getElem_set]
    simp only [codesD, List.getElem_map, List.getElem_range]
    by_cases hk : q = k
    · subst hk
      rw [if_pos rfl, if_pos (by unfold doneC; omega)]
    · rw [if_neg hk]
      exact ite_iff9 (by unfold doneC; omega) _ _
theorem code_is (ls : List Nat) (m q N : Nat) (h0 : 0 < m) (he : ls[q]?.getD 0 = m) (hN : N * 2 ^ (11 - m) = preQ ls m q) : codeN9 ls q = N := by
  unfold codeN9
  rw [he, if_neg (by omega), preQ_ahead ls m q he, ← hN, Nat.mul_div_cancel _ (Nat.two_pow_pos _)]
theorem step_up (N m X : Nat) (h0 : 0 < m) (h : m ≤ 11) (hN : N * 2 ^ (12 - m) = X) : 2 * N * 2 ^ (11 - m) = X := by
  rw [← hN, show 12 - m = (11 - m) + 1 by omega, Nat.pow_succ, Nat.mul_comm 2 N, Nat.mul_assoc, Nat.mul_comm 2]
theorem step_one (N m X : Nat) (h : m ≤ 11) (h0 : 0 < m) (hN : N * 2 ^ (11 - m) = X) : (N + 1) * 2 ^ (11 - m) = X + partL m := by
  unfold partL
  rw [if_neg (by omega), Nat.add_mul, hN, Nat.one_mul]
theorem code_bound (N e X : Nat) (h : N * 2 ^ e = X) (hX : X ≤ 2048) : N ≤ 2048 := Nat.le_trans (by rw [← h]; exact Nat.le_mul_of_pos_right _ (Nat.two_pow_pos _)) hX
end Bm
set_option maxHeartbeats 4000000 in
set_option maxRecDepth 100000 in
theorem ucodes_yes (A : Option Addr) (c : Nat) (ls : List Nat) (w : World) (hl : ls.length ≤ 256) (h11 : ∀ x ∈ ls, x ≤ 11) (hkr : Bm.krN ls ≤ 2048) (hr : Reads w A (i64s ls)) (hwh : Calls Try.prog 17 #[.slice A ls.length c] w fun e w' => e = .returned (.bool true) ∧ w = w') :
    Calls Try.prog 16 #[.slice A ls.length c] w fun e w' => ∃ g, e = .returned (.tuple #[.slice (some ⟨g, 0, none⟩) ls.length ls.length, .bool true]) ∧ Row w' g 3 (i64s (Bm.codesN ls)) ∧ w.heap.size ≤ g ∧ Below w.heap.size w w' := by
  obtain ⟨i0, hi, hz0, hz1, hz2⟩ := info_parts info_in
  have Hr := Lib.hid hr
  have H11 := Lib.hid h11
  have Hwh := Lib.hid hwh
  have Hle := Lib.hid (fun m q => Nat.le_trans (Bm.preQ_le ls m q) hkr)
  clear hr h11 hwh hkr
  obtain ⟨g0, hg0⟩ : ∃ g, g = w.heap.size := ⟨_, rfl⟩
  have Hg0 := Lib.hid hg0
  clear hg0
  go_enter Try.func16, Try.ntmps16
  go_wp2_with fail
  refine Hwh.out.mono ?_
  rintro e w' ⟨rfl, rfl⟩
  clear Hwh
  go_wp2_with (at_make; refine wpList_make_full _ rfl _ _ 22 rfl w.heap.size 3 i0 (.int .i64 0) 1 Try.underlying22 hi hz0 hz1 .i64 .i64 _ _ ls.length rfl rfl ?c1 ?c1 ?c2 ?c3 ?c4 ?_)
  case c1 => omega
  case c2 => first | omega | (rw [hz2]; omega)
  case c3 => unfold maxLen; omega
  try case c4 => exact Nat.le_refl _
  intro w1 hown1 hg1
  have hb1 := below_of_grown hg1
  have hr1 := row_of_ownI hown1
  rw [← Hg0.out] at hr1 ⊢
  have Hb1 := Lib.hid hb1
  rw [← Bm.codesD_zero ls] at hr1
  have Hr1 := Lib.hid hr1
  clear hown1 hg1 hb1 hr1 hi hz0 hz1 hz2
  go_wp2
  go_loopw [5, 6] (fun nx ln wr => ∃ (N m : Nat), nx = .int .i64 (N : Int) ∧ ln = .int .i64 (m : Int) ∧ 0 < m ∧ m ≤ 12 ∧ N ≤ 2048 ∧ Hid (N * 2 ^ (12 - m) = Bm.preQ ls m 0) ∧ Hid (Row wr g0 3 (i64s (Bm.codesD ls m 0))) ∧ Hid (Below w.heap.size w wr)) (fun _ ln _ => 12 - (intOf ln).toNat)
  case atStart => exact ⟨0, 1, rfl, rfl, by omega, by omega, by omega, Lib.hid (by rw [Bm.preQ_zero, Nat.zero_mul]), Hr1, Hb1⟩
  case round =>
    obtain ⟨N, m, rfl, rfl, hm0, hm12, hN, hpre, hrow, hbel⟩ := hrel
    clear Hr1 Hb1
    by_cases hm : m ≤ 11
    · have Hp1 := Lib.hid (Bm.step_up N m _ hm0 hm hpre.out)
      have hN2 := Bm.code_bound _ _ _ Hp1.out (Hle.out m 0)
      clear hpre
      go_wp2
      rename World => wx
      go_loopw [5, 23] (fun nx iv wr => ∃ (N2 q : Nat), q ≤ ls.length ∧ nx = .int .i64 (N2 : Int) ∧ iv = .int .i64 (q : Int) ∧ N2 ≤ 2048 ∧ Hid (N2 * 2 ^ (11 - m) = Bm.preQ ls m q) ∧ Hid (Row wr g0 3 (i64s (Bm.codesD ls m q))) ∧ Hid (Below w.heap.size w wr)) (fun _ iv _ => ls.length - (intOf iv).toNat)
      case atStart => exact ⟨2 * N, 0, by omega, by go_num, rfl, hN2, Hp1, hrow, hbel⟩
      case round =>
        obtain ⟨N2, q, hq, rfl, rfl, hN3, hpre2, hrow2, hbel2⟩ := hrel
        clear hrow hbel Hp1
        by_cases hql : q < ls.length
        · obtain ⟨g, off, rfl, hc⟩ := reads_i9 (reads_on Hr.out hbel2.out) (by omega)
          have c0 := hc q hql
          have hx11 := H11.out ls[q] (List.getElem_mem hql)
          have hgq : ls[q]?.getD 0 = ls[q] := by rw [List.getElem?_eq_getElem hql, Option.getD_some]
          have Hgq := Lib.hid hgq
          clear hc hgq
          obtain ⟨x, hx⟩ : ∃ x, x = ls[q] := ⟨_, rfl⟩
          rw [← hx] at c0 hx11 Hgq
          clear hx
          by_cases hxm : x = m
          · subst hxm
            have Hp2 := Lib.hid (Bm.step_one N2 x _ hm hm0 hpre2.out)
            rw [← Bm.preQ_next ls x q hql hm0 Hgq.out] at Hp2
            have hN4 := Bm.code_bound _ _ _ Hp2.out (Hle.out x (q + 1))
            have Hcd := Lib.hid (Bm.codesD_next ls x q hm0 Hgq.out)
            rw [Bm.code_is ls x q N2 hm0 Hgq.out hpre2.out] at Hcd
            have hlen : (i64s (Bm.codesD ls x q)).length = ls.length := by rw [i64s_length, Bm.codesD_length]
            have hcell : ∃ v, wr.cell? ⟨g0, q, none⟩ = some v := ⟨_, (hrow2.out.cell q).trans (List.getElem?_eq_getElem (by omega))⟩
            obtain ⟨v0, hcd⟩ := hcell
            have hfd : wr.frozen? ⟨g0, q, none⟩ = false := hrow2.out.free q
            have hrow3 : Row (wr.setCell ⟨g0, q, none⟩ (.int .i64 (N2 : Int))) g0 3 (i64s (Bm.codesD ls x (q + 1))) := by
              have h1 := hrow2.out.set_ q (.int .i64 (N2 : Int))
              rw [Hcd.out, show i64s ((Bm.codesD ls x q).set q N2) = (i64s (Bm.codesD ls x q)).set q (.int .i64 (N2 : Int)) by simp [i64s, List.map_set]]
              exact h1
            have Hrow3 := Lib.hid hrow3
            have Hbel3 := Lib.hid (hbel2.out.setCell (p := ⟨g0, q, none⟩) (by rw [Hg0.out]; exact Nat.le_refl _) (.int .i64 (N2 : Int)))
            clear hrow3 hlen hrow2 hbel2 hpre2 Hcd
            go_wp2
            go_roundw
            case rel => exact ⟨N2 + 1, q + 1, by omega, by go_num, by go_num, hN4, Hp2, Hrow3, Hbel3⟩
            case measure => simp [intOf]; omega
          · have Hp2 : Hid (N2 * 2 ^ (11 - m) = Bm.preQ ls m (q + 1)) := Lib.hid (by rw [Bm.preQ_same ls m q (by rw [Hgq.out]; exact hxm)]; exact hpre2.out)
            have Hrow3 : Hid (Row wr g0 3 (i64s (Bm.codesD ls m (q + 1)))) := Lib.hid (by rw [Bm.codesD_same ls m q (by rw [Hgq.out]; exact hxm)]; exact hrow2.out)
            have hne : ((x : Int) == (m : Int)) = false := by rw [beq_eq_false_iff_ne]; omega
            clear hrow2 hpre2
            go_wp2
            go_roundw
            case rel => exact ⟨N2, q + 1, by omega, rfl, by go_num, hN3, Hp2, Hrow3, hbel2⟩
            case measure => simp [intOf]; omega
        · obtain rfl : q = ls.length := by omega
          have Hp3 : Hid (N2 * 2 ^ (12 - (m + 1)) = Bm.preQ ls (m + 1) 0) := Lib.hid (by rw [← Bm.preQ_row, show 12 - (m + 1) = 11 - m by omega]; exact hpre2.out)
          have Hrow3 : Hid (Row wr g0 3 (i64s (Bm.codesD ls (m + 1) 0))) := Lib.hid (by rw [← Bm.codesD_row]; exact hrow2.out)
          clear hrow2 hpre2
          go_wp2
          go_roundw
          case rel => exact ⟨N2, m + 1, rfl, by go_num, by omega, by omega, hN3, Hp3, Hrow3, hbel2⟩
          case measure => simp [intOf]; omega
    · obtain rfl : m = 12 := by omega
      have Hrow2 : Hid (Row wr g0 3 (i64s (Bm.codesN ls))) := Lib.hid (by rw [← Bm.codesD_all ls H11.out]; exact hrow.out)
      clear hrow hpre
      go_wp2
      go_ret2
      exact ⟨g0, rfl, Hrow2.out, by rw [Hg0.out]; exact Nat.le_refl _, hbel.out⟩
theorem ucodes_no (A : Option Addr) (c : Nat) (l : List Int) (w : World) (hl : l.length ≤ 9223372036854775807) (hr : Reads w A (i64z l)) (hno : ¬ Bm.WholeI l) :
    Calls Try.prog 16 #[.slice A l.length c] w fun e w' => e = .returned (.tuple #[.slice none 0 0, .bool false]) ∧ w = w' := by
  have h := uwhole_any A c l w hl hr
  rw [decide_eq_false hno] at h
  have H := Lib.hid h
  clear h hr hno
  go_enter Try.func16, Try.ntmps16
  go_wp2_with fail
  refine H.out.mono ?_
  rintro e w' ⟨rfl, rfl⟩
  go_wp2
  go_ret2
  exact ⟨rfl, rfl⟩
end Go.Proofs.Ytmcobnbahkoopaa
