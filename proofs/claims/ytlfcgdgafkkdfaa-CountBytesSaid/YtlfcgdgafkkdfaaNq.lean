/-
  The program's layer 5 (count), by its walk: slices.Max over bytes, Of, parts. Conditions: as each theorem's premises say.
-/
import Derived.Test.YtlfcgdgafkkdfaaNp
namespace Go.Proofs.Ytlfcgdgafkkdfaa
open Go.RowKit
namespace Bm
theorem topB_pos (bs : List Nat) (h : bs ≠ []) : 0 < topB bs := by
  cases bs with
  | nil => exact absurd rfl h
  | cons x a => rw [topB]; omega
/-- The parts of the first k counts, noughts behind. -/
def partsTo (cs : List Nat) (size k : Nat) : List Nat := (cs.take k).map (partN size cs.sum) ++ List.replicate (cs.length - k) 0
theorem partsTo_zero (cs : List Nat) (size : Nat) : partsTo cs size 0 = List.replicate cs.length 0 := by simp [partsTo]
theorem partsTo_all (cs : List Nat) (size : Nat) : partsTo cs size cs.length = parts cs size := by simp [partsTo, parts]
theorem partsTo_length (cs : List Nat) (size k : Nat) (h : k ≤ cs.length) : (partsTo cs size k).length = cs.length := by simp [partsTo]; omega
theorem partsTo_get (cs : List Nat) (size k : Nat) (h : k < cs.length) : (partsTo cs size k)[k]? = some 0 := by
  unfold partsTo
  have h1 : ((cs.take k).map (partN size cs.sum)).length = k := by simp; omega
  rw [List.getElem?_append_right (by omega), h1, Nat.sub_self, List.getElem?_replicate, if_pos (by omega)]
theorem partsTo_next (cs : List Nat) (size k : Nat) (h : k < cs.length) : partsTo cs size (k + 1) = (partsTo cs size k).set k (partN size cs.sum cs[k]) := by
  unfold partsTo
  have h1 : ((cs.take k).map (partN size cs.sum)).length = k := by simp; omega
  rw [List.set_append_right _ _ (by omega), h1, Nat.sub_self, List.take_succ_eq_append_getElem h, List.map_append, List.append_assoc]
  congr 1
  obtain ⟨m, hm⟩ : ∃ m, cs.length - k = m + 1 := ⟨cs.length - k - 1, by omega⟩
  rw [hm, show cs.length - (k + 1) = m by omega, List.replicate_succ]
  simp
theorem partsTo_none (cs : List Nat) (size k : Nat) (h : k < cs.length) (h0 : cs[k] = 0) : partsTo cs size (k + 1) = partsTo cs size k := by
  have hz : partN size cs.sum 0 = 0 := by simp [partN]
  rw [partsTo_next cs size k h, h0, hz]
  apply List.ext_getElem?
  intro i
  rw [List.getElem?_set]
  split
  · next e =>
    subst e
    rw [if_pos (by rw [partsTo_length cs size k (by omega)]; omega), partsTo_get cs size k h]
  · rfl
theorem mem_le_sum (l : List Nat) (x : Nat) (h : x ∈ l) : x ≤ l.sum := by
  induction l with
  | nil => cases h
  | cons a l ih =>
    rw [List.sum_cons]
    rcases List.mem_cons.1 h with rfl | h1
    · omega
    · have := ih h1; omega
theorem partN_max (size total c : Nat) (h : 0 < c) : max ((c : Int) * size / total) 1 = (partN size total c : Int) := by
  have e : (c : Int) * size / total = ((c * size / total : Nat) : Int) := by simp
  unfold partN
  rw [e]
  split
  · next h1 => rw [h1.1]; rfl
  · next h1 =>
    have h2 : c * size / total ≠ 0 := fun e => h1 ⟨e, h⟩
    generalize c * size / total = q at h2 ⊢
    omega
theorem sum_le (l : List Nat) (m : Nat) (h : ∀ x ∈ l, x ≤ m) : l.sum ≤ m * l.length := by
  induction l with
  | nil => simp
  | cons a l ih =>
    have h1 := ih (fun x hx => h x (List.mem_cons_of_mem _ hx))
    have h2 := h a List.mem_cons_self
    rw [List.sum_cons, List.length_cons, Nat.mul_succ]
    omega
end Bm

set_option maxHeartbeats 1000000 in
theorem nmax_any (A : Option Addr) (c : Nat) (bs : List Nat) (w : World) (hl : bs.length ≤ 1000000000) (h0 : 0 < bs.length) (hlt : ∀ x ∈ bs, x < 256) (hr : Reads w A (u8s bs)) :
    Calls Try.prog 15 #[.slice A bs.length c] w fun e w' => e = .returned (.int .u8 ((Bm.topB bs : Int) - 1)) ∧ w = w' := by
  have hne : bs ≠ [] := by intro e; rw [e] at h0; simp at h0
  obtain ⟨g, off, rfl, hc⟩ := reads_u8 hr hne
  have Hc := Lib.hid hc
  have Hlt := Lib.hid hlt
  have c0 := hc 0 h0
  have hb0 := hlt bs[0] (List.getElem_mem h0)
  have H0 : Hid (Bm.topB (bs.take 1) = bs[0] + 1) := Lib.hid (by
    have h1 := Bm.topB_take bs 0 h0
    rw [List.take_zero] at h1
    rw [h1]
    simp [Bm.topB])
  obtain ⟨r, hres⟩ : ∃ r, r = Bm.topB bs := ⟨_, rfl⟩
  rw [← hres]
  have Hres := Lib.hid hres
  clear hr hlt hc hres
  rw [Nat.add_zero] at c0
  generalize bs[0] = b0 at c0 hb0 H0
  go_enter Try.func15, Try.ntmps15
  go_wp2
  go_loop [3, 4] (fun m i => ∃ k : Nat, 1 ≤ k ∧ k ≤ bs.length ∧ i = .int .i64 (k : Int) ∧ m = .int .u8 ((Bm.topB (bs.take k) : Int) - 1)) (fun _ i => bs.length - (intOf i).toNat)
  case atStart => exact ⟨1, by omega, by omega, rfl, by rw [H0.out]; go_num⟩
  case round =>
    obtain ⟨k, hk1, hk, rfl, rfl⟩ := hrel
    clear c0
    by_cases hkl : k < bs.length
    · have c1 := Hc.out k hkl
      have hb := Hlt.out bs[k] (List.getElem_mem hkl)
      have hT1 := Bm.topB_le (bs.take k) (fun x hx => Hlt.out x (List.mem_of_mem_take hx))
      have Hs := Lib.hid (Bm.topB_take bs k hkl)
      have hp : 0 < Bm.topB (bs.take k) := Bm.topB_pos _ (fun e => by
        have h1 := congrArg List.length e
        rw [List.length_take, List.length_nil] at h1
        omega)
      generalize Bm.topB (bs.take k) = T at hT1 Hs hp ⊢
      generalize bs[k] = b at c1 hb Hs
      have hmx := max_top T b
      generalize max T (b + 1) = T2 at hmx Hs
      go_wp2
      go_round
      case rel => exact ⟨k + 1, by omega, by omega, by go_num, by rw [Hs.out]⟩
      case measure => simp [intOf]; omega
    · obtain rfl : k = bs.length := by omega
      rw [List.take_length, ← Hres.out]
      go_wp2
      go_ret
      exact ⟨rfl, rfl⟩

set_option maxHeartbeats 1000000 in
theorem nof_is : COf := by
  intro A c bs w hl hlt hr
  rcases Nat.eq_zero_or_pos bs.length with h0 | h0
  · have hb : bs = [] := List.eq_nil_of_length_eq_zero h0
    subst hb
    go_enter Try.func6, Try.ntmps6
    go_wp2
    go_ret
    exact ⟨none, 0, rfl, fun h => absurd rfl h, Below.refl _ _⟩
  have hz : ((bs.length : Int) == 0) = false := by rw [beq_eq_false_iff_ne]; omega
  obtain ⟨i0, hi, hz0, hz1, hz2⟩ := info_parts info_in
  have Hr := Lib.hid hr
  have Hlt := Lib.hid hlt
  have hT := Bm.topB_le bs hlt
  have hT0 := Bm.topB_pos bs (by intro e; rw [e] at h0; simp at h0)
  have Hmx := Lib.hid (nmax_any A c bs w (by omega) h0 hlt hr)
  clear hr hlt
  obtain ⟨g0, hg0⟩ : ∃ g, g = w.heap.size := ⟨_, rfl⟩
  have Hg0 := Lib.hid hg0
  obtain ⟨T, hTe⟩ : ∃ T, T = Bm.topB bs := ⟨_, rfl⟩
  have HTe := Lib.hid hTe
  have Hmx2 : Hid (Calls Try.prog 15 #[.slice A bs.length c] w fun e w' => e = .returned (.int .u8 ((T : Int) - 1)) ∧ w = w') := Lib.hid (by rw [hTe]; exact Hmx.out)
  rw [← hTe] at hT hT0 ⊢
  clear hg0 hTe Hmx
  go_enter Try.func6, Try.ntmps6
  go_wp2_with fail
  refine Hmx2.out.mono ?_
  rintro e w' ⟨rfl, rfl⟩
  clear Hmx2
  have e1 : ((T : Int) - 1) + 1 = (T : Int) := by omega
  go_wp2_with (at_make; refine wpList_make_full _ rfl _ _ 24 rfl w.heap.size 3 i0 (.int .i64 0) 1 Try.underlying24 hi hz0 hz1 .i64 .i64 _ _ T rfl rfl ?c1 ?c1 ?c2 ?c3 ?c4 ?_)
  case c1 => omega
  case c2 => first | omega | (rw [hz2]; omega)
  case c3 => unfold maxLen; omega
  try case c4 => exact Nat.le_refl _
  intro w1 hown1 hg1
  have hb1 := below_of_grown hg1
  have hr1 := row_of_ownI hown1
  rw [← Hg0.out] at hr1 ⊢
  have Hb1 := Lib.hid hb1
  rw [HTe.out, ← Bm.countsTo_zero] at hr1
  have Hr1 := Lib.hid hr1
  clear hown1 hg1 hb1 hr1 hi hz0 hz1 hz2 e1 hz
  go_wp2
  go_loopw [16] (fun i wr => ∃ k : Nat, k ≤ bs.length ∧ i = .int .i64 (k : Int) ∧ Hid (Row wr g0 3 (i64s (Bm.countsTo bs k))) ∧ Hid (Below w.heap.size w wr)) (fun i _ => bs.length - (intOf i).toNat)
  case atStart => exact ⟨0, by omega, rfl, Hr1, Hb1⟩
  case round =>
    obtain ⟨k, hk, rfl, hrow, hbel⟩ := hrel
    clear Hr1 Hb1
    by_cases hkl : k < bs.length
    · have hne : bs ≠ [] := by intro e; rw [e] at hkl; simp at hkl
      obtain ⟨g, off, rfl, hc⟩ := reads_u8 (reads_on Hr.out hbel.out) hne
      have c0 := hc k hkl
      have hb := Hlt.out bs[k] (List.getElem_mem hkl)
      have hbT : bs[k] < T := by rw [HTe.out]; exact Bm.topB_mem bs _ (List.getElem_mem hkl)
      have hcb : (bs.take k).count bs[k] ≤ bs.length := Nat.le_trans List.count_le_length (by rw [List.length_take]; omega)
      have hcell := hrow.out.cell bs[k]
      have hgt := Bm.countsTo_get bs k bs[k] (by rw [← HTe.out]; exact hbT)
      simp only [i64s, List.getElem?_map, hgt, Option.map_some] at hcell
      have hfree := hrow.out.free bs[k]
      have Hn := Lib.hid (Bm.countsTo_next bs k hkl)
      clear hc hgt
      generalize (bs.take k).count bs[k] = q at hcb hcell Hn
      generalize bs[k] = b at c0 hb hbT hcell hfree Hn
      go_wp2
      go_roundw
      case rel =>
        refine ⟨k + 1, by omega, by go_num, Lib.hid ?_, Lib.hid (hbel.out.setCell (by rw [Hg0.out]; exact Nat.le_refl _) _)⟩
        rw [Hn.out]
        have h1 := hrow.out.set_ b (.int .i64 ((q : Int) + 1))
        rw [show i64s ((Bm.countsTo bs k).set b (q + 1)) = (i64s (Bm.countsTo bs k)).set b (.int .i64 ((q : Int) + 1)) by simp [i64s, List.map_set]]
        exact h1
      case measure => simp [intOf]; omega
    · obtain rfl : k = bs.length := by omega
      rw [Bm.countsTo_all] at hrow
      go_wp2
      go_ret
      exact ⟨some ⟨g0, 0, none⟩, T, rfl, row_reads hrow.out, hbel.out⟩

set_option maxHeartbeats 1000000 in
theorem nparts_any (A : Option Addr) (c : Nat) (cs : List Nat) (size : Nat) (w : World) (hl : cs.length ≤ 256) (hm : ∀ x ∈ cs, x ≤ 1048576) (hsz : size ≤ 512) (hr : Reads w A (i64s cs)) :
    Calls Try.prog 18 #[.slice A cs.length c, .int .i64 (size : Int)] w fun e w' => ∃ g, e = .returned (.slice (some ⟨g, 0, none⟩) cs.length cs.length) ∧ w.heap.size ≤ g ∧ Row w' g 3 (i64s (Bm.parts cs size)) ∧ Below w.heap.size w w' := by
  obtain ⟨i0, hi, hz0, hz1, hz2⟩ := info_parts info_in
  have hsum := Bm.sum_le cs 1048576 hm
  have Hr := Lib.hid hr
  have Hm := Lib.hid hm
  have Htt := Lib.hid (ntotal_any A c cs w (by omega) (by omega) hr)
  obtain ⟨S, hS⟩ : ∃ S, S = cs.sum := ⟨_, rfl⟩
  have HS := Lib.hid hS
  rw [← hS] at Htt hsum
  clear hr hm hS
  obtain ⟨g0, hg0⟩ : ∃ g, g = w.heap.size := ⟨_, rfl⟩
  have Hg0 := Lib.hid hg0
  clear hg0
  go_enter Try.func18, Try.ntmps18
  go_wp2_with fail
  refine Htt.out.mono ?_
  rintro e w' ⟨rfl, rfl⟩
  clear Htt
  go_wp2_with (at_make; refine wpList_make_full _ rfl _ _ 24 rfl w.heap.size 3 i0 (.int .i64 0) 1 Try.underlying24 hi hz0 hz1 .i64 .i64 _ _ cs.length rfl rfl ?c1 ?c1 ?c2 ?c3 ?c4 ?_)
  case c1 => omega
  case c2 => first | omega | (rw [hz2]; omega)
  case c3 => unfold maxLen; omega
  try case c4 => exact Nat.le_refl _
  intro w1 hown1 hg1
  have hb1 := below_of_grown hg1
  have hr1 := row_of_ownI hown1
  rw [← Hg0.out] at hr1 ⊢
  have Hb1 := Lib.hid hb1
  rw [← Bm.partsTo_zero cs size] at hr1
  have Hr1 := Lib.hid hr1
  clear hown1 hg1 hb1 hr1 hi hz0 hz1 hz2
  go_wp2
  go_loopw [16] (fun i wr => ∃ k : Nat, k ≤ cs.length ∧ i = .int .i64 (k : Int) ∧ Hid (Row wr g0 3 (i64s (Bm.partsTo cs size k))) ∧ Hid (Below w.heap.size w wr)) (fun i _ => cs.length - (intOf i).toNat)
  case atStart => exact ⟨0, by omega, rfl, Hr1, Hb1⟩
  case round =>
    obtain ⟨k, hk, rfl, hrow, hbel⟩ := hrel
    clear Hr1 Hb1
    by_cases hkl : k < cs.length
    · obtain ⟨g, off, rfl, hc⟩ := reads_in (reads_on Hr.out hbel.out) (by omega)
      have c0 := hc k hkl
      have hb := Hm.out cs[k] (List.getElem_mem hkl)
      have hcell := hrow.out.cell k
      have hgt := Bm.partsTo_get cs size k hkl
      simp only [i64s, List.getElem?_map, hgt, Option.map_some] at hcell
      have hfree := hrow.out.free k
      have hsk : cs[k] ≤ S := by rw [HS.out]; exact Bm.mem_le_sum cs _ (List.getElem_mem hkl)
      have Hn := Lib.hid (Bm.partsTo_next cs size k hkl)
      have Hn0 := Lib.hid (Bm.partsTo_none cs size k hkl)
      have hpm := Bm.partN_max size S cs[k]
      rw [← HS.out] at Hn
      have Hpm := Lib.hid hpm
      have hpz : (cs[k] : Int) * size ≤ 1048576 * 512 := by
        rw [← Int.natCast_mul]
        have := Nat.mul_le_mul hb hsz
        omega
      have hpz0 : 0 ≤ (cs[k] : Int) * size := by rw [← Int.natCast_mul]; omega
      clear hc hgt hpm
      generalize cs[k] = z at c0 hb hsk Hn Hn0 Hpm hpz hpz0
      by_cases hz : 0 < z
      · have hmax := Hpm.out hz
        have Hmax := Lib.hid hmax
        clear hmax
        have hq0 : 0 ≤ (z : Int) * size / S := Int.ediv_nonneg hpz0 (by omega)
        go_wp2
        go_roundw
        case rel =>
          refine ⟨k + 1, by omega, by go_num, Lib.hid ?_, Lib.hid (hbel.out.setCell (by rw [Hg0.out]; exact Nat.le_refl _) _)⟩
          rw [Hn.out]
          have h1 := hrow.out.set_ k (.int .i64 (Bm.partN size S z : Int))
          rw [show i64s ((Bm.partsTo cs size k).set k (Bm.partN size S z)) = (i64s (Bm.partsTo cs size k)).set k (.int .i64 (Bm.partN size S z : Int)) by simp [i64s, List.map_set]]
          rw [← Hmax.out] at h1 ⊢
          exact h1
        case measure => simp [intOf]; omega
      · have e0 : z = 0 := by omega
        have H2 := Lib.hid (Hn0.out e0)
        clear e0
        go_wp2
        go_roundw
        case rel => exact ⟨k + 1, by omega, by go_num, Lib.hid (by rw [H2.out]; exact hrow.out), hbel⟩
        case measure => simp [intOf]; omega
    · obtain rfl : k = cs.length := by omega
      rw [Bm.partsTo_all] at hrow
      go_wp2
      go_ret
      exact ⟨g0, rfl, by rw [Hg0.out]; exact Nat.le_refl _, hrow.out, hbel.out⟩
end Go.Proofs.Ytlfcgdgafkkdfaa
