/-
  The reference of layer 5 (count), by its walk: Of. Conditions: as each theorem's premises say.
-/
import Derived.Test.YtlfcgdgafkkdfaaNr
namespace Go.Proofs.Ytlfcgdgafkkdfaa
open Go.RowKit
namespace Bm
/-- One more than the greatest of these (0: there are none). -/
def topB : List Nat → Nat
  | [] => 0
  | b :: bs => max (b + 1) (topB bs)
/-- How often each symbol comes. -/
def countsOf (bs : List Nat) : List Nat := (List.range (topB bs)).map fun s => bs.count s
theorem topB_append (a b : List Nat) : topB (a ++ b) = max (topB a) (topB b) := by
  induction a with
  | nil => simp [topB]
  | cons x a ih => rw [List.cons_append, topB, ih, topB]; omega
theorem topB_take (bs : List Nat) (k : Nat) (h : k < bs.length) : topB (bs.take (k + 1)) = max (topB (bs.take k)) (bs[k] + 1) := by
  rw [List.take_succ_eq_append_getElem h, topB_append]
  simp [topB]
theorem topB_le (bs : List Nat) (h : ∀ x ∈ bs, x < 256) : topB bs ≤ 256 := by
  induction bs with
  | nil => simp [topB]
  | cons x a ih =>
    have h1 := ih (fun y hy => h y (List.mem_cons_of_mem _ hy))
    have h2 := h x List.mem_cons_self
    rw [topB]; omega
theorem topB_mem (bs : List Nat) (b : Nat) (h : b ∈ bs) : b < topB bs := by
  induction bs with
  | nil => cases h
  | cons x a ih =>
    rw [topB]
    rcases List.mem_cons.1 h with rfl | h1
    · omega
    · have := ih h1; omega
/-- Counts of the first k. -/
def countsTo (bs : List Nat) (k : Nat) : List Nat := (List.range (topB bs)).map fun s => (bs.take k).count s
theorem countsTo_zero (bs : List Nat) : countsTo bs 0 = List.replicate (topB bs) 0 := by
  unfold countsTo
  rw [List.take_zero]
  simp only [List.count_nil]
  rw [List.map_const', List.length_range]
theorem countsTo_all (bs : List Nat) : countsTo bs bs.length = countsOf bs := by unfold countsTo countsOf; rw [List.take_length]
theorem countsTo_length (bs : List Nat) (k : Nat) : (countsTo bs k).length = topB bs := by simp [countsTo]
theorem countsTo_get (bs : List Nat) (k b : Nat) (h : b < topB bs) : (countsTo bs k)[b]? = some ((bs.take k).count b) := by simp [countsTo, h]
theorem countsTo_next (bs : List Nat) (k : Nat) (h : k < bs.length) : countsTo bs (k + 1) = (countsTo bs k).set bs[k] ((bs.take k).count bs[k] + 1) := by
  apply List.ext_getElem
  · simp [countsTo_length]
  · intro i h1 h2
    rw [List.getElem_set]
    simp only [countsTo, List.getElem_map, List.getElem_range]
    rw [List.take_succ_eq_append_getElem h, List.count_append, List.count_singleton]
    by_cases e : bs[k] = i
    · subst e; simp
    · simp [e]
end Bm
theorem max_top (T b : Nat) : max ((T : Int) - 1) (b : Int) = ((max T (b + 1) : Nat) : Int) - 1 := by omega

set_option maxHeartbeats 1000000 in
theorem hof_any (A : Option Addr) (c : Nat) (bs : List Nat) (w : World) (hl : bs.length ≤ 1000000000) (hlt : ∀ x ∈ bs, x < 256) (hr : Reads w A (u8s bs)) :
    Calls Try.prog 8 #[.slice A bs.length c] w fun e w' => ∃ g, e = .returned (.slice (some ⟨g, 0, none⟩) (Bm.topB bs) (Bm.topB bs)) ∧ w.heap.size ≤ g ∧ Row w' g 3 (i64s (Bm.countsOf bs)) ∧ Below w.heap.size w w' := by
  obtain ⟨i0, hi, hz0, hz1, hz2⟩ := info_parts info_in
  have Hr := Lib.hid hr
  have Hlt := Lib.hid hlt
  have hT := Bm.topB_le bs hlt
  clear hr hlt
  obtain ⟨g0, hg0⟩ : ∃ g, g = w.heap.size := ⟨_, rfl⟩
  have Hg0 := Lib.hid hg0
  clear hg0
  go_enter Try.func8, Try.ntmps8
  go_wp2
  go_loop [3, 4] (fun m i => ∃ k : Nat, k ≤ bs.length ∧ i = .int .i64 (k : Int) ∧ m = .int .i64 ((Bm.topB (bs.take k) : Int) - 1)) (fun _ i => bs.length - (intOf i).toNat)
  case atStart => exact ⟨0, by omega, rfl, rfl⟩
  case round =>
    obtain ⟨k, hk, rfl, rfl⟩ := hrel
    by_cases hkl : k < bs.length
    · obtain ⟨g, off, rfl, hc⟩ := reads_u8 Hr.out (by intro e; rw [e] at hkl; simp at hkl)
      have c0 := hc k hkl
      have hb := Hlt.out bs[k] (List.getElem_mem hkl)
      have hT1 := Bm.topB_le (bs.take k) (fun x hx => Hlt.out x (List.mem_of_mem_take hx))
      have Hs := Lib.hid (Bm.topB_take bs k hkl)
      clear hc
      generalize Bm.topB (bs.take k) = T at hT1 Hs ⊢
      generalize bs[k] = b at c0 hb Hs
      have hmx := max_top T b
      generalize max T (b + 1) = T2 at hmx Hs
      go_wp2
      go_round
      case rel => exact ⟨k + 1, by omega, by go_num, by rw [Hs.out]⟩
      case measure => simp [intOf]; omega
    · obtain rfl : k = bs.length := by omega
      rw [List.take_length]
      obtain ⟨T, hTe⟩ : ∃ T, T = Bm.topB bs := ⟨_, rfl⟩
      have HTe := Lib.hid hTe
      rw [← hTe] at hT ⊢
      clear hTe
      go_wp2_with (at_make; refine wpList_make_full _ rfl _ _ 24 rfl w.heap.size 3 i0 (.int .i64 0) 1 Try.underlying24 hi hz0 hz1 .i64 .i64 _ _ T rfl rfl ?c1 ?c1 ?c2 ?c3 ?c4 ?_)
      case c1 => omega
      case c2 => first | omega | (rw [hz2]; omega)
      case c3 => unfold maxLen; omega
      try case c4 => exact Nat.le_refl _
      intro w1 hown1 hg1
      have hb1 := below_of_grown hg1
      have hr1 := row_of_ownI hown1
      rw [← Hg0.out] at hr1 ⊢
      have Hb1 := Lib.hid hb1
      rw [HTe.out, ← Bm.countsTo_zero] at hr1
      have Hr1 := Lib.hid hr1
      clear hown1 hg1 hb1 hr1 hi hz0 hz1 hz2
      go_wp2
      go_loopw [6] (fun i wr => ∃ k : Nat, k ≤ bs.length ∧ i = .int .i64 (k : Int) ∧ Hid (Row wr g0 3 (i64s (Bm.countsTo bs k))) ∧ Hid (Below w.heap.size w wr)) (fun i _ => bs.length - (intOf i).toNat)
      case atStart => exact ⟨0, by omega, rfl, Hr1, Hb1⟩
      case round =>
        obtain ⟨k, hk, rfl, hrow, hbel⟩ := hrel
        clear Hr1 Hb1
        by_cases hkl : k < bs.length
        · have hne : bs ≠ [] := by intro e; rw [e] at hkl; simp at hkl
          obtain ⟨g, off, rfl, hc⟩ := reads_u8 (reads_on Hr.out hbel.out) hne
          have c0 := hc k hkl
          have hb := Hlt.out bs[k] (List.getElem_mem hkl)
          have hbT : bs[k] < T := by rw [HTe.out]; exact Bm.topB_mem bs _ (List.getElem_mem hkl)
          have hcb : (bs.take k).count bs[k] ≤ bs.length := Nat.le_trans List.count_le_length (by rw [List.length_take]; omega)
          have hcell := hrow.out.cell bs[k]
          have hgt := Bm.countsTo_get bs k bs[k] (by rw [← HTe.out]; exact hbT)
          simp only [i64s, List.getElem?_map, hgt, Option.map_some] at hcell
          have hfree := hrow.out.free bs[k]
          have Hn := Lib.hid (Bm.countsTo_next bs k hkl)
          clear hc hgt
          generalize (bs.take k).count bs[k] = q at hcb hcell Hn
          generalize bs[k] = b at c0 hb hbT hcell hfree Hn
          go_wp2
          go_roundw
          case rel =>
            refine ⟨k + 1, by omega, by go_num, Lib.hid ?_, Lib.hid (hbel.out.setCell (by rw [Hg0.out]; exact Nat.le_refl _) _)⟩
            rw [Hn.out]
            have h1 := hrow.out.set_ b (.int .i64 ((q : Int) + 1))
            rw [show i64s ((Bm.countsTo bs k).set b (q + 1)) = (i64s (Bm.countsTo bs k)).set b (.int .i64 ((q : Int) + 1)) by simp [i64s, List.map_set]]
            exact h1
          case measure => simp [intOf]; omega
        · obtain rfl : k = bs.length := by omega
          rw [Bm.countsTo_all] at hrow
          go_wp2
          go_ret
          exact ⟨g0, congrArg (fun n => Ending.returned (Value.slice (some ⟨g0, 0, none⟩) n n)) HTe.out, by rw [Hg0.out]; exact Nat.le_refl _, hrow.out, hbel.out⟩
end Go.Proofs.Ytlfcgdgafkkdfaa
