/-
  The program's layer 9 (huff), by its walk: leaves, depths. Conditions: as each theorem's premises say.
-/
import Derived.Test.YtmcobnbahkoopaaVh
import Derived.Test.YtmcobnbahkoopaaVi
namespace Go.Proofs.Ytmcobnbahkoopaa
open Go.RowKit
set_option maxHeartbeats 1000000 in
set_option maxRecDepth 100000 in
theorem ulvs_any (A : Option Addr) (c : Nat) (cs : List Nat) (w : World) (hl : cs.length ≤ 256) (hr : Reads w A (i64s cs)) :
    Calls Try.prog 29 #[.slice A cs.length c] w fun e w' => ∃ p L, e = .returned (.pointer (some ⟨p, 0, none⟩)) ∧ L.Perm (Bm.lvs cs) ∧ PileH w' w.heap.size p L ∧ Below w.heap.size w w' := by
  have Hr := Lib.hid hr
  clear hr
  go_enter Try.func29, Try.ntmps29
  go_wp2
  go_loopw [10] (fun iv wr => ∃ k : Nat, k ≤ cs.length ∧ iv = .int .i64 (k : Int) ∧ Hid (∃ L, L.Perm (Bm.lvsTo cs k) ∧ PileH wr w.heap.size (w.heap.size + 1) L) ∧ Hid (Below w.heap.size w wr)) (fun iv _ => cs.length - (intOf iv).toNat)
  case atStart =>
    have hb1 := (Below.refl w.heap.size w).alloc (Nat.le_refl _) (.cells #[] 41)
    have hb2 := hb1.alloc hb1.size (.cells #[.slice (some ⟨w.heap.size, 0, none⟩) 0 0] 51)
    have r1 := (Row.new w 41 []).alloc (.cells #[.slice (some ⟨w.heap.size, 0, none⟩) 0 0] 51)
    have r2 := Row.new (w.alloc (.cells #[] 41)) 51 [.slice (some ⟨w.heap.size, 0, none⟩) 0 0]
    rw [show (w.alloc (.cells #[] 41)).heap.size = w.heap.size + 1 by simp] at r2
    exact ⟨0, by omega, rfl, Lib.hid ⟨[], by simp [Bm.lvsTo], fun k h0 hk => by simp at hk, w.heap.size, 0, ⟨by omega, by omega, by simp, by unfold maxLen; omega, r2, [], rfl, r1⟩⟩, Lib.hid hb2⟩
  case round =>
    obtain ⟨k, hk, rfl, hpl, hbel⟩ := hrel
    by_cases hkl : k < cs.length
    · obtain ⟨g, off, rfl, hc⟩ := reads_i9 (reads_on Hr.out hbel.out) (by omega)
      have c0 := hc k hkl
      have Hst := Lib.hid (Bm.lvsTo_succ cs k)
      rw [List.getElem?_eq_getElem hkl, Option.getD_some] at Hst
      have hln := Bm.lvsTo_len cs k
      clear hc
      generalize cs[k] = x at *
      by_cases hx : 0 < x
      · rw [if_pos hx] at Hst
        have hpush : Calls Try.prog 38 #[.iface 37 (.pointer (some ⟨w.heap.size + 1, 0, none⟩)), .iface 41 (.agg #[.int .i64 (x : Int), .int .i64 (k : Int)])] wr fun e w' => e = .returned (.tuple #[]) ∧ Hid (∃ L, L.Perm (Bm.lvsTo cs (k + 1)) ∧ PileH w' w.heap.size (w.heap.size + 1) L) ∧ Hid (Below w.heap.size w w') := by
          obtain ⟨L, hpm, hph⟩ := hpl.out
          refine (hppush_any w.heap.size (w.heap.size + 1) x k L wr hbel.out.size (by rw [hpm.length_eq]; omega) hph).mono ?_
          rintro e w' ⟨rfl, L', hpm', hph', hk'⟩
          refine ⟨rfl, Lib.hid ⟨L', hpm'.trans ?_, hph'⟩, Lib.hid (hbel.out.trans hk'.bel)⟩
          rw [Hst.out]
          exact (hpm.cons _).trans (List.perm_append_singleton _ _).symm
        have Hpush := Lib.hid hpush
        clear hpush hpl hbel
        go_wp2_with fail
        refine Hpush.out.mono ?_
        rintro e w' ⟨rfl, hpl', hbel'⟩
        go_wp2
        go_roundw
        case rel => exact ⟨k + 1, by omega, by go_num, hpl', hbel'⟩
        case measure => simp [intOf]; omega
      · rw [if_neg hx, List.append_nil] at Hst
        go_wp2
        go_roundw
        case rel => exact ⟨k + 1, by omega, by go_num, by rw [Hst.out]; exact hpl, hbel⟩
        case measure => simp [intOf]; omega
    · obtain rfl : k = cs.length := by omega
      go_wp2
      go_ret
      obtain ⟨L, hpm, hph⟩ := hpl.out
      exact ⟨_, L, rfl, hpm, hph, hbel.out⟩
namespace Bm
/-- What depths has made of the places from k on. -/
structure DepthTo (A ls : List Nat) (k : Nat) : Prop where
  len : ls.length = A.length
  low : ∀ i, i < k → nat1 ls i = 0
  none : ∀ i, k ≤ i → i < A.length → nat1 A i = 0 → nat1 ls i = 0
  some : ∀ i, k ≤ i → i < A.length → nat1 A i ≠ 0 → nat1 ls i = nat1 ls (nat1 A i) + 1
  most : ∀ i, i < A.length → nat1 ls i ≤ A.length - i
theorem depth_start (A : List Nat) : DepthTo A (List.replicate A.length 0) A.length where
  len := by simp
  low := fun i _ => rep_zero _ _
  none := fun i _ _ _ => rep_zero _ _
  some := fun i h1 h2 _ => by omega
  most := fun i _ => by rw [rep_zero]; omega
theorem depth_all {A ls : List Nat} (h : DepthTo A ls 0) : DepthN A ls := ⟨h.len, fun i hi => h.none i (by omega) hi, fun i hi => h.some i (by omega) hi, h.most⟩
theorem depth_skip {A ls : List Nat} {k : Nat} (h : DepthTo A ls (k + 1)) (h0 : nat1 A k = 0) : DepthTo A ls k :=
  ⟨h.len, fun i hi => h.low i (by omega), fun i h1 h2 h3 => by
    by_cases e : i = k
    · subst e; exact h.low i (by omega)
    · exact h.none i (by omega) h2 h3, fun i h1 h2 h3 => by
    by_cases e : i = k
    · subst e; exact absurd h0 h3
    · exact h.some i (by omega) h2 h3, h.most⟩
theorem depth_step {A ls : List Nat} {k : Nat} (hA : ∀ i, i < A.length → nat1 A i ≠ 0 → i < nat1 A i ∧ nat1 A i < A.length) (hk : k < A.length) (h : DepthTo A ls (k + 1)) (h0 : nat1 A k ≠ 0) : DepthTo A (ls.set k (nat1 ls (nat1 A k) + 1)) k := by
  have hs : ∀ i, nat1 (ls.set k (nat1 ls (nat1 A k) + 1)) i = if i = k then nat1 ls (nat1 A k) + 1 else nat1 ls i := fun i => by
    unfold nat1
    rw [List.getElem?_set]
    by_cases e : k = i
    · subst e
      rw [if_pos rfl, if_pos (by rw [h.len]; exact hk), if_pos rfl, Option.getD_some]
    · rw [if_neg e, if_neg (fun h => e h.symm)]
  have hAk := hA k hk h0
  refine ⟨by rw [List.length_set, h.len], fun i hi => ?_, fun i h1 h2 h3 => ?_, fun i h1 h2 h3 => ?_, fun i hi => ?_⟩
  · rw [hs, if_neg (by omega)]; exact h.low i (by omega)
  · rw [hs]
    by_cases e : i = k
    · subst e; exact absurd h3 h0
    · rw [if_neg e]; exact h.none i (by omega) h2 h3
  · have h4 := hA i h2 h3
    rw [hs, hs, if_neg (show ¬ nat1 A i = k by omega)]
    by_cases e : i = k
    · subst e; rw [if_pos rfl]
    · rw [if_neg e]; exact h.some i (by omega) h2 h3
  · rw [hs]
    split
    · next e =>
      subst e
      have := h.most (nat1 A i) hAk.2
      omega
    · exact h.most i hi
end Bm
set_option maxHeartbeats 1000000 in
set_option maxRecDepth 100000 in
theorem udepth_any (A : Option Addr) (c : Nat) (bs : List Nat) (w : World) (hl : bs.length ≤ 100000) (hA : ∀ i, i < bs.length → Bm.nat1 bs i ≠ 0 → i < Bm.nat1 bs i ∧ Bm.nat1 bs i < bs.length) (hr : Reads w A (i64s bs)) :
    Calls Try.prog 32 #[.slice A bs.length c] w fun e w' => ∃ g ls, e = .returned (.slice (some ⟨g, 0, none⟩) bs.length bs.length) ∧ Row w' g 3 (i64s ls) ∧ Bm.DepthN bs ls ∧ w.heap.size ≤ g ∧ Below w.heap.size w w' := by
  obtain ⟨i0, hi, hz0, hz1, hz2⟩ := info_parts info_in
  have Hr := Lib.hid hr
  have HA := Lib.hid hA
  clear hr hA
  obtain ⟨g0, hg0⟩ : ∃ g, g = w.heap.size := ⟨_, rfl⟩
  have Hg0 := Lib.hid hg0
  clear hg0
  go_enter Try.func32, Try.ntmps32
  go_wp2_with (at_make; refine wpList_make_full _ rfl _ _ 22 rfl w.heap.size 3 i0 (.int .i64 0) 1 Try.underlying22 hi hz0 hz1 .i64 .i64 _ _ bs.length rfl rfl ?c1 ?c1 ?c2 ?c3 ?c4 ?_)
  case c1 => omega
  case c2 => first | omega | (rw [hz2]; omega)
  case c3 => unfold maxLen; omega
  try case c4 => exact Nat.le_refl _
  intro w1 hown1 hg1
  have hb1 := below_of_grown hg1
  have hr1 := row_of_ownI hown1
  rw [← Hg0.out] at hr1 ⊢
  have Hb1 := Lib.hid hb1
  have Hr1 := Lib.hid hr1
  have Hd1 := Lib.hid (Bm.depth_start bs)
  clear hown1 hg1 hb1 hr1 hi hz0 hz1 hz2
  go_wp2
  go_loopw [4] (fun iv wr => ∃ (k : Nat) (ls : List Nat), k ≤ bs.length ∧ iv = .int .i64 ((k : Int) - 1) ∧ Hid (Bm.DepthTo bs ls k) ∧ Hid (Row wr g0 3 (i64s ls)) ∧ Hid (Below w.heap.size w wr)) (fun iv _ => (intOf iv + 1).toNat)
  case atStart => exact ⟨bs.length, _, by omega, by go_num, Hd1, Hr1, Hb1⟩
  case round =>
    obtain ⟨k, ls, hk, rfl, hd, hrow, hbel⟩ := hrel
    clear Hr1 Hb1 Hd1
    by_cases h0 : 0 < k
    · obtain ⟨j, rfl⟩ : ∃ j, k = j + 1 := ⟨k - 1, by omega⟩
      have hjl : j < bs.length := by omega
      obtain ⟨g, off, rfl, hc⟩ := reads_i9 (reads_on Hr.out hbel.out) (by omega)
      have c0 := hc j hjl
      have hgj : Bm.nat1 bs j = bs[j] := by unfold Bm.nat1; rw [List.getElem?_eq_getElem hjl, Option.getD_some]
      have Haj := Lib.hid (HA.out j hjl)
      have Hsk := Lib.hid (Bm.depth_skip hd.out)
      have Hst := Lib.hid (Bm.depth_step HA.out hjl hd.out)
      rw [hgj] at Haj Hsk Hst
      clear hc
      have hll : ls.length = bs.length := hd.out.len
      have hmost := fun (h : bs[j] < bs.length) => hd.out.most bs[j] h
      have Hmost := Lib.hid hmost
      clear hmost hgj
      generalize bs[j] = x at *
      rw [show ((j + 1 : Nat) : Int) - 1 = (j : Int) by omega]
      by_cases hx : x = 0
      · subst hx
        have Hs2 := Lib.hid (Hsk.out rfl)
        clear Hst Haj Hmost
        go_wp2
        go_roundw
        case rel => exact ⟨j, ls, by omega, by go_num, Hs2, hrow, hbel⟩
        case measure => simp [intOf]
      · obtain ⟨a1, a2⟩ := Haj.out hx
        have hm := Hmost.out a2
        have Hs2 := Lib.hid (Hst.out hx)
        have hxl : x < ls.length := by omega
        have k0 : wr.cell? ⟨g0, x, none⟩ = some (.int .i64 (Bm.nat1 ls x : Int)) := by
          unfold Bm.nat1
          rw [hrow.out.cell, i64s_get? ls x hxl, List.getElem?_eq_getElem hxl, Option.getD_some]
        have k1 : wr.cell? ⟨g0, j, none⟩ = some (.int .i64 (ls[j]'(by omega) : Int)) := by
          rw [hrow.out.cell, i64s_get? ls j (by omega)]
        have f1 : wr.frozen? ⟨g0, j, none⟩ = false := hrow.out.free j
        have hrow2 : Row (wr.setCell ⟨g0, j, none⟩ (.int .i64 ((Bm.nat1 ls x : Int) + 1))) g0 3 (i64s (ls.set j (Bm.nat1 ls x + 1))) := by
          have h1 := hrow.out.set_ j (.int .i64 ((Bm.nat1 ls x : Int) + 1))
          rw [show i64s (ls.set j (Bm.nat1 ls x + 1)) = (i64s ls).set j (.int .i64 ((Bm.nat1 ls x : Int) + 1)) by simp [i64s, List.map_set]]
          exact h1
        have Hrow2 := Lib.hid hrow2
        have Hbel2 := Lib.hid (hbel.out.setCell (p := ⟨g0, j, none⟩) (by rw [Hg0.out]; exact Nat.le_refl _) (.int .i64 ((Bm.nat1 ls x : Int) + 1)))
        clear hrow2 Hsk Hst Haj Hmost hrow hbel
        have hx0 : 0 < x := by omega
        clear hx
        generalize Bm.nat1 ls x = y at *
        generalize ls[j]'(by omega) = z at k1
        go_wp2
        go_roundw
        case rel => exact ⟨j, _, by omega, by go_num, Hs2, Hrow2, Hbel2⟩
        case measure => simp [intOf]
    · obtain rfl : k = 0 := by omega
      have Hd2 := Lib.hid (Bm.depth_all hd.out)
      go_wp2
      go_ret
      exact ⟨g0, ls, rfl, hrow.out, Hd2.out, by rw [Hg0.out]; exact Nat.le_refl _, hbel.out⟩
end Go.Proofs.Ytmcobnbahkoopaa
