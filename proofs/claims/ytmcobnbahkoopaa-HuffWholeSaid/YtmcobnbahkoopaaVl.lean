/-
  The program's layer 9 (huff), by its walk: unbounded, Best, Lengths over what bounded is to answer. Conditions: as each theorem's premises say.
-/
import Derived.Test.YtmcobnbahkoopaaVk
import Derived.Test.YtmcobnbahkoopaaVb
namespace Go.Proofs.Ytmcobnbahkoopaa
open Go.RowKit
namespace Bm
theorem posC_sum_le (cs : List Nat) (M : Nat) (h : ∀ x ∈ cs, x ≤ M) : (posC cs).sum ≤ M * cs.length := by
  have h1 : (posC cs).sum ≤ M * (posC cs).length := by
    have : ∀ L : List Nat, (∀ x ∈ L, x ≤ M) → L.sum ≤ M * L.length := fun L => by
      induction L with
      | nil => simp
      | cons a L ih =>
        intro hL
        have := ih (fun x hx => hL x (by simp [hx]))
        have := hL a (by simp)
        rw [List.sum_cons, List.length_cons, Nat.mul_succ]
        omega
    exact this _ (fun x hx => h x (posC_mem cs x hx).1)
  exact Nat.le_trans h1 (Nat.mul_le_mul_left M (posC_le cs))
theorem lvs_some (cs : List Nat) (h : ∃ x ∈ cs, 0 < x) : 1 ≤ (lvs cs).length := by
  have := posC_some cs h
  rw [← lvs_fst, List.length_map] at this
  exact this
end Bm
theorem field_node (x y : Value) (W : World) : (Instr.field 41 (.agg #[x, y]) 1).run Try.prog W = .ok y W := by kernel_rfl
set_option maxHeartbeats 1000000 in
set_option maxRecDepth 100000 in
theorem uunb_any (A : Option Addr) (c : Nat) (cs : List Nat) (w : World) (hl : cs.length ≤ 256) (hm : ∀ x ∈ cs, x ≤ 1048576) (hs : ∃ x ∈ cs, 0 < x) (hr : Reads w A (i64s cs)) :
    Calls Try.prog 22 #[.slice A cs.length c] w fun e w' => ∃ g ls, e = .returned (.slice (some ⟨g, 0, none⟩) cs.length cs.length) ∧ Reads w' (some ⟨g, 0, none⟩) (i64s ls) ∧ Bm.UnbN cs ls ∧ Below w.heap.size w w' := by
  obtain ⟨i0, hi, hz0, hz1, hz2⟩ := info_parts info_in
  have Hlv := Lib.hid (ulvs_any A c cs w hl hr)
  have hsum : (Bm.posC cs).sum ≤ 1000000000 := by
    have := Bm.posC_sum_le cs 1048576 hm
    omega
  have h1 := Bm.lvs_some cs hs
  have h1l : (Bm.lvs cs).length ≤ 256 := Nat.le_trans (Bm.lvsTo_len cs cs.length) hl
  clear hr hm hs
  go_enter Try.func22, Try.ntmps22
  go_wp2_with fail
  refine Hlv.out.mono ?_
  rintro e w1 ⟨p, L, rfl, hpm, hph, hb1⟩
  have hLl : L.length = (Bm.lvs cs).length := hpm.length_eq
  obtain ⟨v0, hc0, gP, capP, hv0⟩ : ∃ v, w1.cell? ⟨p, 0, none⟩ = some v ∧ ∃ g' cap', v = .slice (some ⟨g', 0, none⟩) L.length cap' := by
    obtain ⟨hh, g', cap', hpl⟩ := hph
    exact ⟨_, hpl.cell, g', cap', rfl⟩
  subst hv0
  have Hlen := Lib.hid (fun W => uplen_any (some ⟨gP, 0, none⟩) L.length capP W)
  have Hb1 := Lib.hid hb1
  have Hpm := Lib.hid hpm
  have Hph := Lib.hid hph
  have hs1 := hb1.size
  clear hb1 hpm hph Hlv
  by_cases hone : L.length = 1
  · obtain ⟨t, rfl⟩ := List.length_eq_one_iff.1 hone
    obtain ⟨cc, ii⟩ := t
    have hlv : Bm.lvs cs = [(cc, ii)] := List.perm_singleton.1 Hpm.out.symm
    have Hun := Lib.hid (Bm.unb_one hlv hl)
    have hii : ii < cs.length := ((Bm.lvsTo_mem cs cs.length (cc, ii)).1 (show (cc, ii) ∈ Bm.lvs cs by rw [hlv]; simp)).1
    clear hone hlv hLl
    simp only [List.length_cons, List.length_nil] at hc0 Hlen
    go_wp2_with fail
    refine (Hlen.out _).mono ?_
    rintro e w2 ⟨rfl, rfl⟩
    clear Hlen hc0
    go_wp2_with (at_make; refine wpList_make_full _ rfl _ _ 22 rfl w1.heap.size 3 i0 (.int .i64 0) 1 Try.underlying22 hi hz0 hz1 .i64 .i64 _ _ cs.length rfl rfl ?c1 ?c1 ?c2 ?c3 ?c4 ?_)
    case c1 => omega
    case c2 => first | omega | (rw [hz2]; omega)
    case c3 => unfold maxLen; omega
    try case c4 => exact Nat.le_refl _
    intro w2 hown1 hg1
    have hb2 := below_of_grown hg1
    have hrow2 := row_of_ownI hown1
    have hs2 : w1.heap.size < w2.heap.size := hrow2.lt
    have hph2 : PileH w2 w.heap.size p [(cc, ii)] := by
      obtain ⟨hh, g', cap', hpl⟩ := Hph.out
      exact ⟨hh, g', cap', hpl.below hb2⟩
    have Hli := Lib.hid (ulight_any w.heap.size p 0 [(cc, ii)] w2 (by omega) (by simp) rfl hph2)
    have Hb2 := Lib.hid (Hb1.out.trans (hb2.mono hs1))
    have Hrow2 := Lib.hid hrow2
    clear hown1 hg1 hb2 hrow2 hph2
    go_wp2_with fail
    refine Hli.out.mono ?_
    rintro e w3 ⟨rfl, L', _, _, _, hk3⟩
    have hrow3 := hk3.rows _ _ _ (by decide) (by decide) Hrow2.out
    have hcell : w3.cell? ⟨w1.heap.size, ii, none⟩ = some (.int .i64 0) := by
      rw [hrow3.cell, i64s_get? _ _ (by simpa using hii)]
      simp
    have hfree : w3.frozen? ⟨w1.heap.size, ii, none⟩ = false := hrow3.free ii
    have hrow4 : Row (w3.setCell ⟨w1.heap.size, ii, none⟩ (.int .i64 1)) w1.heap.size 3 (i64s ((List.replicate cs.length 0).set ii 1)) := by
      have h5 := hrow3.set_ ii (.int .i64 1)
      rw [show i64s ((List.replicate cs.length 0).set ii 1) = (i64s (List.replicate cs.length 0)).set ii (.int .i64 1) by simp only [i64s, List.map_set]; rfl]
      exact h5
    have Hrow4 := Lib.hid hrow4
    have Hb4 := Lib.hid ((Hb2.out.trans hk3.bel).setCell (p := ⟨w1.heap.size, ii, none⟩) (by exact hs1) (.int .i64 1))
    have hat : Bm.at2 [(cc, ii)] 0 = (cc, ii) := rfl
    rw [hat]
    clear hrow3 hrow4 hk3 Hli Hrow2 hat
    have hfld := fun W => field_node (.int .i64 (cc : Int)) (.int .i64 (ii : Int)) W
    go_wp2
    go_ret
    refine ⟨w1.heap.size, _, rfl, ?_, Hun.out, Hb4.out⟩
    intro _
    exact ⟨w1.heap.size, 0, rfl, fun j hj => by rw [Nat.zero_add]; exact Hrow4.out.cell j⟩
  · have h2 : 2 ≤ L.length := by omega
    have Hjo := Lib.hid (ujoin_any w.heap.size p cs L w1 hs1 hl hsum Hpm.out h2 Hph.out)
    have h2l : 2 ≤ (Bm.lvs cs).length := by omega
    have hne : ((L.length : Int) == 1) = false := by rw [beq_eq_false_iff_ne]; omega
    clear hLl
    go_wp2_with fail
    refine (Hlen.out _).mono ?_
    rintro e w2 ⟨rfl, rfl⟩
    clear Hlen hc0
    go_wp2_with fail
    refine Hjo.out.mono ?_
    rintro e w2 ⟨g, bs, cap, t, C, rfl, hrd, hjn, hbs, hb2⟩
    have hlA := hjn.len
    have Hde := Lib.hid (udepth_any (some ⟨g, 0, none⟩) cap bs w2 (by omega) hjn.above hrd)
    have Hjn := Lib.hid hjn
    have Hb2 := Lib.hid (Hb1.out.trans hb2)
    clear hrd hjn hb2 Hjo
    go_wp2_with fail
    refine Hde.out.mono ?_
    rintro e w3 ⟨g3, ls, rfl, hrow3, hdn, hg3, hb3⟩
    have Hun := Lib.hid (Bm.join_end Hjn.out hdn h2l hl hbs)
    have hll := hdn.len
    have hrd3 : Reads w3 (some ⟨g3, 0, none⟩) (i64s (ls.take cs.length)) := fun _ => ⟨g3, 0, rfl, fun j hj => by
      rw [i64s_length, List.length_take] at hj
      rw [Nat.zero_add, hrow3.cell, i64s_get? ls j (by omega), i64s_get? (ls.take cs.length) j (by rw [List.length_take]; exact hj), List.getElem_take]⟩
    have Hrd3 := Lib.hid hrd3
    have Hb3 := Lib.hid (Hb2.out.trans (hb3.mono Hb2.out.size))
    clear hrow3 hdn hb3 hrd3 hll Hde
    go_wp2
    go_ret
    exact ⟨g3, _, rfl, Hrd3.out, Hun.out, Hb3.out⟩
end Go.Proofs.Ytmcobnbahkoopaa
