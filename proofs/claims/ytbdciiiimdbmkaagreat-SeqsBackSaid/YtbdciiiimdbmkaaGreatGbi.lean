/-
  The program's layer 6 (spread), by its walk: Build. Conditions: as each theorem's premises say.
  Layer 6 (spread): what the program's calls answer is what the laws' walks, and later layers, ask for. No condition.
-/
import Derived.Test.YtbdciiiimdbmkaaGreatGaq
import Derived.Test.YtbdciiiimdbmkaaGreatGbh
import Derived.Test.YtbdciiiimdbmkaaGreatGap
import Derived.Laws.MakeOwn
import Derived.Deep.DeepCutAuto
import Derived.Deep.AppendLies
import Derived.Deep.RegionHeld3
import Derived.RegionTactic
import Derived.Deep.RegionLaw
import Derived.Deep.DrawnRows
namespace Go.Proofs.YtbdciiiimdbmkaaGreat
open Go.RowKit
namespace Bm
/-- The cells behind k states. -/
def cellsTo (ls : List Nat) (log k : Nat) : List Cel := (List.range (2 ^ log)).map fun p => if p < k then (symAt ls log p, bitsAt ls log p, baseAt ls log p) else (0, 0, 0)
theorem cellsTo_length (ls : List Nat) (log k : Nat) : (cellsTo ls log k).length = 2 ^ log := by simp [cellsTo]
theorem cellsTo_zero (ls : List Nat) (log : Nat) : cellsTo ls log 0 = List.replicate (2 ^ log) (0, 0, 0) := by
  unfold cellsTo
  simp only [Nat.not_lt_zero, if_false]
  rw [List.map_const', List.length_range]
theorem cellsTo_next (ls : List Nat) (log k : Nat) : cellsTo ls log (k + 1) = (cellsTo ls log k).set k (symAt ls log k, bitsAt ls log k, baseAt ls log k) := by
  apply List.ext_getElem
  · simp [cellsTo_length]
  · intro p h1 h2
    rw [List.getElem_set]
    simp only [cellsTo, List.getElem_map, List.getElem_range]
    by_cases e : k = p
    · subst e
      rw [if_pos rfl, if_pos (by omega)]
    · rw [if_neg e]
      by_cases h : p < k
      · rw [if_pos h, if_pos (by omega)]
      · rw [if_neg h, if_neg (by omega)]
theorem cellsTo_all (ls : List Nat) (log : Nat) : cellsTo ls log (2 ^ log) = cellsM ls log := by
  unfold cellsTo cellsM
  apply List.map_congr_left
  intro p hp
  rw [if_pos (List.mem_range.1 hp)]
theorem cellsTo_at (ls : List Nat) (log k : Nat) (h : k < (cellsTo ls log k).length) : (cellsTo ls log k)[k] = (0, 0, 0) := by
  simp only [cellsTo, List.getElem_map, List.getElem_range]
  rw [if_neg (by omega)]
end Bm
theorem c3_three (l : List Cel) (i s B Z : Nat) (h : i < l.length) (hl : l[i] = (0, 0, 0)) : (((c3 l).set (i * 3) (.int .u8 (s : Int))).set (i * 3 + 1) (.int .i64 (B : Int))).set (i * 3 + 2) (.int .i64 (Z : Int)) = c3 (l.set i (s, B, Z)) := by
  have h1 := (c3_set l i h s 0 0).1
  rw [hl] at h1
  rw [h1]
  have hl2 : i < (l.set i (s, 0, 0)).length := by simpa using h
  have h2 := c3_two (l.set i (s, 0, 0)) i s B Z hl2 (by rw [List.getElem_set_self])
  rw [List.set_set] at h2
  exact h2
theorem info_is : (Tryz.prog.info? 57).map (fun i => (i.zero, i.size, i.bytes)) = some (some (.slice none 0 0), 1, 24) := by kernel_rfl
theorem make_cells (n : Nat) (h : n ≤ 1000000) (W : World) : (Instr.makeSlice 117 (.int .i64 (n : Int)) (.int .i64 (n : Int))).run Tryz.prog W = .ok (.slice (some ⟨W.heap.size, 0, none⟩) n n) (W.alloc (.cells (c3 (List.replicate n (0, 0, 0))).toArray 144)) := by
  obtain ⟨i0, hi, hz0, hz1, hz2⟩ := info_parts info_cell
  have h1 := run_make (P := Tryz.prog) W 117 144 i0 _ Tryz.underlying117 hi hz0 .i64 .i64 (n : Int) (n : Int) (by omega) (by omega) (by rw [hz2]; omega) (by omega)
  rw [Int.toNat_natCast, hz1, show (Value.agg #[.int .u8 0, .int .i64 0, .int .i64 0]).cells = #[.int .u8 0, .int .i64 0, .int .i64 0] from rfl] at h1
  rw [h1, ← made_c3, Array.toArray_toList]
theorem make_states (n : Nat) (h : n ≤ 1000000) (W : World) : (Instr.makeSlice 153 (.int .i64 (n : Int)) (.int .i64 (n : Int))).run Tryz.prog W = .ok (.slice (some ⟨W.heap.size, 0, none⟩) n n) (W.alloc (.cells (List.replicate n (.slice none 0 0)).toArray 57)) := by
  obtain ⟨i0, hi, hz0, hz1, hz2⟩ := info_parts info_is
  have h1 := run_make (P := Tryz.prog) W 153 57 i0 _ Tryz.underlying153 hi hz0 .i64 .i64 (n : Int) (n : Int) (by omega) (by omega) (by rw [hz2]; omega) (by omega)
  rw [Int.toNat_natCast, hz1, show (Value.slice none 0 0).cells = #[.slice none 0 0] from rfl, Nat.mul_one] at h1
  rw [h1, ← toList_madeCells_one, Array.toArray_toList]
theorem tbuild_no (A : Option Addr) (c : Nat) (l : List Int) (log : Int) (w : World) (hl : l.length ≤ 1000000) (hok : ∀ x ∈ l, Bm.IntOk x) (hlog : Bm.IntOk log) (hr : Reads w A (i64z l)) (hf : ¬ Bm.Fair l log) :
    Calls Tryz.prog 88 #[.slice A l.length c, .int .i64 log] w fun e w' => e = .returned (.tuple #[.pointer none, .bool false]) ∧ Below w.heap.size w w' := by
  have h1 := nfair_any A c l log w hl hok hlog hr
  rw [show Bm.fairB l log = false from decide_eq_false hf] at h1
  have H1 := Lib.hid h1
  clear h1 hok hlog hr hf
  go_enter Tryz.func88, Tryz.ntmps88
  go_wp2_with fail
  refine H1.out.mono ?_
  rintro e w1 ⟨rfl, hb⟩
  go_wp2
  go_ret2
  exact ⟨rfl, hb⟩
theorem three_rows (w1 : World) (t1 t2 t3 : TypeId) (l1 l2 l3 : List Value) :
    Row (((w1.alloc (.cells l1.toArray t1)).alloc (.cells l2.toArray t2)).alloc (.cells l3.toArray t3)).drew w1.heap.size t1 l1 ∧
    Row (((w1.alloc (.cells l1.toArray t1)).alloc (.cells l2.toArray t2)).alloc (.cells l3.toArray t3)).drew (w1.heap.size + 1) t2 l2 ∧
    Row (((w1.alloc (.cells l1.toArray t1)).alloc (.cells l2.toArray t2)).alloc (.cells l3.toArray t3)).drew (w1.heap.size + 1 + 1) t3 l3 ∧
    ∀ w : World, Below w.heap.size w w1 → Below w.heap.size w (((w1.alloc (.cells l1.toArray t1)).alloc (.cells l2.toArray t2)).alloc (.cells l3.toArray t3)).drew := by
  have r1 := Row.new w1 t1 l1
  have r2 := Row.new (w1.alloc (.cells l1.toArray t1)) t2 l2
  have r3 := Row.new ((w1.alloc (.cells l1.toArray t1)).alloc (.cells l2.toArray t2)) t3 l3
  have e1 : (w1.alloc (.cells l1.toArray t1)).heap.size = w1.heap.size + 1 := by simp
  have e2 : ((w1.alloc (.cells l1.toArray t1)).alloc (.cells l2.toArray t2)).heap.size = w1.heap.size + 1 + 1 := by simp
  rw [e1] at r2
  rw [e2] at r3
  refine ⟨(r1.alloc _).alloc _, r2.alloc _, r3, fun w h => ?_⟩
  have hs := h.size
  exact (((h.alloc hs _).alloc (by rw [e1]; omega) _).alloc (by rw [e2]; omega) _).drew
/-- What Build keeps behind kc states' cells, and kf states among their symbol's. -/
structure Bld (w W : World) (ls : List Nat) (log kc kf b gc gs gt : Nat) (vs : List Value) : Prop where
  tab : Row W b 155 [.int .i64 (log : Int), .slice (some ⟨gc, 0, none⟩) (2 ^ log) (2 ^ log), .slice (some ⟨gs, 0, none⟩) ls.length ls.length]
  syms : Row W gt 5 (u8s (Bm.tab ls log))
  cells : Row W gc 144 (c3 (Bm.cellsTo ls log kc))
  rows : Row W gs 57 vs
  len : vs.length = ls.length
  fam : Fam W w.heap.size vs (Bm.statesTo ls log kf)
  low : w.heap.size ≤ b ∧ w.heap.size ≤ gc ∧ w.heap.size ≤ gs
  bel : Below w.heap.size w W
theorem cell_three {W : World} {b c i x y z : Nat} {v0 v1 v2 u : Value} (h : b ≠ c) (hc : W.cell? ⟨b, i, none⟩ = some u) :
    (((W.setCell ⟨c, x, none⟩ v0).setCell ⟨c, y, none⟩ v1).setCell ⟨c, z, none⟩ v2).cell? ⟨b, i, none⟩ = some u := by
  have h0 : ∀ j, (⟨c, j, none⟩ : Addr) ≠ ⟨b, i, none⟩ := fun j e => h (by injection e with e; exact e.symm)
  rw [World.cell?_setCell_other _ _ _ _ (h0 z), World.cell?_setCell_other _ _ _ _ (h0 y), World.cell?_setCell_other _ _ _ _ (h0 x), hc]
theorem row_ne {w : World} {g g' : Nat} {t t' : TypeId} {cs cs' : List Value} (h : Row w g t cs) (h' : Row w g' t' cs') (hne : t ≠ t') : g ≠ g' := by
  rintro rfl
  unfold Row at h h'
  rw [h] at h'
  injection h' with h'
  injection h' with _ e
  exact hne e
section
variable {w W : World} {ls : List Nat} {log kc k b gc gs gt : Nat} {vs : List Value}
theorem Bld.drewN (h : Bld w W ls log kc k b gc gs gt vs) (n : Nat) : Bld w (W.drewN n) ls log kc k b gc gs gt vs := ⟨h.tab, h.syms, h.cells, h.rows, h.len, ⟨h.fam.own, h.fam.apart⟩, h.low, below_drewN h.bel n⟩
theorem Bld.below {W' : World} (h : Bld w W ls log kc k b gc gs gt vs) (hb : Below W.heap.size W W') : Bld w W' ls log kc k b gc gs gt vs :=
  ⟨row_below h.tab hb, row_below h.syms hb, row_below h.cells hb, row_below h.rows hb, h.len, h.fam.below hb, h.low, h.bel.trans (hb.mono h.bel.size)⟩
theorem Bld.push (h : Bld w W ls log kc k b gc gs gt vs) {sy : Nat} {v : Value} {r gN cap : Nat} {wN : World} (hsy : sy = Bm.symAt ls log k) (hv : vs[sy]? = some v) (hr : r = (Bm.statesTo ls log k (Bm.symAt ls log k)).length)
    (hown : wN.ownsRow w.heap.size 3 1 (.slice (some ⟨gN, 0, none⟩) (r + 1) cap) (r + 1) (i64s (Bm.statesTo ls log k sy) ++ [.int .i64 (k : Int)])) (hg : W.grownBy wN v.ownBlock) (hat : v.ownBlock = some gN ∨ gN = W.heap.size) :
    Bld w (wN.setCell ⟨gs, sy, none⟩ (.slice (some ⟨gN, 0, none⟩) (r + 1) cap)) ls log kc (k + 1) b gc gs gt (vs.set sy (.slice (some ⟨gN, 0, none⟩) (r + 1) cap)) := by
  subst hsy
  have hk : ∀ {g : Nat} {t : TypeId} {cs : List Value}, Row W g t cs → t ≠ 3 → Row wN g t cs := fun {g t cs} hrow hne =>
    hrow.keep (hg.block g hrow.lt (fun e => h.fam.notT hrow hne _ v hv e.symm))
  have r1 := hk h.tab (by decide)
  have r2 := hk h.syms (by decide)
  have r3 := hk h.cells (by decide)
  have r4 := hk h.rows (by decide)
  have e := Bm.states_same ls log k
  have hf : Fam wN w.heap.size (vs.set (Bm.symAt ls log k) (.slice (some ⟨gN, 0, none⟩) (r + 1) cap)) (Bm.statesTo ls log (k + 1)) :=
    h.fam.push hv hg hat (by rw [e]; simpa [i64s] using hown) (by rw [e, List.length_append, ← hr]; rfl) (fun t ht => Bm.states_other ls log k t (Ne.symm ht))
  have hlow := h.low
  exact ⟨r1.far (row_ne r1 r4 (by decide)) _, r2.far (row_ne r2 r4 (by decide)) _, r3.far (row_ne r3 r4 (by decide)) _, r4.set_ _ _, by rw [List.length_set]; exact h.len,
    hf.far (hf.notT r4 (by decide)) _, h.low, (h.bel.grown hg h.bel.size (fun q hq => ((h.fam.own _ v hv).lt q hq).1)).setCell (by exact hlow.2.2) _⟩
theorem Bld.cell (h : Bld w W ls log k (k + 1) b gc gs gt vs) (hk : k < 2 ^ log) :
    Bld w (((W.setCell ⟨gc, k * 3, none⟩ (.int .u8 (Bm.symAt ls log k : Int))).setCell ⟨gc, k * 3 + 1, none⟩ (.int .i64 (Bm.bitsAt ls log k : Int))).setCell ⟨gc, k * 3 + 2, none⟩ (.int .i64 (Bm.baseAt ls log k : Int))) ls log (k + 1) (k + 1) b gc gs gt vs := by
  have hl : k < (Bm.cellsTo ls log k).length := by rw [Bm.cellsTo_length]; exact hk
  have e := c3_three (Bm.cellsTo ls log k) k (Bm.symAt ls log k) (Bm.bitsAt ls log k) (Bm.baseAt ls log k) hl (Bm.cellsTo_at ls log k hl)
  rw [← Bm.cellsTo_next] at e
  have hlow := h.low
  have n1 := row_ne h.tab h.cells (by decide)
  have n2 := row_ne h.syms h.cells (by decide)
  have n4 := row_ne h.rows h.cells (by decide)
  have r3 := ((h.cells.set_ (k * 3) (.int .u8 (Bm.symAt ls log k : Int))).set_ (k * 3 + 1) (.int .i64 (Bm.bitsAt ls log k : Int))).set_ (k * 3 + 2) (.int .i64 (Bm.baseAt ls log k : Int))
  rw [e] at r3
  have hn := h.fam.notT h.cells (by decide)
  exact ⟨((h.tab.far n1 _).far n1 _).far n1 _, ((h.syms.far n2 _).far n2 _).far n2 _, r3, ((h.rows.far n4 _).far n4 _).far n4 _, h.len, ((h.fam.far hn _).far hn _).far hn _, h.low, ((h.bel.setCell (by exact hlow.2.1) _).setCell (by exact hlow.2.1) _).setCell (by exact hlow.2.1) _⟩
end

set_option maxHeartbeats 4000000 in
set_option maxRecDepth 100000 in
theorem tbuild_fair (A : Option Addr) (c : Nat) (ls : List Nat) (log : Nat) (w : World) (hf : Bm.FairN ls log) (hr : Reads w A (i64s ls))
    (hfair : Calls Tryz.prog 103 #[.slice A ls.length c, .int .i64 (log : Int)] w fun e w' => e = .returned (.bool true) ∧ Below w.heap.size w w') :
    Calls Tryz.prog 88 #[.slice A ls.length c, .int .i64 (log : Int)] w fun e w' => ∃ p, e = .returned (.tuple #[.pointer (some p), .bool true]) ∧ STab w' p ls log ∧ Below w.heap.size w w' := by
  have Hf := Lib.hid hf
  have Hr := Lib.hid hr
  have Hfair := Lib.hid hfair
  have hP := pow_fair log hf.low hf.high
  have hl5 := hf.low
  have hl9 := hf.high
  have hlen := hf.len
  have hsp : ∀ W, Below w.heap.size w W → Calls Tryz.prog 105 #[.slice A ls.length c, .int .i64 ((2 ^ log : Nat) : Int)] W fun e w' => ∃ g, e = .returned (.slice (some ⟨g, 0, none⟩) (2 ^ log) (2 ^ log)) ∧ W.heap.size ≤ g ∧ Row w' g 5 (u8s (Bm.tab ls log)) ∧ Below W.heap.size W w' := fun W hb => tspread_any A c ls log W hf (reads_on hr hb)
  have Hsp := Lib.hid hsp
  have hpd : (2 : Int) ^ log = ((2 ^ log : Nat) : Int) := by simp
  clear hf hr hfair hsp
  obtain ⟨S, hS⟩ : ∃ S, S = 2 ^ log := ⟨_, rfl⟩
  rw [← hS] at hP hpd Hsp
  have HS := Lib.hid hS
  clear hS
  have hw : wrap64 (S : Int) = (S : Int) := wrap_in _ (by omega) (by omega)
  go_enter Tryz.func88, Tryz.ntmps88
  go_wp2_with fail
  refine Hfair.out.mono ?_
  rintro e w1 ⟨rfl, hb1⟩
  have Hb1 := Lib.hid hb1
  clear hb1 Hfair
  go_upto_region 4 with fail
  clear hpd hw
  go_cut [7] (fun s7 wx => ∃ b gc gs, s7 = .pointer (some ⟨b, 0, none⟩) ∧ w.heap.size ≤ b ∧ w.heap.size ≤ gc ∧ w.heap.size ≤ gs ∧ Row wx b 155 [.int .i64 (log : Int), .slice (some ⟨gc, 0, none⟩) S S, .slice (some ⟨gs, 0, none⟩) ls.length ls.length] ∧
    Row wx gc 144 (c3 (List.replicate S (0, 0, 0))) ∧ Row wx gs 57 (List.replicate ls.length (.slice none 0 0)) ∧ Below w.heap.size w wx)
  case first =>
    have hm1 := fun W => make_cells S (by omega) W
    have hm2 := fun W => make_states ls.length (by omega) W
    have hz1 := Hb1.out.size
    go_region
    all_goals
      go_wp2_with fail
      go_meet
      simp only [← List.toArray_replicate]
    · obtain ⟨r1, r2, r3, r4⟩ := three_rows w1 144 57 155 (c3 (List.replicate S (0, 0, 0))) (List.replicate ls.length (.slice none 0 0)) [.int .i64 (log : Int), .slice (some ⟨w1.heap.size, 0, none⟩) S S, .slice (some ⟨w1.heap.size + 1, 0, none⟩) ls.length ls.length]
      exact ⟨_, _, _, rfl, by omega, by omega, by omega, r3, r1, r2, r4 w Hb1.out⟩
    · obtain ⟨r1, r2, r3, r4⟩ := three_rows w1 57 144 155 (List.replicate ls.length (.slice none 0 0)) (c3 (List.replicate S (0, 0, 0))) [.int .i64 (log : Int), .slice (some ⟨w1.heap.size + 1, 0, none⟩) S S, .slice (some ⟨w1.heap.size, 0, none⟩) ls.length ls.length]
      exact ⟨_, _, _, rfl, by omega, by omega, by omega, r3, r2, r1, r4 w Hb1.out⟩
  case rest =>
    obtain ⟨b, gc, gs, rfl, hlb, hlc, hls, hrb, hrc, hrs, hbx⟩ := hcut
    have Hrb := Lib.hid hrb
    have Hrc := Lib.hid hrc
    have Hrs := Lib.hid hrs
    have Hbx := Lib.hid hbx
    have Hlow := Lib.hid (And.intro hlb (And.intro hlc hls))
    clear hrb hrc hrs hbx hlb hlc hls Hb1
    go_wp2_with fail
    refine (Hsp.out _ Hbx.out).mono ?_
    rintro e w2 ⟨gt, rfl, _, hrt, hb2⟩
    have hbld : Bld w w2 ls log 0 0 b gc gs gt (List.replicate ls.length (.slice none 0 0)) := {
      tab := by rw [← HS.out]; exact row_below Hrb.out hb2
      syms := hrt
      cells := by rw [Bm.cellsTo_zero, ← HS.out]; exact row_below Hrc.out hb2
      rows := row_below Hrs.out hb2
      len := List.length_replicate
      fam := Fam.nils _ _ _ (fun s => Bm.states_zero ls log s)
      low := Hlow.out
      bel := Hbx.out.trans (hb2.mono Hbx.out.size) }
    have Hbld := Lib.hid hbld
    clear hbld hrt hb2 Hrb Hrc Hrs Hbx Hsp
    go_wp2
    go_loopw [29] (fun i wr => ∃ k : Nat, k ≤ S ∧ i = .int .i64 (k : Int) ∧ Hid (∃ vs, Bld w wr ls log k k b gc gs gt vs)) (fun i _ => S - (intOf i).toNat)
    case atStart => exact ⟨0, by omega, rfl, Lib.hid ⟨_, Hbld.out⟩⟩
    case round =>
      obtain ⟨k, hk, rfl, hB⟩ := hrel
      clear Hbld
      obtain ⟨vs, hB⟩ := hB.out
      by_cases hkS : k < S
      · have hk2 : k < 2 ^ log := by rw [← HS.out]; exact hkS
        obtain ⟨hsy, hN0⟩ := Bm.tab_sym ls log k Hf.out hk2
        obtain ⟨n', q1, _, q3, q4, q5, q6⟩ := Bm.num_ok ls log k Hf.out hk2
        rw [List.getElem?_eq_getElem hsy] at q1
        injection q1 with q1
        subst q1
        rw [← HS.out] at q3
        have hnum : Bm.numAt ls log k = ls[Bm.symAt ls log k] + (Bm.statesTo ls log k (Bm.symAt ls log k)).length := by
          unfold Bm.numAt Bm.rankAt
          rw [List.getElem?_eq_getElem hsy, Option.getD_some, Bm.states_length ls log k _ (by omega)]
        have hsv : Bm.symAt ls log k < vs.length := by rw [hB.len]; exact hsy
        obtain ⟨v, hv⟩ : ∃ v, vs[Bm.symAt ls log k]? = some v := ⟨_, List.getElem?_eq_getElem hsv⟩
        obtain ⟨A', cap', e1, _, _⟩ := own_reads (hB.fam.own _ v hv)
        subst e1
        obtain ⟨ga, oa, rfl, hca⟩ : ∃ g off, A = some ⟨g, off, none⟩ ∧ wr.cell? ⟨g, off + Bm.symAt ls log k, none⟩ = some (.int .i64 (ls[Bm.symAt ls log k] : Int)) := by
          obtain ⟨g, off, e, hc⟩ := (reads_on Hr.out hB.bel) (by intro e; have := congrArg List.length e; rw [i64s_length, List.length_nil] at this; omega)
          have h1 := hc (Bm.symAt ls log k) (by rw [i64s_length]; exact hsy)
          rw [i64s_get? ls _ hsy] at h1
          exact ⟨g, off, e, h1⟩
        have cb2 := hB.tab.cell 2
        simp only [List.getElem?_cons_succ, List.getElem?_cons_zero] at cb2
        have cgs := (hB.rows.cell (Bm.symAt ls log k)).trans hv
        have ctab := hB.syms.cell k
        have htl : k < (Bm.tab ls log).length := by rw [Bm.tab_length]; exact hk2
        rw [u8s_get? _ _ htl, Bm.tab_getElem ls log k hk2 htl] at ctab
        have HB := Lib.hid hB
        have Hv := Lib.hid hv
        have Hnum := Lib.hid hnum
        obtain ⟨r, hr⟩ : ∃ r, r = (Bm.statesTo ls log k (Bm.symAt ls log k)).length := ⟨_, rfl⟩
        rw [← hr] at Hv cgs Hnum
        have hr512 : r ≤ 512 := by
          rw [hr, Bm.states_length ls log k _ (by omega)]
          have h1 := Bm.count_take_all (Bm.tab ls log) k (Bm.symAt ls log k)
          have h2 := List.count_le_length (a := Bm.symAt ls log k) (l := Bm.tab ls log)
          rw [Bm.tab_length, ← HS.out] at h2
          omega
        have Hrl := Lib.hid hr
        have Hq6 := Lib.hid q6
        obtain ⟨sy, hsye⟩ : ∃ s, s = Bm.symAt ls log k := ⟨_, rfl⟩
        clear hB hv hnum hr q4 q5 q6 htl hk2 hsv
        rw [← hsye] at cgs ctab
        have hsyl : sy < ls.length := by rw [hsye]; exact hsy
        have hNg : ls[Bm.symAt ls log k] = ls[sy] := by congr 1; exact hsye.symm
        rw [hNg, ← hsye] at hca
        rw [hNg] at Hnum q3 hN0
        have Hsye := Lib.hid hsye
        clear hsye hNg
        generalize ls[sy] = N at hca Hnum q3 hN0
        have hNr : IntKind.i64.wrap ((N : Int) + (r : Int)) = (N : Int) + (r : Int) := IntWalk.i64_in _ (by omega)
        go_wp2_with fail
        go_quiet (fail)
        have HB1 := Lib.hid (HB.out.drewN nq)
        clear HB hNr hca ctab cgs cb2
        generalize (wr.drewN nq) = wr1 at HB1 ⊢
        have Hv2 : Hid (vs[sy]? = some (Value.slice A' r cap')) := Lib.hid (by rw [Hsye.out]; exact Hv.out)
        obtain ⟨own0, hown0⟩ : ∃ q, q = (Value.slice A' r cap').ownBlock := ⟨_, rfl⟩
        have Hown0 := Lib.hid hown0
        clear hown0
        have hcb : ∀ W, wr1.grownBy W own0 → W.cell? ⟨b, 2, none⟩ = some (.slice (some ⟨gs, 0, none⟩) ls.length ls.length) := fun W hW => by
          have h1 := HB1.out.tab.cell 2
          simp only [List.getElem?_cons_succ, List.getElem?_cons_zero] at h1
          rw [hW.cell_far _ (by exact HB1.out.tab.lt) (fun e => HB1.out.fam.notT HB1.out.tab (by decide) sy _ Hv2.out (by rw [← Hown0.out]; exact e.symm)), h1]
        have hcs : ∀ W, wr1.grownBy W own0 → W.cell? ⟨gs, sy, none⟩ = some (.slice A' r cap') := fun W hW => by
          rw [hW.cell_far _ (by exact HB1.out.rows.lt) (fun e => HB1.out.fam.notT HB1.out.rows (by decide) sy _ Hv2.out (by rw [← Hown0.out]; exact e.symm)), HB1.out.rows.cell sy, Hv2.out]
        have hfs : ∀ W, wr1.grownBy W own0 → W.frozen? ⟨gs, sy, none⟩ = false := fun W hW => by
          rw [hW.frozen_far _ (by exact HB1.out.rows.lt) (fun e => HB1.out.fam.notT HB1.out.rows (by decide) sy _ Hv2.out (by rw [← Hown0.out]; exact e.symm)), HB1.out.rows.free sy]
        have Ho0 : Hid (wr1.ownsRow w.heap.size 3 1 (.slice A' r cap') r (i64s (Bm.statesTo ls log k sy))) := Lib.hid (by
          have h1 := HB1.out.fam.own sy _ Hv2.out
          rw [show (Bm.statesTo ls log k sy).length = r by rw [Hsye.out]; exact Hrl.out.symm] at h1
          exact h1)
        obtain ⟨i0, hi, hz0, hz1, hz2⟩ := info_parts info_in
        go_wp2_with fail
        have hs0 := HB1.out.bel.size
        go_cut [] (fun wx => ∃ gN cap, Bld w wx ls log k (k + 1) b gc gs gt (vs.set sy (.slice (some ⟨gN, 0, none⟩) (r + 1) cap)))
        case first =>
          have cb := hcb wr1 (grown_refl wr1 own0)
          have cs := hcs wr1 (grown_refl wr1 own0)
          have fs := hfs wr1 (grown_refl wr1 own0)
          have cbA := hcb (wr1.alloc (.cells #[.int .i64 (k : Int)] 3)) (grown_alloc (grown_refl wr1 own0) _)
          have csA := hcs (wr1.alloc (.cells #[.int .i64 (k : Int)] 3)) (grown_alloc (grown_refl wr1 own0) _)
          have Hcb := Lib.hid hcb
          have Hcs := Lib.hid hcs
          have Hfs := Lib.hid hfs
          have Hoa : Hid ((wr1.alloc (.cells #[.int .i64 (k : Int)] 3)).drew.ownsRow w.heap.size 3 1 (.slice A' r cap') r (i64s (Bm.statesTo ls log k sy))) := Lib.hid (Ho0.out.alloc _)
          have Hnews : Hid (∀ (j : Nat) (u : Value), [Value.int .i64 (k : Int)][j]? = some u → (wr1.alloc (.cells #[.int .i64 (k : Int)] 3)).drew.cell? ((⟨wr1.heap.size, 0, none⟩ : Addr).add j) = some u) := Lib.hid (fun j u hu => by
            match j, hu with
            | 0, hu => simp at hu; subst hu; simp [Addr.add])
          clear hcb hcs hfs
          go_region_law ((refine step_append_lies ((wr1.alloc (.cells #[.int .i64 (k : Int)] 3)).drew) (by rfl) _ _ _ (by rfl) w.heap.size 3 i0 (.int .i64 0) 1 8 Tryz.underlying57 hi hz0 hz1 hz2 rfl (by omega) (.slice A' r cap') r (i64s (Bm.statesTo ls log k sy)) (by rfl) Hoa.out ⟨wr1.heap.size, 0, none⟩ 1 1 [.int .i64 (k : Int)] (by rfl) (by rfl) Hnews.out (by intro u hu; simp at hu; subst hu; rfl) (by omega) (by unfold maxLen; omega) (by omega) (by simp; omega) (wr1.heap.size + 1) (by simp) ?_; intro gN capN wN hoN hgN hatN _; have HoN := Lib.hid hoN; have HgN := Lib.hid hgN; have HatN := Lib.hid hatN; have HGN : Hid (wr1.grownBy wN own0) := Lib.hid ((grown_drew (grown_alloc (grown_refl wr1 own0) _)).trans (by rw [Hown0.out]; exact hgN)); have cbN := Hcb.out wN HGN.out; have csN := Hcs.out wN HGN.out; have fsN := Hfs.out wN HGN.out; clear hoN hgN hatN))
          all_goals
            go_wp2_with fail
            go_meet
            exact ⟨gN, capN, (HB1.out.below (((Below.refl wr1.heap.size wr1).alloc (Nat.le_refl _) (.cells #[.int .i64 (k : Int)] 3)).drew)).push Hsye.out Hv2.out Hrl.out HoN.out HgN.out (HatN.out.imp id (fun h => h.trans (by simp)))⟩
        case rest =>
          obtain ⟨gN, capN, hB2⟩ := hcut
          have hk2 : k < 2 ^ log := by rw [← HS.out]; exact hkS
          have hcc : ∀ W, Below wc.heap.size wc W → W.cell? ⟨b, 1, none⟩ = some (.slice (some ⟨gc, 0, none⟩) S S) := fun W hW => by
            have h1 := (row_below hB2.tab hW).cell 1
            simp only [List.getElem?_cons_succ, List.getElem?_cons_zero] at h1
            rw [h1, HS.out]
          have hkl : k < (Bm.cellsTo ls log k).length := by rw [Bm.cellsTo_length]; exact hk2
          obtain ⟨g0, g1, g2⟩ := c3_get (Bm.cellsTo ls log k) k hkl
          rw [Bm.cellsTo_at] at g0 g1 g2
          have hd0 : ∀ W, Below wc.heap.size wc W → W.cell? ⟨gc, k * 3, none⟩ = some (.int .u8 0) := fun W hW => ((row_below hB2.cells hW).cell (k * 3)).trans g0
          have hd1 : ∀ W, Below wc.heap.size wc W → W.cell? ⟨gc, k * 3 + 1, none⟩ = some (.int .i64 0) := fun W hW => ((row_below hB2.cells hW).cell (k * 3 + 1)).trans g1
          have hd2 : ∀ W, Below wc.heap.size wc W → W.cell? ⟨gc, k * 3 + 2, none⟩ = some (.int .i64 0) := fun W hW => ((row_below hB2.cells hW).cell (k * 3 + 2)).trans g2
          have hf0 : ∀ W, Below wc.heap.size wc W → W.frozen? ⟨gc, k * 3, none⟩ = false := fun W hW => (row_below hB2.cells hW).free (k * 3)
          have hf1 : ∀ W, Below wc.heap.size wc W → W.frozen? ⟨gc, k * 3 + 1, none⟩ = false := fun W hW => (row_below hB2.cells hW).free (k * 3 + 1)
          have hf2 : ∀ W, Below wc.heap.size wc W → W.frozen? ⟨gc, k * 3 + 2, none⟩ = false := fun W hW => (row_below hB2.cells hW).free (k * 3 + 2)
          have HB2 := Lib.hid hB2
          have hbgc : b ≠ gc := row_ne hB2.tab hB2.cells (by decide)
          clear hB2
          have hcf : ∀ W, Calls Tryz.prog 106 #[.int .u8 (sy : Int), .int .i64 ((N : Int) + (r : Int)), .int .i64 (log : Int)] W fun e w' => e = .returned (.agg #[.int .u8 (sy : Int), .int .i64 (Bm.bitsAt ls log k : Int), .int .i64 (Bm.baseAt ls log k : Int)]) ∧ Below W.heap.size W w' := fun W => by
            have h1 := tcellf_any sy (Bm.numAt ls log k) log W (by rw [Hnum.out]; omega) Hq6.out hl9
            unfold Bm.bitsAt Bm.baseAt
            rw [Hnum.out] at h1 ⊢
            rw [Int.natCast_add] at h1
            exact h1
          have Hcf := Lib.hid hcf
          have hrel2 : ∀ W', Below wc.heap.size wc W' → Hid (∃ vs, Bld w (((W'.setCell ⟨gc, k * 3, none⟩ (.int .u8 (sy : Int))).setCell ⟨gc, k * 3 + 1, none⟩ (.int .i64 (Bm.bitsAt ls log k : Int))).setCell ⟨gc, k * 3 + 2, none⟩ (.int .i64 (Bm.baseAt ls log k : Int))) ls log (k + 1) (k + 1) b gc gs gt vs) := fun W' hW => Lib.hid ⟨_, by rw [Hsye.out]; exact (HB2.out.below hW).cell hk2⟩
          have Hrel := Lib.hid hrel2
          clear hrel2 g0 g1 g2 hkl hcf HB1 Hv Hv2 Ho0 Hown0 Hnum Hsye Hrl Hq6 hcb hcs hfs hi hz0 hz1 hz2
          generalize Bm.bitsAt ls log k = bb at *
          generalize Bm.baseAt ls log k = zz at *
          go_wp2_with fail
          refine wp_region_held_drew (S := (fun W => W.cell? ⟨b, 1, none⟩ = some (.slice (some ⟨gc, 0, none⟩) S S))) (by kernel_rfl) (by exact hcc _ (Below.refl _ _).drew) (fun hHeld => ?_)
          refine wpAnyH_take (i := 0) (oi := { dst := some 63, op := Go.Op.move (Go.Operand.tmp 7), type := 138, pos := "spread.go:27", after := #[], guard := none }) (v := ?_) rfl (by kernel_rfl) (by kernel_rfl) (by kernel_rfl) (fun _ _ _ h => h) (Or.inl ⟨by rfl, ?_⟩) (by assumption) ?_
          rotate_left
          · (intro w hSw; (try dsimp only at hSw); go_simp; (try with_reducible rfl))
          try simp only [Act.put, List.setIfInBounds_toArray, List.set_cons_zero, List.set_cons_succ]
          refine wpAnyH_take (i := 1) (oi := { dst := some 64, op := Go.Op.nilCheck (Go.Operand.tmp 63), type := 0, pos := "spread.go:27", after := #[{ on := 0, ground := Go.Ground.data }], guard := none }) (v := ?_) rfl (by kernel_rfl) (by kernel_rfl) (by kernel_rfl) (fun _ _ _ h => h) (Or.inl ⟨by rfl, ?_⟩) (by assumption) ?_
          rotate_left
          · (intro w hSw; (try dsimp only at hSw); go_simp; (try with_reducible rfl))
          try simp only [Act.put, List.setIfInBounds_toArray, List.set_cons_zero, List.set_cons_succ]
          refine wpAnyH_take (i := 2) (oi := { dst := some 65, op := Go.Op.fieldAddr 155 (Go.Operand.tmp 64) 1, type := 0, pos := "spread.go:27", after := #[{ on := 1, ground := Go.Ground.data }], guard := none }) (v := ?_) rfl (by kernel_rfl) (by kernel_rfl) (by kernel_rfl) (fun _ _ _ h => h) (Or.inl ⟨by rfl, ?_⟩) (by assumption) ?_
          rotate_left
          · (intro w hSw; (try dsimp only at hSw); go_simp; (try with_reducible rfl))
          try simp only [Act.put, List.setIfInBounds_toArray, List.set_cons_zero, List.set_cons_succ]
          refine wpAnyH_take (i := 3) (oi := { dst := some 66, op := Go.Op.load 117 (Go.Operand.tmp 65), type := 117, pos := "spread.go:27", after := #[{ on := 2, ground := Go.Ground.data }], guard := none }) (v := ?_) rfl (by kernel_rfl) (by kernel_rfl) (by kernel_rfl) (fun _ _ _ h => h) (Or.inl ⟨by rfl, ?_⟩) (by assumption) ?_
          rotate_left
          · (intro w hSw; (try dsimp only at hSw); go_simp; (try with_reducible rfl))
          try simp only [Act.put, List.setIfInBounds_toArray, List.set_cons_zero, List.set_cons_succ]
          refine wpAnyH_take (i := 4) (oi := { dst := some 67, op := Go.Op.move (Go.Operand.tmp 8), type := 3, pos := "spread.go:27", after := #[], guard := none }) (v := ?_) rfl (by kernel_rfl) (by kernel_rfl) (by kernel_rfl) (fun _ _ _ h => h) (Or.inl ⟨by rfl, ?_⟩) (by assumption) ?_
          rotate_left
          · (intro w hSw; (try dsimp only at hSw); go_simp; (try with_reducible rfl))
          try simp only [Act.put, List.setIfInBounds_toArray, List.set_cons_zero, List.set_cons_succ]
          refine wpAnyH_take (i := 5) (oi := { dst := some 68, op := Go.Op.move (Go.Operand.tmp 9), type := 5, pos := "spread.go:27", after := #[], guard := none }) (v := ?_) rfl (by kernel_rfl) (by kernel_rfl) (by kernel_rfl) (fun _ _ _ h => h) (Or.inl ⟨by rfl, ?_⟩) (by assumption) ?_
          rotate_left
          · (intro w hSw; (try dsimp only at hSw); go_simp; (try with_reducible rfl))
          try simp only [Act.put, List.setIfInBounds_toArray, List.set_cons_zero, List.set_cons_succ]
          refine wpAnyH_take (i := 6) (oi := { dst := some 69, op := Go.Op.move (Go.Operand.tmp 10), type := 3, pos := "spread.go:27", after := #[], guard := none }) (v := ?_) rfl (by kernel_rfl) (by kernel_rfl) (by kernel_rfl) (fun _ _ _ h => h) (Or.inl ⟨by rfl, ?_⟩) (by assumption) ?_
          rotate_left
          · (intro w hSw; (try dsimp only at hSw); go_simp; (try with_reducible rfl))
          try simp only [Act.put, List.setIfInBounds_toArray, List.set_cons_zero, List.set_cons_succ]
          refine wpAnyH_take (i := 7) (oi := { dst := some 70, op := Go.Op.move (Go.Operand.tmp 1), type := 3, pos := "spread.go:27", after := #[], guard := none }) (v := ?_) rfl (by kernel_rfl) (by kernel_rfl) (by kernel_rfl) (fun _ _ _ h => h) (Or.inl ⟨by rfl, ?_⟩) (by assumption) ?_
          rotate_left
          · (intro w hSw; (try dsimp only at hSw); go_simp; (try with_reducible rfl))
          try simp only [Act.put, List.setIfInBounds_toArray, List.set_cons_zero, List.set_cons_succ]
          refine wpAnyH_ready (rs := [8]) (by kernel_rfl) (by simp) ?_
          refine AllReadyH.cons (o := { dst := some 71, op := Go.Op.call { callee := Go.Callee.value (Go.Operand.func 106), args := #[Go.Operand.tmp 68, Go.Operand.tmp 69, Go.Operand.tmp 70], argTypes := #[5, 3, 3] }, type := 144, pos := "spread.go:27", after := #[{ on := 5, ground := Go.Ground.data }, { on := 6, ground := Go.Ground.data }, { on := 7, ground := Go.Ground.data }], guard := none }) rfl (fun K hK => ?_) AllReadyH.nil
          go_simp
          (go_at_call 106; refine (Hcf.out _).mono ?_; rintro e wC ⟨rfl, hbC⟩; have HwC := Lib.hid ((Below.refl wc.heap.size wc).drew.trans hbC); clear hbC; have k0 := hd0 wC HwC.out; have k1 := hd1 wC HwC.out; have k2 := hd2 wC HwC.out; have m0 := hf0 wC HwC.out; have m1 := hf1 wC HwC.out; have m2 := hf2 wC HwC.out)
          go_simp
          refine hK.out _ _ (by exact hcc wC HwC.out) (fun hHeld => ?_)
          clear hK K
          try simp only [Act.put, List.setIfInBounds_toArray, List.set_cons_zero, List.set_cons_succ]
          refine wpAnyH_take (i := 9) (oi := { dst := some 72, op := Go.Op.indexAddr 117 (Go.Operand.tmp 66) (Go.Operand.tmp 67), type := 0, pos := "spread.go:27", after := #[{ on := 3, ground := Go.Ground.data }, { on := 4, ground := Go.Ground.data }, { on := 0, ground := Go.Ground.phase }, { on := 1, ground := Go.Ground.phase }, { on := 2, ground := Go.Ground.phase }, { on := 3, ground := Go.Ground.phase }, { on := 4, ground := Go.Ground.phase }, { on := 5, ground := Go.Ground.phase }, { on := 6, ground := Go.Ground.phase }, { on := 7, ground := Go.Ground.phase }, { on := 8, ground := Go.Ground.phase }], guard := none }) (v := ?_) rfl (by kernel_rfl) (by kernel_rfl) (by kernel_rfl) (fun _ _ _ h => h) (Or.inl ⟨by rfl, ?_⟩) (by assumption) ?_
          rotate_left
          · (intro w hSw; (try dsimp only at hSw); go_simp; (try with_reducible rfl))
          try simp only [Act.put, List.setIfInBounds_toArray, List.set_cons_zero, List.set_cons_succ]
          refine wpAnyH_ready (rs := [10]) (by kernel_rfl) (by simp) ?_
          refine AllReadyH.cons (o := { dst := none, op := Go.Op.store 144 (Go.Operand.tmp 72) (Go.Operand.tmp 71), type := 0, pos := "spread.go:27", after := #[{ on := 9, ground := Go.Ground.data }, { on := 8, ground := Go.Ground.data }, { on := 8, ground := Go.Ground.chain }, { on := 0, ground := Go.Ground.phase }, { on := 1, ground := Go.Ground.phase }, { on := 2, ground := Go.Ground.phase }, { on := 3, ground := Go.Ground.phase }, { on := 4, ground := Go.Ground.phase }, { on := 5, ground := Go.Ground.phase }, { on := 6, ground := Go.Ground.phase }, { on := 7, ground := Go.Ground.phase }, { on := 8, ground := Go.Ground.phase }], guard := none }) rfl (fun K hK => ?_) AllReadyH.nil
          go_simp
          refine hK.out _ _ (by exact cell_three hbgc (hcc wC HwC.out)) (fun hHeld => ?_)
          clear hK K
          try simp only [Act.put, List.setIfInBounds_toArray, List.set_cons_zero, List.set_cons_succ]
          refine wpAnyH_done (by kernel_rfl) ?_ _
          have HR := Hrel.out wC HwC.out
          clear hcc hd0 hd1 hd2 hf0 hf1 hf2 k0 k1 k2 m0 m1 m2 Hrel Hcf HB2 hbgc
          go_wp2
          go_roundw
          case rel => exact ⟨k + 1, by omega, by go_num, HR⟩
          case measure => simp [intOf]; omega
      · obtain rfl : k = S := by omega
        have hst : STab wr ⟨b, 0, none⟩ ls log := by
          refine ⟨b, gc, gs, rfl, hB.tab, ?_, vs, hB.rows, hB.len, fun s hs => ?_⟩
          · have h1 := hB.cells
            rw [HS.out, Bm.cellsTo_all] at h1
            exact h1
          · have hsv : s < vs.length := by rw [hB.len]; exact hs
            have h1 := hB.fam.own s vs[s] (List.getElem?_eq_getElem hsv)
            obtain ⟨A', c', e1, e2, _⟩ := own_reads h1
            rw [HS.out, Bm.states_all ls log s Hf.out] at e1
            rw [HS.out] at e2
            exact ⟨A', c', by rw [List.getElem?_eq_getElem hsv, e1], e2⟩
        have Hst := Lib.hid hst
        have Hbel := Lib.hid hB.bel
        clear hB hst
        go_wp2
        go_ret2
        exact ⟨_, rfl, Hst.out, Hbel.out⟩
end Go.Proofs.YtbdciiiimdbmkaaGreat

namespace Go.Proofs.YtbdciiiimdbmkaaGreat
open Go.RowKit
theorem tab_build (A : Option Addr) (c : Nat) (l : List Int) (log : Int) (w : World) (hl : l.length ≤ 1000000) (hok : ∀ x ∈ l, Bm.IntOk x) (hlog : Bm.IntOk log) (hr : Reads w A (i64z l)) (hf : Bm.Fair l log) :
    Calls Tryz.prog 88 #[.slice A l.length c, .int .i64 log] w fun e w' => ∃ p, e = .returned (.tuple #[.pointer (some p), .bool true]) ∧ STab w' p (l.map Int.toNat) log.toNat ∧ Below w.heap.size w w' := by
  have h1 := nfair_any A c l log w hl hok hlog hr
  rw [show Bm.fairB l log = true from decide_eq_true hf] at h1
  have hls : i64s (l.map Int.toNat) = i64z l := by rw [← i64z_nat, Bm.fair_map l log hf]
  have hl9 : (log.toNat : Int) = log := by have := hf.1; omega
  have h2 := tbuild_fair A c (l.map Int.toNat) log.toNat w (Bm.fair_n l log hf) (by rw [hls]; exact hr) (by rw [hl9, List.length_map]; exact h1)
  rw [hl9, List.length_map] at h2
  exact h2
theorem tab_is : TabOk STab where
  keep := fun w W p ls log h hb => stab_keep w W p ls log h hb
  build := tab_build
  noBuild := tbuild_no
  cell := fun w p ls log st hf h _ => tcell_any w p ls log st hf h
  cellNil := fun w st _ => tcell_nil w st
  size := fun w p ls log _ h => (tsize_any w p ls log h).mono fun e w' ⟨he, hw⟩ => ⟨he, 0, by subst hw; rfl⟩
  sizeNil := fun w => (tsize_nil w).mono fun e w' ⟨he, hw⟩ => ⟨he, 0, by subst hw; rfl⟩
  logOf := fun w p ls log _ h => (tlog_any w p ls log h).mono fun e w' ⟨he, hw⟩ => ⟨he, 0, by subst hw; rfl⟩
  logNil := fun w => (tlog_nil w).mono fun e w' ⟨he, hw⟩ => ⟨he, 0, by subst hw; rfl⟩
  next := fun w p ls log st more hf h _ _ => tnext_any w p ls log st more hf h
  back := fun w p ls log st s hf h _ hs => tback_any w p ls log st s hf h hs
end Go.Proofs.YtbdciiiimdbmkaaGreat
