/-
  The program's layer 9 (huff): the pile's Push, Pop, by their walks. Conditions: as each theorem's premises say.
-/
import Derived.Test.YtmcobnbahkoopaaVc
import Derived.Lib.OwnKind
namespace Go.Proofs.Ytmcobnbahkoopaa
open Go.RowKit
theorem info_node : (Try.prog.info? 41).map (fun i => (i.zero, i.size, i.bytes)) = some (some (.agg #[.int .i64 0, .int .i64 0]), 2, 16) := by kernel_rfl
theorem ta_node (v : Value) (W : World) : (Instr.typeAssert (.iface 41 v) 20 41 true).run Try.prog W = .ok (.tuple #[v, .bool true]) W := by kernel_rfl
theorem n2_push (L : List Nod) (a q : Nat) : n2 L ++ [.int .i64 (a : Int), .int .i64 (q : Int)] = n2 (L ++ [(a, q)]) := by
  unfold n2
  rw [cc2_append]
  rfl
theorem push_end {base p g cap a q gN capN : Nat} {L : List Nod} {w w1 wN : World} (hp : Pile w1 base p g cap L) (hw : Below w.heap.size w w1) (hb : base ≤ w.heap.size)
    (ho : wN.ownsRow base 41 2 (.slice (some ⟨gN, 0, none⟩) (L.length + 1) capN) (L.length + 1) (n2 L ++ [.int .i64 (a : Int), .int .i64 (q : Int)])) (hg : w1.grownBy wN (some g)) :
    Pile (wN.setCell ⟨p, 0, none⟩ (.slice (some ⟨gN, 0, none⟩) (L.length + 1) capN)) base p gN capN (L ++ [(a, q)]) ∧ KeptP base w (wN.setCell ⟨p, 0, none⟩ (.slice (some ⟨gN, 0, none⟩) (L.length + 1) capN)) := by
  obtain ⟨post, hpl, hrow⟩ := hp.row
  have hv : Row wN p 51 [.slice (some ⟨g, 0, none⟩) L.length cap] := hp.var.keep (hg.block p hp.var.lt (fun e => by injection e with e; exact hp.ne e))
  have hv2 := hv.set_ 0 (.slice (some ⟨gN, 0, none⟩) (L.length + 1) capN)
  have hv3 : Row (wN.setCell ⟨p, 0, none⟩ (.slice (some ⟨gN, 0, none⟩) (L.length + 1) capN)) p 51 [.slice (some ⟨gN, 0, none⟩) (L ++ [(a, q)]).length capN] := by
    rw [List.length_append]
    exact hv2
  rw [n2_push] at ho
  have hne : (Value.slice (some ⟨gN, 0, none⟩) (L.length + 1) capN).ownBlock ≠ some p := fun e => by
    obtain ⟨c, fz, hk⟩ := Lib.ownsRow_kind ho p e
    unfold Row at hv
    rw [hv] at hk
    injection hk with hk
    injection hk with _ hk
    exact absurd hk (by decide)
  have ho2 := ownsRow_setCell_other ho (a := ⟨p, 0, none⟩) hne (.slice (some ⟨gN, 0, none⟩) (L.length + 1) capN)
  refine ⟨pile_of_own hv3 hp.lowp (by rw [List.length_append]; exact ho2), ?_⟩
  have k1 : KeptP base w w1 := KeptP.below hw hb
  have k2 : KeptP base w1 wN := KeptP.grown hg hrow (.inr rfl) hp.lowg
  have k3 : KeptP base wN (wN.setCell ⟨p, 0, none⟩ (.slice (some ⟨gN, 0, none⟩) (L.length + 1) capN)) := KeptP.grown (grown_set (grown_refl wN (some p)) 0 _) hv (.inl rfl) hp.lowp
  exact (k1.trans k2).trans k3
set_option maxHeartbeats 4000000 in
set_option maxRecDepth 100000 in
theorem uppush_any (base p g cap a q : Nat) (L : List Nod) (w : World) (hb : base ≤ w.heap.size) (hL : L.length ≤ 100000) (hp : Pile w base p g cap L) :
    Calls Try.prog 72 #[.pointer (some ⟨p, 0, none⟩), .iface 41 (.agg #[.int .i64 (a : Int), .int .i64 (q : Int)])] w fun e w' => e = .returned (.tuple #[]) ∧ ∃ g' cap', Pile w' base p g' cap' (L ++ [(a, q)]) ∧ KeptP base w w' := by
  obtain ⟨i0, hi, hz0, hz1, hz2⟩ := info_parts info_node
  have Hp := Lib.hid hp
  clear hp
  go_enter Try.func72, Try.ntmps72
  have hta := fun W => ta_node (.agg #[.int .i64 (a : Int), .int .i64 (q : Int)]) W
  go_wp2_with fail
  clear hta
  obtain ⟨w1, hw1⟩ : ∃ w1, w1 = w.alloc (.cells #[.int .i64 (a : Int), .int .i64 (q : Int)] 41) := ⟨_, rfl⟩
  have hbl : Below w.heap.size w w1 := by rw [hw1]; exact (Below.refl _ _).alloc (Nat.le_refl _) _
  have hp1 := Hp.out.below hbl
  have hbox : Row w1 w.heap.size 41 [.int .i64 (a : Int), .int .i64 (q : Int)] := by rw [hw1]; exact Row.new w _ _
  have hgb : g < w.heap.size := by
    obtain ⟨_, _, hr⟩ := Hp.out.row
    exact hr.lt
  rw [← hw1]
  have hs1 : w1.heap.size = w.heap.size + 1 := by rw [hw1]; simp
  clear hw1
  have hcp : ∀ W, w1.grownBy W (some g) → W.cell? ⟨p, 0, none⟩ = some (.slice (some ⟨g, 0, none⟩) L.length cap) := fun W hW => by
    rw [hW.cell_far _ (by exact hp1.var.lt) (fun e => hp1.ne (by injection e)), hp1.cell]
  have hfp : ∀ W, w1.grownBy W (some g) → W.frozen? ⟨p, 0, none⟩ = false := fun W hW => by
    rw [hW.frozen_far _ (by exact hp1.var.lt) (fun e => hp1.ne (by injection e)), hp1.var.free]
  have hb0 : ∀ W, w1.grownBy W (some g) → W.cell? ⟨w.heap.size, 0, none⟩ = some (.int .i64 (a : Int)) := fun W hW => by
    rw [hW.cell_far _ (by exact hbox.lt) (fun e => by injection e with e; exact absurd (show w.heap.size = g from e) (by omega)), hbox.cell]; rfl
  have hb1 : ∀ W, w1.grownBy W (some g) → W.cell? ⟨w.heap.size, 1, none⟩ = some (.int .i64 (q : Int)) := fun W hW => by
    rw [hW.cell_far _ (by exact hbox.lt) (fun e => by injection e with e; exact absurd (show w.heap.size = g from e) (by omega)), hbox.cell]; rfl
  have c0 := hcp w1 (grown_refl w1 _)
  have c1 := hb0 w1 (grown_refl w1 _)
  have c2 := hb1 w1 (grown_refl w1 _)
  have c0A := hcp (w1.alloc (.cells #[.int .i64 (a : Int), .int .i64 (q : Int)] 41)) (grown_alloc (grown_refl w1 _) _)
  have Hcp := Lib.hid hcp
  have Hfp := Lib.hid hfp
  have Hbl := Lib.hid hbl
  have Hp1 := Lib.hid hp1
  have Hoa : Hid ((w1.alloc (.cells #[.int .i64 (a : Int), .int .i64 (q : Int)] 41)).drew.ownsRow base 41 2 (.slice (some ⟨g, 0, none⟩) L.length cap) L.length (n2 L)) := Lib.hid (hp1.own.alloc _)
  have Hnews : Hid (∀ (j : Nat) (u : Value), [Value.int .i64 (a : Int), Value.int .i64 (q : Int)][j]? = some u → (w1.alloc (.cells #[.int .i64 (a : Int), .int .i64 (q : Int)] 41)).drew.cell? ((⟨w1.heap.size, 0, none⟩ : Addr).add j) = some u) := Lib.hid (fun j u hu => by
    match j, hu with
    | 0, hu => simp at hu; subst hu; simp [Addr.add]
    | 1, hu => simp at hu; subst hu; simp [Addr.add])
  have hs0 : base ≤ w1.heap.size := by omega
  clear hcp hfp hb0 hb1 hbl hp1 hbox Hp hs1 hgb
  go_region_law ((refine step_append_lies ((w1.alloc (.cells #[.int .i64 (a : Int), .int .i64 (q : Int)] 41)).drew) (by rfl) _ _ _ (by rfl) base 41 i0 (.agg #[.int .i64 0, .int .i64 0]) 2 16 Try.underlying51 hi hz0 hz1 hz2 rfl (by omega) (.slice (some ⟨g, 0, none⟩) L.length cap) L.length (n2 L) (by rfl) Hoa.out ⟨w1.heap.size, 0, none⟩ 1 1 [.int .i64 (a : Int), .int .i64 (q : Int)] (by rfl) (by rfl) Hnews.out (by intro u hu; simp at hu; rcases hu with rfl | rfl <;> rfl) (by omega) (by unfold maxLen; omega) (by omega) (by simp; omega) (w1.heap.size + 1) (by simp) ?_; intro gN capN wN hoN hgN hatN _; have HoN := Lib.hid hoN; have HGN : Hid (w1.grownBy wN (some g)) := Lib.hid ((grown_drew (grown_alloc (grown_refl w1 (some g)) _)).trans hgN); have csN := Hcp.out wN HGN.out; have fsN := Hfp.out wN HGN.out; clear hoN hgN hatN))
  all_goals
    go_wp2_with fail
    go_end0
    obtain ⟨r1, r2⟩ := push_end Hp1.out Hbl.out hb HoN.out HGN.out
    exact ⟨rfl, gN, capN, r1, r2⟩
theorem n2_take (L : List Nod) (k : Nat) : n2 (L.take k) = (n2 L).take (k * 2) := cc2_take L k
theorem pop_end {base p g cap n : Nat} {L : List Nod} {w w1 : World} (hp : Pile w1 base p g cap L) (hw : Below w.heap.size w w1) (hb : base ≤ w.heap.size) (hn : L.length = n + 1) :
    Pile (w1.setCell ⟨p, 0, none⟩ (.slice (some ⟨g, 0, none⟩) n cap)) base p g cap (L.take n) ∧ KeptG base p g w (w1.setCell ⟨p, 0, none⟩ (.slice (some ⟨g, 0, none⟩) n cap)) := by
  obtain ⟨post, hpl, hrow⟩ := hp.row
  have hv := hp.var
  have hv2 := hv.set_ 0 (.slice (some ⟨g, 0, none⟩) n cap)
  have hlt : (L.take n).length = n := by rw [List.length_take]; omega
  have hv3 : Row (w1.setCell ⟨p, 0, none⟩ (.slice (some ⟨g, 0, none⟩) n cap)) p 51 [.slice (some ⟨g, 0, none⟩) (L.take n).length cap] := by
    rw [hlt]
    exact hv2
  have hf := hp.fits
  have hl := cc2_length (f := nodW) (h := nodP) L
  have k1 : KeptG base p g w w1 := KeptG.below hw hb
  have k3 : KeptG base p g w1 (w1.setCell ⟨p, 0, none⟩ (.slice (some ⟨g, 0, none⟩) n cap)) := KeptG.grown (grown_set (grown_refl w1 (some p)) 0 _) hv.lt (.inl rfl) hp.lowp
  refine ⟨⟨hp.lowp, hp.lowg, by omega, hp.most, hv3, (n2 L).drop (n * 2) ++ post, ?_, ?_⟩, k1.trans k3⟩
  · rw [List.length_append, List.length_drop, hlt]
    unfold n2
    omega
  · rw [n2_take, ← List.append_assoc, List.take_append_drop]
    exact hrow.far (fun e => hp.ne e.symm) _
set_option maxHeartbeats 4000000 in
set_option maxRecDepth 100000 in
theorem uppop_any (base p g cap n : Nat) (L : List Nod) (w : World) (hb : base ≤ w.heap.size) (hL : L.length ≤ 100000) (hn : L.length = n + 1) (hp : Pile w base p g cap L) :
    Calls Try.prog 71 #[.pointer (some ⟨p, 0, none⟩)] w fun e w' => e = .returned (.iface 41 (.agg #[nodW (L[n]?.getD (0, 0)), nodP (L[n]?.getD (0, 0))])) ∧ Pile w' base p g cap (L.take n) ∧ KeptG base p g w w' := by
  have Hp := Lib.hid hp
  have c0 := hp.cell
  obtain ⟨post, hpl, hrow⟩ := hp.row
  obtain ⟨k0, k1⟩ := row2_cell (f := nodW) (h := nodP) hrow n (by omega)
  have hge : L[n]?.getD (0, 0) = L[n] := by rw [List.getElem?_eq_getElem (by omega), Option.getD_some]
  rw [hge]
  have Hend := Lib.hid (pop_end hp (Below.refl _ _) hb hn)
  have hf0 : w.frozen? ⟨p, 0, none⟩ = false := hp.var.free 0
  have hpb := hp.var.lt
  have hgb := hrow.lt
  have hft := hp.fits
  have Hn : Hid (L.length = n + 1) := Lib.hid hn
  clear hp hrow hpl hge
  simp only [nodW, nodP] at k0 k1 ⊢
  generalize L[n].1 = a at *
  generalize L[n].2 = q at *
  rw [hn] at c0 hft
  have hn1 : n ≤ 100000 := by omega
  clear hn hL Hp
  go_enter Try.func71, Try.ntmps71
  go_wp2_with fail
  go_ret
  obtain ⟨r1, r2⟩ := Hend.out
  have hb2 := (Below.refl (w.setCell ⟨p, 0, none⟩ (.slice (some ⟨g, 0, none⟩) n cap)).heap.size _).alloc (Nat.le_refl _) (.cells #[.int .i64 (a : Int), .int .i64 (q : Int)] 41)
  exact ⟨rfl, r1.below hb2, r2.trans (KeptG.below hb2 (Nat.le_trans hb r2.bel.size))⟩
end Go.Proofs.Ytmcobnbahkoopaa
