/-
  The program's layer 19 (train): the heap's own Push, Pop, by their walks. Conditions: as each theorem's premises say.
-/
import Derived.Test.YtaebnkeddcbmkaaGa
import Derived.Lib.OwnKind
namespace Go.Proofs.Ytaebnkeddcbmkaa
open Go.RowKit
theorem info_piece : (Try.prog.info? 39).map (fun i => (i.zero, i.size, i.bytes)) = some (some (.agg #[.string ⟨#[]⟩, .int .i64 0, .int .i64 0]), 3, 32) := by kernel_rfl
theorem ta_piece (v : Value) (W : World) : (Instr.typeAssert (.iface 39 v) 20 39 true).run Try.prog W = .ok (.tuple #[v, .bool true]) W := by kernel_rfl
theorem p3_push (L : List Pce) (tx : ByteArray) (a q : Nat) : p3 L ++ [.string tx, .int .i64 (a : Int), .int .i64 (q : Int)] = p3 (L ++ [(tx, a, q)]) := by
  unfold p3
  rw [cc3_append]
  rfl
theorem pushq_end {base p g cap a q gN capN : Nat} {tx : ByteArray} {L : List Pce} {w w1 wN : World} (hp : PilQ w1 base p g cap L) (hw : Below w.heap.size w w1) (hb : base ≤ w.heap.size)
    (ho : wN.ownsRow base 39 3 (.slice (some ⟨gN, 0, none⟩) (L.length + 1) capN) (L.length + 1) (p3 L ++ [.string tx, .int .i64 (a : Int), .int .i64 (q : Int)])) (hg : w1.grownBy wN (some g)) :
    PilQ (wN.setCell ⟨p, 0, none⟩ (.slice (some ⟨gN, 0, none⟩) (L.length + 1) capN)) base p gN capN (L ++ [(tx, a, q)]) ∧ KeptW base p g w (wN.setCell ⟨p, 0, none⟩ (.slice (some ⟨gN, 0, none⟩) (L.length + 1) capN)) := by
  obtain ⟨post, hpl, hrow⟩ := hp.row
  have hv : Row wN p 49 [.slice (some ⟨g, 0, none⟩) L.length cap] := hp.var.keep (hg.block p hp.var.lt (fun e => by injection e with e; exact hp.ne e))
  have hv2 := hv.set_ 0 (.slice (some ⟨gN, 0, none⟩) (L.length + 1) capN)
  have hv3 : Row (wN.setCell ⟨p, 0, none⟩ (.slice (some ⟨gN, 0, none⟩) (L.length + 1) capN)) p 49 [.slice (some ⟨gN, 0, none⟩) (L ++ [(tx, a, q)]).length capN] := by
    rw [List.length_append]
    exact hv2
  rw [p3_push] at ho
  have hne : (Value.slice (some ⟨gN, 0, none⟩) (L.length + 1) capN).ownBlock ≠ some p := fun e => by
    obtain ⟨c, fz, hk⟩ := Lib.ownsRow_kind ho p e
    unfold Row at hv
    rw [hv] at hk
    injection hk with hk
    injection hk with _ hk
    exact absurd hk (by decide)
  have ho2 := ownsRow_setCell_other ho (a := ⟨p, 0, none⟩) hne (.slice (some ⟨gN, 0, none⟩) (L.length + 1) capN)
  refine ⟨pilq_of_own hv3 hp.lowp (by rw [List.length_append]; exact ho2), ?_⟩
  have k1 : KeptW base p g w w1 := KeptW.below hw hb
  have k2 : KeptW base p g w1 wN := KeptW.grown hg hrow.lt (.inr rfl) hp.lowg
  have k3 : KeptW base p g wN (wN.setCell ⟨p, 0, none⟩ (.slice (some ⟨gN, 0, none⟩) (L.length + 1) capN)) := KeptW.grown (grown_set (grown_refl wN (some p)) 0 _) hv.lt (.inl rfl) hp.lowp
  exact (k1.trans k2).trans k3
set_option maxHeartbeats 4000000 in
set_option maxRecDepth 100000 in
theorem pcpush_any (base p g cap a q : Nat) (tx : ByteArray) (L : List Pce) (w : World) (hb : base ≤ w.heap.size) (hL : L.length ≤ 100000) (hp : PilQ w base p g cap L) :
    Calls Try.prog 68 #[.pointer (some ⟨p, 0, none⟩), .iface 39 (.agg #[.string tx, .int .i64 (a : Int), .int .i64 (q : Int)])] w fun e w' => e = .returned (.tuple #[]) ∧ ∃ g' cap', (g' = g ∨ w.heap.size ≤ g') ∧ PilQ w' base p g' cap' (L ++ [(tx, a, q)]) ∧ KeptW base p g w w' := by
  obtain ⟨i0, hi, hz0, hz1, hz2⟩ := info_parts info_piece
  have Hp := Lib.hid hp
  clear hp
  go_enter Try.func68, Try.ntmps68
  have hta := fun W => ta_piece (.agg #[.string tx, .int .i64 (a : Int), .int .i64 (q : Int)]) W
  go_wp2_with fail
  clear hta
  obtain ⟨w1, hw1⟩ : ∃ w1, w1 = w.alloc (.cells #[.string tx, .int .i64 (a : Int), .int .i64 (q : Int)] 39) := ⟨_, rfl⟩
  have hbl : Below w.heap.size w w1 := by rw [hw1]; exact (Below.refl _ _).alloc (Nat.le_refl _) _
  have hp1 := Hp.out.below hbl
  have hbox : Row w1 w.heap.size 39 [.string tx, .int .i64 (a : Int), .int .i64 (q : Int)] := by rw [hw1]; exact Row.new w _ _
  have hgb : g < w.heap.size := by
    obtain ⟨_, _, hr⟩ := Hp.out.row
    exact hr.lt
  rw [← hw1]
  have hs1 : w1.heap.size = w.heap.size + 1 := by rw [hw1]; simp
  clear hw1
  have hcp : ∀ W, w1.grownBy W (some g) → W.cell? ⟨p, 0, none⟩ = some (.slice (some ⟨g, 0, none⟩) L.length cap) := fun W hW => by
    rw [hW.cell_far _ (by exact hp1.var.lt) (fun e => hp1.ne (by injection e)), hp1.cell]
  have hfp : ∀ W, w1.grownBy W (some g) → W.frozen? ⟨p, 0, none⟩ = false := fun W hW => by
    rw [hW.frozen_far _ (by exact hp1.var.lt) (fun e => hp1.ne (by injection e)), hp1.var.free]
  have hb0 : ∀ W, w1.grownBy W (some g) → W.cell? ⟨w.heap.size, 0, none⟩ = some (.string tx) := fun W hW => by
    rw [hW.cell_far _ (by exact hbox.lt) (fun e => by injection e with e; exact absurd (show w.heap.size = g from e) (by omega)), hbox.cell]; rfl
  have hb1 : ∀ W, w1.grownBy W (some g) → W.cell? ⟨w.heap.size, 1, none⟩ = some (.int .i64 (a : Int)) := fun W hW => by
    rw [hW.cell_far _ (by exact hbox.lt) (fun e => by injection e with e; exact absurd (show w.heap.size = g from e) (by omega)), hbox.cell]; rfl
  have hb2 : ∀ W, w1.grownBy W (some g) → W.cell? ⟨w.heap.size, 2, none⟩ = some (.int .i64 (q : Int)) := fun W hW => by
    rw [hW.cell_far _ (by exact hbox.lt) (fun e => by injection e with e; exact absurd (show w.heap.size = g from e) (by omega)), hbox.cell]; rfl
  have c0 := hcp w1 (grown_refl w1 _)
  have c1 := hb0 w1 (grown_refl w1 _)
  have c2 := hb1 w1 (grown_refl w1 _)
  have c3 := hb2 w1 (grown_refl w1 _)
  have c0A := hcp (w1.alloc (.cells #[.string tx, .int .i64 (a : Int), .int .i64 (q : Int)] 39)) (grown_alloc (grown_refl w1 _) _)
  have Hcp := Lib.hid hcp
  have Hfp := Lib.hid hfp
  have Hbl := Lib.hid hbl
  have Hp1 := Lib.hid hp1
  have Hoa : Hid ((w1.alloc (.cells #[.string tx, .int .i64 (a : Int), .int .i64 (q : Int)] 39)).drew.ownsRow base 39 3 (.slice (some ⟨g, 0, none⟩) L.length cap) L.length (p3 L)) := Lib.hid (hp1.own.alloc _)
  have Hnews : Hid (∀ (j : Nat) (u : Value), [Value.string tx, Value.int .i64 (a : Int), Value.int .i64 (q : Int)][j]? = some u → (w1.alloc (.cells #[.string tx, .int .i64 (a : Int), .int .i64 (q : Int)] 39)).drew.cell? ((⟨w1.heap.size, 0, none⟩ : Addr).add j) = some u) := Lib.hid (fun j u hu => by
    match j, hu with
    | 0, hu => simp at hu; subst hu; simp [Addr.add]
    | 1, hu => simp at hu; subst hu; simp [Addr.add]
    | 2, hu => simp at hu; subst hu; simp [Addr.add])
  have hs0 : base ≤ w1.heap.size := by omega
  clear hcp hfp hb0 hb1 hb2 hbl hp1 hbox Hp hs1 hgb
  go_region_law ((refine step_append_lies ((w1.alloc (.cells #[.string tx, .int .i64 (a : Int), .int .i64 (q : Int)] 39)).drew) (by rfl) _ _ _ (by rfl) base 39 i0 (.agg #[.string ⟨#[]⟩, .int .i64 0, .int .i64 0]) 3 32 Try.underlying49 hi hz0 hz1 hz2 rfl (by omega) (.slice (some ⟨g, 0, none⟩) L.length cap) L.length (p3 L) (by rfl) Hoa.out ⟨w1.heap.size, 0, none⟩ 1 1 [.string tx, .int .i64 (a : Int), .int .i64 (q : Int)] (by rfl) (by rfl) Hnews.out (by intro u hu; simp at hu; rcases hu with rfl | rfl | rfl <;> rfl) (by omega) (by unfold maxLen; omega) (by omega) (by simp; omega) (w1.heap.size + 1) (by simp) ?_; intro gN capN wN hoN hgN hatN _; have HoN := Lib.hid hoN; have HGN : Hid (w1.grownBy wN (some g)) := Lib.hid ((grown_drew (grown_alloc (grown_refl w1 (some g)) _)).trans hgN); have csN := Hcp.out wN HGN.out; have fsN := Hfp.out wN HGN.out; have Hat : Hid (gN = g ∨ w.heap.size ≤ gN) := Lib.hid (hatN.elim (fun h => .inl (by injection h with h; exact h.symm)) (fun h => .inr (by have := Hbl.out.size; omega))); clear hoN hgN hatN))
  all_goals
    go_wp2_with fail
    go_end0
    obtain ⟨r1, r2⟩ := pushq_end Hp1.out Hbl.out hb HoN.out HGN.out
    exact ⟨rfl, gN, capN, Hat.out, r1, r2⟩
theorem p3_take (L : List Pce) (k : Nat) : p3 (L.take k) = (p3 L).take (k * 3) := cc3_take L k
theorem popq_end {base p g cap n : Nat} {L : List Pce} {w w1 : World} (hp : PilQ w1 base p g cap L) (hw : Below w.heap.size w w1) (hb : base ≤ w.heap.size) (hn : L.length = n + 1) :
    PilQ (w1.setCell ⟨p, 0, none⟩ (.slice (some ⟨g, 0, none⟩) n cap)) base p g cap (L.take n) ∧ KeptW base p g w (w1.setCell ⟨p, 0, none⟩ (.slice (some ⟨g, 0, none⟩) n cap)) := by
  obtain ⟨post, hpl, hrow⟩ := hp.row
  have hv := hp.var
  have hv2 := hv.set_ 0 (.slice (some ⟨g, 0, none⟩) n cap)
  have hlt : (L.take n).length = n := by rw [List.length_take]; omega
  have hv3 : Row (w1.setCell ⟨p, 0, none⟩ (.slice (some ⟨g, 0, none⟩) n cap)) p 49 [.slice (some ⟨g, 0, none⟩) (L.take n).length cap] := by
    rw [hlt]
    exact hv2
  have hf := hp.fits
  have hl := cc3_length (f := pcT) (h := pcW) (k := pcO) L
  have k1 : KeptW base p g w w1 := KeptW.below hw hb
  have k3 : KeptW base p g w1 (w1.setCell ⟨p, 0, none⟩ (.slice (some ⟨g, 0, none⟩) n cap)) := KeptW.grown (grown_set (grown_refl w1 (some p)) 0 _) hv.lt (.inl rfl) hp.lowp
  refine ⟨⟨hp.lowp, hp.lowg, by omega, hp.most, hv3, (p3 L).drop (n * 3) ++ post, ?_, ?_⟩, k1.trans k3⟩
  · rw [List.length_append, List.length_drop, hlt]
    unfold p3
    omega
  · rw [p3_take, ← List.append_assoc, List.take_append_drop]
    exact hrow.far (fun e => hp.ne e.symm) _
set_option maxHeartbeats 4000000 in
set_option maxRecDepth 100000 in
theorem pcpop_any (base p g cap n : Nat) (L : List Pce) (w : World) (hb : base ≤ w.heap.size) (hL : L.length ≤ 100000) (hn : L.length = n + 1) (hp : PilQ w base p g cap L) :
    Calls Try.prog 67 #[.pointer (some ⟨p, 0, none⟩)] w fun e w' => e = .returned (.iface 39 (.agg #[pcT (L[n]?.getD pce0), pcW (L[n]?.getD pce0), pcO (L[n]?.getD pce0)])) ∧ PilQ w' base p g cap (L.take n) ∧ KeptW base p g w w' := by
  have Hp := Lib.hid hp
  have c0 := hp.cell
  obtain ⟨post, hpl, hrow⟩ := hp.row
  obtain ⟨k0, k1, k2⟩ := row3_cell (f := pcT) (h := pcW) (k := pcO) hrow n (by omega)
  have hge : L[n]?.getD pce0 = L[n] := by rw [List.getElem?_eq_getElem (by omega), Option.getD_some]
  rw [hge]
  have Hend := Lib.hid (popq_end hp (Below.refl _ _) hb hn)
  have hf0 : w.frozen? ⟨p, 0, none⟩ = false := hp.var.free 0
  have hpb := hp.var.lt
  have hgb := hrow.lt
  have hft := hp.fits
  have Hn : Hid (L.length = n + 1) := Lib.hid hn
  clear hp hrow hpl hge
  simp only [pcT, pcW, pcO] at k0 k1 k2 ⊢
  generalize L[n].1 = tx at *
  generalize L[n].2.1 = a at *
  generalize L[n].2.2 = q at *
  rw [hn] at c0 hft
  have hn1 : n ≤ 100000 := by omega
  clear hn hL Hp
  go_enter Try.func67, Try.ntmps67
  go_wp2_with fail
  go_ret
  obtain ⟨r1, r2⟩ := Hend.out
  have hb2 := (Below.refl (w.setCell ⟨p, 0, none⟩ (.slice (some ⟨g, 0, none⟩) n cap)).heap.size _).alloc (Nat.le_refl _) (.cells #[.string tx, .int .i64 (a : Int), .int .i64 (q : Int)] 39)
  exact ⟨rfl, r1.below hb2, r2.trans (KeptW.below hb2 (Nat.le_trans hb r2.bel.size))⟩
end Go.Proofs.Ytaebnkeddcbmkaa
