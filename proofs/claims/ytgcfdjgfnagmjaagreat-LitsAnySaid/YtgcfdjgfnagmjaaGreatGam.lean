/-
  The program's layer 9 (huff): the pile's Push, Pop, by their walks. Conditions: as each theorem's premises say.
  The program's layer 9 (huff): container/heap over a pile, by its walk: up, down, Push, Pop; lightest. Conditions: as each theorem's premises say.
  The program's layer 9 (huff): container/heap's down over a pile, by its walk. Conditions: as the theorem's premises say.
  The program's layer 9 (huff): container/heap's Push and Pop over a pile; lightest: by their walks. Conditions: as each theorem's premises say.
  The program's layer 9 (huff), by its walk: leaves, depths. Conditions: as each theorem's premises say.
  The program's layer 9 (huff), by its walk: join. Conditions: as each theorem's premises say.
  The program's layer 9 (huff), by its walk: unbounded, Best, Lengths over what bounded is to answer. Conditions: as each theorem's premises say.
  The program's layer 9 (huff), by its walk: Best, Lengths over what bounded is to answer; what the calls answer, together, of counts whose lengths are within 11. Conditions: as each theorem's premises say.
-/
import Derived.Test.YtgcfdjgfnagmjaaGreatGak
import Derived.Test.YtgcfdjgfnagmjaaGreatGaj
import Derived.Test.YtgcfdjgfnagmjaaGreatGai
import Derived.Lib.OwnKind
import Derived.Laws.Rows
namespace Go.Proofs.YtgcfdjgfnagmjaaGreat
open Go.RowKit
theorem info_node : (Tryz.prog.info? 114).map (fun i => (i.zero, i.size, i.bytes)) = some (some (.agg #[.int .i64 0, .int .i64 0]), 2, 16) := by kernel_rfl
theorem ta_node (v : Value) (W : World) : (Instr.typeAssert (.iface 114 v) 20 114 true).run Tryz.prog W = .ok (.tuple #[v, .bool true]) W := by kernel_rfl
theorem n2_push (L : List Nod) (a q : Nat) : n2 L ++ [.int .i64 (a : Int), .int .i64 (q : Int)] = n2 (L ++ [(a, q)]) := by
  unfold n2
  rw [cc2_append]
  rfl
theorem push_end {base p g cap a q gN capN : Nat} {L : List Nod} {w w1 wN : World} (hp : Pile w1 base p g cap L) (hw : Below w.heap.size w w1) (hb : base ≤ w.heap.size)
    (ho : wN.ownsRow base 114 2 (.slice (some ⟨gN, 0, none⟩) (L.length + 1) capN) (L.length + 1) (n2 L ++ [.int .i64 (a : Int), .int .i64 (q : Int)])) (hg : w1.grownBy wN (some g)) :
    Pile (wN.setCell ⟨p, 0, none⟩ (.slice (some ⟨gN, 0, none⟩) (L.length + 1) capN)) base p gN capN (L ++ [(a, q)]) ∧ KeptP base w (wN.setCell ⟨p, 0, none⟩ (.slice (some ⟨gN, 0, none⟩) (L.length + 1) capN)) := by
  obtain ⟨post, hpl, hrow⟩ := hp.row
  have hv : Row wN p 137 [.slice (some ⟨g, 0, none⟩) L.length cap] := hp.var.keep (hg.block p hp.var.lt (fun e => by injection e with e; exact hp.ne e))
  have hv2 := hv.set_ 0 (.slice (some ⟨gN, 0, none⟩) (L.length + 1) capN)
  have hv3 : Row (wN.setCell ⟨p, 0, none⟩ (.slice (some ⟨gN, 0, none⟩) (L.length + 1) capN)) p 137 [.slice (some ⟨gN, 0, none⟩) (L ++ [(a, q)]).length capN] := by
    rw [List.length_append]
    exact hv2
  rw [n2_push] at ho
  have hne : (Value.slice (some ⟨gN, 0, none⟩) (L.length + 1) capN).ownBlock ≠ some p := fun e => by
    obtain ⟨c, fz, hk⟩ := Lib.ownsRow_kind ho p e
    unfold Row at hv
    rw [hv] at hk
    injection hk with hk
    injection hk with _ hk
    exact absurd hk (by decide)
  have ho2 := ownsRow_setCell_other ho (a := ⟨p, 0, none⟩) hne (.slice (some ⟨gN, 0, none⟩) (L.length + 1) capN)
  refine ⟨pile_of_own hv3 hp.lowp (by rw [List.length_append]; exact ho2), ?_⟩
  have k1 : KeptP base w w1 := KeptP.below hw hb
  have k2 : KeptP base w1 wN := KeptP.grown hg hrow (.inr rfl) hp.lowg
  have k3 : KeptP base wN (wN.setCell ⟨p, 0, none⟩ (.slice (some ⟨gN, 0, none⟩) (L.length + 1) capN)) := KeptP.grown (grown_set (grown_refl wN (some p)) 0 _) hv (.inl rfl) hp.lowp
  exact (k1.trans k2).trans k3
set_option maxHeartbeats 4000000 in
set_option maxRecDepth 100000 in
theorem uppush_any (base p g cap a q : Nat) (L : List Nod) (w : World) (hb : base ≤ w.heap.size) (hL : L.length ≤ 100000) (hp : Pile w base p g cap L) :
    Calls Tryz.prog 130 #[.pointer (some ⟨p, 0, none⟩), .iface 114 (.agg #[.int .i64 (a : Int), .int .i64 (q : Int)])] w fun e w' => e = .returned (.tuple #[]) ∧ ∃ g' cap', Pile w' base p g' cap' (L ++ [(a, q)]) ∧ KeptP base w w' := by
  obtain ⟨i0, hi, hz0, hz1, hz2⟩ := info_parts info_node
  have Hp := Lib.hid hp
  clear hp
  go_enter Tryz.func130, Tryz.ntmps130
  have hta := fun W => ta_node (.agg #[.int .i64 (a : Int), .int .i64 (q : Int)]) W
  go_wp2_with fail
  clear hta
  obtain ⟨w1, hw1⟩ : ∃ w1, w1 = w.alloc (.cells #[.int .i64 (a : Int), .int .i64 (q : Int)] 114) := ⟨_, rfl⟩
  have hbl : Below w.heap.size w w1 := by rw [hw1]; exact (Below.refl _ _).alloc (Nat.le_refl _) _
  have hp1 := Hp.out.below hbl
  have hbox : Row w1 w.heap.size 114 [.int .i64 (a : Int), .int .i64 (q : Int)] := by rw [hw1]; exact Row.new w _ _
  have hgb : g < w.heap.size := by
    obtain ⟨_, _, hr⟩ := Hp.out.row
    exact hr.lt
  rw [← hw1]
  have hs1 : w1.heap.size = w.heap.size + 1 := by rw [hw1]; simp
  clear hw1
  have hcp : ∀ W, w1.grownBy W (some g) → W.cell? ⟨p, 0, none⟩ = some (.slice (some ⟨g, 0, none⟩) L.length cap) := fun W hW => by
    rw [hW.cell_far _ (by exact hp1.var.lt) (fun e => hp1.ne (by injection e)), hp1.cell]
  have hfp : ∀ W, w1.grownBy W (some g) → W.frozen? ⟨p, 0, none⟩ = false := fun W hW => by
    rw [hW.frozen_far _ (by exact hp1.var.lt) (fun e => hp1.ne (by injection e)), hp1.var.free]
  have hb0 : ∀ W, w1.grownBy W (some g) → W.cell? ⟨w.heap.size, 0, none⟩ = some (.int .i64 (a : Int)) := fun W hW => by
    rw [hW.cell_far _ (by exact hbox.lt) (fun e => by injection e with e; exact absurd (show w.heap.size = g from e) (by omega)), hbox.cell]; rfl
  have hb1 : ∀ W, w1.grownBy W (some g) → W.cell? ⟨w.heap.size, 1, none⟩ = some (.int .i64 (q : Int)) := fun W hW => by
    rw [hW.cell_far _ (by exact hbox.lt) (fun e => by injection e with e; exact absurd (show w.heap.size = g from e) (by omega)), hbox.cell]; rfl
  have c0 := hcp w1 (grown_refl w1 _)
  have c1 := hb0 w1 (grown_refl w1 _)
  have c2 := hb1 w1 (grown_refl w1 _)
  have c0A := hcp (w1.alloc (.cells #[.int .i64 (a : Int), .int .i64 (q : Int)] 114)) (grown_alloc (grown_refl w1 _) _)
  have Hcp := Lib.hid hcp
  have Hfp := Lib.hid hfp
  have Hbl := Lib.hid hbl
  have Hp1 := Lib.hid hp1
  have Hoa : Hid ((w1.alloc (.cells #[.int .i64 (a : Int), .int .i64 (q : Int)] 114)).drew.ownsRow base 114 2 (.slice (some ⟨g, 0, none⟩) L.length cap) L.length (n2 L)) := Lib.hid (hp1.own.alloc _)
  have Hnews : Hid (∀ (j : Nat) (u : Value), [Value.int .i64 (a : Int), Value.int .i64 (q : Int)][j]? = some u → (w1.alloc (.cells #[.int .i64 (a : Int), .int .i64 (q : Int)] 114)).drew.cell? ((⟨w1.heap.size, 0, none⟩ : Addr).add j) = some u) := Lib.hid (fun j u hu => by
    match j, hu with
    | 0, hu => simp at hu; subst hu; simp [Addr.add]
    | 1, hu => simp at hu; subst hu; simp [Addr.add])
  have hs0 : base ≤ w1.heap.size := by omega
  clear hcp hfp hb0 hb1 hbl hp1 hbox Hp hs1 hgb
  go_region_law ((refine step_append_lies ((w1.alloc (.cells #[.int .i64 (a : Int), .int .i64 (q : Int)] 114)).drew) (by rfl) _ _ _ (by rfl) base 114 i0 (.agg #[.int .i64 0, .int .i64 0]) 2 16 Tryz.underlying137 hi hz0 hz1 hz2 rfl (by omega) (.slice (some ⟨g, 0, none⟩) L.length cap) L.length (n2 L) (by rfl) Hoa.out ⟨w1.heap.size, 0, none⟩ 1 1 [.int .i64 (a : Int), .int .i64 (q : Int)] (by rfl) (by rfl) Hnews.out (by intro u hu; simp at hu; rcases hu with rfl | rfl <;> rfl) (by omega) (by unfold maxLen; omega) (by omega) (by simp; omega) (w1.heap.size + 1) (by simp) ?_; intro gN capN wN hoN hgN hatN _; have HoN := Lib.hid hoN; have HGN : Hid (w1.grownBy wN (some g)) := Lib.hid ((grown_drew (grown_alloc (grown_refl w1 (some g)) _)).trans hgN); have csN := Hcp.out wN HGN.out; have fsN := Hfp.out wN HGN.out; clear hoN hgN hatN))
  all_goals
    go_wp2_with fail
    go_end0
    obtain ⟨r1, r2⟩ := push_end Hp1.out Hbl.out hb HoN.out HGN.out
    exact ⟨rfl, gN, capN, r1, r2⟩
theorem n2_take (L : List Nod) (k : Nat) : n2 (L.take k) = (n2 L).take (k * 2) := cc2_take L k
theorem pop_end {base p g cap n : Nat} {L : List Nod} {w w1 : World} (hp : Pile w1 base p g cap L) (hw : Below w.heap.size w w1) (hb : base ≤ w.heap.size) (hn : L.length = n + 1) :
    Pile (w1.setCell ⟨p, 0, none⟩ (.slice (some ⟨g, 0, none⟩) n cap)) base p g cap (L.take n) ∧ KeptG base p g w (w1.setCell ⟨p, 0, none⟩ (.slice (some ⟨g, 0, none⟩) n cap)) := by
  obtain ⟨post, hpl, hrow⟩ := hp.row
  have hv := hp.var
  have hv2 := hv.set_ 0 (.slice (some ⟨g, 0, none⟩) n cap)
  have hlt : (L.take n).length = n := by rw [List.length_take]; omega
  have hv3 : Row (w1.setCell ⟨p, 0, none⟩ (.slice (some ⟨g, 0, none⟩) n cap)) p 137 [.slice (some ⟨g, 0, none⟩) (L.take n).length cap] := by
    rw [hlt]
    exact hv2
  have hf := hp.fits
  have hl := cc2_length (f := nodW) (h := nodP) L
  have k1 : KeptG base p g w w1 := KeptG.below hw hb
  have k3 : KeptG base p g w1 (w1.setCell ⟨p, 0, none⟩ (.slice (some ⟨g, 0, none⟩) n cap)) := KeptG.grown (grown_set (grown_refl w1 (some p)) 0 _) hv.lt (.inl rfl) hp.lowp
  refine ⟨⟨hp.lowp, hp.lowg, by omega, hp.most, hv3, (n2 L).drop (n * 2) ++ post, ?_, ?_⟩, k1.trans k3⟩
  · rw [List.length_append, List.length_drop, hlt]
    unfold n2
    omega
  · rw [n2_take, ← List.append_assoc, List.take_append_drop]
    exact hrow.far (fun e => hp.ne e.symm) _
set_option maxHeartbeats 4000000 in
set_option maxRecDepth 100000 in
theorem uppop_any (base p g cap n : Nat) (L : List Nod) (w : World) (hb : base ≤ w.heap.size) (hL : L.length ≤ 100000) (hn : L.length = n + 1) (hp : Pile w base p g cap L) :
    Calls Tryz.prog 129 #[.pointer (some ⟨p, 0, none⟩)] w fun e w' => e = .returned (.iface 114 (.agg #[nodW (L[n]?.getD (0, 0)), nodP (L[n]?.getD (0, 0))])) ∧ Pile w' base p g cap (L.take n) ∧ KeptG base p g w w' := by
  have Hp := Lib.hid hp
  have c0 := hp.cell
  obtain ⟨post, hpl, hrow⟩ := hp.row
  obtain ⟨k0, k1⟩ := row2_cell (f := nodW) (h := nodP) hrow n (by omega)
  have hge : L[n]?.getD (0, 0) = L[n] := by rw [List.getElem?_eq_getElem (by omega), Option.getD_some]
  rw [hge]
  have Hend := Lib.hid (pop_end hp (Below.refl _ _) hb hn)
  have hf0 : w.frozen? ⟨p, 0, none⟩ = false := hp.var.free 0
  have hpb := hp.var.lt
  have hgb := hrow.lt
  have hft := hp.fits
  have Hn : Hid (L.length = n + 1) := Lib.hid hn
  clear hp hrow hpl hge
  simp only [nodW, nodP] at k0 k1 ⊢
  generalize L[n].1 = a at *
  generalize L[n].2 = q at *
  rw [hn] at c0 hft
  have hn1 : n ≤ 100000 := by omega
  clear hn hL Hp
  go_enter Tryz.func129, Tryz.ntmps129
  go_wp2_with fail
  go_ret
  obtain ⟨r1, r2⟩ := Hend.out
  have hb2 := (Below.refl (w.setCell ⟨p, 0, none⟩ (.slice (some ⟨g, 0, none⟩) n cap)).heap.size _).alloc (Nat.le_refl _) (.cells #[.int .i64 (a : Int), .int .i64 (q : Int)] 114)
  exact ⟨rfl, r1.below hb2, r2.trans (KeptG.below hb2 (Nat.le_trans hb r2.bel.size))⟩
end Go.Proofs.YtgcfdjgfnagmjaaGreat

namespace Go.Proofs.YtgcfdjgfnagmjaaGreat
open Go.RowKit
section
variable {w : World} {base p g cap n c : Nat} {L : List Nod}
theorem pl_less (h : Pile w base p g cap L) (i j : Nat) (hi : i < L.length) (hj : j < L.length) :
    Calls Tryz.prog 128 #[.slice (some ⟨g, 0, none⟩) L.length cap, .int .i64 (i : Int), .int .i64 (j : Int)] w fun e w' => e = .returned (.bool (decide (Bm.lt2 (Bm.at2 L i) (Bm.at2 L j)))) ∧ Below w.heap.size w w' := by
  obtain ⟨post, _, hr⟩ := h.row
  have h1 := row2_cell (f := nodW) (h := nodP) hr i hi
  have h2 := row2_cell (f := nodW) (h := nodP) hr j hj
  unfold Bm.at2
  rw [List.getElem?_eq_getElem hi, List.getElem?_eq_getElem hj, Option.getD_some, Option.getD_some]
  exact upless_any g L.length cap i j L[i] L[j] w hi hj h1 h2
theorem pl_swap (h : Pile w base p g cap L) (i j : Nat) (hi : i < L.length) (hj : j < L.length) :
    Calls Tryz.prog 131 #[.slice (some ⟨g, 0, none⟩) L.length cap, .int .i64 (i : Int), .int .i64 (j : Int)] w fun e w' => e = .returned (.tuple #[]) ∧ Pile w' base p g cap (swp (0, 0) L i j) ∧ KeptG base p g w w' := by
  obtain ⟨post, hl, hr⟩ := h.row
  refine (upswap_any g cap i j L post w hi hj hr).mono ?_
  rintro e w' ⟨he, h1, h2⟩
  exact ⟨he, h.same (swp_length _ _ _ _) h2 hl h1, KeptG.grown h2 hr.lt (.inr rfl) h.lowg⟩
end
theorem ent_less : ∀ args w, (callFunc 128 args).run Tryz.prog w = .ok (.enter 128 args) w := enters_of Tryz.func128 (by kernel_rfl) rfl
theorem ent_swap : ∀ args w, (callFunc 131 args).run Tryz.prog w = .ok (.enter 131 args) w := enters_of Tryz.func131 (by kernel_rfl) rfl
theorem ent_len : ∀ args w, (callFunc 80 args).run Tryz.prog w = .ok (.enter 80 args) w := enters_of Tryz.func80 (by kernel_rfl) rfl
theorem ent_push : ∀ args w, (callFunc 130 args).run Tryz.prog w = .ok (.enter 130 args) w := enters_of Tryz.func130 (by kernel_rfl) rfl
theorem ent_pop : ∀ args w, (callFunc 129 args).run Tryz.prog w = .ok (.enter 129 args) w := enters_of Tryz.func129 (by kernel_rfl) rfl
set_option maxHeartbeats 4000000 in
set_option maxRecDepth 100000 in
theorem hpup_any (base p g cap j : Nat) (L : List Nod) (w : World) (hb : base ≤ w.heap.size) (hL : L.length ≤ 100000) (hj : j < L.length) (hp : Pile w base p g cap L) (hu : Bm.UpN L L.length j) :
    Calls Tryz.prog 102 #[.iface 111 (.pointer (some ⟨p, 0, none⟩)), .int .i64 (j : Int)] w fun e w' => e = .returned (.tuple #[]) ∧ ∃ L', L'.Perm L ∧ Bm.HeapN L' L'.length ∧ Pile w' base p g cap L' ∧ KeptG base p g w w' := by
  obtain ⟨n, hn⟩ : ∃ n, n = L.length := ⟨_, rfl⟩
  rw [← hn] at hL hj hu
  have Hn := Lib.hid hn
  have Hp := Lib.hid hp
  have Hu := Lib.hid hu
  clear hn hp hu
  go_enter Tryz.func102, Tryz.ntmps102
  go_wp2
  go_loopw [1] (fun jv wr => ∃ (j : Nat) (L' : List Nod), jv = .int .i64 (j : Int) ∧ j < n ∧ Hid (L'.Perm L) ∧ Hid (Bm.UpN L' n j) ∧ Hid (Pile wr base p g cap L') ∧ Hid (KeptG base p g w wr)) (fun jv _ => (intOf jv).toNat)
  case atStart => exact ⟨j, L, rfl, hj, Lib.hid (List.Perm.refl _), Hu, Hp, Lib.hid (KeptG.refl _ _ _ _)⟩
  case round =>
    obtain ⟨j, L', rfl, hj, hperm, hup, hpl, hk⟩ := hrel
    clear Hp Hu
    have hlen : L'.length = n := by rw [hperm.out.length_eq, Hn.out]
    have Hlen := Lib.hid hlen
    have c0 := hpl.out.cell
    rw [hlen] at c0
    clear hlen
    by_cases h0 : j = 0
    · subst h0
      have hfin : ∃ L', L'.Perm L ∧ Bm.HeapN L' L'.length ∧ Pile wr base p g cap L' ∧ KeptG base p g w wr := ⟨L', hperm.out, by rw [Hlen.out]; exact Bm.up_end0 _ _ hup.out, hpl.out, hk.out⟩
      have Hf := Lib.hid hfin
      clear hfin
      go_wp2
      go_end0
      exact ⟨rfl, Hf.out⟩
    · have mL := pm_less p n cap (some ⟨g, 0, none⟩) wr c0
      have eL := ent_less
      obtain ⟨i, hi⟩ : ∃ i, i = (j - 1) / 2 := ⟨_, rfl⟩
      have hq : ((j - 1 : Nat) : Int) / 2 = (i : Int) := by omega
      have hq2 : ((j : Int) - 1) / 2 = (i : Int) := by omega
      have hij : i < j := by omega
      have hl := pl_less hpl.out j i (by rw [Hlen.out]; exact hj) (by rw [Hlen.out]; omega)
      rw [Hlen.out] at hl
      have Hl := Lib.hid hl
      have Hi := Lib.hid hi
      clear hl hi
      obtain ⟨r, hr⟩ : ∃ r, r = decide (Bm.lt2 (Bm.at2 L' j) (Bm.at2 L' i)) := ⟨_, rfl⟩
      rw [← hr] at Hl
      have Hr := Lib.hid hr
      clear hr
      go_wp2_with fail
      refine Hl.out.mono ?_
      rintro e w1 ⟨rfl, hb1⟩
      clear hq hq2
      have hpl1 := hpl.out.below hb1
      have Hk1 := Lib.hid (hk.out.trans (KeptG.below hb1 (Nat.le_trans hb hk.out.bel.size)))
      have c1 := hpl1.cell
      rw [Hlen.out] at c1
      have Hpl1 := Lib.hid hpl1
      clear hb1 hpl1 mL eL c0 hk hpl Hl
      cases r with
      | false =>
        have hlt : ¬ Bm.lt2 (Bm.at2 L' j) (Bm.at2 L' i) := by have := Hr.out; simpa using this.symm
        rw [Hi.out] at hlt
        have hfin : ∃ L', L'.Perm L ∧ Bm.HeapN L' L'.length ∧ Pile w1 base p g cap L' ∧ KeptG base p g w w1 := ⟨L', hperm.out, by rw [Hlen.out]; exact Bm.up_end _ _ _ hup.out hlt, Hpl1.out, Hk1.out⟩
        have Hf := Lib.hid hfin
        clear hfin hlt
        go_wp2
        go_end0
        exact ⟨rfl, Hf.out⟩
      | true =>
        have hlt : Bm.lt2 (Bm.at2 L' j) (Bm.at2 L' i) := by have := Hr.out; simpa using this.symm
        have Hlt := Lib.hid hlt
        have mS := pm_swap p n cap (some ⟨g, 0, none⟩) w1 c1
        have eS := ent_swap
        have hs := pl_swap Hpl1.out i j (by rw [Hlen.out]; omega) (by rw [Hlen.out]; exact hj)
        rw [Hlen.out] at hs
        have Hs := Lib.hid hs
        clear hs hlt
        go_wp2_with fail
        refine Hs.out.mono ?_
        rintro e w2 ⟨rfl, hpl2, hk2⟩
        have hup2 : Bm.UpN (swp (0, 0) L' i j) n i := by
          have h1 := Bm.up_step L' n j (by rw [Hlen.out]; exact Nat.le_refl _) hj (by omega) hup.out (by rw [← Hi.out]; exact Hlt.out)
          rw [← Hi.out] at h1
          exact h1
        have Hup2 := Lib.hid hup2
        have Hpl2 := Lib.hid hpl2
        have Hk2 := Lib.hid (Hk1.out.trans hk2)
        have Hpm2 := Lib.hid ((Bm.swp_perm L' i j (by rw [Hlen.out]; omega) (by rw [Hlen.out]; exact hj)).trans hperm.out)
        clear hup2 hpl2 hk2 mS eS Hs c1
        go_wp2
        go_roundw
        case rel => exact ⟨i, swp (0, 0) L' i j, rfl, by omega, Hpm2, Hup2, Hpl2, Hk2⟩
        case measure => simp [intOf]; omega
end Go.Proofs.YtgcfdjgfnagmjaaGreat

namespace Go.Proofs.YtgcfdjgfnagmjaaGreat
open Go.RowKit
/-- Some Boolean is answered. -/
def BoolEnd (e : Ending) : Prop := ∃ b, e = .returned (.bool b)
theorem bool_end (b : Bool) : BoolEnd (.returned (.bool b)) := ⟨b, rfl⟩
set_option maxHeartbeats 1000000 in
set_option maxRecDepth 100000 in
theorem hpdown_any (base p g cap n : Nat) (L : List Nod) (w : World) (hb : base ≤ w.heap.size) (hL : L.length ≤ 100000) (hn : n < L.length) (hp : Pile w base p g cap L) (hd : Bm.DownN L n 0) :
    Calls Tryz.prog 103 #[.iface 111 (.pointer (some ⟨p, 0, none⟩)), .int .i64 0, .int .i64 (n : Int)] w fun e w' => BoolEnd e ∧ ∃ L', L'.Perm L ∧ Bm.HeapN L' n ∧ (∀ k, n ≤ k → Bm.at2 L' k = Bm.at2 L k) ∧ Pile w' base p g cap L' ∧ KeptG base p g w w' := by
  obtain ⟨nL, hnL⟩ : ∃ nL, nL = L.length := ⟨_, rfl⟩
  rw [← hnL] at hL hn
  have HnL := Lib.hid hnL
  have Hp := Lib.hid hp
  have Hd := Lib.hid hd
  clear hnL hp hd
  go_enter Tryz.func103, Tryz.ntmps103
  go_wp2
  go_loopw [7] (fun iv wr => ∃ (i : Nat) (L' : List Nod), iv = .int .i64 (i : Int) ∧ i ≤ n ∧ Hid (L'.Perm L) ∧ Hid (∀ k, n ≤ k → Bm.at2 L' k = Bm.at2 L k) ∧ Hid (Bm.DownN L' n i) ∧ Hid (Pile wr base p g cap L') ∧ Hid (KeptG base p g w wr)) (fun iv _ => n - (intOf iv).toNat)
  case atStart => exact ⟨0, L, rfl, by omega, Lib.hid (List.Perm.refl _), Lib.hid (fun _ _ => rfl), Hd, Hp, Lib.hid (KeptG.refl _ _ _ _)⟩
  case round =>
    obtain ⟨i, L', rfl, hi, hperm, hsame, hdn, hpl, hk⟩ := hrel
    clear Hp Hd
    have hlen : L'.length = nL := by rw [hperm.out.length_eq, HnL.out]
    have Hlen := Lib.hid hlen
    have c0 := hpl.out.cell
    rw [hlen] at c0
    clear hlen
    by_cases h1 : n ≤ 2 * i + 1
    · have hfin : ∃ L', L'.Perm L ∧ Bm.HeapN L' n ∧ (∀ k, n ≤ k → Bm.at2 L' k = Bm.at2 L k) ∧ Pile wr base p g cap L' ∧ KeptG base p g w wr := ⟨L', hperm.out, Bm.down_end _ _ _ hdn.out (fun k k0 kn ki => by omega), hsame.out, hpl.out, hk.out⟩
      have Hf := Lib.hid hfin
      clear hfin
      go_wp2
      go_ret
      exact ⟨bool_end _, Hf.out⟩
    · by_cases h2 : n ≤ 2 * i + 2
      · have Hleast : Hid (∀ k, 0 < k → k < n → (k - 1) / 2 = i → ¬ Bm.lt2 (Bm.at2 L' k) (Bm.at2 L' (2 * i + 1))) := Lib.hid (fun k k0 kn ki => by
          obtain rfl : k = 2 * i + 1 := by omega
          rw [Bm.lt2_iff]
          omega)
        have mL2 := pm_less p nL cap (some ⟨g, 0, none⟩) wr c0
        have eL2 := ent_less
        have hl2 := pl_less hpl.out (2 * i + 1) i (by rw [Hlen.out]; omega) (by rw [Hlen.out]; omega)
        rw [Hlen.out] at hl2
        obtain ⟨r2, hr2⟩ : ∃ r2, r2 = decide (Bm.lt2 (Bm.at2 L' (2 * i + 1)) (Bm.at2 L' i)) := ⟨_, rfl⟩
        rw [← hr2] at hl2
        have Hr2 := Lib.hid hr2
        have Hl2 := Lib.hid hl2
        clear hr2 hl2
        have hcast : Value.int IntKind.i64 (((2 * i + 1 : Nat)) : Int) = .int .i64 (2 * (i : Int) + 1) := by go_num
        rw [hcast] at Hl2
        clear hcast
        go_wp2_with fail
        refine Hl2.out.mono ?_
        rintro e w3 ⟨rfl, hb3⟩
        have hpl3 := hpl.out.below hb3
        have Hk3 := Lib.hid (hk.out.trans (KeptG.below hb3 (Nat.le_trans hb hk.out.bel.size)))
        have c3 := hpl3.cell
        rw [Hlen.out] at c3
        have Hpl3 := Lib.hid hpl3
        clear hb3 hpl3 mL2 eL2 c0 Hl2
        cases r2 with
        | false =>
          have hlt : ¬ Bm.lt2 (Bm.at2 L' (2 * i + 1)) (Bm.at2 L' i) := by have := Hr2.out; simpa using this.symm
          have hfin : ∃ L', L'.Perm L ∧ Bm.HeapN L' n ∧ (∀ k, n ≤ k → Bm.at2 L' k = Bm.at2 L k) ∧ Pile w3 base p g cap L' ∧ KeptG base p g w w3 := ⟨L', hperm.out, Bm.down_end _ _ _ hdn.out (fun k k0 kn ki => by
            have h1 := Hleast.out k k0 kn ki
            rw [Bm.lt2_iff] at h1 hlt ⊢
            omega), hsame.out, Hpl3.out, Hk3.out⟩
          have Hf := Lib.hid hfin
          clear hfin hlt
          go_wp2
          go_ret
          exact ⟨bool_end _, Hf.out⟩
        | true =>
          have hlt : Bm.lt2 (Bm.at2 L' (2 * i + 1)) (Bm.at2 L' i) := by have := Hr2.out; simpa using this.symm
          have Hlt := Lib.hid hlt
          have mS := pm_swap p nL cap (some ⟨g, 0, none⟩) w3 c3
          have eS := ent_swap
          have hs := pl_swap Hpl3.out i (2 * i + 1) (by rw [Hlen.out]; omega) (by rw [Hlen.out]; omega)
          rw [Hlen.out] at hs
          have Hs := Lib.hid hs
          clear hs hlt
          go_wp2_with fail
          refine Hs.out.mono ?_
          rintro e w4 ⟨rfl, hpl4, hk4⟩
          have Hdn4 := Lib.hid (Bm.down_step L' n i (2 * i + 1) (by rw [Hlen.out]; omega) (by omega) (by omega) (by omega) hdn.out Hlt.out Hleast.out)
          have Hpl4 := Lib.hid hpl4
          have Hk4 := Lib.hid (Hk3.out.trans hk4)
          have Hpm4 := Lib.hid ((Bm.swp_perm L' i (2 * i + 1) (by rw [Hlen.out]; omega) (by rw [Hlen.out]; omega)).trans hperm.out)
          have Hsm4 : Hid (∀ k, n ≤ k → Bm.at2 (swp (0, 0) L' i (2 * i + 1)) k = Bm.at2 L k) := Lib.hid (fun k hk => by
            rw [Bm.swp_at L' i (2 * i + 1) k (by rw [Hlen.out]; omega) (by rw [Hlen.out]; omega), if_neg (by omega), if_neg (by omega)]
            exact hsame.out k hk)
          clear hpl4 hk4 mS eS Hs c3
          go_wp2
          go_roundw
          case rel => exact ⟨(2 * i + 1), swp (0, 0) L' i (2 * i + 1), by go_num, by omega, Hpm4, Hsm4, Hdn4, Hpl4, Hk4⟩
          case measure => simp [intOf]; omega
      · have mL := pm_less p nL cap (some ⟨g, 0, none⟩) wr c0
        have eL := ent_less
        have hl := pl_less hpl.out (2 * i + 2) (2 * i + 1) (by rw [Hlen.out]; omega) (by rw [Hlen.out]; omega)
        rw [Hlen.out] at hl
        obtain ⟨r, hr⟩ : ∃ r, r = decide (Bm.lt2 (Bm.at2 L' (2 * i + 2)) (Bm.at2 L' (2 * i + 1))) := ⟨_, rfl⟩
        rw [← hr] at hl
        have Hr := Lib.hid hr
        rw [show ((2 * i + 2 : Nat) : Int) = 2 * (i : Int) + 1 + 1 by omega, show ((2 * i + 1 : Nat) : Int) = 2 * (i : Int) + 1 by omega] at hl
        have Hl := Lib.hid hl
        clear hr hl
        go_wp2_with fail
        refine Hl.out.mono ?_
        rintro e w1 ⟨rfl, hb1⟩
        have hpl1 := hpl.out.below hb1
        have Hk1 := Lib.hid (hk.out.trans (KeptG.below hb1 (Nat.le_trans hb hk.out.bel.size)))
        have c1 := hpl1.cell
        rw [Hlen.out] at c1
        have Hpl1 := Lib.hid hpl1
        clear hb1 hpl1 mL eL c0 hk hpl Hl
        cases r with
        | false =>
          have hlt : ¬ Bm.lt2 (Bm.at2 L' (2 * i + 2)) (Bm.at2 L' (2 * i + 1)) := by have := Hr.out; simpa using this.symm
          have Hleast : Hid (∀ k, 0 < k → k < n → (k - 1) / 2 = i → ¬ Bm.lt2 (Bm.at2 L' k) (Bm.at2 L' (2 * i + 1))) := Lib.hid (fun k k0 kn ki => by
            obtain rfl | rfl : k = 2 * i + 1 ∨ k = 2 * i + 2 := by omega
            · rw [Bm.lt2_iff]
              omega
            · exact hlt)
          clear hlt
          have mL2 := pm_less p nL cap (some ⟨g, 0, none⟩) w1 c1
          have eL2 := ent_less
          have hl2 := pl_less Hpl1.out (2 * i + 1) i (by rw [Hlen.out]; omega) (by rw [Hlen.out]; omega)
          rw [Hlen.out] at hl2
          obtain ⟨r2, hr2⟩ : ∃ r2, r2 = decide (Bm.lt2 (Bm.at2 L' (2 * i + 1)) (Bm.at2 L' i)) := ⟨_, rfl⟩
          rw [← hr2] at hl2
          have Hr2 := Lib.hid hr2
          have Hl2 := Lib.hid hl2
          clear hr2 hl2
          have hcast : Value.int IntKind.i64 (((2 * i + 1 : Nat)) : Int) = .int .i64 (2 * (i : Int) + 1) := by go_num
          rw [hcast] at Hl2
          clear hcast
          go_wp2_with fail
          refine Hl2.out.mono ?_
          rintro e w3 ⟨rfl, hb3⟩
          have hpl3 := Hpl1.out.below hb3
          have Hk3 := Lib.hid (Hk1.out.trans (KeptG.below hb3 (Nat.le_trans hb Hk1.out.bel.size)))
          have c3 := hpl3.cell
          rw [Hlen.out] at c3
          have Hpl3 := Lib.hid hpl3
          clear hb3 hpl3 mL2 eL2 c1 Hl2
          cases r2 with
          | false =>
            have hlt : ¬ Bm.lt2 (Bm.at2 L' (2 * i + 1)) (Bm.at2 L' i) := by have := Hr2.out; simpa using this.symm
            have hfin : ∃ L', L'.Perm L ∧ Bm.HeapN L' n ∧ (∀ k, n ≤ k → Bm.at2 L' k = Bm.at2 L k) ∧ Pile w3 base p g cap L' ∧ KeptG base p g w w3 := ⟨L', hperm.out, Bm.down_end _ _ _ hdn.out (fun k k0 kn ki => by
              have h1 := Hleast.out k k0 kn ki
              rw [Bm.lt2_iff] at h1 hlt ⊢
              omega), hsame.out, Hpl3.out, Hk3.out⟩
            have Hf := Lib.hid hfin
            clear hfin hlt
            go_wp2
            go_ret
            exact ⟨bool_end _, Hf.out⟩
          | true =>
            have hlt : Bm.lt2 (Bm.at2 L' (2 * i + 1)) (Bm.at2 L' i) := by have := Hr2.out; simpa using this.symm
            have Hlt := Lib.hid hlt
            have mS := pm_swap p nL cap (some ⟨g, 0, none⟩) w3 c3
            have eS := ent_swap
            have hs := pl_swap Hpl3.out i (2 * i + 1) (by rw [Hlen.out]; omega) (by rw [Hlen.out]; omega)
            rw [Hlen.out] at hs
            have Hs := Lib.hid hs
            clear hs hlt
            go_wp2_with fail
            refine Hs.out.mono ?_
            rintro e w4 ⟨rfl, hpl4, hk4⟩
            have Hdn4 := Lib.hid (Bm.down_step L' n i (2 * i + 1) (by rw [Hlen.out]; omega) (by omega) (by omega) (by omega) hdn.out Hlt.out Hleast.out)
            have Hpl4 := Lib.hid hpl4
            have Hk4 := Lib.hid (Hk3.out.trans hk4)
            have Hpm4 := Lib.hid ((Bm.swp_perm L' i (2 * i + 1) (by rw [Hlen.out]; omega) (by rw [Hlen.out]; omega)).trans hperm.out)
            have Hsm4 : Hid (∀ k, n ≤ k → Bm.at2 (swp (0, 0) L' i (2 * i + 1)) k = Bm.at2 L k) := Lib.hid (fun k hk => by
              rw [Bm.swp_at L' i (2 * i + 1) k (by rw [Hlen.out]; omega) (by rw [Hlen.out]; omega), if_neg (by omega), if_neg (by omega)]
              exact hsame.out k hk)
            clear hpl4 hk4 mS eS Hs c3
            go_wp2
            go_roundw
            case rel => exact ⟨(2 * i + 1), swp (0, 0) L' i (2 * i + 1), by go_num, by omega, Hpm4, Hsm4, Hdn4, Hpl4, Hk4⟩
            case measure => simp [intOf]; omega
        | true =>
          have hlt : Bm.lt2 (Bm.at2 L' (2 * i + 2)) (Bm.at2 L' (2 * i + 1)) := by have := Hr.out; simpa using this.symm
          have Hleast : Hid (∀ k, 0 < k → k < n → (k - 1) / 2 = i → ¬ Bm.lt2 (Bm.at2 L' k) (Bm.at2 L' (2 * i + 2))) := Lib.hid (fun k k0 kn ki => by
            obtain rfl | rfl : k = 2 * i + 1 ∨ k = 2 * i + 2 := by omega
            · rw [Bm.lt2_iff] at hlt ⊢
              omega
            · rw [Bm.lt2_iff]
              omega)
          clear hlt
          have mL2 := pm_less p nL cap (some ⟨g, 0, none⟩) w1 c1
          have eL2 := ent_less
          have hl2 := pl_less Hpl1.out (2 * i + 2) i (by rw [Hlen.out]; omega) (by rw [Hlen.out]; omega)
          rw [Hlen.out] at hl2
          obtain ⟨r2, hr2⟩ : ∃ r2, r2 = decide (Bm.lt2 (Bm.at2 L' (2 * i + 2)) (Bm.at2 L' i)) := ⟨_, rfl⟩
          rw [← hr2] at hl2
          have Hr2 := Lib.hid hr2
          have Hl2 := Lib.hid hl2
          clear hr2 hl2
          have hcast : Value.int IntKind.i64 (((2 * i + 2 : Nat)) : Int) = .int .i64 (2 * (i : Int) + 1 + 1) := by go_num
          rw [hcast] at Hl2
          clear hcast
          go_wp2_with fail
          refine Hl2.out.mono ?_
          rintro e w3 ⟨rfl, hb3⟩
          have hpl3 := Hpl1.out.below hb3
          have Hk3 := Lib.hid (Hk1.out.trans (KeptG.below hb3 (Nat.le_trans hb Hk1.out.bel.size)))
          have c3 := hpl3.cell
          rw [Hlen.out] at c3
          have Hpl3 := Lib.hid hpl3
          clear hb3 hpl3 mL2 eL2 c1 Hl2
          cases r2 with
          | false =>
            have hlt : ¬ Bm.lt2 (Bm.at2 L' (2 * i + 2)) (Bm.at2 L' i) := by have := Hr2.out; simpa using this.symm
            have hfin : ∃ L', L'.Perm L ∧ Bm.HeapN L' n ∧ (∀ k, n ≤ k → Bm.at2 L' k = Bm.at2 L k) ∧ Pile w3 base p g cap L' ∧ KeptG base p g w w3 := ⟨L', hperm.out, Bm.down_end _ _ _ hdn.out (fun k k0 kn ki => by
              have h1 := Hleast.out k k0 kn ki
              rw [Bm.lt2_iff] at h1 hlt ⊢
              omega), hsame.out, Hpl3.out, Hk3.out⟩
            have Hf := Lib.hid hfin
            clear hfin hlt
            go_wp2
            go_ret
            exact ⟨bool_end _, Hf.out⟩
          | true =>
            have hlt : Bm.lt2 (Bm.at2 L' (2 * i + 2)) (Bm.at2 L' i) := by have := Hr2.out; simpa using this.symm
            have Hlt := Lib.hid hlt
            have mS := pm_swap p nL cap (some ⟨g, 0, none⟩) w3 c3
            have eS := ent_swap
            have hs := pl_swap Hpl3.out i (2 * i + 2) (by rw [Hlen.out]; omega) (by rw [Hlen.out]; omega)
            rw [Hlen.out] at hs
            have Hs := Lib.hid hs
            clear hs hlt
            go_wp2_with fail
            refine Hs.out.mono ?_
            rintro e w4 ⟨rfl, hpl4, hk4⟩
            have Hdn4 := Lib.hid (Bm.down_step L' n i (2 * i + 2) (by rw [Hlen.out]; omega) (by omega) (by omega) (by omega) hdn.out Hlt.out Hleast.out)
            have Hpl4 := Lib.hid hpl4
            have Hk4 := Lib.hid (Hk3.out.trans hk4)
            have Hpm4 := Lib.hid ((Bm.swp_perm L' i (2 * i + 2) (by rw [Hlen.out]; omega) (by rw [Hlen.out]; omega)).trans hperm.out)
            have Hsm4 : Hid (∀ k, n ≤ k → Bm.at2 (swp (0, 0) L' i (2 * i + 2)) k = Bm.at2 L k) := Lib.hid (fun k hk => by
              rw [Bm.swp_at L' i (2 * i + 2) k (by rw [Hlen.out]; omega) (by rw [Hlen.out]; omega), if_neg (by omega), if_neg (by omega)]
              exact hsame.out k hk)
            clear hpl4 hk4 mS eS Hs c3
            go_wp2
            go_roundw
            case rel => exact ⟨(2 * i + 2), swp (0, 0) L' i (2 * i + 2), by go_num, by omega, Hpm4, Hsm4, Hdn4, Hpl4, Hk4⟩
            case measure => simp [intOf]; omega
end Go.Proofs.YtgcfdjgfnagmjaaGreat

namespace Go.Proofs.YtgcfdjgfnagmjaaGreat
open Go.RowKit
/-- A pile that is a heap, wherever its nodes lie. -/
def PileH (w : World) (base p : Nat) (L : List Nod) : Prop := Bm.HeapN L L.length ∧ ∃ g cap, Pile w base p g cap L
set_option maxHeartbeats 1000000 in
set_option maxRecDepth 100000 in
theorem hppush_any (base p a q : Nat) (L : List Nod) (w : World) (hb : base ≤ w.heap.size) (hL : L.length < 100000) (hp : PileH w base p L) :
    Calls Tryz.prog 94 #[.iface 111 (.pointer (some ⟨p, 0, none⟩)), .iface 114 (.agg #[.int .i64 (a : Int), .int .i64 (q : Int)])] w fun e w' => e = .returned (.tuple #[]) ∧ ∃ L', L'.Perm ((a, q) :: L) ∧ PileH w' base p L' ∧ KeptP base w w' := by
  obtain ⟨hh, g, cap, hpl⟩ := hp
  have Hpush := Lib.hid (uppush_any base p g cap a q L w hb (by omega) hpl)
  have Hh := Lib.hid hh
  clear hh hpl
  have mP := pm_push p w
  have eP := ent_push
  go_enter Tryz.func94, Tryz.ntmps94
  go_wp2_with fail
  refine Hpush.out.mono ?_
  rintro e w1 ⟨rfl, g1, cap1, hpl1, hk1⟩
  have hlen : (L ++ [(a, q)]).length = L.length + 1 := by simp
  have c1 := hpl1.cell
  rw [hlen] at c1
  have hup := hpup_any base p g1 cap1 L.length (L ++ [(a, q)]) w1 (Nat.le_trans hb hk1.bel.size) (by omega) (by omega) hpl1 (by rw [hlen]; exact Bm.heap_push L (a, q) Hh.out)
  have Hup := Lib.hid hup
  have Hk1 := Lib.hid hk1
  have Hpl1 := Lib.hid hpl1
  have mN := pm_len p (L.length + 1) cap1 (some ⟨g1, 0, none⟩) w1 c1
  have eN := ent_len
  have Hlen : Hid (∀ W, Calls Tryz.prog 80 #[.slice (some ⟨g1, 0, none⟩) (L.length + 1) cap1] W fun e w' => e = .returned (.int .i64 ((L.length : Int) + 1)) ∧ W = w') := Lib.hid (fun W => by
    have h1 := uplen_any (some ⟨g1, 0, none⟩) (L.length + 1) cap1 W
    rw [Int.natCast_add] at h1
    exact h1)
  clear hup hk1 hpl1 hlen mP eP Hpush Hh
  go_wp2_with fail
  refine (Hlen.out _).mono ?_
  rintro e w2 ⟨rfl, rfl⟩
  clear mN eN c1 Hlen
  go_wp2_with fail
  refine Hup.out.mono ?_
  rintro e w2 ⟨rfl, L', hpm, hhp, hpl2, hk2⟩
  have hfin : ∃ L', L'.Perm ((a, q) :: L) ∧ PileH w2 base p L' ∧ KeptP base w w2 := ⟨L', hpm.trans (List.perm_append_singleton _ _), ⟨hhp, _, _, hpl2⟩, Hk1.out.trans (hk2.kept Hpl1.out)⟩
  have Hf := Lib.hid hfin
  clear hfin hpm hhp hpl2 hk2 Hup
  go_wp2
  go_end0
  exact ⟨rfl, Hf.out⟩
/-- What Pop answers, and leaves. -/
def PopG (w w' : World) (base p g cap : Nat) (L : List Nod) (a q : Nat) : Prop := ∃ L', L.Perm ((a, q) :: L') ∧ (∀ y ∈ L', ¬ Bm.lt2 y (a, q)) ∧ Bm.HeapN L' L'.length ∧ Pile w' base p g cap L' ∧ KeptG base p g w w'
def PopP (w w' : World) (base p : Nat) (L : List Nod) (a q : Nat) : Prop := ∃ L', L.Perm ((a, q) :: L') ∧ (∀ y ∈ L', ¬ Bm.lt2 y (a, q)) ∧ PileH w' base p L' ∧ KeptP base w w'
theorem popP_fin {w w' : World} {base p g cap n : Nat} {L L2 : List Nod} (hn : L.length = n + 1) (hh : Bm.HeapN L L.length) (hpm : L2.Perm (swp (0, 0) L 0 n)) (hh2 : Bm.HeapN L2 n) (hat : ∀ k, n ≤ k → Bm.at2 L2 k = Bm.at2 (swp (0, 0) L 0 n) k) (hpl : Pile w' base p g cap (L2.take n)) (hk : KeptG base p g w w') :
    L2[n]?.getD (0, 0) = Bm.at2 L 0 ∧ PopG w w' base p g cap L (Bm.at2 L 0).1 (Bm.at2 L 0).2 := by
  have hpm2 := hpm.trans (Bm.swp_perm L 0 n (by omega) (by omega))
  have hl2 : L2.length = n + 1 := by rw [hpm2.length_eq, hn]
  have he : Bm.at2 L2 n = Bm.at2 L 0 := by
    rw [hat n (Nat.le_refl _), Bm.swp_at L 0 n n (by omega) (by omega), if_pos rfl]
  have hL2 : L2 = L2.take n ++ [Bm.at2 L 0] := by
    rw [← he]
    unfold Bm.at2
    rw [List.getElem?_eq_getElem (by omega), Option.getD_some, ← List.take_succ_eq_append_getElem (by omega), List.take_of_length_le (by omega)]
  have hperm : L.Perm (Bm.at2 L 0 :: L2.take n) := hpm2.symm.trans (by
    conv => lhs; rw [hL2]
    exact List.perm_append_singleton _ _)
  refine ⟨he, L2.take n, hperm, fun y hy => ?_, ?_, hpl, hk⟩
  · have hy2 : y ∈ L := hperm.mem_iff.2 (List.mem_cons_of_mem _ hy)
    obtain ⟨k, hk, rfl⟩ := List.mem_iff_getElem.1 hy2
    have h1 := Bm.heap_least L L.length hh k hk
    unfold Bm.at2 at h1
    rw [List.getElem?_eq_getElem hk, Option.getD_some] at h1
    exact h1
  · rw [List.length_take, Nat.min_eq_left (by omega)]
    exact Bm.heap_take L2 n hh2
set_option maxHeartbeats 1000000 in
set_option maxRecDepth 100000 in
theorem hppop_any (base p g cap n : Nat) (L : List Nod) (w : World) (hb : base ≤ w.heap.size) (hL : L.length ≤ 100000) (hn : L.length = n + 1) (hh : Bm.HeapN L L.length) (hpl : Pile w base p g cap L) :
    Calls Tryz.prog 95 #[.iface 111 (.pointer (some ⟨p, 0, none⟩))] w fun e w' => e = .returned (.iface 114 (.agg #[.int .i64 ((Bm.at2 L 0).1 : Int), .int .i64 ((Bm.at2 L 0).2 : Int)])) ∧ PopG w w' base p g cap L (Bm.at2 L 0).1 (Bm.at2 L 0).2 := by
  have hn1 : n ≤ 100000 := by omega
  have Hh := Lib.hid hh
  have c0 := hpl.cell
  rw [hn] at c0
  have Hsw := pl_swap hpl 0 n (by omega) (by omega)
  rw [hn] at Hsw
  have Hs := Lib.hid Hsw
  have Hlen : Hid (∀ W, Calls Tryz.prog 80 #[.slice (some ⟨g, 0, none⟩) (n + 1) cap] W fun e w' => e = .returned (.int .i64 ((n : Int) + 1)) ∧ W = w') := Lib.hid (fun W => by
    have h1 := uplen_any (some ⟨g, 0, none⟩) (n + 1) cap W
    rw [Int.natCast_add] at h1
    exact h1)
  have HL := Lib.hid hL
  have Hn := Lib.hid hn
  have mN := pm_len p (n + 1) cap (some ⟨g, 0, none⟩) w c0
  have eN := ent_len
  have mS := pm_swap p (n + 1) cap (some ⟨g, 0, none⟩) w c0
  have eS := ent_swap
  obtain ⟨a, ha⟩ : ∃ a, a = (Bm.at2 L 0).1 := ⟨_, rfl⟩
  obtain ⟨q, hq⟩ : ∃ q, q = (Bm.at2 L 0).2 := ⟨_, rfl⟩
  rw [← ha, ← hq]
  have Ha := Lib.hid ha
  have Hq := Lib.hid hq
  clear hh hpl Hsw hn hL ha hq c0
  go_enter Tryz.func95, Tryz.ntmps95
  go_wp2_with fail
  refine (Hlen.out _).mono ?_
  rintro e w2 ⟨rfl, rfl⟩
  clear mN eN Hlen
  go_wp2_with fail
  refine Hs.out.mono ?_
  rintro e w1 ⟨rfl, hpl1, hk1⟩
  have hb1 := Nat.le_trans hb hk1.bel.size
  have Hdn := Lib.hid (hpdown_any base p g cap n (swp (0, 0) L 0 n) w1 hb1 (by rw [swp_length]; exact HL.out) (by rw [swp_length, Hn.out]; omega) hpl1 (Bm.heap_pop L n Hn.out (by have h1 := Hh.out; rw [Hn.out] at h1; exact h1)))
  have Hk1 := Lib.hid hk1
  clear hpl1 hk1 mS eS Hs
  go_wp2_with fail
  refine Hdn.out.mono ?_
  rintro e w2 ⟨hbe, L2, hpm, hh2, hat, hpl2, hk2⟩
  obtain ⟨b0, rfl⟩ := hbe
  have hl2 : L2.length = n + 1 := by rw [hpm.length_eq, swp_length, Hn.out]
  have Hpop := Lib.hid (uppop_any base p g cap n L2 w2 (Nat.le_trans hb1 hk2.bel.size) (by have := HL.out; have := Hn.out; omega) hl2 hpl2)
  have Hk2 := Lib.hid (Hk1.out.trans hk2)
  have Hpm := Lib.hid hpm
  have Hh2 := Lib.hid hh2
  have Hat := Lib.hid hat
  clear hpm hh2 hat hpl2 hk2 hl2 Hdn Hk1 hb1
  have mP := pm_pop p w2
  have eP := ent_pop
  go_wp2_with fail
  refine Hpop.out.mono ?_
  rintro e w3 ⟨rfl, hpl3, hk3⟩
  obtain ⟨he, hfin⟩ := popP_fin Hn.out Hh.out Hpm.out Hh2.out Hat.out hpl3 (Hk2.out.trans hk3)
  have Hf : Hid (PopG w w3 base p g cap L a q) := Lib.hid (by rw [Ha.out, Hq.out]; exact hfin)
  have Hv : Hid (Value.iface 114 (.agg #[nodW (L2[n]?.getD (0, 0)), nodP (L2[n]?.getD (0, 0))]) = .iface 114 (.agg #[.int .i64 (a : Int), .int .i64 (q : Int)])) := Lib.hid (by rw [he, Ha.out, Hq.out]; rfl)
  rw [Hv.out]
  clear he hfin hpl3 hk3 Hpop Hv mP eP
  go_wp2
  go_ret
  exact ⟨rfl, Hf.out⟩
theorem Pile.keepb {w w' : World} {base p g cap : Nat} {L : List Nod} (h : Pile w base p g cap L) (hp : w'.heap[p]? = w.heap[p]?) (hg : w'.heap[g]? = w.heap[g]?) : Pile w' base p g cap L := by
  obtain ⟨post, h1, hr⟩ := h.row
  exact ⟨h.lowp, h.lowg, h.fits, h.most, h.var.keep hp, post, h1, hr.keep hg⟩
theorem light_end {w w1 w2 : World} {base : Nat} (hk : KeptP base w w1) (hB : Below w.heap.size w1 w2) (hb : base ≤ w.heap.size) : KeptP base w w2 :=
  ⟨hk.bel.trans (hB.mono hb), fun b t cs h1 h2 hr => (hk.rows b t cs h1 h2 hr).keep (hB.block b hr.lt)⟩
set_option maxHeartbeats 1000000 in
set_option maxRecDepth 100000 in
theorem ulight_any (base p n : Nat) (L : List Nod) (w : World) (hb : base ≤ w.heap.size) (hL : L.length ≤ 100000) (hn : L.length = n + 1) (hp : PileH w base p L) :
    Calls Tryz.prog 81 #[.pointer (some ⟨p, 0, none⟩)] w fun e w' => e = .returned (.agg #[.int .i64 ((Bm.at2 L 0).1 : Int), .int .i64 ((Bm.at2 L 0).2 : Int)]) ∧ PopP w w' base p L (Bm.at2 L 0).1 (Bm.at2 L 0).2 := by
  obtain ⟨hh, g, cap, hpl⟩ := hp
  have hal := (Below.refl w.heap.size w).alloc (Nat.le_refl _) (.cells #[.int .i64 0, .int .i64 0] 114)
  have hp1 := hpl.below hal
  have Hpop := Lib.hid (hppop_any base p g cap n L _ (Nat.le_trans hb hal.size) hL hn hh hp1)
  have Hal := Lib.hid hal
  have Hb := Lib.hid hb
  obtain ⟨a, ha⟩ : ∃ a, a = (Bm.at2 L 0).1 := ⟨_, rfl⟩
  obtain ⟨q, hq⟩ : ∃ q, q = (Bm.at2 L 0).2 := ⟨_, rfl⟩
  rw [← ha, ← hq] at Hpop ⊢
  have hta := fun W => ta_node (.agg #[.int .i64 (a : Int), .int .i64 (q : Int)]) W
  have Hplt := Lib.hid hpl.var.lt
  have Hglt : Hid (g < w.heap.size) := Lib.hid (by obtain ⟨_, _, hr⟩ := hpl.row; exact hr.lt)
  have Hpl0 := Lib.hid hpl
  clear hh hpl hal hp1 hL hn ha hq
  go_enter Tryz.func81, Tryz.ntmps81
  go_wp2_with fail
  refine Hpop.out.mono ?_
  rintro e w1 ⟨rfl, hpp⟩
  obtain ⟨L', hpm, hle, hhp, hpl1, hk1⟩ := hpp
  have hrow : Row w1 w.heap.size 114 [.int .i64 0, .int .i64 0] := (Row.new w 114 [.int .i64 0, .int .i64 0]).keep (hk1.blk _ (by simp) (by have := Hplt.out; omega) (by have := Hglt.out; omega))
  have k0 := hrow.cell 0
  have k1 := hrow.cell 1
  have f0 := hrow.free 0
  have f1 := hrow.free 1
  simp only [List.getElem?_cons_zero, List.getElem?_cons_succ] at k0 k1
  have hlt := hrow.lt
  have Hrow := Lib.hid hrow
  have Hfin : Hid (∃ L', L.Perm ((a, q) :: L') ∧ (∀ y ∈ L', ¬ Bm.lt2 y (a, q)) ∧ Bm.HeapN L' L'.length ∧ Pile w1 base p g cap L' ∧ KeptG base p g w w1) := Lib.hid ⟨L', hpm, hle, hhp, hpl1, (KeptG.below Hal.out Hb.out).trans hk1⟩
  clear hpm hle hhp hpl1 hk1 hrow Hpop
  go_wp2_with fail
  have hres : Row (((w1.setCell ⟨w.heap.size, 0, none⟩ (.int .i64 (a : Int))).setCell ⟨w.heap.size, 1, none⟩ (.int .i64 (q : Int))).alloc (.cells #[.int .i64 (a : Int), .int .i64 (q : Int)] 114)) w.heap.size 114 [.int .i64 (a : Int), .int .i64 (q : Int)] := ((Hrow.out.set_ 0 _).set_ 1 _).alloc _
  refine bodyPost_ret (results_cell_row rfl _ _ w.heap.size 114 #[.int .i64 (a : Int), .int .i64 (q : Int)] (0, 0) _ rfl hres Tryz.underlying114 rfl (by kernel_rfl)) rfl ?_
  refine ⟨rfl, ?_⟩
  obtain ⟨L', hpm, hle, hhp, hpl1, hk1⟩ := Hfin.out
  have hB : Below w.heap.size w1 (((w1.setCell ⟨w.heap.size, 0, none⟩ (.int .i64 (a : Int))).setCell ⟨w.heap.size, 1, none⟩ (.int .i64 (q : Int))).alloc (.cells #[.int .i64 (a : Int), .int .i64 (q : Int)] 114)) :=
    (((Below.refl _ _).setCell (by exact Nat.le_refl _) _).setCell (by exact Nat.le_refl _) _).alloc (by simpa [World.setCell] using Nat.le_of_lt hlt) _
  exact ⟨L', hpm, hle, ⟨hhp, g, cap, hpl1.keepb (hB.block p Hplt.out) (hB.block g Hglt.out)⟩, light_end (hk1.kept Hpl0.out) hB Hb.out⟩
end Go.Proofs.YtgcfdjgfnagmjaaGreat

namespace Go.Proofs.YtgcfdjgfnagmjaaGreat
open Go.RowKit
set_option maxHeartbeats 1000000 in
set_option maxRecDepth 100000 in
theorem ulvs_any (A : Option Addr) (c : Nat) (cs : List Nat) (w : World) (hl : cs.length ≤ 256) (hr : Reads w A (i64s cs)) :
    Calls Tryz.prog 79 #[.slice A cs.length c] w fun e w' => ∃ p L, e = .returned (.pointer (some ⟨p, 0, none⟩)) ∧ L.Perm (Bm.lvs cs) ∧ PileH w' w.heap.size p L ∧ Below w.heap.size w w' := by
  have Hr := Lib.hid hr
  clear hr
  go_enter Tryz.func79, Tryz.ntmps79
  go_wp2
  go_loopw [10] (fun iv wr => ∃ k : Nat, k ≤ cs.length ∧ iv = .int .i64 (k : Int) ∧ Hid (∃ L, L.Perm (Bm.lvsTo cs k) ∧ PileH wr w.heap.size (w.heap.size + 1) L) ∧ Hid (Below w.heap.size w wr)) (fun iv _ => cs.length - (intOf iv).toNat)
  case atStart =>
    have hb1 := (Below.refl w.heap.size w).alloc (Nat.le_refl _) (.cells #[] 114)
    have hb2 := hb1.alloc hb1.size (.cells #[.slice (some ⟨w.heap.size, 0, none⟩) 0 0] 137)
    have r1 := (Row.new w 114 []).alloc (.cells #[.slice (some ⟨w.heap.size, 0, none⟩) 0 0] 137)
    have r2 := Row.new (w.alloc (.cells #[] 114)) 137 [.slice (some ⟨w.heap.size, 0, none⟩) 0 0]
    rw [show (w.alloc (.cells #[] 114)).heap.size = w.heap.size + 1 by simp] at r2
    exact ⟨0, by omega, rfl, Lib.hid ⟨[], by simp [Bm.lvsTo], fun k h0 hk => by simp at hk, w.heap.size, 0, ⟨by omega, by omega, by simp, by unfold maxLen; omega, r2, [], rfl, r1⟩⟩, Lib.hid hb2⟩
  case round =>
    obtain ⟨k, hk, rfl, hpl, hbel⟩ := hrel
    by_cases hkl : k < cs.length
    · obtain ⟨g, off, rfl, hc⟩ := reads_i9 (reads_on Hr.out hbel.out) (by omega)
      have c0 := hc k hkl
      have Hst := Lib.hid (Bm.lvsTo_succ cs k)
      rw [List.getElem?_eq_getElem hkl, Option.getD_some] at Hst
      have hln := Bm.lvsTo_len cs k
      clear hc
      generalize cs[k] = x at *
      by_cases hx : 0 < x
      · rw [if_pos hx] at Hst
        have hpush : Calls Tryz.prog 94 #[.iface 111 (.pointer (some ⟨w.heap.size + 1, 0, none⟩)), .iface 114 (.agg #[.int .i64 (x : Int), .int .i64 (k : Int)])] wr fun e w' => e = .returned (.tuple #[]) ∧ Hid (∃ L, L.Perm (Bm.lvsTo cs (k + 1)) ∧ PileH w' w.heap.size (w.heap.size + 1) L) ∧ Hid (Below w.heap.size w w') := by
          obtain ⟨L, hpm, hph⟩ := hpl.out
          refine (hppush_any w.heap.size (w.heap.size + 1) x k L wr hbel.out.size (by rw [hpm.length_eq]; omega) hph).mono ?_
          rintro e w' ⟨rfl, L', hpm', hph', hk'⟩
          refine ⟨rfl, Lib.hid ⟨L', hpm'.trans ?_, hph'⟩, Lib.hid (hbel.out.trans hk'.bel)⟩
          rw [Hst.out]
          exact (hpm.cons _).trans (List.perm_append_singleton _ _).symm
        have Hpush := Lib.hid hpush
        clear hpush hpl hbel
        go_wp2_with fail
        refine Hpush.out.mono ?_
        rintro e w' ⟨rfl, hpl', hbel'⟩
        go_wp2
        go_roundw
        case rel => exact ⟨k + 1, by omega, by go_num, hpl', hbel'⟩
        case measure => simp [intOf]; omega
      · rw [if_neg hx, List.append_nil] at Hst
        go_wp2
        go_roundw
        case rel => exact ⟨k + 1, by omega, by go_num, by rw [Hst.out]; exact hpl, hbel⟩
        case measure => simp [intOf]; omega
    · obtain rfl : k = cs.length := by omega
      go_wp2
      go_ret
      obtain ⟨L, hpm, hph⟩ := hpl.out
      exact ⟨_, L, rfl, hpm, hph, hbel.out⟩
namespace Bm
/-- What depths has made of the places from k on. -/
structure DepthTo (A ls : List Nat) (k : Nat) : Prop where
  len : ls.length = A.length
  low : ∀ i, i < k → nat1 ls i = 0
  none : ∀ i, k ≤ i → i < A.length → nat1 A i = 0 → nat1 ls i = 0
  some : ∀ i, k ≤ i → i < A.length → nat1 A i ≠ 0 → nat1 ls i = nat1 ls (nat1 A i) + 1
  most : ∀ i, i < A.length → nat1 ls i ≤ A.length - i
theorem depth_start (A : List Nat) : DepthTo A (List.replicate A.length 0) A.length where
  len := by simp
  low := fun i _ => rep_zero _ _
  none := fun i _ _ _ => rep_zero _ _
  some := fun i h1 h2 _ => by omega
  most := fun i _ => by rw [rep_zero]; omega
theorem depth_all {A ls : List Nat} (h : DepthTo A ls 0) : DepthN A ls := ⟨h.len, fun i hi => h.none i (by omega) hi, fun i hi => h.some i (by omega) hi, h.most⟩
theorem depth_skip {A ls : List Nat} {k : Nat} (h : DepthTo A ls (k + 1)) (h0 : nat1 A k = 0) : DepthTo A ls k :=
  ⟨h.len, fun i hi => h.low i (by omega), fun i h1 h2 h3 => by
    by_cases e : i = k
    · subst e; exact h.low i (by omega)
    · exact h.none i (by omega) h2 h3, fun i h1 h2 h3 => by
    by_cases e : i = k
    · subst e; exact absurd h0 h3
    · exact h.some i (by omega) h2 h3, h.most⟩
theorem depth_step {A ls : List Nat} {k : Nat} (hA : ∀ i, i < A.length → nat1 A i ≠ 0 → i < nat1 A i ∧ nat1 A i < A.length) (hk : k < A.length) (h : DepthTo A ls (k + 1)) (h0 : nat1 A k ≠ 0) : DepthTo A (ls.set k (nat1 ls (nat1 A k) + 1)) k := by
  have hs : ∀ i, nat1 (ls.set k (nat1 ls (nat1 A k) + 1)) i = if i = k then nat1 ls (nat1 A k) + 1 else nat1 ls i := fun i => by
    unfold nat1
    rw [List.getElem?_set]
    by_cases e : k = i
    · subst e
      rw [if_pos rfl, if_pos (by rw [h.len]; exact hk), if_pos rfl, Option.getD_some]
    · rw [if_neg e, if_neg (fun h => e h.symm)]
  have hAk := hA k hk h0
  refine ⟨by rw [List.length_set, h.len], fun i hi => ?_, fun i h1 h2 h3 => ?_, fun i h1 h2 h3 => ?_, fun i hi => ?_⟩
  · rw [hs, if_neg (by omega)]; exact h.low i (by omega)
  · rw [hs]
    by_cases e : i = k
    · subst e; exact absurd h3 h0
    · rw [if_neg e]; exact h.none i (by omega) h2 h3
  · have h4 := hA i h2 h3
    rw [hs, hs, if_neg (show ¬ nat1 A i = k by omega)]
    by_cases e : i = k
    · subst e; rw [if_pos rfl]
    · rw [if_neg e]; exact h.some i (by omega) h2 h3
  · rw [hs]
    split
    · next e =>
      subst e
      have := h.most (nat1 A i) hAk.2
      omega
    · exact h.most i hi
end Bm
set_option maxHeartbeats 1000000 in
set_option maxRecDepth 100000 in
theorem udepth_any (A : Option Addr) (c : Nat) (bs : List Nat) (w : World) (hl : bs.length ≤ 100000) (hA : ∀ i, i < bs.length → Bm.nat1 bs i ≠ 0 → i < Bm.nat1 bs i ∧ Bm.nat1 bs i < bs.length) (hr : Reads w A (i64s bs)) :
    Calls Tryz.prog 82 #[.slice A bs.length c] w fun e w' => ∃ g ls, e = .returned (.slice (some ⟨g, 0, none⟩) bs.length bs.length) ∧ Row w' g 3 (i64s ls) ∧ Bm.DepthN bs ls ∧ w.heap.size ≤ g ∧ Below w.heap.size w w' := by
  obtain ⟨i0, hi, hz0, hz1, hz2⟩ := info_parts info_in
  have Hr := Lib.hid hr
  have HA := Lib.hid hA
  clear hr hA
  obtain ⟨g0, hg0⟩ : ∃ g, g = w.heap.size := ⟨_, rfl⟩
  have Hg0 := Lib.hid hg0
  clear hg0
  go_enter Tryz.func82, Tryz.ntmps82
  go_wp2_with (at_make; refine wpList_make_full _ rfl _ _ 33 rfl w.heap.size 3 i0 (.int .i64 0) 1 Tryz.underlying33 hi hz0 hz1 .i64 .i64 _ _ bs.length rfl rfl ?c1 ?c1 ?c2 ?c3 ?c4 ?_)
  case c1 => omega
  case c2 => first | omega | (rw [hz2]; omega)
  case c3 => unfold maxLen; omega
  try case c4 => exact Nat.le_refl _
  intro w1 hown1 hg1
  have hb1 := below_of_grown hg1
  have hr1 := row_of_ownI hown1
  rw [← Hg0.out] at hr1 ⊢
  have Hb1 := Lib.hid hb1
  have Hr1 := Lib.hid hr1
  have Hd1 := Lib.hid (Bm.depth_start bs)
  clear hown1 hg1 hb1 hr1 hi hz0 hz1 hz2
  go_wp2
  go_loopw [4] (fun iv wr => ∃ (k : Nat) (ls : List Nat), k ≤ bs.length ∧ iv = .int .i64 ((k : Int) - 1) ∧ Hid (Bm.DepthTo bs ls k) ∧ Hid (Row wr g0 3 (i64s ls)) ∧ Hid (Below w.heap.size w wr)) (fun iv _ => (intOf iv + 1).toNat)
  case atStart => exact ⟨bs.length, _, by omega, by go_num, Hd1, Hr1, Hb1⟩
  case round =>
    obtain ⟨k, ls, hk, rfl, hd, hrow, hbel⟩ := hrel
    clear Hr1 Hb1 Hd1
    by_cases h0 : 0 < k
    · obtain ⟨j, rfl⟩ : ∃ j, k = j + 1 := ⟨k - 1, by omega⟩
      have hjl : j < bs.length := by omega
      obtain ⟨g, off, rfl, hc⟩ := reads_i9 (reads_on Hr.out hbel.out) (by omega)
      have c0 := hc j hjl
      have hgj : Bm.nat1 bs j = bs[j] := by unfold Bm.nat1; rw [List.getElem?_eq_getElem hjl, Option.getD_some]
      have Haj := Lib.hid (HA.out j hjl)
      have Hsk := Lib.hid (Bm.depth_skip hd.out)
      have Hst := Lib.hid (Bm.depth_step HA.out hjl hd.out)
      rw [hgj] at Haj Hsk Hst
      clear hc
      have hll : ls.length = bs.length := hd.out.len
      have hmost := fun (h : bs[j] < bs.length) => hd.out.most bs[j] h
      have Hmost := Lib.hid hmost
      clear hmost hgj
      generalize bs[j] = x at *
      rw [show ((j + 1 : Nat) : Int) - 1 = (j : Int) by omega]
      by_cases hx : x = 0
      · subst hx
        have Hs2 := Lib.hid (Hsk.out rfl)
        clear Hst Haj Hmost
        go_wp2
        go_roundw
        case rel => exact ⟨j, ls, by omega, by go_num, Hs2, hrow, hbel⟩
        case measure => simp [intOf]
      · obtain ⟨a1, a2⟩ := Haj.out hx
        have hm := Hmost.out a2
        have Hs2 := Lib.hid (Hst.out hx)
        have hxl : x < ls.length := by omega
        have k0 : wr.cell? ⟨g0, x, none⟩ = some (.int .i64 (Bm.nat1 ls x : Int)) := by
          unfold Bm.nat1
          rw [hrow.out.cell, i64s_get? ls x hxl, List.getElem?_eq_getElem hxl, Option.getD_some]
        have k1 : wr.cell? ⟨g0, j, none⟩ = some (.int .i64 (ls[j]'(by omega) : Int)) := by
          rw [hrow.out.cell, i64s_get? ls j (by omega)]
        have f1 : wr.frozen? ⟨g0, j, none⟩ = false := hrow.out.free j
        have hrow2 : Row (wr.setCell ⟨g0, j, none⟩ (.int .i64 ((Bm.nat1 ls x : Int) + 1))) g0 3 (i64s (ls.set j (Bm.nat1 ls x + 1))) := by
          have h1 := hrow.out.set_ j (.int .i64 ((Bm.nat1 ls x : Int) + 1))
          rw [show i64s (ls.set j (Bm.nat1 ls x + 1)) = (i64s ls).set j (.int .i64 ((Bm.nat1 ls x : Int) + 1)) by simp [i64s, List.map_set]]
          exact h1
        have Hrow2 := Lib.hid hrow2
        have Hbel2 := Lib.hid (hbel.out.setCell (p := ⟨g0, j, none⟩) (by rw [Hg0.out]; exact Nat.le_refl _) (.int .i64 ((Bm.nat1 ls x : Int) + 1)))
        clear hrow2 Hsk Hst Haj Hmost hrow hbel
        have hx0 : 0 < x := by omega
        clear hx
        generalize Bm.nat1 ls x = y at *
        generalize ls[j]'(by omega) = z at k1
        go_wp2
        go_roundw
        case rel => exact ⟨j, _, by omega, by go_num, Hs2, Hrow2, Hbel2⟩
        case measure => simp [intOf]
    · obtain rfl : k = 0 := by omega
      have Hd2 := Lib.hid (Bm.depth_all hd.out)
      go_wp2
      go_ret
      exact ⟨g0, ls, rfl, hrow.out, Hd2.out, by rw [Hg0.out]; exact Nat.le_refl _, hbel.out⟩
end Go.Proofs.YtgcfdjgfnagmjaaGreat

namespace Go.Proofs.YtgcfdjgfnagmjaaGreat
open Go.RowKit
def slLen : Value → Nat
  | .slice _ n _ => n
  | _ => 0
theorem slLen_slice (A : Option Addr) (n c : Nat) : slLen (.slice A n c) = n := rfl
theorem Seg.kept {w w' : World} {base b0 g off cap : Nat} {l : List Nat} (h : Seg w base g off cap l) (hk : KeptP b0 w w') : Seg w' base g off cap l := by
  obtain ⟨h1, h2, pre, post, h3, h4, h5⟩ := h
  exact ⟨h1, h2, pre, post, h3, h4, hk.rows _ _ _ (by decide) (by decide) h5⟩
theorem Seg.own {w : World} {base g cap : Nat} {l : List Nat} (h : Seg w base g 0 cap l) : w.ownsRow base 3 1 (.slice (some ⟨g, 0, none⟩) l.length cap) l.length (i64s l) := by
  obtain ⟨h1, h2, pre, post, h3, h4, h5⟩ := h
  obtain rfl : pre = [] := List.eq_nil_of_length_eq_zero h3
  have hl := i64s_length l
  refine ⟨by omega, .inr ⟨g, cap, (i64s l ++ post).toArray, rfl, h1, h5, by omega, h2, ?_, ?_⟩⟩
  · rw [List.size_toArray, List.length_append]
    omega
  · rw [List.toList_toArray, List.take_left' (by omega)]
theorem Seg.reads {w : World} {base g cap : Nat} {l : List Nat} (h : Seg w base g 0 cap l) : Reads w (some ⟨g, 0, none⟩) (i64s l) := fun _ =>
  ⟨g, 0, rfl, fun j hj => by
    rw [i64s_length] at hj
    have h1 := h.cell j hj
    rw [i64s_get? l j hj]
    exact h1⟩
/-- What join keeps of the world: what each node is joined to, and the pile. -/
structure JoinW (base : Nat) (w wr : World) (p g cap : Nat) (cs A : List Nat) (L : List Nod) (C : Nat) : Prop where
  seg : Seg wr base g 0 cap A
  pile : PileH wr base p L
  sums : Bm.JoinN cs A L C
  bel : Below base w wr
theorem join_bounds {cs A : List Nat} {L R : List Nod} {C wa a wb b : Nat} (h : Bm.JoinN cs A L C) (hp : L.Perm ((wa, a) :: (wb, b) :: R)) (hm : (Bm.posC cs).sum ≤ 1000000000) : a < A.length ∧ b < A.length ∧ wa + wb ≤ 1000000000 := by
  refine ⟨(h.free (wa, a) (hp.mem_iff.2 (by simp))).1, (h.free (wb, b) (hp.mem_iff.2 (by simp))).1, ?_⟩
  have := h.total
  rw [(hp.map _).sum_nat] at this
  simp only [List.map_cons, List.sum_cons] at this
  omega
theorem join_size {cs A : List Nat} {L : List Nod} {C : Nat} (h : Bm.JoinN cs A L C) (hl : cs.length ≤ 256) (hL : 1 ≤ L.length) : A.length ≤ 511 ∧ L.length ≤ 256 := by
  have h1 := h.count
  have h2 := Bm.lvsTo_len cs cs.length
  have h3 := h.len
  unfold Bm.lvs at h1
  omega
theorem PileH.far {w w' : World} {base p g : Nat} {L : List Nod} {cs : List Value} (h : PileH w base p L) (hr : Row w g 3 cs) (hg : w.grownBy w' (some g)) : PileH w' base p L := by
  obtain ⟨hh, g', cap', hpl⟩ := h
  obtain ⟨post, hl, hrow⟩ := hpl.row
  refine ⟨hh, g', cap', hpl.keepb (hg.block p hpl.var.lt (fun e => ?_)) (hg.block g' hrow.lt (fun e => ?_))⟩
  · injection e with e
    subst e
    have hv := hpl.var
    unfold Row at hv hr
    rw [hr] at hv
    injection hv with hv
    injection hv with _ e
    exact absurd e (by decide)
  · injection e with e
    subst e
    unfold Row at hrow hr
    rw [hr] at hrow
    injection hrow with hrow
    injection hrow with _ e
    exact absurd e (by decide)
theorem Seg.row {w : World} {base g off cap : Nat} {l : List Nat} (h : Seg w base g off cap l) : ∃ cs, Row w g 3 cs ∧ base ≤ g := by
  obtain ⟨h1, _, pre, post, _, _, h5⟩ := h
  exact ⟨_, h5, h1⟩
set_option maxHeartbeats 4000000 in
set_option maxRecDepth 100000 in
theorem ujoin_any (base p : Nat) (cs : List Nat) (L : List Nod) (w : World) (hb : base ≤ w.heap.size) (hl : cs.length ≤ 256) (hm : (Bm.posC cs).sum ≤ 1000000000) (hL : L.Perm (Bm.lvs cs)) (h2 : 2 ≤ L.length) (hp : PileH w base p L) :
    Calls Tryz.prog 83 #[.pointer (some ⟨p, 0, none⟩), .int .i64 (cs.length : Int)] w fun e w' => ∃ g A c t C, e = .returned (.slice (some ⟨g, 0, none⟩) A.length c) ∧ Reads w' (some ⟨g, 0, none⟩) (i64s A) ∧ Bm.JoinN cs A [t] C ∧ A.length ≤ 512 ∧ Below base w w' := by
  obtain ⟨i0, hi, hz0, hz1, hz2⟩ := info_parts info_in
  have hn2 : 2 ≤ cs.length := by
    have := hL.length_eq
    have h3 := Bm.lvsTo_len cs cs.length
    unfold Bm.lvs at this
    omega
  have HL := Lib.hid hL
  have Hp := Lib.hid hp
  clear hL hp
  go_enter Tryz.func83, Tryz.ntmps83
  go_wp2_with (at_make; refine wpList_make_full _ rfl _ _ 33 rfl w.heap.size 3 i0 (.int .i64 0) 1 Tryz.underlying33 hi hz0 hz1 .i64 .i64 _ _ cs.length rfl rfl ?c1 ?c1 ?c2 ?c3 ?c4 ?_)
  case c1 => omega
  case c2 => first | omega | (rw [hz2]; omega)
  case c3 => unfold maxLen; omega
  try case c4 => exact Nat.le_refl _
  intro w1 hown1 hg1
  have hb1 := below_of_grown hg1
  have hrow1 := row_of_ownI hown1
  have hstart : JoinW base w w1 p w.heap.size cs.length cs (List.replicate cs.length 0) L 0 := by
    obtain ⟨hh, g, cap, hpl⟩ := Hp.out
    exact ⟨⟨hb, by unfold maxLen; omega, [], [], rfl, by simp, by simpa using hrow1⟩, ⟨hh, g, cap, hpl.below hb1⟩, Bm.join_start cs L HL.out, hb1.mono hb⟩
  have Hstart := Lib.hid hstart
  clear hown1 hg1 hb1 hrow1 hstart
  go_wp2
  go_loopw [5] (fun av wr => ∃ (A : List Nat) (L : List Nod) (C g cap : Nat), av = .slice (some ⟨g, 0, none⟩) A.length cap ∧ 1 ≤ L.length ∧ Hid (JoinW base w wr p g cap cs A L C)) (fun av _ => 600 - slLen av)
  case atStart => exact ⟨_, L, 0, w.heap.size, cs.length, by simp, by omega, Hstart⟩
  case round =>
    obtain ⟨A, L, C, g, cap, rfl, hL1, hj⟩ := hrel
    clear Hstart Hp HL
    obtain ⟨hsz, hsz2⟩ := join_size hj.out.sums hl hL1
    have hAc : cs.length ≤ A.length := hj.out.sums.len
    obtain ⟨c0, hc0⟩ : ∃ v, wr.cell? ⟨p, 0, none⟩ = some v ∧ ∃ g' cap', v = .slice (some ⟨g', 0, none⟩) L.length cap' := by
      obtain ⟨hh, g', cap', hpl⟩ := hj.out.pile
      exact ⟨_, hpl.cell, g', cap', rfl⟩
    obtain ⟨hc0, gP, capP, rfl⟩ := hc0
    have Hlen := Lib.hid (fun W => uplen_any (some ⟨gP, 0, none⟩) L.length capP W)
    by_cases h1 : L.length = 1
    · obtain ⟨t, rfl⟩ := List.length_eq_one_iff.1 h1
      have hfin : Reads wr (some ⟨g, 0, none⟩) (i64s A) ∧ Bm.JoinN cs A [t] C ∧ Below base w wr := ⟨hj.out.seg.reads, hj.out.sums, hj.out.bel⟩
      have Hf := Lib.hid hfin
      clear hfin hj hL1 h1
      go_wp2_with fail
      refine (Hlen.out _).mono ?_
      rintro e w2 ⟨rfl, rfl⟩
      go_wp2
      go_ret
      exact ⟨g, A, cap, t, C, rfl, Hf.out.1, Hf.out.2.1, by omega, Hf.out.2.2⟩
    · obtain ⟨n, hn⟩ : ∃ n, L.length = n + 1 + 1 := ⟨L.length - 2, by omega⟩
      have hbr := Nat.le_trans hb hj.out.bel.size
      have Hli := Lib.hid (ulight_any base p (n + 1) L wr hbr (by omega) hn hj.out.pile)
      obtain ⟨wa, hwa⟩ : ∃ x, x = (Bm.at2 L 0).1 := ⟨_, rfl⟩
      obtain ⟨a, ha⟩ : ∃ x, x = (Bm.at2 L 0).2 := ⟨_, rfl⟩
      rw [← hwa, ← ha] at Hli
      clear hwa ha
      have Hlen2 : Hid (∀ W, Calls Tryz.prog 80 #[.slice (some ⟨gP, 0, none⟩) (n + 1 + 1) capP] W fun e w' => e = .returned (.int .i64 ((n : Int) + 1 + 1)) ∧ W = w') := Lib.hid (fun W => by
        have h5 := Hlen.out W
        rw [hn] at h5
        exact h5)
      rw [hn] at hc0 hsz2
      have Hn : Hid (L.length = n + 1 + 1) := Lib.hid hn
      clear hn h1 hL1 Hlen
      go_wp2_with fail
      refine (Hlen2.out _).mono ?_
      rintro e w2 ⟨rfl, rfl⟩
      clear Hlen2 hc0
      go_wp2_with fail
      refine Hli.out.mono ?_
      rintro e w1 ⟨rfl, L1, hpm1, hle1, hph1, hk1⟩
      have hn1 : L1.length = n + 1 := by have := hpm1.length_eq; rw [Hn.out, List.length_cons] at this; omega
      have Hli2 := Lib.hid (ulight_any base p n L1 w1 (Nat.le_trans hbr hk1.bel.size) (by omega) hn1 hph1)
      have hmem0 : Bm.at2 L1 0 ∈ L1 := by
        unfold Bm.at2
        rw [List.getElem?_eq_getElem (by omega), Option.getD_some]
        exact List.getElem_mem _
      have hab0 := hle1 _ hmem0
      have Hle1 := Lib.hid hle1
      have Hpm1 := Lib.hid hpm1
      have Hk1 := Lib.hid hk1
      obtain ⟨wb, hwb⟩ : ∃ x, x = (Bm.at2 L1 0).1 := ⟨_, rfl⟩
      obtain ⟨b, hb'⟩ : ∃ x, x = (Bm.at2 L1 0).2 := ⟨_, rfl⟩
      have hab : wa ≤ wb := by
        rw [Bm.lt2_iff, ← hwb] at hab0
        simp only at hab0
        omega
      rw [← hwb, ← hb'] at Hli2
      clear hle1 hpm1 hk1 hph1 hmem0 hab0 hwb hb' Hli
      go_wp2_with fail
      refine Hli2.out.mono ?_
      rintro e w2 ⟨rfl, R, hpm2, hle2, hph2, hk2⟩
      have Hpm : Hid (L.Perm ((wa, a) :: (wb, b) :: R)) := Lib.hid (Hpm1.out.trans (hpm2.cons _))
      have HleR : Hid (∀ y ∈ R, wb ≤ y.1) := Lib.hid (fun y hy => by
        have := hle2 y hy
        rw [Bm.lt2_iff] at this
        simp only at this
        omega)
      have Hk2 := Lib.hid (Hk1.out.trans hk2)
      have Hph2 := Lib.hid hph2
      obtain ⟨ba, bb, bw⟩ := join_bounds hj.out.sums Hpm.out hm
      have HR : Hid (R.length = n) := Lib.hid (by have := hpm2.length_eq; rw [hn1, List.length_cons] at this; omega)
      clear hpm2 hle2 hph2 hk2 Hli2 Hle1 Hpm1 Hk1 hn1
      have hseg2 := hj.out.seg.kept Hk2.out
      have Hseg2 := Lib.hid hseg2
      have hbw2 : base ≤ w2.heap.size := Nat.le_trans hbr Hk2.out.bel.size
      clear hseg2
      go_wp2_with fail
      obtain ⟨w3, hw3⟩ : ∃ w3, w3 = (w2.alloc (.cells #[.int .i64 (wa : Int), .int .i64 (a : Int)] 114)).alloc (.cells #[.int .i64 (wb : Int), .int .i64 (b : Int)] 114) := ⟨_, rfl⟩
      have hb3 : Below w2.heap.size w2 w3 := by
        rw [hw3]
        exact ((Below.refl _ _).alloc (Nat.le_refl _) _).alloc (by simp) _
      have hr6 : Row w3 w2.heap.size 114 [.int .i64 (wa : Int), .int .i64 (a : Int)] := by
        rw [hw3]
        exact (Row.new w2 114 [.int .i64 (wa : Int), .int .i64 (a : Int)]).alloc _
      have hr7 : Row w3 (w2.heap.size + 1) 114 [.int .i64 (wb : Int), .int .i64 (b : Int)] := by
        have h5 := Row.new (w2.alloc (.cells #[.int .i64 (wa : Int), .int .i64 (a : Int)] 114)) 114 [.int .i64 (wb : Int), .int .i64 (b : Int)]
        rw [show (w2.alloc (.cells #[.int .i64 (wa : Int), .int .i64 (a : Int)] 114)).heap.size = w2.heap.size + 1 by simp, ← hw3] at h5
        exact h5
      have hseg3 := Hseg2.out.below hb3
      have hph3 : PileH w3 base p R := by
        obtain ⟨hh, g', cap', hpl⟩ := Hph2.out
        exact ⟨hh, g', cap', hpl.below hb3⟩
      have Hk3 := Lib.hid (Hk2.out.trans (KeptP.below hb3 hbw2))
      rw [← hw3]
      have hgl : g < w2.heap.size := Hseg2.out.lt
      generalize w2.heap.size = q6 at *
      have e0 := hr6.cell 0
      have e1 := hr6.cell 1
      have e2 := hr7.cell 0
      have e3 := hr7.cell 1
      simp only [List.getElem?_cons_zero, List.getElem?_cons_succ] at e0 e1 e2 e3
      have k0 := hseg3.cell a ba
      have k1 := hseg3.cell b bb
      rw [Nat.zero_add] at k0 k1
      have f0 := hseg3.free a
      have f1 := hseg3.free b
      obtain ⟨v1, hy1⟩ := cell?_setCell_some (w := w3) (p := ⟨g, a, none⟩) (x := .int .i64 (A.length : Int)) (q := ⟨g, b, none⟩) k1
      have hseg4 := (hseg3.set a ba A.length).set b (by simpa using bb) A.length
      rw [Nat.zero_add, Nat.zero_add] at hseg4
      obtain ⟨w4, hw4⟩ : ∃ w4, w4 = ((w3.setCell ⟨g, a, none⟩ (.int .i64 (A.length : Int))).setCell ⟨g, b, none⟩ (.int .i64 (A.length : Int))).drew := ⟨_, rfl⟩
      have hg4 : w3.grownBy w4 (some g) := by
        rw [hw4]
        exact grown_drew (grown_set (grown_set (grown_refl w3 (some g)) _ _) _ _)
      have hseg4' : Seg w4 base g 0 cap ((A.set a A.length).set b A.length) := by rw [hw4]; exact hseg4
      have Hseg4 := Lib.hid hseg4'
      have Hg4 := Lib.hid hg4
      have Hr6 := Lib.hid hr6
      have Hr7 := Lib.hid hr7
      have Hph3 := Lib.hid hph3
      have Hseg3 := Lib.hid hseg3
      have Hw4 := Lib.hid hw4
      clear hw3 hb3 hr6 hr7 hseg3 hph3 hseg4 hseg4' hg4 hw4 Hseg2 Hph2 Hk2
      go_region
      all_goals rw [show ((w3.setCell ⟨g, a, none⟩ (.int .i64 (A.length : Int))).setCell ⟨g, b, none⟩ (.int .i64 (A.length : Int))).drew = w4 from Hw4.out.symm]
      all_goals clear Hw4 e0 e1 e2 e3 k0 k1 f0 f1 hy1
      have hown4 : w4.ownsRow base 3 1 (.slice (some ⟨g, 0, none⟩) A.length cap) A.length (i64s ((A.set a A.length).set b A.length)) := by
        have h5 := Hseg4.out.own
        rw [List.length_set, List.length_set] at h5
        exact h5
      have Hown4 := Lib.hid hown4
      have hb4 : base ≤ w4.heap.size := Nat.le_trans hbr (Nat.le_trans Hk3.out.bel.size Hg4.out.size)
      clear hown4
      go_wp2_with (at_builtin; refine wpList_append_own _ rfl _ _ 33 rfl base 3 i0 (.int .i64 0) 1 8 Tryz.underlying33 hi hz0 hz1 hz2 rfl (by decide) _ _ _ rfl (Hown4.out.alloc _) ⟨w4.heap.size, 0, none⟩ 1 1 [.int .i64 0] rfl rfl ?d1 ?d2 ?d3 ?d4 ?d5 ?_)
      case d1 =>
        intro j u hj
        match j, hj with
        | 0, hj => simp at hj; subst hj; simp [Addr.add]
      case d2 => intro u hu; simp at hu; subst hu; rfl
      case d3 => unfold maxLen; omega
      case d4 => omega
      case d5 => simp; omega
      intro u' w7 hown7 hgr7 _
      obtain ⟨_, gN, capN, rfl, hseg7⟩ := seg_of_own (l := (A.set a A.length).set b A.length ++ [0]) (by rw [← i64s_append]; exact hown7) (by omega)
      have hga : w4.grownBy (w4.alloc (.cells #[.int .i64 0] 3)) (some g) := grown_alloc (grown_refl _ _) _
      have hg37 : w3.grownBy w7 (some g) := (Hg4.out.trans hga).trans hgr7
      have Hg37 := Lib.hid hg37
      have Hseg7 := Lib.hid hseg7
      clear hown7 hgr7 hga hg37 hseg7 Hown4 Hseg4 Hg4
      obtain ⟨ics, hrowg, hbg⟩ := Hseg3.out.row
      have hph7 := Hph3.out.far hrowg Hg37.out
      have hr6 : Row w7 q6 114 [.int .i64 (wa : Int), .int .i64 (a : Int)] := Hr6.out.keep (Hg37.out.block _ Hr6.out.lt (fun e => by injection e with e; omega))
      have hr7 : Row w7 (q6 + 1) 114 [.int .i64 (wb : Int), .int .i64 (b : Int)] := Hr7.out.keep (Hg37.out.block _ Hr7.out.lt (fun e => by injection e with e; omega))
      have e0 := hr6.cell 0
      have e1 := hr7.cell 0
      simp only [List.getElem?_cons_zero] at e0 e1
      have hb7 : base ≤ w7.heap.size := Nat.le_trans hbr (Nat.le_trans Hk3.out.bel.size Hg37.out.size)
      have hpush := hppush_any base p (wa + wb) A.length R w7 hb7 (by rw [HR.out]; omega) hph7
      rw [Int.natCast_add] at hpush
      have Hpush := Lib.hid hpush
      have Hbel7 := Lib.hid ((hj.out.bel.trans Hk3.out.bel).trans (below_grown Hg37.out hbg (Nat.le_trans hbr Hk3.out.bel.size)))
      clear hrowg hph7 hr6 hr7 hpush hbg hb4
      go_wp2_with fail
      refine Hpush.out.mono ?_
      rintro e w8 ⟨rfl, L', hpm', hph8, hk8⟩
      have hfin : JoinW base w w8 p gN capN cs ((A.set a A.length).set b A.length ++ [0]) L' (C + (wa + wb)) :=
        ⟨Hseg7.out.kept hk8, hph8, Bm.join_step hj.out.sums Hpm.out hab HleR.out (by omega) hpm', Hbel7.out.trans hk8.bel⟩
      have Hfin := Lib.hid hfin
      have hL'1 : 1 ≤ L'.length := by rw [hpm'.length_eq, List.length_cons]; omega
      clear hfin hpm' hph8 hk8 Hpush e0 e1
      go_wp2
      go_roundw
      case rel => exact ⟨_, L', _, gN, capN, by simp, hL'1, Hfin⟩
      case measure => simp [slLen]; omega
end Go.Proofs.YtgcfdjgfnagmjaaGreat

namespace Go.Proofs.YtgcfdjgfnagmjaaGreat
open Go.RowKit
namespace Bm
theorem posC_sum_le (cs : List Nat) (M : Nat) (h : ∀ x ∈ cs, x ≤ M) : (posC cs).sum ≤ M * cs.length := by
  have h1 : (posC cs).sum ≤ M * (posC cs).length := by
    have : ∀ L : List Nat, (∀ x ∈ L, x ≤ M) → L.sum ≤ M * L.length := fun L => by
      induction L with
      | nil => simp
      | cons a L ih =>
        intro hL
        have := ih (fun x hx => hL x (by simp [hx]))
        have := hL a (by simp)
        rw [List.sum_cons, List.length_cons, Nat.mul_succ]
        omega
    exact this _ (fun x hx => h x (posC_mem cs x hx).1)
  exact Nat.le_trans h1 (Nat.mul_le_mul_left M (posC_le cs))
theorem lvs_some (cs : List Nat) (h : ∃ x ∈ cs, 0 < x) : 1 ≤ (lvs cs).length := by
  have := posC_some cs h
  rw [← lvs_fst, List.length_map] at this
  exact this
end Bm
theorem field_node (x y : Value) (W : World) : (Instr.field 114 (.agg #[x, y]) 1).run Tryz.prog W = .ok y W := by kernel_rfl
set_option maxHeartbeats 1000000 in
set_option maxRecDepth 100000 in
theorem uunb_any (A : Option Addr) (c : Nat) (cs : List Nat) (w : World) (hl : cs.length ≤ 256) (hm : ∀ x ∈ cs, x ≤ 1048576) (hs : ∃ x ∈ cs, 0 < x) (hr : Reads w A (i64s cs)) :
    Calls Tryz.prog 54 #[.slice A cs.length c] w fun e w' => ∃ g ls, e = .returned (.slice (some ⟨g, 0, none⟩) cs.length cs.length) ∧ Reads w' (some ⟨g, 0, none⟩) (i64s ls) ∧ Bm.UnbN cs ls ∧ Below w.heap.size w w' := by
  obtain ⟨i0, hi, hz0, hz1, hz2⟩ := info_parts info_in
  have Hlv := Lib.hid (ulvs_any A c cs w hl hr)
  have hsum : (Bm.posC cs).sum ≤ 1000000000 := by
    have := Bm.posC_sum_le cs 1048576 hm
    omega
  have h1 := Bm.lvs_some cs hs
  have h1l : (Bm.lvs cs).length ≤ 256 := Nat.le_trans (Bm.lvsTo_len cs cs.length) hl
  clear hr hm hs
  go_enter Tryz.func54, Tryz.ntmps54
  go_wp2_with fail
  refine Hlv.out.mono ?_
  rintro e w1 ⟨p, L, rfl, hpm, hph, hb1⟩
  have hLl : L.length = (Bm.lvs cs).length := hpm.length_eq
  obtain ⟨v0, hc0, gP, capP, hv0⟩ : ∃ v, w1.cell? ⟨p, 0, none⟩ = some v ∧ ∃ g' cap', v = .slice (some ⟨g', 0, none⟩) L.length cap' := by
    obtain ⟨hh, g', cap', hpl⟩ := hph
    exact ⟨_, hpl.cell, g', cap', rfl⟩
  subst hv0
  have Hlen := Lib.hid (fun W => uplen_any (some ⟨gP, 0, none⟩) L.length capP W)
  have Hb1 := Lib.hid hb1
  have Hpm := Lib.hid hpm
  have Hph := Lib.hid hph
  have hs1 := hb1.size
  clear hb1 hpm hph Hlv
  by_cases hone : L.length = 1
  · obtain ⟨t, rfl⟩ := List.length_eq_one_iff.1 hone
    obtain ⟨cc, ii⟩ := t
    have hlv : Bm.lvs cs = [(cc, ii)] := List.perm_singleton.1 Hpm.out.symm
    have Hun := Lib.hid (Bm.unb_one hlv hl)
    have hii : ii < cs.length := ((Bm.lvsTo_mem cs cs.length (cc, ii)).1 (show (cc, ii) ∈ Bm.lvs cs by rw [hlv]; simp)).1
    clear hone hlv hLl
    simp only [List.length_cons, List.length_nil] at hc0 Hlen
    go_wp2_with fail
    refine (Hlen.out _).mono ?_
    rintro e w2 ⟨rfl, rfl⟩
    clear Hlen hc0
    go_wp2_with (at_make; refine wpList_make_full _ rfl _ _ 33 rfl w1.heap.size 3 i0 (.int .i64 0) 1 Tryz.underlying33 hi hz0 hz1 .i64 .i64 _ _ cs.length rfl rfl ?c1 ?c1 ?c2 ?c3 ?c4 ?_)
    case c1 => omega
    case c2 => first | omega | (rw [hz2]; omega)
    case c3 => unfold maxLen; omega
    try case c4 => exact Nat.le_refl _
    intro w2 hown1 hg1
    have hb2 := below_of_grown hg1
    have hrow2 := row_of_ownI hown1
    have hs2 : w1.heap.size < w2.heap.size := hrow2.lt
    have hph2 : PileH w2 w.heap.size p [(cc, ii)] := by
      obtain ⟨hh, g', cap', hpl⟩ := Hph.out
      exact ⟨hh, g', cap', hpl.below hb2⟩
    have Hli := Lib.hid (ulight_any w.heap.size p 0 [(cc, ii)] w2 (by omega) (by simp) rfl hph2)
    have Hb2 := Lib.hid (Hb1.out.trans (hb2.mono hs1))
    have Hrow2 := Lib.hid hrow2
    clear hown1 hg1 hb2 hrow2 hph2
    go_wp2_with fail
    refine Hli.out.mono ?_
    rintro e w3 ⟨rfl, L', _, _, _, hk3⟩
    have hrow3 := hk3.rows _ _ _ (by decide) (by decide) Hrow2.out
    have hcell : w3.cell? ⟨w1.heap.size, ii, none⟩ = some (.int .i64 0) := by
      rw [hrow3.cell, i64s_get? _ _ (by simpa using hii)]
      simp
    have hfree : w3.frozen? ⟨w1.heap.size, ii, none⟩ = false := hrow3.free ii
    have hrow4 : Row (w3.setCell ⟨w1.heap.size, ii, none⟩ (.int .i64 1)) w1.heap.size 3 (i64s ((List.replicate cs.length 0).set ii 1)) := by
      have h5 := hrow3.set_ ii (.int .i64 1)
      rw [show i64s ((List.replicate cs.length 0).set ii 1) = (i64s (List.replicate cs.length 0)).set ii (.int .i64 1) by simp only [i64s, List.map_set]; rfl]
      exact h5
    have Hrow4 := Lib.hid hrow4
    have Hb4 := Lib.hid ((Hb2.out.trans hk3.bel).setCell (p := ⟨w1.heap.size, ii, none⟩) (by exact hs1) (.int .i64 1))
    have hat : Bm.at2 [(cc, ii)] 0 = (cc, ii) := rfl
    rw [hat]
    clear hrow3 hrow4 hk3 Hli Hrow2 hat
    have hfld := fun W => field_node (.int .i64 (cc : Int)) (.int .i64 (ii : Int)) W
    go_wp2
    go_ret
    refine ⟨w1.heap.size, _, rfl, ?_, Hun.out, Hb4.out⟩
    intro _
    exact ⟨w1.heap.size, 0, rfl, fun j hj => by rw [Nat.zero_add]; exact Hrow4.out.cell j⟩
  · have h2 : 2 ≤ L.length := by omega
    have Hjo := Lib.hid (ujoin_any w.heap.size p cs L w1 hs1 hl hsum Hpm.out h2 Hph.out)
    have h2l : 2 ≤ (Bm.lvs cs).length := by omega
    have hne : ((L.length : Int) == 1) = false := by rw [beq_eq_false_iff_ne]; omega
    clear hLl
    go_wp2_with fail
    refine (Hlen.out _).mono ?_
    rintro e w2 ⟨rfl, rfl⟩
    clear Hlen hc0
    go_wp2_with fail
    refine Hjo.out.mono ?_
    rintro e w2 ⟨g, bs, cap, t, C, rfl, hrd, hjn, hbs, hb2⟩
    have hlA := hjn.len
    have Hde := Lib.hid (udepth_any (some ⟨g, 0, none⟩) cap bs w2 (by omega) hjn.above hrd)
    have Hjn := Lib.hid hjn
    have Hb2 := Lib.hid (Hb1.out.trans hb2)
    clear hrd hjn hb2 Hjo
    go_wp2_with fail
    refine Hde.out.mono ?_
    rintro e w3 ⟨g3, ls, rfl, hrow3, hdn, hg3, hb3⟩
    have Hun := Lib.hid (Bm.join_end Hjn.out hdn h2l hl hbs)
    have hll := hdn.len
    have hrd3 : Reads w3 (some ⟨g3, 0, none⟩) (i64s (ls.take cs.length)) := fun _ => ⟨g3, 0, rfl, fun j hj => by
      rw [i64s_length, List.length_take] at hj
      rw [Nat.zero_add, hrow3.cell, i64s_get? ls j (by omega), i64s_get? (ls.take cs.length) j (by rw [List.length_take]; exact hj), List.getElem_take]⟩
    have Hrd3 := Lib.hid hrd3
    have Hb3 := Lib.hid (Hb2.out.trans (hb3.mono Hb2.out.size))
    clear hrow3 hdn hb3 hrd3 hll Hde
    go_wp2
    go_ret
    exact ⟨g3, _, rfl, Hrd3.out, Hun.out, Hb3.out⟩
end Go.Proofs.YtgcfdjgfnagmjaaGreat

namespace Go.Proofs.YtgcfdjgfnagmjaaGreat
open Go.RowKit
set_option maxHeartbeats 1000000 in
set_option maxRecDepth 100000 in
theorem ulen_no (A : Option Addr) (c : Nat) (l : List Int) (w : World) (hl : l.length ≤ maxLen) (hr : Reads w A (i64z l)) (hR : ¬ Bm.Right l) :
    Calls Tryz.prog 32 #[.slice A l.length c] w fun e w' => e = .returned (.tuple #[.slice none 0 0, .bool false]) ∧ w = w' := by
  have hri := nright_b A c l w hl hr
  rw [show Bm.rightB l = false from decide_eq_false hR] at hri
  have Hri := Lib.hid hri
  clear hri hR hr
  go_enter Tryz.func32, Tryz.ntmps32
  go_wp2_with fail
  refine Hri.out.mono ?_
  rintro e w' ⟨rfl, rfl⟩
  go_wp2
  go_ret2
  exact ⟨rfl, rfl⟩
/-- What Lengths, bounded answer: a slice with room for them. -/
def LensP (w w' : World) (cs : List Nat) (v : Value) : Prop := ∃ B d ls, v = .slice B cs.length d ∧ cs.length ≤ d ∧ Reads w' B (i64s ls) ∧ Bm.GoodN cs ls ∧ Below w.heap.size w w'
theorem unb_good {cs ls : List Nat} (h : Bm.UnbN cs ls) (h11 : ∀ x ∈ ls, x ≤ 11) : Bm.GoodN cs ls := ⟨h.len, h.whole h11, h.just, by rw [h.cost]; exact Nat.le_max_right _ _⟩
set_option maxHeartbeats 1000000 in
set_option maxRecDepth 100000 in
theorem ulen_yes (A : Option Addr) (c : Nat) (cs : List Nat) (w : World) (hl : cs.length ≤ 256) (hm : ∀ x ∈ cs, x ≤ 1048576) (hs : ∃ x ∈ cs, 0 < x) (hr : Reads w A (i64s cs)) (hri : Calls Tryz.prog 53 #[.slice A cs.length c] w fun e w' => e = .returned (.bool true) ∧ w = w')
    (hB : ∀ ls, Bm.UnbN cs ls → (∀ x ∈ ls, x ≤ 11) ∨ (∀ W, Below w.heap.size w W → Calls Tryz.prog 56 #[.slice A cs.length c] W fun e w' => ∃ v, e = .returned v ∧ LensP W w' cs v)) :
    Calls Tryz.prog 32 #[.slice A cs.length c] w fun e w' => ∃ v, e = .returned (.tuple #[v, .bool true]) ∧ LensP w w' cs v := by
  have Hri := Lib.hid hri
  have Hun := Lib.hid (uunb_any A c cs w hl hm hs hr)
  have HB := Lib.hid hB
  clear hri hm hs hr hB
  go_enter Tryz.func32, Tryz.ntmps32
  go_wp2_with fail
  refine Hri.out.mono ?_
  rintro e w' ⟨rfl, rfl⟩
  clear Hri
  go_wp2_with fail
  refine Hun.out.mono ?_
  rintro e w1 ⟨g, ls, rfl, hrd, hun, hb⟩
  have hll := hun.len
  have hmay := umay_any (some ⟨g, 0, none⟩) cs.length (ls.map fun n : Nat => (n : Int)) w1 (by rw [List.length_map]; omega) (by rw [i64z_nat]; exact hrd)
  rw [List.length_map, hll] at hmay
  have hiff : Bm.LenR (ls.map fun n : Nat => (n : Int)) ↔ ∀ x ∈ ls, x ≤ 11 := by
    unfold Bm.LenR
    constructor
    · intro h x hx
      have := h.2 (x : Int) (List.mem_map.2 ⟨x, hx, rfl⟩)
      omega
    · intro h
      refine ⟨by rw [List.length_map]; omega, fun z hz => ?_⟩
      obtain ⟨x, hx, rfl⟩ := List.mem_map.1 hz
      have := h x hx
      omega
  by_cases h11 : ∀ x ∈ ls, x ≤ 11
  · rw [decide_eq_true (hiff.2 h11)] at hmay
    have Hmay := Lib.hid hmay
    have hfin : LensP w w1 cs (.slice (some ⟨g, 0, none⟩) cs.length cs.length) := ⟨_, _, ls, rfl, Nat.le_refl _, hrd, unb_good hun h11, hb⟩
    have Hf := Lib.hid hfin
    clear hmay hiff h11 hrd hun hb hll Hun HB hfin
    go_wp2_with fail
    refine Hmay.out.mono ?_
    rintro e w' ⟨rfl, rfl⟩
    clear Hmay
    go_wp2
    go_ret2
    exact ⟨_, rfl, Hf.out⟩
  · rw [decide_eq_false (fun h => h11 (hiff.1 h))] at hmay
    have Hmay := Lib.hid hmay
    have Hbn := Lib.hid ((HB.out ls hun).resolve_left h11 w1 hb)
    have Hb := Lib.hid hb
    clear hmay hiff h11 hrd hun hb hll Hun HB
    go_wp2_with fail
    refine Hmay.out.mono ?_
    rintro e w' ⟨rfl, rfl⟩
    clear Hmay
    go_wp2_with fail
    refine Hbn.out.mono ?_
    rintro e w2 ⟨v, rfl, hlp⟩
    have hfin : LensP w w2 cs v := by
      obtain ⟨B, d, ls', h1, h2, h3, h4, h5⟩ := hlp
      exact ⟨B, d, ls', h1, h2, h3, h4, Hb.out.trans (h5.mono Hb.out.size)⟩
    have Hf := Lib.hid hfin
    clear hfin hlp Hbn
    go_wp2
    go_ret2
    exact ⟨_, rfl, Hf.out⟩
/-- Lengths, of counts that may be. -/
theorem ulen_any (D : List Nat → Prop) (A : Option Addr) (c : Nat) (l : List Int) (w : World) (hl : l.length ≤ maxLen) (hr : Reads w A (i64z l)) (hR : Bm.Right l) (hD : D (l.map Int.toNat))
    (hB : ∀ (cs ls : List Nat) (W : World), D cs → cs.length ≤ 256 → (∀ x ∈ cs, x ≤ 1048576) → (∃ x ∈ cs, 0 < x) → Reads W A (i64s cs) → Bm.UnbN cs ls → (∀ x ∈ ls, x ≤ 11) ∨ (Calls Tryz.prog 56 #[.slice A cs.length c] W fun e w' => ∃ v, e = .returned v ∧ LensP W w' cs v)) :
    Calls Tryz.prog 32 #[.slice A l.length c] w fun e w' => ∃ v, e = .returned (.tuple #[v, .bool true]) ∧ LensP w w' (l.map Int.toNat) v := by
  have hri := nright_b A c l w hl hr
  rw [show Bm.rightB l = true from decide_eq_true hR] at hri
  obtain ⟨e1, k1, n1⟩ := Bm.right_nat l hR
  have h256 := hR.1
  have hex : ∃ x ∈ l.map Int.toNat, 0 < x := by
    obtain ⟨x, hx, h0⟩ := hR.2.2
    exact ⟨x.toNat, List.mem_map.2 ⟨x, hx, rfl⟩, by omega⟩
  have hr2 : Reads w A (i64s (l.map Int.toNat)) := by rw [← i64z_nat, ← e1]; exact hr
  have h := ulen_yes A c (l.map Int.toNat) w (by omega) k1 hex hr2 (by rw [n1]; exact hri) (fun ls hu => by
    by_cases h11 : ∀ x ∈ ls, x ≤ 11
    · exact .inl h11
    · exact .inr (fun W hW => ((hB (l.map Int.toNat) ls W hD (by omega) k1 hex (reads_on hr2 hW) hu).resolve_left h11)))
  rw [n1] at h
  exact h
theorem unb_521 (ls : List Nat) (h : Bm.UnbN [5, 2, 1] ls) : ∀ x ∈ ls, x ≤ 11 := by
  have hl := h.len
  match ls, hl with
  | [a, b, c], _ =>
    have hc := h.cost
    have h0 := h.just 0 (by simp)
    have h1 := h.just 1 (by simp)
    have h2 := h.just 2 (by simp)
    have hb : Bm.bestN [5, 2, 1] = 11 := by decide +kernel
    rw [hb] at hc
    simp [Bm.costN, List.range_succ] at hc
    intro x hx
    simp at hx
    omega
end Go.Proofs.YtgcfdjgfnagmjaaGreat
