/-
  The program's layer 9 (huff): the library's Grow of nothing and Concat of two, over parcels and over ints, by their walks. Conditions: as each theorem's premises say.
  Plain mathematics for layer 9 (huff): how often symbols come in the lightest parcels: whole lengths, no longer than eleven, that cost no more than the flattest. It speaks of no program's function. No condition.
-/
import Derived.Test.YtgcfdjgfnagmjaaGreatGal
import Derived.Lib.AppendZerosOnto
namespace Go.Proofs.YtgcfdjgfnagmjaaGreat
open Go.RowKit
theorem wpList_append_run {ops : Array Oper} {rest : List Oper} {o : Oper} {a : Act} (w : World) {Q : Exit → Act → World → Prop} (hgd : o.guard = none) (s x : Operand) (t tx : TypeId)
    (ho : o.op = .call { callee := .builtin .append, args := #[s, x], argTypes := #[t, tx] }) (vs vx v' : Value) (w' : World) (hs : a.eval s = vs) (hx : a.eval x = vx) (hr : ∀ ty, (Builtin.append_ #[t, tx] ty #[vs, vx]).run Tryz.prog w = .ok v' w')
    (h : wpList Tryz.prog ops Q rest (a.put o.dst v') w') : wpList Tryz.prog ops Q (o :: rest) a w :=
  wpList_plain hgd fun _ hK => by
    unfold Oper.wp execOp
    simp only [ho, resolve, invoke, builtin, Sem.run_bind, Sem.run_pure, Result.andThen_ok, List.map_toArray, List.map_cons, List.map_nil, hs, hx, hr]
    exact hK _ _ h
theorem info_pcl : (Tryz.prog.info? 122).map (fun i => (i.zero, i.size, i.bytes)) = some (some (.agg #[.int .i64 0, .slice none 0 0]), 2, 32) := by kernel_rfl
theorem p2_length (l : List Pcl) : (p2 l).length = l.length * 2 := cc2_length l
theorem p2_append (l m : List Pcl) : p2 (l ++ m) = p2 l ++ p2 m := cc2_append l m
theorem p2_one (l : List Pcl) : ∀ u ∈ p2 l, u.oneCell' = true := by
  induction l with
  | nil => intro u hu; simp [p2, cc2] at hu
  | cons x l ih =>
    intro u hu
    unfold p2 at hu ih
    rw [cc2] at hu
    rcases List.mem_cons.1 hu with rfl | hu
    · rfl
    · rcases List.mem_cons.1 hu with rfl | hu
      · rfl
      · exact ih u hu
theorem i64s_one (l : List Nat) : ∀ u ∈ i64s l, u.oneCell' = true := by
  intro u hu
  simp only [i64s, List.mem_map] at hu
  obtain ⟨_, _, rfl⟩ := hu
  rfl
theorem i64s_len1 (l : List Nat) : (i64s l).length = l.length * 1 := by rw [i64s_length, Nat.mul_one]
theorem i64s_app (l m : List Nat) : i64s (l ++ m) = i64s l ++ i64s m := (i64s_append l m).symm
set_option maxHeartbeats 1000000 in
set_option maxRecDepth 100000 in
theorem ugrowi_any (n : Nat) (w : World) (h0 : 0 < n) (hn : n ≤ 100000) :
    Calls Tryz.prog 106 #[.slice none 0 0, .int .i64 (n : Int)] w fun e w' => ∃ G, e = .returned (.slice (some ⟨w.heap.size, 0, none⟩) 0 G) ∧ w'.ownsRow w.heap.size 3 1 (.slice (some ⟨w.heap.size, 0, none⟩) 0 G) 0 [] ∧ w.grownBy w' none := by
  obtain ⟨i0, hi, hz0, hz1, hz2⟩ := info_parts info_in
  obtain ⟨G, hG⟩ : ∃ G, G = grownCap w n 0 3 := ⟨_, rfl⟩
  have hGn : n ≤ G := by rw [hG]; exact grownCap_ge w n 0 3
  have hGm : G ≤ maxLen := by rw [hG]; exact grownCap_le_maxLen w n 0 3 (by unfold maxLen; omega)
  have hz : ∀ k, (Builtin.zeroCells (.int .i64 0 : Value).cells k).size = k * 1 := fun k => by simp [Builtin.zeroCells, Value.cells]
  have hrz : ∀ ty, (Builtin.append_ #[33, 3] ty #[.slice none 0 0, .int .i64 (n : Int)]).run Tryz.prog w = .ok (.slice (some ⟨w.heap.size, 0, none⟩) n G) (w.drew.alloc (.cells (#[] ++ Builtin.zeroCells (.int .i64 0 : Value).cells n ++ Builtin.zeroCells (.int .i64 0 : Value).cells (G - n)) 3)) := fun ty => by
    have h := Lib.run_append_grow_zeros (P := Tryz.prog) w 33 3 ty 3 i0 (.int .i64 0) .i64 .i64 Tryz.underlying33 Tryz.underlying3 hi hz0 none 0 0 [] (run_firstCells_none w.drew i0.size 0 0 0) n h0 (by rw [hz1]; omega) (by omega) (by omega) (by rw [hz2]; omega)
      (by rw [Nat.zero_add]; exact growslice_fits (by omega) (by rw [hz2]; omega))
    simp only [Nat.zero_add] at h
    rw [← hG] at h
    exact h
  have hfin : (w.drew.alloc (.cells (#[] ++ Builtin.zeroCells (.int .i64 0 : Value).cells n ++ Builtin.zeroCells (.int .i64 0 : Value).cells (G - n)) 3)).ownsRow w.heap.size 3 1 (.slice (some ⟨w.heap.size, 0, none⟩) 0 G) 0 [] ∧ w.grownBy (w.drew.alloc (.cells (#[] ++ Builtin.zeroCells (.int .i64 0 : Value).cells n ++ Builtin.zeroCells (.int .i64 0 : Value).cells (G - n)) 3)) none :=
    ⟨⟨by simp, .inr ⟨w.heap.size, G, _, rfl, Nat.le_refl _, heap_alloc_new w.drew _, by omega, hGm, by simp only [Array.size_append, hz, Array.size_empty]; omega, by simp⟩⟩, ⟨rfl, rfl, rfl, by simp, fun _ hk _ => Go.heap_alloc_old w.drew _ hk⟩⟩
  have Hfin := Lib.hid hfin
  have hG63 : G ≤ 9223372036854775807 := by unfold maxLen at hGm; omega
  clear hfin hG hz
  generalize w.drew.alloc (.cells (#[] ++ Builtin.zeroCells (.int .i64 0 : Value).cells n ++ Builtin.zeroCells (.int .i64 0 : Value).cells (G - n)) 3) = w2 at *
  have Hrz := Lib.hid hrz
  clear hrz hi hz0 hz1 hz2
  go_enter Tryz.func106, Tryz.ntmps106
  go_wp2_with (at_builtin; refine wpList_append_run _ rfl _ _ 33 3 rfl (.slice none 0 0) (.int .i64 (n : Int)) (.slice (some ⟨w.heap.size, 0, none⟩) n G) w2 rfl rfl Hrz.out ?_)
  go_wp2
  go_ret
  exact ⟨G, rfl, Hfin.out.1, Hfin.out.2⟩
set_option maxHeartbeats 1000000 in
set_option maxRecDepth 100000 in
theorem uconi_any (B g1 n1 c1 g2 n2 c2 : Nat) (l1 l2 : List Nat) (w : World) (h1 : 0 < n1) (hl1 : l1.length = n1) (hl2 : l2.length = n2) (hn1 : n1 ≤ 10000) (hn2 : n2 ≤ 10000)
    (hB : Row w B 33 [.slice (some ⟨g1, 0, none⟩) n1 c1, .slice (some ⟨g2, 0, none⟩) n2 c2])
    (hr1 : ∀ W, Below w.heap.size w W → ∀ j u, (i64s l1)[j]? = some u → W.cell? ((⟨g1, 0, none⟩ : Addr).add j) = some u) (hr2 : ∀ W, Below w.heap.size w W → ∀ j u, (i64s l2)[j]? = some u → W.cell? ((⟨g2, 0, none⟩ : Addr).add j) = some u) :
    Calls Tryz.prog 100 #[.slice (some ⟨B, 0, none⟩) 2 2] w fun e w' => ∃ v, e = .returned v ∧ w'.ownsRow w.heap.size 3 1 v (n1 + n2) (i64s (l1 ++ l2)) ∧ Below w.heap.size w w' := by
  obtain ⟨i0, hi, hz0, hz1, hz2⟩ := info_parts info_in
  have k0 := hB.cell 0
  have k1 := hB.cell 1
  simp only [List.getElem?_cons_zero, List.getElem?_cons_succ] at k0 k1
  have HB := Lib.hid hB
  have Hr1 := Lib.hid hr1
  have Hr2 := Lib.hid hr2
  have Hgrow := Lib.hid (ugrowi_any (n1 + n2) w (by omega) (by omega))
  have L1 : Hid (l1.length = n1) := Lib.hid hl1
  have L2 : Hid (l2.length = n2) := Lib.hid hl2
  clear hB hr1 hr2 hl1 hl2
  rw [Int.natCast_add] at Hgrow
  go_enter Tryz.func100, Tryz.ntmps100
  go_wp2
  go_loopw [3, 11] (fun sv iv wr => wr = w ∧ ((sv = .int .i64 0 ∧ iv = .int .i64 0) ∨ (sv = .int .i64 (n1 : Int) ∧ iv = .int .i64 1) ∨ (sv = .int .i64 ((n1 : Int) + (n2 : Int)) ∧ iv = .int .i64 2))) (fun _ iv _ => 2 - (intOf iv).toNat)
  case atStart => exact ⟨rfl, .inl ⟨rfl, rfl⟩⟩
  case round =>
    obtain ⟨rfl, ⟨rfl, rfl⟩ | ⟨rfl, rfl⟩ | ⟨rfl, rfl⟩⟩ := hrel
    · go_wp2
      go_roundw
      case rel => exact ⟨by trivial, .inr (.inl ⟨by go_num, by go_num⟩)⟩
      case measure => simp [intOf]
    · go_wp2
      go_roundw
      case rel => exact ⟨by trivial, .inr (.inr ⟨by go_num, by go_num⟩)⟩
      case measure => simp [intOf]
    · clear k0 k1
      rename World => wA
      go_wp2_with fail
      refine Hgrow.out.mono ?_
      rintro e w1 ⟨G, rfl, hown, hgr⟩
      have hb1 := below_of_grown hgr
      have hst : Hid (∃ v, Value.slice (some ⟨wA.heap.size, 0, none⟩) 0 G = v ∧ w1.ownsRow wA.heap.size 3 1 v 0 (i64s [])) := Lib.hid ⟨_, rfl, hown⟩
      have Hb1 := Lib.hid hb1
      clear hown hgr hb1 Hgrow
      go_wp2
      rename World => wx
      go_loopw [6, 27] (fun vv iv wr2 => Hid (Below wA.heap.size wA wr2) ∧ ((iv = .int .i64 0 ∧ Hid (wr2.ownsRow wA.heap.size 3 1 vv 0 (i64s []))) ∨ (iv = .int .i64 1 ∧ Hid (wr2.ownsRow wA.heap.size 3 1 vv n1 (i64s l1))) ∨ (iv = .int .i64 2 ∧ Hid (wr2.ownsRow wA.heap.size 3 1 vv (n1 + n2) (i64s (l1 ++ l2)))))) (fun _ iv _ => 2 - (intOf iv).toNat)
      case atStart =>
        refine ⟨Hb1, .inl ⟨rfl, Lib.hid ?_⟩⟩
        obtain ⟨v, hv, h⟩ := hst.out
        rw [hv]
        exact h
      case round =>
        obtain ⟨hb, ⟨rfl, hown⟩ | ⟨rfl, hown⟩ | ⟨rfl, hown⟩⟩ := hrel
        · have hB2 := row_below HB.out hb.out
          have k0 := hB2.cell 0
          simp only [List.getElem?_cons_zero] at k0
          have hsz := hb.out.size
          have Hnews := Lib.hid (Hr1.out _ hb.out)
          clear hB2
          go_wp2_with (at_builtin; refine wpList_append_own _ rfl _ _ 33 rfl wA.heap.size 3 i0 (.int .i64 0) 1 8 Tryz.underlying33 hi hz0 hz1 hz2 rfl (by decide) _ _ _ rfl hown.out ⟨g1, 0, none⟩ n1 c1 (i64s l1) rfl ?d0 Hnews.out ?d2 ?d3 ?d4 ?d5 ?_)
          case d0 => rw [i64s_len1, L1.out]
          case d2 => exact i64s_one l1
          case d3 => unfold maxLen; omega
          case d4 => omega
          case d5 => omega
          intro u' w7 hown7 hgr7 _
          have hb7 : Below wA.heap.size wA w7 := hb.out.grown hgr7 hsz (fun q hq => (hown.out.lt q hq).1)
          have Hb7 := Lib.hid hb7
          have Hown7 : Hid (w7.ownsRow wA.heap.size 3 1 u' n1 (i64s l1)) := Lib.hid hown7
          clear hown7 hgr7 hb7 hown hb Hnews k0
          go_wp2
          go_roundw
          case rel => exact ⟨Hb7, .inr (.inl ⟨by go_num, Hown7⟩)⟩
          case measure => simp [intOf]
        · have hB2 := row_below HB.out hb.out
          have k1 := hB2.cell 1
          simp only [List.getElem?_cons_zero, List.getElem?_cons_succ] at k1
          have hsz := hb.out.size
          have Hnews := Lib.hid (Hr2.out _ hb.out)
          clear hB2
          go_wp2_with (at_builtin; refine wpList_append_own _ rfl _ _ 33 rfl wA.heap.size 3 i0 (.int .i64 0) 1 8 Tryz.underlying33 hi hz0 hz1 hz2 rfl (by decide) _ _ _ rfl hown.out ⟨g2, 0, none⟩ n2 c2 (i64s l2) rfl ?e0 Hnews.out ?e2 ?e3 ?e4 ?e5 ?_)
          case e0 => rw [i64s_len1, L2.out]
          case e2 => exact i64s_one l2
          case e3 => unfold maxLen; omega
          case e4 => omega
          case e5 => omega
          intro u' w7 hown7 hgr7 _
          have hb7 : Below wA.heap.size wA w7 := hb.out.grown hgr7 hsz (fun q hq => (hown.out.lt q hq).1)
          have Hb7 := Lib.hid hb7
          have Hown7 : Hid (w7.ownsRow wA.heap.size 3 1 u' (n1 + n2) (i64s (l1 ++ l2))) := Lib.hid (by rw [i64s_app]; exact hown7)
          clear hown7 hgr7 hb7 hown hb Hnews k1
          go_wp2
          go_roundw
          case rel => exact ⟨Hb7, .inr (.inr ⟨by go_num, Hown7⟩)⟩
          case measure => simp [intOf]
        · go_wp2
          go_ret
          exact ⟨_, rfl, hown.out, hb.out⟩
set_option maxHeartbeats 1000000 in
set_option maxRecDepth 100000 in
theorem ugrowp_any (n : Nat) (w : World) (h0 : 0 < n) (hn : n ≤ 100000) :
    Calls Tryz.prog 98 #[.slice none 0 0, .int .i64 (n : Int)] w fun e w' => ∃ G, e = .returned (.slice (some ⟨w.heap.size, 0, none⟩) 0 G) ∧ w'.ownsRow w.heap.size 122 2 (.slice (some ⟨w.heap.size, 0, none⟩) 0 G) 0 [] ∧ w.grownBy w' none := by
  obtain ⟨i0, hi, hz0, hz1, hz2⟩ := info_parts info_pcl
  obtain ⟨G, hG⟩ : ∃ G, G = grownCap w n 0 122 := ⟨_, rfl⟩
  have hGn : n ≤ G := by rw [hG]; exact grownCap_ge w n 0 122
  have hGm : G ≤ maxLen := by rw [hG]; exact grownCap_le_maxLen w n 0 122 (by unfold maxLen; omega)
  have hz : ∀ k, (Builtin.zeroCells (.agg #[.int .i64 0, .slice none 0 0] : Value).cells k).size = k * 2 := fun k => by simp [Builtin.zeroCells, Value.cells]
  have hrz : ∀ ty, (Builtin.append_ #[117, 3] ty #[.slice none 0 0, .int .i64 (n : Int)]).run Tryz.prog w = .ok (.slice (some ⟨w.heap.size, 0, none⟩) n G) (w.drew.alloc (.cells (#[] ++ Builtin.zeroCells (.agg #[.int .i64 0, .slice none 0 0] : Value).cells n ++ Builtin.zeroCells (.agg #[.int .i64 0, .slice none 0 0] : Value).cells (G - n)) 122)) := fun ty => by
    have h := Lib.run_append_grow_zeros (P := Tryz.prog) w 117 3 ty 122 i0 (.agg #[.int .i64 0, .slice none 0 0]) .i64 .i64 Tryz.underlying117 Tryz.underlying3 hi hz0 none 0 0 [] (run_firstCells_none w.drew i0.size 0 0 0) n h0 (by rw [hz1]; omega) (by omega) (by omega) (by rw [hz2]; omega)
      (by rw [Nat.zero_add]; exact growslice_fits (by omega) (by rw [hz2]; omega))
    simp only [Nat.zero_add] at h
    rw [← hG] at h
    exact h
  have hfin : (w.drew.alloc (.cells (#[] ++ Builtin.zeroCells (.agg #[.int .i64 0, .slice none 0 0] : Value).cells n ++ Builtin.zeroCells (.agg #[.int .i64 0, .slice none 0 0] : Value).cells (G - n)) 122)).ownsRow w.heap.size 122 2 (.slice (some ⟨w.heap.size, 0, none⟩) 0 G) 0 [] ∧ w.grownBy (w.drew.alloc (.cells (#[] ++ Builtin.zeroCells (.agg #[.int .i64 0, .slice none 0 0] : Value).cells n ++ Builtin.zeroCells (.agg #[.int .i64 0, .slice none 0 0] : Value).cells (G - n)) 122)) none :=
    ⟨⟨by simp, .inr ⟨w.heap.size, G, _, rfl, Nat.le_refl _, heap_alloc_new w.drew _, by omega, hGm, by simp only [Array.size_append, hz, Array.size_empty]; omega, by simp⟩⟩, ⟨rfl, rfl, rfl, by simp, fun _ hk _ => Go.heap_alloc_old w.drew _ hk⟩⟩
  have Hfin := Lib.hid hfin
  have hG63 : G ≤ 9223372036854775807 := by unfold maxLen at hGm; omega
  clear hfin hG hz
  generalize w.drew.alloc (.cells (#[] ++ Builtin.zeroCells (.agg #[.int .i64 0, .slice none 0 0] : Value).cells n ++ Builtin.zeroCells (.agg #[.int .i64 0, .slice none 0 0] : Value).cells (G - n)) 122) = w2 at *
  have Hrz := Lib.hid hrz
  clear hrz hi hz0 hz1 hz2
  go_enter Tryz.func98, Tryz.ntmps98
  go_wp2_with (at_builtin; refine wpList_append_run _ rfl _ _ 117 3 rfl (.slice none 0 0) (.int .i64 (n : Int)) (.slice (some ⟨w.heap.size, 0, none⟩) n G) w2 rfl rfl Hrz.out ?_)
  go_wp2
  go_ret
  exact ⟨G, rfl, Hfin.out.1, Hfin.out.2⟩
set_option maxHeartbeats 1000000 in
set_option maxRecDepth 100000 in
theorem uconp_any (B g1 n1 c1 g2 n2 c2 : Nat) (l1 l2 : List Pcl) (w : World) (h1 : 0 < n1) (hl1 : l1.length = n1) (hl2 : l2.length = n2) (hn1 : n1 ≤ 10000) (hn2 : n2 ≤ 10000)
    (hB : Row w B 117 [.slice (some ⟨g1, 0, none⟩) n1 c1, .slice (some ⟨g2, 0, none⟩) n2 c2])
    (hr1 : ∀ W, Below w.heap.size w W → ∀ j u, (p2 l1)[j]? = some u → W.cell? ((⟨g1, 0, none⟩ : Addr).add j) = some u) (hr2 : ∀ W, Below w.heap.size w W → ∀ j u, (p2 l2)[j]? = some u → W.cell? ((⟨g2, 0, none⟩ : Addr).add j) = some u) :
    Calls Tryz.prog 86 #[.slice (some ⟨B, 0, none⟩) 2 2] w fun e w' => ∃ v, e = .returned v ∧ w'.ownsRow w.heap.size 122 2 v (n1 + n2) (p2 (l1 ++ l2)) ∧ Below w.heap.size w w' := by
  obtain ⟨i0, hi, hz0, hz1, hz2⟩ := info_parts info_pcl
  have k0 := hB.cell 0
  have k1 := hB.cell 1
  simp only [List.getElem?_cons_zero, List.getElem?_cons_succ] at k0 k1
  have HB := Lib.hid hB
  have Hr1 := Lib.hid hr1
  have Hr2 := Lib.hid hr2
  have Hgrow := Lib.hid (ugrowp_any (n1 + n2) w (by omega) (by omega))
  have L1 : Hid (l1.length = n1) := Lib.hid hl1
  have L2 : Hid (l2.length = n2) := Lib.hid hl2
  clear hB hr1 hr2 hl1 hl2
  rw [Int.natCast_add] at Hgrow
  go_enter Tryz.func86, Tryz.ntmps86
  go_wp2
  go_loopw [3, 11] (fun sv iv wr => wr = w ∧ ((sv = .int .i64 0 ∧ iv = .int .i64 0) ∨ (sv = .int .i64 (n1 : Int) ∧ iv = .int .i64 1) ∨ (sv = .int .i64 ((n1 : Int) + (n2 : Int)) ∧ iv = .int .i64 2))) (fun _ iv _ => 2 - (intOf iv).toNat)
  case atStart => exact ⟨rfl, .inl ⟨rfl, rfl⟩⟩
  case round =>
    obtain ⟨rfl, ⟨rfl, rfl⟩ | ⟨rfl, rfl⟩ | ⟨rfl, rfl⟩⟩ := hrel
    · go_wp2
      go_roundw
      case rel => exact ⟨by trivial, .inr (.inl ⟨by go_num, by go_num⟩)⟩
      case measure => simp [intOf]
    · go_wp2
      go_roundw
      case rel => exact ⟨by trivial, .inr (.inr ⟨by go_num, by go_num⟩)⟩
      case measure => simp [intOf]
    · clear k0 k1
      rename World => wA
      go_wp2_with fail
      refine Hgrow.out.mono ?_
      rintro e w1 ⟨G, rfl, hown, hgr⟩
      have hb1 := below_of_grown hgr
      have hst : Hid (∃ v, Value.slice (some ⟨wA.heap.size, 0, none⟩) 0 G = v ∧ w1.ownsRow wA.heap.size 122 2 v 0 (p2 [])) := Lib.hid ⟨_, rfl, hown⟩
      have Hb1 := Lib.hid hb1
      clear hown hgr hb1 Hgrow
      go_wp2
      rename World => wx
      go_loopw [6, 27] (fun vv iv wr2 => Hid (Below wA.heap.size wA wr2) ∧ ((iv = .int .i64 0 ∧ Hid (wr2.ownsRow wA.heap.size 122 2 vv 0 (p2 []))) ∨ (iv = .int .i64 1 ∧ Hid (wr2.ownsRow wA.heap.size 122 2 vv n1 (p2 l1))) ∨ (iv = .int .i64 2 ∧ Hid (wr2.ownsRow wA.heap.size 122 2 vv (n1 + n2) (p2 (l1 ++ l2)))))) (fun _ iv _ => 2 - (intOf iv).toNat)
      case atStart =>
        refine ⟨Hb1, .inl ⟨rfl, Lib.hid ?_⟩⟩
        obtain ⟨v, hv, h⟩ := hst.out
        rw [hv]
        exact h
      case round =>
        obtain ⟨hb, ⟨rfl, hown⟩ | ⟨rfl, hown⟩ | ⟨rfl, hown⟩⟩ := hrel
        · have hB2 := row_below HB.out hb.out
          have k0 := hB2.cell 0
          simp only [List.getElem?_cons_zero] at k0
          have hsz := hb.out.size
          have Hnews := Lib.hid (Hr1.out _ hb.out)
          clear hB2
          go_wp2_with (at_builtin; refine wpList_append_own _ rfl _ _ 117 rfl wA.heap.size 122 i0 (.agg #[.int .i64 0, .slice none 0 0]) 2 32 Tryz.underlying117 hi hz0 hz1 hz2 rfl (by decide) _ _ _ rfl hown.out ⟨g1, 0, none⟩ n1 c1 (p2 l1) rfl ?d0 Hnews.out ?d2 ?d3 ?d4 ?d5 ?_)
          case d0 => rw [p2_length, L1.out]
          case d2 => exact p2_one l1
          case d3 => unfold maxLen; omega
          case d4 => omega
          case d5 => omega
          intro u' w7 hown7 hgr7 _
          have hb7 : Below wA.heap.size wA w7 := hb.out.grown hgr7 hsz (fun q hq => (hown.out.lt q hq).1)
          have Hb7 := Lib.hid hb7
          have Hown7 : Hid (w7.ownsRow wA.heap.size 122 2 u' n1 (p2 l1)) := Lib.hid hown7
          clear hown7 hgr7 hb7 hown hb Hnews k0
          go_wp2
          go_roundw
          case rel => exact ⟨Hb7, .inr (.inl ⟨by go_num, Hown7⟩)⟩
          case measure => simp [intOf]
        · have hB2 := row_below HB.out hb.out
          have k1 := hB2.cell 1
          simp only [List.getElem?_cons_zero, List.getElem?_cons_succ] at k1
          have hsz := hb.out.size
          have Hnews := Lib.hid (Hr2.out _ hb.out)
          clear hB2
          go_wp2_with (at_builtin; refine wpList_append_own _ rfl _ _ 117 rfl wA.heap.size 122 i0 (.agg #[.int .i64 0, .slice none 0 0]) 2 32 Tryz.underlying117 hi hz0 hz1 hz2 rfl (by decide) _ _ _ rfl hown.out ⟨g2, 0, none⟩ n2 c2 (p2 l2) rfl ?e0 Hnews.out ?e2 ?e3 ?e4 ?e5 ?_)
          case e0 => rw [p2_length, L2.out]
          case e2 => exact p2_one l2
          case e3 => unfold maxLen; omega
          case e4 => omega
          case e5 => omega
          intro u' w7 hown7 hgr7 _
          have hb7 : Below wA.heap.size wA w7 := hb.out.grown hgr7 hsz (fun q hq => (hown.out.lt q hq).1)
          have Hb7 := Lib.hid hb7
          have Hown7 : Hid (w7.ownsRow wA.heap.size 122 2 u' (n1 + n2) (p2 (l1 ++ l2))) := Lib.hid (by rw [p2_append]; exact hown7)
          clear hown7 hgr7 hb7 hown hb Hnews k1
          go_wp2
          go_roundw
          case rel => exact ⟨Hb7, .inr (.inr ⟨by go_num, Hown7⟩)⟩
          case measure => simp [intOf]
        · go_wp2
          go_ret
          exact ⟨_, rfl, hown.out, hb.out⟩
end Go.Proofs.YtgcfdjgfnagmjaaGreat

namespace Go.Proofs.YtgcfdjgfnagmjaaGreat.Bm
/-- How often a symbol comes in the first k of a list. -/
def occ (T : List Pcl) (k i : Nat) : Nat := (syms (T.take k)).count i
theorem mem_syms {L : List Pcl} {i : Nat} : i ∈ syms L ↔ ∃ t ∈ L, i ∈ t.2.2 := by simp [syms, List.mem_flatMap]
/-- One level: how the first k of a list come of the singles and the level below. -/
theorem lev_step {cs : List Nat} {S T P T' : List Pcl} {t : Nat} (hS : SingN cs S) (hT : Lev S t T) (hp : PairsOf T P) (hs : Stb (S ++ P) T') (hr : Srt T') (k : Nat) (hk : k ≤ T'.length) :
    ∃ s q, s + q = k ∧ s ≤ S.length ∧ 2 * q ≤ T.length ∧ (∀ i, occ T' k i = (syms (S.take s)).count i + occ T (2 * q) i) ∧ (∀ i, 0 < occ T (2 * q) i → (syms (S.take s)).count i = 1) ∧ wsum (T'.take k) = wsum (S.take s) + wsum (T.take (2 * q)) := by
  obtain ⟨sT, okT⟩ := lev_ok hS hT
  have okP := pairs_ok hp okT
  have h1 : ∀ t ∈ S, single t = true := fun t ht => (sing_ok hS t ht).2
  have h2 : ∀ t ∈ P, single t = false := fun t ht => by
    have := (okP t ht).2
    unfold single
    rw [beq_eq_false_iff_ne]
    omega
  obtain ⟨m1, m2⟩ := merged hS.srt (pairs_srt hp sT) h1 h2 hs hr
  obtain ⟨s, q, e, hs1, hq1, hperm, f1, f2⟩ := cut_at m1 m2 k hk
  have hl := hp.len
  obtain ⟨p1, p2⟩ := pairs_take hp q hq1
  have hnd : ∀ i, (syms (S.take s)).count i ≤ 1 := fun i => by
    have h3 : (syms (S.take s)).Nodup := by
      have h4 := hS.nodup
      rw [← List.take_append_drop s S, syms_append] at h4
      exact (List.nodup_append.1 h4).1
    exact List.nodup_iff_count.1 h3 i
  refine ⟨s, q, e, hs1, by omega, fun i => ?_, fun i hi => ?_, ?_⟩
  · unfold occ
    rw [(syms_perm hperm).count_eq i, syms_append, List.count_append, p1]
  · have h3 : 0 < (syms (S.take s)).count i := by
      unfold occ at hi
      rw [← p1, List.count_pos_iff, mem_syms] at hi
      obtain ⟨u, hu, hiu⟩ := hi
      have huP : u ∈ P := List.mem_of_mem_take hu
      obtain ⟨⟨w1, w2, w3⟩, w4⟩ := okP u huP
      obtain ⟨c1, c2⟩ := w3 i hiu
      have huT : u ∈ T'.take k := (List.mem_filter.1 (by rw [f2]; exact hu)).1
      have hiS := hS.all i c2 c1
      obtain ⟨v, hv, hiv⟩ := mem_syms.1 hiS
      obtain ⟨j, j1, j2, j3, j4⟩ := hS.one v hv
      rw [j1, List.mem_singleton] at hiv
      subst hiv
      have hlt : v.1 < u.1 := by
        rw [w1, j2]
        obtain ⟨A, B, hAB⟩ := List.append_of_mem hiu
        rw [hAB, List.map_append, List.map_cons, List.sum_append_nat, List.sum_cons]
        rw [hAB, List.length_append, List.length_cons] at w4
        have hpos : 0 < (A.map (nat1 cs)).sum + (B.map (nat1 cs)).sum := by
          match A, B, hAB, w4 with
          | a :: A, _, hAB, _ =>
            have := (w3 a (by rw [hAB]; simp)).1
            rw [List.map_cons, List.sum_cons]
            omega
          | [], b :: B, hAB, _ =>
            have := (w3 b (by rw [hAB]; simp)).1
            rw [List.map_cons, List.sum_cons]
            omega
          | [], [], _, w4 => simp at w4
        omega
      have hvT' : v ∈ T' := hs.1.mem_iff.1 (List.mem_append_left _ hv)
      have hvk : v ∈ T'.take k := by
        rw [← List.take_append_drop k T'] at hvT'
        rcases List.mem_append.1 hvT' with h5 | h5
        · exact h5
        · exfalso
          have h6 := hr
          rw [← List.take_append_drop k T'] at h6
          have := (List.pairwise_append.1 h6).2.2 u huT v h5
          omega
      have hvs : v ∈ S.take s := by
        rw [← f1]
        exact List.mem_filter.2 ⟨hvk, h1 v hv⟩
      rw [List.count_pos_iff, mem_syms]
      exact ⟨v, hvs, by rw [j1]; simp⟩
    have := hnd i
    omega
  · rw [wsum_perm hperm, wsum_append, p2]
theorem sing_syms {cs : List Nat} {S : List Pcl} (h : SingN cs S) (s : Nat) : (syms (S.take s)).length = (S.take s).length ∧ ∀ y ∈ syms (S.take s), y < cs.length := by
  have : ∀ L : List Pcl, (∀ t ∈ L, t ∈ S) → (syms L).length = L.length ∧ ∀ y ∈ syms L, y < cs.length := fun L => by
    induction L with
    | nil => intro _; simp [syms]
    | cons t L ih =>
      intro hL
      obtain ⟨h1, h2⟩ := ih (fun u hu => hL u (List.mem_cons_of_mem _ hu))
      obtain ⟨i, e1, _, _, e4⟩ := h.one t (hL t List.mem_cons_self)
      have e : syms (t :: L) = i :: syms L := by simp [syms, e1]
      rw [e]
      refine ⟨by simp [h1], fun y hy => ?_⟩
      rcases List.mem_cons.1 hy with rfl | hy
      · exact e4
      · exact h2 y hy
  exact this _ (fun t ht => List.mem_of_mem_take ht)
theorem count_total {cs : List Nat} {S : List Pcl} (h : SingN cs S) (s : Nat) (hs : s ≤ S.length) : ((List.range cs.length).map fun i => (syms (S.take s)).count i).sum = s := by
  obtain ⟨h1, h2⟩ := sing_syms h s
  have h3 := count_sum (fun _ => 1) cs.length (syms (S.take s)) h2
  simp only [Nat.one_mul] at h3
  rw [h3, List.map_const', List.sum_replicate_nat, Nat.mul_one, h1, List.length_take]
  omega
/-- How wide the first k of a list are. -/
theorem lev_kraft {cs : List Nat} {S : List Pcl} (hS : SingN cs S) : ∀ {t : Nat} {T : List Pcl}, Lev S t T → ∀ k, k ≤ T.length → (∀ i, occ T k i ≤ t + 1) ∧ ((List.range cs.length).map fun i => 2 ^ (t + 1) - 2 ^ (t + 1 - occ T k i)).sum = k * 2 ^ t := by
  intro t T hT
  induction hT with
  | zero =>
    intro k hk
    have hnd : ∀ i, occ S k i ≤ 1 := fun i => by
      have h4 := hS.nodup
      rw [← List.take_append_drop k S, syms_append] at h4
      exact List.nodup_iff_count.1 (List.nodup_append.1 h4).1 i
    refine ⟨fun i => by have := hnd i; omega, ?_⟩
    have h1 := count_total hS k hk
    rw [Nat.pow_zero, Nat.mul_one]
    refine Eq.trans ?_ h1
    congr 1
    apply List.map_congr_left
    intro i _
    have h2 := hnd i
    unfold occ at h2 ⊢
    generalize (syms (S.take k)).count i = c at *
    obtain rfl | rfl : c = 0 ∨ c = 1 := by omega
    · simp
    · simp
  | @succ t T P T' hT hp hs hr ih =>
    intro k hk
    obtain ⟨s, q, e, hs1, hq1, ho, hpre, _⟩ := lev_step hS hT hp hs hr k hk
    obtain ⟨ih1, ih2⟩ := ih (2 * q) hq1
    have hc1 : ∀ i, (syms (S.take s)).count i ≤ 1 := fun i => by
      have h4 := hS.nodup
      rw [← List.take_append_drop s S, syms_append] at h4
      exact List.nodup_iff_count.1 (List.nodup_append.1 h4).1 i
    refine ⟨fun i => by have := ho i; have := ih1 i; have := hc1 i; omega, ?_⟩
    have h1 := count_total hS s hs1
    have h2 : ((List.range cs.length).map fun i => 2 ^ (t + 1 + 1) - 2 ^ (t + 1 + 1 - occ T' k i)).sum = ((List.range cs.length).map fun i => 2 ^ (t + 1) * (syms (S.take s)).count i + (2 ^ (t + 1) - 2 ^ (t + 1 - occ T (2 * q) i))).sum := by
      congr 1
      apply List.map_congr_left
      intro i _
      have a1 := ho i
      have a2 := hpre i
      have a3 := hc1 i
      have a4 := ih1 i
      rw [a1]
      generalize (syms (S.take s)).count i = c at *
      generalize occ T (2 * q) i = o at *
      have hp2 : 2 ^ (t + 1 + 1) = 2 * 2 ^ (t + 1) := by rw [Nat.pow_succ, Nat.mul_comm]
      have hle : 2 ^ (t + 1 - o) ≤ 2 ^ (t + 1) := Nat.pow_le_pow_right (by omega) (by omega)
      obtain rfl | rfl : c = 0 ∨ c = 1 := by omega
      · obtain rfl : o = 0 := by
          rcases Nat.eq_zero_or_pos o with h | h
          · exact h
          · have := a2 h; omega
        simp
      · rw [show t + 1 + 1 - (1 + o) = t + 1 - o by omega, hp2]
        omega
    rw [h2, sum_map_add, ih2]
    have h3 : ((List.range cs.length).map fun i => 2 ^ (t + 1) * (syms (S.take s)).count i).sum = 2 ^ (t + 1) * s := by
      conv => rhs; rw [← h1]
      clear h1 h2 ih2
      generalize List.range cs.length = L
      induction L with
      | nil => simp
      | cons a L ih => rw [List.map_cons, List.sum_cons, ih, List.map_cons, List.sum_cons, Nat.mul_add]
    rw [h3, ← e, Nat.add_mul, Nat.mul_comm s, Nat.pow_succ, show 2 * q * 2 ^ t = q * (2 ^ t * 2) by rw [Nat.mul_comm 2 q, Nat.mul_assoc, Nat.mul_comm 2]]
/-- The lightest of the lists weigh no more than the flattest codes. -/
theorem lev_flat {S : List Pcl} (w : Nat) (hw : w ≤ 11) (h1 : S.length ≤ 2 ^ w) (h2 : 2 ^ w ≤ 2 * S.length) :
    ∀ {t : Nat} {T : List Pcl}, Lev S t T → ∀ j, j ≤ w → t + j = 11 → 2 * S.length - 2 ^ j ≤ T.length ∧ wsum (T.take (2 * S.length - 2 ^ j)) ≤ (w - j) * wsum S + wsum (S.take (2 * S.length - 2 ^ w)) := by
  intro t T hT
  induction hT with
  | zero =>
    intro j hj ht
    obtain rfl : j = w := by omega
    exact ⟨by omega, by omega⟩
  | @succ t T P T' hT hp hs hr ih =>
    intro j hj ht
    have hl := hs.1.length_eq
    rw [List.length_append] at hl
    have hPl := hp.len
    by_cases hjw : j = w
    · subst hjw
      have h3 := merged_least hs.1 hr (2 * S.length - 2 ^ j) 0 (by omega) (by omega)
      simp only [Nat.add_zero, List.take_zero] at h3
      have h4 : wsum ([] : List Pcl) = 0 := rfl
      rw [h4] at h3
      exact ⟨by omega, by omega⟩
    · obtain ⟨ih1, ih2⟩ := ih (j + 1) (by omega) (by omega)
      have hpj : 2 ^ (j + 1) = 2 * 2 ^ j := by rw [Nat.pow_succ, Nat.mul_comm]
      have hjw2 : 2 ^ (j + 1) ≤ 2 ^ w := Nat.pow_le_pow_right (by omega) (by omega)
      have h3 := merged_least hs.1 hr S.length (S.length - 2 ^ j) (Nat.le_refl _) (by omega)
      rw [List.take_length, (pairs_take hp (S.length - 2 ^ j) (by omega)).2, show 2 * (S.length - 2 ^ j) = 2 * S.length - 2 ^ (j + 1) by omega, show S.length + (S.length - 2 ^ j) = 2 * S.length - 2 ^ j by omega] at h3
      refine ⟨by omega, ?_⟩
      have h5 : (w - j) * wsum S = (w - (j + 1)) * wsum S + wsum S := by
        rw [show w - j = (w - (j + 1)) + 1 by omega, Nat.succ_mul]
      omega
/-- A symbol's length: how often it comes in the lightest. -/
def lensOf (cs : List Nat) (Y : List Nat) : List Nat := (List.range cs.length).map fun i => Y.count i
theorem sum_two (f : Nat → Nat) (N a b : Nat) (ha : a < N) (hb : b < N) (hab : a ≠ b) : f a + f b ≤ ((List.range N).map f).sum := by
  have e : ((List.range N).map fun i => (if i = a then f a else 0) + (if i = b then f b else 0)).sum = f a + f b := by
    rw [sum_map_add, sum_single, sum_single, if_pos ha, if_pos hb]
  rw [← e]
  apply sum_map_le
  intro i _
  by_cases h1 : i = a
  · subst h1
    rw [if_pos rfl, if_neg hab]
    omega
  · rw [if_neg h1]
    by_cases h2 : i = b
    · subst h2
      rw [if_pos rfl]
      omega
    · rw [if_neg h2]
      omega
theorem rev_take (l : List Nat) (m : Nat) : (l.reverse.take m).sum + (l.take (l.length - m)).sum = l.sum := by
  rw [List.take_reverse, List.sum_reverse_nat]
  conv => rhs; rw [← List.take_append_drop (l.length - m) l, List.sum_append_nat]
  omega
theorem bound_good {cs : List Nat} {S T : List Pcl} (hS : SingN cs S) (h256 : cs.length ≤ 256) (h2 : 2 ≤ S.length) (hlen : S.length = (posC cs).length) (hperm : (S.map (·.1)).Perm (posC cs)) (hT : Lev S 10 T) :
    2 * S.length - 2 ≤ T.length ∧ GoodN cs (lensOf cs (syms (T.take (2 * S.length - 2)))) := by
  have hSl : S.length ≤ 256 := by rw [hlen]; exact Nat.le_trans (posC_le cs) h256
  obtain ⟨w, hw⟩ : ∃ w, w = wid (S.length - 1) := ⟨_, rfl⟩
  have hw1 : S.length ≤ 2 ^ w := by have := wid_lt (S.length - 1); rw [← hw] at this; omega
  have hw0 : 1 ≤ w := by rw [hw]; exact wid_one _ (by omega)
  have hw2 : 2 ^ w ≤ 2 * S.length := by
    have h3 := wid_le (S.length - 1) (by omega)
    rw [← hw] at h3
    have : 2 ^ w = 2 * 2 ^ (w - 1) := by
      conv => lhs; rw [show w = (w - 1) + 1 by omega, Nat.pow_succ, Nat.mul_comm]
    omega
  have hw8 : w ≤ 8 := by
    rw [hw]
    refine wid_le_of _ 8 ?_
    have : (2 : Nat) ^ 8 = 256 := by decide
    omega
  obtain ⟨fl1, fl2⟩ := lev_flat w (by omega) hw1 hw2 hT 1 hw0 rfl
  rw [Nat.pow_one] at fl1 fl2
  obtain ⟨kr1, kr2⟩ := lev_kraft hS hT (2 * S.length - 2) fl1
  obtain ⟨_, okT⟩ := lev_ok hS hT
  have okY : ∀ y ∈ syms (T.take (2 * S.length - 2)), 0 < nat1 cs y ∧ y < cs.length := fun y hy => by
    obtain ⟨u, hu, hyu⟩ := mem_syms.1 hy
    exact (okT u (List.mem_of_mem_take hu)).2.2 y hyu
  have hwY : wsum (T.take (2 * S.length - 2)) = ((syms (T.take (2 * S.length - 2))).map (nat1 cs)).sum := by
    have : ∀ L : List Pcl, (∀ u ∈ L, u ∈ T) → wsum L = ((syms L).map (nat1 cs)).sum := fun L => by
      induction L with
      | nil => intro _; simp [wsum, syms]
      | cons u L ih =>
        intro hL
        have h3 := ih (fun v hv => hL v (List.mem_cons_of_mem _ hv))
        have h4 := (okT u (hL u List.mem_cons_self)).1
        have e1 : wsum (u :: L) = u.1 + wsum L := by simp [wsum]
        have e2 : syms (u :: L) = u.2.2 ++ syms L := by simp [syms]
        rw [e1, e2, List.map_append, List.sum_append_nat, ← h3, ← h4]
    exact this _ (fun u hu => List.mem_of_mem_take hu)
  refine ⟨fl1, ?_⟩
  unfold occ at kr1 kr2
  generalize syms (T.take (2 * S.length - 2)) = Y at *
  rw [hwY] at fl2
  have hk11 : (2 : Nat) ^ (10 + 1) = 2048 := by decide
  have hk10 : (2 : Nat) ^ 10 = 1024 := by decide
  rw [hk11, hk10] at kr2
  have hlv : (lvs cs).length = S.length := by rw [hlen, ← lvs_fst, List.length_map]
  have hN : ((List.range cs.length).map fun i => if 0 < nat1 cs i then 2048 else 0).sum = S.length * 2048 := by
    have h3 := lvs_sum cs (fun _ => 2048) cs.length
    rw [← h3, List.map_const', List.sum_replicate_nat]
    rw [show (lvsTo cs cs.length).length = S.length from hlv]
  have hz : ∀ i, ¬ 0 < nat1 cs i → Y.count i = 0 := fun i hi => List.count_eq_zero.2 (fun hm => hi (okY i hm).1)
  have hX : ((List.range cs.length).map fun i => if 0 < nat1 cs i then 2 ^ (11 - Y.count i) else 0).sum = 2048 := by
    have h3 : ((List.range cs.length).map fun i => (if 0 < nat1 cs i then 2 ^ (11 - Y.count i) else 0) + (2048 - 2 ^ (10 + 1 - Y.count i))).sum = ((List.range cs.length).map fun i => if 0 < nat1 cs i then 2048 else 0).sum := by
      congr 1
      apply List.map_congr_left
      intro i _
      have hle : 2 ^ (10 + 1 - Y.count i) ≤ 2 ^ (10 + 1) := Nat.pow_le_pow_right (by omega) (by omega)
      by_cases hi : 0 < nat1 cs i
      · rw [if_pos hi, if_pos hi]
        rw [show 11 - Y.count i = 10 + 1 - Y.count i by omega]
        omega
      · rw [if_neg hi, if_neg hi, hz i hi, Nat.sub_zero, hk11]
    rw [sum_map_add, kr2, hN] at h3
    omega
  have hpos : ∀ j, j < cs.length → 0 < nat1 cs j → 0 < Y.count j := fun j hj hc => by
    rcases Nat.eq_zero_or_pos (Y.count j) with h0 | h0
    · exfalso
      have hex : ∃ u ∈ lvs cs, u.2 ≠ j := by
        match hL : lvs cs, hlv with
        | a :: b :: L, _ =>
          have hnd := nodup_lvs cs cs.length
          have e1 : lvsTo cs cs.length = a :: b :: L := hL
          rw [e1] at hnd
          simp only [List.map_cons, List.nodup_cons, List.mem_cons, not_or] at hnd
          by_cases ha : a.2 = j
          · exact ⟨b, by simp, fun hb => hnd.1.1 (by rw [ha, hb])⟩
          · exact ⟨a, by simp, ha⟩
        | [], hl => simp at hl; omega
        | [a], hl => simp at hl; omega
      obtain ⟨u, hu, huj⟩ := hex
      obtain ⟨u1, u2, u3⟩ := (lvsTo_mem cs cs.length u).1 hu
      have hcu : 0 < nat1 cs u.2 := by unfold nat1; omega
      have h3 := sum_two (fun i => if 0 < nat1 cs i then 2 ^ (11 - Y.count i) else 0) cs.length j u.2 hj u1 (fun h => huj h.symm)
      rw [hX] at h3
      simp only [if_pos hc, if_pos hcu, h0, Nat.sub_zero] at h3
      have hp : 0 < 2 ^ (11 - Y.count u.2) := Nat.two_pow_pos _
      have h11 : (2 : Nat) ^ 11 = 2048 := by decide
      omega
    · exact h0
  have hll : (lensOf cs Y).length = cs.length := by simp [lensOf]
  have hg : ∀ i, i < cs.length → (lensOf cs Y)[i]?.getD 0 = Y.count i := fun i hi => by simp [lensOf, hi]
  have hjust : ∀ i, i < cs.length → (0 < (lensOf cs Y)[i]?.getD 0 ↔ 0 < cs[i]?.getD 0) := fun i hi => by
    rw [hg i hi]
    refine ⟨fun h => ?_, fun h => hpos i hi h⟩
    exact (okY i (List.count_pos_iff.1 h)).1
  have h11 : ∀ x ∈ lensOf cs Y, x ≤ 11 := fun x hx => by
    simp only [lensOf, List.mem_map] at hx
    obtain ⟨i, _, rfl⟩ := hx
    exact kr1 i
  refine ⟨hll, ⟨by omega, h11, .inl ?_⟩, hjust, Nat.le_trans ?_ (Nat.le_max_left _ _)⟩
  · rw [krN_range, hll, ← hX]
    congr 1
    apply List.map_congr_left
    intro i hi
    have hi := List.mem_range.1 hi
    rw [hg i hi]
    unfold partL
    by_cases hc : 0 < nat1 cs i
    · have := hpos i hi hc
      rw [if_neg (by omega), if_pos hc]
    · rw [if_pos (hz i hc), if_neg hc]
  · have hc1 : costN cs (lensOf cs Y) = (Y.map (nat1 cs)).sum := by
      rw [← count_sum (nat1 cs) cs.length Y (fun y hy => (okY y hy).2)]
      unfold costN
      congr 1
      apply List.map_congr_left
      intro i hi
      rw [hg i (List.mem_range.1 hi)]
    have hsort : (S.map (·.1)).Pairwise (· ≤ ·) := List.pairwise_map.2 hS.srt
    have his : isort (posC cs) = S.map (·.1) := by rw [← isort_perm_eq hperm, isort_id _ hsort]
    have hws : wsum S = (posC cs).sum := hperm.sum_nat
    have hrev := rev_take (S.map (·.1)) (2 ^ w - S.length)
    rw [List.length_map] at hrev
    have hwt : wsum (S.take (2 * S.length - 2 ^ w)) = ((S.map (·.1)).take (S.length - (2 ^ w - S.length))).sum := by
      unfold wsum
      rw [List.map_take]
      congr 2
      omega
    have hwS : (S.map (·.1)).sum = wsum S := rfl
    unfold flatN
    rw [if_neg (by omega), his, ← hlen, ← hw, hc1, ← hws]
    have hmul : wsum S * w = (w - 1) * wsum S + wsum S := by
      conv => lhs; rw [show w = (w - 1) + 1 by omega, Nat.mul_succ, Nat.mul_comm]
    rw [hmul]
    omega
theorem lev_size {cs : List Nat} {S : List Pcl} (hS : SingN cs S) (hm : ∀ x ∈ cs, x ≤ 1048576) : ∀ {t : Nat} {T : List Pcl}, Lev S t T → S.length ≤ T.length ∧ T.length ≤ 2 * S.length ∧ ∀ u ∈ T, u.2.2.length ≤ 2 ^ t ∧ u.1 ≤ 2 ^ t * 1048576 := by
  have hone : ∀ u ∈ S, u.2.2.length ≤ 1 ∧ u.1 ≤ 1048576 := fun u hu => by
    obtain ⟨i, e1, e2, _, e4⟩ := hS.one u hu
    rw [e1, e2]
    refine ⟨by simp, ?_⟩
    unfold nat1
    rw [List.getElem?_eq_getElem e4, Option.getD_some]
    exact hm _ (List.getElem_mem e4)
  intro t T hT
  induction hT with
  | zero => exact ⟨Nat.le_refl _, by omega, fun u hu => by have := hone u hu; simp; omega⟩
  | @succ t T P T' hT hp hs hr ih =>
    obtain ⟨i1, i2, i3⟩ := ih
    have hl := hs.1.length_eq
    rw [List.length_append, hp.len] at hl
    have hpow : 2 ^ (t + 1) = 2 * 2 ^ t := by rw [Nat.pow_succ, Nat.mul_comm]
    have h1 : 1 ≤ 2 ^ t := Nat.one_le_two_pow
    refine ⟨by omega, by omega, fun u hu => ?_⟩
    rw [hpow]
    rcases List.mem_append.1 (hs.1.mem_iff.2 hu) with hu | hu
    · have := hone u hu
      omega
    · obtain ⟨x, hx, rfl⟩ := List.mem_iff_getElem.1 hu
      have hl2 := hp.len
      have a1 := hp.wt x hx
      have a2 := hp.sy x hx
      unfold wt at a1
      rw [List.getElem?_eq_getElem hx, Option.getD_some] at a1 a2
      have b1 := i3 _ (mem_getD (show 2 * x < T.length by omega))
      have b2 := i3 _ (mem_getD (show 2 * x + 1 < T.length by omega))
      rw [a1, a2, List.length_append]
      omega
theorem lensOf_step (cs Y : List Nat) (y : Nat) : lensOf cs (Y ++ [y]) = (lensOf cs Y).set y (Y.count y + 1) := by
  apply List.ext_getElem
  · simp [lensOf]
  · intro i h1 h2
    rw [List.getElem_set]
    simp only [lensOf, List.getElem_map, List.getElem_range, List.count_append, List.count_singleton]
    by_cases e : y = i
    · subst e
      simp
    · have : (y == i) = false := by rw [beq_eq_false_iff_ne]; exact e
      rw [if_neg e, this]
      simp
theorem lensOf_nil (cs : List Nat) : lensOf cs [] = List.replicate cs.length 0 := by
  unfold lensOf
  simp only [List.count_nil]
  rw [List.map_const', List.length_range]
end Go.Proofs.YtgcfdjgfnagmjaaGreat.Bm
