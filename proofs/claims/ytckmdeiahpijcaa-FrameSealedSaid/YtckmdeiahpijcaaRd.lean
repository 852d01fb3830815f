/-
  The program's layer 24 (frame): Cutter.add, by its walk. Conditions: as the theorem's premises say.
-/
import Derived.Test.YtckmdeiahpijcaaRc
namespace Go.Proofs.Ytckmdeiahpijcaa
open Go.RowKit

set_option maxHeartbeats 2000000 in
set_option maxRecDepth 100000 in
theorem fradd_L (b x L M h' : Nat) (rest' : List Nat) (S' : ByteArray) (v0 : Value) (sz h n cnt z e' : Nat) (w : World) (hL : L < 911) (hc : cnt ≤ 1000000)
    (hby : ∀ W, Calls Try.prog 44 #[.agg #[.int .u64 (h : Int), .int .u64 (n : Int)], .int .u8 (x : Int)] W fun e w' => e = .returned (.agg #[.int .u64 (h' : Int), .int .u64 ((n + 1 : Nat) : Int)]) ∧ Below W.heap.size W w')
    (hfs : M ≤ 3 → ∀ W, Calls Try.prog 39 #[.string S'] W fun e w' => e = .returned (.tuple #[.int .i64 (z : Int), .int .i64 (e' : Int)]) ∧ Below W.heap.size W w')
    (hz : 3 < M → z = sz ∧ e' = 0) (hcut : ∀ W, (Instr.sliceAt 70 (.pointer (some ⟨b, 0, none⟩)) none (some (.int .i64 (M : Int))) none).run Try.prog W = .ok (.slice (some ⟨b, 0, none⟩) M 911) W)
    (htx0 : ∀ W sz h n cnt e, CuR W b rest' sz h n cnt e → (convert 23 9 (.slice (some ⟨b, 0, none⟩) M 911)).run Try.prog W = .ok (.string S') W)
    (hM : ∀ W sz h n cnt e, CuR W b rest' sz h n cnt e → W.cell? ⟨b, 911, none⟩ = some (.int .i64 (M : Int)))
    (c0 : w.cell? ⟨b, 911, none⟩ = some (.int .i64 (L : Int))) (cv : w.cell? ⟨b, L, none⟩ = some v0) (f0 : w.frozen? ⟨b, L, none⟩ = false)
    (hA : (w.setCell ⟨b, L, none⟩ (.int .u8 (x : Int))).cell? ⟨b, 911, none⟩ = some (.int .i64 (L : Int)) ∧ (w.setCell ⟨b, L, none⟩ (.int .u8 (x : Int))).frozen? ⟨b, 911, none⟩ = false)
    (hpush : CuR ((w.setCell ⟨b, L, none⟩ (.int .u8 (x : Int))).setCell ⟨b, 911, none⟩ (.int .i64 ((L : Int) + 1))) b rest' sz h n cnt 0) :
    Calls Try.prog 36 #[.pointer (some ⟨b, 0, none⟩), .int .u8 (x : Int)] w fun e w' => e = .returned (.tuple #[]) ∧ CuR w' b rest' z h' (n + 1) (cnt + 1) e' ∧ w.grownBy w' (some b) := by
  have Hby := Lib.hid hby
  have Hfs := Lib.hid hfs
  have Hz := Lib.hid hz
  have htx := Lib.hid htx0
  have HM := Lib.hid hM
  have HA := Lib.hid hA
  have Hpush := Lib.hid hpush
  have HG2 := Lib.hid (grown_set (grown_set (grown_refl w (some b)) L (.int .u8 (x : Int))) 911 (.int .i64 ((L : Int) + 1)))
  have hl' : (L : Int) < 911 := by omega
  clear hby hfs hz htx0 hM hA hpush
  go_enter Try.func36, Try.ntmps36
  go_wp2_with fail
  refine wp_region_held_drew (S := (fun W : World => W.cell? ⟨b, 911, none⟩ = some (.int .i64 (L : Int)))) (by kernel_rfl) (by exact c0) (fun hHeld => ?_)
  refine wpAnyH_take (i := 0) (oi := { dst := some 4, op := Go.Op.move (Go.Operand.tmp 0), type := 27, pos := "frame.go:108", after := #[], guard := none }) (v := ?_) rfl (by kernel_rfl) (by kernel_rfl) (by kernel_rfl) (fun _ _ _ h => h) (Or.inl ⟨by rfl, ?_⟩) (by assumption) ?_
  rotate_left
  · (intro w hSw; (try dsimp only at hSw); go_simp; (try with_reducible rfl))
  try simp only [Act.put, List.setIfInBounds_toArray, List.set_cons_zero, List.set_cons_succ]
  refine wpAnyH_take (i := 1) (oi := { dst := some 5, op := Go.Op.move (Go.Operand.tmp 0), type := 27, pos := "frame.go:108", after := #[], guard := none }) (v := ?_) rfl (by kernel_rfl) (by kernel_rfl) (by kernel_rfl) (fun _ _ _ h => h) (Or.inl ⟨by rfl, ?_⟩) (by assumption) ?_
  rotate_left
  · (intro w hSw; (try dsimp only at hSw); go_simp; (try with_reducible rfl))
  try simp only [Act.put, List.setIfInBounds_toArray, List.set_cons_zero, List.set_cons_succ]
  refine wpAnyH_take (i := 2) (oi := { dst := some 6, op := Go.Op.nilCheck (Go.Operand.tmp 5), type := 0, pos := "frame.go:108", after := #[{ on := 1, ground := Go.Ground.data }], guard := none }) (v := ?_) rfl (by kernel_rfl) (by kernel_rfl) (by kernel_rfl) (fun _ _ _ h => h) (Or.inl ⟨by rfl, ?_⟩) (by assumption) ?_
  rotate_left
  · (intro w hSw; (try dsimp only at hSw); go_simp; (try with_reducible rfl))
  try simp only [Act.put, List.setIfInBounds_toArray, List.set_cons_zero, List.set_cons_succ]
  refine wpAnyH_take (i := 3) (oi := { dst := some 7, op := Go.Op.fieldAddr 72 (Go.Operand.tmp 6) 1, type := 0, pos := "frame.go:108", after := #[{ on := 2, ground := Go.Ground.data }], guard := none }) (v := ?_) rfl (by kernel_rfl) (by kernel_rfl) (by kernel_rfl) (fun _ _ _ h => h) (Or.inl ⟨by rfl, ?_⟩) (by assumption) ?_
  rotate_left
  · (intro w hSw; (try dsimp only at hSw); go_simp; (try with_reducible rfl))
  try simp only [Act.put, List.setIfInBounds_toArray, List.set_cons_zero, List.set_cons_succ]
  refine wpAnyH_take (i := 4) (oi := { dst := some 8, op := Go.Op.load 3 (Go.Operand.tmp 7), type := 3, pos := "frame.go:108", after := #[{ on := 3, ground := Go.Ground.data }], guard := none }) (v := ?_) rfl (by kernel_rfl) (by kernel_rfl) (by kernel_rfl) (fun _ _ _ h => h) (Or.inl ⟨by rfl, ?_⟩) (by assumption) ?_
  rotate_left
  · (intro w hSw; (try dsimp only at hSw); go_simp; (try with_reducible rfl))
  try simp only [Act.put, List.setIfInBounds_toArray, List.set_cons_zero, List.set_cons_succ]
  refine wpAnyH_take (i := 5) (oi := { dst := some 9, op := Go.Op.move (Go.Operand.tmp 1), type := 5, pos := "frame.go:108", after := #[], guard := none }) (v := ?_) rfl (by kernel_rfl) (by kernel_rfl) (by kernel_rfl) (fun _ _ _ h => h) (Or.inl ⟨by rfl, ?_⟩) (by assumption) ?_
  rotate_left
  · (intro w hSw; (try dsimp only at hSw); go_simp; (try with_reducible rfl))
  try simp only [Act.put, List.setIfInBounds_toArray, List.set_cons_zero, List.set_cons_succ]
  refine wpAnyH_take (i := 6) (oi := { dst := some 10, op := Go.Op.nilCheck (Go.Operand.tmp 4), type := 0, pos := "frame.go:108", after := #[{ on := 0, ground := Go.Ground.data }], guard := none }) (v := ?_) rfl (by kernel_rfl) (by kernel_rfl) (by kernel_rfl) (fun _ _ _ h => h) (Or.inl ⟨by rfl, ?_⟩) (by assumption) ?_
  rotate_left
  · (intro w hSw; (try dsimp only at hSw); go_simp; (try with_reducible rfl))
  try simp only [Act.put, List.setIfInBounds_toArray, List.set_cons_zero, List.set_cons_succ]
  refine wpAnyH_take (i := 7) (oi := { dst := some 11, op := Go.Op.fieldAddr 72 (Go.Operand.tmp 10) 0, type := 0, pos := "frame.go:108", after := #[{ on := 6, ground := Go.Ground.data }], guard := none }) (v := ?_) rfl (by kernel_rfl) (by kernel_rfl) (by kernel_rfl) (fun _ _ _ h => h) (Or.inl ⟨by rfl, ?_⟩) (by assumption) ?_
  rotate_left
  · (intro w hSw; (try dsimp only at hSw); go_simp; (try with_reducible rfl))
  try simp only [Act.put, List.setIfInBounds_toArray, List.set_cons_zero, List.set_cons_succ]
  refine wpAnyH_take (i := 8) (oi := { dst := some 12, op := Go.Op.indexAddr 70 (Go.Operand.tmp 11) (Go.Operand.tmp 8), type := 0, pos := "frame.go:108", after := #[{ on := 7, ground := Go.Ground.data }, { on := 4, ground := Go.Ground.data }, { on := 0, ground := Go.Ground.phase }, { on := 1, ground := Go.Ground.phase }, { on := 2, ground := Go.Ground.phase }, { on := 3, ground := Go.Ground.phase }, { on := 4, ground := Go.Ground.phase }, { on := 5, ground := Go.Ground.phase }], guard := none }) (v := ?_) rfl (by kernel_rfl) (by kernel_rfl) (by kernel_rfl) (fun _ _ _ h => h) (Or.inl ⟨by rfl, ?_⟩) (by assumption) ?_
  rotate_left
  · (intro w hSw; (try dsimp only at hSw); go_simp; (try with_reducible rfl))
  try simp only [Act.put, List.setIfInBounds_toArray, List.set_cons_zero, List.set_cons_succ]
  refine wpAnyH_ready (rs := [9]) (by kernel_rfl) (by simp) ?_
  refine AllReadyH.cons (o := { dst := none, op := Go.Op.store 5 (Go.Operand.tmp 12) (Go.Operand.tmp 9), type := 0, pos := "frame.go:108", after := #[{ on := 8, ground := Go.Ground.data }, { on := 5, ground := Go.Ground.data }, { on := 0, ground := Go.Ground.phase }, { on := 1, ground := Go.Ground.phase }, { on := 2, ground := Go.Ground.phase }, { on := 3, ground := Go.Ground.phase }, { on := 4, ground := Go.Ground.phase }, { on := 5, ground := Go.Ground.phase }], guard := none }) rfl (fun K hK => ?_) AllReadyH.nil
  go_simp
  refine hK.out _ _ (by exact HA.out.1) (fun hHeld => ?_)
  clear hK K
  try simp only [Act.put, List.setIfInBounds_toArray, List.set_cons_zero, List.set_cons_succ]
  refine wpAnyH_done (by kernel_rfl) ?_ _
  clear hHeld c0 cv f0
  have c0 := HA.out.1
  have f0 := HA.out.2
  go_upto_region 2 with fail
  have hk2 : CuR (((w.setCell ⟨b, L, none⟩ (.int .u8 (x : Int))).setCell ⟨b, 911, none⟩ (.int .i64 ((L : Int) + 1))).drew) b rest' sz h n cnt 0 := Hpush.out.keep rfl
  have hg2 : w.grownBy (((w.setCell ⟨b, L, none⟩ (.int .u8 (x : Int))).setCell ⟨b, 911, none⟩ (.int .i64 ((L : Int) + 1))).drew) (some b) := ⟨HG2.out.os, HG2.out.tape, HG2.out.output, HG2.out.size, HG2.out.block⟩
  clear c0 f0 HA Hpush HG2
  generalize ((w.setCell ⟨b, L, none⟩ (.int .u8 (x : Int))).setCell ⟨b, 911, none⟩ (.int .i64 ((L : Int) + 1))).drew = w2 at *
  have c5 := hk2.cells.2.2.2.2.1
  have f5 := hk2.cells.2.2.2.2.2.2.1 915
  have Hk2 := Lib.hid hk2
  have Hg2 := Lib.hid hg2
  clear hk2 hg2
  go_upto_region 3 with fail
  have hk3 := Hk2.out.setC (cnt + 1)
  have hg3 := grown_set Hg2.out 915 (.int .i64 ((cnt + 1 : Nat) : Int))
  rw [show ((cnt + 1 : Nat) : Int) = (cnt : Int) + 1 by simp] at hk3 hg3
  clear c5 f5
  generalize w2.setCell ⟨b, 915, none⟩ (.int .i64 ((cnt : Int) + 1)) = w3 at *
  have c3 := hk3.cells.2.2.1
  have c4 := hk3.cells.2.2.2.1
  have f3 := hk3.cells.2.2.2.2.2.2.1 913
  have f4 := hk3.cells.2.2.2.2.2.2.1 914
  have Hk3 := Lib.hid hk3
  have Hg3 := Lib.hid hg3
  clear hk3 hg3 Hk2 Hg2
  go_wp2_with fail
  refine (Hby.out w3).mono ?_
  rintro e w4 ⟨rfl, hb4⟩
  have Hk4 := Lib.hid (Hk3.out.keep (hb4.block b Hk3.out.lt))
  have Hg4 := Lib.hid (Hg3.out.trans (show w3.grownBy w4 (some b) from ⟨hb4.os, hb4.tape, hb4.output, hb4.size, fun k hk _ => hb4.block k hk⟩))
  clear hb4 c3 c4 f3 f4 Hby Hk3 Hg3
  have c3 := Hk4.out.cells.2.2.1
  have c4 := Hk4.out.cells.2.2.2.1
  have f3 := Hk4.out.cells.2.2.2.2.2.2.1 913
  have f4 := Hk4.out.cells.2.2.2.2.2.2.1 914
  go_upto_region 4 with fail
  have hk5 := Hk4.out.setS h' (n + 1)
  have hg5 := grown_set (grown_set Hg4.out 913 (.int .u64 (h' : Int))) 914 (.int .u64 ((n + 1 : Nat) : Int))
  rw [show ((n + 1 : Nat) : Int) = (n : Int) + 1 by simp] at hk5 hg5
  clear c3 c4 f3 f4 Hk4 Hg4
  generalize (w4.setCell ⟨b, 913, none⟩ (.int .u64 (h' : Int))).setCell ⟨b, 914, none⟩ (.int .u64 ((n : Int) + 1)) = w5 at *
  have c1 := HM.out w5 _ _ _ _ _ hk5
  have Hk5 := Lib.hid hk5
  have Hg5 := Lib.hid hg5
  clear hk5 hg5
  by_cases h3 : M ≤ 3
  · have h3' : (M : Int) ≤ 3 := by omega
    have Hfs2 := Lib.hid (Hfs.out h3)
    clear Hfs
    go_wp2_with fail
    refine wp_region_held_drew (S := (fun W : World => W.cell? ⟨b, 911, none⟩ = some (.int .i64 (M : Int)) ∧ ∃ z e, CuR W b rest' z h' (n + 1) (cnt + 1) e)) (by kernel_rfl) (by exact ⟨c1, sz, 0, Hk5.out⟩) (fun hHeld => ?_)
    refine wpAnyH_take (i := 0) (oi := { dst := some 42, op := Go.Op.move (Go.Operand.tmp 0), type := 27, pos := "frame.go:113", after := #[], guard := none }) (v := ?_) rfl (by kernel_rfl) (by kernel_rfl) (by kernel_rfl) (fun _ _ _ h => h) (Or.inl ⟨by rfl, ?_⟩) (by assumption) ?_
    rotate_left
    · (intro w hSw; (try dsimp only at hSw); go_simp; (try with_reducible rfl))
    try simp only [Act.put, List.setIfInBounds_toArray, List.set_cons_zero, List.set_cons_succ]
    refine wpAnyH_take (i := 1) (oi := { dst := some 43, op := Go.Op.move (Go.Operand.tmp 0), type := 27, pos := "frame.go:113", after := #[{ on := 17, ground := Go.Ground.gcOnly Go.Departure.lateStores }], guard := none }) (v := ?_) rfl (by kernel_rfl) (by kernel_rfl) (by kernel_rfl) (fun _ _ _ h => h) (Or.inl ⟨by rfl, ?_⟩) (by assumption) ?_
    rotate_left
    · (intro w hSw; (try dsimp only at hSw); go_simp; (try with_reducible rfl))
    try simp only [Act.put, List.setIfInBounds_toArray, List.set_cons_zero, List.set_cons_succ]
    refine wpAnyH_take (i := 2) (oi := { dst := some 44, op := Go.Op.move (Go.Operand.tmp 0), type := 27, pos := "frame.go:113", after := #[], guard := none }) (v := ?_) rfl (by kernel_rfl) (by kernel_rfl) (by kernel_rfl) (fun _ _ _ h => h) (Or.inl ⟨by rfl, ?_⟩) (by assumption) ?_
    rotate_left
    · (intro w hSw; (try dsimp only at hSw); go_simp; (try with_reducible rfl))
    try simp only [Act.put, List.setIfInBounds_toArray, List.set_cons_zero, List.set_cons_succ]
    refine wpAnyH_take (i := 3) (oi := { dst := some 45, op := Go.Op.nilCheck (Go.Operand.tmp 44), type := 0, pos := "frame.go:113", after := #[{ on := 2, ground := Go.Ground.data }], guard := none }) (v := ?_) rfl (by kernel_rfl) (by kernel_rfl) (by kernel_rfl) (fun _ _ _ h => h) (Or.inl ⟨by rfl, ?_⟩) (by assumption) ?_
    rotate_left
    · (intro w hSw; (try dsimp only at hSw); go_simp; (try with_reducible rfl))
    try simp only [Act.put, List.setIfInBounds_toArray, List.set_cons_zero, List.set_cons_succ]
    refine wpAnyH_take (i := 4) (oi := { dst := some 46, op := Go.Op.fieldAddr 72 (Go.Operand.tmp 45) 0, type := 0, pos := "frame.go:113", after := #[{ on := 3, ground := Go.Ground.data }], guard := none }) (v := ?_) rfl (by kernel_rfl) (by kernel_rfl) (by kernel_rfl) (fun _ _ _ h => h) (Or.inl ⟨by rfl, ?_⟩) (by assumption) ?_
    rotate_left
    · (intro w hSw; (try dsimp only at hSw); go_simp; (try with_reducible rfl))
    try simp only [Act.put, List.setIfInBounds_toArray, List.set_cons_zero, List.set_cons_succ]
    refine wpAnyH_take (i := 5) (oi := { dst := some 47, op := Go.Op.move (Go.Operand.tmp 0), type := 27, pos := "frame.go:113", after := #[], guard := none }) (v := ?_) rfl (by kernel_rfl) (by kernel_rfl) (by kernel_rfl) (fun _ _ _ h => h) (Or.inl ⟨by rfl, ?_⟩) (by assumption) ?_
    rotate_left
    · (intro w hSw; (try dsimp only at hSw); go_simp; (try with_reducible rfl))
    try simp only [Act.put, List.setIfInBounds_toArray, List.set_cons_zero, List.set_cons_succ]
    refine wpAnyH_take (i := 6) (oi := { dst := some 48, op := Go.Op.nilCheck (Go.Operand.tmp 47), type := 0, pos := "frame.go:113", after := #[{ on := 5, ground := Go.Ground.data }], guard := none }) (v := ?_) rfl (by kernel_rfl) (by kernel_rfl) (by kernel_rfl) (fun _ _ _ h => h) (Or.inl ⟨by rfl, ?_⟩) (by assumption) ?_
    rotate_left
    · (intro w hSw; (try dsimp only at hSw); go_simp; (try with_reducible rfl))
    try simp only [Act.put, List.setIfInBounds_toArray, List.set_cons_zero, List.set_cons_succ]
    refine wpAnyH_take (i := 7) (oi := { dst := some 49, op := Go.Op.fieldAddr 72 (Go.Operand.tmp 48) 1, type := 0, pos := "frame.go:113", after := #[{ on := 6, ground := Go.Ground.data }], guard := none }) (v := ?_) rfl (by kernel_rfl) (by kernel_rfl) (by kernel_rfl) (fun _ _ _ h => h) (Or.inl ⟨by rfl, ?_⟩) (by assumption) ?_
    rotate_left
    · (intro w hSw; (try dsimp only at hSw); go_simp; (try with_reducible rfl))
    try simp only [Act.put, List.setIfInBounds_toArray, List.set_cons_zero, List.set_cons_succ]
    refine wpAnyH_take (i := 8) (oi := { dst := some 50, op := Go.Op.load 3 (Go.Operand.tmp 49), type := 3, pos := "frame.go:113", after := #[{ on := 7, ground := Go.Ground.data }], guard := none }) (v := ?_) rfl (by kernel_rfl) (by kernel_rfl) (by kernel_rfl) (fun _ _ _ h => h) (Or.inl ⟨by rfl, ?_⟩) (by assumption) ?_
    rotate_left
    · (intro w hSw; (try dsimp only at hSw); go_simp; (try with_reducible rfl))
    try simp only [Act.put, List.setIfInBounds_toArray, List.set_cons_zero, List.set_cons_succ]
    refine wpAnyH_take (i := 9) (oi := { dst := some 51, op := Go.Op.slice 70 (Go.Operand.tmp 46) none (some (Go.Operand.tmp 50)) none, type := 23, pos := "frame.go:113", after := #[{ on := 4, ground := Go.Ground.data }, { on := 8, ground := Go.Ground.data }], guard := none }) (v := ?_) rfl (by kernel_rfl) (by kernel_rfl) (by kernel_rfl) (fun _ _ _ h => h) (Or.inl ⟨by rfl, ?_⟩) (by assumption) ?_
    rotate_left
    · (intro w hSw; (try dsimp only at hSw); go_simp; (try with_reducible rfl))
    try simp only [Act.put, List.setIfInBounds_toArray, List.set_cons_zero, List.set_cons_succ]
    refine wpAnyH_take (i := 10) (oi := { dst := some 52, op := Go.Op.convert 23 9 (Go.Operand.tmp 51), type := 9, pos := "frame.go:113", after := #[{ on := 9, ground := Go.Ground.data }], guard := none }) (v := (Value.string S')) rfl (by kernel_rfl) (by kernel_rfl) (by kernel_rfl) (fun _ _ _ h => h) (Or.inl ⟨by rfl, ?_⟩) (by assumption) ?_
    · (intro w hSw; (try dsimp only at hSw); (obtain ⟨hq, z1, e1, hk1⟩ := hSw; have hq2 := htx.out w _ _ _ _ _ hk1; go_simp))
    try simp only [Act.put, List.setIfInBounds_toArray, List.set_cons_zero, List.set_cons_succ]
    refine wpAnyH_ready (rs := [11]) (by kernel_rfl) (by simp) ?_
    refine AllReadyH.cons (o := { dst := some 53, op := Go.Op.call { callee := Go.Callee.value (Go.Operand.func 39), args := #[Go.Operand.tmp 52], argTypes := #[9] }, type := 87, pos := "frame.go:113", after := #[{ on := 10, ground := Go.Ground.data }], guard := none }) rfl (fun K hK => ?_) AllReadyH.nil
    go_simp
    (go_at_call 39; refine (Hfs2.out w5.drew).mono ?_; rintro e w6 ⟨rfl, hb6⟩; have Hk6 := Lib.hid (Hk5.out.keep (hb6.block b Hk5.out.lt)); have Hg6 := Lib.hid (Hg5.out.trans (show w5.grownBy w6 (some b) from ⟨hb6.os, hb6.tape, hb6.output, hb6.size, fun k hk _ => hb6.block k hk⟩)); clear hb6; have c1b := Hk6.out.cells.2.1; have f1 := Hk6.out.cells.2.2.2.2.2.2.1 912; have c6 := (Hk6.out.setZ z).cells.2.2.2.2.2.1; have f6 := (Hk6.out.setZ z).cells.2.2.2.2.2.2.1 916)
    go_simp
    refine hK.out _ _ (by exact ⟨HM.out w6 _ _ _ _ _ Hk6.out, _, _, Hk6.out⟩) (fun hHeld => ?_)
    clear hK K
    try simp only [Act.put, List.setIfInBounds_toArray, List.set_cons_zero, List.set_cons_succ]
    refine wpAnyH_take (i := 12) (oi := { dst := some 41, op := Go.Op.move (Go.Operand.tmp 53), type := 87, pos := "frame.go:113", after := #[{ on := 11, ground := Go.Ground.data }], guard := none }) (v := ?_) rfl (by kernel_rfl) (by kernel_rfl) (by kernel_rfl) (fun _ _ _ h => h) (Or.inl ⟨by rfl, ?_⟩) (by assumption) ?_
    rotate_left
    · (intro w hSw; (try dsimp only at hSw); go_simp; (try with_reducible rfl))
    try simp only [Act.put, List.setIfInBounds_toArray, List.set_cons_zero, List.set_cons_succ]
    refine wpAnyH_take (i := 13) (oi := { dst := some 54, op := Go.Op.extract (Go.Operand.tmp 41) 0, type := 3, pos := "frame.go:113", after := #[{ on := 12, ground := Go.Ground.data }], guard := none }) (v := ?_) rfl (by kernel_rfl) (by kernel_rfl) (by kernel_rfl) (fun _ _ _ h => h) (Or.inl ⟨by rfl, ?_⟩) (by assumption) ?_
    rotate_left
    · (intro w hSw; (try dsimp only at hSw); go_simp; (try with_reducible rfl))
    try simp only [Act.put, List.setIfInBounds_toArray, List.set_cons_zero, List.set_cons_succ]
    refine wpAnyH_take (i := 14) (oi := { dst := some 55, op := Go.Op.extract (Go.Operand.tmp 41) 1, type := 31, pos := "frame.go:113", after := #[{ on := 12, ground := Go.Ground.data }, { on := 17, ground := Go.Ground.gcOnly Go.Departure.lateStores }], guard := none }) (v := ?_) rfl (by kernel_rfl) (by kernel_rfl) (by kernel_rfl) (fun _ _ _ h => h) (Or.inl ⟨by rfl, ?_⟩) (by assumption) ?_
    rotate_left
    · (intro w hSw; (try dsimp only at hSw); go_simp; (try with_reducible rfl))
    try simp only [Act.put, List.setIfInBounds_toArray, List.set_cons_zero, List.set_cons_succ]
    refine wpAnyH_take (i := 15) (oi := { dst := some 56, op := Go.Op.nilCheck (Go.Operand.tmp 42), type := 0, pos := "frame.go:113", after := #[{ on := 0, ground := Go.Ground.data }, { on := 0, ground := Go.Ground.phase }, { on := 1, ground := Go.Ground.textOnly Go.Departure.lateStores }, { on := 2, ground := Go.Ground.phase }, { on := 3, ground := Go.Ground.phase }, { on := 4, ground := Go.Ground.phase }, { on := 5, ground := Go.Ground.phase }, { on := 6, ground := Go.Ground.phase }, { on := 7, ground := Go.Ground.phase }, { on := 8, ground := Go.Ground.phase }, { on := 9, ground := Go.Ground.phase }, { on := 10, ground := Go.Ground.phase }, { on := 11, ground := Go.Ground.phase }, { on := 12, ground := Go.Ground.phase }, { on := 13, ground := Go.Ground.phase }, { on := 14, ground := Go.Ground.textOnly Go.Departure.lateStores }], guard := none }) (v := ?_) rfl (by kernel_rfl) (by kernel_rfl) (by kernel_rfl) (fun _ _ _ h => h) (Or.inl ⟨by rfl, ?_⟩) (by assumption) ?_
    rotate_left
    · (intro w hSw; (try dsimp only at hSw); go_simp; (try with_reducible rfl))
    try simp only [Act.put, List.setIfInBounds_toArray, List.set_cons_zero, List.set_cons_succ]
    refine wpAnyH_take (i := 16) (oi := { dst := some 57, op := Go.Op.fieldAddr 72 (Go.Operand.tmp 56) 2, type := 0, pos := "frame.go:113", after := #[{ on := 15, ground := Go.Ground.data }, { on := 0, ground := Go.Ground.phase }, { on := 1, ground := Go.Ground.textOnly Go.Departure.lateStores }, { on := 2, ground := Go.Ground.phase }, { on := 3, ground := Go.Ground.phase }, { on := 4, ground := Go.Ground.phase }, { on := 5, ground := Go.Ground.phase }, { on := 6, ground := Go.Ground.phase }, { on := 7, ground := Go.Ground.phase }, { on := 8, ground := Go.Ground.phase }, { on := 9, ground := Go.Ground.phase }, { on := 10, ground := Go.Ground.phase }, { on := 11, ground := Go.Ground.phase }, { on := 12, ground := Go.Ground.phase }, { on := 13, ground := Go.Ground.phase }, { on := 14, ground := Go.Ground.textOnly Go.Departure.lateStores }], guard := none }) (v := ?_) rfl (by kernel_rfl) (by kernel_rfl) (by kernel_rfl) (fun _ _ _ h => h) (Or.inl ⟨by rfl, ?_⟩) (by assumption) ?_
    rotate_left
    · (intro w hSw; (try dsimp only at hSw); go_simp; (try with_reducible rfl))
    try simp only [Act.put, List.setIfInBounds_toArray, List.set_cons_zero, List.set_cons_succ]
    refine wpAnyH_ready (rs := [17]) (by kernel_rfl) (by simp) ?_
    refine AllReadyH.cons (o := { dst := none, op := Go.Op.store 3 (Go.Operand.tmp 57) (Go.Operand.tmp 54), type := 0, pos := "frame.go:113", after := #[{ on := 16, ground := Go.Ground.data }, { on := 13, ground := Go.Ground.data }, { on := 11, ground := Go.Ground.chain }, { on := 0, ground := Go.Ground.phase }, { on := 1, ground := Go.Ground.textOnly Go.Departure.lateStores }, { on := 2, ground := Go.Ground.phase }, { on := 3, ground := Go.Ground.phase }, { on := 4, ground := Go.Ground.phase }, { on := 5, ground := Go.Ground.phase }, { on := 6, ground := Go.Ground.phase }, { on := 7, ground := Go.Ground.phase }, { on := 8, ground := Go.Ground.phase }, { on := 9, ground := Go.Ground.phase }, { on := 10, ground := Go.Ground.phase }, { on := 11, ground := Go.Ground.phase }, { on := 12, ground := Go.Ground.phase }, { on := 13, ground := Go.Ground.phase }, { on := 14, ground := Go.Ground.textOnly Go.Departure.lateStores }], guard := none }) rfl (fun K hK => ?_) AllReadyH.nil
    go_simp
    refine hK.out _ _ (by exact ⟨HM.out _ _ _ _ _ _ (Hk6.out.setZ z), _, _, Hk6.out.setZ z⟩) (fun hHeld => ?_)
    clear hK K
    try simp only [Act.put, List.setIfInBounds_toArray, List.set_cons_zero, List.set_cons_succ]
    refine wpAnyH_take (i := 18) (oi := { dst := some 58, op := Go.Op.nilCheck (Go.Operand.tmp 43), type := 0, pos := "frame.go:113", after := #[{ on := 1, ground := Go.Ground.data }, { on := 0, ground := Go.Ground.phase }, { on := 1, ground := Go.Ground.phase }, { on := 2, ground := Go.Ground.phase }, { on := 3, ground := Go.Ground.phase }, { on := 4, ground := Go.Ground.phase }, { on := 5, ground := Go.Ground.phase }, { on := 6, ground := Go.Ground.phase }, { on := 7, ground := Go.Ground.phase }, { on := 8, ground := Go.Ground.phase }, { on := 9, ground := Go.Ground.phase }, { on := 10, ground := Go.Ground.phase }, { on := 11, ground := Go.Ground.phase }, { on := 12, ground := Go.Ground.phase }, { on := 13, ground := Go.Ground.phase }, { on := 14, ground := Go.Ground.phase }, { on := 15, ground := Go.Ground.phase }, { on := 16, ground := Go.Ground.phase }, { on := 17, ground := Go.Ground.phase }], guard := none }) (v := ?_) rfl (by kernel_rfl) (by kernel_rfl) (by kernel_rfl) (fun _ _ _ h => h) (Or.inl ⟨by rfl, ?_⟩) (by assumption) ?_
    rotate_left
    · (intro w hSw; (try dsimp only at hSw); go_simp; (try with_reducible rfl))
    try simp only [Act.put, List.setIfInBounds_toArray, List.set_cons_zero, List.set_cons_succ]
    refine wpAnyH_take (i := 19) (oi := { dst := some 59, op := Go.Op.fieldAddr 72 (Go.Operand.tmp 58) 5, type := 0, pos := "frame.go:113", after := #[{ on := 18, ground := Go.Ground.data }, { on := 0, ground := Go.Ground.phase }, { on := 1, ground := Go.Ground.phase }, { on := 2, ground := Go.Ground.phase }, { on := 3, ground := Go.Ground.phase }, { on := 4, ground := Go.Ground.phase }, { on := 5, ground := Go.Ground.phase }, { on := 6, ground := Go.Ground.phase }, { on := 7, ground := Go.Ground.phase }, { on := 8, ground := Go.Ground.phase }, { on := 9, ground := Go.Ground.phase }, { on := 10, ground := Go.Ground.phase }, { on := 11, ground := Go.Ground.phase }, { on := 12, ground := Go.Ground.phase }, { on := 13, ground := Go.Ground.phase }, { on := 14, ground := Go.Ground.phase }, { on := 15, ground := Go.Ground.phase }, { on := 16, ground := Go.Ground.phase }, { on := 17, ground := Go.Ground.phase }], guard := none }) (v := ?_) rfl (by kernel_rfl) (by kernel_rfl) (by kernel_rfl) (fun _ _ _ h => h) (Or.inl ⟨by rfl, ?_⟩) (by assumption) ?_
    rotate_left
    · (intro w hSw; (try dsimp only at hSw); go_simp; (try with_reducible rfl))
    try simp only [Act.put, List.setIfInBounds_toArray, List.set_cons_zero, List.set_cons_succ]
    refine wpAnyH_ready (rs := [20]) (by kernel_rfl) (by simp) ?_
    refine AllReadyH.cons (o := { dst := none, op := Go.Op.store 31 (Go.Operand.tmp 59) (Go.Operand.tmp 55), type := 0, pos := "frame.go:113", after := #[{ on := 19, ground := Go.Ground.data }, { on := 14, ground := Go.Ground.data }, { on := 17, ground := Go.Ground.chain }, { on := 0, ground := Go.Ground.phase }, { on := 1, ground := Go.Ground.phase }, { on := 2, ground := Go.Ground.phase }, { on := 3, ground := Go.Ground.phase }, { on := 4, ground := Go.Ground.phase }, { on := 5, ground := Go.Ground.phase }, { on := 6, ground := Go.Ground.phase }, { on := 7, ground := Go.Ground.phase }, { on := 8, ground := Go.Ground.phase }, { on := 9, ground := Go.Ground.phase }, { on := 10, ground := Go.Ground.phase }, { on := 11, ground := Go.Ground.phase }, { on := 12, ground := Go.Ground.phase }, { on := 13, ground := Go.Ground.phase }, { on := 14, ground := Go.Ground.phase }, { on := 15, ground := Go.Ground.phase }, { on := 16, ground := Go.Ground.phase }, { on := 17, ground := Go.Ground.phase }], guard := none }) rfl (fun K hK => ?_) AllReadyH.nil
    go_simp
    refine hK.out _ _ (by exact ⟨HM.out _ _ _ _ _ _ ((Hk6.out.setZ z).setE e'), _, _, (Hk6.out.setZ z).setE e'⟩) (fun hHeld => ?_)
    clear hK K
    try simp only [Act.put, List.setIfInBounds_toArray, List.set_cons_zero, List.set_cons_succ]
    refine wpAnyH_done (by kernel_rfl) ?_ _
    clear hHeld c1 c1b f1 c6 f6
    go_wp2
    go_end0
    exact ⟨rfl, (Hk6.out.setZ z).setE e', grown_set (grown_set Hg6.out 912 _) 916 _⟩
  · obtain ⟨hz1, hz2⟩ := Hz.out (by omega)
    have h3' : ¬ (M : Int) ≤ 3 := by omega
    have HZ := Lib.hid (And.intro hz1 hz2)
    clear hz1 hz2 Hz
    go_wp2
    go_end0
    exact ⟨rfl, by rw [HZ.out.1, HZ.out.2]; exact Hk5.out, Hg5.out⟩
theorem fradd_any (b x : Nat) (rest : List Nat) (sz h n cnt z e' : Nat) (w : World) (hl : rest.length < 911) (hx : x < 256) (hlt : ∀ y ∈ rest, y < 256) (hh : h < 18446744073709551616) (hn : n ≤ 1000000) (hc : cnt ≤ 1000000)
    (hz : ((rest ++ [x]).length ≤ 3 → z = fszN (rest ++ [x]) ∧ e' = Bm.badN (rest ++ [x])) ∧ (3 < (rest ++ [x]).length → z = sz ∧ e' = 0)) (k : CuR w b rest sz h n cnt 0) :
    Calls Try.prog 36 #[.pointer (some ⟨b, 0, none⟩), .int .u8 (x : Int)] w fun e w' => e = .returned (.tuple #[]) ∧ CuR w' b (rest ++ [x]) z (Bm.stepH h x) (n + 1) (cnt + 1) e' ∧ w.grownBy w' (some b) := by
  have hl1 : (rest ++ [x]).length = rest.length + 1 := by rw [List.length_append, List.length_singleton]
  have hlt' : ∀ y ∈ rest ++ [x], y < 256 := append_lt hlt (by simp; omega)
  obtain ⟨v0, cv⟩ := k.cells.2.2.2.2.2.2.2 rest.length hl
  refine fradd_L b x rest.length (rest ++ [x]).length _ (rest ++ [x]) (strOf (rest ++ [x])) v0 sz h n cnt z e' w hl hc (fun W => ?_) (fun h3 W => ?_) hz.2 (fun W => slice_a911 b _ W (by omega)) (fun W sz h n cnt e k => k.text hlt' 911) (fun W sz h n cnt e k => k.cells.1) k.cells.1 cv (k.cells.2.2.2.2.2.2.1 _) ?_ ?_
  · have h1 := sbyte_any h n x W hh hx
    rw [Nat.mod_eq_of_lt (show n + 1 < 18446744073709551616 by omega)] at h1
    exact h1
  · obtain ⟨e1, e2⟩ := hz.1 h3
    rw [e1, e2]
    exact frsize_any (rest ++ [x]) W (by simp) hlt' (by omega)
  · obtain ⟨C, h1, h2⟩ := k
    exact ⟨((h1.set_ _ _).cell 911).trans ((cget_ne _ _ _ _ (by omega)).trans h2.cl), (h1.set_ _ _).free 911⟩
  · have h1 := k.push x hl
    rw [show ((rest ++ [x]).length : Int) = (rest.length : Int) + 1 by omega] at h1
    exact h1
end Go.Proofs.Ytckmdeiahpijcaa
