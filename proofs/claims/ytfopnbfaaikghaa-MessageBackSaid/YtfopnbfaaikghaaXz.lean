/-
  The reference of layer 24 (frame): Right, Bytes, First, by their walks. Conditions: as each theorem's premises say.
-/
import Derived.Test.YtfopnbfaaikghaaXv
import Derived.Test.YtfopnbfaaikghaaCr
import Derived.OneCell
import Derived.Deep.DeepCutAuto
namespace Go.Proofs.Ytfopnbfaaikghaa
open Go.RowKit

def rightN (k : Int) (n : Nat) : Nat := if k < 1 ∨ 10 < k then 6 else if 900 < n then 5 else 0
set_option maxHeartbeats 1000000 in
set_option maxRecDepth 100000 in
theorem rfbytes_any (f : Bm.Frm) (w : World) (hf : Bm.FrOk f) :
    Calls Try.prog 13 #[frV f] w fun e w' => e = .returned (.string (strOf (Bm.bytesF f))) ∧ Below w.heap.size w w' := by
  obtain ⟨kz, l⟩ := f
  have hf2 := hf
  obtain ⟨h1, h2, h3, h4⟩ := hf
  dsimp only at h1 h2 h3 h4
  obtain ⟨k, rfl⟩ : ∃ k : Nat, kz = (k : Int) := ⟨kz.toNat, by omega⟩
  have h1' : 1 ≤ k := by omega
  have h2' : k ≤ 10 := by omega
  unfold frV
  dsimp only
  have hhead : [k] ++ Bm.bytesOf l.length 2 ++ l = Bm.headF ((k : Int), l) := by
    unfold Bm.headF
    rw [Int.toNat_natCast, List.append_assoc]
    rfl
  have hhl : (Bm.headF ((k : Int), l)).length = l.length + 3 := Bm.headF_length _
  have Hfix := Lib.hid (fun W => ffixed_any l.length 2 W (by omega))
  rw [show fx 2 = 2 from rfl] at Hfix
  have ha1 := fun W => str_add [k] (Bm.bytesOf l.length 2) (by rw [Bm.bytesOf_length]; simp) W
  have ha2 := fun W => str_add ([k] ++ Bm.bytesOf l.length 2) l (by rw [List.length_append, Bm.bytesOf_length]; simp; omega) W
  rw [hhead] at ha2
  have Hof := Lib.hid (fun W => gof_any (Bm.headF ((k : Int), l)) W (by rw [hhl]; omega) (Bm.headF_lt hf2))
  have Hfix2 := Lib.hid (fun W => ffixed_any (Bm.sumOf (Bm.headF ((k : Int), l))) 8 W (Bm.sumOf_lt _))
  rw [show fx 8 = 8 from rfl] at Hfix2
  have ha3 := fun W => str_add (Bm.headF ((k : Int), l)) (Bm.bytesOf (Bm.sumOf (Bm.headF ((k : Int), l))) 8) (by rw [hhl, Bm.bytesOf_length]; omega) W
  rw [show Bm.headF ((k : Int), l) ++ Bm.bytesOf (Bm.sumOf (Bm.headF ((k : Int), l))) 8 = Bm.bytesF ((k : Int), l) from rfl] at ha3
  have hsz := strOf_size l
  have Hcv := Lib.hid (fun w => conv_new w k (by omega))
  clear hhead hhl h4 h1 h2 hf2
  generalize strOf (Bm.bytesOf (Bm.sumOf (Bm.headF ((k : Int), l))) 8) = s8 at *
  generalize Bm.sumOf (Bm.headF ((k : Int), l)) = sm at *
  generalize strOf (Bm.headF ((k : Int), l)) = hs at *
  generalize strOf (Bm.bytesF ((k : Int), l)) = fs at *
  generalize strOf ([k] ++ Bm.bytesOf l.length 2) = s3 at *
  generalize strOf (Bm.bytesOf l.length 2) = s2 at *
  generalize hsB : strOf [k] = s1 at *
  have HsB := Lib.hid hsB
  clear hsB
  generalize strOf l = ts at *
  generalize l.length = L at *
  have hwL := u64_wrap L (by omega)
  have hwk : IntKind.u8.wrap (k : Int) = (k : Int) := by rw [IntKind.wrap_u8]; omega
  go_enter Try.func13, Try.ntmps13
  go_upto_region 1 with fail
  obtain ⟨w0, hw0⟩ : ∃ w0, w0 = w.alloc (.cells #[.int .i64 (k : Int), .string ts] 28) := ⟨_, rfl⟩
  have hr0 : Row w0 w.heap.size 28 [.int .i64 (k : Int), .string ts] := by rw [hw0]; exact Row.new w _ _
  have hb0 : Below w.heap.size w w0 := by rw [hw0]; exact (Below.refl _ _).alloc (Nat.le_refl _) _
  rw [← hw0]
  have Hr0 := Lib.hid hr0
  have Hb0 := Lib.hid hb0
  have hlw : w.heap.size < w0.heap.size := hr0.lt
  clear hw0 hr0 hb0
  have HbA : Hid (Below w.heap.size w (w0.alloc (.cells #[.int .u8 (k : Int)] 5))) := Lib.hid (Hb0.out.alloc Hb0.out.size _)
  have HcA : Hid ((w0.alloc (.cells #[.int .u8 (k : Int)] 5)).cell? ⟨w0.heap.size, 0, none⟩ = some (.int .u8 (k : Int))) := Lib.hid ((Row.new w0 5 [.int .u8 (k : Int)]).cell 0)
  have HlA : Hid (w0.heap.size < (w0.alloc (.cells #[.int .u8 (k : Int)] 5)).heap.size) := Lib.hid ((Row.new w0 5 [.int .u8 (k : Int)]).lt)
  have HkB : Hid (k < 256) := Lib.hid (by omega)
  have HcvA : Hid ((convert 64 9 (.slice (some ⟨w0.heap.size, 0, none⟩) 1 1)).run Try.prog (w0.alloc (.cells #[.int .u8 (k : Int)] 5)).drew = .ok (.string s1) (w0.alloc (.cells #[.int .u8 (k : Int)] 5)).drew) := Lib.hid (by
    rw [← HsB.out]
    exact conv_one (w0.alloc (.cells #[.int .u8 (k : Int)] 5)).drew w0.heap.size k HkB.out HcA.out 1)
  refine wp_region_held_drew (S := (fun W : World => W.cell? ⟨w.heap.size, 0, none⟩ = some (.int .i64 (k : Int)) ∧ W.cell? ⟨w.heap.size, 1, none⟩ = some (.string ts))) (by kernel_rfl) (by exact ⟨Hr0.out.cell 0, Hr0.out.cell 1⟩) (fun hHeld => ?_)
  skip -- { dst := some 14, op := Go.Op.binOp Go.BinOp.add 9 (Go.Operand.tmp 8) (Go.Operand.tmp 13) 9, type := 9, pos := "ref.go:12", after := #[{ on := 4, ground := Go.Ground.data }, { on := 9, ground := Go.Ground.data }], guard := none }
  refine wpAnyH_take (i := 0) (oi := { dst := some 4, op := Go.Op.fieldAddr 28 (Go.Operand.tmp 1) 0, type := 0, pos := "ref.go:12", after := #[], guard := none }) (v := ?_) rfl (by kernel_rfl) (by kernel_rfl) (by kernel_rfl) (fun _ _ _ h => h) (Or.inl ⟨by rfl, ?_⟩) (by assumption) ?_
  rotate_left
  · (intro w hSw; (try dsimp only at hSw); go_simp; (try with_reducible rfl))
  try simp only [Act.put, List.setIfInBounds_toArray, List.set_cons_zero, List.set_cons_succ]
  refine wpAnyH_take (i := 1) (oi := { dst := some 5, op := Go.Op.load 3 (Go.Operand.tmp 4), type := 3, pos := "ref.go:12", after := #[{ on := 0, ground := Go.Ground.data }], guard := none }) (v := ?_) rfl (by kernel_rfl) (by kernel_rfl) (by kernel_rfl) (fun _ _ _ h => h) (Or.inl ⟨by rfl, ?_⟩) (by assumption) ?_
  rotate_left
  · (intro w hSw; (try dsimp only at hSw); go_simp; (try with_reducible rfl))
  try simp only [Act.put, List.setIfInBounds_toArray, List.set_cons_zero, List.set_cons_succ]
  refine wpAnyH_take (i := 2) (oi := { dst := some 6, op := Go.Op.convert 3 5 (Go.Operand.tmp 5), type := 5, pos := "ref.go:12", after := #[{ on := 1, ground := Go.Ground.data }], guard := none }) (v := ?_) rfl (by kernel_rfl) (by kernel_rfl) (by kernel_rfl) (fun _ _ _ h => h) (Or.inl ⟨by rfl, ?_⟩) (by assumption) ?_
  rotate_left
  · (intro w hSw; (try dsimp only at hSw); go_simp; (try with_reducible rfl))
  try simp only [Act.put, List.setIfInBounds_toArray, List.set_cons_zero, List.set_cons_succ]
  refine wpAnyH_take (i := 5) (oi := { dst := some 9, op := Go.Op.fieldAddr 28 (Go.Operand.tmp 1) 1, type := 0, pos := "ref.go:12", after := #[], guard := none }) (v := ?_) rfl (by kernel_rfl) (by kernel_rfl) (by kernel_rfl) (fun _ _ _ h => h) (Or.inl ⟨by rfl, ?_⟩) (by assumption) ?_
  rotate_left
  · (intro w hSw; (try dsimp only at hSw); go_simp; (try with_reducible rfl))
  try simp only [Act.put, List.setIfInBounds_toArray, List.set_cons_zero, List.set_cons_succ]
  refine wpAnyH_take (i := 6) (oi := { dst := some 10, op := Go.Op.load 9 (Go.Operand.tmp 9), type := 9, pos := "ref.go:12", after := #[{ on := 5, ground := Go.Ground.data }], guard := none }) (v := ?_) rfl (by kernel_rfl) (by kernel_rfl) (by kernel_rfl) (fun _ _ _ h => h) (Or.inl ⟨by rfl, ?_⟩) (by assumption) ?_
  rotate_left
  · (intro w hSw; (try dsimp only at hSw); go_simp; (try with_reducible rfl))
  try simp only [Act.put, List.setIfInBounds_toArray, List.set_cons_zero, List.set_cons_succ]
  refine wpAnyH_take (i := 7) (oi := { dst := some 11, op := Go.Op.call { callee := Go.Callee.builtin Go.Builtin.len, args := #[Go.Operand.tmp 10], argTypes := #[9] }, type := 3, pos := "ref.go:12", after := #[{ on := 6, ground := Go.Ground.data }], guard := none }) (v := ?_) rfl (by kernel_rfl) (by kernel_rfl) (by kernel_rfl) (fun _ _ _ h => h) (Or.inl ⟨by rfl, ?_⟩) (by assumption) ?_
  rotate_left
  · (intro w hSw; (try dsimp only at hSw); go_simp; (try with_reducible rfl))
  try simp only [Act.put, List.setIfInBounds_toArray, List.set_cons_zero, List.set_cons_succ]
  refine wpAnyH_take (i := 8) (oi := { dst := some 12, op := Go.Op.convert 3 22 (Go.Operand.tmp 11), type := 22, pos := "ref.go:12", after := #[{ on := 7, ground := Go.Ground.data }], guard := none }) (v := ?_) rfl (by kernel_rfl) (by kernel_rfl) (by kernel_rfl) (fun _ _ _ h => h) (Or.inl ⟨by rfl, ?_⟩) (by assumption) ?_
  rotate_left
  · (intro w hSw; (try dsimp only at hSw); go_simp; (try with_reducible rfl))
  try simp only [Act.put, List.setIfInBounds_toArray, List.set_cons_zero, List.set_cons_succ]
  refine wpAnyH_take (i := 11) (oi := { dst := some 15, op := Go.Op.fieldAddr 28 (Go.Operand.tmp 1) 1, type := 0, pos := "ref.go:12", after := #[], guard := none }) (v := ?_) rfl (by kernel_rfl) (by kernel_rfl) (by kernel_rfl) (fun _ _ _ h => h) (Or.inl ⟨by rfl, ?_⟩) (by assumption) ?_
  rotate_left
  · (intro w hSw; (try dsimp only at hSw); go_simp; (try with_reducible rfl))
  try simp only [Act.put, List.setIfInBounds_toArray, List.set_cons_zero, List.set_cons_succ]
  refine wpAnyH_take (i := 12) (oi := { dst := some 16, op := Go.Op.load 9 (Go.Operand.tmp 15), type := 9, pos := "ref.go:12", after := #[{ on := 11, ground := Go.Ground.data }], guard := none }) (v := ?_) rfl (by kernel_rfl) (by kernel_rfl) (by kernel_rfl) (fun _ _ _ h => h) (Or.inl ⟨by rfl, ?_⟩) (by assumption) ?_
  rotate_left
  · (intro w hSw; (try dsimp only at hSw); go_simp; (try with_reducible rfl))
  try simp only [Act.put, List.setIfInBounds_toArray, List.set_cons_zero, List.set_cons_succ]
  refine wpAnyH_ready (rs := [3, 9]) (by kernel_rfl) (by simp) ?_
  refine AllReadyH.cons (o := { dst := some 7, op := Go.Op.buildSlice 64 1 #[(0, Go.Operand.tmp 6)], type := 64, pos := "ref.go:12", after := #[{ on := 2, ground := Go.Ground.data }], guard := none }) rfl (fun K hK => ?_) (AllReadyH.cons (o := { dst := some 13, op := Go.Op.call { callee := Go.Callee.value (Go.Operand.func 25), args := #[Go.Operand.tmp 12, Go.Operand.const (Go.Value.int Go.IntKind.i64 2)], argTypes := #[22, 3] }, type := 9, pos := "ref.go:12", after := #[{ on := 8, ground := Go.Ground.data }], guard := none }) rfl (fun K hK => ?_) AllReadyH.nil)
  go_simp
  refine hK.out _ _ (by exact ⟨(Hr0.out.alloc _).cell 0, (Hr0.out.alloc _).cell 1⟩) (fun hHeld => ?_)
  clear hK K
  try simp only [Act.put, List.setIfInBounds_toArray, List.set_cons_zero, List.set_cons_succ]
  refine wpAnyH_ready (rs := [4, 9]) (by kernel_rfl) (by simp) ?_
  have hcvA := HcvA.out
  refine AllReadyH.cons (o := { dst := some 8, op := Go.Op.convert 64 9 (Go.Operand.tmp 7), type := 9, pos := "ref.go:12", after := #[{ on := 3, ground := Go.Ground.data }], guard := none }) rfl (fun K hK => ?_) (AllReadyH.cons (o := { dst := some 13, op := Go.Op.call { callee := Go.Callee.value (Go.Operand.func 25), args := #[Go.Operand.tmp 12, Go.Operand.const (Go.Value.int Go.IntKind.i64 2)], argTypes := #[22, 3] }, type := 9, pos := "ref.go:12", after := #[{ on := 8, ground := Go.Ground.data }], guard := none }) rfl (fun K hK => ?_) AllReadyH.nil)
  go_simp
  refine hK.out _ _ (by exact ⟨(Hr0.out.alloc _).cell 0, (Hr0.out.alloc _).cell 1⟩) (fun hHeld => ?_)
  clear hK K hcvA
  try simp only [Act.put, List.setIfInBounds_toArray, List.set_cons_zero, List.set_cons_succ]
  refine wpAnyH_ready (rs := [9]) (by kernel_rfl) (by simp) ?_
  refine AllReadyH.cons (o := { dst := some 13, op := Go.Op.call { callee := Go.Callee.value (Go.Operand.func 25), args := #[Go.Operand.tmp 12, Go.Operand.const (Go.Value.int Go.IntKind.i64 2)], argTypes := #[22, 3] }, type := 9, pos := "ref.go:12", after := #[{ on := 8, ground := Go.Ground.data }], guard := none }) rfl (fun K hK => ?_) AllReadyH.nil
  go_simp
  (go_at_call 25; refine (Hfix.out _).mono ?_; rintro e w2 ⟨rfl, hb2⟩; have Hb2 := Lib.hid (show Below (w0.alloc (.cells #[.int .u8 (k : Int)] 5)).heap.size (w0.alloc (.cells #[.int .u8 (k : Int)] 5)) w2 from ⟨hb2.os, hb2.tape, hb2.output, hb2.size, hb2.block⟩); clear hb2; have Hr2 := Lib.hid (row_below (Hr0.out.alloc _) Hb2.out))
  go_simp
  refine hK.out _ _ (by exact ⟨Hr2.out.cell 0, Hr2.out.cell 1⟩) (fun hHeld => ?_)
  clear hK K
  try simp only [Act.put, List.setIfInBounds_toArray, List.set_cons_zero, List.set_cons_succ]
  have HBf := Lib.hid (HbA.out.trans (Hb2.out.mono HbA.out.size))
  clear Hb2 Hr2
  rotate_left
  go_simp
  (go_at_call 25; refine (Hfix.out _).mono ?_; rintro e w2 ⟨rfl, hb2⟩; have Hb2 := Lib.hid (show Below (w0.alloc (.cells #[.int .u8 (k : Int)] 5)).heap.size (w0.alloc (.cells #[.int .u8 (k : Int)] 5)) w2 from ⟨hb2.os, hb2.tape, hb2.output, hb2.size, hb2.block⟩); clear hb2; have Hr2 := Lib.hid (row_below (Hr0.out.alloc _) Hb2.out))
  go_simp
  refine hK.out _ _ (by exact ⟨Hr2.out.cell 0, Hr2.out.cell 1⟩) (fun hHeld => ?_)
  clear hK K hcvA
  try simp only [Act.put, List.setIfInBounds_toArray, List.set_cons_zero, List.set_cons_succ]
  have hcvB := conv_one w2 w0.heap.size k HkB.out ((Hb2.out.cell (p := ⟨w0.heap.size, 0, none⟩) HlA.out).trans HcA.out) 1
  rw [HsB.out] at hcvB
  refine wpAnyH_ready (rs := [4]) (by kernel_rfl) (by simp) ?_
  refine AllReadyH.cons (o := { dst := some 8, op := Go.Op.convert 64 9 (Go.Operand.tmp 7), type := 9, pos := "ref.go:12", after := #[{ on := 3, ground := Go.Ground.data }], guard := none }) rfl (fun K hK => ?_) AllReadyH.nil
  go_simp
  refine hK.out _ _ (by exact ⟨Hr2.out.cell 0, Hr2.out.cell 1⟩) (fun hHeld => ?_)
  clear hK K
  try simp only [Act.put, List.setIfInBounds_toArray, List.set_cons_zero, List.set_cons_succ]
  have HBf := Lib.hid (HbA.out.trans (Hb2.out.mono HbA.out.size))
  clear hcvB Hb2 Hr2
  rotate_left
  go_simp
  (go_at_call 25; refine (Hfix.out _).mono ?_; rintro e w2 ⟨rfl, hb2⟩; have Hb2 := Lib.hid (show Below w0.heap.size w0 w2 from ⟨hb2.os, hb2.tape, hb2.output, hb2.size, hb2.block⟩); clear hb2; have Hr2 := Lib.hid (row_below Hr0.out Hb2.out))
  go_simp
  refine hK.out _ _ (by exact ⟨Hr2.out.cell 0, Hr2.out.cell 1⟩) (fun hHeld => ?_)
  clear hK K
  try simp only [Act.put, List.setIfInBounds_toArray, List.set_cons_zero, List.set_cons_succ]
  refine wpAnyH_ready (rs := [3]) (by kernel_rfl) (by simp) ?_
  refine AllReadyH.cons (o := { dst := some 7, op := Go.Op.buildSlice 64 1 #[(0, Go.Operand.tmp 6)], type := 64, pos := "ref.go:12", after := #[{ on := 2, ground := Go.Ground.data }], guard := none }) rfl (fun K hK => ?_) AllReadyH.nil
  go_simp
  refine hK.out _ _ (by exact ⟨(Hr2.out.alloc _).cell 0, (Hr2.out.alloc _).cell 1⟩) (fun hHeld => ?_)
  clear hK K
  try simp only [Act.put, List.setIfInBounds_toArray, List.set_cons_zero, List.set_cons_succ]
  have hcvC := Hcv.out w2
  refine wpAnyH_ready (rs := [4]) (by kernel_rfl) (by simp) ?_
  refine AllReadyH.cons (o := { dst := some 8, op := Go.Op.convert 64 9 (Go.Operand.tmp 7), type := 9, pos := "ref.go:12", after := #[{ on := 3, ground := Go.Ground.data }], guard := none }) rfl (fun K hK => ?_) AllReadyH.nil
  go_simp
  refine hK.out _ _ (by exact ⟨(Hr2.out.alloc _).cell 0, (Hr2.out.alloc _).cell 1⟩) (fun hHeld => ?_)
  clear hK K
  try simp only [Act.put, List.setIfInBounds_toArray, List.set_cons_zero, List.set_cons_succ]
  have HBf := Lib.hid (show Below w.heap.size w (w2.alloc (.cells #[.int .u8 (k : Int)] 5)) from (Hb0.out.trans (Hb2.out.mono Hb0.out.size)).alloc (Hb0.out.trans (Hb2.out.mono Hb0.out.size)).size _)
  clear hcvC Hb2 Hr2
  skip
  all_goals
    refine wpAnyH_take (i := 10) (oi := { dst := some 14, op := Go.Op.binOp Go.BinOp.add 9 (Go.Operand.tmp 8) (Go.Operand.tmp 13) 9, type := 9, pos := "ref.go:12", after := #[{ on := 4, ground := Go.Ground.data }, { on := 9, ground := Go.Ground.data }], guard := none }) (v := ?_) rfl (by kernel_rfl) (by kernel_rfl) (by kernel_rfl) (fun _ _ _ h => h) (Or.inl ⟨by rfl, ?_⟩) (by assumption) ?_
    rotate_left
    · (intro w hSw; (try dsimp only at hSw); go_simp; (try with_reducible rfl))
    try simp only [Act.put, List.setIfInBounds_toArray, List.set_cons_zero, List.set_cons_succ]
    refine wpAnyH_take (i := 13) (oi := { dst := some 17, op := Go.Op.binOp Go.BinOp.add 9 (Go.Operand.tmp 14) (Go.Operand.tmp 16) 9, type := 9, pos := "ref.go:12", after := #[{ on := 10, ground := Go.Ground.data }, { on := 12, ground := Go.Ground.data }], guard := none }) (v := ?_) rfl (by kernel_rfl) (by kernel_rfl) (by kernel_rfl) (fun _ _ _ h => h) (Or.inl ⟨by rfl, ?_⟩) (by assumption) ?_
    rotate_left
    · (intro w hSw; (try dsimp only at hSw); go_simp; (try with_reducible rfl))
    try simp only [Act.put, List.setIfInBounds_toArray, List.set_cons_zero, List.set_cons_succ]
    refine wpAnyH_take (i := 14) (oi := { dst := some 3, op := Go.Op.assign (Go.Operand.tmp 17), type := 9, pos := "ref.go:12", after := #[{ on := 13, ground := Go.Ground.data }, { on := 9, ground := Go.Ground.chain }, { on := 0, ground := Go.Ground.phase }, { on := 1, ground := Go.Ground.phase }, { on := 2, ground := Go.Ground.phase }, { on := 3, ground := Go.Ground.phase }, { on := 4, ground := Go.Ground.phase }, { on := 5, ground := Go.Ground.phase }, { on := 6, ground := Go.Ground.phase }, { on := 7, ground := Go.Ground.phase }, { on := 8, ground := Go.Ground.phase }, { on := 9, ground := Go.Ground.phase }, { on := 10, ground := Go.Ground.phase }, { on := 11, ground := Go.Ground.phase }, { on := 12, ground := Go.Ground.phase }, { on := 13, ground := Go.Ground.phase }], guard := none }) (v := ?_) rfl (by kernel_rfl) (by kernel_rfl) (by kernel_rfl) (fun _ _ _ h => h) (Or.inl ⟨by rfl, ?_⟩) (by assumption) ?_
    rotate_left
    · (intro w hSw; (try dsimp only at hSw); go_simp; (try with_reducible rfl))
    try simp only [Act.put, List.setIfInBounds_toArray, List.set_cons_zero, List.set_cons_succ]
    refine wpAnyH_done (by kernel_rfl) ?_ _
    clear hHeld
    go_wp2_with fail
    refine (Hof.out _).mono ?_
    rintro e w' ⟨rfl, rfl⟩
    go_wp2_with fail
    refine (Hfix2.out _).mono ?_
    rintro e w9 ⟨rfl, hb9⟩
    have HB9 := Lib.hid (HBf.out.trans (hb9.mono HBf.out.size))
    clear hb9 HBf
    go_wp2
    go_ret
    exact ⟨rfl, HB9.out⟩
end Go.Proofs.Ytfopnbfaaikghaa
