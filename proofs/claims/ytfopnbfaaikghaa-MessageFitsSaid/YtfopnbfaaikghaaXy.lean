/-
  The program's layer 24 (frame): Encode, by its walk. Conditions: as each theorem's premises say.
-/
import Derived.Test.YtfopnbfaaikghaaXv
import Derived.OneCell
import Derived.Deep.DeepCutAuto
namespace Go.Proofs.Ytfopnbfaaikghaa
open Go.RowKit

set_option maxHeartbeats 400000 in
set_option maxRecDepth 100000 in
theorem frenc_kind (k : Int) (s : ByteArray) (w : World) (h : k < 1 ∨ 10 < k) :
    Calls Try.prog 21 #[.agg #[.int .i64 k, .string s]] w fun e w' => e = .returned (.tuple #[.string ⟨#[]⟩, .int .i64 6]) ∧ Below w.heap.size w w' := by
  have Hk := Lib.hid (fun w => frkind_no k w h)
  go_enter Try.func21, Try.ntmps21
  go_wp2_with fail
  refine (Hk.out _).mono ?_
  rintro e w' ⟨rfl, rfl⟩
  go_wp2
  go_ret2
  exact ⟨rfl, (Below.refl _ _).alloc (Nat.le_refl _) _⟩
set_option maxHeartbeats 400000 in
set_option maxRecDepth 100000 in
theorem frenc_long (k : Int) (s : ByteArray) (w : World) (h1 : 1 ≤ k) (h2 : k ≤ 10) (hs : 900 < s.size) :
    Calls Try.prog 21 #[.agg #[.int .i64 k, .string s]] w fun e w' => e = .returned (.tuple #[.string ⟨#[]⟩, .int .i64 5]) ∧ Below w.heap.size w w' := by
  have Hk := Lib.hid (fun w => frkind_yes k w h1 h2)
  go_enter Try.func21, Try.ntmps21
  go_wp2_with fail
  refine (Hk.out _).mono ?_
  rintro e w' ⟨rfl, rfl⟩
  go_wp2
  go_ret2
  exact ⟨rfl, (Below.refl _ _).alloc (Nat.le_refl _) _⟩
set_option maxHeartbeats 1000000 in
set_option maxRecDepth 100000 in
theorem frenc_yes (f : Bm.Frm) (w : World) (hf : Bm.FrOk f) :
    Calls Try.prog 21 #[frV f] w fun e w' => e = .returned (.tuple #[.string (strOf (Bm.bytesF f)), .int .i64 0]) ∧ Below w.heap.size w w' := by
  obtain ⟨kz, l⟩ := f
  obtain ⟨h1, h2, h3, h4⟩ := hf
  dsimp only at h1 h2 h3 h4
  obtain ⟨k, rfl⟩ : ∃ k : Nat, kz = (k : Int) := ⟨kz.toNat, by omega⟩
  have h1' : 1 ≤ k := by omega
  have h2' : k ≤ 10 := by omega
  unfold frV
  dsimp only
  have hhead : Bm.bytesOf k 1 ++ Bm.bytesOf l.length 2 ++ l = Bm.headF ((k : Int), l) := by
    unfold Bm.headF
    rw [Int.toNat_natCast, show Bm.bytesOf k 1 = [k] by simp [Bm.bytesOf, List.range_succ]; omega, List.append_assoc]
    rfl
  have hhl : (Bm.headF ((k : Int), l)).length = l.length + 3 := Bm.headF_length _
  have hfl : (Bm.bytesF ((k : Int), l)).length = l.length + 11 := Bm.bytesF_length _
  have Hhlt := Lib.hid (Bm.headF_lt (f := ((k : Int), l)) ⟨by dsimp only; omega, by dsimp only; omega, h3, h4⟩)
  have Hflt := Lib.hid (Bm.bytesF_lt (f := ((k : Int), l)) ⟨by dsimp only; omega, by dsimp only; omega, h3, h4⟩)
  have hby : Bm.headF ((k : Int), l) ++ Bm.bytesOf (Bm.sumOf (Bm.headF ((k : Int), l))) 8 = Bm.bytesF ((k : Int), l) := rfl
  have Hk := Lib.hid (fun w => frkind_yes (k : Int) w (by omega) (by omega))
  have F1 : Hid (∀ W b, CW W b [] → Calls Try.prog 17 #[.pointer (some ⟨b, 0, none⟩), .int .u64 (k : Int), .int .i64 1] W fun e w' => e = .returned (.pointer (some ⟨b, 0, none⟩)) ∧ CW w' b (Bm.bytesOf k 1) ∧ W.grownBy w' (some b)) := Lib.hid (fun W b h => wfixed_any b k 1 [] W (by decide) (by decide) (by omega) (by decide) h)
  have F2 : Hid (∀ W b, CW W b (Bm.bytesOf k 1) → Calls Try.prog 17 #[.pointer (some ⟨b, 0, none⟩), .int .u64 (l.length : Int), .int .i64 2] W fun e w' => e = .returned (.pointer (some ⟨b, 0, none⟩)) ∧ CW w' b (Bm.bytesOf k 1 ++ Bm.bytesOf l.length 2) ∧ W.grownBy w' (some b)) := Lib.hid (fun W b h => wfixed_any b l.length 2 _ W (by decide) (by decide) (by omega) (by rw [Bm.bytesOf_length]; decide) h)
  have F3 : Hid (∀ W b, CW W b (Bm.bytesOf k 1 ++ Bm.bytesOf l.length 2) → Calls Try.prog 36 #[.pointer (some ⟨b, 0, none⟩), .string (strOf l)] W fun e w' => e = .returned (.pointer (some ⟨b, 0, none⟩)) ∧ CW w' b (Bm.headF ((k : Int), l)) ∧ W.grownBy w' (some b)) := Lib.hid (fun W b h => by
    have h5 := wraw_any b _ l W (by rw [List.length_append, Bm.bytesOf_length, Bm.bytesOf_length]; omega) h
    rw [hhead] at h5
    exact h5)
  have F4 := Lib.hid (fun W b h => wstr_any b (Bm.headF ((k : Int), l)) W (by rw [hhl]; omega) Hhlt.out h)
  have F5 := Lib.hid (fun W => sof_any (Bm.headF ((k : Int), l)) W (by rw [hhl]; omega) Hhlt.out)
  have F6 : Hid (∀ W b, CW W b (Bm.headF ((k : Int), l)) → Calls Try.prog 17 #[.pointer (some ⟨b, 0, none⟩), .int .u64 (Bm.sumOf (Bm.headF ((k : Int), l)) : Int), .int .i64 8] W fun e w' => e = .returned (.pointer (some ⟨b, 0, none⟩)) ∧ CW w' b (Bm.bytesF ((k : Int), l)) ∧ W.grownBy w' (some b)) := Lib.hid (fun W b h => wfixed_any b _ 8 _ W (by decide) (by decide) (Bm.sumOf_lt _) (by rw [hhl]; omega) h)
  have F7 := Lib.hid (fun W b h => wstr_any b (Bm.bytesF ((k : Int), l)) W (by rw [hfl]; omega) Hflt.out h)
  have hsz := strOf_size l
  clear hhead hhl hfl Hhlt Hflt hby h4 h1 h2
  generalize Bm.sumOf (Bm.headF ((k : Int), l)) = sm at *
  generalize strOf (Bm.headF ((k : Int), l)) = hs at *
  generalize strOf (Bm.bytesF ((k : Int), l)) = fs at *
  generalize strOf l = ts at *
  generalize l.length = L at *
  go_enter Try.func21, Try.ntmps21
  go_wp2_with fail
  obtain ⟨w0, hw0⟩ : ∃ w0, w0 = w.alloc (.cells #[.int .i64 (k : Int), .string ts] 28) := ⟨_, rfl⟩
  have hr0 : Row w0 w.heap.size 28 [.int .i64 (k : Int), .string ts] := by rw [hw0]; exact Row.new w _ _
  have hb0 : Below w.heap.size w w0 := by rw [hw0]; exact (Below.refl _ _).alloc (Nat.le_refl _) _
  have hs0 : w0.heap.size = w.heap.size + 1 := by rw [hw0]; simp
  rw [← hw0]
  clear hw0
  refine (Hk.out w0).mono ?_
  rintro e w' ⟨rfl, rfl⟩
  clear Hk
  have c0 := hr0.cell 0
  have c1 := hr0.cell 1
  simp only [List.getElem?_cons_zero, List.getElem?_cons_succ] at c0 c1
  have Hr0 := Lib.hid hr0
  have Hb0 := Lib.hid hb0
  have Hs0 := Lib.hid hs0
  clear hr0 hb0 hs0
  go_upto_region 6 with fail
  have hw1 := CW.new w0
  have hb1 : Below w.heap.size w (w0.alloc (.cells #[.pointer none, .int .i64 0] 49)) := Hb0.out.alloc Hb0.out.size _
  have hr1 := Hr0.out.alloc (.cells #[.pointer none, .int .i64 0] 49)
  have hne : Hid (w.heap.size ≠ w0.heap.size) := Lib.hid (by have := Hs0.out; omega)
  clear c0 c1
  generalize w0.alloc (.cells #[.pointer none, .int .i64 0] 49) = w1 at *
  generalize hb : w0.heap.size = b at *
  have Hbw : Hid (w.heap.size ≤ b) := Lib.hid (by have := Hs0.out; omega)
  have Hne2 : Hid (some w.heap.size ≠ some b) := Lib.hid (fun e => hne.out (by injection e))
  have Hr1 := Lib.hid hr1
  have HB1 := Lib.hid hb1
  have F1a := Lib.hid (F1.out w1.drew b (hw1.keep (row := none) (grown_drew (grown_refl _ _)) (by simp) (by simp)))
  clear hr1 hb1 hw1 hb hne Hr0 Hb0 Hs0 F1
  have hwk := u64_wrap k (by omega)
  have hwL := u64_wrap L (by omega)
  refine wp_region_held_drew (S := (fun W : World => W.cell? ⟨w.heap.size, 0, none⟩ = some (.int .i64 (k : Int)) ∧ W.cell? ⟨w.heap.size, 1, none⟩ = some (.string ts))) (by kernel_rfl) (by exact ⟨Hr1.out.cell 0, Hr1.out.cell 1⟩) (fun hHeld => ?_)
  refine wpAnyH_take (i := 0) (oi := { dst := some 13, op := Go.Op.fieldAddr 28 (Go.Operand.tmp 1) 0, type := 0, pos := "frame.go:42", after := #[], guard := none }) (v := ?_) rfl (by kernel_rfl) (by kernel_rfl) (by kernel_rfl) (fun _ _ _ h => h) (Or.inl ⟨by rfl, ?_⟩) (by assumption) ?_
  rotate_left
  · (intro w hSw; (try dsimp only at hSw); go_simp; (try with_reducible rfl))
  try simp only [Act.put, List.setIfInBounds_toArray, List.set_cons_zero, List.set_cons_succ]
  refine wpAnyH_take (i := 1) (oi := { dst := some 14, op := Go.Op.load 3 (Go.Operand.tmp 13), type := 3, pos := "frame.go:42", after := #[{ on := 0, ground := Go.Ground.data }], guard := none }) (v := ?_) rfl (by kernel_rfl) (by kernel_rfl) (by kernel_rfl) (fun _ _ _ h => h) (Or.inl ⟨by rfl, ?_⟩) (by assumption) ?_
  rotate_left
  · (intro w hSw; (try dsimp only at hSw); go_simp; (try with_reducible rfl))
  try simp only [Act.put, List.setIfInBounds_toArray, List.set_cons_zero, List.set_cons_succ]
  refine wpAnyH_take (i := 2) (oi := { dst := some 15, op := Go.Op.convert 3 22 (Go.Operand.tmp 14), type := 22, pos := "frame.go:42", after := #[{ on := 1, ground := Go.Ground.data }], guard := none }) (v := ?_) rfl (by kernel_rfl) (by kernel_rfl) (by kernel_rfl) (fun _ _ _ h => h) (Or.inl ⟨by rfl, ?_⟩) (by assumption) ?_
  rotate_left
  · (intro w hSw; (try dsimp only at hSw); go_simp; (try with_reducible rfl))
  try simp only [Act.put, List.setIfInBounds_toArray, List.set_cons_zero, List.set_cons_succ]
  refine wpAnyH_take (i := 4) (oi := { dst := some 17, op := Go.Op.fieldAddr 28 (Go.Operand.tmp 1) 1, type := 0, pos := "frame.go:42", after := #[], guard := none }) (v := ?_) rfl (by kernel_rfl) (by kernel_rfl) (by kernel_rfl) (fun _ _ _ h => h) (Or.inl ⟨by rfl, ?_⟩) (by assumption) ?_
  rotate_left
  · (intro w hSw; (try dsimp only at hSw); go_simp; (try with_reducible rfl))
  try simp only [Act.put, List.setIfInBounds_toArray, List.set_cons_zero, List.set_cons_succ]
  refine wpAnyH_take (i := 5) (oi := { dst := some 18, op := Go.Op.load 9 (Go.Operand.tmp 17), type := 9, pos := "frame.go:42", after := #[{ on := 4, ground := Go.Ground.data }], guard := none }) (v := ?_) rfl (by kernel_rfl) (by kernel_rfl) (by kernel_rfl) (fun _ _ _ h => h) (Or.inl ⟨by rfl, ?_⟩) (by assumption) ?_
  rotate_left
  · (intro w hSw; (try dsimp only at hSw); go_simp; (try with_reducible rfl))
  try simp only [Act.put, List.setIfInBounds_toArray, List.set_cons_zero, List.set_cons_succ]
  refine wpAnyH_take (i := 6) (oi := { dst := some 19, op := Go.Op.call { callee := Go.Callee.builtin Go.Builtin.len, args := #[Go.Operand.tmp 18], argTypes := #[9] }, type := 3, pos := "frame.go:42", after := #[{ on := 5, ground := Go.Ground.data }], guard := none }) (v := ?_) rfl (by kernel_rfl) (by kernel_rfl) (by kernel_rfl) (fun _ _ _ h => h) (Or.inl ⟨by rfl, ?_⟩) (by assumption) ?_
  rotate_left
  · (intro w hSw; (try dsimp only at hSw); go_simp; (try with_reducible rfl))
  try simp only [Act.put, List.setIfInBounds_toArray, List.set_cons_zero, List.set_cons_succ]
  refine wpAnyH_take (i := 7) (oi := { dst := some 20, op := Go.Op.convert 3 22 (Go.Operand.tmp 19), type := 22, pos := "frame.go:42", after := #[{ on := 6, ground := Go.Ground.data }], guard := none }) (v := ?_) rfl (by kernel_rfl) (by kernel_rfl) (by kernel_rfl) (fun _ _ _ h => h) (Or.inl ⟨by rfl, ?_⟩) (by assumption) ?_
  rotate_left
  · (intro w hSw; (try dsimp only at hSw); go_simp; (try with_reducible rfl))
  try simp only [Act.put, List.setIfInBounds_toArray, List.set_cons_zero, List.set_cons_succ]
  refine wpAnyH_take (i := 9) (oi := { dst := some 22, op := Go.Op.fieldAddr 28 (Go.Operand.tmp 1) 1, type := 0, pos := "frame.go:42", after := #[], guard := none }) (v := ?_) rfl (by kernel_rfl) (by kernel_rfl) (by kernel_rfl) (fun _ _ _ h => h) (Or.inl ⟨by rfl, ?_⟩) (by assumption) ?_
  rotate_left
  · (intro w hSw; (try dsimp only at hSw); go_simp; (try with_reducible rfl))
  try simp only [Act.put, List.setIfInBounds_toArray, List.set_cons_zero, List.set_cons_succ]
  refine wpAnyH_take (i := 10) (oi := { dst := some 23, op := Go.Op.load 9 (Go.Operand.tmp 22), type := 9, pos := "frame.go:42", after := #[{ on := 9, ground := Go.Ground.data }], guard := none }) (v := ?_) rfl (by kernel_rfl) (by kernel_rfl) (by kernel_rfl) (fun _ _ _ h => h) (Or.inl ⟨by rfl, ?_⟩) (by assumption) ?_
  rotate_left
  · (intro w hSw; (try dsimp only at hSw); go_simp; (try with_reducible rfl))
  try simp only [Act.put, List.setIfInBounds_toArray, List.set_cons_zero, List.set_cons_succ]
  refine wpAnyH_ready (rs := [3]) (by kernel_rfl) (by simp) ?_
  refine AllReadyH.cons (o := { dst := some 16, op := Go.Op.call { callee := Go.Callee.value (Go.Operand.func 17), args := #[Go.Operand.tmp 4, Go.Operand.tmp 15, Go.Operand.const (Go.Value.int Go.IntKind.i64 1)], argTypes := #[49, 22, 3] }, type := 51, pos := "frame.go:42", after := #[{ on := 2, ground := Go.Ground.data }], guard := none }) rfl (fun K hK => ?_) AllReadyH.nil
  go_simp
  (go_at_call 17; refine F1a.out.mono ?_; rintro e w2 ⟨rfl, hcw, hg⟩; have HB2 := Lib.hid (HB1.out.trans (below_grown (show w1.grownBy w2 (some b) from ⟨hg.os, hg.tape, hg.output, hg.size, hg.block⟩) Hbw.out HB1.out.size)); have Hr2 := Lib.hid (Hr1.out.keep (hg.block w.heap.size Hr1.out.lt Hne2.out)); have F2a := Lib.hid (F2.out w2 b hcw); clear hg hcw F2)
  go_simp
  refine hK.out _ _ (by exact ⟨Hr2.out.cell 0, Hr2.out.cell 1⟩) (fun hHeld => ?_)
  clear hK K
  try simp only [Act.put, List.setIfInBounds_toArray, List.set_cons_zero, List.set_cons_succ]
  refine wpAnyH_ready (rs := [8]) (by kernel_rfl) (by simp) ?_
  refine AllReadyH.cons (o := { dst := some 21, op := Go.Op.call { callee := Go.Callee.value (Go.Operand.func 17), args := #[Go.Operand.tmp 16, Go.Operand.tmp 20, Go.Operand.const (Go.Value.int Go.IntKind.i64 2)], argTypes := #[51, 22, 3] }, type := 51, pos := "frame.go:42", after := #[{ on := 3, ground := Go.Ground.data }, { on := 7, ground := Go.Ground.data }, { on := 3, ground := Go.Ground.chain }], guard := none }) rfl (fun K hK => ?_) AllReadyH.nil
  go_simp
  (go_at_call 17; refine F2a.out.mono ?_; rintro e w3 ⟨rfl, hcw, hg⟩; have HB3 := Lib.hid (HB2.out.trans (below_grown hg Hbw.out HB2.out.size)); have Hr3 := Lib.hid (Hr2.out.keep (hg.block w.heap.size Hr2.out.lt Hne2.out)); have F3a := Lib.hid (F3.out w3 b hcw); clear hg hcw F3)
  go_simp
  refine hK.out _ _ (by exact ⟨Hr3.out.cell 0, Hr3.out.cell 1⟩) (fun hHeld => ?_)
  clear hK K
  try simp only [Act.put, List.setIfInBounds_toArray, List.set_cons_zero, List.set_cons_succ]
  refine wpAnyH_ready (rs := [11]) (by kernel_rfl) (by simp) ?_
  refine AllReadyH.cons (o := { dst := some 24, op := Go.Op.call { callee := Go.Callee.value (Go.Operand.func 36), args := #[Go.Operand.tmp 21, Go.Operand.tmp 23], argTypes := #[51, 9] }, type := 51, pos := "frame.go:42", after := #[{ on := 8, ground := Go.Ground.data }, { on := 10, ground := Go.Ground.data }, { on := 8, ground := Go.Ground.chain }], guard := none }) rfl (fun K hK => ?_) AllReadyH.nil
  go_simp
  (go_at_call 36; refine F3a.out.mono ?_; rintro e w4 ⟨rfl, hcw, hg⟩; have HB4 := Lib.hid (HB3.out.trans (below_grown hg Hbw.out HB3.out.size)); have Hr4 := Lib.hid (Hr3.out.keep (hg.block w.heap.size Hr3.out.lt Hne2.out)); have Hcw4 := Lib.hid hcw; clear hg hcw)
  go_simp
  refine hK.out _ _ (by exact ⟨Hr4.out.cell 0, Hr4.out.cell 1⟩) (fun hHeld => ?_)
  clear hK K
  try simp only [Act.put, List.setIfInBounds_toArray, List.set_cons_zero, List.set_cons_succ]
  refine wpAnyH_done (by kernel_rfl) ?_ _
  clear Hr1 HB1 Hr2 HB2 Hr3 HB3 F1a F2a F3a hHeld
  go_wp2_with fail
  refine (F4.out w4 b Hcw4.out).mono ?_
  rintro e w5 ⟨rfl, hb5⟩
  have HB5 := Lib.hid (HB4.out.trans (hb5.mono HB4.out.size))
  have Hcw5 := Lib.hid (Hcw4.out.below hb5)
  clear hb5 HB4 Hcw4 F4
  go_wp2_with fail
  refine (F5.out w5).mono ?_
  rintro e w6 ⟨rfl, hb6⟩
  have HB6 := Lib.hid (HB5.out.trans (hb6.mono HB5.out.size))
  have Hcw6 := Lib.hid (Hcw5.out.below hb6)
  clear hb6 HB5 Hcw5 F5
  go_wp2_with fail
  refine (F6.out w6 b Hcw6.out).mono ?_
  rintro e w7 ⟨rfl, hcw7, hg7⟩
  have HB7 := Lib.hid (HB6.out.trans (below_grown hg7 Hbw.out HB6.out.size))
  have Hcw7 := Lib.hid hcw7
  clear hcw7 hg7 HB6 Hcw6 F6
  go_wp2_with fail
  refine (F7.out w7 b Hcw7.out).mono ?_
  rintro e w8 ⟨rfl, hb8⟩
  have HB8 := Lib.hid (HB7.out.trans (hb8.mono HB7.out.size))
  clear hb8 HB7 Hcw7 F7
  go_wp2
  go_ret2
  exact ⟨rfl, HB8.out⟩
end Go.Proofs.Ytfopnbfaaikghaa
