/-
  SumStates (layer 4): the law's function by its walk: true for any state and byte. No condition.
-/
import Derived.Test.YtafdpbehdgidpaaSk
import Derived.Deep.DeepCutAuto
import Derived.Deep.RegionHeld3
namespace Go.Proofs.Ytafdpbehdgidpaa
open Go.RowKit

/-- A new slice of one byte, as a string, in the world where it is new. -/
theorem conv_new (w : World) (x : Nat) (h : x < 256) : (convert 36 9 (.slice (some ⟨w.heap.size, 0, none⟩) 1 1)).run Try.prog (w.alloc (.cells #[.int .u8 (x : Int)] 5)) = .ok (.string (strOf [x])) (w.alloc (.cells #[.int .u8 (x : Int)] 5)) :=
  conv_one _ _ _ h ((Row.new w 5 [.int .u8 (x : Int)]).cell 0) 1
theorem stood_state : Try.prog.stoodInHeld 26 = false := by kernel_rfl
theorem guard_state : Try.prog.eqGuardType Try.prog.depth 26 = false := by kernel_rfl

set_option maxHeartbeats 1000000 in
theorem sstates_walk (h n b r m v S : Nat) (str : ByteArray) (w : World)
    (hm : IntKind.u64.wrap ((n : Int) + 1) = (m : Int)) (hv : IntKind.u64.wrap ((h : Int) + (n : Int)) = (v : Int))
    (hconv : ∀ w : World, (convert 36 9 (.slice (some ⟨w.heap.size, 0, none⟩) 1 1)).run Try.prog (w.alloc (.cells #[.int .u8 (b : Int)] 5)) = .ok (.string str) (w.alloc (.cells #[.int .u8 (b : Int)] 5)))
    (Hby : Hid (∀ w, Calls Try.prog 13 #[.agg #[.int .u64 (h : Int), .int .u64 (n : Int)], .int .u8 (b : Int)] w fun e w' => e = .returned (.agg #[.int .u64 (r : Int), .int .u64 (m : Int)]) ∧ Below w.heap.size w w'))
    (Had : Hid (∀ w, Calls Try.prog 8 #[.agg #[.int .u64 (h : Int), .int .u64 (n : Int)], .string str] w fun e w' => e = .returned (.agg #[.int .u64 (r : Int), .int .u64 (m : Int)]) ∧ Below w.heap.size w w'))
    (Hae : Hid (∀ w, Calls Try.prog 8 #[.agg #[.int .u64 (h : Int), .int .u64 (n : Int)], .string ⟨#[]⟩] w fun e w' => e = .returned (.agg #[.int .u64 (h : Int), .int .u64 (n : Int)]) ∧ Below w.heap.size w w'))
    (Hs : Hid (∀ w, Calls Try.prog 11 #[.agg #[.int .u64 (h : Int), .int .u64 (n : Int)]] w fun e w' => e = .returned (.int .u64 (S : Int)) ∧ Below w.heap.size w w'))
    (Hsv : Hid (∀ w, Calls Try.prog 11 #[.agg #[.int .u64 (v : Int), .int .u64 0]] w fun e w' => e = .returned (.int .u64 (S : Int)) ∧ Below w.heap.size w w')) :
    Calls Try.prog 5 #[.int .u64 (h : Int), .int .u64 (n : Int), .int .u8 (b : Int)] w fun e w' => e = .returned (.bool true) ∧ Below w.heap.size w w' := by
  have Hconv := Lib.hid hconv
  have Hm := Lib.hid hm
  have Hv := Lib.hid hv
  clear hconv hm hv
  go_enter Try.func5, Try.ntmps5
  go_wp2_with fail
  refine (sawake_any w).mono ?_
  rintro e w1 ⟨rfl, hb1⟩
  have Hb1 := Lib.hid hb1
  clear hb1
  go_wp2_with fail
  obtain ⟨p, hp⟩ : ∃ p, p = w1.heap.size := ⟨_, rfl⟩
  have hrow : Row (w1.alloc (.cells #[.int .u64 (h : Int), .int .u64 (n : Int)] 26)) p 26 (scells h n) := by rw [hp]; exact Row.new w1 26 (scells h n)
  have hbel : Below w.heap.size w (w1.alloc (.cells #[.int .u64 (h : Int), .int .u64 (n : Int)] 26)) := Hb1.out.alloc Hb1.out.size _
  rw [← hp]
  have Hrow := Lib.hid hrow
  have Hbel := Lib.hid hbel
  clear hp hrow hbel Hb1
  generalize (w1.alloc (.cells #[.int .u64 (h : Int), .int .u64 (n : Int)] 26)) = w2 at Hrow Hbel ⊢
  refine (Hby.out _).mono ?_
  rintro e w3 ⟨rfl, hb3⟩
  obtain ⟨q, hq⟩ : ∃ q, q = w3.heap.size := ⟨_, rfl⟩
  have Hq := Lib.hid hq
  have Hrow3 := Lib.hid (Hrow.out.below hb3)
  have Hbel3 := Lib.hid (Hbel.out.trans (hb3.mono Hbel.out.size))
  clear hq hb3 Hrow Hbel
  go_upto_region 5 with fail
  rw [← Hq.out]
  have hrx : Row (w3.alloc (.cells #[.int .u64 (r : Int), .int .u64 (m : Int)] 26)) q 26 (scells r m) := by rw [Hq.out]; exact Row.new w3 26 (scells r m)
  have hrs : Row (w3.alloc (.cells #[.int .u64 (r : Int), .int .u64 (m : Int)] 26)) p 26 (scells h n) := Hrow3.out.alloc _
  have hbl : Below w.heap.size w (w3.alloc (.cells #[.int .u64 (r : Int), .int .u64 (m : Int)] 26)) := Hbel3.out.alloc Hbel3.out.size _
  clear Hq Hrow3 Hbel3
  generalize (w3.alloc (.cells #[.int .u64 (r : Int), .int .u64 (m : Int)] 26)) = w4 at hrx hrs hbl ⊢
  have hp0 : ∀ W, Below w4.heap.size w4 W → W.cell? ⟨p, 0, none⟩ = some (.int .u64 (h : Int)) := fun W hW => (hrs.below hW).cell 0
  have hp1 : ∀ W, Below w4.heap.size w4 W → W.cell? ⟨p, 1, none⟩ = some (.int .u64 (n : Int)) := fun W hW => (hrs.below hW).cell 1
  have hq0 : ∀ W, Below w4.heap.size w4 W → W.cell? ⟨q, 0, none⟩ = some (.int .u64 (r : Int)) := fun W hW => (hrx.below hW).cell 0
  have hq1 : ∀ W, Below w4.heap.size w4 W → W.cell? ⟨q, 1, none⟩ = some (.int .u64 (m : Int)) := fun W hW => (hrx.below hW).cell 1
  have Hbl := Lib.hid hbl
  have hcv : (convert 36 9 (.slice (some ⟨w4.heap.size, 0, none⟩) 1 1)).run Try.prog (w4.alloc (.cells #[.int .u8 (b : Int)] 5)).drew = .ok (.string str) (w4.alloc (.cells #[.int .u8 (b : Int)] 5)).drew := Hconv.out w4.drew
  have hm := Hm.out
  have hv := Hv.out
  have hst := stood_state
  have hgu := guard_state
  clear hrx hrs hbl Hconv Hm Hv
  refine wp_region_held_drew (S := (fun W => Below w4.heap.size w4 W)) (by kernel_rfl) (by exact (Below.refl w4.heap.size w4).drew) (fun hHeld => ?_)
  refine wpAnyH_take (i := 0) (oi := { dst := some 17, op := Go.Op.load 26 (Go.Operand.tmp 8), type := 26, pos := "law.go:54", after := #[], guard := none }) (v := ?_) rfl (by kernel_rfl) (by kernel_rfl) (by kernel_rfl) (fun _ _ _ h => h) (Or.inl ⟨by rfl, ?_⟩) (by assumption) ?_
  rotate_left
  · (intro w hSw; (try dsimp only at hSw); go_simp; (try with_reducible rfl))
  try simp only [Act.put, List.setIfInBounds_toArray, List.set_cons_zero, List.set_cons_succ]
  refine wpAnyH_take (i := 1) (oi := { dst := some 18, op := Go.Op.load 26 (Go.Operand.tmp 7), type := 26, pos := "law.go:54", after := #[], guard := none }) (v := ?_) rfl (by kernel_rfl) (by kernel_rfl) (by kernel_rfl) (fun _ _ _ h => h) (Or.inl ⟨by rfl, ?_⟩) (by assumption) ?_
  rotate_left
  · (intro w hSw; (try dsimp only at hSw); go_simp; (try with_reducible rfl))
  try simp only [Act.put, List.setIfInBounds_toArray, List.set_cons_zero, List.set_cons_succ]
  refine wpAnyH_take (i := 2) (oi := { dst := some 19, op := Go.Op.move (Go.Operand.tmp 2), type := 5, pos := "law.go:54", after := #[], guard := none }) (v := ?_) rfl (by kernel_rfl) (by kernel_rfl) (by kernel_rfl) (fun _ _ _ h => h) (Or.inl ⟨by rfl, ?_⟩) (by assumption) ?_
  rotate_left
  · (intro w hSw; (try dsimp only at hSw); go_simp; (try with_reducible rfl))
  try simp only [Act.put, List.setIfInBounds_toArray, List.set_cons_zero, List.set_cons_succ]
  refine wpAnyH_ready (rs := [3]) (by kernel_rfl) (by simp) ?_
  refine AllReadyH.cons (o := { dst := some 20, op := Go.Op.buildSlice 36 1 #[(0, Go.Operand.tmp 19)], type := 36, pos := "law.go:54", after := #[{ on := 2, ground := Go.Ground.data }], guard := none }) rfl (fun K hK => ?_) AllReadyH.nil
  go_simp
  refine hK.out _ _ (by exact ((Below.refl w4.heap.size w4).alloc (Nat.le_refl _) (.cells #[.int .u8 (b : Int)] 5)).drew) (fun hHeld => ?_)
  clear hK K
  try simp only [Act.put, List.setIfInBounds_toArray, List.set_cons_zero, List.set_cons_succ]
  refine wpAnyH_ready (rs := [4]) (by kernel_rfl) (by simp) ?_
  refine AllReadyH.cons (o := { dst := some 21, op := Go.Op.convert 36 9 (Go.Operand.tmp 20), type := 9, pos := "law.go:54", after := #[{ on := 3, ground := Go.Ground.data }], guard := none }) rfl (fun K hK => ?_) AllReadyH.nil
  go_simp
  refine hK.out _ _ (by exact ((Below.refl w4.heap.size w4).alloc (Nat.le_refl _) (.cells #[.int .u8 (b : Int)] 5)).drew) (fun hHeld => ?_)
  clear hK K
  try simp only [Act.put, List.setIfInBounds_toArray, List.set_cons_zero, List.set_cons_succ]
  refine wpAnyH_ready (rs := [5]) (by kernel_rfl) (by simp) ?_
  refine AllReadyH.cons (o := { dst := some 22, op := Go.Op.call { callee := Go.Callee.value (Go.Operand.func 8), args := #[Go.Operand.tmp 18, Go.Operand.tmp 21], argTypes := #[26, 9] }, type := 26, pos := "law.go:54", after := #[{ on := 1, ground := Go.Ground.data }, { on := 4, ground := Go.Ground.data }], guard := none }) rfl (fun K hK => ?_) AllReadyH.nil
  go_simp
  (go_at_call 8; (with_reducible refine (Had.out _).mono ?_); rintro e wX ⟨rfl, hbX⟩; have HX : Below w4.heap.size w4 wX := Below.trans (by with_reducible assumption) (hbX.mono (Below.size (by with_reducible assumption))); clear hbX)
  go_simp
  refine hK.out _ _ (by with_reducible assumption) (fun hHeld => ?_)
  clear hK K
  try simp only [Act.put, List.setIfInBounds_toArray, List.set_cons_zero, List.set_cons_succ]
  refine wpAnyH_take (i := 6) (oi := { dst := some 23, op := Go.Op.binOp Go.BinOp.eql 26 (Go.Operand.tmp 17) (Go.Operand.tmp 22) 26, type := 4, pos := "law.go:54", after := #[{ on := 0, ground := Go.Ground.data }, { on := 5, ground := Go.Ground.data }], guard := none }) (v := ?_) rfl (by kernel_rfl) (by kernel_rfl) (by kernel_rfl) (fun _ _ _ h => h) (Or.inl ⟨by rfl, ?_⟩) (by assumption) ?_
  rotate_left
  · (intro w hSw; (try dsimp only at hSw); go_simp; (try with_reducible rfl))
  try simp only [Act.put, List.setIfInBounds_toArray, List.set_cons_zero, List.set_cons_succ]
  refine wpAnyH_take (i := 7) (oi := { dst := some 24, op := Go.Op.move (Go.Operand.tmp 23), type := 4, pos := "law.go:54", after := #[{ on := 6, ground := Go.Ground.data }, { on := 5, ground := Go.Ground.chain }], guard := none }) (v := ?_) rfl (by kernel_rfl) (by kernel_rfl) (by kernel_rfl) (fun _ _ _ h => h) (Or.inl ⟨by rfl, ?_⟩) (by assumption) ?_
  rotate_left
  · (intro w hSw; (try dsimp only at hSw); go_simp; (try with_reducible rfl))
  try simp only [Act.put, List.setIfInBounds_toArray, List.set_cons_zero, List.set_cons_succ]
  refine wpAnyH_take (i := 8) (oi := { dst := some 25, op := Go.Op.fieldAddr 26 (Go.Operand.tmp 8) 1, type := 0, pos := "law.go:54", after := #[{ on := 7, ground := Go.Ground.guard }], guard := some (7, true) }) (v := ?_) rfl (by kernel_rfl) (by kernel_rfl) (by kernel_rfl) (fun _ _ _ h => h) (Or.inl ⟨by rfl, ?_⟩) (by assumption) ?_
  rotate_left
  · (intro w hSw; (try dsimp only at hSw); go_simp; (try with_reducible rfl))
  try simp only [Act.put, List.setIfInBounds_toArray, List.set_cons_zero, List.set_cons_succ]
  refine wpAnyH_take (i := 9) (oi := { dst := some 26, op := Go.Op.load 24 (Go.Operand.tmp 25), type := 24, pos := "law.go:54", after := #[{ on := 8, ground := Go.Ground.data }, { on := 7, ground := Go.Ground.guard }], guard := some (7, true) }) (v := ?_) rfl (by kernel_rfl) (by kernel_rfl) (by kernel_rfl) (fun _ _ _ h => h) (Or.inl ⟨by rfl, ?_⟩) (by assumption) ?_
  rotate_left
  · (intro w hSw; (try dsimp only at hSw); go_simp; (try with_reducible rfl))
  try simp only [Act.put, List.setIfInBounds_toArray, List.set_cons_zero, List.set_cons_succ]
  refine wpAnyH_take (i := 10) (oi := { dst := some 27, op := Go.Op.move (Go.Operand.tmp 1), type := 24, pos := "law.go:54", after := #[{ on := 7, ground := Go.Ground.guard }], guard := some (7, true) }) (v := ?_) rfl (by kernel_rfl) (by kernel_rfl) (by kernel_rfl) (fun _ _ _ h => h) (Or.inl ⟨by rfl, ?_⟩) (by assumption) ?_
  rotate_left
  · (intro w hSw; (try dsimp only at hSw); go_simp; (try with_reducible rfl))
  try simp only [Act.put, List.setIfInBounds_toArray, List.set_cons_zero, List.set_cons_succ]
  refine wpAnyH_take (i := 11) (oi := { dst := some 28, op := Go.Op.binOp Go.BinOp.add 24 (Go.Operand.tmp 27) (Go.Operand.const (Go.Value.int Go.IntKind.u64 1)) 24, type := 24, pos := "law.go:54", after := #[{ on := 10, ground := Go.Ground.data }, { on := 7, ground := Go.Ground.guard }], guard := some (7, true) }) (v := ?_) rfl (by kernel_rfl) (by kernel_rfl) (by kernel_rfl) (fun _ _ _ h => h) (Or.inl ⟨by rfl, ?_⟩) (by assumption) ?_
  rotate_left
  · (intro w hSw; (try dsimp only at hSw); go_simp; (try with_reducible rfl))
  try simp only [Act.put, List.setIfInBounds_toArray, List.set_cons_zero, List.set_cons_succ]
  refine wpAnyH_take (i := 12) (oi := { dst := some 29, op := Go.Op.binOp Go.BinOp.eql 24 (Go.Operand.tmp 26) (Go.Operand.tmp 28) 24, type := 4, pos := "law.go:54", after := #[{ on := 9, ground := Go.Ground.data }, { on := 11, ground := Go.Ground.data }, { on := 7, ground := Go.Ground.guard }], guard := some (7, true) }) (v := ?_) rfl (by kernel_rfl) (by kernel_rfl) (by kernel_rfl) (fun _ _ _ h => h) (Or.inl ⟨by rfl, ?_⟩) (by assumption) ?_
  rotate_left
  · (intro w hSw; (try dsimp only at hSw); go_simp; (try with_reducible rfl))
  try simp only [Act.put, List.setIfInBounds_toArray, List.set_cons_zero, List.set_cons_succ]
  refine wpAnyH_take (i := 13) (oi := { dst := some 30, op := Go.Op.pick (Go.Operand.tmp 24) (Go.Operand.tmp 29) (Go.Operand.const (Go.Value.bool false)), type := 4, pos := "law.go:54", after := #[{ on := 7, ground := Go.Ground.data }, { on := 12, ground := Go.Ground.data }], guard := none }) (v := ?_) rfl (by kernel_rfl) (by kernel_rfl) (by kernel_rfl) (fun _ _ _ h => h) (Or.inl ⟨by rfl, ?_⟩) (by assumption) ?_
  rotate_left
  · (intro w hSw; (try dsimp only at hSw); go_simp; (try with_reducible rfl))
  try simp only [Act.put, List.setIfInBounds_toArray, List.set_cons_zero, List.set_cons_succ]
  refine wpAnyH_take (i := 14) (oi := { dst := some 31, op := Go.Op.move (Go.Operand.tmp 30), type := 4, pos := "law.go:54", after := #[{ on := 13, ground := Go.Ground.data }, { on := 7, ground := Go.Ground.chain }], guard := none }) (v := ?_) rfl (by kernel_rfl) (by kernel_rfl) (by kernel_rfl) (fun _ _ _ h => h) (Or.inl ⟨by rfl, ?_⟩) (by assumption) ?_
  rotate_left
  · (intro w hSw; (try dsimp only at hSw); go_simp; (try with_reducible rfl))
  try simp only [Act.put, List.setIfInBounds_toArray, List.set_cons_zero, List.set_cons_succ]
  refine wpAnyH_take (i := 15) (oi := { dst := some 32, op := Go.Op.load 26 (Go.Operand.tmp 7), type := 26, pos := "law.go:54", after := #[{ on := 14, ground := Go.Ground.guard }], guard := some (14, true) }) (v := ?_) rfl (by kernel_rfl) (by kernel_rfl) (by kernel_rfl) (fun _ _ _ h => h) (Or.inl ⟨by rfl, ?_⟩) (by assumption) ?_
  rotate_left
  · (intro w hSw; (try dsimp only at hSw); go_simp; (try with_reducible rfl))
  try simp only [Act.put, List.setIfInBounds_toArray, List.set_cons_zero, List.set_cons_succ]
  refine wpAnyH_take (i := 16) (oi := { dst := some 33, op := Go.Op.move (Go.Operand.tmp 0), type := 24, pos := "law.go:54", after := #[{ on := 14, ground := Go.Ground.guard }], guard := some (14, true) }) (v := ?_) rfl (by kernel_rfl) (by kernel_rfl) (by kernel_rfl) (fun _ _ _ h => h) (Or.inl ⟨by rfl, ?_⟩) (by assumption) ?_
  rotate_left
  · (intro w hSw; (try dsimp only at hSw); go_simp; (try with_reducible rfl))
  try simp only [Act.put, List.setIfInBounds_toArray, List.set_cons_zero, List.set_cons_succ]
  refine wpAnyH_take (i := 17) (oi := { dst := some 34, op := Go.Op.move (Go.Operand.tmp 1), type := 24, pos := "law.go:54", after := #[{ on := 14, ground := Go.Ground.guard }], guard := some (14, true) }) (v := ?_) rfl (by kernel_rfl) (by kernel_rfl) (by kernel_rfl) (fun _ _ _ h => h) (Or.inl ⟨by rfl, ?_⟩) (by assumption) ?_
  rotate_left
  · (intro w hSw; (try dsimp only at hSw); go_simp; (try with_reducible rfl))
  try simp only [Act.put, List.setIfInBounds_toArray, List.set_cons_zero, List.set_cons_succ]
  refine wpAnyH_take (i := 18) (oi := { dst := some 35, op := Go.Op.build 26 #[(0, Go.Operand.tmp 33), (1, Go.Operand.tmp 34)], type := 26, pos := "law.go:54", after := #[{ on := 16, ground := Go.Ground.data }, { on := 17, ground := Go.Ground.data }, { on := 14, ground := Go.Ground.guard }], guard := some (14, true) }) (v := ?_) rfl (by kernel_rfl) (by kernel_rfl) (by kernel_rfl) (fun _ _ _ h => h) (Or.inl ⟨by rfl, ?_⟩) (by assumption) ?_
  rotate_left
  · (intro w hSw; (try dsimp only at hSw); go_simp; (try with_reducible rfl))
  try simp only [Act.put, List.setIfInBounds_toArray, List.set_cons_zero, List.set_cons_succ]
  refine wpAnyH_take (i := 19) (oi := { dst := some 36, op := Go.Op.binOp Go.BinOp.eql 26 (Go.Operand.tmp 32) (Go.Operand.tmp 35) 26, type := 4, pos := "law.go:54", after := #[{ on := 15, ground := Go.Ground.data }, { on := 18, ground := Go.Ground.data }, { on := 14, ground := Go.Ground.guard }], guard := some (14, true) }) (v := ?_) rfl (by kernel_rfl) (by kernel_rfl) (by kernel_rfl) (fun _ _ _ h => h) (Or.inl ⟨by rfl, ?_⟩) (by assumption) ?_
  rotate_left
  · (intro w hSw; (try dsimp only at hSw); go_simp; (try with_reducible rfl))
  try simp only [Act.put, List.setIfInBounds_toArray, List.set_cons_zero, List.set_cons_succ]
  refine wpAnyH_take (i := 20) (oi := { dst := some 37, op := Go.Op.pick (Go.Operand.tmp 31) (Go.Operand.tmp 36) (Go.Operand.const (Go.Value.bool false)), type := 4, pos := "law.go:54", after := #[{ on := 14, ground := Go.Ground.data }, { on := 19, ground := Go.Ground.data }], guard := none }) (v := ?_) rfl (by kernel_rfl) (by kernel_rfl) (by kernel_rfl) (fun _ _ _ h => h) (Or.inl ⟨by rfl, ?_⟩) (by assumption) ?_
  rotate_left
  · (intro w hSw; (try dsimp only at hSw); go_simp; (try with_reducible rfl))
  try simp only [Act.put, List.setIfInBounds_toArray, List.set_cons_zero, List.set_cons_succ]
  refine wpAnyH_take (i := 21) (oi := { dst := some 38, op := Go.Op.move (Go.Operand.tmp 37), type := 4, pos := "law.go:54", after := #[{ on := 20, ground := Go.Ground.data }, { on := 14, ground := Go.Ground.chain }], guard := none }) (v := ?_) rfl (by kernel_rfl) (by kernel_rfl) (by kernel_rfl) (fun _ _ _ h => h) (Or.inl ⟨by rfl, ?_⟩) (by assumption) ?_
  rotate_left
  · (intro w hSw; (try dsimp only at hSw); go_simp; (try with_reducible rfl))
  try simp only [Act.put, List.setIfInBounds_toArray, List.set_cons_zero, List.set_cons_succ]
  refine wpAnyH_take (i := 22) (oi := { dst := some 39, op := Go.Op.load 26 (Go.Operand.tmp 7), type := 26, pos := "law.go:54", after := #[{ on := 21, ground := Go.Ground.guard }], guard := some (21, true) }) (v := ?_) rfl (by kernel_rfl) (by kernel_rfl) (by kernel_rfl) (fun _ _ _ h => h) (Or.inl ⟨by rfl, ?_⟩) (by assumption) ?_
  rotate_left
  · (intro w hSw; (try dsimp only at hSw); go_simp; (try with_reducible rfl))
  try simp only [Act.put, List.setIfInBounds_toArray, List.set_cons_zero, List.set_cons_succ]
  refine wpAnyH_take (i := 24) (oi := { dst := some 41, op := Go.Op.load 26 (Go.Operand.tmp 7), type := 26, pos := "law.go:54", after := #[{ on := 21, ground := Go.Ground.guard }], guard := some (21, true) }) (v := ?_) rfl (by kernel_rfl) (by kernel_rfl) (by kernel_rfl) (fun _ _ _ h => h) (Or.inl ⟨by rfl, ?_⟩) (by assumption) ?_
  rotate_left
  · (intro w hSw; (try dsimp only at hSw); go_simp; (try with_reducible rfl))
  try simp only [Act.put, List.setIfInBounds_toArray, List.set_cons_zero, List.set_cons_succ]
  refine wpAnyH_ready (rs := [23]) (by kernel_rfl) (by simp) ?_
  refine AllReadyH.cons (o := { dst := some 40, op := Go.Op.call { callee := Go.Callee.value (Go.Operand.func 8), args := #[Go.Operand.tmp 39, Go.Operand.const (Go.Value.string { data := #[] })], argTypes := #[26, 9] }, type := 26, pos := "law.go:54", after := #[{ on := 22, ground := Go.Ground.data }, { on := 21, ground := Go.Ground.chain }, { on := 21, ground := Go.Ground.guard }], guard := some (21, true) }) rfl (fun K hK => ?_) AllReadyH.nil
  go_simp
  (go_at_call 8; (with_reducible refine (Hae.out _).mono ?_); rintro e wX ⟨rfl, hbX⟩; have HX : Below w4.heap.size w4 wX := Below.trans (by with_reducible assumption) (hbX.mono (Below.size (by with_reducible assumption))); clear hbX)
  go_simp
  refine hK.out _ _ (by with_reducible assumption) (fun hHeld => ?_)
  clear hK K
  try simp only [Act.put, List.setIfInBounds_toArray, List.set_cons_zero, List.set_cons_succ]
  refine wpAnyH_take (i := 25) (oi := { dst := some 42, op := Go.Op.binOp Go.BinOp.eql 26 (Go.Operand.tmp 40) (Go.Operand.tmp 41) 26, type := 4, pos := "law.go:54", after := #[{ on := 23, ground := Go.Ground.data }, { on := 24, ground := Go.Ground.data }, { on := 21, ground := Go.Ground.guard }], guard := some (21, true) }) (v := ?_) rfl (by kernel_rfl) (by kernel_rfl) (by kernel_rfl) (fun _ _ _ h => h) (Or.inl ⟨by rfl, ?_⟩) (by assumption) ?_
  rotate_left
  · (intro w hSw; (try dsimp only at hSw); go_simp; (try with_reducible rfl))
  try simp only [Act.put, List.setIfInBounds_toArray, List.set_cons_zero, List.set_cons_succ]
  refine wpAnyH_take (i := 26) (oi := { dst := some 43, op := Go.Op.pick (Go.Operand.tmp 38) (Go.Operand.tmp 42) (Go.Operand.const (Go.Value.bool false)), type := 4, pos := "law.go:54", after := #[{ on := 21, ground := Go.Ground.data }, { on := 25, ground := Go.Ground.data }], guard := none }) (v := ?_) rfl (by kernel_rfl) (by kernel_rfl) (by kernel_rfl) (fun _ _ _ h => h) (Or.inl ⟨by rfl, ?_⟩) (by assumption) ?_
  rotate_left
  · (intro w hSw; (try dsimp only at hSw); go_simp; (try with_reducible rfl))
  try simp only [Act.put, List.setIfInBounds_toArray, List.set_cons_zero, List.set_cons_succ]
  refine wpAnyH_take (i := 27) (oi := { dst := some 44, op := Go.Op.move (Go.Operand.tmp 43), type := 4, pos := "law.go:54", after := #[{ on := 26, ground := Go.Ground.data }, { on := 23, ground := Go.Ground.chain }], guard := none }) (v := ?_) rfl (by kernel_rfl) (by kernel_rfl) (by kernel_rfl) (fun _ _ _ h => h) (Or.inl ⟨by rfl, ?_⟩) (by assumption) ?_
  rotate_left
  · (intro w hSw; (try dsimp only at hSw); go_simp; (try with_reducible rfl))
  try simp only [Act.put, List.setIfInBounds_toArray, List.set_cons_zero, List.set_cons_succ]
  refine wpAnyH_take (i := 28) (oi := { dst := some 45, op := Go.Op.load 26 (Go.Operand.tmp 7), type := 26, pos := "law.go:54", after := #[{ on := 27, ground := Go.Ground.guard }], guard := some (27, true) }) (v := ?_) rfl (by kernel_rfl) (by kernel_rfl) (by kernel_rfl) (fun _ _ _ h => h) (Or.inl ⟨by rfl, ?_⟩) (by assumption) ?_
  rotate_left
  · (intro w hSw; (try dsimp only at hSw); go_simp; (try with_reducible rfl))
  try simp only [Act.put, List.setIfInBounds_toArray, List.set_cons_zero, List.set_cons_succ]
  refine wpAnyH_take (i := 30) (oi := { dst := some 47, op := Go.Op.move (Go.Operand.tmp 0), type := 24, pos := "law.go:54", after := #[{ on := 27, ground := Go.Ground.guard }], guard := some (27, true) }) (v := ?_) rfl (by kernel_rfl) (by kernel_rfl) (by kernel_rfl) (fun _ _ _ h => h) (Or.inl ⟨by rfl, ?_⟩) (by assumption) ?_
  rotate_left
  · (intro w hSw; (try dsimp only at hSw); go_simp; (try with_reducible rfl))
  try simp only [Act.put, List.setIfInBounds_toArray, List.set_cons_zero, List.set_cons_succ]
  refine wpAnyH_take (i := 31) (oi := { dst := some 48, op := Go.Op.move (Go.Operand.tmp 1), type := 24, pos := "law.go:54", after := #[{ on := 27, ground := Go.Ground.guard }], guard := some (27, true) }) (v := ?_) rfl (by kernel_rfl) (by kernel_rfl) (by kernel_rfl) (fun _ _ _ h => h) (Or.inl ⟨by rfl, ?_⟩) (by assumption) ?_
  rotate_left
  · (intro w hSw; (try dsimp only at hSw); go_simp; (try with_reducible rfl))
  try simp only [Act.put, List.setIfInBounds_toArray, List.set_cons_zero, List.set_cons_succ]
  refine wpAnyH_take (i := 32) (oi := { dst := some 49, op := Go.Op.binOp Go.BinOp.add 24 (Go.Operand.tmp 47) (Go.Operand.tmp 48) 24, type := 24, pos := "law.go:54", after := #[{ on := 30, ground := Go.Ground.data }, { on := 31, ground := Go.Ground.data }, { on := 27, ground := Go.Ground.guard }], guard := some (27, true) }) (v := ?_) rfl (by kernel_rfl) (by kernel_rfl) (by kernel_rfl) (fun _ _ _ h => h) (Or.inl ⟨by rfl, ?_⟩) (by assumption) ?_
  rotate_left
  · (intro w hSw; (try dsimp only at hSw); go_simp; (try with_reducible rfl))
  try simp only [Act.put, List.setIfInBounds_toArray, List.set_cons_zero, List.set_cons_succ]
  refine wpAnyH_take (i := 33) (oi := { dst := some 50, op := Go.Op.build 26 #[(0, Go.Operand.tmp 49)], type := 26, pos := "law.go:54", after := #[{ on := 32, ground := Go.Ground.data }, { on := 27, ground := Go.Ground.guard }], guard := some (27, true) }) (v := ?_) rfl (by kernel_rfl) (by kernel_rfl) (by kernel_rfl) (fun _ _ _ h => h) (Or.inl ⟨by rfl, ?_⟩) (by assumption) ?_
  rotate_left
  · (intro w hSw; (try dsimp only at hSw); go_simp; (try with_reducible rfl))
  try simp only [Act.put, List.setIfInBounds_toArray, List.set_cons_zero, List.set_cons_succ]
  refine wpAnyH_ready (rs := [29]) (by kernel_rfl) (by simp) ?_
  refine AllReadyH.cons (o := { dst := some 46, op := Go.Op.call { callee := Go.Callee.value (Go.Operand.func 11), args := #[Go.Operand.tmp 45], argTypes := #[26] }, type := 24, pos := "law.go:54", after := #[{ on := 28, ground := Go.Ground.data }, { on := 27, ground := Go.Ground.chain }, { on := 27, ground := Go.Ground.guard }], guard := some (27, true) }) rfl (fun K hK => ?_) AllReadyH.nil
  go_simp
  (go_at_call 11; (with_reducible refine (Hs.out _).mono ?_); rintro e wX ⟨rfl, hbX⟩; have HX : Below w4.heap.size w4 wX := Below.trans (by with_reducible assumption) (hbX.mono (Below.size (by with_reducible assumption))); clear hbX)
  go_simp
  refine hK.out _ _ (by with_reducible assumption) (fun hHeld => ?_)
  clear hK K
  try simp only [Act.put, List.setIfInBounds_toArray, List.set_cons_zero, List.set_cons_succ]
  refine wpAnyH_ready (rs := [34]) (by kernel_rfl) (by simp) ?_
  refine AllReadyH.cons (o := { dst := some 51, op := Go.Op.call { callee := Go.Callee.value (Go.Operand.func 11), args := #[Go.Operand.tmp 50], argTypes := #[26] }, type := 24, pos := "law.go:54", after := #[{ on := 33, ground := Go.Ground.data }, { on := 29, ground := Go.Ground.chain }, { on := 27, ground := Go.Ground.guard }], guard := some (27, true) }) rfl (fun K hK => ?_) AllReadyH.nil
  go_simp
  (go_at_call 11; (with_reducible refine (Hsv.out _).mono ?_); rintro e wX ⟨rfl, hbX⟩; have HX : Below w4.heap.size w4 wX := Below.trans (by with_reducible assumption) (hbX.mono (Below.size (by with_reducible assumption))); clear hbX)
  go_simp
  refine hK.out _ _ (by with_reducible assumption) (fun hHeld => ?_)
  clear hK K
  try simp only [Act.put, List.setIfInBounds_toArray, List.set_cons_zero, List.set_cons_succ]
  refine wpAnyH_take (i := 35) (oi := { dst := some 52, op := Go.Op.binOp Go.BinOp.eql 24 (Go.Operand.tmp 46) (Go.Operand.tmp 51) 24, type := 4, pos := "law.go:54", after := #[{ on := 29, ground := Go.Ground.data }, { on := 34, ground := Go.Ground.data }, { on := 27, ground := Go.Ground.guard }], guard := some (27, true) }) (v := ?_) rfl (by kernel_rfl) (by kernel_rfl) (by kernel_rfl) (fun _ _ _ h => h) (Or.inl ⟨by rfl, ?_⟩) (by assumption) ?_
  rotate_left
  · (intro w hSw; (try dsimp only at hSw); go_simp; (try with_reducible rfl))
  try simp only [Act.put, List.setIfInBounds_toArray, List.set_cons_zero, List.set_cons_succ]
  refine wpAnyH_take (i := 36) (oi := { dst := some 53, op := Go.Op.pick (Go.Operand.tmp 44) (Go.Operand.tmp 52) (Go.Operand.const (Go.Value.bool false)), type := 4, pos := "law.go:54", after := #[{ on := 27, ground := Go.Ground.data }, { on := 35, ground := Go.Ground.data }], guard := none }) (v := ?_) rfl (by kernel_rfl) (by kernel_rfl) (by kernel_rfl) (fun _ _ _ h => h) (Or.inl ⟨by rfl, ?_⟩) (by assumption) ?_
  rotate_left
  · (intro w hSw; (try dsimp only at hSw); go_simp; (try with_reducible rfl))
  try simp only [Act.put, List.setIfInBounds_toArray, List.set_cons_zero, List.set_cons_succ]
  refine wpAnyH_take (i := 37) (oi := { dst := some 6, op := Go.Op.assign (Go.Operand.tmp 53), type := 4, pos := "law.go:54", after := #[{ on := 36, ground := Go.Ground.data }, { on := 34, ground := Go.Ground.chain }, { on := 0, ground := Go.Ground.phase }, { on := 1, ground := Go.Ground.phase }, { on := 2, ground := Go.Ground.phase }, { on := 3, ground := Go.Ground.phase }, { on := 4, ground := Go.Ground.phase }, { on := 5, ground := Go.Ground.phase }, { on := 6, ground := Go.Ground.phase }, { on := 7, ground := Go.Ground.phase }, { on := 8, ground := Go.Ground.phase }, { on := 9, ground := Go.Ground.phase }, { on := 10, ground := Go.Ground.phase }, { on := 11, ground := Go.Ground.phase }, { on := 12, ground := Go.Ground.phase }, { on := 13, ground := Go.Ground.phase }, { on := 14, ground := Go.Ground.phase }, { on := 15, ground := Go.Ground.phase }, { on := 16, ground := Go.Ground.phase }, { on := 17, ground := Go.Ground.phase }, { on := 18, ground := Go.Ground.phase }, { on := 19, ground := Go.Ground.phase }, { on := 20, ground := Go.Ground.phase }, { on := 21, ground := Go.Ground.phase }, { on := 22, ground := Go.Ground.phase }, { on := 23, ground := Go.Ground.phase }, { on := 24, ground := Go.Ground.phase }, { on := 25, ground := Go.Ground.phase }, { on := 26, ground := Go.Ground.phase }, { on := 27, ground := Go.Ground.phase }, { on := 28, ground := Go.Ground.phase }, { on := 29, ground := Go.Ground.phase }, { on := 30, ground := Go.Ground.phase }, { on := 31, ground := Go.Ground.phase }, { on := 32, ground := Go.Ground.phase }, { on := 33, ground := Go.Ground.phase }, { on := 34, ground := Go.Ground.phase }, { on := 35, ground := Go.Ground.phase }, { on := 36, ground := Go.Ground.phase }], guard := none }) (v := ?_) rfl (by kernel_rfl) (by kernel_rfl) (by kernel_rfl) (fun _ _ _ h => h) (Or.inl ⟨by rfl, ?_⟩) (by assumption) ?_
  rotate_left
  · (intro w hSw; (try dsimp only at hSw); go_simp; (try with_reducible rfl))
  try simp only [Act.put, List.setIfInBounds_toArray, List.set_cons_zero, List.set_cons_succ]
  refine wpAnyH_done (by kernel_rfl) ?_ _
  have HXX : Hid (Below w.heap.size w wX) := Lib.hid (Hbl.out.trans (HX.mono Hbl.out.size))
  clear HX hp0 hp1 hq0 hq1 hcv hm hv hst hgu
  go_wp2
  go_ret
  exact ⟨rfl, HXX.out⟩

theorem sstates_any (h n b : Nat) (w : World) (hh : h < 18446744073709551616) (hn : n < 18446744073709551616) (hb : b < 256) :
    Calls Try.prog 5 #[.int .u64 (h : Int), .int .u64 (n : Int), .int .u8 (b : Int)] w fun e w' => e = .returned (.bool true) ∧ Below w.heap.size w w' := by
  refine sstates_walk h n b (Bm.stepH h b) ((n + 1) % 18446744073709551616) ((h + n) % 18446744073709551616) (Bm.sumH h n) (strOf [b]) w ?_ ?_ (fun w => conv_new w b hb) ?_ ?_ ?_ ?_ ?_
  · rw [IntKind.wrap_u64]; omega
  · rw [IntKind.wrap_u64]; omega
  · exact Lib.hid fun w => sbyte_any h n b w hh hb
  · refine Lib.hid fun w => ?_
    have h1 := sadd_any h n [b] w hh hn (by simp) (by simpa using hb)
    have e1 : Bm.fromH h [b] = Bm.stepH h b := by unfold Bm.fromH; rw [List.foldl_cons, List.foldl_nil]
    rw [e1, List.length_singleton] at h1
    exact h1
  · refine Lib.hid fun w => ?_
    have h1 := sadd_any h n [] w hh hn (by simp) (by simp)
    have e1 : Bm.fromH h [] = h := by unfold Bm.fromH; rw [List.foldl_nil]
    have e2 : strOf [] = ⟨#[]⟩ := rfl
    rw [e1, e2, List.length_nil, Nat.add_zero, Nat.mod_eq_of_lt hn] at h1
    exact h1
  · exact Lib.hid fun w => ssum_any h n w
  · refine Lib.hid fun w => ?_
    have h1 := ssum_any ((h + n) % 18446744073709551616) 0 w
    rw [Bm.sumH_flat] at h1
    exact h1
end Go.Proofs.Ytafdpbehdgidpaa
