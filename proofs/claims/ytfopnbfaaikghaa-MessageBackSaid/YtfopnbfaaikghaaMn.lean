/-
  The reference of layer 25 (message): Body, by its walk. Condition: the message may be.
-/
import Derived.Test.YtfopnbfaaikghaaMm
import Derived.Deep.DeepCutAuto
namespace Go.Proofs.Ytfopnbfaaikghaa
open Go.RowKit

theorem body_12 (m : Msg) (h : m.kind = 1 ∨ m.kind = 2) : bytesM m = Bm.grp m.next.toNat ++ Bm.grp m.epoch.toNat := by
  obtain ⟨k, n, e, z, s, d⟩ := m
  rcases h with rfl | rfl <;> simp [bytesM, bodyK, Bdy.bytes, putS, sumS, dataS, Sp.there, spN, spE0, zsp]
theorem body_3 (m : Msg) (h : m.kind = 3) : bytesM m = Bm.grp m.epoch.toNat ++ (Bm.grp m.data.length ++ m.data) := by
  obtain ⟨k, n, e, z, s, d⟩ := m
  subst h; simp [bytesM, bodyK, Bdy.bytes, putS, sumS, dataS, Sp.there, spE, zsp]
theorem body_45 (m : Msg) (h : m.kind = 4 ∨ m.kind = 5) : bytesM m = Bm.grp m.epoch.toNat := by
  obtain ⟨k, n, e, z, s, d⟩ := m
  rcases h with rfl | rfl <;> simp [bytesM, bodyK, Bdy.bytes, putS, sumS, dataS, Sp.there, spE, zsp]
theorem body_6 (m : Msg) (h : m.kind = 6) : bytesM m = Bm.grp m.next.toNat ++ (Bm.grp m.data.length ++ m.data) := by
  obtain ⟨k, n, e, z, s, d⟩ := m
  subst h; simp [bytesM, bodyK, Bdy.bytes, putS, sumS, dataS, Sp.there, spN, zsp]
theorem body_7 (m : Msg) (h : m.kind = 7) : bytesM m = Bm.grp m.next.toNat := by
  obtain ⟨k, n, e, z, s, d⟩ := m
  subst h; simp [bytesM, bodyK, Bdy.bytes, putS, sumS, dataS, Sp.there, spN, zsp]
theorem body_8 (m : Msg) (h : m.kind = 8) : bytesM m = Bm.grp m.next.toNat ++ Bm.grp m.size.toNat ++ Bm.bytesOf m.sum 8 := by
  obtain ⟨k, n, e, z, s, d⟩ := m
  subst h; simp [bytesM, bodyK, Bdy.bytes, putS, sumS, dataS, Sp.there, spN, spS, zsp]
theorem body_9 (m : Msg) (h : m.kind = 9) : bytesM m = Bm.grp m.size.toNat ++ (Bm.grp m.data.length ++ m.data) := by
  obtain ⟨k, n, e, z, s, d⟩ := m
  subst h; simp [bytesM, bodyK, Bdy.bytes, putS, sumS, dataS, Sp.there, spS, zsp]
theorem body_10 (m : Msg) (h : m.kind = 10) : bytesM m = [] := by
  obtain ⟨k, n, e, z, s, d⟩ := m
  subst h; simp [bytesM, bodyK, Bdy.bytes, putS, sumS, dataS, Sp.there, zbd, zsp]
/-- The one field after the other of a message in memory goes on. -/
theorem far_below {W W2 : World} (g : Below W.drew.heap.size W.drew W2) : Below W.heap.size W W2 := ⟨g.os, g.tape, g.output, g.size, g.block⟩
set_option linter.unusedVariables false in
set_option linter.unusedSimpArgs false in
set_option maxHeartbeats 1000000 in
set_option maxRecDepth 100000 in
theorem rmbody_12 (m : Msg) (w : World) (hk : m.kind = 1 ∨ m.kind = 2) (hm : m.Ok) (hn : 0 ≤ m.next ∧ m.next ≤ 1073741824) (he : 0 ≤ m.epoch ∧ m.epoch ≤ 1073741824) (hz : 0 ≤ m.size ∧ m.size ≤ 1073741824) (hd : m.data.length ≤ 600) :
    Calls Try.prog 11 #[msV m] w fun e w' => e = .returned (.string (strOf (bytesM m))) ∧ Below w.heap.size w w' := by
  rw [body_12 m hk]
  have Hn := Lib.hid (fun W => rmgroup_any m.next W hn.1 hn.2)
  have He := Lib.hid (fun W => rmgroup_any m.epoch W he.1 he.2)
  have ln := Bm.grp_ten m.next.toNat (by omega)
  have le := Bm.grp_ten m.epoch.toNat (by omega)
  have ha0 := fun W => str_add (Bm.grp m.next.toNat) (Bm.grp m.epoch.toNat) (by (try simp only [List.length_append, Bm.bytesOf_length]); omega) W
  clear ln
  clear le
  have hm0 : Row (w.alloc (.cells (msL m).toArray 24)) w.heap.size 24 (msL m) := Row.new w _ _
  have hb0 : Below w.heap.size w (w.alloc (.cells (msL m).toArray 24)) := (Below.refl _ _).alloc (Nat.le_refl _) _
  obtain ⟨W0, hW0⟩ : ∃ W0, W0 = w.alloc (.cells (msL m).toArray 24) := ⟨_, rfl⟩
  rw [← hW0] at hm0 hb0
  have Hm0 := Lib.hid hm0
  have Hb0 := Lib.hid hb0
  clear hm0 hb0 hm hn he hz hd
  unfold msV at *
  dsimp only [msL] at hW0 ⊢
  obtain ⟨k, hkk⟩ : ∃ k, k = m.kind := ⟨_, rfl⟩
  rw [← hkk] at hW0 hk ⊢
  have Hkk := Lib.hid hkk
  clear hkk
  rcases hk with rfl | rfl
  all_goals
    go_enter Try.func11, Try.ntmps11
    go_upto_region 4 with fail
    rw [← hW0]
    clear hW0
    refine wp_region_held_drew (S := (fun W : World => W.cell? ⟨w.heap.size, 1, none⟩ = some (.int .i64 m.next) ∧ W.cell? ⟨w.heap.size, 2, none⟩ = some (.int .i64 m.epoch))) (by kernel_rfl) (by exact ⟨Hm0.out.cell 1, Hm0.out.cell 2⟩) (fun hHeld => ?_)
    refine wpAnyH_take (i := 0) (oi := { dst := some 8, op := Go.Op.fieldAddr 24 (Go.Operand.tmp 1) 1, type := 0, pos := "ref.go:47", after := #[], guard := none }) (v := ?_) rfl (by kernel_rfl) (by kernel_rfl) (by kernel_rfl) (fun _ _ _ h => h) (Or.inl ⟨by rfl, ?_⟩) (by assumption) ?_
    rotate_left
    · (intro w hSw; (try dsimp only at hSw); go_simp; (try with_reducible rfl))
    try simp only [Act.put, List.setIfInBounds_toArray, List.set_cons_zero, List.set_cons_succ]
    refine wpAnyH_take (i := 1) (oi := { dst := some 9, op := Go.Op.load 3 (Go.Operand.tmp 8), type := 3, pos := "ref.go:47", after := #[{ on := 0, ground := Go.Ground.data }], guard := none }) (v := ?_) rfl (by kernel_rfl) (by kernel_rfl) (by kernel_rfl) (fun _ _ _ h => h) (Or.inl ⟨by rfl, ?_⟩) (by assumption) ?_
    rotate_left
    · (intro w hSw; (try dsimp only at hSw); go_simp; (try with_reducible rfl))
    try simp only [Act.put, List.setIfInBounds_toArray, List.set_cons_zero, List.set_cons_succ]
    refine wpAnyH_take (i := 3) (oi := { dst := some 11, op := Go.Op.fieldAddr 24 (Go.Operand.tmp 1) 2, type := 0, pos := "ref.go:47", after := #[], guard := none }) (v := ?_) rfl (by kernel_rfl) (by kernel_rfl) (by kernel_rfl) (fun _ _ _ h => h) (Or.inl ⟨by rfl, ?_⟩) (by assumption) ?_
    rotate_left
    · (intro w hSw; (try dsimp only at hSw); go_simp; (try with_reducible rfl))
    try simp only [Act.put, List.setIfInBounds_toArray, List.set_cons_zero, List.set_cons_succ]
    refine wpAnyH_take (i := 4) (oi := { dst := some 12, op := Go.Op.load 3 (Go.Operand.tmp 11), type := 3, pos := "ref.go:47", after := #[{ on := 3, ground := Go.Ground.data }], guard := none }) (v := ?_) rfl (by kernel_rfl) (by kernel_rfl) (by kernel_rfl) (fun _ _ _ h => h) (Or.inl ⟨by rfl, ?_⟩) (by assumption) ?_
    rotate_left
    · (intro w hSw; (try dsimp only at hSw); go_simp; (try with_reducible rfl))
    try simp only [Act.put, List.setIfInBounds_toArray, List.set_cons_zero, List.set_cons_succ]
    refine wpAnyH_ready (rs := [2]) (by kernel_rfl) (by simp) ?_
    refine AllReadyH.cons (o := { dst := some 10, op := Go.Op.call { callee := Go.Callee.value (Go.Operand.func 23), args := #[Go.Operand.tmp 9], argTypes := #[3] }, type := 9, pos := "ref.go:47", after := #[{ on := 1, ground := Go.Ground.data }], guard := none }) rfl (fun K hK => ?_) AllReadyH.nil
    go_simp
    (go_at_call 23; refine (Hn.out _).mono ?_; rintro e w1 ⟨rfl, g1⟩; have Hm1 := Lib.hid (kept Hm0.out (far_below g1)); have Hb1 := Lib.hid (Hb0.out.trans ((far_below g1).mono Hb0.out.size)); clear g1)
    go_simp
    refine hK.out _ _ (by exact ⟨Hm1.out.cell 1, Hm1.out.cell 2⟩) (fun hHeld => ?_)
    clear hK K
    try simp only [Act.put, List.setIfInBounds_toArray, List.set_cons_zero, List.set_cons_succ]
    refine wpAnyH_ready (rs := [5]) (by kernel_rfl) (by simp) ?_
    refine AllReadyH.cons (o := { dst := some 13, op := Go.Op.call { callee := Go.Callee.value (Go.Operand.func 23), args := #[Go.Operand.tmp 12], argTypes := #[3] }, type := 9, pos := "ref.go:47", after := #[{ on := 4, ground := Go.Ground.data }, { on := 2, ground := Go.Ground.chain }], guard := none }) rfl (fun K hK => ?_) AllReadyH.nil
    go_simp
    (go_at_call 23; refine (He.out _).mono ?_; rintro e w2 ⟨rfl, g2⟩; have Hm2 := Lib.hid (kept Hm1.out g2); have Hb2 := Lib.hid (Hb1.out.trans (g2.mono Hb1.out.size)); clear g2)
    go_simp
    refine hK.out _ _ (by exact ⟨Hm2.out.cell 1, Hm2.out.cell 2⟩) (fun hHeld => ?_)
    clear hK K
    try simp only [Act.put, List.setIfInBounds_toArray, List.set_cons_zero, List.set_cons_succ]
    refine wpAnyH_take (i := 6) (oi := { dst := some 14, op := Go.Op.binOp Go.BinOp.add 9 (Go.Operand.tmp 10) (Go.Operand.tmp 13) 9, type := 9, pos := "ref.go:47", after := #[{ on := 2, ground := Go.Ground.data }, { on := 5, ground := Go.Ground.data }], guard := none }) (v := ?_) rfl (by kernel_rfl) (by kernel_rfl) (by kernel_rfl) (fun _ _ _ h => h) (Or.inl ⟨by rfl, ?_⟩) (by assumption) ?_
    rotate_left
    · (intro w hSw; (try dsimp only at hSw); go_simp; (try with_reducible rfl))
    try simp only [Act.put, List.setIfInBounds_toArray, List.set_cons_zero, List.set_cons_succ]
    refine wpAnyH_take (i := 7) (oi := { dst := some 2, op := Go.Op.assign (Go.Operand.tmp 14), type := 9, pos := "ref.go:47", after := #[{ on := 6, ground := Go.Ground.data }, { on := 5, ground := Go.Ground.chain }, { on := 0, ground := Go.Ground.phase }, { on := 1, ground := Go.Ground.phase }, { on := 2, ground := Go.Ground.phase }, { on := 3, ground := Go.Ground.phase }, { on := 4, ground := Go.Ground.phase }, { on := 5, ground := Go.Ground.phase }, { on := 6, ground := Go.Ground.phase }], guard := none }) (v := ?_) rfl (by kernel_rfl) (by kernel_rfl) (by kernel_rfl) (fun _ _ _ h => h) (Or.inl ⟨by rfl, ?_⟩) (by assumption) ?_
    rotate_left
    · (intro w hSw; (try dsimp only at hSw); go_simp; (try with_reducible rfl))
    try simp only [Act.put, List.setIfInBounds_toArray, List.set_cons_zero, List.set_cons_succ]
    refine wpAnyH_done (by kernel_rfl) ?_ _
    clear hHeld
    go_wp2
    go_ret
    exact ⟨rfl, Hb2.out⟩
set_option linter.unusedVariables false in
set_option linter.unusedSimpArgs false in
set_option maxHeartbeats 1000000 in
set_option maxRecDepth 100000 in
theorem rmbody_3 (m : Msg) (w : World) (hk : m.kind = 3) (hm : m.Ok) (hn : 0 ≤ m.next ∧ m.next ≤ 1073741824) (he : 0 ≤ m.epoch ∧ m.epoch ≤ 1073741824) (hz : 0 ≤ m.size ∧ m.size ≤ 1073741824) (hd : m.data.length ≤ 600) :
    Calls Try.prog 11 #[msV m] w fun e w' => e = .returned (.string (strOf (bytesM m))) ∧ Below w.heap.size w w' := by
  rw [body_3 m hk]
  have He := Lib.hid (fun W => rmgroup_any m.epoch W he.1 he.2)
  have Hd := Lib.hid (fun W => ftext_any m.data W (by omega))
  have le := Bm.grp_ten m.epoch.toNat (by omega)
  have ld := Bm.grp_ten m.data.length (by omega)
  have ha0 := fun W => str_add (Bm.grp m.epoch.toNat) ((Bm.grp m.data.length ++ m.data)) (by (try simp only [List.length_append, Bm.bytesOf_length]); omega) W
  clear le
  clear ld
  have hm0 : Row (w.alloc (.cells (msL m).toArray 24)) w.heap.size 24 (msL m) := Row.new w _ _
  have hb0 : Below w.heap.size w (w.alloc (.cells (msL m).toArray 24)) := (Below.refl _ _).alloc (Nat.le_refl _) _
  obtain ⟨W0, hW0⟩ : ∃ W0, W0 = w.alloc (.cells (msL m).toArray 24) := ⟨_, rfl⟩
  rw [← hW0] at hm0 hb0
  have Hm0 := Lib.hid hm0
  have Hb0 := Lib.hid hb0
  clear hm0 hb0 hm hn he hz hd
  unfold msV at *
  dsimp only [msL] at hW0 ⊢
  obtain ⟨k, hkk⟩ : ∃ k, k = m.kind := ⟨_, rfl⟩
  rw [← hkk] at hW0 hk ⊢
  have Hkk := Lib.hid hkk
  clear hkk
  subst hk
  go_enter Try.func11, Try.ntmps11
  go_upto_region 6 with fail
  rw [← hW0]
  clear hW0
  refine wp_region_held_drew (S := (fun W : World => W.cell? ⟨w.heap.size, 2, none⟩ = some (.int .i64 m.epoch) ∧ W.cell? ⟨w.heap.size, 5, none⟩ = some (.string (strOf m.data)))) (by kernel_rfl) (by exact ⟨Hm0.out.cell 2, Hm0.out.cell 5⟩) (fun hHeld => ?_)
  refine wpAnyH_take (i := 0) (oi := { dst := some 17, op := Go.Op.fieldAddr 24 (Go.Operand.tmp 1) 2, type := 0, pos := "ref.go:49", after := #[], guard := none }) (v := ?_) rfl (by kernel_rfl) (by kernel_rfl) (by kernel_rfl) (fun _ _ _ h => h) (Or.inl ⟨by rfl, ?_⟩) (by assumption) ?_
  rotate_left
  · (intro w hSw; (try dsimp only at hSw); go_simp; (try with_reducible rfl))
  try simp only [Act.put, List.setIfInBounds_toArray, List.set_cons_zero, List.set_cons_succ]
  refine wpAnyH_take (i := 1) (oi := { dst := some 18, op := Go.Op.load 3 (Go.Operand.tmp 17), type := 3, pos := "ref.go:49", after := #[{ on := 0, ground := Go.Ground.data }], guard := none }) (v := ?_) rfl (by kernel_rfl) (by kernel_rfl) (by kernel_rfl) (fun _ _ _ h => h) (Or.inl ⟨by rfl, ?_⟩) (by assumption) ?_
  rotate_left
  · (intro w hSw; (try dsimp only at hSw); go_simp; (try with_reducible rfl))
  try simp only [Act.put, List.setIfInBounds_toArray, List.set_cons_zero, List.set_cons_succ]
  refine wpAnyH_take (i := 3) (oi := { dst := some 20, op := Go.Op.fieldAddr 24 (Go.Operand.tmp 1) 5, type := 0, pos := "ref.go:49", after := #[], guard := none }) (v := ?_) rfl (by kernel_rfl) (by kernel_rfl) (by kernel_rfl) (fun _ _ _ h => h) (Or.inl ⟨by rfl, ?_⟩) (by assumption) ?_
  rotate_left
  · (intro w hSw; (try dsimp only at hSw); go_simp; (try with_reducible rfl))
  try simp only [Act.put, List.setIfInBounds_toArray, List.set_cons_zero, List.set_cons_succ]
  refine wpAnyH_take (i := 4) (oi := { dst := some 21, op := Go.Op.load 9 (Go.Operand.tmp 20), type := 9, pos := "ref.go:49", after := #[{ on := 3, ground := Go.Ground.data }], guard := none }) (v := ?_) rfl (by kernel_rfl) (by kernel_rfl) (by kernel_rfl) (fun _ _ _ h => h) (Or.inl ⟨by rfl, ?_⟩) (by assumption) ?_
  rotate_left
  · (intro w hSw; (try dsimp only at hSw); go_simp; (try with_reducible rfl))
  try simp only [Act.put, List.setIfInBounds_toArray, List.set_cons_zero, List.set_cons_succ]
  refine wpAnyH_ready (rs := [2]) (by kernel_rfl) (by simp) ?_
  refine AllReadyH.cons (o := { dst := some 19, op := Go.Op.call { callee := Go.Callee.value (Go.Operand.func 23), args := #[Go.Operand.tmp 18], argTypes := #[3] }, type := 9, pos := "ref.go:49", after := #[{ on := 1, ground := Go.Ground.data }], guard := none }) rfl (fun K hK => ?_) AllReadyH.nil
  go_simp
  (go_at_call 23; refine (He.out _).mono ?_; rintro e w1 ⟨rfl, g1⟩; have Hm1 := Lib.hid (kept Hm0.out (far_below g1)); have Hb1 := Lib.hid (Hb0.out.trans ((far_below g1).mono Hb0.out.size)); clear g1)
  go_simp
  refine hK.out _ _ (by exact ⟨Hm1.out.cell 2, Hm1.out.cell 5⟩) (fun hHeld => ?_)
  clear hK K
  try simp only [Act.put, List.setIfInBounds_toArray, List.set_cons_zero, List.set_cons_succ]
  refine wpAnyH_ready (rs := [5]) (by kernel_rfl) (by simp) ?_
  refine AllReadyH.cons (o := { dst := some 22, op := Go.Op.call { callee := Go.Callee.value (Go.Operand.func 24), args := #[Go.Operand.tmp 21], argTypes := #[9] }, type := 9, pos := "ref.go:49", after := #[{ on := 4, ground := Go.Ground.data }, { on := 2, ground := Go.Ground.chain }], guard := none }) rfl (fun K hK => ?_) AllReadyH.nil
  go_simp
  (go_at_call 24; refine (Hd.out _).mono ?_; rintro e w2 ⟨rfl, g2⟩; have Hm2 := Lib.hid (kept Hm1.out g2); have Hb2 := Lib.hid (Hb1.out.trans (g2.mono Hb1.out.size)); clear g2)
  go_simp
  refine hK.out _ _ (by exact ⟨Hm2.out.cell 2, Hm2.out.cell 5⟩) (fun hHeld => ?_)
  clear hK K
  try simp only [Act.put, List.setIfInBounds_toArray, List.set_cons_zero, List.set_cons_succ]
  refine wpAnyH_take (i := 6) (oi := { dst := some 23, op := Go.Op.binOp Go.BinOp.add 9 (Go.Operand.tmp 19) (Go.Operand.tmp 22) 9, type := 9, pos := "ref.go:49", after := #[{ on := 2, ground := Go.Ground.data }, { on := 5, ground := Go.Ground.data }], guard := none }) (v := ?_) rfl (by kernel_rfl) (by kernel_rfl) (by kernel_rfl) (fun _ _ _ h => h) (Or.inl ⟨by rfl, ?_⟩) (by assumption) ?_
  rotate_left
  · (intro w hSw; (try dsimp only at hSw); go_simp; (try with_reducible rfl))
  try simp only [Act.put, List.setIfInBounds_toArray, List.set_cons_zero, List.set_cons_succ]
  refine wpAnyH_take (i := 7) (oi := { dst := some 2, op := Go.Op.assign (Go.Operand.tmp 23), type := 9, pos := "ref.go:49", after := #[{ on := 6, ground := Go.Ground.data }, { on := 5, ground := Go.Ground.chain }, { on := 0, ground := Go.Ground.phase }, { on := 1, ground := Go.Ground.phase }, { on := 2, ground := Go.Ground.phase }, { on := 3, ground := Go.Ground.phase }, { on := 4, ground := Go.Ground.phase }, { on := 5, ground := Go.Ground.phase }, { on := 6, ground := Go.Ground.phase }], guard := none }) (v := ?_) rfl (by kernel_rfl) (by kernel_rfl) (by kernel_rfl) (fun _ _ _ h => h) (Or.inl ⟨by rfl, ?_⟩) (by assumption) ?_
  rotate_left
  · (intro w hSw; (try dsimp only at hSw); go_simp; (try with_reducible rfl))
  try simp only [Act.put, List.setIfInBounds_toArray, List.set_cons_zero, List.set_cons_succ]
  refine wpAnyH_done (by kernel_rfl) ?_ _
  clear hHeld
  go_wp2
  go_ret
  exact ⟨rfl, Hb2.out⟩
set_option linter.unusedVariables false in
set_option linter.unusedSimpArgs false in
set_option maxHeartbeats 1000000 in
set_option maxRecDepth 100000 in
theorem rmbody_45 (m : Msg) (w : World) (hk : m.kind = 4 ∨ m.kind = 5) (hm : m.Ok) (hn : 0 ≤ m.next ∧ m.next ≤ 1073741824) (he : 0 ≤ m.epoch ∧ m.epoch ≤ 1073741824) (hz : 0 ≤ m.size ∧ m.size ≤ 1073741824) (hd : m.data.length ≤ 600) :
    Calls Try.prog 11 #[msV m] w fun e w' => e = .returned (.string (strOf (bytesM m))) ∧ Below w.heap.size w w' := by
  rw [body_45 m hk]
  have He := Lib.hid (fun W => rmgroup_any m.epoch W he.1 he.2)
  have hm0 : Row (w.alloc (.cells (msL m).toArray 24)) w.heap.size 24 (msL m) := Row.new w _ _
  have hb0 : Below w.heap.size w (w.alloc (.cells (msL m).toArray 24)) := (Below.refl _ _).alloc (Nat.le_refl _) _
  obtain ⟨W0, hW0⟩ : ∃ W0, W0 = w.alloc (.cells (msL m).toArray 24) := ⟨_, rfl⟩
  rw [← hW0] at hm0 hb0
  have Hm0 := Lib.hid hm0
  have Hb0 := Lib.hid hb0
  clear hm0 hb0 hm hn he hz hd
  unfold msV at *
  dsimp only [msL] at hW0 ⊢
  obtain ⟨k, hkk⟩ : ∃ k, k = m.kind := ⟨_, rfl⟩
  rw [← hkk] at hW0 hk ⊢
  have Hkk := Lib.hid hkk
  clear hkk
  rcases hk with rfl | rfl
  all_goals
    go_enter Try.func11, Try.ntmps11
    go_upto_region 9 with fail
    rw [← hW0]
    clear hW0
    obtain ⟨c0, c1, c2, c3, c4, c5⟩ := MsRow.cells Hm0.out
    go_wp2_with fail
    refine (He.out _).mono ?_
    rintro e w1 ⟨rfl, g1⟩
    go_wp2
    go_ret
    exact ⟨rfl, Hb0.out.trans (g1.mono Hb0.out.size)⟩
set_option linter.unusedVariables false in
set_option linter.unusedSimpArgs false in
set_option maxHeartbeats 1000000 in
set_option maxRecDepth 100000 in
theorem rmbody_6 (m : Msg) (w : World) (hk : m.kind = 6) (hm : m.Ok) (hn : 0 ≤ m.next ∧ m.next ≤ 1073741824) (he : 0 ≤ m.epoch ∧ m.epoch ≤ 1073741824) (hz : 0 ≤ m.size ∧ m.size ≤ 1073741824) (hd : m.data.length ≤ 600) :
    Calls Try.prog 11 #[msV m] w fun e w' => e = .returned (.string (strOf (bytesM m))) ∧ Below w.heap.size w w' := by
  rw [body_6 m hk]
  have Hn := Lib.hid (fun W => rmgroup_any m.next W hn.1 hn.2)
  have Hd := Lib.hid (fun W => ftext_any m.data W (by omega))
  have ln := Bm.grp_ten m.next.toNat (by omega)
  have ld := Bm.grp_ten m.data.length (by omega)
  have ha0 := fun W => str_add (Bm.grp m.next.toNat) ((Bm.grp m.data.length ++ m.data)) (by (try simp only [List.length_append, Bm.bytesOf_length]); omega) W
  clear ln
  clear ld
  have hm0 : Row (w.alloc (.cells (msL m).toArray 24)) w.heap.size 24 (msL m) := Row.new w _ _
  have hb0 : Below w.heap.size w (w.alloc (.cells (msL m).toArray 24)) := (Below.refl _ _).alloc (Nat.le_refl _) _
  obtain ⟨W0, hW0⟩ : ∃ W0, W0 = w.alloc (.cells (msL m).toArray 24) := ⟨_, rfl⟩
  rw [← hW0] at hm0 hb0
  have Hm0 := Lib.hid hm0
  have Hb0 := Lib.hid hb0
  clear hm0 hb0 hm hn he hz hd
  unfold msV at *
  dsimp only [msL] at hW0 ⊢
  obtain ⟨k, hkk⟩ : ∃ k, k = m.kind := ⟨_, rfl⟩
  rw [← hkk] at hW0 hk ⊢
  have Hkk := Lib.hid hkk
  clear hkk
  subst hk
  go_enter Try.func11, Try.ntmps11
  go_upto_region 11 with fail
  rw [← hW0]
  clear hW0
  refine wp_region_held_drew (S := (fun W : World => W.cell? ⟨w.heap.size, 1, none⟩ = some (.int .i64 m.next) ∧ W.cell? ⟨w.heap.size, 5, none⟩ = some (.string (strOf m.data)))) (by kernel_rfl) (by exact ⟨Hm0.out.cell 1, Hm0.out.cell 5⟩) (fun hHeld => ?_)
  refine wpAnyH_take (i := 0) (oi := { dst := some 32, op := Go.Op.fieldAddr 24 (Go.Operand.tmp 1) 1, type := 0, pos := "ref.go:53", after := #[], guard := none }) (v := ?_) rfl (by kernel_rfl) (by kernel_rfl) (by kernel_rfl) (fun _ _ _ h => h) (Or.inl ⟨by rfl, ?_⟩) (by assumption) ?_
  rotate_left
  · (intro w hSw; (try dsimp only at hSw); go_simp; (try with_reducible rfl))
  try simp only [Act.put, List.setIfInBounds_toArray, List.set_cons_zero, List.set_cons_succ]
  refine wpAnyH_take (i := 1) (oi := { dst := some 33, op := Go.Op.load 3 (Go.Operand.tmp 32), type := 3, pos := "ref.go:53", after := #[{ on := 0, ground := Go.Ground.data }], guard := none }) (v := ?_) rfl (by kernel_rfl) (by kernel_rfl) (by kernel_rfl) (fun _ _ _ h => h) (Or.inl ⟨by rfl, ?_⟩) (by assumption) ?_
  rotate_left
  · (intro w hSw; (try dsimp only at hSw); go_simp; (try with_reducible rfl))
  try simp only [Act.put, List.setIfInBounds_toArray, List.set_cons_zero, List.set_cons_succ]
  refine wpAnyH_take (i := 3) (oi := { dst := some 35, op := Go.Op.fieldAddr 24 (Go.Operand.tmp 1) 5, type := 0, pos := "ref.go:53", after := #[], guard := none }) (v := ?_) rfl (by kernel_rfl) (by kernel_rfl) (by kernel_rfl) (fun _ _ _ h => h) (Or.inl ⟨by rfl, ?_⟩) (by assumption) ?_
  rotate_left
  · (intro w hSw; (try dsimp only at hSw); go_simp; (try with_reducible rfl))
  try simp only [Act.put, List.setIfInBounds_toArray, List.set_cons_zero, List.set_cons_succ]
  refine wpAnyH_take (i := 4) (oi := { dst := some 36, op := Go.Op.load 9 (Go.Operand.tmp 35), type := 9, pos := "ref.go:53", after := #[{ on := 3, ground := Go.Ground.data }], guard := none }) (v := ?_) rfl (by kernel_rfl) (by kernel_rfl) (by kernel_rfl) (fun _ _ _ h => h) (Or.inl ⟨by rfl, ?_⟩) (by assumption) ?_
  rotate_left
  · (intro w hSw; (try dsimp only at hSw); go_simp; (try with_reducible rfl))
  try simp only [Act.put, List.setIfInBounds_toArray, List.set_cons_zero, List.set_cons_succ]
  refine wpAnyH_ready (rs := [2]) (by kernel_rfl) (by simp) ?_
  refine AllReadyH.cons (o := { dst := some 34, op := Go.Op.call { callee := Go.Callee.value (Go.Operand.func 23), args := #[Go.Operand.tmp 33], argTypes := #[3] }, type := 9, pos := "ref.go:53", after := #[{ on := 1, ground := Go.Ground.data }], guard := none }) rfl (fun K hK => ?_) AllReadyH.nil
  go_simp
  (go_at_call 23; refine (Hn.out _).mono ?_; rintro e w1 ⟨rfl, g1⟩; have Hm1 := Lib.hid (kept Hm0.out (far_below g1)); have Hb1 := Lib.hid (Hb0.out.trans ((far_below g1).mono Hb0.out.size)); clear g1)
  go_simp
  refine hK.out _ _ (by exact ⟨Hm1.out.cell 1, Hm1.out.cell 5⟩) (fun hHeld => ?_)
  clear hK K
  try simp only [Act.put, List.setIfInBounds_toArray, List.set_cons_zero, List.set_cons_succ]
  refine wpAnyH_ready (rs := [5]) (by kernel_rfl) (by simp) ?_
  refine AllReadyH.cons (o := { dst := some 37, op := Go.Op.call { callee := Go.Callee.value (Go.Operand.func 24), args := #[Go.Operand.tmp 36], argTypes := #[9] }, type := 9, pos := "ref.go:53", after := #[{ on := 4, ground := Go.Ground.data }, { on := 2, ground := Go.Ground.chain }], guard := none }) rfl (fun K hK => ?_) AllReadyH.nil
  go_simp
  (go_at_call 24; refine (Hd.out _).mono ?_; rintro e w2 ⟨rfl, g2⟩; have Hm2 := Lib.hid (kept Hm1.out g2); have Hb2 := Lib.hid (Hb1.out.trans (g2.mono Hb1.out.size)); clear g2)
  go_simp
  refine hK.out _ _ (by exact ⟨Hm2.out.cell 1, Hm2.out.cell 5⟩) (fun hHeld => ?_)
  clear hK K
  try simp only [Act.put, List.setIfInBounds_toArray, List.set_cons_zero, List.set_cons_succ]
  refine wpAnyH_take (i := 6) (oi := { dst := some 38, op := Go.Op.binOp Go.BinOp.add 9 (Go.Operand.tmp 34) (Go.Operand.tmp 37) 9, type := 9, pos := "ref.go:53", after := #[{ on := 2, ground := Go.Ground.data }, { on := 5, ground := Go.Ground.data }], guard := none }) (v := ?_) rfl (by kernel_rfl) (by kernel_rfl) (by kernel_rfl) (fun _ _ _ h => h) (Or.inl ⟨by rfl, ?_⟩) (by assumption) ?_
  rotate_left
  · (intro w hSw; (try dsimp only at hSw); go_simp; (try with_reducible rfl))
  try simp only [Act.put, List.setIfInBounds_toArray, List.set_cons_zero, List.set_cons_succ]
  refine wpAnyH_take (i := 7) (oi := { dst := some 2, op := Go.Op.assign (Go.Operand.tmp 38), type := 9, pos := "ref.go:53", after := #[{ on := 6, ground := Go.Ground.data }, { on := 5, ground := Go.Ground.chain }, { on := 0, ground := Go.Ground.phase }, { on := 1, ground := Go.Ground.phase }, { on := 2, ground := Go.Ground.phase }, { on := 3, ground := Go.Ground.phase }, { on := 4, ground := Go.Ground.phase }, { on := 5, ground := Go.Ground.phase }, { on := 6, ground := Go.Ground.phase }], guard := none }) (v := ?_) rfl (by kernel_rfl) (by kernel_rfl) (by kernel_rfl) (fun _ _ _ h => h) (Or.inl ⟨by rfl, ?_⟩) (by assumption) ?_
  rotate_left
  · (intro w hSw; (try dsimp only at hSw); go_simp; (try with_reducible rfl))
  try simp only [Act.put, List.setIfInBounds_toArray, List.set_cons_zero, List.set_cons_succ]
  refine wpAnyH_done (by kernel_rfl) ?_ _
  clear hHeld
  go_wp2
  go_ret
  exact ⟨rfl, Hb2.out⟩
set_option linter.unusedVariables false in
set_option linter.unusedSimpArgs false in
set_option maxHeartbeats 1000000 in
set_option maxRecDepth 100000 in
theorem rmbody_7 (m : Msg) (w : World) (hk : m.kind = 7) (hm : m.Ok) (hn : 0 ≤ m.next ∧ m.next ≤ 1073741824) (he : 0 ≤ m.epoch ∧ m.epoch ≤ 1073741824) (hz : 0 ≤ m.size ∧ m.size ≤ 1073741824) (hd : m.data.length ≤ 600) :
    Calls Try.prog 11 #[msV m] w fun e w' => e = .returned (.string (strOf (bytesM m))) ∧ Below w.heap.size w w' := by
  rw [body_7 m hk]
  have Hn := Lib.hid (fun W => rmgroup_any m.next W hn.1 hn.2)
  have hm0 : Row (w.alloc (.cells (msL m).toArray 24)) w.heap.size 24 (msL m) := Row.new w _ _
  have hb0 : Below w.heap.size w (w.alloc (.cells (msL m).toArray 24)) := (Below.refl _ _).alloc (Nat.le_refl _) _
  obtain ⟨W0, hW0⟩ : ∃ W0, W0 = w.alloc (.cells (msL m).toArray 24) := ⟨_, rfl⟩
  rw [← hW0] at hm0 hb0
  have Hm0 := Lib.hid hm0
  have Hb0 := Lib.hid hb0
  clear hm0 hb0 hm hn he hz hd
  unfold msV at *
  dsimp only [msL] at hW0 ⊢
  obtain ⟨k, hkk⟩ : ∃ k, k = m.kind := ⟨_, rfl⟩
  rw [← hkk] at hW0 hk ⊢
  have Hkk := Lib.hid hkk
  clear hkk
  subst hk
  go_enter Try.func11, Try.ntmps11
  go_upto_region 13 with fail
  rw [← hW0]
  clear hW0
  obtain ⟨c0, c1, c2, c3, c4, c5⟩ := MsRow.cells Hm0.out
  go_wp2_with fail
  refine (Hn.out _).mono ?_
  rintro e w1 ⟨rfl, g1⟩
  go_wp2
  go_ret
  exact ⟨rfl, Hb0.out.trans (g1.mono Hb0.out.size)⟩
set_option linter.unusedVariables false in
set_option linter.unusedSimpArgs false in
set_option maxHeartbeats 1000000 in
set_option maxRecDepth 100000 in
theorem rmbody_8 (m : Msg) (w : World) (hk : m.kind = 8) (hm : m.Ok) (hn : 0 ≤ m.next ∧ m.next ≤ 1073741824) (he : 0 ≤ m.epoch ∧ m.epoch ≤ 1073741824) (hz : 0 ≤ m.size ∧ m.size ≤ 1073741824) (hd : m.data.length ≤ 600) :
    Calls Try.prog 11 #[msV m] w fun e w' => e = .returned (.string (strOf (bytesM m))) ∧ Below w.heap.size w w' := by
  rw [body_8 m hk]
  have Hn := Lib.hid (fun W => rmgroup_any m.next W hn.1 hn.2)
  have Hz := Lib.hid (fun W => rmgroup_any m.size W hz.1 hz.2)
  have Hs := Lib.hid (fun W => ffixed_any m.sum 8 W hm.1)
  rw [show fx 8 = 8 from rfl] at Hs
  have ln := Bm.grp_ten m.next.toNat (by omega)
  have lz := Bm.grp_ten m.size.toNat (by omega)
  have ha0 := fun W => str_add (Bm.grp m.next.toNat) (Bm.grp m.size.toNat) (by (try simp only [List.length_append, Bm.bytesOf_length]); omega) W
  have ha1 := fun W => str_add (Bm.grp m.next.toNat ++ Bm.grp m.size.toNat) (Bm.bytesOf m.sum 8) (by (try simp only [List.length_append, Bm.bytesOf_length]); omega) W
  clear ln
  clear lz
  skip
  have hm0 : Row (w.alloc (.cells (msL m).toArray 24)) w.heap.size 24 (msL m) := Row.new w _ _
  have hb0 : Below w.heap.size w (w.alloc (.cells (msL m).toArray 24)) := (Below.refl _ _).alloc (Nat.le_refl _) _
  obtain ⟨W0, hW0⟩ : ∃ W0, W0 = w.alloc (.cells (msL m).toArray 24) := ⟨_, rfl⟩
  rw [← hW0] at hm0 hb0
  have Hm0 := Lib.hid hm0
  have Hb0 := Lib.hid hb0
  clear hm0 hb0 hm hn he hz hd
  unfold msV at *
  dsimp only [msL] at hW0 ⊢
  obtain ⟨k, hkk⟩ : ∃ k, k = m.kind := ⟨_, rfl⟩
  rw [← hkk] at hW0 hk ⊢
  have Hkk := Lib.hid hkk
  clear hkk
  subst hk
  go_enter Try.func11, Try.ntmps11
  go_upto_region 15 with fail
  rw [← hW0]
  clear hW0
  refine wp_region_held_drew (S := (fun W : World => W.cell? ⟨w.heap.size, 1, none⟩ = some (.int .i64 m.next) ∧ W.cell? ⟨w.heap.size, 3, none⟩ = some (.int .i64 m.size) ∧ W.cell? ⟨w.heap.size, 4, none⟩ = some (.int .u64 (m.sum : Int)))) (by kernel_rfl) (by exact ⟨Hm0.out.cell 1, Hm0.out.cell 3, Hm0.out.cell 4⟩) (fun hHeld => ?_)
  refine wpAnyH_take (i := 0) (oi := { dst := some 46, op := Go.Op.fieldAddr 24 (Go.Operand.tmp 1) 1, type := 0, pos := "ref.go:57", after := #[], guard := none }) (v := ?_) rfl (by kernel_rfl) (by kernel_rfl) (by kernel_rfl) (fun _ _ _ h => h) (Or.inl ⟨by rfl, ?_⟩) (by assumption) ?_
  rotate_left
  · (intro w hSw; (try dsimp only at hSw); go_simp; (try with_reducible rfl))
  try simp only [Act.put, List.setIfInBounds_toArray, List.set_cons_zero, List.set_cons_succ]
  refine wpAnyH_take (i := 1) (oi := { dst := some 47, op := Go.Op.load 3 (Go.Operand.tmp 46), type := 3, pos := "ref.go:57", after := #[{ on := 0, ground := Go.Ground.data }], guard := none }) (v := ?_) rfl (by kernel_rfl) (by kernel_rfl) (by kernel_rfl) (fun _ _ _ h => h) (Or.inl ⟨by rfl, ?_⟩) (by assumption) ?_
  rotate_left
  · (intro w hSw; (try dsimp only at hSw); go_simp; (try with_reducible rfl))
  try simp only [Act.put, List.setIfInBounds_toArray, List.set_cons_zero, List.set_cons_succ]
  refine wpAnyH_take (i := 3) (oi := { dst := some 49, op := Go.Op.fieldAddr 24 (Go.Operand.tmp 1) 3, type := 0, pos := "ref.go:57", after := #[], guard := none }) (v := ?_) rfl (by kernel_rfl) (by kernel_rfl) (by kernel_rfl) (fun _ _ _ h => h) (Or.inl ⟨by rfl, ?_⟩) (by assumption) ?_
  rotate_left
  · (intro w hSw; (try dsimp only at hSw); go_simp; (try with_reducible rfl))
  try simp only [Act.put, List.setIfInBounds_toArray, List.set_cons_zero, List.set_cons_succ]
  refine wpAnyH_take (i := 4) (oi := { dst := some 50, op := Go.Op.load 3 (Go.Operand.tmp 49), type := 3, pos := "ref.go:57", after := #[{ on := 3, ground := Go.Ground.data }], guard := none }) (v := ?_) rfl (by kernel_rfl) (by kernel_rfl) (by kernel_rfl) (fun _ _ _ h => h) (Or.inl ⟨by rfl, ?_⟩) (by assumption) ?_
  rotate_left
  · (intro w hSw; (try dsimp only at hSw); go_simp; (try with_reducible rfl))
  try simp only [Act.put, List.setIfInBounds_toArray, List.set_cons_zero, List.set_cons_succ]
  refine wpAnyH_take (i := 7) (oi := { dst := some 53, op := Go.Op.fieldAddr 24 (Go.Operand.tmp 1) 4, type := 0, pos := "ref.go:57", after := #[], guard := none }) (v := ?_) rfl (by kernel_rfl) (by kernel_rfl) (by kernel_rfl) (fun _ _ _ h => h) (Or.inl ⟨by rfl, ?_⟩) (by assumption) ?_
  rotate_left
  · (intro w hSw; (try dsimp only at hSw); go_simp; (try with_reducible rfl))
  try simp only [Act.put, List.setIfInBounds_toArray, List.set_cons_zero, List.set_cons_succ]
  refine wpAnyH_take (i := 8) (oi := { dst := some 54, op := Go.Op.load 22 (Go.Operand.tmp 53), type := 22, pos := "ref.go:57", after := #[{ on := 7, ground := Go.Ground.data }], guard := none }) (v := ?_) rfl (by kernel_rfl) (by kernel_rfl) (by kernel_rfl) (fun _ _ _ h => h) (Or.inl ⟨by rfl, ?_⟩) (by assumption) ?_
  rotate_left
  · (intro w hSw; (try dsimp only at hSw); go_simp; (try with_reducible rfl))
  try simp only [Act.put, List.setIfInBounds_toArray, List.set_cons_zero, List.set_cons_succ]
  refine wpAnyH_ready (rs := [2]) (by kernel_rfl) (by simp) ?_
  refine AllReadyH.cons (o := { dst := some 48, op := Go.Op.call { callee := Go.Callee.value (Go.Operand.func 23), args := #[Go.Operand.tmp 47], argTypes := #[3] }, type := 9, pos := "ref.go:57", after := #[{ on := 1, ground := Go.Ground.data }], guard := none }) rfl (fun K hK => ?_) AllReadyH.nil
  go_simp
  (go_at_call 23; refine (Hn.out _).mono ?_; rintro e w1 ⟨rfl, g1⟩; have Hm1 := Lib.hid (kept Hm0.out (far_below g1)); have Hb1 := Lib.hid (Hb0.out.trans ((far_below g1).mono Hb0.out.size)); clear g1)
  go_simp
  refine hK.out _ _ (by exact ⟨Hm1.out.cell 1, Hm1.out.cell 3, Hm1.out.cell 4⟩) (fun hHeld => ?_)
  clear hK K
  try simp only [Act.put, List.setIfInBounds_toArray, List.set_cons_zero, List.set_cons_succ]
  refine wpAnyH_ready (rs := [5]) (by kernel_rfl) (by simp) ?_
  refine AllReadyH.cons (o := { dst := some 51, op := Go.Op.call { callee := Go.Callee.value (Go.Operand.func 23), args := #[Go.Operand.tmp 50], argTypes := #[3] }, type := 9, pos := "ref.go:57", after := #[{ on := 4, ground := Go.Ground.data }, { on := 2, ground := Go.Ground.chain }], guard := none }) rfl (fun K hK => ?_) AllReadyH.nil
  go_simp
  (go_at_call 23; refine (Hz.out _).mono ?_; rintro e w2 ⟨rfl, g2⟩; have Hm2 := Lib.hid (kept Hm1.out g2); have Hb2 := Lib.hid (Hb1.out.trans (g2.mono Hb1.out.size)); clear g2)
  go_simp
  refine hK.out _ _ (by exact ⟨Hm2.out.cell 1, Hm2.out.cell 3, Hm2.out.cell 4⟩) (fun hHeld => ?_)
  clear hK K
  try simp only [Act.put, List.setIfInBounds_toArray, List.set_cons_zero, List.set_cons_succ]
  refine wpAnyH_take (i := 6) (oi := { dst := some 52, op := Go.Op.binOp Go.BinOp.add 9 (Go.Operand.tmp 48) (Go.Operand.tmp 51) 9, type := 9, pos := "ref.go:57", after := #[{ on := 2, ground := Go.Ground.data }, { on := 5, ground := Go.Ground.data }], guard := none }) (v := ?_) rfl (by kernel_rfl) (by kernel_rfl) (by kernel_rfl) (fun _ _ _ h => h) (Or.inl ⟨by rfl, ?_⟩) (by assumption) ?_
  rotate_left
  · (intro w hSw; (try dsimp only at hSw); go_simp; (try with_reducible rfl))
  try simp only [Act.put, List.setIfInBounds_toArray, List.set_cons_zero, List.set_cons_succ]
  refine wpAnyH_ready (rs := [9]) (by kernel_rfl) (by simp) ?_
  refine AllReadyH.cons (o := { dst := some 55, op := Go.Op.call { callee := Go.Callee.value (Go.Operand.func 25), args := #[Go.Operand.tmp 54, Go.Operand.const (Go.Value.int Go.IntKind.i64 8)], argTypes := #[22, 3] }, type := 9, pos := "ref.go:57", after := #[{ on := 8, ground := Go.Ground.data }, { on := 5, ground := Go.Ground.chain }], guard := none }) rfl (fun K hK => ?_) AllReadyH.nil
  go_simp
  (go_at_call 25; refine (Hs.out _).mono ?_; rintro e w3 ⟨rfl, g3⟩; have Hm3 := Lib.hid (kept Hm2.out g3); have Hb3 := Lib.hid (Hb2.out.trans (g3.mono Hb2.out.size)); clear g3)
  go_simp
  refine hK.out _ _ (by exact ⟨Hm3.out.cell 1, Hm3.out.cell 3, Hm3.out.cell 4⟩) (fun hHeld => ?_)
  clear hK K
  try simp only [Act.put, List.setIfInBounds_toArray, List.set_cons_zero, List.set_cons_succ]
  refine wpAnyH_take (i := 10) (oi := { dst := some 56, op := Go.Op.binOp Go.BinOp.add 9 (Go.Operand.tmp 52) (Go.Operand.tmp 55) 9, type := 9, pos := "ref.go:57", after := #[{ on := 6, ground := Go.Ground.data }, { on := 9, ground := Go.Ground.data }], guard := none }) (v := ?_) rfl (by kernel_rfl) (by kernel_rfl) (by kernel_rfl) (fun _ _ _ h => h) (Or.inl ⟨by rfl, ?_⟩) (by assumption) ?_
  rotate_left
  · (intro w hSw; (try dsimp only at hSw); go_simp; (try with_reducible rfl))
  try simp only [Act.put, List.setIfInBounds_toArray, List.set_cons_zero, List.set_cons_succ]
  refine wpAnyH_take (i := 11) (oi := { dst := some 2, op := Go.Op.assign (Go.Operand.tmp 56), type := 9, pos := "ref.go:57", after := #[{ on := 10, ground := Go.Ground.data }, { on := 9, ground := Go.Ground.chain }, { on := 0, ground := Go.Ground.phase }, { on := 1, ground := Go.Ground.phase }, { on := 2, ground := Go.Ground.phase }, { on := 3, ground := Go.Ground.phase }, { on := 4, ground := Go.Ground.phase }, { on := 5, ground := Go.Ground.phase }, { on := 6, ground := Go.Ground.phase }, { on := 7, ground := Go.Ground.phase }, { on := 8, ground := Go.Ground.phase }, { on := 9, ground := Go.Ground.phase }, { on := 10, ground := Go.Ground.phase }], guard := none }) (v := ?_) rfl (by kernel_rfl) (by kernel_rfl) (by kernel_rfl) (fun _ _ _ h => h) (Or.inl ⟨by rfl, ?_⟩) (by assumption) ?_
  rotate_left
  · (intro w hSw; (try dsimp only at hSw); go_simp; (try with_reducible rfl))
  try simp only [Act.put, List.setIfInBounds_toArray, List.set_cons_zero, List.set_cons_succ]
  refine wpAnyH_done (by kernel_rfl) ?_ _
  clear hHeld
  go_wp2
  go_ret
  exact ⟨congrArg (fun l => Ending.returned (.string (strOf l))) (List.append_assoc _ _ _).symm, Hb3.out⟩
set_option linter.unusedVariables false in
set_option linter.unusedSimpArgs false in
set_option maxHeartbeats 1000000 in
set_option maxRecDepth 100000 in
theorem rmbody_9 (m : Msg) (w : World) (hk : m.kind = 9) (hm : m.Ok) (hn : 0 ≤ m.next ∧ m.next ≤ 1073741824) (he : 0 ≤ m.epoch ∧ m.epoch ≤ 1073741824) (hz : 0 ≤ m.size ∧ m.size ≤ 1073741824) (hd : m.data.length ≤ 600) :
    Calls Try.prog 11 #[msV m] w fun e w' => e = .returned (.string (strOf (bytesM m))) ∧ Below w.heap.size w w' := by
  rw [body_9 m hk]
  have Hz := Lib.hid (fun W => rmgroup_any m.size W hz.1 hz.2)
  have Hd := Lib.hid (fun W => ftext_any m.data W (by omega))
  have lz := Bm.grp_ten m.size.toNat (by omega)
  have ld := Bm.grp_ten m.data.length (by omega)
  have ha0 := fun W => str_add (Bm.grp m.size.toNat) ((Bm.grp m.data.length ++ m.data)) (by (try simp only [List.length_append, Bm.bytesOf_length]); omega) W
  clear lz
  clear ld
  have hm0 : Row (w.alloc (.cells (msL m).toArray 24)) w.heap.size 24 (msL m) := Row.new w _ _
  have hb0 : Below w.heap.size w (w.alloc (.cells (msL m).toArray 24)) := (Below.refl _ _).alloc (Nat.le_refl _) _
  obtain ⟨W0, hW0⟩ : ∃ W0, W0 = w.alloc (.cells (msL m).toArray 24) := ⟨_, rfl⟩
  rw [← hW0] at hm0 hb0
  have Hm0 := Lib.hid hm0
  have Hb0 := Lib.hid hb0
  clear hm0 hb0 hm hn he hz hd
  unfold msV at *
  dsimp only [msL] at hW0 ⊢
  obtain ⟨k, hkk⟩ : ∃ k, k = m.kind := ⟨_, rfl⟩
  rw [← hkk] at hW0 hk ⊢
  have Hkk := Lib.hid hkk
  clear hkk
  subst hk
  go_enter Try.func11, Try.ntmps11
  go_upto_region 17 with fail
  rw [← hW0]
  clear hW0
  refine wp_region_held_drew (S := (fun W : World => W.cell? ⟨w.heap.size, 3, none⟩ = some (.int .i64 m.size) ∧ W.cell? ⟨w.heap.size, 5, none⟩ = some (.string (strOf m.data)))) (by kernel_rfl) (by exact ⟨Hm0.out.cell 3, Hm0.out.cell 5⟩) (fun hHeld => ?_)
  refine wpAnyH_take (i := 0) (oi := { dst := some 59, op := Go.Op.fieldAddr 24 (Go.Operand.tmp 1) 3, type := 0, pos := "ref.go:59", after := #[], guard := none }) (v := ?_) rfl (by kernel_rfl) (by kernel_rfl) (by kernel_rfl) (fun _ _ _ h => h) (Or.inl ⟨by rfl, ?_⟩) (by assumption) ?_
  rotate_left
  · (intro w hSw; (try dsimp only at hSw); go_simp; (try with_reducible rfl))
  try simp only [Act.put, List.setIfInBounds_toArray, List.set_cons_zero, List.set_cons_succ]
  refine wpAnyH_take (i := 1) (oi := { dst := some 60, op := Go.Op.load 3 (Go.Operand.tmp 59), type := 3, pos := "ref.go:59", after := #[{ on := 0, ground := Go.Ground.data }], guard := none }) (v := ?_) rfl (by kernel_rfl) (by kernel_rfl) (by kernel_rfl) (fun _ _ _ h => h) (Or.inl ⟨by rfl, ?_⟩) (by assumption) ?_
  rotate_left
  · (intro w hSw; (try dsimp only at hSw); go_simp; (try with_reducible rfl))
  try simp only [Act.put, List.setIfInBounds_toArray, List.set_cons_zero, List.set_cons_succ]
  refine wpAnyH_take (i := 3) (oi := { dst := some 62, op := Go.Op.fieldAddr 24 (Go.Operand.tmp 1) 5, type := 0, pos := "ref.go:59", after := #[], guard := none }) (v := ?_) rfl (by kernel_rfl) (by kernel_rfl) (by kernel_rfl) (fun _ _ _ h => h) (Or.inl ⟨by rfl, ?_⟩) (by assumption) ?_
  rotate_left
  · (intro w hSw; (try dsimp only at hSw); go_simp; (try with_reducible rfl))
  try simp only [Act.put, List.setIfInBounds_toArray, List.set_cons_zero, List.set_cons_succ]
  refine wpAnyH_take (i := 4) (oi := { dst := some 63, op := Go.Op.load 9 (Go.Operand.tmp 62), type := 9, pos := "ref.go:59", after := #[{ on := 3, ground := Go.Ground.data }], guard := none }) (v := ?_) rfl (by kernel_rfl) (by kernel_rfl) (by kernel_rfl) (fun _ _ _ h => h) (Or.inl ⟨by rfl, ?_⟩) (by assumption) ?_
  rotate_left
  · (intro w hSw; (try dsimp only at hSw); go_simp; (try with_reducible rfl))
  try simp only [Act.put, List.setIfInBounds_toArray, List.set_cons_zero, List.set_cons_succ]
  refine wpAnyH_ready (rs := [2]) (by kernel_rfl) (by simp) ?_
  refine AllReadyH.cons (o := { dst := some 61, op := Go.Op.call { callee := Go.Callee.value (Go.Operand.func 23), args := #[Go.Operand.tmp 60], argTypes := #[3] }, type := 9, pos := "ref.go:59", after := #[{ on := 1, ground := Go.Ground.data }], guard := none }) rfl (fun K hK => ?_) AllReadyH.nil
  go_simp
  (go_at_call 23; refine (Hz.out _).mono ?_; rintro e w1 ⟨rfl, g1⟩; have Hm1 := Lib.hid (kept Hm0.out (far_below g1)); have Hb1 := Lib.hid (Hb0.out.trans ((far_below g1).mono Hb0.out.size)); clear g1)
  go_simp
  refine hK.out _ _ (by exact ⟨Hm1.out.cell 3, Hm1.out.cell 5⟩) (fun hHeld => ?_)
  clear hK K
  try simp only [Act.put, List.setIfInBounds_toArray, List.set_cons_zero, List.set_cons_succ]
  refine wpAnyH_ready (rs := [5]) (by kernel_rfl) (by simp) ?_
  refine AllReadyH.cons (o := { dst := some 64, op := Go.Op.call { callee := Go.Callee.value (Go.Operand.func 24), args := #[Go.Operand.tmp 63], argTypes := #[9] }, type := 9, pos := "ref.go:59", after := #[{ on := 4, ground := Go.Ground.data }, { on := 2, ground := Go.Ground.chain }], guard := none }) rfl (fun K hK => ?_) AllReadyH.nil
  go_simp
  (go_at_call 24; refine (Hd.out _).mono ?_; rintro e w2 ⟨rfl, g2⟩; have Hm2 := Lib.hid (kept Hm1.out g2); have Hb2 := Lib.hid (Hb1.out.trans (g2.mono Hb1.out.size)); clear g2)
  go_simp
  refine hK.out _ _ (by exact ⟨Hm2.out.cell 3, Hm2.out.cell 5⟩) (fun hHeld => ?_)
  clear hK K
  try simp only [Act.put, List.setIfInBounds_toArray, List.set_cons_zero, List.set_cons_succ]
  refine wpAnyH_take (i := 6) (oi := { dst := some 65, op := Go.Op.binOp Go.BinOp.add 9 (Go.Operand.tmp 61) (Go.Operand.tmp 64) 9, type := 9, pos := "ref.go:59", after := #[{ on := 2, ground := Go.Ground.data }, { on := 5, ground := Go.Ground.data }], guard := none }) (v := ?_) rfl (by kernel_rfl) (by kernel_rfl) (by kernel_rfl) (fun _ _ _ h => h) (Or.inl ⟨by rfl, ?_⟩) (by assumption) ?_
  rotate_left
  · (intro w hSw; (try dsimp only at hSw); go_simp; (try with_reducible rfl))
  try simp only [Act.put, List.setIfInBounds_toArray, List.set_cons_zero, List.set_cons_succ]
  refine wpAnyH_take (i := 7) (oi := { dst := some 2, op := Go.Op.assign (Go.Operand.tmp 65), type := 9, pos := "ref.go:59", after := #[{ on := 6, ground := Go.Ground.data }, { on := 5, ground := Go.Ground.chain }, { on := 0, ground := Go.Ground.phase }, { on := 1, ground := Go.Ground.phase }, { on := 2, ground := Go.Ground.phase }, { on := 3, ground := Go.Ground.phase }, { on := 4, ground := Go.Ground.phase }, { on := 5, ground := Go.Ground.phase }, { on := 6, ground := Go.Ground.phase }], guard := none }) (v := ?_) rfl (by kernel_rfl) (by kernel_rfl) (by kernel_rfl) (fun _ _ _ h => h) (Or.inl ⟨by rfl, ?_⟩) (by assumption) ?_
  rotate_left
  · (intro w hSw; (try dsimp only at hSw); go_simp; (try with_reducible rfl))
  try simp only [Act.put, List.setIfInBounds_toArray, List.set_cons_zero, List.set_cons_succ]
  refine wpAnyH_done (by kernel_rfl) ?_ _
  clear hHeld
  go_wp2
  go_ret
  exact ⟨rfl, Hb2.out⟩
set_option linter.unusedVariables false in
set_option linter.unusedSimpArgs false in
set_option maxHeartbeats 1000000 in
set_option maxRecDepth 100000 in
theorem rmbody_10 (m : Msg) (w : World) (hk : m.kind = 10) (hm : m.Ok) (hn : 0 ≤ m.next ∧ m.next ≤ 1073741824) (he : 0 ≤ m.epoch ∧ m.epoch ≤ 1073741824) (hz : 0 ≤ m.size ∧ m.size ≤ 1073741824) (hd : m.data.length ≤ 600) :
    Calls Try.prog 11 #[msV m] w fun e w' => e = .returned (.string (strOf (bytesM m))) ∧ Below w.heap.size w w' := by
  rw [body_10 m hk]
  have hm0 : Row (w.alloc (.cells (msL m).toArray 24)) w.heap.size 24 (msL m) := Row.new w _ _
  have hb0 : Below w.heap.size w (w.alloc (.cells (msL m).toArray 24)) := (Below.refl _ _).alloc (Nat.le_refl _) _
  obtain ⟨W0, hW0⟩ : ∃ W0, W0 = w.alloc (.cells (msL m).toArray 24) := ⟨_, rfl⟩
  rw [← hW0] at hm0 hb0
  have Hm0 := Lib.hid hm0
  have Hb0 := Lib.hid hb0
  clear hm0 hb0 hm hn he hz hd
  unfold msV at *
  dsimp only [msL] at hW0 ⊢
  obtain ⟨k, hkk⟩ : ∃ k, k = m.kind := ⟨_, rfl⟩
  rw [← hkk] at hW0 hk ⊢
  have Hkk := Lib.hid hkk
  clear hkk
  subst hk
  go_enter Try.func11, Try.ntmps11
  go_upto_region 18 with fail
  rw [← hW0]
  clear hW0
  go_wp2
  go_ret
  exact ⟨rfl, Hb0.out⟩
theorem rmbody_any (m : Msg) (w : World) (hm : m.Ok) (h : rightM m = true) :
    Calls Try.prog 11 #[msV m] w fun e w' => e = .returned (.string (strOf (bytesM m))) ∧ Below w.heap.size w w' := by
  obtain ⟨b, hb, hr⟩ := right_some h
  have hbo := body_ok hb
  obtain ⟨h1, h2, h3, h4, h5⟩ := (b.right_iff m).1 hr
  have hn := And.intro (has_pos hbo.1 h1) (has_most hbo.1 h1)
  have he := And.intro (has_pos hbo.2.1 h2) (has_most hbo.2.1 h2)
  have hz := And.intro (has_pos hbo.2.2.1 h3) (has_most hbo.2.2.1 h3)
  have hd : m.data.length ≤ 600 := by
    have h6 := (has_iff _ _).1 h5
    have h7 := hbo.2.2.2.2
    omega
  have hk := body_kind hb
  rcases kind_cases m.kind (by omega) with e | e | e | e | e | e | e | e | e | e
  · exact rmbody_12 m w (.inl e) hm hn he hz hd
  · exact rmbody_12 m w (.inr e) hm hn he hz hd
  · exact rmbody_3 m w e hm hn he hz hd
  · exact rmbody_45 m w (.inl e) hm hn he hz hd
  · exact rmbody_45 m w (.inr e) hm hn he hz hd
  · exact rmbody_6 m w e hm hn he hz hd
  · exact rmbody_7 m w e hm hn he hz hd
  · exact rmbody_8 m w e hm hn he hz hd
  · exact rmbody_9 m w e hm hn he hz hd
  · exact rmbody_10 m w e hm hn he hz hd
end Go.Proofs.Ytfopnbfaaikghaa
