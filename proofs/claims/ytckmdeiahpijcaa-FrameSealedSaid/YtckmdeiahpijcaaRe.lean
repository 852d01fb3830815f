/-
  The program's layer 24 (frame): Cutter.Feed, by its walk. Conditions: as each theorem's premises say.
-/
import Derived.Test.YtckmdeiahpijcaaRd
import Derived.Test.YtckmdeiahpijcaaXt
namespace Go.Proofs.Ytckmdeiahpijcaa
open Go.RowKit

set_option maxHeartbeats 1000000 in
set_option maxRecDepth 100000 in
theorem frfeed_err (b x sl e0 cnt : Nat) (s : Bool) (w : World) (k : CuE w b e0 cnt) :
    Calls Try.prog 19 #[.pointer (some ⟨b, 0, none⟩), ppB x sl s] w fun e w' => e = .returned (.tuple #[frV Bm.zfr, .bool false, .int .i64 (e0 : Int)]) ∧ CuE w' b e0 cnt ∧ Below w.heap.size w w' := by
  have hne : e0 ≠ 0 := by obtain ⟨_, _, _, _, _, h⟩ := k; exact h
  have hne2 : ((e0 : Int) != 0) = true := by simp; omega
  have Herr : Hid (∀ W, Below w.heap.size w W → Calls Try.prog 21 #[.pointer (some ⟨b, 0, none⟩)] W fun x w' => x = .returned (.int .i64 (e0 : Int)) ∧ W = w') := Lib.hid (fun W hW => (k.keep (hW.block b k.lt)).err)
  have Hk := Lib.hid k
  clear k hne
  unfold ppB
  go_enter Try.func19, Try.ntmps19
  go_wp2_with fail
  have hb0 : Below w.heap.size w ((w.alloc (.cells #[.int .u8 (x : Int), .int .u64 (sl : Int), .bool s] 47)).alloc (.cells #[.int .i64 0, .string ⟨#[]⟩] 30)) := ((Below.refl _ _).alloc (Nat.le_refl _) _).alloc (by simp) _
  have hr0 : Row ((w.alloc (.cells #[.int .u8 (x : Int), .int .u64 (sl : Int), .bool s] 47)).alloc (.cells #[.int .i64 0, .string ⟨#[]⟩] 30)) (w.heap.size + 1) 30 [.int .i64 0, .string ⟨#[]⟩] := by
    have h1 := Row.new (w.alloc (.cells #[.int .u8 (x : Int), .int .u64 (sl : Int), .bool s] 47)) 30 [.int .i64 0, .string ⟨#[]⟩]
    rw [show (w.alloc (.cells #[.int .u8 (x : Int), .int .u64 (sl : Int), .bool s] 47)).heap.size = w.heap.size + 1 by simp] at h1
    exact h1
  refine (Herr.out _ hb0).mono ?_
  rintro e w1 ⟨rfl, rfl⟩
  generalize (w.alloc (.cells #[.int .u8 (x : Int), .int .u64 (sl : Int), .bool s] 47)).alloc (.cells #[.int .i64 0, .string ⟨#[]⟩] 30) = w1 at *
  have f0 := hr0.free 0
  have f1 := hr0.free 1
  have c0 := hr0.cell 0
  have c1 := hr0.cell 1
  simp only [List.getElem?_cons_zero, List.getElem?_cons_succ] at c0 c1
  have hr7 := fr_row hr0 rfl 0 ⟨#[]⟩
  have s0 := hr7.cell 0
  have s1 := hr7.cell 1
  simp only [List.getElem?_cons_zero, List.getElem?_cons_succ] at s0 s1
  have S0 := Lib.hid s0
  have S1 := Lib.hid s1
  have HB7 := Lib.hid (fr_set_below hb0 (Nat.le_succ w.heap.size) (.int .i64 0) (.string ⟨#[]⟩))
  clear s0 s1 hr7 hb0 hr0 Herr
  go_wp2
  have s0 := S0.out
  have s1 := S1.out
  refine bodyPost_ret (v := .tuple #[.agg #[.int .i64 0, .string ⟨#[]⟩], .bool false, .int .i64 (e0 : Int)]) (by simp [results, Try.results19, go_sem, s0, s1]) rfl ⟨rfl, Hk.out.keep (HB7.out.block b Hk.out.lt), HB7.out⟩
/-- Feed, over what it calls. -/
structure FeedP (b x sl h' n' c' z e' M : Nat) (s : Bool) (s' : List Nat) (S' fs : ByteArray) (fk : Int) (oe sm : Nat) (R : Value) (Post : World → Prop) : Prop where
  opn : e' = 0 → ¬ M < z → ∀ W, Calls Try.prog 37 #[.string S'] W fun e w' => e = .returned (.tuple #[.agg #[.int .i64 fk, .string fs], .int .i64 (oe : Int)]) ∧ Below W.heap.size W w'
  sum : ∀ W, Calls Try.prog 38 #[.agg #[.int .u64 (h' : Int), .int .u64 (n' : Int)]] W fun e w' => e = .returned (.int .u64 (sm : Int)) ∧ Below W.heap.size W w'
  cut : ∀ W, (Instr.sliceAt 70 (.pointer (some ⟨b, 0, none⟩)) none (some (.int .i64 (M : Int))) none).run Try.prog W = .ok (.slice (some ⟨b, 0, none⟩) M 911) W
  txt : ∀ W z h n c e, CuR W b s' z h n c e → (convert 23 9 (.slice (some ⟨b, 0, none⟩) M 911)).run Try.prog W = .ok (.string S') W
  len : ∀ W z h n c e, CuR W b s' z h n c e → W.cell? ⟨b, 911, none⟩ = some (.int .i64 (M : Int))
  bad : e' ≠ 0 → R = .tuple #[.agg #[.int .i64 0, .string ⟨#[]⟩], .bool false, .int .i64 (e' : Int)] ∧ ∀ W, CuR W b s' z h' n' c' e' → Post W
  more : e' = 0 → M < z → R = .tuple #[.agg #[.int .i64 0, .string ⟨#[]⟩], .bool false, .int .i64 0] ∧ ∀ W, CuR W b s' z h' n' c' 0 → Post W
  no : e' = 0 → ¬ M < z → ¬ (oe = 0 ∧ s = true ∧ sl = sm) → R = .tuple #[.agg #[.int .i64 0, .string ⟨#[]⟩], .bool false, .int .i64 4] ∧ ∀ W, CuR W b s' z h' n' c' 4 → Post W
  yes : e' = 0 → ¬ M < z → oe = 0 ∧ s = true ∧ sl = sm → R = .tuple #[.agg #[.int .i64 fk, .string fs], .bool true, .int .i64 0] ∧ ∀ W, CuR W b [] z h' n' c' 0 → Post W
set_option maxHeartbeats 4000000 in
set_option maxRecDepth 100000 in
theorem frfeed_L (b x sl h' n' c' z e' M : Nat) (s : Bool) (s' : List Nat) (S' fs : ByteArray) (fk : Int) (oe sm : Nat) (R : Value) (Post : World → Prop) (w : World) (hbw : b < w.heap.size)
    (herr : ∀ W, W.heap[b]? = w.heap[b]? → Calls Try.prog 21 #[.pointer (some ⟨b, 0, none⟩)] W fun e w' => e = .returned (.int .i64 0) ∧ W = w')
    (hadd : ∀ W, W.heap[b]? = w.heap[b]? → Calls Try.prog 36 #[.pointer (some ⟨b, 0, none⟩), .int .u8 (x : Int)] W fun e w' => e = .returned (.tuple #[]) ∧ CuR w' b s' z h' n' c' e' ∧ W.grownBy w' (some b))
    (P : FeedP b x sl h' n' c' z e' M s s' S' fs fk oe sm R Post) :
    Calls Try.prog 19 #[.pointer (some ⟨b, 0, none⟩), ppB x sl s] w fun e w' => e = .returned R ∧ Post w' ∧ w.grownBy w' (some b) := by
  have HP := Lib.hid P
  have Herr := Lib.hid herr
  have Hadd := Lib.hid hadd
  clear P herr hadd
  unfold ppB
  go_enter Try.func19, Try.ntmps19
  go_wp2_with fail
  have hb0 : Below w.heap.size w ((w.alloc (.cells #[.int .u8 (x : Int), .int .u64 (sl : Int), .bool s] 47)).alloc (.cells #[.int .i64 0, .string ⟨#[]⟩] 30)) := ((Below.refl _ _).alloc (Nat.le_refl _) _).alloc (by simp) _
  have hr0 : Row ((w.alloc (.cells #[.int .u8 (x : Int), .int .u64 (sl : Int), .bool s] 47)).alloc (.cells #[.int .i64 0, .string ⟨#[]⟩] 30)) (w.heap.size + 1) 30 [.int .i64 0, .string ⟨#[]⟩] := by
    have h1 := Row.new (w.alloc (.cells #[.int .u8 (x : Int), .int .u64 (sl : Int), .bool s] 47)) 30 [.int .i64 0, .string ⟨#[]⟩]
    rw [show (w.alloc (.cells #[.int .u8 (x : Int), .int .u64 (sl : Int), .bool s] 47)).heap.size = w.heap.size + 1 by simp] at h1
    exact h1
  have hx0 : Row ((w.alloc (.cells #[.int .u8 (x : Int), .int .u64 (sl : Int), .bool s] 47)).alloc (.cells #[.int .i64 0, .string ⟨#[]⟩] 30)) w.heap.size 47 [.int .u8 (x : Int), .int .u64 (sl : Int), .bool s] := (Row.new w _ _).alloc _
  refine (Herr.out _ (hb0.block b hbw)).mono ?_
  rintro e w1 ⟨rfl, rfl⟩
  generalize (w.alloc (.cells #[.int .u8 (x : Int), .int .u64 (sl : Int), .bool s] 47)).alloc (.cells #[.int .i64 0, .string ⟨#[]⟩] 30) = w1 at *
  have Hadd1 := Lib.hid (Hadd.out w1 (hb0.block b hbw))
  have x0 := hx0.cell 0
  simp only [List.getElem?_cons_zero] at x0
  obtain ⟨B, hB⟩ : ∃ B, B = w.heap.size := ⟨_, rfl⟩
  rw [← hB] at hr0 hx0 x0 hbw ⊢
  have Hr0 := Lib.hid hr0
  have Hx0 := Lib.hid hx0
  have Hb0 := Lib.hid hb0
  have HB := Lib.hid hB
  have HW : Hid (B = w.heap.size) := HB
  clear Herr Hadd hr0 hx0 hb0 hB
  go_wp2_with fail
  refine Hadd1.out.mono ?_
  rintro e w2 ⟨rfl, hk2, hg2⟩
  have Hr2 := Lib.hid (Hr0.out.keep (hg2.block (B + 1) Hr0.out.lt (by intro e; injection e with e; omega)))
  have Hx2 := Lib.hid (Hx0.out.keep (hg2.block B Hx0.out.lt (by intro e; injection e with e; omega)))
  have HG2 := Lib.hid ((grown_below Hb0.out (some b)).trans hg2)
  have a1 := HP.out.len _ _ _ _ _ _ hk2
  have a2 := hk2.cells.2.1
  have a6 := hk2.cells.2.2.2.2.2.1
  have Hk2 := Lib.hid hk2
  clear hk2 hg2 Hr0 Hx0 Hb0 Hadd1 x0
  by_cases he : e' = 0
  · have he2 : ((e' : Int) != 0) = false := by rw [he]; simp
    by_cases hm : M < z
    · have hm2 : (M : Int) < (z : Int) := by omega
      go_wp2_with fail
      go_quiet (fail)
      have Hk3 : Hid (CuR (w2.drewN nq) b s' z h' n' c' e') := Lib.hid Hk2.out
      have Hr3 : Hid (Row (w2.drewN nq) (B + 1) 30 [.int .i64 0, .string ⟨#[]⟩]) := Lib.hid Hr2.out
      have Hx3 : Hid (Row (w2.drewN nq) B 47 [.int .u8 (x : Int), .int .u64 (sl : Int), .bool s]) := Lib.hid Hx2.out
      have HG3 : Hid (w.grownBy (w2.drewN nq) (some b)) := Lib.hid (grown_drewN HG2.out nq)
      clear a1 a2 a6 Hk2 Hr2 Hx2 HG2
      generalize w2.drewN nq = w3 at *
      have a6 := Hk3.out.cells.2.2.2.2.2.1
      have HQ : Hid (R = .tuple #[.agg #[.int .i64 0, .string ⟨#[]⟩], .bool false, .int .i64 0] ∧ ∀ W, CuR W b s' z h' n' c' e' → Post W) := Lib.hid ⟨(HP.out.more he hm).1, fun W hW => (HP.out.more he hm).2 W (by rw [he] at hW; exact hW)⟩
      have r0 := Hr3.out.cell 0
      have r1 := Hr3.out.cell 1
      have g0 := Hr3.out.free 0
      have g1 := Hr3.out.free 1
      simp only [List.getElem?_cons_zero, List.getElem?_cons_succ] at r0 r1
      go_wp2_with fail
      refine wp_region_held_drew (S := (fun W : World => W.cell? ⟨b, 916, none⟩ = some (.int .i64 (e' : Int)))) (by kernel_rfl) (by exact a6) (fun hHeld => ?_)
      refine wpAnyH_take (i := 0) (oi := { dst := some 36, op := Go.Op.build 30 #[], type := 30, pos := "frame.go:58", after := #[], guard := none }) (v := ?_) rfl (by kernel_rfl) (by kernel_rfl) (by kernel_rfl) (fun _ _ _ h => h) (Or.inl ⟨by rfl, ?_⟩) (by assumption) ?_
      rotate_left
      · (intro w hSw; (try dsimp only at hSw); go_simp; (try with_reducible rfl))
      try simp only [Act.put, List.setIfInBounds_toArray, List.set_cons_zero, List.set_cons_succ]
      refine wpAnyH_take (i := 1) (oi := { dst := some 37, op := Go.Op.move (Go.Operand.tmp 0), type := 27, pos := "frame.go:58", after := #[{ on := 6, ground := Go.Ground.gcOnly Go.Departure.lateStores }], guard := none }) (v := ?_) rfl (by kernel_rfl) (by kernel_rfl) (by kernel_rfl) (fun _ _ _ h => h) (Or.inl ⟨by rfl, ?_⟩) (by assumption) ?_
      rotate_left
      · (intro w hSw; (try dsimp only at hSw); go_simp; (try with_reducible rfl))
      try simp only [Act.put, List.setIfInBounds_toArray, List.set_cons_zero, List.set_cons_succ]
      refine wpAnyH_take (i := 2) (oi := { dst := some 38, op := Go.Op.nilCheck (Go.Operand.tmp 37), type := 0, pos := "frame.go:58", after := #[{ on := 1, ground := Go.Ground.data }, { on := 6, ground := Go.Ground.gcOnly Go.Departure.lateStores }], guard := none }) (v := ?_) rfl (by kernel_rfl) (by kernel_rfl) (by kernel_rfl) (fun _ _ _ h => h) (Or.inl ⟨by rfl, ?_⟩) (by assumption) ?_
      rotate_left
      · (intro w hSw; (try dsimp only at hSw); go_simp; (try with_reducible rfl))
      try simp only [Act.put, List.setIfInBounds_toArray, List.set_cons_zero, List.set_cons_succ]
      refine wpAnyH_take (i := 3) (oi := { dst := some 39, op := Go.Op.fieldAddr 72 (Go.Operand.tmp 38) 5, type := 0, pos := "frame.go:58", after := #[{ on := 2, ground := Go.Ground.data }, { on := 6, ground := Go.Ground.gcOnly Go.Departure.lateStores }], guard := none }) (v := ?_) rfl (by kernel_rfl) (by kernel_rfl) (by kernel_rfl) (fun _ _ _ h => h) (Or.inl ⟨by rfl, ?_⟩) (by assumption) ?_
      rotate_left
      · (intro w hSw; (try dsimp only at hSw); go_simp; (try with_reducible rfl))
      try simp only [Act.put, List.setIfInBounds_toArray, List.set_cons_zero, List.set_cons_succ]
      refine wpAnyH_take (i := 4) (oi := { dst := some 40, op := Go.Op.load 31 (Go.Operand.tmp 39), type := 31, pos := "frame.go:58", after := #[{ on := 3, ground := Go.Ground.data }, { on := 6, ground := Go.Ground.gcOnly Go.Departure.lateStores }], guard := none }) (v := ?_) rfl (by kernel_rfl) (by kernel_rfl) (by kernel_rfl) (fun _ _ _ h => h) (Or.inl ⟨by rfl, ?_⟩) (by assumption) ?_
      rotate_left
      · (intro w hSw; (try dsimp only at hSw); go_simp; (try with_reducible rfl))
      try simp only [Act.put, List.setIfInBounds_toArray, List.set_cons_zero, List.set_cons_succ]
      refine wpAnyH_ready (rs := [5]) (by kernel_rfl) (by simp) ?_
      refine AllReadyH.cons (o := { dst := none, op := Go.Op.store 30 (Go.Operand.tmp 4) (Go.Operand.tmp 36), type := 0, pos := "frame.go:58", after := #[{ on := 0, ground := Go.Ground.data }, { on := 0, ground := Go.Ground.phase }, { on := 1, ground := Go.Ground.textOnly Go.Departure.lateStores }, { on := 2, ground := Go.Ground.textOnly Go.Departure.lateStores }, { on := 3, ground := Go.Ground.textOnly Go.Departure.lateStores }, { on := 4, ground := Go.Ground.textOnly Go.Departure.lateStores }], guard := none }) rfl (fun K hK => ?_) AllReadyH.nil
      go_simp
      refine hK.out _ _ (by exact (World.cell?_of_block ((Below.heap_setCell _ ⟨B + 1, 1, none⟩ _ b (by show b ≠ B + 1; omega)).trans (Below.heap_setCell _ ⟨B + 1, 0, none⟩ _ b (by show b ≠ B + 1; omega)))).trans a6) (fun hHeld => ?_)
      clear hK K
      try simp only [Act.put, List.setIfInBounds_toArray, List.set_cons_zero, List.set_cons_succ]
      refine wpAnyH_take (i := 6) (oi := { dst := some 5, op := Go.Op.assign (Go.Operand.const (Go.Value.bool false)), type := 4, pos := "frame.go:58", after := #[{ on := 5, ground := Go.Ground.chain }, { on := 0, ground := Go.Ground.phase }, { on := 1, ground := Go.Ground.textOnly Go.Departure.lateStores }, { on := 2, ground := Go.Ground.textOnly Go.Departure.lateStores }, { on := 3, ground := Go.Ground.textOnly Go.Departure.lateStores }, { on := 4, ground := Go.Ground.textOnly Go.Departure.lateStores }, { on := 5, ground := Go.Ground.phase }], guard := none }) (v := ?_) rfl (by kernel_rfl) (by kernel_rfl) (by kernel_rfl) (fun _ _ _ h => h) (Or.inl ⟨by rfl, ?_⟩) (by assumption) ?_
      rotate_left
      · (intro w hSw; (try dsimp only at hSw); go_simp; (try with_reducible rfl))
      try simp only [Act.put, List.setIfInBounds_toArray, List.set_cons_zero, List.set_cons_succ]
      refine wpAnyH_take (i := 7) (oi := { dst := some 6, op := Go.Op.assign (Go.Operand.tmp 40), type := 31, pos := "frame.go:58", after := #[{ on := 4, ground := Go.Ground.data }, { on := 6, ground := Go.Ground.chain }, { on := 0, ground := Go.Ground.phase }, { on := 1, ground := Go.Ground.phase }, { on := 2, ground := Go.Ground.phase }, { on := 3, ground := Go.Ground.phase }, { on := 4, ground := Go.Ground.phase }, { on := 5, ground := Go.Ground.phase }, { on := 6, ground := Go.Ground.phase }], guard := none }) (v := ?_) rfl (by kernel_rfl) (by kernel_rfl) (by kernel_rfl) (fun _ _ _ h => h) (Or.inl ⟨by rfl, ?_⟩) (by assumption) ?_
      rotate_left
      · (intro w hSw; (try dsimp only at hSw); go_simp; (try with_reducible rfl))
      try simp only [Act.put, List.setIfInBounds_toArray, List.set_cons_zero, List.set_cons_succ]
      refine wpAnyH_done (by kernel_rfl) ?_ _
      have hr7 := fr_row Hr3.out rfl 0 ⟨#[]⟩
      have s0 : ((w3.setCell ⟨B + 1, 0, none⟩ (.int .i64 0)).setCell ⟨B + 1, 1, none⟩ (.string ⟨#[]⟩)).drew.cell? ⟨B + 1, 0, none⟩ = _ := hr7.cell 0
      have s1 : ((w3.setCell ⟨B + 1, 0, none⟩ (.int .i64 0)).setCell ⟨B + 1, 1, none⟩ (.string ⟨#[]⟩)).drew.cell? ⟨B + 1, 1, none⟩ = _ := hr7.cell 1
      simp only [List.getElem?_cons_zero, List.getElem?_cons_succ] at s0 s1
      have Hk9 : Hid (CuR ((w3.setCell ⟨B + 1, 0, none⟩ (.int .i64 0)).setCell ⟨B + 1, 1, none⟩ (.string ⟨#[]⟩)).drew b s' z h' n' c' e') := Lib.hid (Hk3.out.keep ((Below.heap_setCell _ ⟨B + 1, 1, none⟩ _ b (by show b ≠ B + 1; omega)).trans (Below.heap_setCell _ ⟨B + 1, 0, none⟩ _ b (by show b ≠ B + 1; omega))))
      have HG9 : Hid (w.grownBy ((w3.setCell ⟨B + 1, 0, none⟩ (.int .i64 0)).setCell ⟨B + 1, 1, none⟩ (.string ⟨#[]⟩)).drew (some b)) := Lib.hid (grown_drew (grown_setN (grown_setN HG3.out (by have := HB.out; omega) 0 (.int .i64 0)) (by have := HB.out; omega) 1 (.string ⟨#[]⟩)))
      clear hr7 r0 r1 g0 g1 a6 hHeld
      generalize ((w3.setCell ⟨B + 1, 0, none⟩ (.int .i64 0)).setCell ⟨B + 1, 1, none⟩ (.string ⟨#[]⟩)).drew = w9 at *
      have S0 := Lib.hid s0
      have S1 := Lib.hid s1
      clear s0 s1
      go_wp2
      have s0 := S0.out
      have s1 := S1.out
      refine bodyPost_ret (v := .tuple #[.agg #[.int .i64 0, .string ⟨#[]⟩], .bool false, .int .i64 0]) (by simp [results, Try.results19, go_sem, s0, s1]) rfl ⟨congrArg Ending.returned (HQ.out).1.symm, (HQ.out).2 _ Hk9.out, HG9.out⟩
    · have hm2 : ¬ (M : Int) < (z : Int) := by omega
      go_wp2_with fail
      go_quiet (fail)
      have Hk3 : Hid (CuR (w2.drewN nq) b s' z h' n' c' e') := Lib.hid Hk2.out
      have Hr3 : Hid (Row (w2.drewN nq) (B + 1) 30 [.int .i64 0, .string ⟨#[]⟩]) := Lib.hid Hr2.out
      have Hx3 : Hid (Row (w2.drewN nq) B 47 [.int .u8 (x : Int), .int .u64 (sl : Int), .bool s]) := Lib.hid Hx2.out
      have HG3 : Hid (w.grownBy (w2.drewN nq) (some b)) := Lib.hid (grown_drewN HG2.out nq)
      clear a1 a2 a6 Hk2 Hr2 Hx2 HG2
      generalize w2.drewN nq = w3 at *
      have a6 := Hk3.out.cells.2.2.2.2.2.1
      have a1 := HP.out.len _ _ _ _ _ _ Hk3.out
      have hcut := HP.out.cut
      have htx := HP.out.txt
      have Hop := Lib.hid (HP.out.opn he hm)
      go_wp2_with fail
      refine wp_region_held_drew (S := (fun W : World => W.cell? ⟨b, 911, none⟩ = some (.int .i64 (M : Int)) ∧ CuR W b s' z h' n' c' e')) (by kernel_rfl) (by exact ⟨a1, Hk3.out⟩) (fun hHeld => ?_)
      refine wpAnyH_take (i := 0) (oi := { dst := some 42, op := Go.Op.move (Go.Operand.tmp 0), type := 27, pos := "frame.go:60", after := #[], guard := none }) (v := ?_) rfl (by kernel_rfl) (by kernel_rfl) (by kernel_rfl) (fun _ _ _ h => h) (Or.inl ⟨by rfl, ?_⟩) (by assumption) ?_
      rotate_left
      · (intro w hSw; (try dsimp only at hSw); go_simp; (try with_reducible rfl))
      try simp only [Act.put, List.setIfInBounds_toArray, List.set_cons_zero, List.set_cons_succ]
      refine wpAnyH_take (i := 1) (oi := { dst := some 43, op := Go.Op.nilCheck (Go.Operand.tmp 42), type := 0, pos := "frame.go:60", after := #[{ on := 0, ground := Go.Ground.data }], guard := none }) (v := ?_) rfl (by kernel_rfl) (by kernel_rfl) (by kernel_rfl) (fun _ _ _ h => h) (Or.inl ⟨by rfl, ?_⟩) (by assumption) ?_
      rotate_left
      · (intro w hSw; (try dsimp only at hSw); go_simp; (try with_reducible rfl))
      try simp only [Act.put, List.setIfInBounds_toArray, List.set_cons_zero, List.set_cons_succ]
      refine wpAnyH_take (i := 2) (oi := { dst := some 44, op := Go.Op.fieldAddr 72 (Go.Operand.tmp 43) 0, type := 0, pos := "frame.go:60", after := #[{ on := 1, ground := Go.Ground.data }], guard := none }) (v := ?_) rfl (by kernel_rfl) (by kernel_rfl) (by kernel_rfl) (fun _ _ _ h => h) (Or.inl ⟨by rfl, ?_⟩) (by assumption) ?_
      rotate_left
      · (intro w hSw; (try dsimp only at hSw); go_simp; (try with_reducible rfl))
      try simp only [Act.put, List.setIfInBounds_toArray, List.set_cons_zero, List.set_cons_succ]
      refine wpAnyH_take (i := 3) (oi := { dst := some 45, op := Go.Op.move (Go.Operand.tmp 0), type := 27, pos := "frame.go:60", after := #[], guard := none }) (v := ?_) rfl (by kernel_rfl) (by kernel_rfl) (by kernel_rfl) (fun _ _ _ h => h) (Or.inl ⟨by rfl, ?_⟩) (by assumption) ?_
      rotate_left
      · (intro w hSw; (try dsimp only at hSw); go_simp; (try with_reducible rfl))
      try simp only [Act.put, List.setIfInBounds_toArray, List.set_cons_zero, List.set_cons_succ]
      refine wpAnyH_take (i := 4) (oi := { dst := some 46, op := Go.Op.nilCheck (Go.Operand.tmp 45), type := 0, pos := "frame.go:60", after := #[{ on := 3, ground := Go.Ground.data }], guard := none }) (v := ?_) rfl (by kernel_rfl) (by kernel_rfl) (by kernel_rfl) (fun _ _ _ h => h) (Or.inl ⟨by rfl, ?_⟩) (by assumption) ?_
      rotate_left
      · (intro w hSw; (try dsimp only at hSw); go_simp; (try with_reducible rfl))
      try simp only [Act.put, List.setIfInBounds_toArray, List.set_cons_zero, List.set_cons_succ]
      refine wpAnyH_take (i := 5) (oi := { dst := some 47, op := Go.Op.fieldAddr 72 (Go.Operand.tmp 46) 1, type := 0, pos := "frame.go:60", after := #[{ on := 4, ground := Go.Ground.data }], guard := none }) (v := ?_) rfl (by kernel_rfl) (by kernel_rfl) (by kernel_rfl) (fun _ _ _ h => h) (Or.inl ⟨by rfl, ?_⟩) (by assumption) ?_
      rotate_left
      · (intro w hSw; (try dsimp only at hSw); go_simp; (try with_reducible rfl))
      try simp only [Act.put, List.setIfInBounds_toArray, List.set_cons_zero, List.set_cons_succ]
      refine wpAnyH_take (i := 6) (oi := { dst := some 48, op := Go.Op.load 3 (Go.Operand.tmp 47), type := 3, pos := "frame.go:60", after := #[{ on := 5, ground := Go.Ground.data }], guard := none }) (v := ?_) rfl (by kernel_rfl) (by kernel_rfl) (by kernel_rfl) (fun _ _ _ h => h) (Or.inl ⟨by rfl, ?_⟩) (by assumption) ?_
      rotate_left
      · (intro w hSw; (try dsimp only at hSw); go_simp; (try with_reducible rfl))
      try simp only [Act.put, List.setIfInBounds_toArray, List.set_cons_zero, List.set_cons_succ]
      refine wpAnyH_take (i := 7) (oi := { dst := some 49, op := Go.Op.slice 70 (Go.Operand.tmp 44) none (some (Go.Operand.tmp 48)) none, type := 23, pos := "frame.go:60", after := #[{ on := 2, ground := Go.Ground.data }, { on := 6, ground := Go.Ground.data }], guard := none }) (v := ?_) rfl (by kernel_rfl) (by kernel_rfl) (by kernel_rfl) (fun _ _ _ h => h) (Or.inl ⟨by rfl, ?_⟩) (by assumption) ?_
      rotate_left
      · (intro w hSw; (try dsimp only at hSw); go_simp; (try with_reducible rfl))
      try simp only [Act.put, List.setIfInBounds_toArray, List.set_cons_zero, List.set_cons_succ]
      refine wpAnyH_take (i := 8) (oi := { dst := some 50, op := Go.Op.convert 23 9 (Go.Operand.tmp 49), type := 9, pos := "frame.go:60", after := #[{ on := 7, ground := Go.Ground.data }], guard := none }) (v := (Value.string S')) rfl (by kernel_rfl) (by kernel_rfl) (by kernel_rfl) (fun _ _ _ h => h) (Or.inl ⟨by rfl, ?_⟩) (by assumption) ?_
      · (intro w hSw; (try dsimp only at hSw); (have hq2 := htx w _ _ _ _ _ hSw.2; obtain ⟨hq, hk1⟩ := hSw; go_simp))
      try simp only [Act.put, List.setIfInBounds_toArray, List.set_cons_zero, List.set_cons_succ]
      refine wpAnyH_ready (rs := [9, 13]) (by kernel_rfl) (by simp) ?_
      refine AllReadyH.cons (o := { dst := some 51, op := Go.Op.call { callee := Go.Callee.value (Go.Operand.func 37), args := #[Go.Operand.tmp 50], argTypes := #[9] }, type := 84, pos := "frame.go:60", after := #[{ on := 8, ground := Go.Ground.data }], guard := none }) rfl (fun K hK => ?_) (AllReadyH.cons (o := { dst := some 8, op := Go.Op.alloc 30, type := 0, pos := "frame.go:60", after := #[], guard := none }) rfl (fun K hK => ?_) AllReadyH.nil)
      go_simp
      (go_at_call 37; refine (Hop.out w3.drew).mono ?_; rintro e w4 ⟨rfl, hb4⟩; have HB4 := Lib.hid (show Below w3.heap.size w3 w4 from ⟨hb4.os, hb4.tape, hb4.output, hb4.size, hb4.block⟩); clear hb4)
      go_simp
      have Hk4 := Lib.hid (Hk3.out.keep (HB4.out.block b Hk3.out.lt))
      refine hK.out _ _ (by exact ⟨HP.out.len _ _ _ _ _ _ Hk4.out, Hk4.out⟩) (fun hHeld => ?_)
      clear hK K
      try simp only [Act.put, List.setIfInBounds_toArray, List.set_cons_zero, List.set_cons_succ]
      refine wpAnyH_take (i := 10) (oi := { dst := some 41, op := Go.Op.move (Go.Operand.tmp 51), type := 84, pos := "frame.go:60", after := #[{ on := 9, ground := Go.Ground.data }], guard := none }) (v := ?_) rfl (by kernel_rfl) (by kernel_rfl) (by kernel_rfl) (fun _ _ _ h => h) (Or.inl ⟨by rfl, ?_⟩) (by assumption) ?_
      rotate_left
      · (intro w hSw; (try dsimp only at hSw); go_simp; (try with_reducible rfl))
      try simp only [Act.put, List.setIfInBounds_toArray, List.set_cons_zero, List.set_cons_succ]
      refine wpAnyH_take (i := 11) (oi := { dst := some 52, op := Go.Op.extract (Go.Operand.tmp 41) 0, type := 30, pos := "frame.go:60", after := #[{ on := 10, ground := Go.Ground.data }], guard := none }) (v := ?_) rfl (by kernel_rfl) (by kernel_rfl) (by kernel_rfl) (fun _ _ _ h => h) (Or.inl ⟨by rfl, ?_⟩) (by assumption) ?_
      rotate_left
      · (intro w hSw; (try dsimp only at hSw); go_simp; (try with_reducible rfl))
      try simp only [Act.put, List.setIfInBounds_toArray, List.set_cons_zero, List.set_cons_succ]
      refine wpAnyH_take (i := 12) (oi := { dst := some 53, op := Go.Op.extract (Go.Operand.tmp 41) 1, type := 31, pos := "frame.go:60", after := #[{ on := 10, ground := Go.Ground.data }, { on := 14, ground := Go.Ground.gcOnly Go.Departure.lateStores }], guard := none }) (v := ?_) rfl (by kernel_rfl) (by kernel_rfl) (by kernel_rfl) (fun _ _ _ h => h) (Or.inl ⟨by rfl, ?_⟩) (by assumption) ?_
      rotate_left
      · (intro w hSw; (try dsimp only at hSw); go_simp; (try with_reducible rfl))
      try simp only [Act.put, List.setIfInBounds_toArray, List.set_cons_zero, List.set_cons_succ]
      refine wpAnyH_ready (rs := [13]) (by kernel_rfl) (by simp) ?_
      refine AllReadyH.cons (o := { dst := some 8, op := Go.Op.alloc 30, type := 0, pos := "frame.go:60", after := #[], guard := none }) rfl (fun K hK => ?_) AllReadyH.nil
      go_simp
      refine hK.out _ _ (by exact ⟨HP.out.len _ _ _ _ _ _ (Hk4.out.keep (Below.heap_alloc _ _ _ Hk4.out.lt)), Hk4.out.keep (Below.heap_alloc _ _ _ Hk4.out.lt)⟩) (fun hHeld => ?_)
      clear hK K
      try simp only [Act.put, List.setIfInBounds_toArray, List.set_cons_zero, List.set_cons_succ]
      refine wpAnyH_ready (rs := [14]) (by kernel_rfl) (by simp) ?_
      refine AllReadyH.cons (o := { dst := none, op := Go.Op.store 30 (Go.Operand.tmp 8) (Go.Operand.tmp 52), type := 0, pos := "frame.go:60", after := #[{ on := 13, ground := Go.Ground.data }, { on := 11, ground := Go.Ground.data }, { on := 9, ground := Go.Ground.chain }, { on := 0, ground := Go.Ground.phase }, { on := 1, ground := Go.Ground.phase }, { on := 2, ground := Go.Ground.phase }, { on := 3, ground := Go.Ground.phase }, { on := 4, ground := Go.Ground.phase }, { on := 5, ground := Go.Ground.phase }, { on := 6, ground := Go.Ground.phase }, { on := 7, ground := Go.Ground.phase }, { on := 8, ground := Go.Ground.phase }, { on := 9, ground := Go.Ground.phase }, { on := 10, ground := Go.Ground.phase }, { on := 11, ground := Go.Ground.phase }, { on := 12, ground := Go.Ground.textOnly Go.Departure.lateStores }, { on := 13, ground := Go.Ground.phase }], guard := none }) rfl (fun K hK => ?_) AllReadyH.nil
      go_simp
      refine hK.out _ _ (by exact ⟨HP.out.len _ _ _ _ _ _ (Hk4.out.keep (Below.heap_alloc _ _ _ Hk4.out.lt)), Hk4.out.keep (Below.heap_alloc _ _ _ Hk4.out.lt)⟩) (fun hHeld => ?_)
      clear hK K
      try simp only [Act.put, List.setIfInBounds_toArray, List.set_cons_zero, List.set_cons_succ]
      refine wpAnyH_take (i := 15) (oi := { dst := some 9, op := Go.Op.assign (Go.Operand.tmp 53), type := 31, pos := "frame.go:60", after := #[{ on := 12, ground := Go.Ground.data }, { on := 14, ground := Go.Ground.chain }, { on := 0, ground := Go.Ground.phase }, { on := 1, ground := Go.Ground.phase }, { on := 2, ground := Go.Ground.phase }, { on := 3, ground := Go.Ground.phase }, { on := 4, ground := Go.Ground.phase }, { on := 5, ground := Go.Ground.phase }, { on := 6, ground := Go.Ground.phase }, { on := 7, ground := Go.Ground.phase }, { on := 8, ground := Go.Ground.phase }, { on := 9, ground := Go.Ground.phase }, { on := 10, ground := Go.Ground.phase }, { on := 11, ground := Go.Ground.phase }, { on := 12, ground := Go.Ground.phase }, { on := 13, ground := Go.Ground.phase }, { on := 14, ground := Go.Ground.phase }], guard := none }) (v := ?_) rfl (by kernel_rfl) (by kernel_rfl) (by kernel_rfl) (fun _ _ _ h => h) (Or.inl ⟨by rfl, ?_⟩) (by assumption) ?_
      rotate_left
      · (intro w hSw; (try dsimp only at hSw); go_simp; (try with_reducible rfl))
      try simp only [Act.put, List.setIfInBounds_toArray, List.set_cons_zero, List.set_cons_succ]
      refine wpAnyH_done (by kernel_rfl) ?_ _
      have hr4 := row_below Hr3.out HB4.out
      have hk5 := Hk4.out.keep (Below.heap_alloc w4 (.cells #[.int .i64 fk, .string fs] 30) _ Hk4.out.lt)
      have hr5 := hr4.alloc (.cells #[.int .i64 fk, .string fs] 30)
      have hx5 := (row_below Hx3.out HB4.out).alloc (.cells #[.int .i64 fk, .string fs] 30)
      have hf5 : Row (w4.alloc (.cells #[.int .i64 fk, .string fs] 30)) w4.heap.size 30 [.int .i64 fk, .string fs] := Row.new w4 _ _
      have hg5 := grown_alloc (HG3.out.trans (grown_below HB4.out (some b))) (.cells #[.int .i64 fk, .string fs] 30)
      have hlF : B + 1 < w4.heap.size := hr4.lt
      clear hHeld a1 a6 Hk3 Hr3 Hx3 HG3 HB4 Hk4 hr4 hcut htx Hop
      generalize w4.alloc (.cells #[.int .i64 fk, .string fs] 30) = w5 at *
      generalize w4.heap.size = F at *
      rotate_left
      go_simp
      refine hK.out _ _ (by exact ⟨HP.out.len _ _ _ _ _ _ (Hk3.out.keep (Below.heap_alloc _ _ _ Hk3.out.lt)), Hk3.out.keep (Below.heap_alloc _ _ _ Hk3.out.lt)⟩) (fun hHeld => ?_)
      clear hK K
      try simp only [Act.put, List.setIfInBounds_toArray, List.set_cons_zero, List.set_cons_succ]
      have hk3 := Hk3.out.keep (Below.heap_alloc w3 (.cells #[.int .i64 0, .string ⟨#[]⟩] 30) _ Hk3.out.lt)
      have hr3 := Hr3.out.alloc (.cells #[.int .i64 0, .string ⟨#[]⟩] 30)
      have hx3 := Hx3.out.alloc (.cells #[.int .i64 0, .string ⟨#[]⟩] 30)
      have hf3 : Row (w3.alloc (.cells #[.int .i64 0, .string ⟨#[]⟩] 30)) w3.heap.size 30 [.int .i64 0, .string ⟨#[]⟩] := Row.new w3 _ _
      have hg3 := grown_alloc HG3.out (.cells #[.int .i64 0, .string ⟨#[]⟩] 30)
      have hlF : B + 1 < w3.heap.size := Hr3.out.lt
      generalize hw3 : w3.alloc (.cells #[.int .i64 0, .string ⟨#[]⟩] 30) = wa at *
      have hFl := hf3.lt
      generalize w3.heap.size = F at *
      refine wpAnyH_ready (rs := [9]) (by kernel_rfl) (by simp) ?_
      refine AllReadyH.cons (o := { dst := some 51, op := Go.Op.call { callee := Go.Callee.value (Go.Operand.func 37), args := #[Go.Operand.tmp 50], argTypes := #[9] }, type := 84, pos := "frame.go:60", after := #[{ on := 8, ground := Go.Ground.data }], guard := none }) rfl (fun K hK => ?_) AllReadyH.nil
      go_simp
      (go_at_call 37; refine (Hop.out wa.drew).mono ?_; rintro e w4 ⟨rfl, hb4⟩; have HB4 := Lib.hid (show Below wa.heap.size wa w4 from ⟨hb4.os, hb4.tape, hb4.output, hb4.size, hb4.block⟩); clear hb4)
      go_simp
      refine hK.out _ _ (by exact ⟨HP.out.len _ _ _ _ _ _ (hk3.keep (HB4.out.block b hk3.lt)), hk3.keep (HB4.out.block b hk3.lt)⟩) (fun hHeld => ?_)
      clear hK K
      try simp only [Act.put, List.setIfInBounds_toArray, List.set_cons_zero, List.set_cons_succ]
      have hk4 := hk3.keep (HB4.out.block b hk3.lt)
      have hr4 := row_below hr3 HB4.out
      have hx4 := row_below hx3 HB4.out
      have hf4 := row_below hf3 HB4.out
      have hg4 := hg3.trans (grown_below HB4.out (some b))
      have y0 := hf4.cell 0
      have y1 := hf4.cell 1
      have y2 := hf4.free 0
      have y3 := hf4.free 1
      simp only [List.getElem?_cons_zero, List.getElem?_cons_succ] at y0 y1
      refine wpAnyH_take (i := 10) (oi := { dst := some 41, op := Go.Op.move (Go.Operand.tmp 51), type := 84, pos := "frame.go:60", after := #[{ on := 9, ground := Go.Ground.data }], guard := none }) (v := ?_) rfl (by kernel_rfl) (by kernel_rfl) (by kernel_rfl) (fun _ _ _ h => h) (Or.inl ⟨by rfl, ?_⟩) (by assumption) ?_
      rotate_left
      · (intro w hSw; (try dsimp only at hSw); go_simp; (try with_reducible rfl))
      try simp only [Act.put, List.setIfInBounds_toArray, List.set_cons_zero, List.set_cons_succ]
      refine wpAnyH_take (i := 11) (oi := { dst := some 52, op := Go.Op.extract (Go.Operand.tmp 41) 0, type := 30, pos := "frame.go:60", after := #[{ on := 10, ground := Go.Ground.data }], guard := none }) (v := ?_) rfl (by kernel_rfl) (by kernel_rfl) (by kernel_rfl) (fun _ _ _ h => h) (Or.inl ⟨by rfl, ?_⟩) (by assumption) ?_
      rotate_left
      · (intro w hSw; (try dsimp only at hSw); go_simp; (try with_reducible rfl))
      try simp only [Act.put, List.setIfInBounds_toArray, List.set_cons_zero, List.set_cons_succ]
      refine wpAnyH_take (i := 12) (oi := { dst := some 53, op := Go.Op.extract (Go.Operand.tmp 41) 1, type := 31, pos := "frame.go:60", after := #[{ on := 10, ground := Go.Ground.data }, { on := 14, ground := Go.Ground.gcOnly Go.Departure.lateStores }], guard := none }) (v := ?_) rfl (by kernel_rfl) (by kernel_rfl) (by kernel_rfl) (fun _ _ _ h => h) (Or.inl ⟨by rfl, ?_⟩) (by assumption) ?_
      rotate_left
      · (intro w hSw; (try dsimp only at hSw); go_simp; (try with_reducible rfl))
      try simp only [Act.put, List.setIfInBounds_toArray, List.set_cons_zero, List.set_cons_succ]
      refine wpAnyH_ready (rs := [14]) (by kernel_rfl) (by simp) ?_
      refine AllReadyH.cons (o := { dst := none, op := Go.Op.store 30 (Go.Operand.tmp 8) (Go.Operand.tmp 52), type := 0, pos := "frame.go:60", after := #[{ on := 13, ground := Go.Ground.data }, { on := 11, ground := Go.Ground.data }, { on := 9, ground := Go.Ground.chain }, { on := 0, ground := Go.Ground.phase }, { on := 1, ground := Go.Ground.phase }, { on := 2, ground := Go.Ground.phase }, { on := 3, ground := Go.Ground.phase }, { on := 4, ground := Go.Ground.phase }, { on := 5, ground := Go.Ground.phase }, { on := 6, ground := Go.Ground.phase }, { on := 7, ground := Go.Ground.phase }, { on := 8, ground := Go.Ground.phase }, { on := 9, ground := Go.Ground.phase }, { on := 10, ground := Go.Ground.phase }, { on := 11, ground := Go.Ground.phase }, { on := 12, ground := Go.Ground.textOnly Go.Departure.lateStores }, { on := 13, ground := Go.Ground.phase }], guard := none }) rfl (fun K hK => ?_) AllReadyH.nil
      go_simp
      refine hK.out _ _ (by exact ⟨HP.out.len _ _ _ _ _ _ (hk4.keep ((Below.heap_setCell _ ⟨F, 1, none⟩ _ b (by show b ≠ F; omega)).trans (Below.heap_setCell _ ⟨F, 0, none⟩ _ b (by show b ≠ F; omega)))), hk4.keep ((Below.heap_setCell _ ⟨F, 1, none⟩ _ b (by show b ≠ F; omega)).trans (Below.heap_setCell _ ⟨F, 0, none⟩ _ b (by show b ≠ F; omega)))⟩) (fun hHeld => ?_)
      clear hK K
      try simp only [Act.put, List.setIfInBounds_toArray, List.set_cons_zero, List.set_cons_succ]
      refine wpAnyH_take (i := 15) (oi := { dst := some 9, op := Go.Op.assign (Go.Operand.tmp 53), type := 31, pos := "frame.go:60", after := #[{ on := 12, ground := Go.Ground.data }, { on := 14, ground := Go.Ground.chain }, { on := 0, ground := Go.Ground.phase }, { on := 1, ground := Go.Ground.phase }, { on := 2, ground := Go.Ground.phase }, { on := 3, ground := Go.Ground.phase }, { on := 4, ground := Go.Ground.phase }, { on := 5, ground := Go.Ground.phase }, { on := 6, ground := Go.Ground.phase }, { on := 7, ground := Go.Ground.phase }, { on := 8, ground := Go.Ground.phase }, { on := 9, ground := Go.Ground.phase }, { on := 10, ground := Go.Ground.phase }, { on := 11, ground := Go.Ground.phase }, { on := 12, ground := Go.Ground.phase }, { on := 13, ground := Go.Ground.phase }, { on := 14, ground := Go.Ground.phase }], guard := none }) (v := ?_) rfl (by kernel_rfl) (by kernel_rfl) (by kernel_rfl) (fun _ _ _ h => h) (Or.inl ⟨by rfl, ?_⟩) (by assumption) ?_
      rotate_left
      · (intro w hSw; (try dsimp only at hSw); go_simp; (try with_reducible rfl))
      try simp only [Act.put, List.setIfInBounds_toArray, List.set_cons_zero, List.set_cons_succ]
      refine wpAnyH_done (by kernel_rfl) ?_ _
      have hk5 := hk4.keep ((Below.heap_setCell _ ⟨F, 1, none⟩ (.string fs) b (by show b ≠ F; omega)).trans (Below.heap_setCell _ ⟨F, 0, none⟩ (.int .i64 fk) b (by show b ≠ F; omega)))
      have hr5 := (hr4.far (p := ⟨F, 0, none⟩) (by show B + 1 ≠ F; omega) (.int .i64 fk)).far (p := ⟨F, 1, none⟩) (by show B + 1 ≠ F; omega) (.string fs)
      have hx5 := (hx4.far (p := ⟨F, 0, none⟩) (by show B ≠ F; omega) (.int .i64 fk)).far (p := ⟨F, 1, none⟩) (by show B ≠ F; omega) (.string fs)
      have hf5 := fr_row hf4 rfl fk fs
      have hg5 := grown_setN (grown_setN hg4 (g := F) (by have := HB.out; have := HW.out; omega) 0 (.int .i64 fk)) (g := F) (by have := HB.out; have := HW.out; omega) 1 (.string fs)
      clear hHeld a1 a6 Hk3 Hr3 Hx3 HG3 HB4 hk4 hr4 hx4 hf4 hg4 hk3 hr3 hx3 hf3 hg3 hw3 hFl y0 y1 y2 y3 hcut htx Hop
      generalize (w4.setCell ⟨F, 0, none⟩ (.int .i64 fk)).setCell ⟨F, 1, none⟩ (.string fs) = w5 at *
      skip
      all_goals
        rw [he] at hk5
        have Hk5 := Lib.hid hk5
        have Hr5 := Lib.hid hr5
        have Hx5 := Lib.hid hx5
        have Hf5 := Lib.hid hf5
        have HG5 := Lib.hid hg5
        have x1 := hx5.cell 1
        have x2 := hx5.cell 2
        simp only [List.getElem?_cons_zero, List.getElem?_cons_succ] at x1 x2
        clear hk5 hr5 hx5 hf5 hg5
        by_cases ho : oe = 0
        · have ho2 : ((oe : Int) != 0) = false := by rw [ho]; simp
          cases s with
          | false =>
            go_wp2_with fail
            go_quiet (fail)
            have Hk6 : Hid (CuR (w5.drewN nq) b s' z h' n' c' 0) := Lib.hid Hk5.out
            have Hr6 : Hid (Row (w5.drewN nq) (B + 1) 30 [.int .i64 0, .string ⟨#[]⟩]) := Lib.hid Hr5.out
            have HG6 : Hid (w.grownBy (w5.drewN nq) (some b)) := Lib.hid (grown_drewN HG5.out nq)
            clear x1 x2 Hk5 Hr5 Hx5 HG5 Hf5
            generalize w5.drewN nq = w6 at *
            have HQ := Lib.hid (HP.out.no he hm (fun h => by cases h.2.1))
            have a6 := Hk6.out.cells.2.2.2.2.2.1
            have f6 := Hk6.out.cells.2.2.2.2.2.2.1 916
            go_upto_region 10 with fail
            have hk8 := Hk6.out.setE 4
            have hr8 := Hr6.out.far (p := ⟨b, 916, none⟩) (by show B + 1 ≠ b; omega) (.int .i64 4)
            have hg8 := grown_set HG6.out 916 (.int .i64 4)
            rw [show ((4 : Nat) : Int) = 4 from rfl] at hk8
            clear a6 f6
            generalize w6.setCell ⟨b, 916, none⟩ (.int .i64 4) = w8 at *
            have a6 := hk8.cells.2.2.2.2.2.1
            rw [show ((4 : Nat) : Int) = 4 from rfl] at a6
            have Hk8 := Lib.hid hk8
            have Hr8 := Lib.hid hr8
            have HG8 := Lib.hid hg8
            clear hk8 hr8 hg8
            have r0 := Hr8.out.cell 0
            have r1 := Hr8.out.cell 1
            have g0 := Hr8.out.free 0
            have g1 := Hr8.out.free 1
            simp only [List.getElem?_cons_zero, List.getElem?_cons_succ] at r0 r1
            go_wp2_with fail
            refine wp_region_held_drew (S := (fun W : World => W.cell? ⟨b, 916, none⟩ = some (.int .i64 4))) (by kernel_rfl) (by exact a6) (fun hHeld => ?_)
            refine wpAnyH_take (i := 0) (oi := { dst := some 74, op := Go.Op.build 30 #[], type := 30, pos := "frame.go:63", after := #[], guard := none }) (v := ?_) rfl (by kernel_rfl) (by kernel_rfl) (by kernel_rfl) (fun _ _ _ h => h) (Or.inl ⟨by rfl, ?_⟩) (by assumption) ?_
            rotate_left
            · (intro w hSw; (try dsimp only at hSw); go_simp; (try with_reducible rfl))
            try simp only [Act.put, List.setIfInBounds_toArray, List.set_cons_zero, List.set_cons_succ]
            refine wpAnyH_take (i := 1) (oi := { dst := some 75, op := Go.Op.move (Go.Operand.tmp 0), type := 27, pos := "frame.go:63", after := #[{ on := 6, ground := Go.Ground.gcOnly Go.Departure.lateStores }], guard := none }) (v := ?_) rfl (by kernel_rfl) (by kernel_rfl) (by kernel_rfl) (fun _ _ _ h => h) (Or.inl ⟨by rfl, ?_⟩) (by assumption) ?_
            rotate_left
            · (intro w hSw; (try dsimp only at hSw); go_simp; (try with_reducible rfl))
            try simp only [Act.put, List.setIfInBounds_toArray, List.set_cons_zero, List.set_cons_succ]
            refine wpAnyH_take (i := 2) (oi := { dst := some 76, op := Go.Op.nilCheck (Go.Operand.tmp 75), type := 0, pos := "frame.go:63", after := #[{ on := 1, ground := Go.Ground.data }, { on := 6, ground := Go.Ground.gcOnly Go.Departure.lateStores }], guard := none }) (v := ?_) rfl (by kernel_rfl) (by kernel_rfl) (by kernel_rfl) (fun _ _ _ h => h) (Or.inl ⟨by rfl, ?_⟩) (by assumption) ?_
            rotate_left
            · (intro w hSw; (try dsimp only at hSw); go_simp; (try with_reducible rfl))
            try simp only [Act.put, List.setIfInBounds_toArray, List.set_cons_zero, List.set_cons_succ]
            refine wpAnyH_take (i := 3) (oi := { dst := some 77, op := Go.Op.fieldAddr 72 (Go.Operand.tmp 76) 5, type := 0, pos := "frame.go:63", after := #[{ on := 2, ground := Go.Ground.data }, { on := 6, ground := Go.Ground.gcOnly Go.Departure.lateStores }], guard := none }) (v := ?_) rfl (by kernel_rfl) (by kernel_rfl) (by kernel_rfl) (fun _ _ _ h => h) (Or.inl ⟨by rfl, ?_⟩) (by assumption) ?_
            rotate_left
            · (intro w hSw; (try dsimp only at hSw); go_simp; (try with_reducible rfl))
            try simp only [Act.put, List.setIfInBounds_toArray, List.set_cons_zero, List.set_cons_succ]
            refine wpAnyH_take (i := 4) (oi := { dst := some 78, op := Go.Op.load 31 (Go.Operand.tmp 77), type := 31, pos := "frame.go:63", after := #[{ on := 3, ground := Go.Ground.data }, { on := 6, ground := Go.Ground.gcOnly Go.Departure.lateStores }], guard := none }) (v := ?_) rfl (by kernel_rfl) (by kernel_rfl) (by kernel_rfl) (fun _ _ _ h => h) (Or.inl ⟨by rfl, ?_⟩) (by assumption) ?_
            rotate_left
            · (intro w hSw; (try dsimp only at hSw); go_simp; (try with_reducible rfl))
            try simp only [Act.put, List.setIfInBounds_toArray, List.set_cons_zero, List.set_cons_succ]
            refine wpAnyH_ready (rs := [5]) (by kernel_rfl) (by simp) ?_
            refine AllReadyH.cons (o := { dst := none, op := Go.Op.store 30 (Go.Operand.tmp 4) (Go.Operand.tmp 74), type := 0, pos := "frame.go:63", after := #[{ on := 0, ground := Go.Ground.data }, { on := 0, ground := Go.Ground.phase }, { on := 1, ground := Go.Ground.textOnly Go.Departure.lateStores }, { on := 2, ground := Go.Ground.textOnly Go.Departure.lateStores }, { on := 3, ground := Go.Ground.textOnly Go.Departure.lateStores }, { on := 4, ground := Go.Ground.textOnly Go.Departure.lateStores }], guard := none }) rfl (fun K hK => ?_) AllReadyH.nil
            go_simp
            refine hK.out _ _ (by exact (World.cell?_of_block ((Below.heap_setCell _ ⟨B + 1, 1, none⟩ _ b (by show b ≠ B + 1; omega)).trans (Below.heap_setCell _ ⟨B + 1, 0, none⟩ _ b (by show b ≠ B + 1; omega)))).trans a6) (fun hHeld => ?_)
            clear hK K
            try simp only [Act.put, List.setIfInBounds_toArray, List.set_cons_zero, List.set_cons_succ]
            refine wpAnyH_take (i := 6) (oi := { dst := some 5, op := Go.Op.assign (Go.Operand.const (Go.Value.bool false)), type := 4, pos := "frame.go:63", after := #[{ on := 5, ground := Go.Ground.chain }, { on := 0, ground := Go.Ground.phase }, { on := 1, ground := Go.Ground.textOnly Go.Departure.lateStores }, { on := 2, ground := Go.Ground.textOnly Go.Departure.lateStores }, { on := 3, ground := Go.Ground.textOnly Go.Departure.lateStores }, { on := 4, ground := Go.Ground.textOnly Go.Departure.lateStores }, { on := 5, ground := Go.Ground.phase }], guard := none }) (v := ?_) rfl (by kernel_rfl) (by kernel_rfl) (by kernel_rfl) (fun _ _ _ h => h) (Or.inl ⟨by rfl, ?_⟩) (by assumption) ?_
            rotate_left
            · (intro w hSw; (try dsimp only at hSw); go_simp; (try with_reducible rfl))
            try simp only [Act.put, List.setIfInBounds_toArray, List.set_cons_zero, List.set_cons_succ]
            refine wpAnyH_take (i := 7) (oi := { dst := some 6, op := Go.Op.assign (Go.Operand.tmp 78), type := 31, pos := "frame.go:63", after := #[{ on := 4, ground := Go.Ground.data }, { on := 6, ground := Go.Ground.chain }, { on := 0, ground := Go.Ground.phase }, { on := 1, ground := Go.Ground.phase }, { on := 2, ground := Go.Ground.phase }, { on := 3, ground := Go.Ground.phase }, { on := 4, ground := Go.Ground.phase }, { on := 5, ground := Go.Ground.phase }, { on := 6, ground := Go.Ground.phase }], guard := none }) (v := ?_) rfl (by kernel_rfl) (by kernel_rfl) (by kernel_rfl) (fun _ _ _ h => h) (Or.inl ⟨by rfl, ?_⟩) (by assumption) ?_
            rotate_left
            · (intro w hSw; (try dsimp only at hSw); go_simp; (try with_reducible rfl))
            try simp only [Act.put, List.setIfInBounds_toArray, List.set_cons_zero, List.set_cons_succ]
            refine wpAnyH_done (by kernel_rfl) ?_ _
            have hr7 := fr_row Hr8.out rfl 0 ⟨#[]⟩
            have s0 : ((w8.setCell ⟨B + 1, 0, none⟩ (.int .i64 0)).setCell ⟨B + 1, 1, none⟩ (.string ⟨#[]⟩)).drew.cell? ⟨B + 1, 0, none⟩ = _ := hr7.cell 0
            have s1 : ((w8.setCell ⟨B + 1, 0, none⟩ (.int .i64 0)).setCell ⟨B + 1, 1, none⟩ (.string ⟨#[]⟩)).drew.cell? ⟨B + 1, 1, none⟩ = _ := hr7.cell 1
            simp only [List.getElem?_cons_zero, List.getElem?_cons_succ] at s0 s1
            have Hk9 : Hid (CuR ((w8.setCell ⟨B + 1, 0, none⟩ (.int .i64 0)).setCell ⟨B + 1, 1, none⟩ (.string ⟨#[]⟩)).drew b s' z h' n' c' 4) := Lib.hid (Hk8.out.keep ((Below.heap_setCell _ ⟨B + 1, 1, none⟩ _ b (by show b ≠ B + 1; omega)).trans (Below.heap_setCell _ ⟨B + 1, 0, none⟩ _ b (by show b ≠ B + 1; omega))))
            have HG9 : Hid (w.grownBy ((w8.setCell ⟨B + 1, 0, none⟩ (.int .i64 0)).setCell ⟨B + 1, 1, none⟩ (.string ⟨#[]⟩)).drew (some b)) := Lib.hid (grown_drew (grown_setN (grown_setN HG8.out (by have := HB.out; omega) 0 (.int .i64 0)) (by have := HB.out; omega) 1 (.string ⟨#[]⟩)))
            clear hr7 r0 r1 g0 g1 a6 hHeld
            generalize ((w8.setCell ⟨B + 1, 0, none⟩ (.int .i64 0)).setCell ⟨B + 1, 1, none⟩ (.string ⟨#[]⟩)).drew = w9 at *
            have S0 := Lib.hid s0
            have S1 := Lib.hid s1
            clear s0 s1
            go_wp2
            have s0 := S0.out
            have s1 := S1.out
            refine bodyPost_ret (v := .tuple #[.agg #[.int .i64 0, .string ⟨#[]⟩], .bool false, .int .i64 4]) (by simp [results, Try.results19, go_sem, s0, s1]) rfl ⟨congrArg Ending.returned (HQ.out).1.symm, (HQ.out).2 _ Hk9.out, HG9.out⟩
          | true =>
            have a3 := Hk5.out.cells.2.2.1
            have a4 := Hk5.out.cells.2.2.2.1
            go_wp2_with fail
            refine wp_region_held_drew (S := (fun W : World => W.cell? ⟨B, 1, none⟩ = some (.int .u64 (sl : Int)) ∧ W.cell? ⟨B, 2, none⟩ = some (.bool true) ∧ W.cell? ⟨b, 913, none⟩ = some (.int .u64 (h' : Int)) ∧ W.cell? ⟨b, 914, none⟩ = some (.int .u64 (n' : Int)))) (by kernel_rfl) (by exact ⟨x1, x2, a3, a4⟩) (fun hHeld => ?_)
            refine wpAnyH_take (i := 0) (oi := { dst := some 54, op := Go.Op.move (Go.Operand.tmp 9), type := 31, pos := "frame.go:61", after := #[], guard := none }) (v := ?_) rfl (by kernel_rfl) (by kernel_rfl) (by kernel_rfl) (fun _ _ _ h => h) (Or.inl ⟨by rfl, ?_⟩) (by assumption) ?_
            rotate_left
            · (intro w hSw; (try dsimp only at hSw); go_simp; (try with_reducible rfl))
            try simp only [Act.put, List.setIfInBounds_toArray, List.set_cons_zero, List.set_cons_succ]
            refine wpAnyH_take (i := 1) (oi := { dst := some 55, op := Go.Op.binOp Go.BinOp.neq 31 (Go.Operand.tmp 54) (Go.Operand.const (Go.Value.int Go.IntKind.i64 0)) 31, type := 4, pos := "frame.go:61", after := #[{ on := 0, ground := Go.Ground.data }], guard := none }) (v := ?_) rfl (by kernel_rfl) (by kernel_rfl) (by kernel_rfl) (fun _ _ _ h => h) (Or.inl ⟨by rfl, ?_⟩) (by assumption) ?_
            rotate_left
            · (intro w hSw; (try dsimp only at hSw); go_simp; (try with_reducible rfl))
            try simp only [Act.put, List.setIfInBounds_toArray, List.set_cons_zero, List.set_cons_succ]
            refine wpAnyH_take (i := 2) (oi := { dst := some 56, op := Go.Op.move (Go.Operand.tmp 55), type := 4, pos := "frame.go:61", after := #[{ on := 1, ground := Go.Ground.data }], guard := none }) (v := ?_) rfl (by kernel_rfl) (by kernel_rfl) (by kernel_rfl) (fun _ _ _ h => h) (Or.inl ⟨by rfl, ?_⟩) (by assumption) ?_
            rotate_left
            · (intro w hSw; (try dsimp only at hSw); go_simp; (try with_reducible rfl))
            try simp only [Act.put, List.setIfInBounds_toArray, List.set_cons_zero, List.set_cons_succ]
            refine wpAnyH_take (i := 3) (oi := { dst := some 57, op := Go.Op.fieldAddr 47 (Go.Operand.tmp 3) 2, type := 0, pos := "frame.go:61", after := #[{ on := 2, ground := Go.Ground.guard }], guard := some (2, false) }) (v := ?_) rfl (by kernel_rfl) (by kernel_rfl) (by kernel_rfl) (fun _ _ _ h => h) (Or.inl ⟨by rfl, ?_⟩) (by assumption) ?_
            rotate_left
            · (intro w hSw; (try dsimp only at hSw); go_simp; (try with_reducible rfl))
            try simp only [Act.put, List.setIfInBounds_toArray, List.set_cons_zero, List.set_cons_succ]
            refine wpAnyH_take (i := 4) (oi := { dst := some 58, op := Go.Op.load 4 (Go.Operand.tmp 57), type := 4, pos := "frame.go:61", after := #[{ on := 3, ground := Go.Ground.data }, { on := 2, ground := Go.Ground.guard }], guard := some (2, false) }) (v := ?_) rfl (by kernel_rfl) (by kernel_rfl) (by kernel_rfl) (fun _ _ _ h => h) (Or.inl ⟨by rfl, ?_⟩) (by assumption) ?_
            rotate_left
            · (intro w hSw; (try dsimp only at hSw); go_simp; (try with_reducible rfl))
            try simp only [Act.put, List.setIfInBounds_toArray, List.set_cons_zero, List.set_cons_succ]
            refine wpAnyH_take (i := 5) (oi := { dst := some 59, op := Go.Op.unOp Go.UnOp.not 4 (Go.Operand.tmp 58), type := 4, pos := "frame.go:61", after := #[{ on := 4, ground := Go.Ground.data }, { on := 2, ground := Go.Ground.guard }], guard := some (2, false) }) (v := ?_) rfl (by kernel_rfl) (by kernel_rfl) (by kernel_rfl) (fun _ _ _ h => h) (Or.inl ⟨by rfl, ?_⟩) (by assumption) ?_
            rotate_left
            · (intro w hSw; (try dsimp only at hSw); go_simp; (try with_reducible rfl))
            try simp only [Act.put, List.setIfInBounds_toArray, List.set_cons_zero, List.set_cons_succ]
            refine wpAnyH_take (i := 6) (oi := { dst := some 60, op := Go.Op.pick (Go.Operand.tmp 56) (Go.Operand.const (Go.Value.bool true)) (Go.Operand.tmp 59), type := 4, pos := "frame.go:61", after := #[{ on := 2, ground := Go.Ground.data }, { on := 5, ground := Go.Ground.data }], guard := none }) (v := ?_) rfl (by kernel_rfl) (by kernel_rfl) (by kernel_rfl) (fun _ _ _ h => h) (Or.inl ⟨by rfl, ?_⟩) (by assumption) ?_
            rotate_left
            · (intro w hSw; (try dsimp only at hSw); go_simp; (try with_reducible rfl))
            try simp only [Act.put, List.setIfInBounds_toArray, List.set_cons_zero, List.set_cons_succ]
            refine wpAnyH_take (i := 7) (oi := { dst := some 61, op := Go.Op.move (Go.Operand.tmp 60), type := 4, pos := "frame.go:61", after := #[{ on := 6, ground := Go.Ground.data }, { on := 2, ground := Go.Ground.chain }], guard := none }) (v := ?_) rfl (by kernel_rfl) (by kernel_rfl) (by kernel_rfl) (fun _ _ _ h => h) (Or.inl ⟨by rfl, ?_⟩) (by assumption) ?_
            rotate_left
            · (intro w hSw; (try dsimp only at hSw); go_simp; (try with_reducible rfl))
            try simp only [Act.put, List.setIfInBounds_toArray, List.set_cons_zero, List.set_cons_succ]
            refine wpAnyH_take (i := 8) (oi := { dst := some 62, op := Go.Op.fieldAddr 47 (Go.Operand.tmp 3) 1, type := 0, pos := "frame.go:61", after := #[{ on := 7, ground := Go.Ground.guard }], guard := some (7, false) }) (v := ?_) rfl (by kernel_rfl) (by kernel_rfl) (by kernel_rfl) (fun _ _ _ h => h) (Or.inl ⟨by rfl, ?_⟩) (by assumption) ?_
            rotate_left
            · (intro w hSw; (try dsimp only at hSw); go_simp; (try with_reducible rfl))
            try simp only [Act.put, List.setIfInBounds_toArray, List.set_cons_zero, List.set_cons_succ]
            refine wpAnyH_take (i := 9) (oi := { dst := some 63, op := Go.Op.load 45 (Go.Operand.tmp 62), type := 45, pos := "frame.go:61", after := #[{ on := 8, ground := Go.Ground.data }, { on := 7, ground := Go.Ground.guard }], guard := some (7, false) }) (v := ?_) rfl (by kernel_rfl) (by kernel_rfl) (by kernel_rfl) (fun _ _ _ h => h) (Or.inl ⟨by rfl, ?_⟩) (by assumption) ?_
            rotate_left
            · (intro w hSw; (try dsimp only at hSw); go_simp; (try with_reducible rfl))
            try simp only [Act.put, List.setIfInBounds_toArray, List.set_cons_zero, List.set_cons_succ]
            refine wpAnyH_take (i := 10) (oi := { dst := some 64, op := Go.Op.move (Go.Operand.tmp 0), type := 27, pos := "frame.go:61", after := #[{ on := 7, ground := Go.Ground.guard }], guard := some (7, false) }) (v := ?_) rfl (by kernel_rfl) (by kernel_rfl) (by kernel_rfl) (fun _ _ _ h => h) (Or.inl ⟨by rfl, ?_⟩) (by assumption) ?_
            rotate_left
            · (intro w hSw; (try dsimp only at hSw); go_simp; (try with_reducible rfl))
            try simp only [Act.put, List.setIfInBounds_toArray, List.set_cons_zero, List.set_cons_succ]
            refine wpAnyH_take (i := 11) (oi := { dst := some 65, op := Go.Op.nilCheck (Go.Operand.tmp 64), type := 0, pos := "frame.go:61", after := #[{ on := 10, ground := Go.Ground.data }, { on := 7, ground := Go.Ground.guard }], guard := some (7, false) }) (v := ?_) rfl (by kernel_rfl) (by kernel_rfl) (by kernel_rfl) (fun _ _ _ h => h) (Or.inl ⟨by rfl, ?_⟩) (by assumption) ?_
            rotate_left
            · (intro w hSw; (try dsimp only at hSw); go_simp; (try with_reducible rfl))
            try simp only [Act.put, List.setIfInBounds_toArray, List.set_cons_zero, List.set_cons_succ]
            refine wpAnyH_take (i := 12) (oi := { dst := some 66, op := Go.Op.fieldAddr 72 (Go.Operand.tmp 65) 3, type := 0, pos := "frame.go:61", after := #[{ on := 11, ground := Go.Ground.data }, { on := 7, ground := Go.Ground.guard }], guard := some (7, false) }) (v := ?_) rfl (by kernel_rfl) (by kernel_rfl) (by kernel_rfl) (fun _ _ _ h => h) (Or.inl ⟨by rfl, ?_⟩) (by assumption) ?_
            rotate_left
            · (intro w hSw; (try dsimp only at hSw); go_simp; (try with_reducible rfl))
            try simp only [Act.put, List.setIfInBounds_toArray, List.set_cons_zero, List.set_cons_succ]
            refine wpAnyH_take (i := 13) (oi := { dst := some 67, op := Go.Op.load 63 (Go.Operand.tmp 66), type := 63, pos := "frame.go:61", after := #[{ on := 12, ground := Go.Ground.data }, { on := 7, ground := Go.Ground.guard }], guard := some (7, false) }) (v := ?_) rfl (by kernel_rfl) (by kernel_rfl) (by kernel_rfl) (fun _ _ _ h => h) (Or.inl ⟨by rfl, ?_⟩) (by assumption) ?_
            rotate_left
            · (intro w hSw; (try dsimp only at hSw); go_simp; (try with_reducible rfl))
            try simp only [Act.put, List.setIfInBounds_toArray, List.set_cons_zero, List.set_cons_succ]
            refine wpAnyH_ready (rs := [14]) (by kernel_rfl) (by simp) ?_
            refine AllReadyH.cons (o := { dst := some 68, op := Go.Op.call { callee := Go.Callee.value (Go.Operand.func 38), args := #[Go.Operand.tmp 67], argTypes := #[63] }, type := 45, pos := "frame.go:61", after := #[{ on := 13, ground := Go.Ground.data }, { on := 7, ground := Go.Ground.chain }, { on := 7, ground := Go.Ground.guard }], guard := some (7, false) }) rfl (fun K hK => ?_) AllReadyH.nil
            go_simp
            (go_at_call 38; refine (HP.out.sum w5.drew).mono ?_; rintro e w6 ⟨rfl, hb6⟩; have HB6 := Lib.hid (show Below w5.heap.size w5 w6 from ⟨hb6.os, hb6.tape, hb6.output, hb6.size, hb6.block⟩); clear hb6)
            go_simp
            refine hK.out _ _ (by exact ⟨(HB6.out.cell (p := ⟨B, 1, none⟩) Hx5.out.lt).trans x1, (HB6.out.cell (p := ⟨B, 2, none⟩) Hx5.out.lt).trans x2, (HB6.out.cell (p := ⟨b, 913, none⟩) Hk5.out.lt).trans a3, (HB6.out.cell (p := ⟨b, 914, none⟩) Hk5.out.lt).trans a4⟩) (fun hHeld => ?_)
            clear hK K
            try simp only [Act.put, List.setIfInBounds_toArray, List.set_cons_zero, List.set_cons_succ]
            refine wpAnyH_take (i := 15) (oi := { dst := some 69, op := Go.Op.binOp Go.BinOp.neq 45 (Go.Operand.tmp 63) (Go.Operand.tmp 68) 45, type := 4, pos := "frame.go:61", after := #[{ on := 9, ground := Go.Ground.data }, { on := 14, ground := Go.Ground.data }, { on := 7, ground := Go.Ground.guard }], guard := some (7, false) }) (v := ?_) rfl (by kernel_rfl) (by kernel_rfl) (by kernel_rfl) (fun _ _ _ h => h) (Or.inl ⟨by rfl, ?_⟩) (by assumption) ?_
            rotate_left
            · (intro w hSw; (try dsimp only at hSw); go_simp; (try with_reducible rfl))
            try simp only [Act.put, List.setIfInBounds_toArray, List.set_cons_zero, List.set_cons_succ]
            refine wpAnyH_take (i := 16) (oi := { dst := some 70, op := Go.Op.pick (Go.Operand.tmp 61) (Go.Operand.const (Go.Value.bool true)) (Go.Operand.tmp 69), type := 4, pos := "frame.go:61", after := #[{ on := 7, ground := Go.Ground.data }, { on := 15, ground := Go.Ground.data }], guard := none }) (v := ?_) rfl (by kernel_rfl) (by kernel_rfl) (by kernel_rfl) (fun _ _ _ h => h) (Or.inl ⟨by rfl, ?_⟩) (by assumption) ?_
            rotate_left
            · (intro w hSw; (try dsimp only at hSw); go_simp; (try with_reducible rfl))
            try simp only [Act.put, List.setIfInBounds_toArray, List.set_cons_zero, List.set_cons_succ]
            refine wpAnyH_done (by kernel_rfl) ?_ _
            have Hk6 := Lib.hid (Hk5.out.keep (HB6.out.block b Hk5.out.lt))
            have Hr6 := Lib.hid (row_below Hr5.out HB6.out)
            have Hf6 := Lib.hid (row_below Hf5.out HB6.out)
            have HG6 := Lib.hid (HG5.out.trans (grown_below HB6.out (some b)))
            clear hHeld x1 x2 a3 a4 Hk5 Hr5 Hx5 HG5 Hf5 HB6
            by_cases hv : sl = sm
            · have hv2 : ((sl : Int) != (sm : Int)) = false := by rw [hv]; simp
              have HQ := Lib.hid (HP.out.yes he hm ⟨ho, rfl, hv⟩)
              have a1 := Hk6.out.cells.1
              have f1 := Hk6.out.cells.2.2.2.2.2.2.1 911
              go_upto_region 12 with fail
              have hk7 := Hk6.out.setN
              have hr7 := Hr6.out.far (p := ⟨b, 911, none⟩) (by show B + 1 ≠ b; omega) (.int .i64 0)
              have hf7 := Hf6.out.far (p := ⟨b, 911, none⟩) (by show F ≠ b; omega) (.int .i64 0)
              have hg7 := grown_set HG6.out 911 (.int .i64 0)
              clear a1 f1
              generalize w6.setCell ⟨b, 911, none⟩ (.int .i64 0) = w7 at *
              have r0 := hr7.cell 0
              have r1 := hr7.cell 1
              have g0 := hr7.free 0
              have g1 := hr7.free 1
              have q0 := hf7.cell 0
              have q1 := hf7.cell 1
              simp only [List.getElem?_cons_zero, List.getElem?_cons_succ] at r0 r1 q0 q1
              have hr9 := fr_row hr7 rfl fk fs
              have s0 := hr9.cell 0
              have s1 := hr9.cell 1
              simp only [List.getElem?_cons_zero, List.getElem?_cons_succ] at s0 s1
              have S0 := Lib.hid s0
              have S1 := Lib.hid s1
              have Hk9 := Lib.hid (hk7.keep ((Below.heap_setCell _ ⟨B + 1, 1, none⟩ (.string fs) b (by show b ≠ B + 1; omega)).trans (Below.heap_setCell _ ⟨B + 1, 0, none⟩ (.int .i64 fk) b (by show b ≠ B + 1; omega))))
              have HG9 := Lib.hid (grown_setN (grown_setN hg7 (g := B + 1) (by have := HB.out; omega) 0 (.int .i64 fk)) (g := B + 1) (by have := HB.out; omega) 1 (.string fs))
              clear s0 s1 hr9 hk7 hr7 hf7 hg7
              go_wp2
              have s0 := S0.out
              have s1 := S1.out
              refine bodyPost_ret (v := .tuple #[.agg #[.int .i64 fk, .string fs], .bool true, .int .i64 0]) (by simp [results, Try.results19, go_sem, s0, s1]) rfl ⟨congrArg Ending.returned HQ.out.1.symm, HQ.out.2 _ Hk9.out, HG9.out⟩
            · have hv2 : ((sl : Int) != (sm : Int)) = true := by simp; omega
              have HQ := Lib.hid (HP.out.no he hm (fun h => hv h.2.2))
              have a6 := Hk6.out.cells.2.2.2.2.2.1
              have f6 := Hk6.out.cells.2.2.2.2.2.2.1 916
              go_upto_region 10 with fail
              have hk8 := Hk6.out.setE 4
              have hr8 := Hr6.out.far (p := ⟨b, 916, none⟩) (by show B + 1 ≠ b; omega) (.int .i64 4)
              have hg8 := grown_set HG6.out 916 (.int .i64 4)
              rw [show ((4 : Nat) : Int) = 4 from rfl] at hk8
              clear a6 f6
              generalize w6.setCell ⟨b, 916, none⟩ (.int .i64 4) = w8 at *
              have a6 := hk8.cells.2.2.2.2.2.1
              rw [show ((4 : Nat) : Int) = 4 from rfl] at a6
              have Hk8 := Lib.hid hk8
              have Hr8 := Lib.hid hr8
              have HG8 := Lib.hid hg8
              clear hk8 hr8 hg8
              have r0 := Hr8.out.cell 0
              have r1 := Hr8.out.cell 1
              have g0 := Hr8.out.free 0
              have g1 := Hr8.out.free 1
              simp only [List.getElem?_cons_zero, List.getElem?_cons_succ] at r0 r1
              go_wp2_with fail
              refine wp_region_held_drew (S := (fun W : World => W.cell? ⟨b, 916, none⟩ = some (.int .i64 4))) (by kernel_rfl) (by exact a6) (fun hHeld => ?_)
              refine wpAnyH_take (i := 0) (oi := { dst := some 74, op := Go.Op.build 30 #[], type := 30, pos := "frame.go:63", after := #[], guard := none }) (v := ?_) rfl (by kernel_rfl) (by kernel_rfl) (by kernel_rfl) (fun _ _ _ h => h) (Or.inl ⟨by rfl, ?_⟩) (by assumption) ?_
              rotate_left
              · (intro w hSw; (try dsimp only at hSw); go_simp; (try with_reducible rfl))
              try simp only [Act.put, List.setIfInBounds_toArray, List.set_cons_zero, List.set_cons_succ]
              refine wpAnyH_take (i := 1) (oi := { dst := some 75, op := Go.Op.move (Go.Operand.tmp 0), type := 27, pos := "frame.go:63", after := #[{ on := 6, ground := Go.Ground.gcOnly Go.Departure.lateStores }], guard := none }) (v := ?_) rfl (by kernel_rfl) (by kernel_rfl) (by kernel_rfl) (fun _ _ _ h => h) (Or.inl ⟨by rfl, ?_⟩) (by assumption) ?_
              rotate_left
              · (intro w hSw; (try dsimp only at hSw); go_simp; (try with_reducible rfl))
              try simp only [Act.put, List.setIfInBounds_toArray, List.set_cons_zero, List.set_cons_succ]
              refine wpAnyH_take (i := 2) (oi := { dst := some 76, op := Go.Op.nilCheck (Go.Operand.tmp 75), type := 0, pos := "frame.go:63", after := #[{ on := 1, ground := Go.Ground.data }, { on := 6, ground := Go.Ground.gcOnly Go.Departure.lateStores }], guard := none }) (v := ?_) rfl (by kernel_rfl) (by kernel_rfl) (by kernel_rfl) (fun _ _ _ h => h) (Or.inl ⟨by rfl, ?_⟩) (by assumption) ?_
              rotate_left
              · (intro w hSw; (try dsimp only at hSw); go_simp; (try with_reducible rfl))
              try simp only [Act.put, List.setIfInBounds_toArray, List.set_cons_zero, List.set_cons_succ]
              refine wpAnyH_take (i := 3) (oi := { dst := some 77, op := Go.Op.fieldAddr 72 (Go.Operand.tmp 76) 5, type := 0, pos := "frame.go:63", after := #[{ on := 2, ground := Go.Ground.data }, { on := 6, ground := Go.Ground.gcOnly Go.Departure.lateStores }], guard := none }) (v := ?_) rfl (by kernel_rfl) (by kernel_rfl) (by kernel_rfl) (fun _ _ _ h => h) (Or.inl ⟨by rfl, ?_⟩) (by assumption) ?_
              rotate_left
              · (intro w hSw; (try dsimp only at hSw); go_simp; (try with_reducible rfl))
              try simp only [Act.put, List.setIfInBounds_toArray, List.set_cons_zero, List.set_cons_succ]
              refine wpAnyH_take (i := 4) (oi := { dst := some 78, op := Go.Op.load 31 (Go.Operand.tmp 77), type := 31, pos := "frame.go:63", after := #[{ on := 3, ground := Go.Ground.data }, { on := 6, ground := Go.Ground.gcOnly Go.Departure.lateStores }], guard := none }) (v := ?_) rfl (by kernel_rfl) (by kernel_rfl) (by kernel_rfl) (fun _ _ _ h => h) (Or.inl ⟨by rfl, ?_⟩) (by assumption) ?_
              rotate_left
              · (intro w hSw; (try dsimp only at hSw); go_simp; (try with_reducible rfl))
              try simp only [Act.put, List.setIfInBounds_toArray, List.set_cons_zero, List.set_cons_succ]
              refine wpAnyH_ready (rs := [5]) (by kernel_rfl) (by simp) ?_
              refine AllReadyH.cons (o := { dst := none, op := Go.Op.store 30 (Go.Operand.tmp 4) (Go.Operand.tmp 74), type := 0, pos := "frame.go:63", after := #[{ on := 0, ground := Go.Ground.data }, { on := 0, ground := Go.Ground.phase }, { on := 1, ground := Go.Ground.textOnly Go.Departure.lateStores }, { on := 2, ground := Go.Ground.textOnly Go.Departure.lateStores }, { on := 3, ground := Go.Ground.textOnly Go.Departure.lateStores }, { on := 4, ground := Go.Ground.textOnly Go.Departure.lateStores }], guard := none }) rfl (fun K hK => ?_) AllReadyH.nil
              go_simp
              refine hK.out _ _ (by exact (World.cell?_of_block ((Below.heap_setCell _ ⟨B + 1, 1, none⟩ _ b (by show b ≠ B + 1; omega)).trans (Below.heap_setCell _ ⟨B + 1, 0, none⟩ _ b (by show b ≠ B + 1; omega)))).trans a6) (fun hHeld => ?_)
              clear hK K
              try simp only [Act.put, List.setIfInBounds_toArray, List.set_cons_zero, List.set_cons_succ]
              refine wpAnyH_take (i := 6) (oi := { dst := some 5, op := Go.Op.assign (Go.Operand.const (Go.Value.bool false)), type := 4, pos := "frame.go:63", after := #[{ on := 5, ground := Go.Ground.chain }, { on := 0, ground := Go.Ground.phase }, { on := 1, ground := Go.Ground.textOnly Go.Departure.lateStores }, { on := 2, ground := Go.Ground.textOnly Go.Departure.lateStores }, { on := 3, ground := Go.Ground.textOnly Go.Departure.lateStores }, { on := 4, ground := Go.Ground.textOnly Go.Departure.lateStores }, { on := 5, ground := Go.Ground.phase }], guard := none }) (v := ?_) rfl (by kernel_rfl) (by kernel_rfl) (by kernel_rfl) (fun _ _ _ h => h) (Or.inl ⟨by rfl, ?_⟩) (by assumption) ?_
              rotate_left
              · (intro w hSw; (try dsimp only at hSw); go_simp; (try with_reducible rfl))
              try simp only [Act.put, List.setIfInBounds_toArray, List.set_cons_zero, List.set_cons_succ]
              refine wpAnyH_take (i := 7) (oi := { dst := some 6, op := Go.Op.assign (Go.Operand.tmp 78), type := 31, pos := "frame.go:63", after := #[{ on := 4, ground := Go.Ground.data }, { on := 6, ground := Go.Ground.chain }, { on := 0, ground := Go.Ground.phase }, { on := 1, ground := Go.Ground.phase }, { on := 2, ground := Go.Ground.phase }, { on := 3, ground := Go.Ground.phase }, { on := 4, ground := Go.Ground.phase }, { on := 5, ground := Go.Ground.phase }, { on := 6, ground := Go.Ground.phase }], guard := none }) (v := ?_) rfl (by kernel_rfl) (by kernel_rfl) (by kernel_rfl) (fun _ _ _ h => h) (Or.inl ⟨by rfl, ?_⟩) (by assumption) ?_
              rotate_left
              · (intro w hSw; (try dsimp only at hSw); go_simp; (try with_reducible rfl))
              try simp only [Act.put, List.setIfInBounds_toArray, List.set_cons_zero, List.set_cons_succ]
              refine wpAnyH_done (by kernel_rfl) ?_ _
              have hr7 := fr_row Hr8.out rfl 0 ⟨#[]⟩
              have s0 : ((w8.setCell ⟨B + 1, 0, none⟩ (.int .i64 0)).setCell ⟨B + 1, 1, none⟩ (.string ⟨#[]⟩)).drew.cell? ⟨B + 1, 0, none⟩ = _ := hr7.cell 0
              have s1 : ((w8.setCell ⟨B + 1, 0, none⟩ (.int .i64 0)).setCell ⟨B + 1, 1, none⟩ (.string ⟨#[]⟩)).drew.cell? ⟨B + 1, 1, none⟩ = _ := hr7.cell 1
              simp only [List.getElem?_cons_zero, List.getElem?_cons_succ] at s0 s1
              have Hk9 : Hid (CuR ((w8.setCell ⟨B + 1, 0, none⟩ (.int .i64 0)).setCell ⟨B + 1, 1, none⟩ (.string ⟨#[]⟩)).drew b s' z h' n' c' 4) := Lib.hid (Hk8.out.keep ((Below.heap_setCell _ ⟨B + 1, 1, none⟩ _ b (by show b ≠ B + 1; omega)).trans (Below.heap_setCell _ ⟨B + 1, 0, none⟩ _ b (by show b ≠ B + 1; omega))))
              have HG9 : Hid (w.grownBy ((w8.setCell ⟨B + 1, 0, none⟩ (.int .i64 0)).setCell ⟨B + 1, 1, none⟩ (.string ⟨#[]⟩)).drew (some b)) := Lib.hid (grown_drew (grown_setN (grown_setN HG8.out (by have := HB.out; omega) 0 (.int .i64 0)) (by have := HB.out; omega) 1 (.string ⟨#[]⟩)))
              clear hr7 r0 r1 g0 g1 a6 hHeld
              generalize ((w8.setCell ⟨B + 1, 0, none⟩ (.int .i64 0)).setCell ⟨B + 1, 1, none⟩ (.string ⟨#[]⟩)).drew = w9 at *
              have S0 := Lib.hid s0
              have S1 := Lib.hid s1
              clear s0 s1
              go_wp2
              have s0 := S0.out
              have s1 := S1.out
              refine bodyPost_ret (v := .tuple #[.agg #[.int .i64 0, .string ⟨#[]⟩], .bool false, .int .i64 4]) (by simp [results, Try.results19, go_sem, s0, s1]) rfl ⟨congrArg Ending.returned (HQ.out).1.symm, (HQ.out).2 _ Hk9.out, HG9.out⟩
        · have ho2 : ((oe : Int) != 0) = true := by simp; omega
          go_wp2_with fail
          go_quiet (fail)
          have Hk6 : Hid (CuR (w5.drewN nq) b s' z h' n' c' 0) := Lib.hid Hk5.out
          have Hr6 : Hid (Row (w5.drewN nq) (B + 1) 30 [.int .i64 0, .string ⟨#[]⟩]) := Lib.hid Hr5.out
          have HG6 : Hid (w.grownBy (w5.drewN nq) (some b)) := Lib.hid (grown_drewN HG5.out nq)
          clear x1 x2 Hk5 Hr5 Hx5 HG5 Hf5
          generalize w5.drewN nq = w6 at *
          have HQ := Lib.hid (HP.out.no he hm (fun h => ho h.1))
          have a6 := Hk6.out.cells.2.2.2.2.2.1
          have f6 := Hk6.out.cells.2.2.2.2.2.2.1 916
          go_upto_region 10 with fail
          have hk8 := Hk6.out.setE 4
          have hr8 := Hr6.out.far (p := ⟨b, 916, none⟩) (by show B + 1 ≠ b; omega) (.int .i64 4)
          have hg8 := grown_set HG6.out 916 (.int .i64 4)
          rw [show ((4 : Nat) : Int) = 4 from rfl] at hk8
          clear a6 f6
          generalize w6.setCell ⟨b, 916, none⟩ (.int .i64 4) = w8 at *
          have a6 := hk8.cells.2.2.2.2.2.1
          rw [show ((4 : Nat) : Int) = 4 from rfl] at a6
          have Hk8 := Lib.hid hk8
          have Hr8 := Lib.hid hr8
          have HG8 := Lib.hid hg8
          clear hk8 hr8 hg8
          have r0 := Hr8.out.cell 0
          have r1 := Hr8.out.cell 1
          have g0 := Hr8.out.free 0
          have g1 := Hr8.out.free 1
          simp only [List.getElem?_cons_zero, List.getElem?_cons_succ] at r0 r1
          go_wp2_with fail
          refine wp_region_held_drew (S := (fun W : World => W.cell? ⟨b, 916, none⟩ = some (.int .i64 4))) (by kernel_rfl) (by exact a6) (fun hHeld => ?_)
          refine wpAnyH_take (i := 0) (oi := { dst := some 74, op := Go.Op.build 30 #[], type := 30, pos := "frame.go:63", after := #[], guard := none }) (v := ?_) rfl (by kernel_rfl) (by kernel_rfl) (by kernel_rfl) (fun _ _ _ h => h) (Or.inl ⟨by rfl, ?_⟩) (by assumption) ?_
          rotate_left
          · (intro w hSw; (try dsimp only at hSw); go_simp; (try with_reducible rfl))
          try simp only [Act.put, List.setIfInBounds_toArray, List.set_cons_zero, List.set_cons_succ]
          refine wpAnyH_take (i := 1) (oi := { dst := some 75, op := Go.Op.move (Go.Operand.tmp 0), type := 27, pos := "frame.go:63", after := #[{ on := 6, ground := Go.Ground.gcOnly Go.Departure.lateStores }], guard := none }) (v := ?_) rfl (by kernel_rfl) (by kernel_rfl) (by kernel_rfl) (fun _ _ _ h => h) (Or.inl ⟨by rfl, ?_⟩) (by assumption) ?_
          rotate_left
          · (intro w hSw; (try dsimp only at hSw); go_simp; (try with_reducible rfl))
          try simp only [Act.put, List.setIfInBounds_toArray, List.set_cons_zero, List.set_cons_succ]
          refine wpAnyH_take (i := 2) (oi := { dst := some 76, op := Go.Op.nilCheck (Go.Operand.tmp 75), type := 0, pos := "frame.go:63", after := #[{ on := 1, ground := Go.Ground.data }, { on := 6, ground := Go.Ground.gcOnly Go.Departure.lateStores }], guard := none }) (v := ?_) rfl (by kernel_rfl) (by kernel_rfl) (by kernel_rfl) (fun _ _ _ h => h) (Or.inl ⟨by rfl, ?_⟩) (by assumption) ?_
          rotate_left
          · (intro w hSw; (try dsimp only at hSw); go_simp; (try with_reducible rfl))
          try simp only [Act.put, List.setIfInBounds_toArray, List.set_cons_zero, List.set_cons_succ]
          refine wpAnyH_take (i := 3) (oi := { dst := some 77, op := Go.Op.fieldAddr 72 (Go.Operand.tmp 76) 5, type := 0, pos := "frame.go:63", after := #[{ on := 2, ground := Go.Ground.data }, { on := 6, ground := Go.Ground.gcOnly Go.Departure.lateStores }], guard := none }) (v := ?_) rfl (by kernel_rfl) (by kernel_rfl) (by kernel_rfl) (fun _ _ _ h => h) (Or.inl ⟨by rfl, ?_⟩) (by assumption) ?_
          rotate_left
          · (intro w hSw; (try dsimp only at hSw); go_simp; (try with_reducible rfl))
          try simp only [Act.put, List.setIfInBounds_toArray, List.set_cons_zero, List.set_cons_succ]
          refine wpAnyH_take (i := 4) (oi := { dst := some 78, op := Go.Op.load 31 (Go.Operand.tmp 77), type := 31, pos := "frame.go:63", after := #[{ on := 3, ground := Go.Ground.data }, { on := 6, ground := Go.Ground.gcOnly Go.Departure.lateStores }], guard := none }) (v := ?_) rfl (by kernel_rfl) (by kernel_rfl) (by kernel_rfl) (fun _ _ _ h => h) (Or.inl ⟨by rfl, ?_⟩) (by assumption) ?_
          rotate_left
          · (intro w hSw; (try dsimp only at hSw); go_simp; (try with_reducible rfl))
          try simp only [Act.put, List.setIfInBounds_toArray, List.set_cons_zero, List.set_cons_succ]
          refine wpAnyH_ready (rs := [5]) (by kernel_rfl) (by simp) ?_
          refine AllReadyH.cons (o := { dst := none, op := Go.Op.store 30 (Go.Operand.tmp 4) (Go.Operand.tmp 74), type := 0, pos := "frame.go:63", after := #[{ on := 0, ground := Go.Ground.data }, { on := 0, ground := Go.Ground.phase }, { on := 1, ground := Go.Ground.textOnly Go.Departure.lateStores }, { on := 2, ground := Go.Ground.textOnly Go.Departure.lateStores }, { on := 3, ground := Go.Ground.textOnly Go.Departure.lateStores }, { on := 4, ground := Go.Ground.textOnly Go.Departure.lateStores }], guard := none }) rfl (fun K hK => ?_) AllReadyH.nil
          go_simp
          refine hK.out _ _ (by exact (World.cell?_of_block ((Below.heap_setCell _ ⟨B + 1, 1, none⟩ _ b (by show b ≠ B + 1; omega)).trans (Below.heap_setCell _ ⟨B + 1, 0, none⟩ _ b (by show b ≠ B + 1; omega)))).trans a6) (fun hHeld => ?_)
          clear hK K
          try simp only [Act.put, List.setIfInBounds_toArray, List.set_cons_zero, List.set_cons_succ]
          refine wpAnyH_take (i := 6) (oi := { dst := some 5, op := Go.Op.assign (Go.Operand.const (Go.Value.bool false)), type := 4, pos := "frame.go:63", after := #[{ on := 5, ground := Go.Ground.chain }, { on := 0, ground := Go.Ground.phase }, { on := 1, ground := Go.Ground.textOnly Go.Departure.lateStores }, { on := 2, ground := Go.Ground.textOnly Go.Departure.lateStores }, { on := 3, ground := Go.Ground.textOnly Go.Departure.lateStores }, { on := 4, ground := Go.Ground.textOnly Go.Departure.lateStores }, { on := 5, ground := Go.Ground.phase }], guard := none }) (v := ?_) rfl (by kernel_rfl) (by kernel_rfl) (by kernel_rfl) (fun _ _ _ h => h) (Or.inl ⟨by rfl, ?_⟩) (by assumption) ?_
          rotate_left
          · (intro w hSw; (try dsimp only at hSw); go_simp; (try with_reducible rfl))
          try simp only [Act.put, List.setIfInBounds_toArray, List.set_cons_zero, List.set_cons_succ]
          refine wpAnyH_take (i := 7) (oi := { dst := some 6, op := Go.Op.assign (Go.Operand.tmp 78), type := 31, pos := "frame.go:63", after := #[{ on := 4, ground := Go.Ground.data }, { on := 6, ground := Go.Ground.chain }, { on := 0, ground := Go.Ground.phase }, { on := 1, ground := Go.Ground.phase }, { on := 2, ground := Go.Ground.phase }, { on := 3, ground := Go.Ground.phase }, { on := 4, ground := Go.Ground.phase }, { on := 5, ground := Go.Ground.phase }, { on := 6, ground := Go.Ground.phase }], guard := none }) (v := ?_) rfl (by kernel_rfl) (by kernel_rfl) (by kernel_rfl) (fun _ _ _ h => h) (Or.inl ⟨by rfl, ?_⟩) (by assumption) ?_
          rotate_left
          · (intro w hSw; (try dsimp only at hSw); go_simp; (try with_reducible rfl))
          try simp only [Act.put, List.setIfInBounds_toArray, List.set_cons_zero, List.set_cons_succ]
          refine wpAnyH_done (by kernel_rfl) ?_ _
          have hr7 := fr_row Hr8.out rfl 0 ⟨#[]⟩
          have s0 : ((w8.setCell ⟨B + 1, 0, none⟩ (.int .i64 0)).setCell ⟨B + 1, 1, none⟩ (.string ⟨#[]⟩)).drew.cell? ⟨B + 1, 0, none⟩ = _ := hr7.cell 0
          have s1 : ((w8.setCell ⟨B + 1, 0, none⟩ (.int .i64 0)).setCell ⟨B + 1, 1, none⟩ (.string ⟨#[]⟩)).drew.cell? ⟨B + 1, 1, none⟩ = _ := hr7.cell 1
          simp only [List.getElem?_cons_zero, List.getElem?_cons_succ] at s0 s1
          have Hk9 : Hid (CuR ((w8.setCell ⟨B + 1, 0, none⟩ (.int .i64 0)).setCell ⟨B + 1, 1, none⟩ (.string ⟨#[]⟩)).drew b s' z h' n' c' 4) := Lib.hid (Hk8.out.keep ((Below.heap_setCell _ ⟨B + 1, 1, none⟩ _ b (by show b ≠ B + 1; omega)).trans (Below.heap_setCell _ ⟨B + 1, 0, none⟩ _ b (by show b ≠ B + 1; omega))))
          have HG9 : Hid (w.grownBy ((w8.setCell ⟨B + 1, 0, none⟩ (.int .i64 0)).setCell ⟨B + 1, 1, none⟩ (.string ⟨#[]⟩)).drew (some b)) := Lib.hid (grown_drew (grown_setN (grown_setN HG8.out (by have := HB.out; omega) 0 (.int .i64 0)) (by have := HB.out; omega) 1 (.string ⟨#[]⟩)))
          clear hr7 r0 r1 g0 g1 a6 hHeld
          generalize ((w8.setCell ⟨B + 1, 0, none⟩ (.int .i64 0)).setCell ⟨B + 1, 1, none⟩ (.string ⟨#[]⟩)).drew = w9 at *
          have S0 := Lib.hid s0
          have S1 := Lib.hid s1
          clear s0 s1
          go_wp2
          have s0 := S0.out
          have s1 := S1.out
          refine bodyPost_ret (v := .tuple #[.agg #[.int .i64 0, .string ⟨#[]⟩], .bool false, .int .i64 4]) (by simp [results, Try.results19, go_sem, s0, s1]) rfl ⟨congrArg Ending.returned (HQ.out).1.symm, (HQ.out).2 _ Hk9.out, HG9.out⟩
  · have he2 : ((e' : Int) != 0) = true := by simp; omega
    go_wp2_with fail
    go_quiet (fail)
    have Hk3 : Hid (CuR (w2.drewN nq) b s' z h' n' c' e') := Lib.hid Hk2.out
    have Hr3 : Hid (Row (w2.drewN nq) (B + 1) 30 [.int .i64 0, .string ⟨#[]⟩]) := Lib.hid Hr2.out
    have Hx3 : Hid (Row (w2.drewN nq) B 47 [.int .u8 (x : Int), .int .u64 (sl : Int), .bool s]) := Lib.hid Hx2.out
    have HG3 : Hid (w.grownBy (w2.drewN nq) (some b)) := Lib.hid (grown_drewN HG2.out nq)
    clear a1 a2 a6 Hk2 Hr2 Hx2 HG2
    generalize w2.drewN nq = w3 at *
    have a6 := Hk3.out.cells.2.2.2.2.2.1
    have HQ := Lib.hid (HP.out.bad he)
    have r0 := Hr3.out.cell 0
    have r1 := Hr3.out.cell 1
    have g0 := Hr3.out.free 0
    have g1 := Hr3.out.free 1
    simp only [List.getElem?_cons_zero, List.getElem?_cons_succ] at r0 r1
    go_wp2_with fail
    refine wp_region_held_drew (S := (fun W : World => W.cell? ⟨b, 916, none⟩ = some (.int .i64 (e' : Int)))) (by kernel_rfl) (by exact a6) (fun hHeld => ?_)
    refine wpAnyH_take (i := 0) (oi := { dst := some 36, op := Go.Op.build 30 #[], type := 30, pos := "frame.go:58", after := #[], guard := none }) (v := ?_) rfl (by kernel_rfl) (by kernel_rfl) (by kernel_rfl) (fun _ _ _ h => h) (Or.inl ⟨by rfl, ?_⟩) (by assumption) ?_
    rotate_left
    · (intro w hSw; (try dsimp only at hSw); go_simp; (try with_reducible rfl))
    try simp only [Act.put, List.setIfInBounds_toArray, List.set_cons_zero, List.set_cons_succ]
    refine wpAnyH_take (i := 1) (oi := { dst := some 37, op := Go.Op.move (Go.Operand.tmp 0), type := 27, pos := "frame.go:58", after := #[{ on := 6, ground := Go.Ground.gcOnly Go.Departure.lateStores }], guard := none }) (v := ?_) rfl (by kernel_rfl) (by kernel_rfl) (by kernel_rfl) (fun _ _ _ h => h) (Or.inl ⟨by rfl, ?_⟩) (by assumption) ?_
    rotate_left
    · (intro w hSw; (try dsimp only at hSw); go_simp; (try with_reducible rfl))
    try simp only [Act.put, List.setIfInBounds_toArray, List.set_cons_zero, List.set_cons_succ]
    refine wpAnyH_take (i := 2) (oi := { dst := some 38, op := Go.Op.nilCheck (Go.Operand.tmp 37), type := 0, pos := "frame.go:58", after := #[{ on := 1, ground := Go.Ground.data }, { on := 6, ground := Go.Ground.gcOnly Go.Departure.lateStores }], guard := none }) (v := ?_) rfl (by kernel_rfl) (by kernel_rfl) (by kernel_rfl) (fun _ _ _ h => h) (Or.inl ⟨by rfl, ?_⟩) (by assumption) ?_
    rotate_left
    · (intro w hSw; (try dsimp only at hSw); go_simp; (try with_reducible rfl))
    try simp only [Act.put, List.setIfInBounds_toArray, List.set_cons_zero, List.set_cons_succ]
    refine wpAnyH_take (i := 3) (oi := { dst := some 39, op := Go.Op.fieldAddr 72 (Go.Operand.tmp 38) 5, type := 0, pos := "frame.go:58", after := #[{ on := 2, ground := Go.Ground.data }, { on := 6, ground := Go.Ground.gcOnly Go.Departure.lateStores }], guard := none }) (v := ?_) rfl (by kernel_rfl) (by kernel_rfl) (by kernel_rfl) (fun _ _ _ h => h) (Or.inl ⟨by rfl, ?_⟩) (by assumption) ?_
    rotate_left
    · (intro w hSw; (try dsimp only at hSw); go_simp; (try with_reducible rfl))
    try simp only [Act.put, List.setIfInBounds_toArray, List.set_cons_zero, List.set_cons_succ]
    refine wpAnyH_take (i := 4) (oi := { dst := some 40, op := Go.Op.load 31 (Go.Operand.tmp 39), type := 31, pos := "frame.go:58", after := #[{ on := 3, ground := Go.Ground.data }, { on := 6, ground := Go.Ground.gcOnly Go.Departure.lateStores }], guard := none }) (v := ?_) rfl (by kernel_rfl) (by kernel_rfl) (by kernel_rfl) (fun _ _ _ h => h) (Or.inl ⟨by rfl, ?_⟩) (by assumption) ?_
    rotate_left
    · (intro w hSw; (try dsimp only at hSw); go_simp; (try with_reducible rfl))
    try simp only [Act.put, List.setIfInBounds_toArray, List.set_cons_zero, List.set_cons_succ]
    refine wpAnyH_ready (rs := [5]) (by kernel_rfl) (by simp) ?_
    refine AllReadyH.cons (o := { dst := none, op := Go.Op.store 30 (Go.Operand.tmp 4) (Go.Operand.tmp 36), type := 0, pos := "frame.go:58", after := #[{ on := 0, ground := Go.Ground.data }, { on := 0, ground := Go.Ground.phase }, { on := 1, ground := Go.Ground.textOnly Go.Departure.lateStores }, { on := 2, ground := Go.Ground.textOnly Go.Departure.lateStores }, { on := 3, ground := Go.Ground.textOnly Go.Departure.lateStores }, { on := 4, ground := Go.Ground.textOnly Go.Departure.lateStores }], guard := none }) rfl (fun K hK => ?_) AllReadyH.nil
    go_simp
    refine hK.out _ _ (by exact (World.cell?_of_block ((Below.heap_setCell _ ⟨B + 1, 1, none⟩ _ b (by show b ≠ B + 1; omega)).trans (Below.heap_setCell _ ⟨B + 1, 0, none⟩ _ b (by show b ≠ B + 1; omega)))).trans a6) (fun hHeld => ?_)
    clear hK K
    try simp only [Act.put, List.setIfInBounds_toArray, List.set_cons_zero, List.set_cons_succ]
    refine wpAnyH_take (i := 6) (oi := { dst := some 5, op := Go.Op.assign (Go.Operand.const (Go.Value.bool false)), type := 4, pos := "frame.go:58", after := #[{ on := 5, ground := Go.Ground.chain }, { on := 0, ground := Go.Ground.phase }, { on := 1, ground := Go.Ground.textOnly Go.Departure.lateStores }, { on := 2, ground := Go.Ground.textOnly Go.Departure.lateStores }, { on := 3, ground := Go.Ground.textOnly Go.Departure.lateStores }, { on := 4, ground := Go.Ground.textOnly Go.Departure.lateStores }, { on := 5, ground := Go.Ground.phase }], guard := none }) (v := ?_) rfl (by kernel_rfl) (by kernel_rfl) (by kernel_rfl) (fun _ _ _ h => h) (Or.inl ⟨by rfl, ?_⟩) (by assumption) ?_
    rotate_left
    · (intro w hSw; (try dsimp only at hSw); go_simp; (try with_reducible rfl))
    try simp only [Act.put, List.setIfInBounds_toArray, List.set_cons_zero, List.set_cons_succ]
    refine wpAnyH_take (i := 7) (oi := { dst := some 6, op := Go.Op.assign (Go.Operand.tmp 40), type := 31, pos := "frame.go:58", after := #[{ on := 4, ground := Go.Ground.data }, { on := 6, ground := Go.Ground.chain }, { on := 0, ground := Go.Ground.phase }, { on := 1, ground := Go.Ground.phase }, { on := 2, ground := Go.Ground.phase }, { on := 3, ground := Go.Ground.phase }, { on := 4, ground := Go.Ground.phase }, { on := 5, ground := Go.Ground.phase }, { on := 6, ground := Go.Ground.phase }], guard := none }) (v := ?_) rfl (by kernel_rfl) (by kernel_rfl) (by kernel_rfl) (fun _ _ _ h => h) (Or.inl ⟨by rfl, ?_⟩) (by assumption) ?_
    rotate_left
    · (intro w hSw; (try dsimp only at hSw); go_simp; (try with_reducible rfl))
    try simp only [Act.put, List.setIfInBounds_toArray, List.set_cons_zero, List.set_cons_succ]
    refine wpAnyH_done (by kernel_rfl) ?_ _
    have hr7 := fr_row Hr3.out rfl 0 ⟨#[]⟩
    have s0 : ((w3.setCell ⟨B + 1, 0, none⟩ (.int .i64 0)).setCell ⟨B + 1, 1, none⟩ (.string ⟨#[]⟩)).drew.cell? ⟨B + 1, 0, none⟩ = _ := hr7.cell 0
    have s1 : ((w3.setCell ⟨B + 1, 0, none⟩ (.int .i64 0)).setCell ⟨B + 1, 1, none⟩ (.string ⟨#[]⟩)).drew.cell? ⟨B + 1, 1, none⟩ = _ := hr7.cell 1
    simp only [List.getElem?_cons_zero, List.getElem?_cons_succ] at s0 s1
    have Hk9 : Hid (CuR ((w3.setCell ⟨B + 1, 0, none⟩ (.int .i64 0)).setCell ⟨B + 1, 1, none⟩ (.string ⟨#[]⟩)).drew b s' z h' n' c' e') := Lib.hid (Hk3.out.keep ((Below.heap_setCell _ ⟨B + 1, 1, none⟩ _ b (by show b ≠ B + 1; omega)).trans (Below.heap_setCell _ ⟨B + 1, 0, none⟩ _ b (by show b ≠ B + 1; omega))))
    have HG9 : Hid (w.grownBy ((w3.setCell ⟨B + 1, 0, none⟩ (.int .i64 0)).setCell ⟨B + 1, 1, none⟩ (.string ⟨#[]⟩)).drew (some b)) := Lib.hid (grown_drew (grown_setN (grown_setN HG3.out (by have := HB.out; omega) 0 (.int .i64 0)) (by have := HB.out; omega) 1 (.string ⟨#[]⟩)))
    clear hr7 r0 r1 g0 g1 a6 hHeld
    generalize ((w3.setCell ⟨B + 1, 0, none⟩ (.int .i64 0)).setCell ⟨B + 1, 1, none⟩ (.string ⟨#[]⟩)).drew = w9 at *
    have S0 := Lib.hid s0
    have S1 := Lib.hid s1
    clear s0 s1
    go_wp2
    have s0 := S0.out
    have s1 := S1.out
    refine bodyPost_ret (v := .tuple #[.agg #[.int .i64 0, .string ⟨#[]⟩], .bool false, .int .i64 (e' : Int)]) (by simp [results, Try.results19, go_sem, s0, s1]) rfl ⟨congrArg Ending.returned (HQ.out).1.symm, (HQ.out).2 _ Hk9.out, HG9.out⟩
end Go.Proofs.Ytckmdeiahpijcaa
