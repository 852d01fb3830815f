/-
  A Link of layer 23 (link) in memory: two Pipes, whether it is up, how often it was joined; New, Up, Gen, To, From, idle, Idle, turn, Join, Cut, by their walks; on nobody's Link. Conditions: as each theorem's premises say.
-/
import Derived.Test.YtecelklpeealaaaXj
import Derived.Test.YtecelklpeealaaaRg
namespace Go.Proofs.Ytecelklpeealaaa
open Go.RowKit

/-- Cells put one by one over as many others. -/
theorem foldl_fill (L : List Value) : ∀ (A X B : List Value) (off k : Nat), A.length = off + k → X.length = L.length →
    (L.zipIdx k).foldl (fun (cs : Array Value) (p : Value × Nat) => cs.setIfInBounds (off + p.2) p.1) (A ++ X ++ B).toArray = (A ++ L ++ B).toArray := by
  induction L with
  | nil =>
    intro A X B off k h1 h2
    obtain rfl : X = [] := List.eq_nil_of_length_eq_zero h2
    rfl
  | cons v L ih =>
    intro A X B off k h1 h2
    match X, h2 with
    | x :: X, h2 =>
      rw [List.zipIdx_cons, List.foldl_cons]
      have h3 := ih (A ++ [v]) X B off (k + 1) (by rw [List.length_append, List.length_singleton]; omega) (by simpa using h2)
      have h4 : (A ++ x :: X ++ B).toArray.setIfInBounds (off + k) v = (A ++ [v] ++ X ++ B).toArray := by
        rw [List.setIfInBounds_toArray, List.append_assoc, List.set_append_right _ _ (by omega), h1, Nat.sub_self]
        simp
      show List.foldl _ ((A ++ x :: X ++ B).toArray.setIfInBounds (off + k) v) _ = _
      rw [h4, h3]
      simp
theorem foldl_fillA (L A X B : List Value) (off : Nat) (h1 : A.length = off) (h2 : X.length = L.length) :
    Array.foldl (fun (cs : Array Value) (p : Value × Nat) => cs.setIfInBounds (off + p.2) p.1) (A ++ X ++ B).toArray L.toArray.zipIdx = (A ++ L ++ B).toArray := by
  have h3 := foldl_fill L A X B off 0 (by omega) h2
  rw [← h3]
  simp
/-- A Link's zero cells. -/
def lkR (up : Bool) (g : Nat) : List Value := [.bool up, .int .i64 (g : Int)]
set_option maxRecDepth 100000 in
theorem lkzero (W : World) : (zeroValue 63).run Try.prog W = .ok (.agg (ppZ 0 0 ++ ppZ 0 0 ++ lkR false 0).toArray) W := by kernel_rfl
noncomputable def lkFields : Array Field := match Try.prog.underlying 63 with
  | some (.struct f) => f
  | _ => #[]
theorem lk_under : Try.prog.underlying 63 = some (.struct lkFields) := by kernel_rfl
theorem lk_places (W : World) : (lkFields.mapM (fun f => do pure (f.offset, ← sizeOf f.type)) : Sem (Array (Nat × Nat))).run Try.prog W = .ok #[(0, 4102), (4102, 4102), (8204, 1), (8205, 1)] W := by kernel_rfl
theorem fill_cons {place : Nat → Option (Nat × Nat)} {cells : Array Value} {i off size : Nat} {v : Value} {rest : List (Nat × Value)} (hp : place i = some (off, size)) (hs : v.cells.size = size) (hb : off + v.cells.size ≤ cells.size) :
    Instr.fill place cells ((i, v) :: rest) = Instr.fill place (v.cells.zipIdx.foldl (fun cs (c, j) => cs.setIfInBounds (off + j) c) cells) rest := by
  rw [Instr.fill]
  simp only [hp]
  rw [if_neg (by simp only [Bool.or_eq_true, decide_eq_true_eq]; omega)]
theorem lk_fill (C D Y Z R : List Value) (hC : C.length = 4102) (hD : D.length = 4102) (hY : Y.length = 4102) (hZ : Z.length = 4102) :
    Instr.fill (fun x => (#[(0, 4102), (4102, 4102), (8204, 1), (8205, 1)] : Array (Nat × Nat))[x]?) (Y ++ Z ++ R).toArray [(0, .agg C.toArray), (1, .agg D.toArray)] = some (C ++ D ++ R).toArray := by
  have h1 := foldl_fillA C [] Y (Z ++ R) 0 rfl (by omega)
  have h2 := foldl_fillA D C Z R 4102 hC (by omega)
  rw [List.nil_append, List.nil_append, ← List.append_assoc, ← List.append_assoc] at h1
  rw [fill_cons (off := 0) (size := 4102) rfl (by show C.toArray.size = _; rw [List.size_toArray, hC]) (by show 0 + C.toArray.size ≤ _; rw [List.size_toArray, List.size_toArray, List.length_append, List.length_append]; omega)]
  have h3 : Array.foldl (fun (cs : Array Value) (p : Value × Nat) => match p with | (c, j) => cs.setIfInBounds (0 + j) c) (Y ++ Z ++ R).toArray (Value.agg C.toArray).cells.zipIdx = (C ++ Z ++ R).toArray := h1
  rw [h3]
  rw [fill_cons (off := 4102) (size := 4102) rfl (by show D.toArray.size = _; rw [List.size_toArray, hD]) (by show 4102 + D.toArray.size ≤ _; rw [List.size_toArray, List.size_toArray, List.length_append, List.length_append]; omega)]
  have h4 : Array.foldl (fun (cs : Array Value) (p : Value × Nat) => match p with | (c, j) => cs.setIfInBounds (4102 + j) c) (C ++ Z ++ R).toArray (Value.agg D.toArray).cells.zipIdx = (C ++ D ++ R).toArray := h2
  rw [h4]
  rfl
theorem build_link (C D : List Value) (hC : C.length = 4102) (hD : D.length = 4102) (W : World) : (Instr.build 63 #[(0, .agg C.toArray), (1, .agg D.toArray)]).run Try.prog W = .ok (.agg (C ++ D ++ lkR false 0).toArray) W := by
  have h := lk_fill C D _ _ (lkR false 0) hC hD (ppzero_size 0 0) (ppzero_size 0 0)
  unfold Instr.build
  simp only [Sem.run_bind, lkzero W, Result.andThen_ok, run_underlying lk_under, lk_places W]
  have h2 : (Value.agg (ppZ 0 0 ++ ppZ 0 0 ++ lkR false 0).toArray).cells = (ppZ 0 0 ++ ppZ 0 0 ++ lkR false 0).toArray := rfl
  rw [h2]
  rw [h]
  rfl
theorem load_pipe {W : World} {g : Nat} {C : List Value} (hr : Row W g 60 C) (hl : C.length = 4102) : (Instr.loadAt 60 (.pointer (some ⟨g, 0, none⟩))).run Try.prog W = .ok (.agg C.toArray) W := by
  have hx : (loadVar 60 ⟨g, 0, none⟩).run Try.prog W = .ok (.agg C.toArray) W := by
    have h1 := run_loadCells_list (P := Try.prog) W ⟨g, 0, none⟩ C (fun j v hv => by
      have hadd : (⟨g, 0, none⟩ : Addr).add j = ⟨g, j, none⟩ := by unfold Addr.add; split <;> simp_all
      rw [hadd, hr.cell]
      exact hv)
    have h2 : (isAgg 60).run Try.prog W = .ok true W := by kernel_rfl
    have h3 : (sizeOf 60).run Try.prog W = .ok 4102 W := by kernel_rfl
    unfold loadVar
    rw [hl] at h1
    simp only [Sem.run_bind, h2, h3, Result.andThen_ok, h1, if_true]
    rfl
  simp only [Instr.loadAt, Instr.sureAddr, Sem.run_bind, Sem.run_pure, Result.andThen]
  exact hx
/-- An operation that yields a value and leaves the world. -/
theorem exec_of {P : Program} {s : Sem Value} {v : Value} {W : World} (h : s.run P W = .ok v W) : (do pure (Next.value (← s)) : Sem Next).run P W = .ok (.value v) W := by
  simp only [Sem.run_bind, h, Result.andThen_ok]
  rfl
/-- What a Pipe holds: what came, what flies, the sum's state. -/
structure PSt where
  kc : List Bm.Itm
  kf : List Bm.Itm
  h : Nat
  n : Nat
def PSt.new : PSt := ⟨[], [], Bm.H0, 0⟩
def PSt.idle (s : PSt) : Bool := s.kf.length == 0 && s.kc.length == 0
/-- A Link at block b: is it up, how often it was joined, how many bytes there may be, what its Pipes hold. -/
def LK (w : World) (b : Nat) (up : Bool) (g m : Nat) (s t : PSt) : Prop := ∃ C D, Row w b 63 (C ++ D ++ lkR up g) ∧ PIC C s.kc s.kf m s.h s.n ∧ PIC D t.kc t.kf m t.h t.n
section
variable {w w' : World} {b : Nat} {up : Bool} {g m : Nat} {s t : PSt}
theorem LK.keep (k : LK w b up g m s t) (hb : w'.heap[b]? = w.heap[b]?) : LK w' b up g m s t := by
  obtain ⟨C, D, h1, h2⟩ := k
  exact ⟨C, D, h1.keep hb, h2⟩
theorem LK.lt (k : LK w b up g m s t) : b < w.heap.size := by
  obtain ⟨C, D, h1, h2⟩ := k
  exact h1.lt
theorem LK.below (k : LK w b up g m s t) (hb : Below w.heap.size w w') : LK w' b up g m s t := k.keep (hb.block b k.lt)
/-- The Pipe towards the replica; what becomes of it becomes of the Link. -/
theorem LK.to (k : LK w b up g m s t) : ∃ E, PI w b 0 E s.kc s.kf m s.h s.n ∧ ∀ w' s', PI w' b 0 E s'.kc s'.kf m s'.h s'.n → LK w' b up g m s' t := by
  obtain ⟨C, D, h1, h2, h3⟩ := k
  refine ⟨⟨[], D ++ lkR up g, 63⟩, PI.of (C := C) (by show Row w b _ ([] ++ C ++ (D ++ lkR up g)); rw [List.nil_append, ← List.append_assoc]; exact h1) rfl h2, fun w' s' hp => ?_⟩
  obtain ⟨C', h4, _, h5⟩ := hp.out
  exact ⟨C', D, by have h6 : Row w' b 63 ([] ++ C' ++ (D ++ lkR up g)) := h4; rwa [List.nil_append, ← List.append_assoc] at h6, h5, h3⟩
/-- The Pipe from it. -/
theorem LK.from_ (k : LK w b up g m s t) : ∃ E, PI w b 4102 E t.kc t.kf m t.h t.n ∧ ∀ w' t', PI w' b 4102 E t'.kc t'.kf m t'.h t'.n → LK w' b up g m s t' := by
  obtain ⟨C, D, h1, h2, h3⟩ := k
  refine ⟨⟨C, lkR up g, 63⟩, PI.of (C := D) h1 h2.size h3, fun w' t' hp => ?_⟩
  obtain ⟨D', h4, _, h5⟩ := hp.out
  exact ⟨C, D', h4, h2, h5⟩
theorem LK.cells (k : LK w b up g m s t) : w.cell? ⟨b, 8204, none⟩ = some (.bool up) ∧ w.cell? ⟨b, 8205, none⟩ = some (.int .i64 (g : Int)) ∧ ∀ i, w.frozen? ⟨b, i, none⟩ = false := by
  obtain ⟨C, D, h1, h2, h3⟩ := k
  have hl : (C ++ D).length = 8204 := by rw [List.length_append, h2.size, h3.size]
  refine ⟨(h1.cell 8204).trans ?_, (h1.cell 8205).trans ?_, h1.free⟩
  · rw [List.getElem?_append_right (by omega), hl]; rfl
  · rw [List.getElem?_append_right (by omega), hl]; rfl
theorem LK.setUp (k : LK w b up g m s t) (u : Bool) : LK (w.setCell ⟨b, 8204, none⟩ (.bool u)) b u g m s t := by
  obtain ⟨C, D, h1, h2, h3⟩ := k
  have hl : (C ++ D).length = 8204 := by rw [List.length_append, h2.size, h3.size]
  have h4 := h1.set_ 8204 (.bool u)
  rw [List.set_append_right _ _ (by omega), hl] at h4
  exact ⟨C, D, h4, h2, h3⟩
theorem LK.setGen (k : LK w b up g m s t) (n : Nat) : LK (w.setCell ⟨b, 8205, none⟩ (.int .i64 (n : Int))) b up n m s t := by
  obtain ⟨C, D, h1, h2, h3⟩ := k
  have hl : (C ++ D).length = 8204 := by rw [List.length_append, h2.size, h3.size]
  have h4 := h1.set_ 8205 (.int .i64 (n : Int))
  rw [List.set_append_right _ _ (by omega), hl] at h4
  exact ⟨C, D, h4, h2, h3⟩
end
theorem lkz_one (m : Int) : ∀ v ∈ (ppZ m ((Bm.H0 : Nat) : Int) ++ ppZ m ((Bm.H0 : Nat) : Int) ++ lkR false 0), v.oneCell' = true := by
  have h1 := fun v hv => (Array.all_eq_true_iff_forall_mem.1 (ppzero_one m ((Bm.H0 : Nat) : Int))) v (List.mem_toArray.2 hv)
  intro v hv
  rw [List.mem_append, List.mem_append] at hv
  rcases hv with (hv | hv) | hv
  · exact h1 v hv
  · exact h1 v hv
  · simp only [lkR, List.mem_cons, List.not_mem_nil, or_false] at hv
    rcases hv with rfl | rfl <;> rfl
set_option maxHeartbeats 1000000 in
set_option maxRecDepth 100000 in
theorem lknew_any (n : Int) (w : World) :
    Calls Try.prog 7 #[.int .i64 n] w fun e w' => ∃ b, e = .returned (.pointer (some ⟨b, 0, none⟩)) ∧ LK w' b false 0 (Bm.mostN n) PSt.new PSt.new ∧ w.heap.size ≤ b ∧ Below w.heap.size w w' := by
  obtain ⟨h1, h64, hmm⟩ := Bm.most_le n
  have Hnew := Lib.hid (fun W => ppnew_any n W)
  have Hl := Lib.hid (ppzero_size (Bm.mostN n : Int) ((Bm.H0 : Nat) : Int))
  have Hp := Lib.hid (PIC.new (Bm.mostN n) Bm.H0 h1 h64 (by decide))
  generalize ppZ (Bm.mostN n : Int) ((Bm.H0 : Nat) : Int) = C at *
  generalize Bm.mostN n = m at *
  clear h1 h64 hmm
  go_enter Try.func7, Try.ntmps7
  go_wp2_with fail
  refine wp_region_held_drew (S := (fun W => Below w.heap.size w W)) (by kernel_rfl) (by exact (Below.refl w.heap.size w).drew) (fun hHeld => ?_)
  refine wpAnyH_take (i := 0) (oi := { dst := some 3, op := Go.Op.move (Go.Operand.tmp 0), type := 3, pos := "link.go:19", after := #[], guard := none }) (v := ?_) rfl (by kernel_rfl) (by kernel_rfl) (by kernel_rfl) (fun _ _ _ h => h) (Or.inl ⟨by rfl, ?_⟩) (by assumption) ?_
  rotate_left
  · (intro w hSw; (try dsimp only at hSw); go_simp; (try with_reducible rfl))
  try simp only [Act.put, List.setIfInBounds_toArray, List.set_cons_zero, List.set_cons_succ]
  refine wpAnyH_take (i := 4) (oi := { dst := some 7, op := Go.Op.move (Go.Operand.tmp 0), type := 3, pos := "link.go:19", after := #[], guard := none }) (v := ?_) rfl (by kernel_rfl) (by kernel_rfl) (by kernel_rfl) (fun _ _ _ h => h) (Or.inl ⟨by rfl, ?_⟩) (by assumption) ?_
  rotate_left
  · (intro w hSw; (try dsimp only at hSw); go_simp; (try with_reducible rfl))
  try simp only [Act.put, List.setIfInBounds_toArray, List.set_cons_zero, List.set_cons_succ]
  refine wpAnyH_ready (rs := [1]) (by kernel_rfl) (by simp) ?_
  refine AllReadyH.cons (o := { dst := some 4, op := Go.Op.call { callee := Go.Callee.value (Go.Operand.func 29), args := #[Go.Operand.tmp 3], argTypes := #[3] }, type := 36, pos := "link.go:19", after := #[{ on := 0, ground := Go.Ground.data }], guard := none }) rfl (fun K hK => ?_) AllReadyH.nil
  go_simp
  (go_at_call 29; refine (Hnew.out _).mono ?_; rintro e wA ⟨b1, rfl, hrA, hgA, hbA⟩; have HrA := Lib.hid hrA; have HwA := Lib.hid (Below.trans (B := w.heap.size) hHeld (hbA.mono (Below.size hHeld))); clear hbA hrA)
  go_simp
  refine hK.out _ _ (by exact HwA.out) (fun hHeld => ?_)
  clear hK K
  try simp only [Act.put, List.setIfInBounds_toArray, List.set_cons_zero, List.set_cons_succ]
  refine wpAnyH_turn (S' := (fun W => Below wA.heap.size wA W)) (by exact fun W hb => HwA.out.trans (hb.mono HwA.out.size)) _ _ _ _ ?_
  have hHeld : (fun W => Below wA.heap.size wA W) wA := by exact Below.refl _ _
  refine wpAnyH_take (i := 2) (oi := { dst := some 5, op := Go.Op.nilCheck (Go.Operand.tmp 4), type := 0, pos := "link.go:19", after := #[{ on := 1, ground := Go.Ground.data }], guard := none }) (v := ?_) rfl (by kernel_rfl) (by kernel_rfl) (by kernel_rfl) (fun _ _ _ h => h) (Or.inl ⟨by rfl, ?_⟩) (by assumption) ?_
  rotate_left
  · (intro w hSw; (try dsimp only at hSw); go_simp; (try with_reducible rfl))
  try simp only [Act.put, List.setIfInBounds_toArray, List.set_cons_zero, List.set_cons_succ]
  refine wpAnyH_take (i := 3) (oi := { dst := some 6, op := Go.Op.load 60 (Go.Operand.tmp 5), type := 60, pos := "link.go:19", after := #[{ on := 2, ground := Go.Ground.data }], guard := none }) (v := (.agg C.toArray)) rfl (by kernel_rfl) (by kernel_rfl) (by kernel_rfl) (fun _ _ _ h => h) (Or.inl ⟨by rfl, ?_⟩) (by assumption) ?_
  · (intro w hSw; (try dsimp only at hSw); exact exec_of (load_pipe (HrA.out.keep (hSw.block _ HrA.out.lt)) Hl.out))
  try simp only [Act.put, List.setIfInBounds_toArray, List.set_cons_zero, List.set_cons_succ]
  refine wpAnyH_ready (rs := [5]) (by kernel_rfl) (by simp) ?_
  refine AllReadyH.cons (o := { dst := some 8, op := Go.Op.call { callee := Go.Callee.value (Go.Operand.func 29), args := #[Go.Operand.tmp 7], argTypes := #[3] }, type := 36, pos := "link.go:19", after := #[{ on := 4, ground := Go.Ground.data }, { on := 1, ground := Go.Ground.chain }], guard := none }) rfl (fun K hK => ?_) AllReadyH.nil
  go_simp
  (go_at_call 29; refine (Hnew.out _).mono ?_; rintro e wB ⟨b2, rfl, hrB, hgB, hbB⟩; have HrB := Lib.hid hrB; have HwB := Lib.hid (Below.trans (B := wA.heap.size) hHeld (hbB.mono (Below.size hHeld))); clear hbB hrB)
  go_simp
  refine hK.out _ _ (by exact HwB.out) (fun hHeld => ?_)
  clear hK K
  try simp only [Act.put, List.setIfInBounds_toArray, List.set_cons_zero, List.set_cons_succ]
  refine wpAnyH_turn (S' := (fun W => Below wB.heap.size wB W)) (by exact fun W hb => HwB.out.trans (hb.mono HwB.out.size)) _ _ _ _ ?_
  have hHeld : (fun W => Below wB.heap.size wB W) wB := by exact Below.refl _ _
  refine wpAnyH_take (i := 6) (oi := { dst := some 9, op := Go.Op.nilCheck (Go.Operand.tmp 8), type := 0, pos := "link.go:19", after := #[{ on := 5, ground := Go.Ground.data }], guard := none }) (v := ?_) rfl (by kernel_rfl) (by kernel_rfl) (by kernel_rfl) (fun _ _ _ h => h) (Or.inl ⟨by rfl, ?_⟩) (by assumption) ?_
  rotate_left
  · (intro w hSw; (try dsimp only at hSw); go_simp; (try with_reducible rfl))
  try simp only [Act.put, List.setIfInBounds_toArray, List.set_cons_zero, List.set_cons_succ]
  refine wpAnyH_take (i := 7) (oi := { dst := some 10, op := Go.Op.load 60 (Go.Operand.tmp 9), type := 60, pos := "link.go:19", after := #[{ on := 6, ground := Go.Ground.data }], guard := none }) (v := (.agg C.toArray)) rfl (by kernel_rfl) (by kernel_rfl) (by kernel_rfl) (fun _ _ _ h => h) (Or.inl ⟨by rfl, ?_⟩) (by assumption) ?_
  · (intro w hSw; (try dsimp only at hSw); exact exec_of (load_pipe (HrB.out.keep (hSw.block _ HrB.out.lt)) Hl.out))
  try simp only [Act.put, List.setIfInBounds_toArray, List.set_cons_zero, List.set_cons_succ]
  refine wpAnyH_take (i := 8) (oi := { dst := some 11, op := Go.Op.build 63 #[(0, Go.Operand.tmp 6), (1, Go.Operand.tmp 10)], type := 63, pos := "link.go:19", after := #[{ on := 3, ground := Go.Ground.data }, { on := 7, ground := Go.Ground.data }], guard := none }) (v := (.agg (C ++ C ++ lkR false 0).toArray)) rfl (by kernel_rfl) (by kernel_rfl) (by kernel_rfl) (fun _ _ _ h => h) (Or.inl ⟨by rfl, ?_⟩) (by assumption) ?_
  · (intro w hSw; (try dsimp only at hSw); refine exec_of ?_; rw [List.map_toArray]; exact build_link C C Hl.out Hl.out _)
  try simp only [Act.put, List.setIfInBounds_toArray, List.set_cons_zero, List.set_cons_succ]
  refine wpAnyH_ready (rs := [9]) (by kernel_rfl) (by simp) ?_
  refine AllReadyH.cons (o := { dst := some 12, op := Go.Op.box 63 (Go.Operand.tmp 11), type := 24, pos := "link.go:19", after := #[{ on := 8, ground := Go.Ground.data }], guard := none }) rfl (fun K hK => ?_) AllReadyH.nil
  go_simp
  refine hK.out _ _ (by exact (hHeld.alloc hHeld.size _)) (fun hHeld => ?_)
  clear hK K
  try simp only [Act.put, List.setIfInBounds_toArray, List.set_cons_zero, List.set_cons_succ]
  refine wpAnyH_take (i := 10) (oi := { dst := some 2, op := Go.Op.assign (Go.Operand.tmp 12), type := 24, pos := "link.go:19", after := #[{ on := 9, ground := Go.Ground.data }, { on := 5, ground := Go.Ground.chain }, { on := 0, ground := Go.Ground.phase }, { on := 1, ground := Go.Ground.phase }, { on := 2, ground := Go.Ground.phase }, { on := 3, ground := Go.Ground.phase }, { on := 4, ground := Go.Ground.phase }, { on := 5, ground := Go.Ground.phase }, { on := 6, ground := Go.Ground.phase }, { on := 7, ground := Go.Ground.phase }, { on := 8, ground := Go.Ground.phase }, { on := 9, ground := Go.Ground.phase }], guard := none }) (v := ?_) rfl (by kernel_rfl) (by kernel_rfl) (by kernel_rfl) (fun _ _ _ h => h) (Or.inl ⟨by rfl, ?_⟩) (by assumption) ?_
  rotate_left
  · (intro w hSw; (try dsimp only at hSw); go_simp; (try with_reducible rfl))
  try simp only [Act.put, List.setIfInBounds_toArray, List.set_cons_zero, List.set_cons_succ]
  refine wpAnyH_done (by kernel_rfl) ?_ _
  have Hrow := Lib.hid (show Row (wB.alloc (.cells (C ++ (C ++ lkR false 0)).toArray 63)) wB.heap.size 63 (C ++ C ++ lkR false 0) from by rw [List.append_assoc]; exact Row.new wB _ _)
  have HbE := Lib.hid (show Below w.heap.size w (wB.alloc (.cells (C ++ (C ++ lkR false 0)).toArray 63)) from (HwA.out.trans (HwB.out.mono HwA.out.size)).alloc (Nat.le_trans HwA.out.size HwB.out.size) _)
  have Hle := Lib.hid (Nat.le_trans HwA.out.size HwB.out.size)
  clear hHeld HwA HwB HrA HrB Hnew
  go_wp2
  go_ret
  exact ⟨_, rfl, ⟨C, C, Hrow.out, Hp.out, Hp.out⟩, Hle.out, HbE.out⟩
end Go.Proofs.Ytecelklpeealaaa
