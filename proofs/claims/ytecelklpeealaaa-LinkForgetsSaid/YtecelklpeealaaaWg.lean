/-
  The reference of layer 22 (pipe), by its walks: Deliver, Inject. Conditions: as each theorem's premises say (up to a million bytes).
-/
import Derived.Test.YtecelklpeealaaaWf
namespace Go.Proofs.Ytecelklpeealaaa
open Go.RowKit

theorem info_iq : (Try.prog.info? 3).map (fun i => (i.zero, i.size, i.bytes)) = some (some (.int .i64 0), 1, 8) := by kernel_rfl
/-- What is stored behind an append to what came. -/
theorem RPi.more {w w1 w2 : World} {p base : Nat} {qo : Option Nat} {B0 M : Nat} {S : List Nat} {a : Nat} {K : List Int} {A : Option Addr} {n c : Nat} {xs : List Value} {k : Int} {v : Value} (hrow : Row w p 40 [.int .i64 (M : Int), .string (strOf S), .int .i64 (a : Int), .slice A n c])
    (hQ : QRow w base 3 (.slice A n c) xs) (hxs : xs = K.map (Value.int .i64)) (hpb : p < base) (hbl : base ≤ w.heap.size) (hB0 : B0 ≤ w.heap.size) (hqo : ∀ k, (Value.slice A n c).ownBlock = some k → qo = some k ∨ B0 ≤ k)
    (hb : Below w.heap.size w w1) (hq : QRow w2 base 3 v (xs ++ [.int .i64 k])) (hg : w1.grownBy w2 (Value.slice A n c).ownBlock) (hw : ∀ k, v.ownBlock = some k → (Value.slice A n c).ownBlock = some k ∨ w1.heap.size ≤ k) :
    Row w2 p 40 [.int .i64 (M : Int), .string (strOf S), .int .i64 (a : Int), .slice A n c] ∧ RPi (w2.setCell ⟨p, 3, none⟩ v) p base qo B0 M S a (K ++ [k]) ∧ KeptQ p qo B0 w (w2.setCell ⟨p, 3, none⟩ v) := by
  have hp1 : (Value.slice A n c).ownBlock ≠ some p := fun e => by have := (hQ.ownT p e).1; omega
  have hrow2 : Row w2 p 40 [.int .i64 (M : Int), .string (strOf S), .int .i64 (a : Int), .slice A n c] := (hrow.below hb).keep (hg.block p (Nat.lt_of_lt_of_le hrow.lt hb.size) (fun e => hp1 e.symm))
  have h1 := hb.size
  have h2 := hg.size
  refine ⟨hrow2, ⟨v, hrow2.set_ 3 v, ?_, hpb, by simp [World.setCell]; omega, by simp [World.setCell]; omega, fun j hj => ?_⟩, ?_⟩
  · rw [List.map_append, ← hxs]
    exact hq.keep (fun j hj => Below.heap_setCell w2 ⟨p, 3, none⟩ v j (by
      have := (hq.ownT j hj).1
      show j ≠ p
      omega))
  · rcases hw j hj with h3 | h3
    · exact hqo j h3
    · exact Or.inr (by omega)
  · exact (KeptQ.of_below hb hB0).trans ((KeptQ.grown hg (by omega) (fun j hj => Or.inr (hqo j hj))).trans (KeptQ.ofp (grown_set (grown_refl w2 (some p)) 3 v) (by omega)))
theorem KeptQ.setp {p : Nat} {qo : Option Nat} {B0 : Nat} {w w' : World} (h : KeptQ p qo B0 w w') (hB : B0 ≤ w'.heap.size) (i : Nat) (v : Value) : KeptQ p qo B0 w (w'.setCell ⟨p, i, none⟩ v) :=
  h.trans (KeptQ.ofp (grown_set (grown_refl w' (some p)) i v) hB)
theorem RPi.setA {w : World} {p base : Nat} {qo : Option Nat} {B0 M : Nat} {S : List Nat} {a : Nat} {K : List Int} (h : RPi w p base qo B0 M S a K) (b : Nat) : RPi (w.setCell ⟨p, 2, none⟩ (.int .i64 (b : Int))) p base qo B0 M S b K := by
  obtain ⟨v, hrow, hQ, hpb, hbl, hB0, hqo⟩ := h
  exact ⟨v, hrow.set_ 2 _, hQ.keep (fun k hk => Below.heap_setCell w ⟨p, 2, none⟩ _ k (by
    have := (hQ.ownT k hk).1
    show k ≠ p
    omega)), hpb, by simpa [World.setCell] using hbl, by simpa [World.setCell] using hB0, hqo⟩

set_option maxHeartbeats 1000000 in
set_option maxRecDepth 100000 in
theorem rpdel_any (p base : Nat) (qo : Option Nat) (B0 M : Nat) (S : List Nat) (a : Nat) (K : List Int) (x : Int) (kk : Nat) (w : World) (hx : Bm.comeN x (S.length - a) = kk) (ha : a ≤ S.length) (hS : S.length ≤ 1000000) (hK : K.length ≤ 1000000) (h : RPi w p base qo B0 M S a K) :
    Calls Try.prog 26 #[.pointer (some ⟨p, 0, none⟩), .int .i64 x] w fun e w' => e = .returned (.int .i64 (kk : Int)) ∧ RPi w' p base qo B0 M S (a + kk) (K ++ Bm.cameK a kk) ∧ KeptQ p qo B0 w w' := by
  obtain ⟨hk, hmn⟩ := Bm.come_le x (S.length - a)
  rw [hx] at hk hmn
  clear hx
  obtain ⟨i0, hi, hz0, hz1, hz2⟩ := info_parts info_iq
  have Hh := Lib.hid h
  have Hmn := Lib.hid hmn
  have hsz := strOf_size S
  clear h hmn
  go_enter Try.func26, Try.ntmps26
  go_wp2
  go_loopw [5] (fun s wr => ∃ j : Nat, j ≤ kk ∧ s = .int .i64 (j : Int) ∧ Hid (RPi wr p base qo B0 M S (a + j) (K ++ Bm.cameK a j)) ∧ Hid (KeptQ p qo B0 w wr)) (fun s _ => kk - (intOf s).toNat)
  case atStart => exact ⟨0, Nat.zero_le _, rfl, Lib.hid (by rw [Bm.cameK_zero, List.append_nil]; exact Hh.out), Lib.hid (KeptQ.refl _ _ _ _)⟩
  case round =>
    obtain ⟨j, hj, rfl, hR, hkept⟩ := hrel
    clear Hh
    have hcs := hR.out.cells.2.1
    have hca := hR.out.cells.2.2.1
    by_cases hjk : j < kk
    · have dx : decide ((j : Int) < x) = true := decide_eq_true (by have := Hmn.out; omega)
      have dn : decide (a + j < S.length) = true := decide_eq_true (by omega)
      have dI : decide (((a + j : Nat) : Int) < (S.length : Int)) = true := decide_eq_true (by omega)
      have Hnx := Lib.hid (show K ++ Bm.cameK a (j + 1) = (K ++ Bm.cameK a j) ++ [((a + j : Nat) : Int)] by rw [Bm.cameK_succ, List.append_assoc])
      have Hlen := Lib.hid (show (K ++ Bm.cameK a j).length ≤ 2000000 by rw [List.length_append, Bm.cameK_length]; omega)
      have hb3 : a + j ≤ 1000000 := by omega
      generalize K ++ Bm.cameK a j = K1 at *
      generalize hK2 : K ++ Bm.cameK a (j + 1) = K2 at *
      have HK2 := Lib.hid hK2
      clear hK2
      generalize haj : a + j = aj at *
      generalize haj2 : a + (j + 1) = aj2 at *
      have Haj := Lib.hid (show aj2 = aj + 1 by omega)
      have Haj2 := Lib.hid haj2
      clear haj haj2
      obtain ⟨v, hrow, hQ, hpb, hbl, hB0, hqo⟩ := hR.out
      generalize hxs : K1.map (Value.int .i64) = xs at *
      obtain ⟨A, c, rfl⟩ := hQ.shape
      have hnl : xs.length ≤ 2000000 := by rw [← hxs, List.length_map]; exact Hlen.out
      have Hxs := Lib.hid hxs.symm
      clear hxs
      generalize hn : xs.length = n at *
      have Hn := Lib.hid hn
      clear hn
      have Hrow := Lib.hid hrow
      have HQ := Lib.hid hQ
      have Hpb := Lib.hid hpb
      have Hbl := Lib.hid hbl
      have HB0 := Lib.hid hB0
      have Hqo := Lib.hid hqo
      have c3 := hrow.cell 3
      have f3 := hrow.free 3
      simp only [List.getElem?_cons_zero, List.getElem?_cons_succ] at c3
      clear hrow hQ hpb hbl hR Hmn hB0 hqo
      generalize hss : strOf S = ss at *
      have Hss0 := Lib.hid hss
      clear hss
      go_wp2_with fail
      go_quiet (fail)
      go_wp2_with fail
      have c2 : (wr.drewN nq).cell? ⟨p, 2, none⟩ = some (.int .i64 (aj : Int)) := hca
      have c3' : (wr.drewN nq).cell? ⟨p, 3, none⟩ = some (.slice A n c) := c3
      have Hrowq := Lib.hid (show Row (wr.drewN nq) p 40 [.int .i64 (M : Int), .string ss, .int .i64 (aj : Int), .slice A n c] from Hrow.out)
      have HQq := Lib.hid (show QRow (wr.drewN nq) base 3 (.slice A n c) xs from HQ.out)
      have Hblq := Lib.hid (show base ≤ (wr.drewN nq).heap.size from Hbl.out)
      have HB0q := Lib.hid (show B0 ≤ (wr.drewN nq).heap.size from HB0.out)
      have Hkq := Lib.hid (hkept.out.drewN nq)
      have Hss := Lib.hid Hss0.out
      clear hca hcs c3 f3 Hrow HQ Hbl HB0 hkept dx dn dI Hss0
      generalize wr.drewN nq = wq at *
      have Hc3 := Lib.hid c3'
      have Hb0 := Lib.hid (show Below wq.heap.size wq (wq.alloc (.cells #[.int .i64 (aj : Int)] 3)).drew from ((Below.refl _ _).alloc (Nat.le_refl _) _).drew)
      have Hnew := Lib.hid (show (wq.alloc (.cells #[.int .i64 (aj : Int)] 3)).drew.cell? ⟨wq.heap.size, 0, none⟩ = some (.int .i64 (aj : Int)) from (Row.new wq 3 [.int .i64 (aj : Int)]).cell 0)
      have HQ1 := Lib.hid (HQq.out.below Hb0.out)
      have e2 := (Hb0.out.cell (p := ⟨p, 2, none⟩) Hrowq.out.lt).trans c2
      have e3 := (Hb0.out.cell (p := ⟨p, 3, none⟩) Hrowq.out.lt).trans c3'
      refine wp_region_held_drew (S := (fun W : World => W.cell? ⟨p, 2, none⟩ = some (.int .i64 (aj : Int)))) (by kernel_rfl) (by exact c2) (fun hHeld => ?_)
      refine wpAnyH_take (i := 0) (oi := { dst := some 21, op := Go.Op.move (Go.Operand.tmp 0), type := 32, pos := "ref.go:41", after := #[], guard := none }) (v := ?_) rfl (by kernel_rfl) (by kernel_rfl) (by kernel_rfl) (fun _ _ _ h => h) (Or.inl ⟨by rfl, ?_⟩) (by assumption) ?_
      rotate_left
      · (intro w hSw; (try dsimp only at hSw); go_simp; (try with_reducible rfl))
      try simp only [Act.put, List.setIfInBounds_toArray, List.set_cons_zero, List.set_cons_succ]
      refine wpAnyH_take (i := 1) (oi := { dst := some 22, op := Go.Op.move (Go.Operand.tmp 0), type := 32, pos := "ref.go:41", after := #[], guard := none }) (v := ?_) rfl (by kernel_rfl) (by kernel_rfl) (by kernel_rfl) (fun _ _ _ h => h) (Or.inl ⟨by rfl, ?_⟩) (by assumption) ?_
      rotate_left
      · (intro w hSw; (try dsimp only at hSw); go_simp; (try with_reducible rfl))
      try simp only [Act.put, List.setIfInBounds_toArray, List.set_cons_zero, List.set_cons_succ]
      refine wpAnyH_take (i := 2) (oi := { dst := some 23, op := Go.Op.nilCheck (Go.Operand.tmp 22), type := 0, pos := "ref.go:41", after := #[{ on := 1, ground := Go.Ground.data }], guard := none }) (v := ?_) rfl (by kernel_rfl) (by kernel_rfl) (by kernel_rfl) (fun _ _ _ h => h) (Or.inl ⟨by rfl, ?_⟩) (by assumption) ?_
      rotate_left
      · (intro w hSw; (try dsimp only at hSw); go_simp; (try with_reducible rfl))
      try simp only [Act.put, List.setIfInBounds_toArray, List.set_cons_zero, List.set_cons_succ]
      refine wpAnyH_take (i := 3) (oi := { dst := some 24, op := Go.Op.fieldAddr 40 (Go.Operand.tmp 23) 3, type := 0, pos := "ref.go:41", after := #[{ on := 2, ground := Go.Ground.data }], guard := none }) (v := ?_) rfl (by kernel_rfl) (by kernel_rfl) (by kernel_rfl) (fun _ _ _ h => h) (Or.inl ⟨by rfl, ?_⟩) (by assumption) ?_
      rotate_left
      · (intro w hSw; (try dsimp only at hSw); go_simp; (try with_reducible rfl))
      try simp only [Act.put, List.setIfInBounds_toArray, List.set_cons_zero, List.set_cons_succ]
      refine wpAnyH_take (i := 5) (oi := { dst := some 26, op := Go.Op.move (Go.Operand.tmp 0), type := 32, pos := "ref.go:41", after := #[], guard := none }) (v := ?_) rfl (by kernel_rfl) (by kernel_rfl) (by kernel_rfl) (fun _ _ _ h => h) (Or.inl ⟨by rfl, ?_⟩) (by assumption) ?_
      rotate_left
      · (intro w hSw; (try dsimp only at hSw); go_simp; (try with_reducible rfl))
      try simp only [Act.put, List.setIfInBounds_toArray, List.set_cons_zero, List.set_cons_succ]
      refine wpAnyH_take (i := 6) (oi := { dst := some 27, op := Go.Op.nilCheck (Go.Operand.tmp 26), type := 0, pos := "ref.go:41", after := #[{ on := 5, ground := Go.Ground.data }], guard := none }) (v := ?_) rfl (by kernel_rfl) (by kernel_rfl) (by kernel_rfl) (fun _ _ _ h => h) (Or.inl ⟨by rfl, ?_⟩) (by assumption) ?_
      rotate_left
      · (intro w hSw; (try dsimp only at hSw); go_simp; (try with_reducible rfl))
      try simp only [Act.put, List.setIfInBounds_toArray, List.set_cons_zero, List.set_cons_succ]
      refine wpAnyH_take (i := 7) (oi := { dst := some 28, op := Go.Op.fieldAddr 40 (Go.Operand.tmp 27) 2, type := 0, pos := "ref.go:41", after := #[{ on := 6, ground := Go.Ground.data }], guard := none }) (v := ?_) rfl (by kernel_rfl) (by kernel_rfl) (by kernel_rfl) (fun _ _ _ h => h) (Or.inl ⟨by rfl, ?_⟩) (by assumption) ?_
      rotate_left
      · (intro w hSw; (try dsimp only at hSw); go_simp; (try with_reducible rfl))
      try simp only [Act.put, List.setIfInBounds_toArray, List.set_cons_zero, List.set_cons_succ]
      refine wpAnyH_take (i := 8) (oi := { dst := some 29, op := Go.Op.load 3 (Go.Operand.tmp 28), type := 3, pos := "ref.go:41", after := #[{ on := 7, ground := Go.Ground.data }], guard := none }) (v := ?_) rfl (by kernel_rfl) (by kernel_rfl) (by kernel_rfl) (fun _ _ _ h => h) (Or.inl ⟨by rfl, ?_⟩) (by assumption) ?_
      rotate_left
      · (intro w hSw; (try dsimp only at hSw); go_simp; (try with_reducible rfl))
      try simp only [Act.put, List.setIfInBounds_toArray, List.set_cons_zero, List.set_cons_succ]
      refine wpAnyH_ready (rs := [4, 9]) (by kernel_rfl) (by simp) ?_
      refine AllReadyH.cons (o := { dst := some 25, op := Go.Op.load 38 (Go.Operand.tmp 24), type := 38, pos := "ref.go:41", after := #[{ on := 3, ground := Go.Ground.data }], guard := none }) rfl (fun K hK => ?_) (AllReadyH.cons (o := { dst := some 30, op := Go.Op.buildSlice 38 1 #[(0, Go.Operand.tmp 29)], type := 38, pos := "ref.go:41", after := #[{ on := 8, ground := Go.Ground.data }], guard := none }) rfl (fun K hK => ?_) AllReadyH.nil)
      go_simp
      refine hK.out _ _ (by exact c2) (fun hHeld => ?_)
      clear hK K
      try simp only [Act.put, List.setIfInBounds_toArray, List.set_cons_zero, List.set_cons_succ]
      refine wpAnyH_ready (rs := [9]) (by kernel_rfl) (by simp) ?_
      refine AllReadyH.cons (o := { dst := some 30, op := Go.Op.buildSlice 38 1 #[(0, Go.Operand.tmp 29)], type := 38, pos := "ref.go:41", after := #[{ on := 8, ground := Go.Ground.data }], guard := none }) rfl (fun K hK => ?_) AllReadyH.nil
      go_simp
      refine hK.out _ _ (by exact e2) (fun hHeld => ?_)
      clear hK K
      try simp only [Act.put, List.setIfInBounds_toArray, List.set_cons_zero, List.set_cons_succ]
      rotate_left
      go_simp
      refine hK.out _ _ (by exact e2) (fun hHeld => ?_)
      clear hK K
      try simp only [Act.put, List.setIfInBounds_toArray, List.set_cons_zero, List.set_cons_succ]
      refine wpAnyH_ready (rs := [4]) (by kernel_rfl) (by simp) ?_
      refine AllReadyH.cons (o := { dst := some 25, op := Go.Op.load 38 (Go.Operand.tmp 24), type := 38, pos := "ref.go:41", after := #[{ on := 3, ground := Go.Ground.data }], guard := none }) rfl (fun K hK => ?_) AllReadyH.nil
      go_simp
      refine hK.out _ _ (by exact e2) (fun hHeld => ?_)
      clear hK K
      try simp only [Act.put, List.setIfInBounds_toArray, List.set_cons_zero, List.set_cons_succ]
      skip
      all_goals
        refine wpAnyH_ready (rs := [10]) (by kernel_rfl) (by simp) ?_
        refine AllReadyH.cons (o := { dst := some 31, op := Go.Op.call { callee := Go.Callee.builtin Go.Builtin.append, args := #[Go.Operand.tmp 25, Go.Operand.tmp 30], argTypes := #[38, 38] }, type := 38, pos := "ref.go:41", after := #[{ on := 4, ground := Go.Ground.data }, { on := 9, ground := Go.Ground.data }], guard := none }) rfl (fun K hK => ?_) AllReadyH.nil
        (refine step_append_q (by rfl) (.tmp 25) (.tmp 30) 38 (by rfl) base 3 i0 (.int .i64 0) 8 Try.underlying38 hi hz0 hz1 hz2 rfl (.slice A n c) xs (by rfl) HQ1.out wq.heap.size 0 1 (.int .i64 (aj : Int)) (by rfl) Hnew.out (by rfl) (by rw [Hn.out]; omega) (by rw [Hn.out]; unfold maxLen; omega) (Nat.le_trans Hblq.out Hb0.out.size) ?_; intro v5 w5 hq5 hg5 hn5; obtain ⟨hrow5, hR6, hK6⟩ := RPi.more (by rw [Hss.out]; exact Hrowq.out) HQq.out Hxs.out Hpb.out Hblq.out HB0q.out Hqo.out Hb0.out hq5 hg5 hn5; rw [Hss.out] at hrow5; obtain ⟨A5, n5, rfl⟩ := hq5.shape; clear hq5 hg5 hn5; generalize (xs ++ [Value.int .i64 (aj : Int)]).length = n6 at *; have e5 := hrow5.cell 2; have e6 := hrow5.cell 3; have e7 := hrow5.free 3; have e8 := hR6.cells.2.2.1; simp only [List.getElem?_cons_zero, List.getElem?_cons_succ] at e5 e6; have HR6 := Lib.hid hR6; have HK6 := Lib.hid (Hkq.out.trans hK6); clear hR6 hK6 hrow5)
        refine hK.out _ _ (by exact e5) (fun hHeld => ?_)
        clear hK K
        try simp only [Act.put, List.setIfInBounds_toArray, List.set_cons_zero, List.set_cons_succ]
        refine wpAnyH_take (i := 11) (oi := { dst := some 32, op := Go.Op.nilCheck (Go.Operand.tmp 21), type := 0, pos := "ref.go:41", after := #[{ on := 0, ground := Go.Ground.data }, { on := 0, ground := Go.Ground.phase }, { on := 1, ground := Go.Ground.phase }, { on := 2, ground := Go.Ground.phase }, { on := 3, ground := Go.Ground.phase }, { on := 4, ground := Go.Ground.phase }, { on := 5, ground := Go.Ground.phase }, { on := 6, ground := Go.Ground.phase }, { on := 7, ground := Go.Ground.phase }, { on := 8, ground := Go.Ground.phase }, { on := 9, ground := Go.Ground.phase }, { on := 10, ground := Go.Ground.phase }], guard := none }) (v := ?_) rfl (by kernel_rfl) (by kernel_rfl) (by kernel_rfl) (fun _ _ _ h => h) (Or.inl ⟨by rfl, ?_⟩) (by assumption) ?_
        rotate_left
        · (intro w hSw; (try dsimp only at hSw); go_simp; (try with_reducible rfl))
        try simp only [Act.put, List.setIfInBounds_toArray, List.set_cons_zero, List.set_cons_succ]
        refine wpAnyH_take (i := 12) (oi := { dst := some 33, op := Go.Op.fieldAddr 40 (Go.Operand.tmp 32) 3, type := 0, pos := "ref.go:41", after := #[{ on := 11, ground := Go.Ground.data }, { on := 0, ground := Go.Ground.phase }, { on := 1, ground := Go.Ground.phase }, { on := 2, ground := Go.Ground.phase }, { on := 3, ground := Go.Ground.phase }, { on := 4, ground := Go.Ground.phase }, { on := 5, ground := Go.Ground.phase }, { on := 6, ground := Go.Ground.phase }, { on := 7, ground := Go.Ground.phase }, { on := 8, ground := Go.Ground.phase }, { on := 9, ground := Go.Ground.phase }, { on := 10, ground := Go.Ground.phase }], guard := none }) (v := ?_) rfl (by kernel_rfl) (by kernel_rfl) (by kernel_rfl) (fun _ _ _ h => h) (Or.inl ⟨by rfl, ?_⟩) (by assumption) ?_
        rotate_left
        · (intro w hSw; (try dsimp only at hSw); go_simp; (try with_reducible rfl))
        try simp only [Act.put, List.setIfInBounds_toArray, List.set_cons_zero, List.set_cons_succ]
        refine wpAnyH_ready (rs := [13]) (by kernel_rfl) (by simp) ?_
        refine AllReadyH.cons (o := { dst := none, op := Go.Op.store 38 (Go.Operand.tmp 33) (Go.Operand.tmp 31), type := 0, pos := "ref.go:41", after := #[{ on := 12, ground := Go.Ground.data }, { on := 10, ground := Go.Ground.data }, { on := 10, ground := Go.Ground.chain }, { on := 0, ground := Go.Ground.phase }, { on := 1, ground := Go.Ground.phase }, { on := 2, ground := Go.Ground.phase }, { on := 3, ground := Go.Ground.phase }, { on := 4, ground := Go.Ground.phase }, { on := 5, ground := Go.Ground.phase }, { on := 6, ground := Go.Ground.phase }, { on := 7, ground := Go.Ground.phase }, { on := 8, ground := Go.Ground.phase }, { on := 9, ground := Go.Ground.phase }, { on := 10, ground := Go.Ground.phase }], guard := none }) rfl (fun K hK => ?_) AllReadyH.nil
        go_simp
        refine hK.out _ _ (by exact e8) (fun hHeld => ?_)
        clear hK K
        try simp only [Act.put, List.setIfInBounds_toArray, List.set_cons_zero, List.set_cons_succ]
        refine wpAnyH_done (by kernel_rfl) ?_ _
        have e9 := HR6.out.cells.2.2.2.2 2
        have HR7 := Lib.hid (HR6.out.setA (aj + 1))
        have HK7 := Lib.hid (HK6.out.setp HR6.out.lt.2.2.2 2 (.int .i64 ((aj + 1 : Nat) : Int)))
        rw [← Hnx.out, ← Haj.out] at HR7
        rw [← Haj.out] at HK7
        have haj9 : (aj : Int) + 1 = (aj2 : Int) := by have := Haj.out; omega
        clear hHeld e5 e6 e7 e2 e3 c2 c3' Hc3 HQ1 Hnew Hb0 HQq Hblq Hrowq HR6 HK6 hsz
        generalize w5.setCell ⟨p, 3, none⟩ (.slice A5 n6 n5) = w6 at *
        go_wp2
        go_roundw
        case rel => exact ⟨j + 1, by omega, by go_num, by rw [Haj2.out, HK2.out]; exact HR7, HK7⟩
        case measure => simp [intOf]; omega
    · obtain rfl : j = kk := by omega
      have Hend := Lib.hid hR.out
      have Hk9 := Lib.hid hkept.out
      clear hR hkept
      by_cases hjx : (j : Int) < x
      · have dx : decide ((j : Int) < x) = true := decide_eq_true hjx
        have dn : decide (a + j < S.length) = false := decide_eq_false (by have := Hmn.out; omega)
        have dI : decide (((a + j : Nat) : Int) < (S.length : Int)) = false := decide_eq_false (by have := Hmn.out; omega)
        generalize haj : a + j = aj at *
        have Haj := Lib.hid haj
        clear haj Hmn
        generalize strOf S = ss at *
        go_wp2_with fail
        go_quiet (fail)
        go_wp2
        go_ret
        exact ⟨rfl, by rw [Haj.out]; exact Hend.out.drewN _, Hk9.out.drewN _⟩
      · have dx : decide ((j : Int) < x) = false := decide_eq_false hjx
        generalize strOf S = ss at *
        clear Hmn hca hcs
        go_wp2_with fail
        go_quiet (fail)
        go_wp2
        go_ret
        exact ⟨rfl, Hend.out.drewN _, Hk9.out.drewN _⟩

set_option maxHeartbeats 1000000 in
set_option maxRecDepth 100000 in
theorem rpinj_yes (p base : Nat) (qo : Option Nat) (B0 M : Nat) (S : List Nat) (a : Nat) (K : List Int) (q : Nat) (l : List Nat) (w : World) (hM : M ≤ 2048) (hS : S.length ≤ 1000000) (ha : a ≤ S.length) (hq : q + (S.length - a) + K.length = M) (hs : l.length ≤ q) (hlt : ∀ x ∈ l, x < 256) (h : RPi w p base qo B0 M S a K) :
    Calls Try.prog 43 #[.pointer (some ⟨p, 0, none⟩), .string (strOf l)] w fun e w' => e = .returned (.bool true) ∧ RPi w' p base qo B0 M S a (K ++ Bm.putK l) ∧ KeptQ p qo B0 w w' := by
  have Hr := Lib.hid (rproom_any p base qo B0 M S a K q w hM hS ha hq h)
  have hsz := strOf_size l
  have hd : decide ((q : Int) < (l.length : Int)) = false := decide_eq_false (by omega)
  have hdn : decide (q < l.length) = false := decide_eq_false (by omega)
  have hlb : l.length ≤ 2048 := by omega
  have Hidx : Hid (∀ (i : Nat) (W : World) (hi : i < l.length), (Instr.index 9 (.string (strOf l)) (.int .i64 (i : Int))).run Try.prog W = .ok (.int .u8 ((l[i] : Nat) : Int)) W) := Lib.hid (fun i W hi => index_at l i W hi (hlt _ (List.getElem_mem hi)))
  have Hlt := Lib.hid (fun (i : Nat) (hi : i < l.length) => hlt _ (List.getElem_mem hi))
  obtain ⟨i0, hi, hz0, hz1, hz2⟩ := info_parts info_iq
  have Hh := Lib.hid h
  have HKl := Lib.hid (show K.length ≤ 2048 by omega)
  clear h hM hS ha hq hs hlt
  generalize hss : strOf l = s at *
  clear hss
  go_enter Try.func43, Try.ntmps43
  go_wp2_with fail
  refine Hr.out.mono ?_
  rintro e w1 ⟨rfl, d, rfl⟩
  clear Hr
  go_wp2
  go_loopw [5] (fun x wr => ∃ j : Nat, j ≤ l.length ∧ x = .int .i64 (j : Int) ∧ Hid (RPi wr p base qo B0 M S a (K ++ Bm.putK (l.take j))) ∧ Hid (KeptQ p qo B0 w wr)) (fun x _ => l.length - (intOf x).toNat)
  case atStart => exact ⟨0, Nat.zero_le _, rfl, Lib.hid (by rw [List.take_zero]; show RPi _ p base qo B0 M S a (K ++ []); rw [List.append_nil]; exact Hh.out.drewN d), Lib.hid ((KeptQ.refl _ _ _ _).drewN d)⟩
  case round =>
    obtain ⟨j, hj, rfl, hR, hkept⟩ := hrel
    clear Hh hd hdn
    by_cases hjl : j < l.length
    · have hix := fun W => Hidx.out j W hjl
      have hx256 := Hlt.out j hjl
      have Hnx := Lib.hid (show K ++ Bm.putK (l.take (j + 1)) = (K ++ Bm.putK (l.take j)) ++ [(l[j] : Int) - 256] by rw [Bm.putK_take l j hjl, List.append_assoc])
      have Hlen := Lib.hid (show (K ++ Bm.putK (l.take j)).length ≤ 1000000 by have := HKl.out; rw [List.length_append, Bm.putK_length, List.length_take]; omega)
      generalize K ++ Bm.putK (l.take j) = K1 at *
      generalize hK2 : K ++ Bm.putK (l.take (j + 1)) = K2 at *
      have HK2 := Lib.hid hK2
      clear hK2 Hidx Hlt HKl
      generalize l[j] = x at *
      generalize hk : (x : Int) - 256 = k at *
      have hw : IntKind.i64.wrap k = k := IntWalk.i64_in _ (by omega)
      have hwx : IntKind.i64.wrap (x : Int) = (x : Int) := IntWalk.i64_in _ (by omega)
      have hkb : -256 ≤ k ∧ k < 0 := by omega
      obtain ⟨v, hrow, hQ, hpb, hbl, hB0, hqo⟩ := hR.out
      generalize hxs : K1.map (Value.int .i64) = xs at *
      obtain ⟨A, c, rfl⟩ := hQ.shape
      have hnl : xs.length ≤ 1000000 := by rw [← hxs, List.length_map]; exact Hlen.out
      have Hxs := Lib.hid hxs.symm
      clear hxs
      generalize hn : xs.length = n at *
      have Hn := Lib.hid hn
      clear hn
      have Hrowq := Lib.hid hrow
      have HQq := Lib.hid hQ
      have Hpb := Lib.hid hpb
      have Hblq := Lib.hid hbl
      have HB0q := Lib.hid hB0
      have Hqo := Lib.hid hqo
      have Hkq := Lib.hid hkept.out
      have c3 := hrow.cell 3
      simp only [List.getElem?_cons_zero, List.getElem?_cons_succ] at c3
      clear hrow hQ hpb hbl hR hkept hB0 hqo
      have Hb0 := Lib.hid (show Below wr.heap.size wr (wr.alloc (.cells #[.int .i64 k] 3)).drew from ((Below.refl _ _).alloc (Nat.le_refl _) _).drew)
      have Hnew := Lib.hid (show (wr.alloc (.cells #[.int .i64 k] 3)).drew.cell? ⟨wr.heap.size, 0, none⟩ = some (.int .i64 k) from (Row.new wr 3 [.int .i64 k]).cell 0)
      have HQ1 := Lib.hid (HQq.out.below Hb0.out)
      have e3 := (Hb0.out.cell (p := ⟨p, 3, none⟩) Hrowq.out.lt).trans c3
      go_wp2_with fail
      refine wp_region_held_drew (S := (fun W : World => True)) (by kernel_rfl) (by exact trivial) (fun hHeld => ?_)
      refine wpAnyH_take (i := 0) (oi := { dst := some 17, op := Go.Op.move (Go.Operand.tmp 0), type := 32, pos := "ref.go:54", after := #[], guard := none }) (v := ?_) rfl (by kernel_rfl) (by kernel_rfl) (by kernel_rfl) (fun _ _ _ h => h) (Or.inl ⟨by rfl, ?_⟩) (by assumption) ?_
      rotate_left
      · (intro w hSw; (try dsimp only at hSw); go_simp; (try with_reducible rfl))
      try simp only [Act.put, List.setIfInBounds_toArray, List.set_cons_zero, List.set_cons_succ]
      refine wpAnyH_take (i := 1) (oi := { dst := some 18, op := Go.Op.move (Go.Operand.tmp 0), type := 32, pos := "ref.go:54", after := #[], guard := none }) (v := ?_) rfl (by kernel_rfl) (by kernel_rfl) (by kernel_rfl) (fun _ _ _ h => h) (Or.inl ⟨by rfl, ?_⟩) (by assumption) ?_
      rotate_left
      · (intro w hSw; (try dsimp only at hSw); go_simp; (try with_reducible rfl))
      try simp only [Act.put, List.setIfInBounds_toArray, List.set_cons_zero, List.set_cons_succ]
      refine wpAnyH_take (i := 2) (oi := { dst := some 19, op := Go.Op.nilCheck (Go.Operand.tmp 18), type := 0, pos := "ref.go:54", after := #[{ on := 1, ground := Go.Ground.data }], guard := none }) (v := ?_) rfl (by kernel_rfl) (by kernel_rfl) (by kernel_rfl) (fun _ _ _ h => h) (Or.inl ⟨by rfl, ?_⟩) (by assumption) ?_
      rotate_left
      · (intro w hSw; (try dsimp only at hSw); go_simp; (try with_reducible rfl))
      try simp only [Act.put, List.setIfInBounds_toArray, List.set_cons_zero, List.set_cons_succ]
      refine wpAnyH_take (i := 3) (oi := { dst := some 20, op := Go.Op.fieldAddr 40 (Go.Operand.tmp 19) 3, type := 0, pos := "ref.go:54", after := #[{ on := 2, ground := Go.Ground.data }], guard := none }) (v := ?_) rfl (by kernel_rfl) (by kernel_rfl) (by kernel_rfl) (fun _ _ _ h => h) (Or.inl ⟨by rfl, ?_⟩) (by assumption) ?_
      rotate_left
      · (intro w hSw; (try dsimp only at hSw); go_simp; (try with_reducible rfl))
      try simp only [Act.put, List.setIfInBounds_toArray, List.set_cons_zero, List.set_cons_succ]
      refine wpAnyH_take (i := 5) (oi := { dst := some 22, op := Go.Op.move (Go.Operand.tmp 1), type := 9, pos := "ref.go:54", after := #[], guard := none }) (v := ?_) rfl (by kernel_rfl) (by kernel_rfl) (by kernel_rfl) (fun _ _ _ h => h) (Or.inl ⟨by rfl, ?_⟩) (by assumption) ?_
      rotate_left
      · (intro w hSw; (try dsimp only at hSw); go_simp; (try with_reducible rfl))
      try simp only [Act.put, List.setIfInBounds_toArray, List.set_cons_zero, List.set_cons_succ]
      refine wpAnyH_take (i := 6) (oi := { dst := some 23, op := Go.Op.move (Go.Operand.tmp 5), type := 3, pos := "ref.go:54", after := #[], guard := none }) (v := ?_) rfl (by kernel_rfl) (by kernel_rfl) (by kernel_rfl) (fun _ _ _ h => h) (Or.inl ⟨by rfl, ?_⟩) (by assumption) ?_
      rotate_left
      · (intro w hSw; (try dsimp only at hSw); go_simp; (try with_reducible rfl))
      try simp only [Act.put, List.setIfInBounds_toArray, List.set_cons_zero, List.set_cons_succ]
      refine wpAnyH_take (i := 7) (oi := { dst := some 24, op := Go.Op.index 9 (Go.Operand.tmp 22) (Go.Operand.tmp 23), type := 5, pos := "ref.go:54", after := #[{ on := 5, ground := Go.Ground.data }, { on := 6, ground := Go.Ground.data }], guard := none }) (v := ?_) rfl (by kernel_rfl) (by kernel_rfl) (by kernel_rfl) (fun _ _ _ h => h) (Or.inl ⟨by rfl, ?_⟩) (by assumption) ?_
      rotate_left
      · (intro w hSw; (try dsimp only at hSw); go_simp; (try with_reducible rfl))
      try simp only [Act.put, List.setIfInBounds_toArray, List.set_cons_zero, List.set_cons_succ]
      refine wpAnyH_take (i := 8) (oi := { dst := some 25, op := Go.Op.convert 5 3 (Go.Operand.tmp 24), type := 3, pos := "ref.go:54", after := #[{ on := 7, ground := Go.Ground.data }], guard := none }) (v := ?_) rfl (by kernel_rfl) (by kernel_rfl) (by kernel_rfl) (fun _ _ _ h => h) (Or.inl ⟨by rfl, ?_⟩) (by assumption) ?_
      rotate_left
      · (intro w hSw; (try dsimp only at hSw); go_simp; (try with_reducible rfl))
      try simp only [Act.put, List.setIfInBounds_toArray, List.set_cons_zero, List.set_cons_succ]
      refine wpAnyH_take (i := 9) (oi := { dst := some 26, op := Go.Op.binOp Go.BinOp.sub 3 (Go.Operand.tmp 25) (Go.Operand.const (Go.Value.int Go.IntKind.i64 256)) 3, type := 3, pos := "ref.go:54", after := #[{ on := 8, ground := Go.Ground.data }], guard := none }) (v := ?_) rfl (by kernel_rfl) (by kernel_rfl) (by kernel_rfl) (fun _ _ _ h => h) (Or.inl ⟨by rfl, ?_⟩) (by assumption) ?_
      rotate_left
      · (intro w hSw; (try dsimp only at hSw); go_simp; (try with_reducible rfl))
      try simp only [Act.put, List.setIfInBounds_toArray, List.set_cons_zero, List.set_cons_succ]
      refine wpAnyH_ready (rs := [4, 10]) (by kernel_rfl) (by simp) ?_
      refine AllReadyH.cons (o := { dst := some 21, op := Go.Op.load 38 (Go.Operand.tmp 20), type := 38, pos := "ref.go:54", after := #[{ on := 3, ground := Go.Ground.data }], guard := none }) rfl (fun K hK => ?_) (AllReadyH.cons (o := { dst := some 27, op := Go.Op.buildSlice 38 1 #[(0, Go.Operand.tmp 26)], type := 38, pos := "ref.go:54", after := #[{ on := 9, ground := Go.Ground.data }], guard := none }) rfl (fun K hK => ?_) AllReadyH.nil)
      go_simp
      refine hK.out _ _ (by exact trivial) (fun hHeld => ?_)
      clear hK K
      try simp only [Act.put, List.setIfInBounds_toArray, List.set_cons_zero, List.set_cons_succ]
      refine wpAnyH_ready (rs := [10]) (by kernel_rfl) (by simp) ?_
      refine AllReadyH.cons (o := { dst := some 27, op := Go.Op.buildSlice 38 1 #[(0, Go.Operand.tmp 26)], type := 38, pos := "ref.go:54", after := #[{ on := 9, ground := Go.Ground.data }], guard := none }) rfl (fun K hK => ?_) AllReadyH.nil
      go_simp
      refine hK.out _ _ (by exact trivial) (fun hHeld => ?_)
      clear hK K
      try simp only [Act.put, List.setIfInBounds_toArray, List.set_cons_zero, List.set_cons_succ]
      rotate_left
      go_simp
      refine hK.out _ _ (by exact trivial) (fun hHeld => ?_)
      clear hK K
      try simp only [Act.put, List.setIfInBounds_toArray, List.set_cons_zero, List.set_cons_succ]
      refine wpAnyH_ready (rs := [4]) (by kernel_rfl) (by simp) ?_
      refine AllReadyH.cons (o := { dst := some 21, op := Go.Op.load 38 (Go.Operand.tmp 20), type := 38, pos := "ref.go:54", after := #[{ on := 3, ground := Go.Ground.data }], guard := none }) rfl (fun K hK => ?_) AllReadyH.nil
      go_simp
      refine hK.out _ _ (by exact trivial) (fun hHeld => ?_)
      clear hK K
      try simp only [Act.put, List.setIfInBounds_toArray, List.set_cons_zero, List.set_cons_succ]
      skip
      all_goals
        refine wpAnyH_ready (rs := [11]) (by kernel_rfl) (by simp) ?_
        refine AllReadyH.cons (o := { dst := some 28, op := Go.Op.call { callee := Go.Callee.builtin Go.Builtin.append, args := #[Go.Operand.tmp 21, Go.Operand.tmp 27], argTypes := #[38, 38] }, type := 38, pos := "ref.go:54", after := #[{ on := 4, ground := Go.Ground.data }, { on := 10, ground := Go.Ground.data }], guard := none }) rfl (fun K hK => ?_) AllReadyH.nil
        (refine step_append_q (by rfl) (.tmp 21) (.tmp 27) 38 (by rfl) base 3 i0 (.int .i64 0) 8 Try.underlying38 hi hz0 hz1 hz2 rfl (.slice A n c) xs (by rfl) HQ1.out wr.heap.size 0 1 (.int .i64 k) (by rfl) Hnew.out (by rfl) (by rw [Hn.out]; omega) (by rw [Hn.out]; unfold maxLen; omega) (Nat.le_trans Hblq.out Hb0.out.size) ?_; intro v5 w5 hq5 hg5 hn5; obtain ⟨hrow5, hR6, hK6⟩ := RPi.more Hrowq.out HQq.out Hxs.out Hpb.out Hblq.out HB0q.out Hqo.out Hb0.out hq5 hg5 hn5; obtain ⟨A5, n5, rfl⟩ := hq5.shape; clear hq5 hg5 hn5; generalize (xs ++ [Value.int .i64 k]).length = n6 at *; have e6 := hrow5.cell 3; have e7 := hrow5.free 3; simp only [List.getElem?_cons_zero, List.getElem?_cons_succ] at e6; have HR6 := Lib.hid hR6; have HK6 := Lib.hid (Hkq.out.trans hK6); clear hR6 hK6 hrow5)
        refine hK.out _ _ (by exact trivial) (fun hHeld => ?_)
        clear hK K
        try simp only [Act.put, List.setIfInBounds_toArray, List.set_cons_zero, List.set_cons_succ]
        refine wpAnyH_take (i := 12) (oi := { dst := some 29, op := Go.Op.nilCheck (Go.Operand.tmp 17), type := 0, pos := "ref.go:54", after := #[{ on := 0, ground := Go.Ground.data }, { on := 0, ground := Go.Ground.phase }, { on := 1, ground := Go.Ground.phase }, { on := 2, ground := Go.Ground.phase }, { on := 3, ground := Go.Ground.phase }, { on := 4, ground := Go.Ground.phase }, { on := 5, ground := Go.Ground.phase }, { on := 6, ground := Go.Ground.phase }, { on := 7, ground := Go.Ground.phase }, { on := 8, ground := Go.Ground.phase }, { on := 9, ground := Go.Ground.phase }, { on := 10, ground := Go.Ground.phase }, { on := 11, ground := Go.Ground.phase }], guard := none }) (v := ?_) rfl (by kernel_rfl) (by kernel_rfl) (by kernel_rfl) (fun _ _ _ h => h) (Or.inl ⟨by rfl, ?_⟩) (by assumption) ?_
        rotate_left
        · (intro w hSw; (try dsimp only at hSw); go_simp; (try with_reducible rfl))
        try simp only [Act.put, List.setIfInBounds_toArray, List.set_cons_zero, List.set_cons_succ]
        refine wpAnyH_take (i := 13) (oi := { dst := some 30, op := Go.Op.fieldAddr 40 (Go.Operand.tmp 29) 3, type := 0, pos := "ref.go:54", after := #[{ on := 12, ground := Go.Ground.data }, { on := 0, ground := Go.Ground.phase }, { on := 1, ground := Go.Ground.phase }, { on := 2, ground := Go.Ground.phase }, { on := 3, ground := Go.Ground.phase }, { on := 4, ground := Go.Ground.phase }, { on := 5, ground := Go.Ground.phase }, { on := 6, ground := Go.Ground.phase }, { on := 7, ground := Go.Ground.phase }, { on := 8, ground := Go.Ground.phase }, { on := 9, ground := Go.Ground.phase }, { on := 10, ground := Go.Ground.phase }, { on := 11, ground := Go.Ground.phase }], guard := none }) (v := ?_) rfl (by kernel_rfl) (by kernel_rfl) (by kernel_rfl) (fun _ _ _ h => h) (Or.inl ⟨by rfl, ?_⟩) (by assumption) ?_
        rotate_left
        · (intro w hSw; (try dsimp only at hSw); go_simp; (try with_reducible rfl))
        try simp only [Act.put, List.setIfInBounds_toArray, List.set_cons_zero, List.set_cons_succ]
        refine wpAnyH_ready (rs := [14]) (by kernel_rfl) (by simp) ?_
        refine AllReadyH.cons (o := { dst := none, op := Go.Op.store 38 (Go.Operand.tmp 30) (Go.Operand.tmp 28), type := 0, pos := "ref.go:54", after := #[{ on := 13, ground := Go.Ground.data }, { on := 11, ground := Go.Ground.data }, { on := 11, ground := Go.Ground.chain }, { on := 0, ground := Go.Ground.phase }, { on := 1, ground := Go.Ground.phase }, { on := 2, ground := Go.Ground.phase }, { on := 3, ground := Go.Ground.phase }, { on := 4, ground := Go.Ground.phase }, { on := 5, ground := Go.Ground.phase }, { on := 6, ground := Go.Ground.phase }, { on := 7, ground := Go.Ground.phase }, { on := 8, ground := Go.Ground.phase }, { on := 9, ground := Go.Ground.phase }, { on := 10, ground := Go.Ground.phase }, { on := 11, ground := Go.Ground.phase }], guard := none }) rfl (fun K hK => ?_) AllReadyH.nil
        go_simp
        refine hK.out _ _ (by exact trivial) (fun hHeld => ?_)
        clear hK K
        try simp only [Act.put, List.setIfInBounds_toArray, List.set_cons_zero, List.set_cons_succ]
        refine wpAnyH_done (by kernel_rfl) ?_ _
        rw [← Hnx.out] at HR6
        clear hHeld e6 e7 e3 c3 HQ1 Hnew Hb0 HQq Hblq Hrowq hix
        generalize w5.setCell ⟨p, 3, none⟩ (.slice A5 n6 n5) = w6 at *
        go_wp2
        go_roundw
        case rel => exact ⟨j + 1, by omega, by go_num, by rw [HK2.out]; exact HR6, HK6⟩
        case measure => simp [intOf]; omega
    · obtain rfl : j = l.length := by omega
      rw [List.take_length] at hR
      have Hend := Lib.hid hR.out
      have Hk9 := Lib.hid hkept.out
      clear hR hkept
      go_wp2
      go_ret
      exact ⟨rfl, Hend.out, Hk9.out⟩
end Go.Proofs.Ytecelklpeealaaa
