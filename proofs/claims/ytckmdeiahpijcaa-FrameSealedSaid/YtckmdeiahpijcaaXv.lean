/-
  The program's layer 24 (frame): isKind, size, open, Encode, by their walks. Conditions: as each theorem's premises say.
-/
import Derived.Test.YtckmdeiahpijcaaXo
import Derived.Test.YtckmdeiahpijcaaCh
import Derived.Test.YtckmdeiahpijcaaCn
import Derived.Test.YtckmdeiahpijcaaCe
import Derived.Test.YtckmdeiahpijcaaSc
import Derived.Test.YtckmdeiahpijcaaEg
import Derived.Test.YtckmdeiahpijcaaIn
import Derived.RegionTactic
import Derived.Deep.RegionHeld3
namespace Go.Proofs.Ytckmdeiahpijcaa
open Go.RowKit

set_option maxHeartbeats 400000 in
set_option maxRecDepth 100000 in
theorem frkind_yes (k : Int) (w : World) (h1 : 1 ≤ k) (h2 : k ≤ 10) : Calls Try.prog 27 #[.int .i64 k] w fun e w' => e = .returned (.bool true) ∧ w = w' := by
  go_enter Try.func27, Try.ntmps27
  go_wp2
  go_ret
  exact ⟨rfl, rfl⟩
set_option maxHeartbeats 400000 in
set_option maxRecDepth 100000 in
theorem frkind_no (k : Int) (w : World) (h : k < 1 ∨ 10 < k) : Calls Try.prog 27 #[.int .i64 k] w fun e w' => e = .returned (.bool false) ∧ w = w' := by
  go_enter Try.func27, Try.ntmps27
  by_cases h1 : 1 ≤ k
  · have h2 : ¬ k ≤ 10 := by omega
    go_wp2
    go_ret
    exact ⟨rfl, rfl⟩
  · go_wp2
    go_ret
    exact ⟨rfl, rfl⟩
theorem frkind_any (k : Int) (b : Bool) (w : World) (hb : decide (1 ≤ k ∧ k ≤ 10) = b) : Calls Try.prog 27 #[.int .i64 k] w fun e w' => e = .returned (.bool b) ∧ w = w' := by
  subst hb
  by_cases h : 1 ≤ k ∧ k ≤ 10
  · rw [decide_eq_true h]; exact frkind_yes k w h.1 h.2
  · rw [decide_eq_false h]; exact frkind_no k w (by omega)

/-- What a Reader answers at a text's beginning. -/
theorem raw_kind (s : List Nat) (h : s ≠ []) : rawS 1 (some s) = (s.take 1, some (s.drop 1)) := by
  have := List.length_pos_iff.2 h
  simp only [rawS]
  rw [if_pos (by omega)]
theorem raw_len (s : List Nat) : Bm.valB (rawS 2 (some (s.drop 1))).1 = Bm.lenN s := by
  simp only [rawS]
  by_cases h : 3 ≤ s.length
  · rw [if_pos (by rw [List.length_drop]; omega)]
    exact Bm.lenN_val s h
  · rw [if_neg (by rw [List.length_drop]; omega), Bm.lenN_short s (by omega)]
    rfl
/-- What size answers. -/
def fszN (s : List Nat) : Nat := if Bm.badN s = 0 then Bm.sizeN s else 0
set_option maxHeartbeats 1000000 in
set_option maxRecDepth 100000 in
theorem frsize_any (s : List Nat) (w : World) (hs : s ≠ []) (hlt : ∀ x ∈ s, x < 256) (hl : s.length ≤ 100000000) :
    Calls Try.prog 39 #[.string (strOf s)] w fun e w' => e = .returned (.tuple #[.int .i64 (fszN s : Int), .int .i64 (Bm.badN s : Int)]) ∧ Below w.heap.size w w' := by
  have Hnew := Lib.hid (cnew_any s w)
  have ok0 : OkL (some s) := ⟨hlt, hl⟩
  have ok1 : OkL (some (s.drop 1)) := ⟨drop_lt hlt 1, by rw [List.length_drop]; omega⟩
  have H1 : Hid (∀ W b, CR W b (some s) → Calls Try.prog 49 #[.pointer (some ⟨b, 0, none⟩), .int .i64 1] W fun e w' => e = .returned (.int .u64 (Bm.kindN s : Int)) ∧ CR w' b (some (s.drop 1)) ∧ W.grownBy w' (some b)) := Lib.hid (fun W b h => by
    have h1 := rfixed_any b (some s) 1 W (by decide) (by decide) ok0 h
    rw [show fx 1 = 1 from rfl, raw_kind s hs, Bm.kindN_val s hs] at h1
    exact h1)
  have H2 : Hid (∀ W b, CR W b (some (s.drop 1)) → Calls Try.prog 49 #[.pointer (some ⟨b, 0, none⟩), .int .i64 2] W fun e w' => e = .returned (.int .u64 (Bm.lenN s : Int)) ∧ W.grownBy w' (some b)) := Lib.hid (fun W b h => by
    have h1 := rfixed_any b (some (s.drop 1)) 2 W (by decide) (by decide) ok1 h
    rw [show fx 2 = 2 from rfl, raw_len s] at h1
    exact h1.mono fun _ _ ⟨h2, h3, h4⟩ => ⟨h2, h4⟩)
  have hk := Bm.kindN_lt s hlt
  have hn := Bm.lenN_lt s hlt
  have hR : (fszN s = if Bm.badN s = 0 then 11 + Bm.lenN s else 0) := rfl
  have hB : Bm.badN s = if Bm.kindN s < 1 ∨ 10 < Bm.kindN s then 6 else if 900 < Bm.lenN s then 5 else 0 := rfl
  rw [hR]
  clear hR
  generalize Bm.badN s = bad at *
  generalize Bm.kindN s = k at *
  generalize Bm.lenN s = n at *
  go_enter Try.func39, Try.ntmps39
  go_wp2_with fail
  refine Hnew.out.mono ?_
  rintro e w1 ⟨rfl, hcr, hb1⟩
  have H1a := Lib.hid (H1.out w1 _ hcr)
  have HB1 := Lib.hid hb1
  have hlo := Nat.le_refl w.heap.size
  have hs1 := hb1.size
  obtain ⟨b, hb⟩ : ∃ b, b = w.heap.size := ⟨_, rfl⟩
  rw [← hb] at H1a ⊢
  have Hb : Hid (w.heap.size ≤ b) := Lib.hid (by omega)
  clear hcr hb1 hlo H1 hb
  go_wp2_with fail
  refine H1a.out.mono ?_
  rintro e w2 ⟨rfl, hcr, hg2⟩
  have H2a := Lib.hid (H2.out w2 b hcr)
  have HB2 := Lib.hid (HB1.out.trans (below_grown hg2 Hb.out HB1.out.size))
  clear hcr hg2 HB1 H1a H2
  by_cases hk2 : k < 1 ∨ 10 < k
  · rw [if_pos hk2] at hB
    subst hB
    have Hkd := Lib.hid (frkind_no (k : Int) w2 (by omega))
    go_wp2_with fail
    refine Hkd.out.mono ?_
    rintro e w' ⟨rfl, rfl⟩
    go_wp2
    go_ret2
    exact ⟨rfl, HB2.out⟩
  · rw [if_neg hk2] at hB
    have Hkd := Lib.hid (frkind_yes (k : Int) w2 (by omega) (by omega))
    go_wp2_with fail
    refine Hkd.out.mono ?_
    rintro e w' ⟨rfl, rfl⟩
    clear Hkd
    go_wp2_with fail
    refine H2a.out.mono ?_
    rintro e w3 ⟨rfl, hg3⟩
    have HB3 := Lib.hid (HB2.out.trans (below_grown hg3 Hb.out HB2.out.size))
    clear hg3 HB2 H2a
    by_cases hn9 : 900 < n
    · rw [if_pos hn9] at hB
      subst hB
      go_wp2
      go_ret2
      exact ⟨rfl, HB3.out⟩
    · rw [if_neg hn9] at hB
      subst hB
      go_wp2
      go_ret2
      exact ⟨congrArg (fun x => Ending.returned (Value.tuple #[.int .i64 x, .int .i64 0])) (by simp), HB3.out⟩

/-- A frame's two cells, written. -/
theorem fr_row {w : World} {g : Nat} {cs : List Value} (h : Row w g 30 cs) (hl : cs.length = 2) (k : Int) (s : ByteArray) :
    Row ((w.setCell ⟨g, 0, none⟩ (.int .i64 k)).setCell ⟨g, 1, none⟩ (.string s)) g 30 [.int .i64 k, .string s] := by
  have h1 := (h.set_ 0 (.int .i64 k)).set_ 1 (.string s)
  match cs, hl with
  | [a, b], _ => exact h1
theorem fr_set_below {B : Nat} {w w' : World} (h : Below B w w') {g : Nat} (hg : B ≤ g) (u v : Value) : Below B w ((w'.setCell ⟨g, 0, none⟩ u).setCell ⟨g, 1, none⟩ v) :=
  (h.setCell (p := ⟨g, 0, none⟩) hg u).setCell (p := ⟨g, 1, none⟩) hg v
/-- A frame as a value, and as two cells. -/
def frV (f : Bm.Frm) : Value := .agg #[.int .i64 f.1, .string (strOf f.2)]
def frL (f : Bm.Frm) : List Value := [.int .i64 f.1, .string (strOf f.2)]
set_option maxHeartbeats 1000000 in
set_option maxRecDepth 100000 in
theorem fropen_any (s : List Nat) (w : World) (hlt : ∀ x ∈ s, x < 256) (hn : Bm.lenN s ≤ 900) (hl : s.length = Bm.sizeN s) :
    Calls Try.prog 37 #[.string (strOf s)] w fun e w' => e = .returned (.tuple #[frV (if Bm.sealsF s then Bm.frmF s else Bm.zfr), .int .i64 (if Bm.sealsF s then 0 else 4)]) ∧ Below w.heap.size w w' := by
  have hL : s.length = Bm.lenN s + 11 := by rw [hl]; exact Nat.add_comm _ _
  have hs : s ≠ [] := fun e => by rw [e] at hL; simp at hL
  have h3 : 3 ≤ s.length := by omega
  have Hnew := Lib.hid (fun w => cnew_any s w)
  have ok0 : OkL (some s) := ⟨hlt, by omega⟩
  have ok1 : OkL (some (s.drop 1)) := ⟨drop_lt hlt 1, by rw [List.length_drop]; omega⟩
  have ok3 : OkL (some ((s.drop 3).drop (Bm.lenN s))) := ⟨drop_lt (drop_lt hlt 3) _, by rw [List.length_drop, List.length_drop]; omega⟩
  have H1 : Hid (∀ W b, CR W b (some s) → Calls Try.prog 49 #[.pointer (some ⟨b, 0, none⟩), .int .i64 1] W fun e w' => e = .returned (.int .u64 (Bm.kindN s : Int)) ∧ CR w' b (some (s.drop 1)) ∧ W.grownBy w' (some b)) := Lib.hid (fun W b h => by
    have h1 := rfixed_any b (some s) 1 W (by decide) (by decide) ok0 h
    rw [show fx 1 = 1 from rfl, raw_kind s hs, Bm.kindN_val s hs] at h1
    exact h1)
  have H2 : Hid (∀ W b, CR W b (some (s.drop 1)) → Calls Try.prog 49 #[.pointer (some ⟨b, 0, none⟩), .int .i64 2] W fun e w' => e = .returned (.int .u64 (Bm.lenN s : Int)) ∧ CR w' b (some (s.drop 3)) ∧ W.grownBy w' (some b)) := Lib.hid (fun W b h => by
    have h1 := rfixed_any b (some (s.drop 1)) 2 W (by decide) (by decide) ok1 h
    rw [show fx 2 = 2 from rfl, raw_len s, show (rawS 2 (some (s.drop 1))).2 = some (s.drop 3) by simp only [rawS]; rw [if_pos (by rw [List.length_drop]; omega), List.drop_drop]] at h1
    exact h1)
  have H3 : Hid (∀ W b, CR W b (some (s.drop 3)) → Calls Try.prog 50 #[.pointer (some ⟨b, 0, none⟩), .int .i64 (Bm.lenN s : Int)] W fun e w' => e = .returned (.string (strOf ((s.drop 3).take (Bm.lenN s)))) ∧ CR w' b (some ((s.drop 3).drop (Bm.lenN s))) ∧ W.grownBy w' (some b)) := Lib.hid (fun W b h =>
    rraw_some b (Bm.lenN s) (Bm.lenN s : Int) (s.drop 3) W (by omega) (by rw [List.length_drop]; omega) h)
  have H4 : Hid (∀ W b, CR W b (some ((s.drop 3).drop (Bm.lenN s))) → Calls Try.prog 49 #[.pointer (some ⟨b, 0, none⟩), .int .i64 8] W fun e w' => e = .returned (.int .u64 (Bm.valB ((s.drop (Bm.lenN s + 3)).take 8) : Int)) ∧ W.grownBy w' (some b)) := Lib.hid (fun W b h => by
    have h1 := rfixed_any b (some ((s.drop 3).drop (Bm.lenN s))) 8 W (by decide) (by decide) ok3 h
    rw [show fx 8 = 8 from rfl, List.drop_drop, Nat.add_comm 3, show (rawS 8 (some (s.drop (Bm.lenN s + 3)))).1 = (s.drop (Bm.lenN s + 3)).take 8 by simp only [rawS]; rw [if_pos (by rw [List.length_drop]; omega)]] at h1
    exact h1.mono fun _ _ ⟨h2, h3, h4⟩ => ⟨h2, h4⟩)
  have H5 := Lib.hid (fun W => sof_any (s.take (Bm.lenN s + 3)) W (by rw [List.length_take]; omega) (take_lt hlt _))
  have hcut : ∀ W, (Instr.slice 9 (.string (strOf s)) none (some (.int .i64 ((s.length : Int) - 8))) none).run Try.prog W = .ok (.string (strOf (s.take (Bm.lenN s + 3)))) W := fun W => by
    rw [show (s.length : Int) - 8 = ((Bm.lenN s + 3 : Nat) : Int) by omega]
    exact str_to s _ (by omega) W
  have hbl : (strOf ((s.drop 3).take (Bm.lenN s))).size ≤ 900 := by rw [strOf_size, List.length_take]; omega
  have hw8 : IntKind.i64.wrap ((s.length : Int) - 8) = (s.length : Int) - 8 := by rw [IntKind.wrap_i64]; omega
  have Hcl := Lib.hid (fun W => sclone_any (strOf ((s.drop 3).take (Bm.lenN s))) W (Nat.le_trans hbl (by decide)))
  have hk := Bm.kindN_lt s hlt
  have hsz := strOf_size s
  have hsl : s.length ≤ 911 := by omega
  have hsl8 : 8 ≤ s.length := by omega
  have Hfin : Hid (frV (Bm.frmF s) = .agg #[.int .i64 (Bm.kindN s : Int), .string (strOf ((s.drop 3).take (Bm.lenN s)))]) := Lib.hid rfl
  have Hse : Hid (Bm.sealsF s ↔ Bm.valB ((s.drop (Bm.lenN s + 3)).take 8) = Bm.sumOf (s.take (Bm.lenN s + 3))) := Lib.hid Iff.rfl
  obtain ⟨R, hR⟩ : ∃ R, R = Value.tuple #[frV (if Bm.sealsF s then Bm.frmF s else Bm.zfr), .int .i64 (if Bm.sealsF s then 0 else 4)] := ⟨_, rfl⟩
  rw [← hR]
  have HR := Lib.hid hR
  clear hR
  generalize Bm.frmF s = FR at *
  generalize Bm.sumOf (s.take (Bm.lenN s + 3)) = sm at *
  generalize strOf (s.take (Bm.lenN s + 3)) = ss at *
  generalize Bm.valB ((s.drop (Bm.lenN s + 3)).take 8) = vs at *
  generalize strOf ((s.drop 3).take (Bm.lenN s)) = bd at *
  generalize Bm.kindN s = k at *
  generalize Bm.lenN s = n at *
  generalize strOf s = ts at *
  generalize s.length = L at *
  clear ok0 ok1 ok3 hs h3 hL hl
  go_enter Try.func37, Try.ntmps37
  go_wp2_with fail
  obtain ⟨w0, hw0⟩ : ∃ w0, w0 = w.alloc (.cells #[.int .i64 0, .string ⟨#[]⟩] 30) := ⟨_, rfl⟩
  have hr0 : Row w0 w.heap.size 30 [.int .i64 0, .string ⟨#[]⟩] := by rw [hw0]; exact Row.new w _ _
  have hb0 : Below w.heap.size w w0 := by rw [hw0]; exact (Below.refl _ _).alloc (Nat.le_refl _) _
  rw [← hw0]
  have hB : Hid (w.heap.size ≤ w.heap.size) := Lib.hid (Nat.le_refl _)
  obtain ⟨B, hBe⟩ : ∃ B, B = w.heap.size := ⟨_, rfl⟩
  rw [← hBe] at hr0 hB ⊢
  have Hr0 := Lib.hid hr0
  have Hb0 : Hid (Below w.heap.size w w0) := Lib.hid hb0
  have hlb : B < w0.heap.size := hr0.lt
  clear hw0 hr0 hb0
  refine (Hnew.out w0).mono ?_
  rintro e w1 ⟨rfl, hcr, hb1⟩
  obtain ⟨b, hb⟩ : ∃ b, b = w0.heap.size := ⟨_, rfl⟩
  rw [← hb] at hlb hcr ⊢
  have HB1 : Hid (Below w.heap.size w w1) := Lib.hid (Hb0.out.trans (hb1.mono Hb0.out.size))
  have Hr1 := Lib.hid (row_below Hr0.out hb1)
  have H1a := Lib.hid (H1.out w1 b hcr)
  have hne : some B ≠ some b := by simp; omega
  have hbw : w.heap.size ≤ b := by omega
  have Hne := Lib.hid hne
  have Hbw := Lib.hid hbw
  have HBe := Lib.hid hBe
  clear hcr hb1 hb H1 Hr0 Hb0 Hnew hne hbw hlb hB hBe
  go_wp2_with fail
  refine H1a.out.mono ?_
  rintro e w2 ⟨rfl, hcr, hg⟩
  have H2a := Lib.hid (H2.out w2 b hcr)
  have HB2 := Lib.hid (HB1.out.trans (below_grown hg Hbw.out HB1.out.size))
  have Hr2 := Lib.hid (Hr1.out.keep (hg.block B Hr1.out.lt Hne.out))
  clear hcr hg HB1 Hr1 H1a H2
  go_wp2_with fail
  refine H2a.out.mono ?_
  rintro e w3 ⟨rfl, hcr, hg⟩
  have H3a := Lib.hid (H3.out w3 b hcr)
  have HB3 := Lib.hid (HB2.out.trans (below_grown hg Hbw.out HB2.out.size))
  have Hr3 := Lib.hid (Hr2.out.keep (hg.block B Hr2.out.lt Hne.out))
  clear hcr hg HB2 Hr2 H2a H3
  go_wp2_with fail
  refine H3a.out.mono ?_
  rintro e w4 ⟨rfl, hcr, hg⟩
  have H4a := Lib.hid (fun k => H4.out (w4.drewN k) b (CR.drewN hcr k))
  have HB4 := Lib.hid (HB3.out.trans (below_grown hg Hbw.out HB3.out.size))
  have Hr4 := Lib.hid (Hr3.out.keep (hg.block B Hr3.out.lt Hne.out))
  clear hcr hg HB3 Hr3 H3a H4
  go_wp2_with fail
  refine wp_region_held_drew (S := (fun _ : World => True)) (by kernel_rfl) (by trivial) (fun hHeld => ?_)
  refine wpAnyH_take (i := 0) (oi := { dst := some 17, op := Go.Op.move (Go.Operand.tmp 4), type := 98, pos := "frame.go:136", after := #[], guard := none }) (v := ?_) rfl (by kernel_rfl) (by kernel_rfl) (by kernel_rfl) (fun _ _ _ h => h) (Or.inl ⟨by rfl, ?_⟩) (by assumption) ?_
  rotate_left
  · (intro w hSw; (try dsimp only at hSw); go_simp; (try with_reducible rfl))
  try simp only [Act.put, List.setIfInBounds_toArray, List.set_cons_zero, List.set_cons_succ]
  refine wpAnyH_take (i := 2) (oi := { dst := some 19, op := Go.Op.move (Go.Operand.tmp 0), type := 9, pos := "frame.go:136", after := #[], guard := none }) (v := ?_) rfl (by kernel_rfl) (by kernel_rfl) (by kernel_rfl) (fun _ _ _ h => h) (Or.inl ⟨by rfl, ?_⟩) (by assumption) ?_
  rotate_left
  · (intro w hSw; (try dsimp only at hSw); go_simp; (try with_reducible rfl))
  try simp only [Act.put, List.setIfInBounds_toArray, List.set_cons_zero, List.set_cons_succ]
  refine wpAnyH_take (i := 3) (oi := { dst := some 20, op := Go.Op.move (Go.Operand.tmp 0), type := 9, pos := "frame.go:136", after := #[], guard := none }) (v := ?_) rfl (by kernel_rfl) (by kernel_rfl) (by kernel_rfl) (fun _ _ _ h => h) (Or.inl ⟨by rfl, ?_⟩) (by assumption) ?_
  rotate_left
  · (intro w hSw; (try dsimp only at hSw); go_simp; (try with_reducible rfl))
  try simp only [Act.put, List.setIfInBounds_toArray, List.set_cons_zero, List.set_cons_succ]
  refine wpAnyH_take (i := 4) (oi := { dst := some 21, op := Go.Op.call { callee := Go.Callee.builtin Go.Builtin.len, args := #[Go.Operand.tmp 20], argTypes := #[9] }, type := 3, pos := "frame.go:136", after := #[{ on := 3, ground := Go.Ground.data }], guard := none }) (v := ?_) rfl (by kernel_rfl) (by kernel_rfl) (by kernel_rfl) (fun _ _ _ h => h) (Or.inl ⟨by rfl, ?_⟩) (by assumption) ?_
  rotate_left
  · (intro w hSw; (try dsimp only at hSw); go_simp; (try with_reducible rfl))
  try simp only [Act.put, List.setIfInBounds_toArray, List.set_cons_zero, List.set_cons_succ]
  refine wpAnyH_take (i := 5) (oi := { dst := some 22, op := Go.Op.binOp Go.BinOp.sub 3 (Go.Operand.tmp 21) (Go.Operand.const (Go.Value.int Go.IntKind.i64 8)) 3, type := 3, pos := "frame.go:136", after := #[{ on := 4, ground := Go.Ground.data }], guard := none }) (v := ?_) rfl (by kernel_rfl) (by kernel_rfl) (by kernel_rfl) (fun _ _ _ h => h) (Or.inl ⟨by rfl, ?_⟩) (by assumption) ?_
  rotate_left
  · (intro w hSw; (try dsimp only at hSw); go_simp; (try with_reducible rfl))
  try simp only [Act.put, List.setIfInBounds_toArray, List.set_cons_zero, List.set_cons_succ]
  refine wpAnyH_take (i := 6) (oi := { dst := some 23, op := Go.Op.slice 9 (Go.Operand.tmp 19) none (some (Go.Operand.tmp 22)) none, type := 9, pos := "frame.go:136", after := #[{ on := 2, ground := Go.Ground.data }, { on := 5, ground := Go.Ground.data }], guard := none }) (v := ?_) rfl (by kernel_rfl) (by kernel_rfl) (by kernel_rfl) (fun _ _ _ h => h) (Or.inl ⟨by rfl, ?_⟩) (by assumption) ?_
  rotate_left
  · (intro w hSw; (try dsimp only at hSw); go_simp; (try with_reducible rfl))
  try simp only [Act.put, List.setIfInBounds_toArray, List.set_cons_zero, List.set_cons_succ]
  refine wpAnyH_ready (rs := [1]) (by kernel_rfl) (by simp) ?_
  refine AllReadyH.cons (o := { dst := some 18, op := Go.Op.call { callee := Go.Callee.value (Go.Operand.func 49), args := #[Go.Operand.tmp 17, Go.Operand.const (Go.Value.int Go.IntKind.i64 8)], argTypes := #[98, 3] }, type := 45, pos := "frame.go:136", after := #[{ on := 0, ground := Go.Ground.data }], guard := none }) rfl (fun K hK => ?_) AllReadyH.nil
  go_simp
  (go_at_call 49; refine (H4a.out 1).mono ?_; rintro e w5 ⟨rfl, hg⟩; have HB5 := Lib.hid (HB4.out.trans (below_grown (show w4.grownBy w5 (some b) from ⟨hg.os, hg.tape, hg.output, hg.size, hg.block⟩) Hbw.out HB4.out.size)); have Hr5 := Lib.hid (Hr4.out.keep (hg.block B Hr4.out.lt Hne.out)); clear hg)
  go_simp
  refine hK.out _ _ (by trivial) (fun hHeld => ?_)
  clear hK K
  try simp only [Act.put, List.setIfInBounds_toArray, List.set_cons_zero, List.set_cons_succ]
  refine wpAnyH_ready (rs := [7]) (by kernel_rfl) (by simp) ?_
  refine AllReadyH.cons (o := { dst := some 24, op := Go.Op.call { callee := Go.Callee.value (Go.Operand.func 25), args := #[Go.Operand.tmp 23], argTypes := #[9] }, type := 45, pos := "frame.go:136", after := #[{ on := 6, ground := Go.Ground.data }, { on := 1, ground := Go.Ground.chain }], guard := none }) rfl (fun K hK => ?_) AllReadyH.nil
  go_simp
  (go_at_call 25; refine (H5.out w5).mono ?_; rintro e w6 ⟨rfl, hg⟩; have HB6 := Lib.hid (HB5.out.trans (hg.mono HB5.out.size)); have Hr6 := Lib.hid (row_below Hr5.out hg); clear hg)
  go_simp
  refine hK.out _ _ (by trivial) (fun hHeld => ?_)
  clear hK K
  try simp only [Act.put, List.setIfInBounds_toArray, List.set_cons_zero, List.set_cons_succ]
  refine wpAnyH_take (i := 8) (oi := { dst := some 25, op := Go.Op.binOp Go.BinOp.neq 45 (Go.Operand.tmp 18) (Go.Operand.tmp 24) 45, type := 4, pos := "frame.go:136", after := #[{ on := 1, ground := Go.Ground.data }, { on := 7, ground := Go.Ground.data }], guard := none }) (v := ?_) rfl (by kernel_rfl) (by kernel_rfl) (by kernel_rfl) (fun _ _ _ h => h) (Or.inl ⟨by rfl, ?_⟩) (by assumption) ?_
  rotate_left
  · (intro w hSw; (try dsimp only at hSw); go_simp; (try with_reducible rfl))
  try simp only [Act.put, List.setIfInBounds_toArray, List.set_cons_zero, List.set_cons_succ]
  refine wpAnyH_done (by kernel_rfl) ?_ _
  have f0 := Hr6.out.free 0
  have f1 := Hr6.out.free 1
  have c0 := Hr6.out.cell 0
  have c1 := Hr6.out.cell 1
  simp only [List.getElem?_cons_zero, List.getElem?_cons_succ] at c0 c1
  by_cases hv : vs = sm
  · have hv2 : ((vs : Int) != (sm : Int)) = false := by rw [hv]; simp
    have hRf : R = .tuple #[.agg #[.int .i64 (k : Int), .string bd], .int .i64 0] := by rw [HR.out, if_pos (Hse.out.2 hv), if_pos (Hse.out.2 hv), Hfin.out]
    have HRf := Lib.hid hRf
    clear hRf c0 c1 f0 f1
    go_wp2_with fail
    refine (Hcl.out w6).mono ?_
    rintro e w7 ⟨rfl, hb7⟩
    have HB7 := Lib.hid (HB6.out.trans (hb7.mono HB6.out.size))
    have Hr7 := Lib.hid (row_below Hr6.out hb7)
    clear hb7
    have f0 := Hr7.out.free 0
    have f1 := Hr7.out.free 1
    have c0 := Hr7.out.cell 0
    have c1 := Hr7.out.cell 1
    simp only [List.getElem?_cons_zero, List.getElem?_cons_succ] at c0 c1
    have hr7 := fr_row Hr7.out rfl (k : Int) bd
    have s0 := hr7.cell 0
    have s1 := hr7.cell 1
    simp only [List.getElem?_cons_zero, List.getElem?_cons_succ] at s0 s1
    have S0 := Lib.hid s0
    have S1 := Lib.hid s1
    clear s0 s1 hr7
    go_wp2
    have s0 := S0.out
    have s1 := S1.out
    refine bodyPost_ret (v := .tuple #[.agg #[.int .i64 (k : Int), .string bd], .int .i64 0]) (by simp [results, Try.results37, go_sem, s0, s1]) rfl ⟨congrArg Ending.returned HRf.out.symm, fr_set_below HB7.out (Nat.le_of_eq HBe.out.symm) _ _⟩
  · have hv2 : ((vs : Int) != (sm : Int)) = true := by simp; omega
    have hRf : R = .tuple #[.agg #[.int .i64 0, .string ⟨#[]⟩], .int .i64 4] := by
      rw [HR.out, if_neg (fun h => hv (Hse.out.1 h)), if_neg (fun h => hv (Hse.out.1 h))]
      rfl
    have HRf := Lib.hid hRf
    clear hRf
    have hr7 := fr_row Hr6.out rfl 0 ⟨#[]⟩
    have s0 := hr7.cell 0
    have s1 := hr7.cell 1
    simp only [List.getElem?_cons_zero, List.getElem?_cons_succ] at s0 s1
    have S0 := Lib.hid s0
    have S1 := Lib.hid s1
    clear s0 s1 hr7
    go_wp2
    have s0 := S0.out
    have s1 := S1.out
    refine bodyPost_ret (v := .tuple #[.agg #[.int .i64 0, .string ⟨#[]⟩], .int .i64 4]) (by simp [results, Try.results37, go_sem, s0, s1]) rfl ⟨congrArg Ending.returned HRf.out.symm, fr_set_below HB6.out (Nat.le_of_eq HBe.out.symm) _ _⟩
end Go.Proofs.Ytckmdeiahpijcaa
