/-
  A Link of layer 23 (link): Up, Gen, To, From, idle, Idle, turn, Join, Cut, by their walks; on nobody's Link. Conditions: as each theorem's premises say.
-/
import Derived.Test.YtecelklpeealaaaWl
namespace Go.Proofs.Ytecelklpeealaaa
open Go.RowKit

set_option maxHeartbeats 400000 in
set_option maxRecDepth 100000 in
theorem lkup_at (b : Nat) (up : Bool) (w : World) (hc : w.cell? ⟨b, 8204, none⟩ = some (.bool up)) : Calls Try.prog 13 #[.pointer (some ⟨b, 0, none⟩)] w fun e w' => e = .returned (.bool up) ∧ w = w' := by
  cases up <;> (go_enter Try.func13, Try.ntmps13; go_wp2; go_ret; exact ⟨rfl, rfl⟩)
set_option maxHeartbeats 400000 in
set_option maxRecDepth 100000 in
theorem lkup_nil (w : World) : Calls Try.prog 13 #[.pointer none] w fun e w' => e = .returned (.bool false) ∧ w = w' := by
  go_enter Try.func13, Try.ntmps13
  go_wp2
  go_ret
  exact ⟨rfl, rfl⟩
set_option maxHeartbeats 400000 in
set_option maxRecDepth 100000 in
theorem lkgen_at (b g : Nat) (w : World) (hc : w.cell? ⟨b, 8205, none⟩ = some (.int .i64 (g : Int))) : Calls Try.prog 14 #[.pointer (some ⟨b, 0, none⟩)] w fun e w' => e = .returned (.int .i64 (g : Int)) ∧ w = w' := by
  go_enter Try.func14, Try.ntmps14
  go_wp2
  go_ret
  exact ⟨rfl, rfl⟩
set_option maxHeartbeats 400000 in
set_option maxRecDepth 100000 in
theorem lkgen_nil (w : World) : Calls Try.prog 14 #[.pointer none] w fun e w' => e = .returned (.int .i64 0) ∧ w = w' := by
  go_enter Try.func14, Try.ntmps14
  go_wp2
  go_ret
  exact ⟨rfl, rfl⟩
/-- What To and From answer. -/
def pipeV (b o : Nat) (up : Bool) : Value := .pointer (if up = true then some ⟨b, o, none⟩ else none)
set_option maxHeartbeats 400000 in
set_option maxRecDepth 100000 in
theorem lkto_at (b : Nat) (up : Bool) (w : World) (hc : w.cell? ⟨b, 8204, none⟩ = some (.bool up)) : Calls Try.prog 15 #[.pointer (some ⟨b, 0, none⟩)] w fun e w' => e = .returned (pipeV b 0 up) ∧ w = w' := by
  have H := Lib.hid (lkup_at b up w hc)
  cases up <;> (go_enter Try.func15, Try.ntmps15; go_wp2_with fail; refine H.out.mono ?_; rintro e w1 ⟨rfl, rfl⟩; go_wp2; go_ret; exact ⟨rfl, rfl⟩)
set_option maxHeartbeats 400000 in
set_option maxRecDepth 100000 in
theorem lkfrom_at (b : Nat) (up : Bool) (w : World) (hc : w.cell? ⟨b, 8204, none⟩ = some (.bool up)) : Calls Try.prog 16 #[.pointer (some ⟨b, 0, none⟩)] w fun e w' => e = .returned (pipeV b 4102 up) ∧ w = w' := by
  have H := Lib.hid (lkup_at b up w hc)
  cases up <;> (go_enter Try.func16, Try.ntmps16; go_wp2_with fail; refine H.out.mono ?_; rintro e w1 ⟨rfl, rfl⟩; go_wp2; go_ret; exact ⟨rfl, rfl⟩)
set_option maxHeartbeats 400000 in
set_option maxRecDepth 100000 in
theorem lkto_nil (w : World) : Calls Try.prog 15 #[.pointer none] w fun e w' => e = .returned (.pointer none) ∧ w = w' := by
  have H := Lib.hid (lkup_nil w)
  go_enter Try.func15, Try.ntmps15
  go_wp2_with fail
  refine H.out.mono ?_
  rintro e w1 ⟨rfl, rfl⟩
  go_wp2
  go_ret
  exact ⟨rfl, rfl⟩
set_option maxHeartbeats 400000 in
set_option maxRecDepth 100000 in
theorem lkfrom_nil (w : World) : Calls Try.prog 16 #[.pointer none] w fun e w' => e = .returned (.pointer none) ∧ w = w' := by
  have H := Lib.hid (lkup_nil w)
  go_enter Try.func16, Try.ntmps16
  go_wp2_with fail
  refine H.out.mono ?_
  rintro e w1 ⟨rfl, rfl⟩
  go_wp2
  go_ret
  exact ⟨rfl, rfl⟩
set_option maxHeartbeats 400000 in
set_option maxRecDepth 100000 in
theorem lkidl_nil (w : World) : Calls Try.prog 33 #[.pointer none] w fun e w' => e = .returned (.bool true) ∧ w = w' := by
  have H1 := Lib.hid (ppflies_nil w)
  have H2 := Lib.hid (ppcame_nil w)
  go_enter Try.func33, Try.ntmps33
  go_wp2_with fail
  refine H1.out.mono ?_
  rintro e w1 ⟨rfl, rfl⟩
  go_wp2_with fail
  refine H2.out.mono ?_
  rintro e w1 ⟨rfl, rfl⟩
  go_wp2
  go_ret
  exact ⟨rfl, rfl⟩
set_option maxHeartbeats 400000 in
set_option maxRecDepth 100000 in
theorem lkidl_at (b o c fl : Nat) (w : World) (h1 : w.cell? ⟨b, o + 4097, none⟩ = some (.int .i64 (c : Int))) (h2 : w.cell? ⟨b, o + 4098, none⟩ = some (.int .i64 (fl : Int))) :
    Calls Try.prog 33 #[.pointer (some ⟨b, o, none⟩)] w fun e w' => e = .returned (.bool (fl == 0 && c == 0)) ∧ w = w' := by
  have H1 := Lib.hid (ppflies_at b o fl w h2)
  have H2 := Lib.hid (ppcame_at b o c w h1)
  clear h1 h2
  by_cases hf : fl = 0
  · subst hf
    have e1 : (((0 : Nat) : Int) == 0) = true := rfl
    by_cases hc : c = 0
    · subst hc
      go_enter Try.func33, Try.ntmps33
      go_wp2_with fail
      refine H1.out.mono ?_
      rintro e w1 ⟨rfl, rfl⟩
      go_wp2_with fail
      refine H2.out.mono ?_
      rintro e w1 ⟨rfl, rfl⟩
      go_wp2
      go_ret
      exact ⟨rfl, rfl⟩
    · have e2 : ((c : Int) == 0) = false := by rw [beq_eq_false_iff_ne]; omega
      have e3 : (c == 0) = false := by rw [beq_eq_false_iff_ne]; exact hc
      go_enter Try.func33, Try.ntmps33
      go_wp2_with fail
      refine H1.out.mono ?_
      rintro e w1 ⟨rfl, rfl⟩
      go_wp2_with fail
      refine H2.out.mono ?_
      rintro e w1 ⟨rfl, rfl⟩
      go_wp2
      go_ret
      exact ⟨by rw [e3]; rfl, rfl⟩
  · have e2 : ((fl : Int) == 0) = false := by rw [beq_eq_false_iff_ne]; omega
    have e3 : (fl == 0) = false := by rw [beq_eq_false_iff_ne]; exact hf
    go_enter Try.func33, Try.ntmps33
    go_wp2_with fail
    refine H1.out.mono ?_
    rintro e w1 ⟨rfl, rfl⟩
    go_wp2
    go_ret
    exact ⟨by rw [e3]; rfl, rfl⟩
theorem PI.idl {w : World} {b o : Nat} {E : PEnv} {m : Nat} {s : PSt} (k : PI w b o E s.kc s.kf m s.h s.n) : Calls Try.prog 33 #[.pointer (some ⟨b, o, none⟩)] w fun e w' => e = .returned (.bool s.idle) ∧ w = w' := by
  obtain ⟨f, G, hpw, _⟩ := k
  exact lkidl_at b o s.kc.length s.kf.length w hpw.cells.2.1 hpw.cells.2.2.1
set_option maxHeartbeats 400000 in
set_option maxRecDepth 100000 in
theorem lkidle_nil (w : World) : Calls Try.prog 17 #[.pointer none] w fun e w' => e = .returned (.bool true) ∧ w = w' := by
  have H1 := Lib.hid (lkto_nil w)
  have H2 := Lib.hid (lkfrom_nil w)
  have H3 := Lib.hid (lkidl_nil w)
  go_enter Try.func17, Try.ntmps17
  go_wp2_with fail
  refine H1.out.mono ?_
  rintro e w1 ⟨rfl, rfl⟩
  go_wp2_with fail
  refine H3.out.mono ?_
  rintro e w1 ⟨rfl, rfl⟩
  go_wp2_with fail
  refine H2.out.mono ?_
  rintro e w1 ⟨rfl, rfl⟩
  go_wp2_with fail
  refine H3.out.mono ?_
  rintro e w1 ⟨rfl, rfl⟩
  go_wp2
  go_ret
  exact ⟨rfl, rfl⟩
set_option maxHeartbeats 400000 in
set_option maxRecDepth 100000 in
theorem lkidle_down (b : Nat) (w : World) (hc : w.cell? ⟨b, 8204, none⟩ = some (.bool false)) : Calls Try.prog 17 #[.pointer (some ⟨b, 0, none⟩)] w fun e w' => e = .returned (.bool true) ∧ w = w' := by
  have H1 := Lib.hid (lkto_at b false w hc)
  have H2 := Lib.hid (lkfrom_at b false w hc)
  have H3 := Lib.hid (lkidl_nil w)
  clear hc
  go_enter Try.func17, Try.ntmps17
  go_wp2_with fail
  refine H1.out.mono ?_
  rintro e w1 ⟨rfl, rfl⟩
  go_wp2_with fail
  refine H3.out.mono ?_
  rintro e w1 ⟨rfl, rfl⟩
  go_wp2_with fail
  refine H2.out.mono ?_
  rintro e w1 ⟨rfl, rfl⟩
  go_wp2_with fail
  refine H3.out.mono ?_
  rintro e w1 ⟨rfl, rfl⟩
  go_wp2
  go_ret
  exact ⟨rfl, rfl⟩
set_option maxHeartbeats 400000 in
set_option maxRecDepth 100000 in
theorem lkidle_up (b g m : Nat) (s t : PSt) (w : World) (k : LK w b true g m s t) : Calls Try.prog 17 #[.pointer (some ⟨b, 0, none⟩)] w fun e w' => e = .returned (.bool (s.idle && t.idle)) ∧ w = w' := by
  have H1 := Lib.hid (lkto_at b true w k.cells.1)
  have H2 := Lib.hid (lkfrom_at b true w k.cells.1)
  obtain ⟨E1, p1, _⟩ := k.to
  obtain ⟨E2, p2, _⟩ := k.from_
  have H3 := Lib.hid p1.idl
  have H4 := Lib.hid p2.idl
  clear k p1 p2
  generalize s.idle = x at *
  generalize t.idle = y at *
  cases x with
  | false =>
    go_enter Try.func17, Try.ntmps17
    go_wp2_with fail
    refine H1.out.mono ?_
    rintro e w1 ⟨rfl, rfl⟩
    go_wp2_with fail
    refine H3.out.mono ?_
    rintro e w1 ⟨rfl, rfl⟩
    go_wp2
    go_ret
    exact ⟨rfl, rfl⟩
  | true =>
    cases y <;> (go_enter Try.func17, Try.ntmps17; go_wp2_with fail; refine H1.out.mono ?_; rintro e w1 ⟨rfl, rfl⟩; go_wp2_with fail; refine H3.out.mono ?_; rintro e w1 ⟨rfl, rfl⟩; go_wp2_with fail; refine H2.out.mono ?_; rintro e w1 ⟨rfl, rfl⟩; go_wp2_with fail; refine H4.out.mono ?_; rintro e w1 ⟨rfl, rfl⟩; go_wp2; go_ret; exact ⟨rfl, rfl⟩)
/-- Clear, of a Pipe in a Link. -/
theorem LK.clearTo (w : World) (b : Nat) (up : Bool) (g m : Nat) (s t : PSt) (k : LK w b up g m s t) : Calls Try.prog 42 #[.pointer (some ⟨b, 0, none⟩)] w fun e w' => e = .returned (.tuple #[]) ∧ LK w' b up g m PSt.new t ∧ w.grownBy w' (some b) := by
  obtain ⟨E, hp, hof⟩ := k.to
  exact (ppclear_any b 0 E s.kc s.kf m s.h s.n w hp).mono fun e w' ⟨h1, h2, h3⟩ => ⟨h1, hof w' PSt.new h2, h3⟩
theorem LK.clearFrom (w : World) (b : Nat) (up : Bool) (g m : Nat) (s t : PSt) (k : LK w b up g m s t) : Calls Try.prog 42 #[.pointer (some ⟨b, 4102, none⟩)] w fun e w' => e = .returned (.tuple #[]) ∧ LK w' b up g m s PSt.new ∧ w.grownBy w' (some b) := by
  obtain ⟨E, hp, hof⟩ := k.from_
  exact (ppclear_any b 4102 E t.kc t.kf m t.h t.n w hp).mono fun e w' ⟨h1, h2, h3⟩ => ⟨h1, hof w' PSt.new h2, h3⟩
set_option maxHeartbeats 400000 in
set_option maxRecDepth 100000 in
theorem lkturn_any (b : Nat) (up u : Bool) (g m : Nat) (s t : PSt) (w : World) (k : LK w b up g m s t) :
    Calls Try.prog 30 #[.pointer (some ⟨b, 0, none⟩), .bool u] w fun e w' => e = .returned (.tuple #[]) ∧ LK w' b u g m PSt.new PSt.new ∧ w.grownBy w' (some b) := by
  have H1 := Lib.hid (LK.clearTo _ b u g m s t (k.setUp u))
  have hc := k.cells.1
  have hf := k.cells.2.2 8204
  have Hg := Lib.hid (grown_set (grown_refl w (some b)) 8204 (.bool u))
  clear k
  go_enter Try.func30, Try.ntmps30
  go_wp2_with fail
  refine H1.out.mono ?_
  rintro e w1 ⟨rfl, hk1, hg1⟩
  have H2 := Lib.hid (LK.clearFrom _ b u g m _ t hk1)
  have Hg1 := Lib.hid (Hg.out.trans hg1)
  clear hk1 hg1 H1 Hg hc hf
  go_wp2_with fail
  refine H2.out.mono ?_
  rintro e w2 ⟨rfl, hk2, hg2⟩
  go_wp2
  go_end0
  exact ⟨rfl, hk2, Hg1.out.trans hg2⟩
set_option maxHeartbeats 400000 in
set_option maxRecDepth 100000 in
theorem lkjoin_yes (b g m : Nat) (s t : PSt) (w : World) (hg : g < 1000000000000) (k : LK w b false g m s t) :
    Calls Try.prog 9 #[.pointer (some ⟨b, 0, none⟩)] w fun e w' => e = .returned (.bool true) ∧ LK w' b true (g + 1) m PSt.new PSt.new ∧ w.grownBy w' (some b) := by
  have hs : (g : Int) + 1 = ((g + 1 : Nat) : Int) := by omega
  have H1 := Lib.hid (lkturn_any b false true (g + 1) m s t _ (k.setGen (g + 1)))
  have hc := k.cells.1
  have hd := k.cells.2.1
  have hf := k.cells.2.2 8205
  have Hg := Lib.hid (grown_set (grown_refl w (some b)) 8205 (.int .i64 ((g + 1 : Nat) : Int)))
  have hb : g + 1 ≤ 1000000000000 := by omega
  clear k hg
  generalize g + 1 = g1 at *
  go_enter Try.func9, Try.ntmps9
  go_wp2_with fail
  refine H1.out.mono ?_
  rintro e w1 ⟨rfl, hk1, hg1⟩
  go_wp2
  go_ret
  exact ⟨rfl, hk1, Hg.out.trans hg1⟩
set_option maxHeartbeats 400000 in
set_option maxRecDepth 100000 in
theorem lkjoin_no (b : Nat) (w : World) (hc : w.cell? ⟨b, 8204, none⟩ = some (.bool true)) : Calls Try.prog 9 #[.pointer (some ⟨b, 0, none⟩)] w fun e w' => e = .returned (.bool false) ∧ w = w' := by
  go_enter Try.func9, Try.ntmps9
  go_wp2
  go_ret
  exact ⟨rfl, rfl⟩
set_option maxHeartbeats 400000 in
set_option maxRecDepth 100000 in
theorem lkjoin_nil (w : World) : Calls Try.prog 9 #[.pointer none] w fun e w' => e = .returned (.bool false) ∧ w = w' := by
  go_enter Try.func9, Try.ntmps9
  go_wp2
  go_ret
  exact ⟨rfl, rfl⟩
set_option maxHeartbeats 400000 in
set_option maxRecDepth 100000 in
theorem lkcut_yes (b g m : Nat) (s t : PSt) (w : World) (k : LK w b true g m s t) :
    Calls Try.prog 10 #[.pointer (some ⟨b, 0, none⟩)] w fun e w' => e = .returned (.bool true) ∧ LK w' b false g m PSt.new PSt.new ∧ w.grownBy w' (some b) := by
  have H0 := Lib.hid (lkup_at b true w k.cells.1)
  have H1 := Lib.hid (lkturn_any b true false g m s t w k)
  clear k
  go_enter Try.func10, Try.ntmps10
  go_wp2_with fail
  refine H0.out.mono ?_
  rintro e w1 ⟨rfl, rfl⟩
  go_wp2_with fail
  refine H1.out.mono ?_
  rintro e w1 ⟨rfl, hk1, hg1⟩
  go_wp2
  go_ret
  exact ⟨rfl, hk1, hg1⟩
set_option maxHeartbeats 400000 in
set_option maxRecDepth 100000 in
theorem lkcut_no (b : Nat) (w : World) (hc : w.cell? ⟨b, 8204, none⟩ = some (.bool false)) : Calls Try.prog 10 #[.pointer (some ⟨b, 0, none⟩)] w fun e w' => e = .returned (.bool false) ∧ w = w' := by
  have H0 := Lib.hid (lkup_at b false w hc)
  go_enter Try.func10, Try.ntmps10
  go_wp2_with fail
  refine H0.out.mono ?_
  rintro e w1 ⟨rfl, rfl⟩
  go_wp2
  go_ret
  exact ⟨rfl, rfl⟩
set_option maxHeartbeats 400000 in
set_option maxRecDepth 100000 in
theorem lkcut_nil (w : World) : Calls Try.prog 10 #[.pointer none] w fun e w' => e = .returned (.bool false) ∧ w = w' := by
  have H0 := Lib.hid (lkup_nil w)
  go_enter Try.func10, Try.ntmps10
  go_wp2_with fail
  refine H0.out.mono ?_
  rintro e w1 ⟨rfl, rfl⟩
  go_wp2
  go_ret
  exact ⟨rfl, rfl⟩
end Go.Proofs.Ytecelklpeealaaa
