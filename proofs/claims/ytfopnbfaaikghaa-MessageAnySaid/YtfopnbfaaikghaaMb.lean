/-
  The program's layer 25 (message): a span's has, there, put, take, by their walks. Conditions: as each theorem's premises say.
-/
import Derived.Test.YtfopnbfaaikghaaMa
import Derived.Test.YtfopnbfaaikghaaCh
import Derived.Test.YtfopnbfaaikghaaCn
import Derived.Test.YtfopnbfaaikghaaCe
import Derived.Test.YtfopnbfaaikghaaIn
import Derived.OneCell
import Derived.RegionTactic
import Derived.Deep.RegionHeld3
namespace Go.Proofs.Ytfopnbfaaikghaa
open Go.RowKit

/-- A span, a body, a message as values. -/
def spV (s : Sp) : Value := .agg #[.int .i64 s.least, .int .i64 s.most]
def bdL (b : Bdy) : List Value := [.int .i64 b.next.least, .int .i64 b.next.most, .int .i64 b.epoch.least, .int .i64 b.epoch.most, .int .i64 b.size.least, .int .i64 b.size.most, .bool b.sum, .int .i64 b.data.least, .int .i64 b.data.most]
def bdV (b : Bdy) : Value := .agg (bdL b).toArray
def msL (m : Msg) : List Value := [.int .i64 m.kind, .int .i64 m.next, .int .i64 m.epoch, .int .i64 m.size, .int .u64 (m.sum : Int), .string (strOf m.data)]
def msV (m : Msg) : Value := .agg (msL m).toArray

set_option maxHeartbeats 400000 in
set_option maxRecDepth 100000 in
theorem mghas_any (s : Sp) (n : Int) (w : World) : Calls Try.prog 22 #[spV s, .int .i64 n] w fun e w' => e = .returned (.bool (s.has n)) ∧ Below w.heap.size w w' := by
  obtain ⟨a, z⟩ := s
  have hR : Sp.has ⟨a, z⟩ n = (decide (a ≤ n) && decide (n ≤ z)) := rfl
  rw [hR]
  clear hR
  unfold spV
  dsimp only
  go_enter Try.func22, Try.ntmps22
  by_cases h1 : a ≤ n
  · by_cases h2 : n ≤ z
    · rw [decide_eq_true h1, decide_eq_true h2]
      go_wp2
      go_ret
      exact ⟨rfl, (Below.refl _ _).alloc (Nat.le_refl _) _⟩
    · rw [decide_eq_true h1, decide_eq_false h2]
      go_wp2
      go_ret
      exact ⟨rfl, (Below.refl _ _).alloc (Nat.le_refl _) _⟩
  · rw [decide_eq_false h1]
    go_wp2
    go_ret
    exact ⟨rfl, (Below.refl _ _).alloc (Nat.le_refl _) _⟩
set_option maxHeartbeats 400000 in
set_option maxRecDepth 100000 in
theorem mgthere_any (s : Sp) (w : World) : Calls Try.prog 18 #[spV s] w fun e w' => e = .returned (.bool s.there) ∧ Below w.heap.size w w' := by
  obtain ⟨a, z⟩ := s
  have hR : Sp.there ⟨a, z⟩ = decide (0 < z) := rfl
  rw [hR]
  clear hR
  unfold spV
  dsimp only
  go_enter Try.func18, Try.ntmps18
  go_wp2
  go_ret
  exact ⟨rfl, (Below.refl _ _).alloc (Nat.le_refl _) _⟩
set_option maxHeartbeats 1000000 in
set_option maxRecDepth 100000 in
theorem mgput_any (s : Sp) (b n : Nat) (bs : List Nat) (w : World) (hn : n < 2 ^ 63) (hl : bs.length ≤ 100000000) (h : CW w b bs) :
    Calls Try.prog 16 #[spV s, .pointer (some ⟨b, 0, none⟩), .int .i64 (n : Int)] w fun e w' => e = .returned (.tuple #[]) ∧ CW w' b (bs ++ putS s (n : Int)) ∧ w.grownBy w' (some b) := by
  have Hth := Lib.hid (fun W => mgthere_any s W)
  have Hg := Lib.hid (fun W (hc : CW W b bs) => wgroup_any b n bs W (by omega) hl hc)
  have hw := u64_wrap n (by omega)
  have hp : putS s (n : Int) = if s.there = true then Bm.grp n else [] := rfl
  rw [hp]
  clear hp hn
  generalize Bm.grp n = g at *
  obtain ⟨a, z⟩ := s
  generalize Sp.there ⟨a, z⟩ = t at *
  unfold spV at *
  dsimp only at *
  go_enter Try.func16, Try.ntmps16
  go_wp2_with fail
  refine (Hth.out _).mono ?_
  rintro e w1 ⟨rfl, g1⟩
  have g01 : Below w.heap.size w w1 := ((Below.refl _ _).alloc (Nat.le_refl _) _).trans (g1.mono (Nat.le_of_lt (by simp)))
  have hc1 : CW w1 b bs := h.below g01
  cases t
  · go_wp2
    go_end0
    exact ⟨rfl, hc1, grown_below g01 _⟩
  · go_wp2_with fail
    refine (Hg.out w1 hc1).mono ?_
    rintro e w2 ⟨rfl, hc2, g2⟩
    go_wp2
    go_end0
    exact ⟨rfl, hc2, (grown_below g01 _).trans g2⟩
set_option maxHeartbeats 1000000 in
set_option maxRecDepth 100000 in
theorem mgtake_any (s : Sp) (b : Nat) (st : Left) (w : World) (hs : s.Ok) (hok : OkL st) (h : CR w b st) :
    Calls Try.prog 27 #[spV s, .pointer (some ⟨b, 0, none⟩)] w fun e w' => e = .returned (.int .i64 (takeS s st).1) ∧ CR w' b (takeS s st).2 ∧ w.grownBy w' (some b) := by
  have Hth := Lib.hid (fun W => mgthere_any s W)
  have Hg := Lib.hid (fun W (hc : CR W b st) => rint_any b st s.most W (by have := hs.2.1; omega) (by have := hs.2.2; omega) hok hc)
  have hp : takeS s st = if s.there = true then (((intS s.most st).1 : Int), (intS s.most st).2) else (0, st) := rfl
  rw [hp]
  clear hp hs
  obtain ⟨a, z⟩ := s
  generalize Sp.there ⟨a, z⟩ = t at *
  unfold spV at *
  dsimp only at *
  go_enter Try.func27, Try.ntmps27
  go_wp2_with fail
  refine (Hth.out _).mono ?_
  rintro e w1 ⟨rfl, g1⟩
  have g01 : Below w.heap.size w w1 := ((Below.refl _ _).alloc (Nat.le_refl _) _).trans (g1.mono (Nat.le_of_lt (by simp)))
  have hc1 : CR w1 b st := h.below g01
  cases t
  · go_wp2
    go_ret
    exact ⟨rfl, hc1, grown_below g01 _⟩
  · have hr1 : Row w1 w.heap.size 42 [.int .i64 a, .int .i64 z] := (Row.new w 42 [.int .i64 a, .int .i64 z]).keep (g1.block _ (by simp))
    have e0 := hr1.cell 0
    have e1 := hr1.cell 1
    have f1 := hr1.free 1
    dsimp only [List.getElem?_cons_zero, List.getElem?_cons_succ] at e0 e1
    go_wp2_with fail
    refine (Hg.out w1 hc1).mono ?_
    rintro e w2 ⟨rfl, hc2, g2⟩
    go_wp2
    go_ret
    exact ⟨rfl, hc2, (grown_below g01 _).trans g2⟩
end Go.Proofs.Ytfopnbfaaikghaa
