/-
  Layer 14 (exec): the laws' awake, by its walk: true. No condition.
-/
import Derived.Test.YtjcehdibklndkaaJr
import Derived.Test.YtjcehdibklndkaaJi
namespace Go.Proofs.Ytjcehdibklndkaa
open Go.RowKit

theorem stz_new (w : World) (x m o : Int) : StzR (w.alloc (.cells #[.int .i64 x, .int .i64 m, .int .i64 o] 37)) (some ⟨w.heap.size, 0, none⟩) [(x, m, o)] := fun _ => by
  have h := Row.new w 37 [.int .i64 x, .int .i64 m, .int .i64 o]
  refine ⟨_, 0, rfl, h.lt, fun j hj => ?_⟩
  have hj0 : j = 0 := by simpa using hj
  subst hj0
  exact ⟨h.cell 0, h.cell 1, h.cell 2⟩
theorem str_ab : strOf [97, 98] = ⟨#[97, 98]⟩ := by decide
theorem str_no : strOf [] = ⟨#[]⟩ := by decide
theorem str_x : strOf [120] = ⟨#[120]⟩ := by decide
theorem str_ababa : strOf [97, 98, 97, 98, 97] = ⟨#[97, 98, 97, 98, 97]⟩ := by decide
theorem zok_one (x m o : Int) (hx : Bm.IntOk x) (hm : Bm.IntOk m) (ho : Bm.IntOk o) : ZOk [(x, m, o)] := fun s hs => by
  rw [List.mem_singleton] at hs
  subst hs
  exact ⟨hx, hm, ho⟩
theorem jrun_ab (w : World) (A : Option Addr) (c : Nat) (h : StzR w A [(0, 5, 2)]) : Calls Try.prog 7 #[.string ⟨#[97, 98]⟩, .string ⟨#[]⟩, .slice A 1 c, .int .i64 9] w fun e w' => e = .returned (.tuple #[.string ⟨#[97, 98, 97, 98, 97]⟩, .int .i64 0]) ∧ Below w.heap.size w w' := by
  have k := jrun_any [97, 98] [] A c [(0, 5, 2)] 9 9 w (by decide) (by decide) (by decide) ⟨by omega, by omega⟩ (by omega) (by decide) (by decide) (by decide) (zok_one _ _ _ ⟨by omega, by omega⟩ ⟨by omega, by omega⟩ ⟨by omega, by omega⟩) h
  rw [Bm.ans_ab, str_ab, str_no] at k
  simp only [str_ababa] at k
  exact k
theorem jsize_x (w : World) (A : Option Addr) (c : Nat) (h : StzR w A [(0, 5, 0)]) : Calls Try.prog 9 #[.string ⟨#[120]⟩, .slice A 1 c] w fun e w' => e = .returned (.int .i64 6) ∧ Below w.heap.size w w' := by
  have k := jsize_any [120] A c [(0, 5, 0)] w (by decide) (by decide) (zok_one _ _ _ ⟨by omega, by omega⟩ ⟨by omega, by omega⟩ ⟨by omega, by omega⟩) h
  rw [str_x] at k
  have e : Bm.sizeZ [120].length [(0, 5, 0)] = 6 := Bm.size_x
  rw [e] at k
  exact k
set_option maxHeartbeats 1000000 in
set_option maxRecDepth 100000 in
theorem jawake_any (w : World) : Calls Try.prog 6 #[] w fun e w' => e = .returned (.bool true) ∧ Below w.heap.size w w' := by
  have HR := Lib.hid (fun w A c h => jrun_ab w A c h)
  have HS := Lib.hid (fun w A c h => jsize_x w A c h)
  have H0 := Lib.hid (HR.out _ _ 1 (stz_new w 0 5 2))
  have Hb0 := Lib.hid ((Below.refl w.heap.size w).alloc (Nat.le_refl _) (.cells #[.int .i64 0, .int .i64 5, .int .i64 2] 37))
  go_enter Try.func6, Try.ntmps6
  go_wp2_with fail
  refine H0.out.mono ?_
  rintro e w1 ⟨rfl, hb1⟩
  have Hb1 := Lib.hid (Hb0.out.trans (hb1.mono Hb0.out.size))
  have H1 := Lib.hid (HS.out _ _ 1 (stz_new w1 0 5 0))
  have HbA := Lib.hid (Hb1.out.alloc Hb1.out.size (.cells #[.int .i64 0, .int .i64 5, .int .i64 0] 37))
  clear hb1 H0 Hb0 HR HS
  go_wp2_with fail
  refine H1.out.mono ?_
  rintro e w2 ⟨rfl, hb2⟩
  have Hb2 := Lib.hid (HbA.out.trans (hb2.mono HbA.out.size))
  clear hb2 HbA H1
  go_wp2
  go_ret
  exact ⟨rfl, Hb2.out⟩
end Go.Proofs.Ytjcehdibklndkaa
