/-
  The program's layer 25 (message): bodyOf, by its walk. No condition.
-/
import Derived.Test.YtfopnbfaaikghaaMb
namespace Go.Proofs.Ytfopnbfaaikghaa
open Go.RowKit

theorem bd_row {w : World} {g : Nat} {cs : List Value} (h : Row w g 44 cs) (hl : cs.length = 9) (v0 v1 v2 v3 v4 v5 v6 v7 v8 : Value) :
    Row (((((((((w.setCell ⟨g, 0, none⟩ v0).setCell ⟨g, 1, none⟩ v1).setCell ⟨g, 2, none⟩ v2).setCell ⟨g, 3, none⟩ v3).setCell ⟨g, 4, none⟩ v4).setCell ⟨g, 5, none⟩ v5).setCell ⟨g, 6, none⟩ v6).setCell ⟨g, 7, none⟩ v7).setCell ⟨g, 8, none⟩ v8) g 44 [v0, v1, v2, v3, v4, v5, v6, v7, v8] := by
  have h1 := ((((((((h.set_ 0 v0).set_ 1 v1).set_ 2 v2).set_ 3 v3).set_ 4 v4).set_ 5 v5).set_ 6 v6).set_ 7 v7).set_ 8 v8
  match cs, hl with
  | [_, _, _, _, _, _, _, _, _], _ => exact h1
theorem bd_below {B : Nat} {w w' : World} (h : Below B w w') {g : Nat} (hg : B ≤ g) (v0 v1 v2 v3 v4 v5 v6 v7 v8 : Value) :
    Below B w (((((((((w'.setCell ⟨g, 0, none⟩ v0).setCell ⟨g, 1, none⟩ v1).setCell ⟨g, 2, none⟩ v2).setCell ⟨g, 3, none⟩ v3).setCell ⟨g, 4, none⟩ v4).setCell ⟨g, 5, none⟩ v5).setCell ⟨g, 6, none⟩ v6).setCell ⟨g, 7, none⟩ v7).setCell ⟨g, 8, none⟩ v8) :=
  ((((((((h.setCell (p := ⟨g, 0, none⟩) hg v0).setCell (p := ⟨g, 1, none⟩) hg v1).setCell (p := ⟨g, 2, none⟩) hg v2).setCell (p := ⟨g, 3, none⟩) hg v3).setCell (p := ⟨g, 4, none⟩) hg v4).setCell (p := ⟨g, 5, none⟩) hg v5).setCell (p := ⟨g, 6, none⟩) hg v6).setCell (p := ⟨g, 7, none⟩) hg v7).setCell (p := ⟨g, 8, none⟩) hg v8
theorem bd_res (w : World) (v0 v1 v2 v3 v4 v5 v6 v7 v8 : Value) (o1 o2 o3 : Obj) (t : Array Value) (ok : Bool) (h2 : t[2]?.getD undef = .pointer (some ⟨w.heap.size, 0, none⟩)) (h3 : t[3]?.getD undef = .bool ok) :
    (results Try.f15 t).run Try.prog ((((w.alloc (.cells #[v0, v1, v2, v3, v4, v5, v6, v7, v8] 44)).alloc o1).alloc o2).alloc o3) =
      .ok (.tuple #[.agg #[v0, v1, v2, v3, v4, v5, v6, v7, v8], .bool ok]) ((((w.alloc (.cells #[v0, v1, v2, v3, v4, v5, v6, v7, v8] 44)).alloc o1).alloc o2).alloc o3) := by
  have hr := (((Row.new w 44 [v0, v1, v2, v3, v4, v5, v6, v7, v8]).alloc o1).alloc o2).alloc o3
  have c0 := hr.cell 0
  have c1 := hr.cell 1
  have c2 := hr.cell 2
  have c3 := hr.cell 3
  have c4 := hr.cell 4
  have c5 := hr.cell 5
  have c6 := hr.cell 6
  have c7 := hr.cell 7
  have c8 := hr.cell 8
  simp only [List.getElem?_cons_zero, List.getElem?_cons_succ] at c0 c1 c2 c3 c4 c5 c6 c7 c8
  clear hr
  generalize ((((w.alloc (.cells #[v0, v1, v2, v3, v4, v5, v6, v7, v8] 44)).alloc o1).alloc o2).alloc o3) = W at *
  simp [results, Try.results15, go_sem, h2, h3, c0, c1, c2, c3, c4, c5, c6, c7, c8]
theorem bd_four (w : World) (o1 o2 o3 o4 : Obj) : Below w.heap.size w ((((w.alloc o1).alloc o2).alloc o3).alloc o4) := ((((Below.refl _ _).alloc (Nat.le_refl _) _).alloc (by simp) _).alloc (by simp; omega) _).alloc (by simp; omega) _
set_option maxHeartbeats 4000000 in
set_option maxRecDepth 100000 in
theorem mgbody_any (k : Int) (w : World) : Calls Try.prog 15 #[.int .i64 k] w fun e w' => e = .returned (.tuple #[bdV ((bodyK k).getD zbd), .bool (bodyK k).isSome]) ∧ Below w.heap.size w w' := by
  by_cases hk : k < 1 ∨ 10 < k
  · rw [body_none hk]
    have n1 : ¬ k = 1 := by omega
    have n2 : ¬ k = 2 := by omega
    have n3 : ¬ k = 3 := by omega
    have n4 : ¬ k = 4 := by omega
    have n5 : ¬ k = 5 := by omega
    have n6 : ¬ k = 6 := by omega
    have n7 : ¬ k = 7 := by omega
    have n8 : ¬ k = 8 := by omega
    have n9 : ¬ k = 9 := by omega
    have n10 : ¬ k = 10 := by omega
    go_enter Try.func15, Try.ntmps15
    go_wp2
    exact bodyPost_ret (bd_res w _ _ _ _ _ _ _ _ _ _ _ _ _ false rfl rfl) rfl ⟨rfl, bd_four w _ _ _ _⟩
  rcases kind_cases k hk with rfl | rfl | rfl | rfl | rfl | rfl | rfl | rfl | rfl | rfl
  all_goals
    go_enter Try.func15, Try.ntmps15
    go_wp2
    exact bodyPost_ret (bd_res w _ _ _ _ _ _ _ _ _ _ _ _ _ true rfl rfl) rfl ⟨rfl, bd_four w _ _ _ _⟩
end Go.Proofs.Ytfopnbfaaikghaa
