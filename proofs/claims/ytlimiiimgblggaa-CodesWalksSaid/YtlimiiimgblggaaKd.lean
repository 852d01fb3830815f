/-
  The program's calls of layer 13 (codes), by their walks: First; slices.Index over an array of three; ahead. Conditions: as each theorem's premises say.
-/
import Derived.Test.YtlimiiimgblggaaKh
import Derived.Test.YtlimiiimgblggaaAf
import Derived.Test.YtlimiiimgblggaaQl
import Derived.Laws.CopyOwn
import Derived.Deep.RegionLaw
import Derived.LoopN
namespace Go.Proofs.Ytlimiiimgblggaa
open Go.RowKit

/-- 'copy(dst, src)' into a row that is known whole, as one step of a region that draws its order: the row behind it, and no other block turned. -/
theorem step_copy_row {P : Program} {ops : Array Oper} {o : Oper} {a : Act} {w : World} {K : Act → World → Prop} {Q : Exit → Act → World → Prop} {E : Prop} (hgd : o.guard = none) (d s : Operand) (dT sT : TypeId)
    (ho : o.op = .call { callee := .builtin .copy, args := #[d, s], argTypes := #[dT, sT] }) (elem : TypeId) (hu : P.underlying dT = some (.slice elem)) (hsz : (P.info? elem).map (·.size) = some 1)
    (dp sp : Option Addr) (dLen dCap sLen sCap : Nat) (hd : a.eval d = .slice dp dLen dCap) (hs : a.eval s = .slice sp sLen sCap)
    (g off : Nat) (cur : List Value) (t : TypeId) (hg : Row w g t cur) (cs : List Value) (hn : cs.length = Nat.min sLen dLen)
    (hpos : 0 < cs.length → dp = some ⟨g, off, none⟩ ∧ ∃ ad, sp = some ad ∧ ∀ j v, cs[j]? = some v → w.cell? (ad.add j) = some v)
    (hfit : off + cs.length ≤ cur.length) (h1 : ∀ v ∈ cs, v.oneCell' = true)
    (h : ∀ w', Hid (Row w' g t (splice cur off cs)) → Hid (w.grownBy w' (some g)) → K (a.put o.dst (goInt cs.length)) w') :
    if Region.wanted o (yielded ops a.tmps) = true then Oper.wp P o a w K Q else E := by
  have hw : Region.wanted o (yielded ops a.tmps) = true := by simp [Region.wanted, hgd]
  rw [if_pos hw]
  by_cases h0 : cs.length = 0
  · obtain rfl : cs = [] := List.eq_nil_of_length_eq_zero h0
    have hrun := run_copy_none (P := P) w dT sT o.type elem dp sp dLen dCap sLen sCap hu hsz (by simpa using hn.symm)
    unfold Oper.wp
    simp [execOp, ho, resolve, invoke, builtin, hd, hs, hrun, Result.andThen]
    exact h w (Lib.hid (show Row _ _ _ _ by simpa [splice] using hg)) (Lib.hid (grown_refl w _))
  · obtain ⟨rfl, ad, rfl, hsrc⟩ := hpos (by omega)
    have hrun := run_copy_row (P := P) w dT sT o.type elem g off dLen dCap ad sLen sCap cur.toArray t cs hu hsz hg hn hsrc (by simpa using hfit) h1
    unfold Oper.wp
    simp [execOp, ho, resolve, invoke, builtin, hd, hs, hrun, Result.andThen]
    refine h _ (Lib.hid (show _ = _ by simpa [splice] using setRow_heap w g _ _ t _ hg)) (Lib.hid ⟨rfl, rfl, rfl, by simp [World.setRow], fun k hk hne => setRow_other w g k _ (fun e => hne (by rw [e]))⟩)

set_option maxHeartbeats 1000000 in
set_option maxRecDepth 100000 in
theorem kfirst_is : KFirst := by
  intro w
  go_enter Try.func16, Try.ntmps16
  go_wp2
  exact bodyPost_ret (by simp [results, Try.results16, go_sem]) rfl ⟨rfl, (((Below.refl _ _).alloc (Nat.le_refl _) _))⟩

/-- Where three ints have x at first; -1: nowhere. -/
def idx3 (a b c x : Int) : Int := if a = x then 0 else if b = x then 1 else if c = x then 2 else -1
set_option maxHeartbeats 1000000 in
set_option maxRecDepth 100000 in
theorem kindex_any (b0 : Nat) (t : TypeId) (a b c x : Int) (w : World) (hrow : Row w b0 t [.int .i64 a, .int .i64 b, .int .i64 c]) :
    Calls Try.prog 20 #[.slice (some ⟨b0, 0, none⟩) 3 3, .int .i64 x] w fun e w' => e = .returned (.int .i64 (idx3 a b c x)) ∧ w = w' := by
  obtain ⟨c0, c1, c2⟩ := row3 hrow
  obtain ⟨r, hr⟩ : ∃ r, r = idx3 a b c x := ⟨_, rfl⟩
  have hr2 := hr
  rw [← hr]
  unfold idx3 at hr2
  clear hr hrow
  go_enter Try.func20, Try.ntmps20
  go_wp2
  refine wp_loop_rounds 4 ?_
  by_cases ha : a = x
  · rw [if_pos ha] at hr2
    have da : (x == a) = true := by simp [ha]
    subst hr2
    rw [rounds_succ]
    go_wp2
    go_ret
    exact ⟨rfl, rfl⟩
  · have da : (x == a) = false := by simp; exact fun h => ha h.symm
    rw [if_neg ha] at hr2
    rw [rounds_succ]
    go_wp2
    by_cases hb : b = x
    · rw [if_pos hb] at hr2
      have db : (x == b) = true := by simp [hb]
      subst hr2
      rw [rounds_succ]
      go_wp2
      go_ret
      exact ⟨rfl, rfl⟩
    · have db : (x == b) = false := by simp; exact fun h => hb h.symm
      rw [if_neg hb] at hr2
      rw [rounds_succ]
      go_wp2
      by_cases hc : c = x
      · rw [if_pos hc] at hr2
        have dc : (x == c) = true := by simp [hc]
        subst hr2
        rw [rounds_succ]
        go_wp2
        go_ret
        exact ⟨rfl, rfl⟩
      · have dc : (x == c) = false := by simp; exact fun h => hc h.symm
        rw [if_neg hc] at hr2
        subst hr2
        rw [rounds_succ]
        go_wp2
        rw [rounds_succ]
        go_wp2
        go_ret
        exact ⟨rfl, rfl⟩

/-- Three ints with x ahead, in place of what stands at place k. -/
def ahead3 (a b c x : Int) (k : Nat) : Int × Int × Int := if k = 0 then (x, b, c) else if k = 1 then (x, a, c) else (x, a, b)
set_option maxHeartbeats 1000000 in
set_option maxRecDepth 100000 in
theorem kahead_two (a b c x : Int) (w : World) : Calls Try.prog 21 #[.agg #[.int .i64 a, .int .i64 b, .int .i64 c], .int .i64 x, .int .i64 2] w fun e w' => e = .returned (.agg #[.int .i64 x, .int .i64 a, .int .i64 b]) ∧ Below w.heap.size w w' := by
  obtain ⟨b0, hb0⟩ : ∃ b0, b0 = w.heap.size := ⟨_, rfl⟩
  obtain ⟨b1, hb1⟩ : ∃ b1, b1 = w.heap.size + 1 := ⟨_, rfl⟩
  have Hb0 := Lib.hid hb0
  have Hb1 := Lib.hid hb1
  clear hb0 hb1
  go_enter Try.func21, Try.ntmps21
  go_wp2
  rw [← Hb1.out, ← Hb0.out]
  have hrow0 : Row ((w.alloc (.cells #[.int .i64 a, .int .i64 b, .int .i64 c] 34)).alloc (.cells #[.int .i64 0, .int .i64 0, .int .i64 0] 34)) b0 34 [.int .i64 a, .int .i64 b, .int .i64 c] := by rw [Hb0.out]; exact (Row.new w _ _).alloc _
  have hrow1 : Row ((w.alloc (.cells #[.int .i64 a, .int .i64 b, .int .i64 c] 34)).alloc (.cells #[.int .i64 0, .int .i64 0, .int .i64 0] 34)) b1 34 [.int .i64 0, .int .i64 0, .int .i64 0] := by
    have h := Row.new (w.alloc (.cells #[.int .i64 a, .int .i64 b, .int .i64 c] 34)) 34 [.int .i64 0, .int .i64 0, .int .i64 0]
    rw [Hb1.out]
    simpa using h
  have hbel := ((Below.refl w.heap.size w).alloc (Nat.le_refl _) (.cells #[.int .i64 a, .int .i64 b, .int .i64 c] 34)).alloc (by simp) (.cells #[.int .i64 0, .int .i64 0, .int .i64 0] 34)
  have Hrow0 := Lib.hid hrow0
  have Hrow1 := Lib.hid hrow1
  have Hbel := Lib.hid hbel
  have Hne := Lib.hid (show b0 ≠ b1 by rw [Hb0.out, Hb1.out]; omega)
  obtain ⟨c0, c1, c2⟩ := row3 hrow0
  have C0 := Lib.hid c0
  have C1 := Lib.hid c1
  have C2 := Lib.hid c2
  clear hrow0 hrow1 hbel c0 c1 c2
  have e3 : IntKind.i64.wrap 3 = 3 := IntWalk.i64_in _ (by omega)
  generalize (w.alloc (.cells #[.int .i64 a, .int .i64 b, .int .i64 c] 34)).alloc (.cells #[.int .i64 0, .int .i64 0, .int .i64 0] 34) = wA at *
  go_region_law (refine step_copy_row rfl (.tmp 9) (.tmp 11) 46 46 rfl 3 Try.underlying46 (by kernel_rfl) (some ⟨b0, 1, none⟩) (some ⟨b0, 0, none⟩) 2 2 2 3 rfl rfl b0 1 [.int .i64 a, .int .i64 b, .int .i64 c] 34 Hrow0.out [.int .i64 a, .int .i64 b] rfl (fun _ => ⟨rfl, _, rfl, fun j v hj => (by match j, hj with | 0, hj => exact hj ▸ C0.out | 1, hj => exact hj ▸ C1.out)⟩) (by simp) (by intro v hv; simp only [List.mem_cons, List.not_mem_nil, or_false] at hv; rcases hv with rfl | rfl <;> rfl) ?_; intro w4 hg4 hb4)
  have hrowB : Row w4 b0 34 [.int .i64 a, .int .i64 a, .int .i64 b] := hg4.out
  have hrowC : Row w4 b1 34 [.int .i64 0, .int .i64 0, .int .i64 0] := Hrow1.out.keep (hb4.out.block b1 Hrow1.out.lt (fun e => Hne.out (by injection e with e; exact e.symm)))
  have HbD := Lib.hid (show Below w.heap.size w w4 from Hbel.out.drew.grown hb4.out Hbel.out.size (fun k e => by injection e with e; rw [← e, Hb0.out]; exact Nat.le_refl _))
  obtain ⟨c0, c1, c2⟩ := row3 hrowB
  obtain ⟨c3, c4, c5⟩ := row3 hrowC
  have f0 := hrowB.free 0
  have f3 := hrowC.free 0
  have f4 := hrowC.free 1
  have f5 := hrowC.free 2
  have hne := Hne.out
  have hne' : b1 ≠ b0 := fun e => hne e.symm
  have Hlt := Lib.hid (show w.heap.size ≤ b0 ∧ w.heap.size ≤ b1 by rw [Hb0.out, Hb1.out]; omega)
  have hr1 : Row (w4.setCell ⟨b0, 0, none⟩ (.int .i64 x)) b1 34 [.int .i64 0, .int .i64 0, .int .i64 0] := hrowC.far hne' _
  have s0 := (hr1.set_ 0 (.int .i64 x)).cell 0
  have s1 := ((hr1.set_ 0 (.int .i64 x)).set_ 1 (.int .i64 a)).cell 1
  have s2 := (((hr1.set_ 0 (.int .i64 x)).set_ 1 (.int .i64 a)).set_ 2 (.int .i64 b)).cell 2
  simp only [List.set_cons_zero, List.set_cons_succ, List.getElem?_cons_zero, List.getElem?_cons_succ] at s0 s1 s2
  have S0 := Lib.hid s0
  have S1 := Lib.hid s1
  have S2 := Lib.hid s2
  clear hr1 s0 s1 s2
  clear hrowB hrowC hg4 hb4 e3 Hb0 Hb1 Hrow0 Hrow1 Hbel C0 C1 C2
  clear Hne
  go_wp2
  have s0 := S0.out
  have s1 := S1.out
  have s2 := S2.out
  exact bodyPost_ret (by simp [results, Try.results21, go_sem, s0, s1, s2]) rfl ⟨rfl, (((HbD.out.setCell Hlt.out.1 _).setCell Hlt.out.2 _).setCell Hlt.out.2 _).setCell Hlt.out.2 _⟩

set_option maxHeartbeats 1000000 in
set_option maxRecDepth 100000 in
theorem kahead_one (a b c x : Int) (w : World) : Calls Try.prog 21 #[.agg #[.int .i64 a, .int .i64 b, .int .i64 c], .int .i64 x, .int .i64 1] w fun e w' => e = .returned (.agg #[.int .i64 x, .int .i64 a, .int .i64 c]) ∧ Below w.heap.size w w' := by
  obtain ⟨b0, hb0⟩ : ∃ b0, b0 = w.heap.size := ⟨_, rfl⟩
  obtain ⟨b1, hb1⟩ : ∃ b1, b1 = w.heap.size + 1 := ⟨_, rfl⟩
  have Hb0 := Lib.hid hb0
  have Hb1 := Lib.hid hb1
  clear hb0 hb1
  go_enter Try.func21, Try.ntmps21
  go_wp2
  rw [← Hb1.out, ← Hb0.out]
  have hrow0 : Row ((w.alloc (.cells #[.int .i64 a, .int .i64 b, .int .i64 c] 34)).alloc (.cells #[.int .i64 0, .int .i64 0, .int .i64 0] 34)) b0 34 [.int .i64 a, .int .i64 b, .int .i64 c] := by rw [Hb0.out]; exact (Row.new w _ _).alloc _
  have hrow1 : Row ((w.alloc (.cells #[.int .i64 a, .int .i64 b, .int .i64 c] 34)).alloc (.cells #[.int .i64 0, .int .i64 0, .int .i64 0] 34)) b1 34 [.int .i64 0, .int .i64 0, .int .i64 0] := by
    have h := Row.new (w.alloc (.cells #[.int .i64 a, .int .i64 b, .int .i64 c] 34)) 34 [.int .i64 0, .int .i64 0, .int .i64 0]
    rw [Hb1.out]
    simpa using h
  have hbel := ((Below.refl w.heap.size w).alloc (Nat.le_refl _) (.cells #[.int .i64 a, .int .i64 b, .int .i64 c] 34)).alloc (by simp) (.cells #[.int .i64 0, .int .i64 0, .int .i64 0] 34)
  have Hrow0 := Lib.hid hrow0
  have Hrow1 := Lib.hid hrow1
  have Hbel := Lib.hid hbel
  have Hne := Lib.hid (show b0 ≠ b1 by rw [Hb0.out, Hb1.out]; omega)
  obtain ⟨c0, c1, c2⟩ := row3 hrow0
  have C0 := Lib.hid c0
  have C1 := Lib.hid c1
  have C2 := Lib.hid c2
  clear hrow0 hrow1 hbel c0 c1 c2
  have e3 : IntKind.i64.wrap 2 = 2 := IntWalk.i64_in _ (by omega)
  generalize (w.alloc (.cells #[.int .i64 a, .int .i64 b, .int .i64 c] 34)).alloc (.cells #[.int .i64 0, .int .i64 0, .int .i64 0] 34) = wA at *
  go_region_law (refine step_copy_row rfl (.tmp 9) (.tmp 11) 46 46 rfl 3 Try.underlying46 (by kernel_rfl) (some ⟨b0, 1, none⟩) (some ⟨b0, 0, none⟩) 1 2 1 3 rfl rfl b0 1 [.int .i64 a, .int .i64 b, .int .i64 c] 34 Hrow0.out [.int .i64 a] rfl (fun _ => ⟨rfl, _, rfl, fun j v hj => (by match j, hj with | 0, hj => exact hj ▸ C0.out)⟩) (by simp) (by intro v hv; simp only [List.mem_cons, List.not_mem_nil, or_false] at hv; subst hv; rfl) ?_; intro w4 hg4 hb4)
  have hrowB : Row w4 b0 34 [.int .i64 a, .int .i64 a, .int .i64 c] := hg4.out
  have hrowC : Row w4 b1 34 [.int .i64 0, .int .i64 0, .int .i64 0] := Hrow1.out.keep (hb4.out.block b1 Hrow1.out.lt (fun e => Hne.out (by injection e with e; exact e.symm)))
  have HbD := Lib.hid (show Below w.heap.size w w4 from Hbel.out.drew.grown hb4.out Hbel.out.size (fun k e => by injection e with e; rw [← e, Hb0.out]; exact Nat.le_refl _))
  obtain ⟨c0, c1, c2⟩ := row3 hrowB
  obtain ⟨c3, c4, c5⟩ := row3 hrowC
  have f0 := hrowB.free 0
  have f3 := hrowC.free 0
  have f4 := hrowC.free 1
  have f5 := hrowC.free 2
  have hne := Hne.out
  have hne' : b1 ≠ b0 := fun e => hne e.symm
  have Hlt := Lib.hid (show w.heap.size ≤ b0 ∧ w.heap.size ≤ b1 by rw [Hb0.out, Hb1.out]; omega)
  have hr1 : Row (w4.setCell ⟨b0, 0, none⟩ (.int .i64 x)) b1 34 [.int .i64 0, .int .i64 0, .int .i64 0] := hrowC.far hne' _
  have s0 := (hr1.set_ 0 (.int .i64 x)).cell 0
  have s1 := ((hr1.set_ 0 (.int .i64 x)).set_ 1 (.int .i64 a)).cell 1
  have s2 := (((hr1.set_ 0 (.int .i64 x)).set_ 1 (.int .i64 a)).set_ 2 (.int .i64 c)).cell 2
  simp only [List.set_cons_zero, List.set_cons_succ, List.getElem?_cons_zero, List.getElem?_cons_succ] at s0 s1 s2
  have S0 := Lib.hid s0
  have S1 := Lib.hid s1
  have S2 := Lib.hid s2
  clear hr1 s0 s1 s2
  clear hrowB hrowC hg4 hb4 e3 Hb0 Hb1 Hrow0 Hrow1 Hbel C0 C1 C2
  clear Hne
  go_wp2
  have s0 := S0.out
  have s1 := S1.out
  have s2 := S2.out
  exact bodyPost_ret (by simp [results, Try.results21, go_sem, s0, s1, s2]) rfl ⟨rfl, (((HbD.out.setCell Hlt.out.1 _).setCell Hlt.out.2 _).setCell Hlt.out.2 _).setCell Hlt.out.2 _⟩

set_option maxHeartbeats 1000000 in
set_option maxRecDepth 100000 in
theorem kahead_zero (a b c x : Int) (w : World) : Calls Try.prog 21 #[.agg #[.int .i64 a, .int .i64 b, .int .i64 c], .int .i64 x, .int .i64 0] w fun e w' => e = .returned (.agg #[.int .i64 x, .int .i64 b, .int .i64 c]) ∧ Below w.heap.size w w' := by
  obtain ⟨b0, hb0⟩ : ∃ b0, b0 = w.heap.size := ⟨_, rfl⟩
  obtain ⟨b1, hb1⟩ : ∃ b1, b1 = w.heap.size + 1 := ⟨_, rfl⟩
  have Hb0 := Lib.hid hb0
  have Hb1 := Lib.hid hb1
  clear hb0 hb1
  go_enter Try.func21, Try.ntmps21
  go_wp2
  rw [← Hb1.out, ← Hb0.out]
  have hrow0 : Row ((w.alloc (.cells #[.int .i64 a, .int .i64 b, .int .i64 c] 34)).alloc (.cells #[.int .i64 0, .int .i64 0, .int .i64 0] 34)) b0 34 [.int .i64 a, .int .i64 b, .int .i64 c] := by rw [Hb0.out]; exact (Row.new w _ _).alloc _
  have hrow1 : Row ((w.alloc (.cells #[.int .i64 a, .int .i64 b, .int .i64 c] 34)).alloc (.cells #[.int .i64 0, .int .i64 0, .int .i64 0] 34)) b1 34 [.int .i64 0, .int .i64 0, .int .i64 0] := by
    have h := Row.new (w.alloc (.cells #[.int .i64 a, .int .i64 b, .int .i64 c] 34)) 34 [.int .i64 0, .int .i64 0, .int .i64 0]
    rw [Hb1.out]
    simpa using h
  have hbel := ((Below.refl w.heap.size w).alloc (Nat.le_refl _) (.cells #[.int .i64 a, .int .i64 b, .int .i64 c] 34)).alloc (by simp) (.cells #[.int .i64 0, .int .i64 0, .int .i64 0] 34)
  have Hrow0 := Lib.hid hrow0
  have Hrow1 := Lib.hid hrow1
  have Hbel := Lib.hid hbel
  have Hne := Lib.hid (show b0 ≠ b1 by rw [Hb0.out, Hb1.out]; omega)
  obtain ⟨c0, c1, c2⟩ := row3 hrow0
  have C0 := Lib.hid c0
  have C1 := Lib.hid c1
  have C2 := Lib.hid c2
  clear hrow0 hrow1 hbel c0 c1 c2
  have e3 : IntKind.i64.wrap 1 = 1 := IntWalk.i64_in _ (by omega)
  generalize (w.alloc (.cells #[.int .i64 a, .int .i64 b, .int .i64 c] 34)).alloc (.cells #[.int .i64 0, .int .i64 0, .int .i64 0] 34) = wA at *
  go_region_law (refine step_copy_row rfl (.tmp 9) (.tmp 11) 46 46 rfl 3 Try.underlying46 (by kernel_rfl) (some ⟨b0, 1, none⟩) (some ⟨b0, 0, none⟩) 0 2 0 3 rfl rfl b0 1 [.int .i64 a, .int .i64 b, .int .i64 c] 34 Hrow0.out [] rfl (fun h => absurd h (by simp)) (by simp) (by intro v hv; cases hv) ?_; intro w4 hg4 hb4)
  have hrowB : Row w4 b0 34 [.int .i64 a, .int .i64 b, .int .i64 c] := hg4.out
  have hrowC : Row w4 b1 34 [.int .i64 0, .int .i64 0, .int .i64 0] := Hrow1.out.keep (hb4.out.block b1 Hrow1.out.lt (fun e => Hne.out (by injection e with e; exact e.symm)))
  have HbD := Lib.hid (show Below w.heap.size w w4 from Hbel.out.drew.grown hb4.out Hbel.out.size (fun k e => by injection e with e; rw [← e, Hb0.out]; exact Nat.le_refl _))
  obtain ⟨c0, c1, c2⟩ := row3 hrowB
  obtain ⟨c3, c4, c5⟩ := row3 hrowC
  have f0 := hrowB.free 0
  have f3 := hrowC.free 0
  have f4 := hrowC.free 1
  have f5 := hrowC.free 2
  have hne := Hne.out
  have hne' : b1 ≠ b0 := fun e => hne e.symm
  have Hlt := Lib.hid (show w.heap.size ≤ b0 ∧ w.heap.size ≤ b1 by rw [Hb0.out, Hb1.out]; omega)
  have hr1 : Row (w4.setCell ⟨b0, 0, none⟩ (.int .i64 x)) b1 34 [.int .i64 0, .int .i64 0, .int .i64 0] := hrowC.far hne' _
  have s0 := (hr1.set_ 0 (.int .i64 x)).cell 0
  have s1 := ((hr1.set_ 0 (.int .i64 x)).set_ 1 (.int .i64 b)).cell 1
  have s2 := (((hr1.set_ 0 (.int .i64 x)).set_ 1 (.int .i64 b)).set_ 2 (.int .i64 c)).cell 2
  simp only [List.set_cons_zero, List.set_cons_succ, List.getElem?_cons_zero, List.getElem?_cons_succ] at s0 s1 s2
  have S0 := Lib.hid s0
  have S1 := Lib.hid s1
  have S2 := Lib.hid s2
  clear hr1 s0 s1 s2
  clear hrowB hrowC hg4 hb4 e3 Hb0 Hb1 Hrow0 Hrow1 Hbel C0 C1 C2
  clear Hne
  go_wp2
  have s0 := S0.out
  have s1 := S1.out
  have s2 := S2.out
  exact bodyPost_ret (by simp [results, Try.results21, go_sem, s0, s1, s2]) rfl ⟨rfl, (((HbD.out.setCell Hlt.out.1 _).setCell Hlt.out.2 _).setCell Hlt.out.2 _).setCell Hlt.out.2 _⟩


theorem kahead_any (a b c x : Int) (k : Nat) (hk : k ≤ 2) (w : World) : Calls Try.prog 21 #[.agg #[.int .i64 a, .int .i64 b, .int .i64 c], .int .i64 x, .int .i64 (k : Int)] w fun e w' => e = .returned (.agg #[.int .i64 (ahead3 a b c x k).1, .int .i64 (ahead3 a b c x k).2.1, .int .i64 (ahead3 a b c x k).2.2]) ∧ Below w.heap.size w w' := by
  match k, hk with
  | 0, _ => exact kahead_zero a b c x w
  | 1, _ => exact kahead_one a b c x w
  | 2, _ => exact kahead_two a b c x w
end Go.Proofs.Ytlimiiimgblggaa
