/-
  Layer 22 (pipe): the laws' awake, by its walk: true; PipeNobody. No condition.
-/
import Derived.Test.YtholenecikkijaaXt
import Derived.Test.YtholenecikkijaaSc
namespace Go.Proofs.Ytholenecikkijaa
open Go.RowKit

theorem ppb_stood : Try.prog.stoodInHeld 34 = false := by kernel_rfl
theorem ppb_guard : Try.prog.eqGuardType Try.prog.depth 34 = false := by kernel_rfl
theorem sumOf_one (x : Nat) : Bm.sumOf [x] = Bm.sumH (Bm.stepH Bm.H0 x) 1 := by
  unfold Bm.sumOf Bm.fromH
  rw [List.foldl_cons, List.foldl_nil, List.length_singleton]
/-- A call that leaves the world as it is, in a region that draws its order. -/
theorem quiet_leftK {P : Program} {f : FuncId} {args : Array Value} {w : World} {n : Nat} {v : Value}
    (h : Calls P f args (w.drewN n) fun e w' => e = .returned v ∧ w.drewN n = w') : Calls P f args (w.drewN n) fun e w'' => e = .returned v ∧ ∃ m, w'' = w.drewN m :=
  h.mono fun _ _ ⟨he, hm⟩ => ⟨he, n, hm.symm⟩

set_option maxHeartbeats 1000000 in
set_option maxRecDepth 100000 in
theorem ppawake_any (w : World) : Calls Try.prog 6 #[] w fun e w' => e = .returned (.bool true) ∧ Below w.heap.size w w' := by
  have Hnew := Lib.hid (ppnew_any 9 w)
  rw [show Bm.mostN 9 = 9 by decide] at Hnew
  obtain ⟨sl, hsl⟩ : ∃ sl, sl = Bm.sumOf [97] := ⟨_, rfl⟩
  have Hof := Lib.hid (fun W => gof_any [97] W (by decide) (by decide))
  rw [← hsl, show strOf [97] = ⟨#[97]⟩ from rfl] at Hof
  rw [sumOf_one] at hsl
  have Hsl := Lib.hid hsl
  have hst := ppb_stood
  have hgu := ppb_guard
  clear hsl
  go_enter Try.func6, Try.ntmps6
  go_wp2_with fail
  refine Hnew.out.mono ?_
  rintro e w1 ⟨b, rfl, hp1, hb, hB1⟩
  have Hse := Lib.hid (ppsend_yes b [] [] 9 Bm.H0 0 [97, 98] w1 (by decide) (by decide) hp1)
  rw [show strOf [97, 98] = ⟨#[97, 98]⟩ from rfl] at Hse
  have Hb := Lib.hid hb
  have HB1 := Lib.hid hB1
  clear hp1 hb hB1 Hnew
  go_wp2_with fail
  refine Hse.out.mono ?_
  rintro e w2 ⟨rfl, hp2, hg2⟩
  have Hde := Lib.hid (ppdel_any b [] _ 9 Bm.H0 0 1 1 w2 (by decide) hp2)
  have HB2 := Lib.hid (HB1.out.trans (below_grown hg2 Hb.out HB1.out.size))
  clear hp2 hg2 HB1 Hse
  go_wp2_with fail
  refine Hde.out.mono ?_
  rintro e w3 ⟨rfl, hp3, hg3⟩
  have hp3' : PI w3 b ((97, true) :: []) [(98, true)] 9 Bm.H0 0 := hp3
  have Hta := Lib.hid (pptake_sent b 97 [] [(98, true)] 9 Bm.H0 0 w3 (by decide) hp3')
  have HB3 := Lib.hid (HB2.out.trans (below_grown hg3 Hb.out HB2.out.size))
  rw [show (0 : Nat) + 1 = 1 from rfl, ← Hsl.out] at Hta
  clear hp3 hp3' hg3 HB2 Hde
  generalize Bm.stepH Bm.H0 97 = h2 at *
  go_wp2_with fail
  refine Hta.out.mono ?_
  rintro e w4 ⟨rfl, hp4, hg4⟩
  have HB4 := Lib.hid (HB3.out.trans (below_grown hg4 Hb.out HB3.out.size))
  have Hp4 := Lib.hid hp4
  unfold ppB
  clear hp4 hg4 HB3 Hta Hsl
  go_upto_region 5 with fail
  have HB5 := Lib.hid (HB4.out.alloc HB4.out.size (.cells #[.int .u8 97, .int .u64 (sl : Int), .bool true] 34))
  have HR5 := Lib.hid (Row.new w4 34 [.int .u8 97, .int .u64 (sl : Int), .bool true])
  have Hf5 := Lib.hid (show (w4.alloc (.cells #[.int .u8 97, .int .u64 (sl : Int), .bool true] 34)).cell? ⟨b, 4098, none⟩ = some (.int .i64 ((1 : Nat) : Int)) from by
    obtain ⟨f, G, hpw, _⟩ := Hp4.out
    exact (hpw.keep (Below.heap_alloc w4 _ b hpw.lt)).cells.2.2.1)
  have e0 := HR5.out.cell 0
  have e1 := HR5.out.cell 1
  have e2 := HR5.out.cell 2
  simp only [List.getElem?_cons_zero, List.getElem?_cons_succ] at e0 e1 e2
  clear HB4 Hp4 HR5
  generalize w4.alloc (.cells #[.int .u8 97, .int .u64 (sl : Int), .bool true] 34) = w5 at *
  generalize w4.heap.size = q5 at *
  have Hfl := Lib.hid (fun n => ppflies_at b 1 (w5.drewN n) Hf5.out)
  go_quiet ((first | (go_at_call 23; exact quiet_leftK (Hof.out _)) | (go_at_call 19; exact quiet_leftK (Hfl.out _))))
  go_wp2
  go_ret
  exact ⟨rfl, ⟨HB5.out.os, HB5.out.tape, HB5.out.output, HB5.out.size, HB5.out.block⟩⟩
set_option maxHeartbeats 1000000 in
set_option maxRecDepth 100000 in
theorem ppnobody_any (s : ByteArray) (x : Int) (w : World) : Calls Try.prog 5 #[.string s, .int .i64 x] w fun e w' => e = .returned (.bool true) ∧ Below w.heap.size w w' := by
  have Haw := Lib.hid (ppawake_any w)
  have hst := ppb_stood
  have hgu := ppb_guard
  go_enter Try.func5, Try.ntmps5
  go_wp2_with fail
  refine Haw.out.mono ?_
  rintro e w1 ⟨rfl, hb1⟩
  have HB1 := Lib.hid hb1
  clear hb1 Haw
  go_wp2_with fail
  refine (pptake_nil w1).mono ?_
  rintro e w2 ⟨rfl, hb2⟩
  have HB2 := Lib.hid (HB1.out.trans (hb2.mono HB1.out.size))
  unfold ppB
  clear hb2 HB1
  go_wp2_with fail
  have HB3 := Lib.hid (HB2.out.alloc HB2.out.size (.cells #[.int .u8 0, .int .u64 0, .bool false] 34))
  have HR3 := Lib.hid (Row.new w2 34 [.int .u8 0, .int .u64 0, .bool false])
  have e0 := HR3.out.cell 0
  have e1 := HR3.out.cell 1
  have e2 := HR3.out.cell 2
  simp only [List.getElem?_cons_zero, List.getElem?_cons_succ] at e0 e1 e2
  clear HB2 HR3
  generalize w2.alloc (.cells #[.int .u8 0, .int .u64 0, .bool false] 34) = w3 at *
  generalize w2.heap.size = q3 at *
  refine (ppclear_nil _).mono ?_
  rintro e w' ⟨rfl, rfl⟩
  go_wp2_with fail
  refine (ppsend_nil s w3).mono ?_
  rintro e w' ⟨rfl, rfl⟩
  go_wp2_with fail
  refine (ppinj_nil s w3).mono ?_
  rintro e w' ⟨rfl, rfl⟩
  go_wp2_with fail
  refine (ppdel_nil x w3).mono ?_
  rintro e w' ⟨rfl, rfl⟩
  go_wp2_with fail
  refine (ppflies_nil w3).mono ?_
  rintro e w' ⟨rfl, rfl⟩
  go_wp2_with fail
  refine (ppcame_nil w3).mono ?_
  rintro e w' ⟨rfl, rfl⟩
  go_wp2_with fail
  refine (pproom_nil w3).mono ?_
  rintro e w' ⟨rfl, rfl⟩
  go_wp2
  go_ret
  exact ⟨rfl, HB3.out⟩
end Go.Proofs.Ytholenecikkijaa
