/-
  Layer 25 (message): a message that came in by value; MessageFits: the law's function by its walk: true. Condition: the message's data are bytes.
-/
import Derived.Test.YtfopnbfaaikghaaMp
import Derived.Test.YtfopnbfaaikghaaMh
import Derived.Test.YtfopnbfaaikghaaAr
import Derived.OpenShut
namespace Go.Proofs.Ytfopnbfaaikghaa
open Go.RowKit Go.ChangeShapes Go.WideShapes Go.ChangeAt

section
variable {H : Type} {enc : TypeId × Value → H}
/-- A message that came in by value. -/
theorem arg_ms {w : World} {base : Nat} {spare : Nat → Bool} {held : Bool} {r : Reach} {b0 fuel : Nat} {v : Value} {x : DataW H × List MemPlace} (hv : Value.okWide Try.prog w r b0 24 v)
    (h : DataW.trod enc Try.prog w base spare held fuel 24 v.cells.toList = some x) : ∃ (km nm em zm : Int) (um : Nat) (tm : ByteArray), v = .agg #[.int .i64 km, .int .i64 nm, .int .i64 em, .int .i64 zm, .int .u64 (um : Int), .string tm] ∧ um < 2 ^ 64 := by
  have hu := Try.underlying24
  have hC : Try.prog.cellsOf 24 = 6 := by kernel_rfl
  obtain ⟨cs, rfl, hsz⟩ : ∃ cs, v = .agg cs ∧ cs.size = Try.prog.cellsOf 24 := by
    simp only [Value.okWide, hu] at hv
    obtain ⟨cs, h1, h2, _⟩ := hv
    exact ⟨cs, h1, h2⟩
  rw [hC] at hsz
  obtain ⟨c0, c1, c2, c3, c4, c5, rfl⟩ : ∃ c0 c1 c2 c3 c4 c5, cs = #[c0, c1, c2, c3, c4, c5] := by
    obtain ⟨l⟩ := cs
    match l, hsz with
    | [c0, c1, c2, c3, c4, c5], _ => exact ⟨c0, c1, c2, c3, c4, c5, rfl⟩
  obtain ⟨ys, n', hn', hy, hlen, hyl, hf⟩ := DataW.trod_struct hu h
  have ck : Try.prog.cellsOf 3 = 1 := by kernel_rfl
  have cu : Try.prog.cellsOf 22 = 1 := by kernel_rfl
  have cst : Try.prog.cellsOf 9 = 1 := by kernel_rfl
  have hyl2 : ys.length = 6 := hyl
  match ys, hyl2 with
  | [y0, y1, y2, y3, y4, y5], _ =>
    have f0 : DataW.trod enc Try.prog w base spare held n' 3 (([c0, c1, c2, c3, c4, c5].drop 0).take (Try.prog.cellsOf 3)) = [y0, y1, y2, y3, y4, y5][0]? := hf 0 _ rfl
    have f1 : DataW.trod enc Try.prog w base spare held n' 3 (([c0, c1, c2, c3, c4, c5].drop 1).take (Try.prog.cellsOf 3)) = [y0, y1, y2, y3, y4, y5][1]? := hf 1 _ rfl
    have f2 : DataW.trod enc Try.prog w base spare held n' 3 (([c0, c1, c2, c3, c4, c5].drop 2).take (Try.prog.cellsOf 3)) = [y0, y1, y2, y3, y4, y5][2]? := hf 2 _ rfl
    have f3 : DataW.trod enc Try.prog w base spare held n' 3 (([c0, c1, c2, c3, c4, c5].drop 3).take (Try.prog.cellsOf 3)) = [y0, y1, y2, y3, y4, y5][3]? := hf 3 _ rfl
    have f4 : DataW.trod enc Try.prog w base spare held n' 22 (([c0, c1, c2, c3, c4, c5].drop 4).take (Try.prog.cellsOf 22)) = [y0, y1, y2, y3, y4, y5][4]? := hf 4 _ rfl
    have f5 : DataW.trod enc Try.prog w base spare held n' 9 (([c0, c1, c2, c3, c4, c5].drop 5).take (Try.prog.cellsOf 9)) = [y0, y1, y2, y3, y4, y5][5]? := hf 5 _ rfl
    rw [ck] at f0 f1 f2 f3
    rw [cu] at f4
    rw [cst] at f5
    simp only [List.drop_zero, List.drop_succ_cons, List.take_succ_cons, List.take_zero, List.getElem?_cons_zero, List.getElem?_cons_succ] at f0 f1 f2 f3 f4 f5
    obtain ⟨x0, e0, _, w0⟩ := DataW.trod_int Try.underlying3 f0
    obtain ⟨x1, e1, _, w1⟩ := DataW.trod_int Try.underlying3 f1
    obtain ⟨x2, e2, _, w2⟩ := DataW.trod_int Try.underlying3 f2
    obtain ⟨x3, e3, _, w3⟩ := DataW.trod_int Try.underlying3 f3
    obtain ⟨x4, e4, _, w4⟩ := DataW.trod_int Try.underlying22 f4
    obtain ⟨s, e5, _, ws⟩ := DataW.trod_string Try.underlying9 f5
    simp at e0 e1 e2 e3 e4 e5
    subst e0 e1 e2 e3 e4 e5
    have b4 := bounds_u64 w4
    refine ⟨x0, x1, x2, x3, x4.toNat, s, ?_, by omega⟩
    rw [Int.toNat_of_nonneg b4.1]
end

set_option maxHeartbeats 1000000 in
set_option maxRecDepth 100000 in
theorem mgfits_any (m : Msg) (w : World) (hm : m.Ok) : Calls Try.prog 5 #[msV m] w fun e w' => e = .returned (.bool true) ∧ Below w.heap.size w w' := by
  obtain ⟨W0, hW0⟩ : ∃ W0, W0 = w.alloc (.cells (msL m).toArray 24) := ⟨_, rfl⟩
  have Hm0 : Hid (Row W0 w.heap.size 24 (msL m)) := Lib.hid (by rw [hW0]; exact Row.new w _ _)
  have Hb0 : Hid (Below w.heap.size w W0) := Lib.hid (by rw [hW0]; exact (Below.refl _ _).alloc (Nat.le_refl _) _)
  by_cases hr : rightM m = true
  · have HB := Lib.hid (fun W => mgbytes_yes m W hm hr)
    have hl : (strOf (Bm.bytesF (m.kind, bytesM m))).size = (bytesM m).length + 11 := by rw [strOf_size]; exact Bm.bytesF_length _
    obtain ⟨b, hb, hbr⟩ := right_some hr
    have hl2 := Bdy.bytes_len (body_ok hb) m hbr
    rw [← bytes_of hb] at hl2
    generalize strOf (Bm.bytesF (m.kind, bytesM m)) = s at *
    generalize (bytesM m).length = L at *
    clear hb hbr hr
    have hs1 : (11 : Int) ≤ ((L + 11 : Nat) : Int) := by omega
    have hs2 : ((L + 11 : Nat) : Int) ≤ 1000 := by omega
    generalize L + 11 = L2 at *
    unfold msV at *
    dsimp only [msL] at hW0 HB ⊢
    go_enter Try.func5, Try.ntmps5
    go_wp2_with fail
    rw [← hW0]
    refine (mgawake_any W0).mono ?_
    rintro e w1 ⟨rfl, g1⟩
    have Hm1 := Lib.hid (kept Hm0.out g1)
    have Hb1 := Lib.hid (Hb0.out.trans (g1.mono Hb0.out.size))
    clear g1 hW0
    obtain ⟨c0, c1, c2, c3, c4, c5⟩ := MsRow.cells Hm1.out
    go_wp2_with fail
    refine (HB.out w1).mono ?_
    rintro e w2 ⟨rfl, g2⟩
    clear c0 c1 c2 c3 c4 c5
    go_wp2_with fail
    go_ret
    exact ⟨rfl, Hb1.out.trans (g2.mono Hb1.out.size)⟩
  · have HB := Lib.hid (fun W => mgbytes_no m W (by simpa using hr))
    unfold msV at *
    dsimp only [msL] at hW0 HB ⊢
    go_enter Try.func5, Try.ntmps5
    go_wp2_with fail
    rw [← hW0]
    refine (mgawake_any W0).mono ?_
    rintro e w1 ⟨rfl, g1⟩
    have Hm1 := Lib.hid (kept Hm0.out g1)
    have Hb1 := Lib.hid (Hb0.out.trans (g1.mono Hb0.out.size))
    clear g1 hW0
    obtain ⟨c0, c1, c2, c3, c4, c5⟩ := MsRow.cells Hm1.out
    go_wp2_with fail
    refine (HB.out w1).mono ?_
    rintro e w2 ⟨rfl, g2⟩
    clear c0 c1 c2 c3 c4 c5
    go_wp2_with fail
    go_ret
    exact ⟨rfl, Hb1.out.trans (g2.mono Hb1.out.size)⟩
end Go.Proofs.Ytfopnbfaaikghaa
