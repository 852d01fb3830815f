/-
  Layer 25 (message): messages compared with themselves; the laws' awake, by its walk: true. No condition.
-/
import Derived.Test.YtfopnbfaaikghaaMj
import Derived.Test.YtfopnbfaaikghaaRi
import Derived.Laws.StructEq
namespace Go.Proofs.Ytfopnbfaaikghaa
open Go.RowKit

set_option maxHeartbeats 1000000 in
set_option maxRecDepth 100000 in
theorem ms_equal (a b c d : Int) (s : Int) (t : ByteArray) (W : World) :
    (Op.equalIn 10000 24 (.agg #[.int .i64 a, .int .i64 b, .int .i64 c, .int .i64 d, .int .u64 s, .string t]) (.agg #[.int .i64 a, .int .i64 b, .int .i64 c, .int .i64 d, .int .u64 s, .string t])).run Try.prog W = .ok true W := by
  rw [run_equalIn_struct W 9999 _ _ _ (by kernel_rfl) (by kernel_rfl)]
  have hfl : (Try.prog.fieldsOf 24).toList.map (fun f => (f.name, f.type, f.offset)) = [("Kind", 3, 0), ("Next", 3, 1), ("Epoch", 3, 2), ("Size", 3, 3), ("Sum", 22, 4), ("Data", 9, 5)] := by kernel_rfl
  generalize (Try.prog.fieldsOf 24).toList = F at hfl
  have hF : ∃ f0 f1 f2 f3 f4 f5, F = [f0, f1, f2, f3, f4, f5] := by
    rcases F with _ | ⟨f0, _ | ⟨f1, _ | ⟨f2, _ | ⟨f3, _ | ⟨f4, _ | ⟨f5, _ | ⟨f6, F⟩⟩⟩⟩⟩⟩⟩
    · cases hfl
    · simp at hfl
    · simp at hfl
    · simp at hfl
    · simp at hfl
    · simp at hfl
    · exact ⟨f0, f1, f2, f3, f4, f5, rfl⟩
    · simp at hfl
  obtain ⟨f0, f1, f2, f3, f4, f5, rfl⟩ := hF
  simp only [List.map_cons, List.map_nil, List.cons.injEq, Prod.mk.injEq, and_true] at hfl
  obtain ⟨⟨n0, t0, o0⟩, ⟨n1, t1, o1⟩, ⟨n2, t2, o2⟩, ⟨n3, t3, o3⟩, ⟨n4, t4, o4⟩, n5, t5, o5⟩ := hfl
  have c0 : Try.prog.cellsOf 3 = 1 := by kernel_rfl
  have c1 : Try.prog.cellsOf 9 = 1 := by kernel_rfl
  have c2 : Try.prog.cellsOf 22 = 1 := by kernel_rfl
  have k0 : "Kind" ≠ "_" := by decide
  have k1 : "Next" ≠ "_" := by decide
  have k2 : "Epoch" ≠ "_" := by decide
  have k3 : "Size" ≠ "_" := by decide
  have k4 : "Sum" ≠ "_" := by decide
  have k5 : "Data" ≠ "_" := by decide
  have he0 : ∀ (x y : Int) (W : World), (Op.equalIn 9999 3 (.int .i64 x) (.int .i64 y)).run Try.prog W = .ok (x == y) W := fun x y W => run_equalIn_int W 9998 _ _ _ x y Try.underlying3
  have he1 : ∀ (x y : ByteArray) (W : World), (Op.equalIn 9999 9 (.string x) (.string y)).run Try.prog W = .ok (x.toList == y.toList) W := fun x y W => run_equalIn_string W 9998 _ x y Try.underlying9
  have he2 : ∀ (x y : Int) (W : World), (Op.equalIn 9999 22 (.int .u64 x) (.int .u64 y)).run Try.prog W = .ok (x == y) W := fun x y W => run_equalIn_int W 9998 _ _ _ x y Try.underlying22
  simp only [Op.eqFields, n0, t0, o0, n1, t1, o1, n2, t2, o2, n3, t3, o3, n4, t4, o4, n5, t5, o5]
  rw [if_pos k0, if_pos k1, if_pos k2, if_pos k3, if_pos k4, if_pos k5]
  go_simp
theorem ms_guard : Try.prog.eqGuardType Try.prog.depth 24 = false := by kernel_rfl
theorem ms_neq (a b c d : Int) (s : Int) (t : ByteArray) (W : World) :
    (binOp .neq 24 (.agg #[.int .i64 a, .int .i64 b, .int .i64 c, .int .i64 d, .int .u64 s, .string t]) (.agg #[.int .i64 a, .int .i64 b, .int .i64 c, .int .i64 d, .int .u64 s, .string t])).run Try.prog W = .ok (.bool false) W := by
  rw [run_neq_struct, ms_equal]
  rfl
theorem ms_eql (a b c d : Int) (s : Int) (t : ByteArray) (W : World) :
    (binOp .eql 24 (.agg #[.int .i64 a, .int .i64 b, .int .i64 c, .int .i64 d, .int .u64 s, .string t]) (.agg #[.int .i64 a, .int .i64 b, .int .i64 c, .int .i64 d, .int .u64 s, .string t])).run Try.prog W = .ok (.bool true) W := by
  rw [run_eql_struct, ms_equal]
  rfl
set_option maxHeartbeats 2000000 in
set_option maxRecDepth 100000 in
theorem mgawake_any (w : World) : Calls Try.prog 6 #[] w fun e w' => e = .returned (.bool true) ∧ Below w.heap.size w w' := by
  have hr : rightM ⟨4, 0, 3, 0, 0, []⟩ = true := by decide
  have hok : Msg.Ok ⟨4, 0, 3, 0, 0, []⟩ := ⟨by decide, by simp⟩
  have hby : bytesM ⟨4, 0, 3, 0, 0, []⟩ = [3] := by
    simp [bytesM, bodyK, Bdy.bytes, putS, sumS, dataS, Sp.there, spE, zsp, Bm.grp_small]
  have hde := decP_of ⟨4, 0, 3, 0, 0, []⟩ hok hr
  rw [hby] at hde
  have Henc : Hid (∀ W, Calls Try.prog 8 #[.agg #[.int .i64 4, .int .i64 0, .int .i64 3, .int .i64 0, .int .u64 0, .string ⟨#[]⟩]] W fun e w' => e = .returned (.tuple #[.agg #[.int .i64 4, .string ⟨#[3]⟩], .int .i64 0]) ∧ Below W.heap.size W w') := Lib.hid (fun W => by
    have h1 := mgenc_yes ⟨4, 0, 3, 0, 0, []⟩ W hok hr
    rw [hby] at h1
    exact h1)
  have Hdec : Hid (∀ W, Calls Try.prog 12 #[.agg #[.int .i64 4, .string ⟨#[3]⟩]] W fun e w' => e = .returned (.tuple #[.agg #[.int .i64 4, .int .i64 0, .int .i64 3, .int .i64 0, .int .u64 0, .string ⟨#[]⟩], .int .i64 0]) ∧ Below W.heap.size W w') := Lib.hid (fun W => by
    have h1 := mgdec_any 4 [3] W (by decide) (by decide)
    rw [hde] at h1
    exact h1)
  have hguard := fr_guard
  have heq : ∀ W, (binOp .eql 28 (.agg #[.int .i64 4, .string ⟨#[3]⟩]) (.agg #[.int .i64 4, .string ⟨#[3]⟩])).run Try.prog W = .ok (.bool true) W := fun W => by
    have h1 := fr_eql (4, [3]) (4, [3]) W (by decide) (by decide)
    rw [show decide (((4, [3]) : Bm.Frm) = (4, [3])) = true from decide_eq_true rfl] at h1
    exact h1
  clear hr hok hby hde
  go_enter Try.func6, Try.ntmps6
  go_wp2_with fail
  refine (Henc.out _).mono ?_
  rintro e w1 ⟨rfl, g1⟩
  have Hb1 := Lib.hid g1
  clear g1
  have Hb2 := Lib.hid (Hb1.out.alloc Hb1.out.size (.cells #[.int .i64 4, .string ⟨#[3]⟩] 28))
  have Hf2 : Hid (Row (w1.alloc (.cells #[.int .i64 4, .string ⟨#[3]⟩] 28)) w1.heap.size 28 [.int .i64 4, .string ⟨#[3]⟩]) := Lib.hid (Row.new w1 _ _)
  go_wp2_with fail
  refine (Hdec.out _).mono ?_
  rintro e w3 ⟨rfl, g3⟩
  have Hf3 := Lib.hid (kept Hf2.out g3)
  have Hb3 := Lib.hid (Hb2.out.trans (g3.mono Hb2.out.size))
  clear g3 Hf2 Hb2
  go_upto_region 3 with fail
  have Hf4 := Lib.hid (Hf3.out.alloc (.cells #[.int .i64 4, .int .i64 0, .int .i64 3, .int .i64 0, .int .u64 0, .string ⟨#[]⟩] 24))
  have Hm4 : Hid (Row (w3.alloc (.cells #[.int .i64 4, .int .i64 0, .int .i64 3, .int .i64 0, .int .u64 0, .string ⟨#[]⟩] 24)) w3.heap.size 24 [.int .i64 4, .int .i64 0, .int .i64 3, .int .i64 0, .int .u64 0, .string ⟨#[]⟩]) := Lib.hid (Row.new w3 _ _)
  have Hb4 := Lib.hid (Hb3.out.alloc Hb3.out.size (.cells #[.int .i64 4, .int .i64 0, .int .i64 3, .int .i64 0, .int .u64 0, .string ⟨#[]⟩] 24))
  generalize w3.alloc (.cells #[.int .i64 4, .int .i64 0, .int .i64 3, .int .i64 0, .int .u64 0, .string ⟨#[]⟩] 24) = w4 at *
  have c0 := Hf4.out.cell 0
  have c1 := Hf4.out.cell 1
  simp only [List.getElem?_cons_zero, List.getElem?_cons_succ] at c0 c1
  obtain ⟨d0, d1, d2, d3, d4, d5⟩ := Ms6.cells Hm4.out
  go_wp2_with fail
  go_ret
  exact ⟨rfl, Hb4.out⟩
end Go.Proofs.Ytfopnbfaaikghaa
