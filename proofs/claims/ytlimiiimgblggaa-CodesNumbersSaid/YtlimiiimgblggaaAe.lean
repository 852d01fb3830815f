/-
  Arrays of three ints that are compared. No condition.
-/
import Derived.Test.YtlimiiimgblggaaMg
import Derived.ChangeKeysEq
namespace Go.Proofs.Ytlimiiimgblggaa
open Go.RowKit

theorem rec_guard : Try.prog.eqGuardType Try.prog.depth 34 = false := by kernel_rfl
theorem rec_same (a b c a' b' c' : Int) (W : World) : (Op.equalIn 10000 34 (.agg #[.int .i64 a, .int .i64 b, .int .i64 c]) (.agg #[.int .i64 a', .int .i64 b', .int .i64 c'])).run Try.prog W = .ok (a == a' && (b == b' && c == c')) W := by
  obtain ⟨i, hi⟩ : ∃ i, Try.prog.info? 3 = some i := ⟨_, rfl⟩
  have hc : Try.prog.cellsOf 3 = 1 := by kernel_rfl
  have h3 : List.range 3 = [0, 1, 2] := rfl
  rw [run_equalIn_array W 9999 _ _ Try.underlying34 hi, hc, h3]
  have hp : ∀ (x y z : Int) (W : World), (part 3 #[.int .i64 x, .int .i64 y, .int .i64 z] 0).run Try.prog W = .ok (.int .i64 x) W ∧ (part 3 #[.int .i64 x, .int .i64 y, .int .i64 z] 1).run Try.prog W = .ok (.int .i64 y) W ∧ (part 3 #[.int .i64 x, .int .i64 y, .int .i64 z] 2).run Try.prog W = .ok (.int .i64 z) W := by
    intro x y z W
    refine ⟨?_, ?_, ?_⟩ <;> go_simp
  have he : ∀ (x y : Int) (W : World), (Op.equalIn 9999 3 (.int .i64 x) (.int .i64 y)).run Try.prog W = .ok (x == y) W := fun x y W => run_equalIn_int W 9998 _ _ _ x y Try.underlying3
  simp only [Op.eqItems, Sem.run_bind, Nat.zero_mul, Nat.one_mul, show 2 * 1 = 2 from rfl, (hp _ _ _ _).1, he, Result.andThen_ok]
  cases h1 : (a == a') <;> cases h2 : (b == b') <;> cases h4 : (c == c') <;> simp [h2, h4, hp, he]
end Go.Proofs.Ytlimiiimgblggaa
