/-
  The reference of layer 11 (chain), by its walk: Note. Conditions: as the theorem's premises say (up to ten thousand places).
-/
import Derived.Test.YtjcehdibklndkaaEa
import Derived.Deep.AppendLies
namespace Go.Proofs.Ytjcehdibklndkaa
open Go.RowKit

theorem info_ie : (Try.prog.info? 3).map (fun i => (i.zero, i.size, i.bytes)) = some (some (.int .i64 0), 1, 8) := by kernel_rfl
theorem reads_ie {w : World} {A : Option Addr} {l : List Nat} (h : Reads w A (i64s l)) (hne : 0 < l.length) : ∃ g off, A = some ⟨g, off, none⟩ ∧ ∀ j (hj : j < l.length), w.cell? ⟨g, off + j, none⟩ = some (.int .i64 (l[j] : Int)) := by
  obtain ⟨g, off, e, hc⟩ := h (by intro e; have := congrArg List.length e; rw [i64s_length, List.length_nil] at this; omega)
  exact ⟨g, off, e, fun j hj => by rw [hc j (by rw [i64s_length]; exact hj), i64s_get? l j hj]⟩
theorem own_not {w : World} {base q n : Nat} {t : TypeId} {v : Value} {xs cs : List Value} (h : w.ownsRow base 3 1 v n xs) (hr : Row w q t cs) (ht : t ≠ 3) : v.ownBlock ≠ some q := by
  intro e
  rcases h.2 with ⟨rfl, _⟩ | ⟨g, cap, cur, rfl, _, hg, _⟩
  · simp [Value.ownBlock] at e
  · simp only [Value.ownBlock, Option.some.injEq] at e
    subst e
    unfold Row at hr
    rw [hr] at hg
    simp only [Option.some.injEq, Obj.cells.injEq] at hg
    exact ht hg.2.1

end Go.Proofs.Ytjcehdibklndkaa
