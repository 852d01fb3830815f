/-
  Layer 6 (spread): what the program's calls answer is what the laws' walks ask for. No condition.
-/
import Derived.Test.YthaahijapkolkaaTx
import Derived.Test.YthaahijapkolkaaTw
import Derived.Test.YthaahijapkolkaaTz
import Derived.Test.YthaahijapkolkaaTo
namespace Go.Proofs.Ythaahijapkolkaa
open Go.RowKit
theorem tab_build (A : Option Addr) (c : Nat) (l : List Int) (log : Int) (w : World) (hl : l.length ≤ 1000000) (hok : ∀ x ∈ l, Bm.IntOk x) (hlog : Bm.IntOk log) (hr : Reads w A (i64z l)) (hf : Bm.Fair l log) :
    Calls Try.prog 7 #[.slice A l.length c, .int .i64 log] w fun e w' => ∃ p, e = .returned (.tuple #[.pointer (some p), .bool true]) ∧ STab w' p (l.map Int.toNat) log.toNat ∧ Below w.heap.size w w' := by
  have h1 := nfair_any A c l log w hl hok hlog hr
  rw [show Bm.fairB l log = true from decide_eq_true hf] at h1
  have hls : i64s (l.map Int.toNat) = i64z l := by rw [← i64z_nat, Bm.fair_map l log hf]
  have hl9 : (log.toNat : Int) = log := by have := hf.1; omega
  have h2 := tbuild_fair A c (l.map Int.toNat) log.toNat w (Bm.fair_n l log hf) (by rw [hls]; exact hr) (by rw [hl9, List.length_map]; exact h1)
  rw [hl9, List.length_map] at h2
  exact h2
theorem tab_is : TabOk STab where
  keep := fun w W p ls log h hb => stab_keep w W p ls log h hb
  build := tab_build
  noBuild := tbuild_no
  cell := fun w p ls log st hf h _ => tcell_any w p ls log st hf h
  cellNil := fun w st _ => tcell_nil w st
  size := fun w p ls log _ h => (tsize_any w p ls log h).mono fun e w' ⟨he, hw⟩ => ⟨he, 0, by subst hw; rfl⟩
  sizeNil := fun w => (tsize_nil w).mono fun e w' ⟨he, hw⟩ => ⟨he, 0, by subst hw; rfl⟩
  logOf := fun w p ls log _ h => (tlog_any w p ls log h).mono fun e w' ⟨he, hw⟩ => ⟨he, 0, by subst hw; rfl⟩
  logNil := fun w => (tlog_nil w).mono fun e w' ⟨he, hw⟩ => ⟨he, 0, by subst hw; rfl⟩
  next := fun w p ls log st more hf h _ _ => tnext_any w p ls log st more hf h
  back := fun w p ls log st s hf h _ hs => tback_any w p ls log st s hf h hs
end Go.Proofs.Ythaahijapkolkaa
