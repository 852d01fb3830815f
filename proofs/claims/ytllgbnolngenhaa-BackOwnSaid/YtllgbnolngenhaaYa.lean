/-
  Layer 2 (back): a Reader from the end in memory; Left, Take, each by its walk. Conditions: as each theorem's premises say (up to a hundred million bytes).
-/
import Derived.Test.YtllgbnolngenhaaWj
import Derived.Test.YtllgbnolngenhaaBk
namespace Go.Proofs.Ytllgbnolngenhaa
open Go.RowKit

/-- A Reader from the end at block b reads these bytes, of whose bits so many are left; it, and its bytes, lie from block B on. -/
def TS (w : World) (B b : Nat) (bs : List Nat) (left : Nat) : Prop := ∃ g cap,
  w.cell? ⟨b, 0, none⟩ = some (.slice (some ⟨g, 0, none⟩) bs.length cap) ∧ w.cell? ⟨b, 1, none⟩ = some (.int .i64 (left : Int)) ∧ w.frozen? ⟨b, 1, none⟩ = false ∧
  B ≤ b ∧ b < w.heap.size ∧ B ≤ g ∧ g < w.heap.size ∧ g ≠ b ∧ bs.length ≤ cap ∧ cap ≤ maxLen ∧ Reads w (some ⟨g, 0, none⟩) (u8s bs)
theorem TS.keep {w w' : World} {B b left : Nat} {bs : List Nat} {row : Option Nat} (h : TS w B b bs left) (hg : w.grownBy w' row) (hr : ∀ r, row = some r → r < B) : TS w' B b bs left := by
  obtain ⟨g, cap, h0, h1, h2, h3, h4, h5, h6, h7, h8, h9, h10⟩ := h
  have hl := hg.block b h4 (fun e => by have := hr b e.symm; omega)
  have hl2 := hg.block g h6 (fun e => by have := hr g e.symm; omega)
  refine ⟨g, cap, (World.cell?_of_block hl).trans h0, (World.cell?_of_block hl).trans h1, (World.frozen?_of_block hl).trans h2, h3, Nat.lt_of_lt_of_le h4 hg.size, h5, Nat.lt_of_lt_of_le h6 hg.size, h7, h8, h9, fun hne => ?_⟩
  obtain ⟨g', off, e, hc⟩ := h10 hne
  injection e with e
  injection e with e1 e2
  subst e1 e2
  exact ⟨_, _, rfl, fun j hj => (World.cell?_of_block (a := ⟨g, 0 + j, none⟩) hl2).trans (hc j hj)⟩
theorem TS.drewN {w : World} {B b left : Nat} {bs : List Nat} (h : TS w B b bs left) (k : Nat) : TS (w.drewN k) B b bs left := h.keep (row := none) (grown_drewN (grown_refl _ _) k) (by simp)
theorem TS.drew {w : World} {B b left : Nat} {bs : List Nat} (h : TS w B b bs left) : TS w.drew B b bs left := h.keep (row := none) (grown_drew (grown_refl _ _)) (by simp)
theorem TS.low {w : World} {B B' b left : Nat} {bs : List Nat} (h : TS w B b bs left) (hB : B' ≤ B) : TS w B' b bs left := by
  obtain ⟨g, cap, h0, h1, h2, h3, h4, h5, h6, h7, h8, h9, h10⟩ := h
  exact ⟨g, cap, h0, h1, h2, by omega, h4, by omega, h6, h7, h8, h9, h10⟩
theorem reads_set {w : World} {g b i : Nat} {xs : List Value} {u : Value} (h : Reads w (some ⟨g, 0, none⟩) xs) (hne : g ≠ b) : Reads (w.setCell ⟨b, i, none⟩ u) (some ⟨g, 0, none⟩) xs := fun hx => by
  obtain ⟨g', off, e, hc⟩ := h hx
  injection e with e
  injection e with e1 e2
  subst e1 e2
  exact ⟨_, _, rfl, fun j hj => by rw [World.cell?_setCell_other _ _ _ _ (by intro e; injection e with e _ _; exact hne e.symm)]; exact hc j hj⟩
/-- Fewer are left. -/
theorem TS.step {w : World} {B b left : Nat} {bs : List Nat} (h : TS w B b bs left) (left' : Nat) : TS (w.setCell ⟨b, 1, none⟩ (.int .i64 (left' : Int))) B b bs left' := by
  obtain ⟨g, cap, h0, h1, h2, h3, h4, h5, h6, h7, h8, h9, h10⟩ := h
  refine ⟨g, cap, ?_, World.cell?_setCell_same _ _ _ h1, by simpa using h2, h3, by simpa using h4, h5, by simpa using h6, h7, h8, h9, reads_set h10 h7⟩
  rw [World.cell?_setCell_other _ _ _ _ (by intro e; injection e with _ e _; omega)]; exact h0

set_option maxHeartbeats 400000 in
theorem bleft_nil (w : World) : Calls Try.prog 12 #[.pointer none] w fun e w' => e = .returned (.int .i64 0) ∧ w = w' := by
  go_enter Try.func12, Try.ntmps12
  go_wp2
  go_ret
  exact ⟨rfl, rfl⟩
set_option maxHeartbeats 400000 in
theorem bleft_core (b : Nat) (n : Int) (w : World) (h : w.cell? ⟨b, 1, none⟩ = some (.int .i64 n)) :
    Calls Try.prog 12 #[.pointer (some ⟨b, 0, none⟩)] w fun e w' => e = .returned (.int .i64 n) ∧ w = w' := by
  go_enter Try.func12, Try.ntmps12
  go_wp2
  go_ret
  exact ⟨rfl, rfl⟩
theorem bleft_any (B b left : Nat) (bs : List Nat) (w : World) (h : TS w B b bs left) :
    Calls Try.prog 12 #[.pointer (some ⟨b, 0, none⟩)] w fun e w' => e = .returned (.int .i64 (left : Int)) ∧ w = w' := by
  obtain ⟨g, cap, _, h1, _⟩ := h
  exact bleft_core b _ w h1

set_option maxHeartbeats 400000 in
theorem btk_nil (w : World) (n : Int) : Calls Try.prog 14 #[.pointer none, .int .i64 n] w fun e w' => e = .returned (.tuple #[.int .u32 0, .bool false]) ∧ w = w' := by
  go_enter Try.func14, Try.ntmps14
  go_wp2
  go_ret2
  exact ⟨rfl, rfl⟩
set_option maxHeartbeats 400000 in
theorem btk_bad (a : Addr) (m : Int) (w : World) (h : m < 0 ∨ 32 < m) :
    Calls Try.prog 14 #[.pointer (some a), .int .i64 m] w fun e w' => e = .returned (.tuple #[.int .u32 0, .bool false]) ∧ w = w' := by
  rcases h with h | h
  · go_enter Try.func14, Try.ntmps14
    go_wp2
    go_ret2
    exact ⟨rfl, rfl⟩
  · go_enter Try.func14, Try.ntmps14
    go_wp2
    go_ret2
    exact ⟨rfl, rfl⟩
set_option maxHeartbeats 400000 in
theorem btk_few (B b left : Nat) (bs : List Nat) (m : Nat) (w : World) (hm : m ≤ 32) (hfew : left < m) (h : TS w B b bs left) :
    Calls Try.prog 14 #[.pointer (some ⟨b, 0, none⟩), .int .i64 (m : Int)] w fun e w' => e = .returned (.tuple #[.int .u32 0, .bool false]) ∧ w = w' := by
  obtain ⟨g, cap, _, h1, _⟩ := h
  have hlt : (left : Int) < (m : Int) := by omega
  go_enter Try.func14, Try.ntmps14
  go_wp2
  go_ret2
  exact ⟨rfl, rfl⟩

theorem slice_mid (g L c f t : Nat) (W : World) (hf : f < t) (ht : t ≤ L) (hc : L ≤ c) :
    (Instr.slice 34 (.slice (some ⟨g, 0, none⟩) L c) (some (.int .i64 (f : Int))) (some (.int .i64 (t : Int))) none).run Try.prog W = .ok (.slice (some ⟨g, f, none⟩) (t - f) (c - f)) W := by
  have h1 : ¬ c = f := by omega
  have h2 : f ≤ t := by omega
  have h3 : t ≤ c := by omega
  have h4 : f ≤ c := by omega
  go_simp
theorem reads_mid {w : World} {g f t : Nat} {bs : List Nat} (h : Reads w (some ⟨g, 0, none⟩) (u8s bs)) (hf : f < t) (ht : t ≤ bs.length) : Reads w (some ⟨g, f, none⟩) (u8s ((bs.drop f).take (t - f))) := fun _ => by
  obtain ⟨g', off, e, hc⟩ := h (by intro e; have := u8s_length bs; rw [e] at this; simp at this; omega)
  injection e with e
  injection e with e1 e2
  subst e1 e2
  refine ⟨g, f, rfl, fun j hj => ?_⟩
  have hj' : j < t - f := by simp [u8s] at hj; omega
  have hc2 := hc (f + j) (by rw [u8s_length]; omega)
  rw [Nat.zero_add] at hc2
  have hl : j < ((bs.drop f).take (t - f)).length := by simp; omega
  rw [hc2, u8s_get? bs (f + j) (by omega), u8s_get? _ j hl]
  simp
end Go.Proofs.Ytllgbnolngenhaa
