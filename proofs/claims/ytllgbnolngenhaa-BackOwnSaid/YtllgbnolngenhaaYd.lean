/-
  Layer 2 (back): Open of sealed bytes, Seal, each by its walk. Conditions: as each theorem's premises say (up to a hundred million bytes).
-/
import Derived.Test.YtllgbnolngenhaaYc
namespace Go.Proofs.Ytllgbnolngenhaa
open Go.RowKit

theorem own_cap {w : World} {base g n cap : Nat} {e : TypeId} {xs : List Value} (h : w.ownsRow base e 1 (.slice (some ⟨g, 0, none⟩) n cap) n xs) : n ≤ cap ∧ cap ≤ maxLen := by
  rcases h.2 with ⟨hv, _⟩ | ⟨g', cap', cur, hv, hb, hh, h1, h2, _⟩
  · cases hv
  · injection hv with _ _ e3
    subst e3
    exact ⟨h1, h2⟩
/-- A slice that the call owns and that isn't nil: its place, and what it reads as. -/
theorem own_place {w : World} {base g n cap : Nat} {e : TypeId} {xs : List Value} (h : w.ownsRow base e 1 (.slice (some ⟨g, 0, none⟩) n cap) n xs) : base ≤ g ∧ g < w.heap.size ∧ n ≤ cap ∧ cap ≤ maxLen ∧ Reads w (some ⟨g, 0, none⟩) xs := by
  obtain ⟨A, c', e, h1, h2⟩ := own_reads h
  injection e with e1 e2 e3
  subst e1
  obtain ⟨h3, h4, _⟩ := h2 _ rfl
  exact ⟨h3, h4, (own_cap h).1, (own_cap h).2, h1⟩
theorem own_low {w : World} {base base' n : Nat} {v : Value} {e : TypeId} {xs : List Value} (h : w.ownsRow base e 1 v n xs) (hb : base' ≤ base) : w.ownsRow base' e 1 v n xs :=
  ⟨h.1, h.2.imp id (fun ⟨g, cap, cur, a, b, c⟩ => ⟨g, cap, cur, a, Nat.le_trans hb b, c⟩)⟩
theorem reads_alloc {w : World} {g : Nat} {xs : List Value} (h : Reads w (some ⟨g, 0, none⟩) xs) (hg : g < w.heap.size) (o : Obj) : Reads (w.alloc o) (some ⟨g, 0, none⟩) xs := fun hne => by
  obtain ⟨g', off, e, hc⟩ := h hne
  injection e with e
  injection e with e1 e2
  subst e1 e2
  exact ⟨_, _, rfl, fun j hj => by rw [World.cell?_alloc_lt _ _ _ (by exact hg)]; exact hc j hj⟩
/-- The new Reader. -/
theorem ts_new {w w2 : World} {g cap q left : Nat} {bs : List Nat} (hown : w2.ownsRow w.heap.size 5 1 (.slice (some ⟨g, 0, none⟩) q cap) q (u8s bs)) (hl : bs.length = q) (hg : w.heap.size ≤ g) (hg2 : g < w2.heap.size) (hs : w.heap.size ≤ w2.heap.size) (t : TypeId) :
    TS (w2.alloc (.cells #[.slice (some ⟨g, 0, none⟩) q cap, .int .i64 (left : Int)] t)) w.heap.size w2.heap.size bs left := by
  have hrow : Row (w2.alloc (.cells #[.slice (some ⟨g, 0, none⟩) q cap, .int .i64 (left : Int)] t)) w2.heap.size t [.slice (some ⟨g, 0, none⟩) q cap, .int .i64 (left : Int)] := Row.new w2 t _
  have hrd : Reads w2 (some ⟨g, 0, none⟩) (u8s bs) := by
    obtain ⟨A, c', e, h, _⟩ := own_reads hown
    injection e with e1 e2 e3
    subst e1
    exact h
  obtain ⟨hc1, hc2⟩ := own_cap hown
  subst hl
  exact ⟨g, cap, hrow.cell 0, hrow.cell 1, hrow.free 1, hs, hrow.lt, hg, by simp; omega, by omega, hc1, hc2, reads_alloc hrd hg2 _⟩

set_option maxHeartbeats 1000000 in
theorem open_some (g off q c : Nat) (bs : List Nat) (x : Nat) (w : World) (hq : q ≤ 10000000) (hx : x < 256) (hx0 : x ≠ 0) (hl : bs.length = q + 1) (hlast : bs[q]'(by omega) = x)
    (hrd : Reads w (some ⟨g, off, none⟩) (u8s bs)) (hg : g < w.heap.size) :
    Calls Try.prog 10 #[.slice (some ⟨g, off, none⟩) (q + 1) c] w fun e w' => ∃ b, e = .returned (.tuple #[.pointer (some ⟨b, 0, none⟩), .bool true]) ∧
      TS w' w.heap.size b bs (8 * q + (Lib.bitLen x - 1)) ∧ Below w.heap.size w w' := by
  obtain ⟨h1, h8, _, _⟩ := Bm.bitLen_fin ⟨x, hx⟩ hx0
  simp only at h1 h8
  have hc : w.cell? ⟨g, off + q, none⟩ = some (.int .u8 (x : Int)) := by
    obtain ⟨g', off', e, hc⟩ := reads_u8 hrd (by intro e; rw [e] at hl; simp at hl)
    injection e with e
    injection e with e1 e2
    subst e1 e2
    rw [hc q (by omega), hlast]
  have hcl := clone_some g off (q + 1) c bs w (by omega) (by omega) hl hrd hg
  have hwd := width_any x w (by omega)
  have hxz : ((x : Int) == 0) = false := by simp; omega
  have Hcl := Lib.hid hcl
  have Hl := Lib.hid hl
  have Hwd := Lib.hid hwd
  clear hcl hl hwd hrd hlast hx0
  generalize Lib.bitLen x = L at h1 h8 Hwd
  obtain ⟨left, hleft⟩ : ∃ l, l = 8 * q + (L - 1) := ⟨_, rfl⟩
  have hs : 8 * (q : Int) + ((L : Int) - 1) = (left : Int) := by omega
  have Hs := Lib.hid hs
  have Hleft := Lib.hid hleft
  clear hs hleft
  go_enter Try.func10, Try.ntmps10
  go_wp2_with fail
  refine Hwd.out.mono ?_
  rintro e w1 ⟨rfl, rfl⟩
  go_wp2_with fail
  refine Hcl.out.mono ?_
  rintro e w2 ⟨u, rfl, hown, hb2⟩
  obtain ⟨g2, cap2, hu, hg2, hg2l⟩ := own_form hown (by omega)
  rw [hu] at hown ⊢
  have hts := ts_new (left := left) hown Hl.out hg2 hg2l hb2.size 60
  have Hts := Lib.hid hts
  have Hb2 := Lib.hid hb2
  clear hts hb2 hown hu Hcl Hwd
  go_wp2
  go_ret2
  rw [Hs.out, ← Hleft.out]
  exact ⟨_, rfl, Hts.out, Hb2.out.alloc Hb2.out.size _⟩
end Go.Proofs.Ytllgbnolngenhaa
