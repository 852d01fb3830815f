/-
  General lemmas over any program: what the call owns, as a slice that reads; or of words. No condition.
-/
import Derived.Test.YtnaocegcnckhmaaMg
import Derived.Lib.Hide
import Derived.Lib.BitFns
import Derived.BigQuiet
import Derived.Deep.QuietTactic
import Derived.RegionTactic
import Derived.BigRegion
namespace Go.Proofs.Ytnaocegcnckhmaa
open Go.RowKit

theorem u64_wrap (n : Nat) (h : n < 2 ^ 64) : IntKind.u64.wrap (n : Int) = (n : Int) := by
  have : IntKind.u64.wrap (n : Int) = (n : Int) % 18446744073709551616 := by simp [IntKind.wrap, IntKind.bits, IntKind.signed]
  rw [this]; omega
theorem or_val (rest x a : Nat) (hr : rest < 2 ^ 64) : bits .or .u64 (rest : Int) (IntKind.u64.wrap ((x : Int) * 2 ^ a)) = ((rest ||| x * 2 ^ a % 2 ^ 64 : Nat) : Int) := by
  have e : (x : Int) * 2 ^ a = ((x * 2 ^ a : Nat) : Int) := by simp
  have e2 : IntKind.u64.wrap ((x * 2 ^ a : Nat) : Int) = ((x * 2 ^ a % 2 ^ 64 : Nat) : Int) := by
    have : IntKind.u64.wrap ((x * 2 ^ a : Nat) : Int) = ((x * 2 ^ a : Nat) : Int) % 18446744073709551616 := by simp [IntKind.wrap, IntKind.bits, IntKind.signed]
    rw [this]; omega
  rw [e, e2, u64_or_nat _ _ hr (by exact Nat.mod_lt _ (by decide))]
theorem modpow (v m : Nat) : (v : Int) % 2 ^ m = ((v % 2 ^ m : Nat) : Int) := by simp
theorem reads_u8 {w : World} {A : Option Addr} {l : List Nat} (h : Reads w A (u8s l)) (hne : l ≠ []) : ∃ g off, A = some ⟨g, off, none⟩ ∧ ∀ j (hj : j < l.length), w.cell? ⟨g, off + j, none⟩ = some (.int .u8 (l[j] : Int)) := by
  obtain ⟨g, off, e, hc⟩ := h (by simpa [u8s] using hne)
  exact ⟨g, off, e, fun j hj => by rw [hc j (by simpa [u8s] using hj), u8s_get? l j hj]⟩
/-- A byte more of the reference's Bytes. -/
theorem own_form {w : World} {base : Nat} {e : TypeId} {v : Value} {n : Nat} {xs : List Value} (h : w.ownsRow base e 1 v n xs) (hn : 0 < n) : ∃ g cap, v = .slice (some ⟨g, 0, none⟩) n cap ∧ base ≤ g ∧ g < w.heap.size := by
  rcases h.2 with ⟨_, h0⟩ | ⟨g, cap, cur, hv, hb, hh, _⟩
  · omega
  · refine ⟨g, cap, hv, hb, ?_⟩
    rcases Nat.lt_or_ge g w.heap.size with h1 | h1
    · exact h1
    · rw [Array.getElem?_eq_none h1] at hh; cases hh
theorem own_below {w w' : World} {base : Nat} {e : TypeId} {v : Value} {n : Nat} {xs : List Value} (h : w.ownsRow base e 1 v n xs) (hb : Below w.heap.size w w') : w'.ownsRow base e 1 v n xs :=
  h.kept (row := none) (grown_below hb none) (by cases v.ownBlock <;> simp)
theorem add_zero_off (g j : Nat) : ((⟨g, 0, none⟩ : Addr).add j) = ⟨g, j, none⟩ := by
  unfold Addr.add; split <;> simp_all
/-- A list that the call owns, as one that reads. -/
theorem own_reads {w : World} {base : Nat} {e : TypeId} {v : Value} {n : Nat} {xs : List Value} (h : w.ownsRow base e 1 v n xs) : ∃ A c, v = .slice A n c ∧ Reads w A xs ∧ (∀ a, A = some a → base ≤ a.block ∧ a.block < w.heap.size ∧ ∃ cs fz, w.heap[a.block]? = some (.cells cs e fz)) := by
  rcases Nat.eq_zero_or_pos n with h0 | h0
  · subst h0
    have hl : xs = [] := List.eq_nil_of_length_eq_zero (by simpa using h.1)
    subst hl
    rcases h.2 with ⟨hv, _⟩ | ⟨g, cap, cur, hv, hb, hh, _⟩
    · exact ⟨none, 0, hv, fun h => absurd rfl h, fun a e => by cases e⟩
    · refine ⟨some ⟨g, 0, none⟩, cap, hv, fun h => absurd rfl h, fun a e => ?_⟩
      injection e with e
      subst e
      refine ⟨hb, ?_, _, _, hh⟩
      rcases Nat.lt_or_ge g w.heap.size with h1 | h1
      · exact h1
      · rw [Array.getElem?_eq_none h1] at hh; cases hh
  · rcases h.2 with ⟨_, h1⟩ | ⟨g, cap, cur, hv, hb, hh, h3⟩
    · omega
    · refine ⟨some ⟨g, 0, none⟩, cap, hv, fun _ => ⟨g, 0, rfl, fun j hj => ?_⟩, fun a e => ?_⟩
      · have hc := h.cells (g := g) (by rw [hv]; rfl) j (xs[j]) (List.getElem?_eq_getElem hj)
        rw [add_zero_off] at hc
        rw [Nat.zero_add, hc, List.getElem?_eq_getElem hj]
      · injection e with e
        subst e
        refine ⟨hb, ?_, _, _, hh⟩
        rcases Nat.lt_or_ge g w.heap.size with h1 | h1
        · exact h1
        · rw [Array.getElem?_eq_none h1] at hh; cases hh
theorem byte_val (v k : Nat) : (v : Int) / 2 ^ (8 * k) % 256 = ((v / 256 ^ k % 256 : Nat) : Int) := by rw [Bm.p256]; simp
theorem below_of_grown {w w' : World} (h : w.grownBy w' none) : Below w.heap.size w w' := ⟨h.os, h.tape, h.output, h.size, fun k hk => h.block k hk (by simp)⟩
theorem row_reads {w : World} {g : Nat} {t : TypeId} {cs : List Value} (h : Row w g t cs) : Reads w (some ⟨g, 0, none⟩) cs := fun _ => ⟨g, 0, rfl, fun j _ => by rw [Nat.zero_add]; exact h.cell j⟩
theorem reads_below {w W : World} {A : Option Addr} {xs : List Value} (h : Reads w A xs) (hb : Below w.heap.size w W) (hA : ∀ a, A = some a → a.block < w.heap.size) : Reads W A xs := fun hne => by
  obtain ⟨g, off, e, hc⟩ := h hne
  have hg : g < w.heap.size := hA _ e
  exact ⟨g, off, e, fun j hj => (hb.cell (p := ⟨g, off + j, none⟩) hg).trans (hc j hj)⟩
theorem own_cap {w : World} {base g n cap : Nat} {e : TypeId} {xs : List Value} (h : w.ownsRow base e 1 (.slice (some ⟨g, 0, none⟩) n cap) n xs) : n ≤ cap ∧ cap ≤ maxLen := by
  rcases h.2 with ⟨hv, _⟩ | ⟨g', cap', cur, hv, hb, hh, h1, h2, _⟩
  · cases hv
  · injection hv with _ _ e3
    subst e3
    exact ⟨h1, h2⟩
/-- A slice that the call owns and that isn't nil: its place, and what it reads as. -/
theorem own_place {w : World} {base g n cap : Nat} {e : TypeId} {xs : List Value} (h : w.ownsRow base e 1 (.slice (some ⟨g, 0, none⟩) n cap) n xs) : base ≤ g ∧ g < w.heap.size ∧ n ≤ cap ∧ cap ≤ maxLen ∧ Reads w (some ⟨g, 0, none⟩) xs := by
  obtain ⟨A, c', e, h1, h2⟩ := own_reads h
  injection e with e1 e2 e3
  subst e1
  obtain ⟨h3, h4, _⟩ := h2 _ rfl
  exact ⟨h3, h4, (own_cap h).1, (own_cap h).2, h1⟩
theorem own_low {w : World} {base base' n : Nat} {v : Value} {e : TypeId} {xs : List Value} (h : w.ownsRow base e 1 v n xs) (hb : base' ≤ base) : w.ownsRow base' e 1 v n xs :=
  ⟨h.1, h.2.imp id (fun ⟨g, cap, cur, a, b, c⟩ => ⟨g, cap, cur, a, Nat.le_trans hb b, c⟩)⟩
theorem reads_alloc {w : World} {g : Nat} {xs : List Value} (h : Reads w (some ⟨g, 0, none⟩) xs) (hg : g < w.heap.size) (o : Obj) : Reads (w.alloc o) (some ⟨g, 0, none⟩) xs := fun hne => by
  obtain ⟨g', off, e, hc⟩ := h hne
  injection e with e
  injection e with e1 e2
  subst e1 e2
  exact ⟨_, _, rfl, fun j hj => by rw [World.cell?_alloc_lt _ _ _ (by exact hg)]; exact hc j hj⟩
theorem reads_news {w : World} {g off : Nat} {xs : List Value} (h : Reads w (some ⟨g, off, none⟩) xs) : ∀ j u, xs[j]? = some u → w.cell? ((⟨g, off, none⟩ : Addr).add j) = some u := by
  intro j u hj
  have hjl : j < xs.length := by
    rcases Nat.lt_or_ge j xs.length with h1 | h1
    · exact h1
    · rw [List.getElem?_eq_none h1] at hj; cases hj
  obtain ⟨g', off', e, hc⟩ := h (by intro e; rw [e] at hjl; simp at hjl)
  injection e with e
  injection e with e1 e2
  subst e1 e2
  have e : ((⟨g, off, none⟩ : Addr).add j) = ⟨g, off + j, none⟩ := by unfold Addr.add; split <;> simp_all
  rw [e, hc j hjl, hj]
end Go.Proofs.Ytnaocegcnckhmaa
