/-
  Layer 6 (spread): a slice of table cells (Symbol, Bits, Base) in memory; the reference's Back, by its walk. Conditions: as each theorem's premises say.
-/
import Derived.Test.YthaahijapkolkaaNr
import Derived.Test.YthaahijapkolkaaTm
import Derived.BigQuiet
import Derived.WalkSmall
import Derived.Deep.QuietTactic
namespace Go.Proofs.Ythaahijapkolkaa
open Go.RowKit

/-- A cell of a table: its symbol, its bits, its base. -/
abbrev Cel := Nat × Nat × Nat
def cel3 (t : Cel) : List Value := [.int .u8 (t.1 : Int), .int .i64 (t.2.1 : Int), .int .i64 (t.2.2 : Int)]
/-- The memory's cells of a list of them. -/
def c3 : List Cel → List Value
  | [] => []
  | t :: l => cel3 t ++ c3 l
theorem c3_length (l : List Cel) : (c3 l).length = l.length * 3 := by
  induction l with
  | nil => rfl
  | cons t l ih => rw [c3, List.length_append, ih, List.length_cons]; simp [cel3]; omega
theorem c3_get (l : List Cel) (i : Nat) (h : i < l.length) : (c3 l)[i * 3]? = some (.int .u8 (l[i].1 : Int)) ∧ (c3 l)[i * 3 + 1]? = some (.int .i64 (l[i].2.1 : Int)) ∧ (c3 l)[i * 3 + 2]? = some (.int .i64 (l[i].2.2 : Int)) := by
  induction l generalizing i with
  | nil => simp at h
  | cons t l ih =>
    cases i with
    | zero => exact ⟨rfl, rfl, rfl⟩
    | succ i =>
      have h1 := ih i (by simpa using h)
      rw [c3]
      have e : ∀ j, (cel3 t ++ c3 l)[(i + 1) * 3 + j]? = (c3 l)[i * 3 + j]? := fun j => by
        rw [List.getElem?_append_right (by simp [cel3]; omega)]
        congr 1
        simp [cel3]; omega
      have e0 := e 0
      rw [Nat.add_zero, Nat.add_zero] at e0
      rw [e0, e 1, e 2]
      exact h1
theorem c3_set (l : List Cel) (i : Nat) (h : i < l.length) (s b z : Nat) :
    (c3 l).set (i * 3) (.int .u8 (s : Int)) = c3 (l.set i (s, l[i].2)) ∧ (c3 l).set (i * 3 + 1) (.int .i64 (b : Int)) = c3 (l.set i (l[i].1, b, l[i].2.2)) ∧ (c3 l).set (i * 3 + 2) (.int .i64 (z : Int)) = c3 (l.set i (l[i].1, l[i].2.1, z)) := by
  induction l generalizing i with
  | nil => simp at h
  | cons t l ih =>
    cases i with
    | zero => exact ⟨rfl, rfl, rfl⟩
    | succ i =>
      have h1 := ih i (by simpa using h)
      have e : ∀ j v, (cel3 t ++ c3 l).set ((i + 1) * 3 + j) v = cel3 t ++ (c3 l).set (i * 3 + j) v := fun j v => by
        rw [List.set_append_right _ _ (by simp [cel3]; omega)]
        congr 2
        simp [cel3]; omega
      have e0 := fun v => e 0 v
      simp only [Nat.add_zero] at e0
      simp only [c3, e0, e 1, e 2, List.set_cons_succ, List.getElem_cons_succ]
      exact ⟨by rw [h1.1], by rw [h1.2.1], by rw [h1.2.2]⟩
theorem reads_c3 {w : World} {A : Option Addr} {l : List Cel} (h : Reads w A (c3 l)) (hne : 0 < l.length) : ∃ g off, A = some ⟨g, off, none⟩ ∧ ∀ j (hj : j < l.length), w.cell? ⟨g, off + j * 3, none⟩ = some (.int .u8 (l[j].1 : Int)) ∧ w.cell? ⟨g, off + j * 3 + 1, none⟩ = some (.int .i64 (l[j].2.1 : Int)) ∧ w.cell? ⟨g, off + j * 3 + 2, none⟩ = some (.int .i64 (l[j].2.2 : Int)) := by
  have hne' : c3 l ≠ [] := fun e => by
    have h1 := congrArg List.length e
    rw [c3_length, List.length_nil] at h1
    omega
  obtain ⟨g, off, e, hc⟩ := h hne'
  refine ⟨g, off, e, fun j hj => ?_⟩
  obtain ⟨h0, h1, h2⟩ := c3_get l j hj
  have hl := c3_length l
  have k0 := hc (j * 3) (by omega)
  have k1 := hc (j * 3 + 1) (by omega)
  have k2 := hc (j * 3 + 2) (by omega)
  rw [h0] at k0
  rw [h1, ← Nat.add_assoc] at k1
  rw [h2, ← Nat.add_assoc] at k2
  exact ⟨k0, k1, k2⟩
/-- Does a cell have this symbol, and lead to this state? -/
def Leads (st : Int) (s : Nat) (t : Cel) : Prop := t.1 = s ∧ (t.2.2 : Int) ≤ st ∧ st < (t.2.2 : Int) + ((2 ^ t.2.1 : Nat) : Int)
/-- What Back answers of a place. -/
def backV (l : List Cel) (st : Int) : Option Nat → Value
  | none => .tuple #[.int .i64 0, .int .i64 0, .bool false]
  | some p => .tuple #[.int .i64 (p : Int), .int .i64 (st - ((l[p]?.getD (0, 0, 0)).2.2 : Int)), .bool true]

theorem quiet_left6 {P : Program} {f : FuncId} {args : Array Value} {w : World} {n : Nat} {v : Value}
    (h : Calls P f args (w.drewN n) fun e w' => e = .returned v ∧ w.drewN n = w') : Calls P f args (w.drewN n) fun e w'' => e = .returned v ∧ ∃ m, w'' = w.drewN m :=
  h.mono fun _ _ ⟨he, hm⟩ => ⟨he, n, hm.symm⟩
set_option maxHeartbeats 1000000 in
set_option maxRecDepth 100000 in
theorem jback_any (A : Option Addr) (c : Nat) (l : List Cel) (st : Int) (s : Nat) (r : Option Nat) (w : World) (hl : l.length ≤ 1000000) (hb : ∀ t ∈ l, t.1 < 256 ∧ t.2.1 ≤ 20 ∧ t.2.2 ≤ 1000000000) (hst : Bm.IntOk st) (hr : Reads w A (c3 l))
    (hsome : ∀ p (hp : p < l.length), Leads st s l[p] → (∀ j (hj : j < p), ¬ Leads st s (l[j]'(by omega))) → r = some p) (hnone : (∀ j (hj : j < l.length), ¬ Leads st s l[j]) → r = none) :
    Calls Try.prog 14 #[.slice A l.length c, .int .i64 st, .int .u8 (s : Int)] w fun e w' => e = .returned (backV l st r) ∧ Below w.heap.size w w' := by
  have Hr := Lib.hid hr
  have Hb := Lib.hid hb
  have Hsome := Lib.hid hsome
  have Hnone := Lib.hid hnone
  obtain ⟨h0, h1⟩ := hst
  clear hr hb hsome hnone
  go_enter Try.func14, Try.ntmps14
  go_wp2
  go_loopw [6, 7, 8, 9, 10] (fun _ _ _ i _ wr => ∃ k : Nat, k ≤ l.length ∧ i = .int .i64 (k : Int) ∧ Hid (∀ j (hj : j < k) (hjl : j < l.length), ¬ Leads st s l[j]) ∧ Hid (Below w.heap.size w wr)) (fun _ _ _ i _ _ => l.length - (intOf i).toNat)
  case atStart => exact ⟨0, by omega, rfl, Lib.hid (fun j hj => by omega), Lib.hid (Below.refl _ _)⟩
  case round =>
    obtain ⟨k, hk, rfl, hno, hbel⟩ := hrel
    by_cases hkl : k < l.length
    · obtain ⟨g, off, rfl, hc⟩ := reads_c3 (reads_on Hr.out hbel.out) (by omega)
      obtain ⟨c0, c1, c2⟩ := hc k hkl
      obtain ⟨b0, b1, b2⟩ := Hb.out l[k] (List.getElem_mem hkl)
      have hld : Leads st s l[k] ↔ (l[k].1 = s ∧ (l[k].2.2 : Int) ≤ st ∧ st < (l[k].2.2 : Int) + ((2 ^ l[k].2.1 : Nat) : Int)) := Iff.rfl
      have hms : 2 ^ l[k].2.1 ≤ 1048576 := by
        have h2 : 2 ^ l[k].2.1 ≤ 2 ^ 20 := Nat.pow_le_pow_right (by omega) b1
        have h3 : (2 : Nat) ^ 20 = 1048576 := by decide
        omega
      have hsz : ∀ W, Calls Try.prog 16 #[.int .i64 (l[k].2.1 : Int)] W fun e w' => e = .returned (.int .i64 ((2 ^ l[k].2.1 : Nat) : Int)) ∧ W = w' := fun W => hsize_any _ W (by omega)
      have hnx : ¬ Leads st s l[k] → ∀ j (hj : j < k + 1) (hjl : j < l.length), ¬ Leads st s l[j] := fun h2 j hj hjl => by
        by_cases e : j = k
        · subst e; exact h2
        · exact hno.out j (by omega) hjl
      have hfd : Leads st s l[k] → r = some k := fun h2 => Hsome.out k hkl h2 (fun j hj => hno.out j hj (by omega))
      have hbk : backV l st (some k) = .tuple #[.int .i64 (k : Int), .int .i64 (st - (l[k].2.2 : Int)), .bool true] := by simp [backV, hkl]
      have Hsz := Lib.hid hsz
      have Hnx := Lib.hid hnx
      have Hfd := Lib.hid hfd
      have Hld := Lib.hid hld
      have Hbk := Lib.hid hbk
      clear hc hsz hnx hfd hld hbk Hsome Hnone hno
      generalize hL : Leads st s l[k] = lead at Hnx Hfd Hld
      generalize 2 ^ l[k].2.1 = m at hms Hsz Hld
      generalize l[k].2.1 = b at c1 b1 Hsz
      generalize l[k].1 = cs at c0 b0 Hld
      generalize l[k].2.2 = z at c2 b2 Hld Hbk
      clear hL
      by_cases hcs : cs = s
      · subst hcs
        have hd0 : ((cs : Int) == (cs : Int)) = true := by simp
        by_cases hz : (z : Int) ≤ st
        · have hd1 : decide ((z : Int) ≤ st) = true := decide_eq_true hz
          by_cases hm : st < (z : Int) + (m : Int)
          · have hd2 : decide (st < (z : Int) + (m : Int)) = true := decide_eq_true hm
            have hr2 := Hfd.out (Hld.out.2 ⟨rfl, hz, hm⟩)
            have Hr2 := Lib.hid hr2
            clear hr2 Hld Hnx Hfd
            go_wp2_with fail
            go_quiet ((go_at_call 16; exact quiet_left6 (Hsz.out _)))
            go_wp2_with fail
            go_quiet (fail)
            go_wp2
            go_ret3
            exact ⟨by rw [Hr2.out, Hbk.out]; rfl, below_drewN (below_drewN (hbel.out.alloc hbel.out.size _) _) _⟩
          · have hd2 : decide (st < (z : Int) + (m : Int)) = false := decide_eq_false hm
            have hn := Lib.hid (Hnx.out (fun h => hm (Hld.out.1 h).2.2))
            clear Hld Hnx Hfd
            go_wp2_with fail
            go_quiet ((go_at_call 16; exact quiet_left6 (Hsz.out _)))
            go_wp2
            go_roundw
            case rel => exact ⟨k + 1, by omega, by go_num, hn, Lib.hid (below_drewN (hbel.out.alloc hbel.out.size _) _)⟩
            case measure => simp [intOf]; omega
        · have hd1 : decide ((z : Int) ≤ st) = false := decide_eq_false hz
          have hn := Lib.hid (Hnx.out (fun h => hz (Hld.out.1 h).2.1))
          clear Hld Hnx Hfd
          go_wp2_with fail
          go_quiet (fail)
          go_wp2
          go_roundw
          case rel => exact ⟨k + 1, by omega, by go_num, hn, Lib.hid (below_drewN (hbel.out.alloc hbel.out.size _) _)⟩
          case measure => simp [intOf]; omega
      · have hd0 : ((cs : Int) == (s : Int)) = false := by simp; omega
        have hn := Lib.hid (Hnx.out (fun h => hcs (Hld.out.1 h).1))
        clear Hld Hnx Hfd
        go_wp2_with fail
        go_quiet (fail)
        go_wp2
        go_roundw
        case rel => exact ⟨k + 1, by omega, by go_num, hn, Lib.hid (below_drewN (hbel.out.alloc hbel.out.size _) _)⟩
        case measure => simp [intOf]; omega
    · obtain rfl : k = l.length := by omega
      have hrn := Hnone.out (fun j hj => hno.out j hj hj)
      have Hrn := Lib.hid hrn
      clear hrn Hsome Hnone hno
      go_wp2
      go_ret3
      exact ⟨by rw [Hrn.out]; rfl, hbel.out⟩
end Go.Proofs.Ythaahijapkolkaa
