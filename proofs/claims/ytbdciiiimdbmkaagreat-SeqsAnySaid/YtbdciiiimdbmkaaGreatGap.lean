/-
  Arguments that came in, for layer 1: a slice of bytes, a slice of ints, as lists of numbers. No condition.
  Ints (of either sign) as cells, slices of ints that read as a list; 2 to a power. No condition.
  Plain mathematics for layer 5 (count): how many numbers are above 0; one more than the greatest of bytes; how often each comes. No condition.
  The reference of layer 5 (count), by its walk: Size. Conditions: as each theorem's premises say.
  The reference of layer 5 (count), by its walk: Fair. Conditions: as each theorem's premises say.
  Plain mathematics for layer 5 (count): the share of counts of a size, and what it sums to; a log for counts. It speaks of no program. No condition.
  What layer 5's calls (count) are to answer, as the laws' walks ask for it: definitions alone, each a premise of a law's walk. No condition.
  Layer 5 (count): counts of bytes are counts that may be; they have a share by the log that is told. No condition.
  Layer 6 (spread): a slice of table cells (Symbol, Bits, Base) in memory; the reference's Back, by its walk. Conditions: as each theorem's premises say.
  Layer 6 (spread): how a table's cells come to be, step by step: first the symbols, then bits and bases. Plain mathematics, and new cells in memory. No condition.
  Layer 6 (spread): the reference's Build, by its walk. Conditions: as each theorem's premises say.
  What layer 6's calls (spread) are to answer, as the laws' walks ask for it: definitions, each a premise of a law's walk; and what a fair share of ints is as numbers. No condition.
  Pieces of a slice of ints, and what they read as. No condition beyond each theorem's premises.
  What layer 8's calls (header) are to answer, as the laws' walks ask for it: definitions, each a premise of a law's walk; and their mathematics: a share's bits behind others are taken as it is; what is taken is fair. No condition.
  The program's layer 5 (count), by its walk: sized, Fair. Conditions: as each theorem's premises say.
  The program's layer 5 (count), by its walk: Symbols, Right, total, greatest. Conditions: as each theorem's premises say.
  Counts of bytes: plain facts, and Symbols of them (layers 15, 16). No condition but the theorems' premises.
  Steps (api.Seq) in memory, of either sign or of none (layers 12, 14, 16). Conditions: as each theorem's premises say.
  The program's layer 5 (count), by its walk: slices.Max over bytes, Of, parts. Conditions: as each theorem's premises say.
-/
import Derived.Test.YtbdciiiimdbmkaaGreatGae
import Derived.Test.YtbdciiiimdbmkaaGreatGaa
import Derived.Test.YtbdciiiimdbmkaaGreatGab
import Derived.ProofKit
import Derived.OpenShut
import Derived.BigQuiet
import Derived.WalkSmall
import Derived.Deep.QuietTactic
import Derived.Lib.MinMax
import Derived.KernelRfl
namespace Go.Proofs.YtbdciiiimdbmkaaGreat
open Go.ChangeShapes Go.WideShapes Go.ChangeAt Go.RowKit

/-- What the frame hands over of a slice of integers that came in: nil, or a row of 'cap' cells, the numbers 'zs', each of its kind. -/
def IsRow (k : IntKind) (w : World) (a : Option Addr) (len cap : Nat) (zs : List Int) : Prop :=
  (a = none ∧ len = 0 ∧ cap = 0 ∧ zs = []) ∨
  ∃ x, a = some x ∧ len ≤ cap ∧ cap ≤ maxLen ∧ zs.length = cap ∧ (∀ i, i < zs.length → w.cell? (x.add i) = some (.int k (zs.getD i 0))) ∧ ∀ n ∈ zs, (Lit.int k n).wf = true

/-- A slice of bytes that came in. -/
def ArgB (w : World) (A : Option Addr) (n c : Nat) (bs : List Nat) : Prop := bs.length = n ∧ (∀ x ∈ bs, x < 256) ∧ Reads w A (u8s bs) ∧ (∀ a, A = some a → 0 < n → a.block < w.heap.size) ∧ n ≤ c ∧ c ≤ maxLen
/-- A slice of ints that came in: where there is one, its place and its cells. -/
def ArgI (w : World) (A : Option Addr) (n c : Nat) (zs : List Int) : Prop := zs.length = n ∧ (∀ x ∈ zs, -9223372036854775808 ≤ x ∧ x ≤ 9223372036854775807) ∧
  (0 < n → ∃ g off, A = some ⟨g, off, none⟩ ∧ g < w.heap.size ∧ ∀ j (h : j < zs.length), w.cell? ⟨g, off + j, none⟩ = some (.int .i64 zs[j])) ∧ n ≤ c ∧ c ≤ maxLen

theorem row_place {k : IntKind} {w : World} {x : Addr} {zs : List Int} (hc : ∀ i, i < zs.length → w.cell? (x.add i) = some (.int k (zs.getD i 0))) (h0 : 0 < zs.length) :
    ∃ g off, x = ⟨g, off, none⟩ ∧ g < w.heap.size ∧ ∀ j (h : j < zs.length), w.cell? ⟨g, off + j, none⟩ = some (.int k zs[j]) := by
  obtain ⟨b, off, spot⟩ := x
  have h1 := hc 0 h0
  have hspot : spot = none := by simpa [Addr.add] using World.cell?_spot h1
  subst hspot
  have e : ∀ j, ((⟨b, off, none⟩ : Addr).add j) = ⟨b, off + j, none⟩ := fun j => by unfold Addr.add; split <;> simp_all
  refine ⟨b, off, rfl, ?_, fun j hj => ?_⟩
  · rw [e] at h1
    exact World.block_lt_of_cell? w _ h1
  · rw [← e, hc j hj]
    simp [hj]
theorem arg_b {w : World} {a : Option Addr} {n c : Nat} {zs : List Int} (h : IsRow .u8 w a n c zs) : ∃ bs, ArgB w a n c bs := by
  rcases h with ⟨rfl, rfl, rfl, rfl⟩ | ⟨x, rfl, hl, hm, hz, hc, hwf⟩
  · exact ⟨[], rfl, by simp, fun h => absurd rfl h, fun a e => (by cases e), Nat.le_refl _, by unfold maxLen; omega⟩
  · refine ⟨(zs.take n).map Int.toNat, by simp; omega, ?_, ?_, ?_, hl, hm⟩
    · intro b hb
      obtain ⟨z, hz1, rfl⟩ := List.mem_map.1 hb
      have hb := bounds_u8 (hwf z (List.mem_of_mem_take hz1))
      omega
    · intro hne
      have h0 : 0 < zs.length := by
        rcases Nat.eq_zero_or_pos zs.length with h0 | h0
        · rw [List.eq_nil_of_length_eq_zero h0] at hne; simp [u8s] at hne
        · exact h0
      obtain ⟨g, off, rfl, _, hcell⟩ := row_place hc h0
      refine ⟨g, off, rfl, fun j hj => ?_⟩
      have hj' : j < n ∧ j < zs.length := by simp [u8s] at hj; omega
      rw [hcell j hj'.2]
      have hb := bounds_u8 (hwf zs[j] (List.getElem_mem hj'.2))
      simp only [u8s, List.getElem?_map, List.getElem?_take_of_lt hj'.1, List.getElem?_eq_getElem hj'.2, Option.map_some]
      rw [Int.toNat_of_nonneg hb.1]
    · intro a e hn
      injection e with e
      subst e
      obtain ⟨g, off, rfl, hg, _⟩ := row_place hc (by omega)
      exact hg
theorem arg_i {w : World} {a : Option Addr} {n c : Nat} {zs : List Int} (h : IsRow .i64 w a n c zs) : ∃ l, ArgI w a n c l := by
  rcases h with ⟨rfl, rfl, rfl, rfl⟩ | ⟨x, rfl, hl, hm, hz, hc, hwf⟩
  · exact ⟨[], rfl, by simp, fun h => absurd h (by omega), Nat.le_refl _, by unfold maxLen; omega⟩
  · refine ⟨zs.take n, by simp; omega, ?_, ?_, hl, hm⟩
    · intro b hb
      exact bounds_i64 (hwf b (List.mem_of_mem_take hb))
    · intro hn
      obtain ⟨g, off, rfl, hg, hcell⟩ := row_place hc (by omega)
      refine ⟨g, off, rfl, hg, fun j hj => ?_⟩
      have hj' : j < zs.length := by simp at hj; omega
      rw [hcell j hj']
      simp
end Go.Proofs.YtbdciiiimdbmkaaGreat

namespace Go.Proofs.YtbdciiiimdbmkaaGreat
open Go.RowKit

/-- The cells of a list of ints. -/
def i64z (l : List Int) : List Value := l.map fun z => .int .i64 z
theorem i64z_length (l : List Int) : (i64z l).length = l.length := by simp [i64z]
theorem i64z_get? (l : List Int) (i : Nat) (h : i < l.length) : (i64z l)[i]? = some (.int .i64 l[i]) := by simp [i64z, h]
theorem i64z_set (l : List Int) (i : Nat) (z : Int) : (i64z l).set i (.int .i64 z) = i64z (l.set i z) := by simp [i64z, List.map_set]
theorem i64z_nat (l : List Nat) : i64z (l.map fun n : Nat => (n : Int)) = i64s l := by simp [i64z, i64s]
theorem reads_iz {w : World} {A : Option Addr} {l : List Int} (h : Reads w A (i64z l)) (hne : 0 < l.length) : ∃ g off, A = some ⟨g, off, none⟩ ∧ ∀ j (hj : j < l.length), w.cell? ⟨g, off + j, none⟩ = some (.int .i64 l[j]) := by
  have hne' : i64z l ≠ [] := fun e => by
    have h1 := congrArg List.length e
    rw [i64z_length, List.length_nil] at h1
    omega
  obtain ⟨g, off, e, hc⟩ := h hne'
  exact ⟨g, off, e, fun j hj => by rw [hc j (by rw [i64z_length]; exact hj), i64z_get? l j hj]⟩
theorem argi_reads {w : World} {A : Option Addr} {n c : Nat} {l : List Int} (h : ArgI w A n c l) : Reads w A (i64z l) := fun hne => by
  obtain ⟨hl, _, h1, _⟩ := h
  have h0 : 0 < n := by
    rcases Nat.eq_zero_or_pos n with e | e
    · rw [e] at hl; rw [List.eq_nil_of_length_eq_zero hl] at hne; simp [i64z] at hne
    · exact e
  obtain ⟨g, off, e, _, hc⟩ := h1 h0
  exact ⟨g, off, e, fun j hj => by rw [i64z_length] at hj; rw [hc j hj, i64z_get? l j hj]⟩
/-- What reads goes on reading where the old blocks are as they were. -/
theorem reads_on {w W : World} {A : Option Addr} {xs : List Value} (h : Reads w A xs) (hb : Below w.heap.size w W) : Reads W A xs := fun hne => by
  obtain ⟨g, off, e, hc⟩ := h hne
  refine ⟨g, off, e, fun j hj => ?_⟩
  have h1 := hc j hj
  rw [List.getElem?_eq_getElem hj] at h1 ⊢
  rw [← h1]
  exact hb.cell (p := ⟨g, off + j, none⟩) (World.block_lt_of_cell? w _ h1)
theorem row_below {w W : World} {b : Nat} {t : TypeId} {cs : List Value} (hr : Row w b t cs) (hb : Below w.heap.size w W) : Row W b t cs := hr.keep (hb.block b hr.lt)
theorem reads_new (w : World) (l : List Int) : Reads (w.alloc (.cells (i64z l).toArray 3)) (some ⟨w.heap.size, 0, none⟩) (i64z l) := row_reads (Row.new w 3 (i64z l))
theorem info_in : (Tryz.prog.info? 3).map (fun i => (i.zero, i.size, i.bytes)) = some (some (.int .i64 0), 1, 8) := by kernel_rfl
theorem row_of_ownI {w : World} {base g n : Nat} (h : w.ownsRow base 3 1 (.slice (some ⟨g, 0, none⟩) n n) n (madeCells #[Value.int .i64 0] n).toList) : Row w g 3 (i64s (List.replicate n 0)) := by
  rcases h.2 with ⟨hv, _⟩ | ⟨g', cap, cur, hv, hb, hh, h1, h2, h3, h4⟩
  · cases hv
  · injection hv with e1 e2 e3
    injection e1 with e1
    injection e1 with e1
    subst e1 e3
    have e : cur.toList = i64s (List.replicate n 0) := by
      rw [List.take_of_length_le (by rw [Array.length_toList]; omega)] at h4
      rw [h4, toList_madeCells_one]
      simp only [i64s, List.map_replicate]
      rfl
    unfold Row
    rw [← e, Array.toArray_toList]
    exact hh
namespace Bm
/-- Numbers as an integer's bounds. -/
def IntOk (z : Int) : Prop := -9223372036854775808 ≤ z ∧ z ≤ 9223372036854775807
end Bm
end Go.Proofs.YtbdciiiimdbmkaaGreat

namespace Go.Proofs.YtbdciiiimdbmkaaGreat
open Go.RowKit
namespace Bm
/-- How many of these are above 0. -/
def symN (l : List Int) : Nat := l.countP fun z => decide (0 < z)
theorem symN_take (l : List Int) (k : Nat) (h : k < l.length) : symN (l.take (k + 1)) = symN (l.take k) + (if 0 < l[k] then 1 else 0) := by
  unfold symN
  rw [List.take_succ_eq_append_getElem h, List.countP_append, List.countP_singleton]
  simp
theorem symN_le (l : List Int) : symN l ≤ l.length := List.countP_le_length
end Bm
namespace Bm
/-- One more than the greatest of these (0: there are none). -/
def topB : List Nat → Nat
  | [] => 0
  | b :: bs => max (b + 1) (topB bs)
/-- How often each symbol comes. -/
def countsOf (bs : List Nat) : List Nat := (List.range (topB bs)).map fun s => bs.count s
theorem topB_append (a b : List Nat) : topB (a ++ b) = max (topB a) (topB b) := by
  induction a with
  | nil => simp [topB]
  | cons x a ih => rw [List.cons_append, topB, ih, topB]; omega
theorem topB_take (bs : List Nat) (k : Nat) (h : k < bs.length) : topB (bs.take (k + 1)) = max (topB (bs.take k)) (bs[k] + 1) := by
  rw [List.take_succ_eq_append_getElem h, topB_append]
  simp [topB]
theorem topB_le (bs : List Nat) (h : ∀ x ∈ bs, x < 256) : topB bs ≤ 256 := by
  induction bs with
  | nil => simp [topB]
  | cons x a ih =>
    have h1 := ih (fun y hy => h y (List.mem_cons_of_mem _ hy))
    have h2 := h x List.mem_cons_self
    rw [topB]; omega
theorem topB_mem (bs : List Nat) (b : Nat) (h : b ∈ bs) : b < topB bs := by
  induction bs with
  | nil => cases h
  | cons x a ih =>
    rw [topB]
    rcases List.mem_cons.1 h with rfl | h1
    · omega
    · have := ih h1; omega
/-- Counts of the first k. -/
def countsTo (bs : List Nat) (k : Nat) : List Nat := (List.range (topB bs)).map fun s => (bs.take k).count s
theorem countsTo_zero (bs : List Nat) : countsTo bs 0 = List.replicate (topB bs) 0 := by
  unfold countsTo
  rw [List.take_zero]
  simp only [List.count_nil]
  rw [List.map_const', List.length_range]
theorem countsTo_all (bs : List Nat) : countsTo bs bs.length = countsOf bs := by unfold countsTo countsOf; rw [List.take_length]
theorem countsTo_length (bs : List Nat) (k : Nat) : (countsTo bs k).length = topB bs := by simp [countsTo]
theorem countsTo_get (bs : List Nat) (k b : Nat) (h : b < topB bs) : (countsTo bs k)[b]? = some ((bs.take k).count b) := by simp [countsTo, h]
theorem countsTo_next (bs : List Nat) (k : Nat) (h : k < bs.length) : countsTo bs (k + 1) = (countsTo bs k).set bs[k] ((bs.take k).count bs[k] + 1) := by
  apply List.ext_getElem
  · simp [countsTo_length]
  · intro i h1 h2
    rw [List.getElem_set]
    simp only [countsTo, List.getElem_map, List.getElem_range]
    rw [List.take_succ_eq_append_getElem h, List.count_append, List.count_singleton]
    by_cases e : bs[k] = i
    · subst e; simp
    · simp [e]
end Bm
theorem max_top (T b : Nat) : max ((T : Int) - 1) (b : Int) = ((max T (b + 1) : Nat) : Int) - 1 := by omega
end Go.Proofs.YtbdciiiimdbmkaaGreat

namespace Go.Proofs.YtbdciiiimdbmkaaGreat
open Go.RowKit
set_option maxHeartbeats 400000 in
set_option maxRecDepth 100000 in
theorem hsize_any (n : Int) (w : World) (hn : n ≤ 40) :
    Calls Tryz.prog 24 #[.int .i64 n] w fun e w' => e = .returned (.int .i64 ((2 ^ n.toNat : Nat) : Int)) ∧ w = w' := by
  obtain ⟨r, hres⟩ : ∃ r, r = 2 ^ n.toNat := ⟨_, rfl⟩
  rw [← hres]
  have Hres := Lib.hid hres
  clear hres
  go_enter Tryz.func24, Tryz.ntmps24
  go_wp2
  go_loop [3, 4] (fun x i => ∃ k : Nat, k ≤ n.toNat ∧ i = .int .i64 (k : Int) ∧ x = .int .i64 ((2 ^ k : Nat) : Int)) (fun _ i => n.toNat - (intOf i).toNat)
  case atStart => exact ⟨0, by omega, rfl, rfl⟩
  case round =>
    obtain ⟨k, hk, rfl, rfl⟩ := hrel
    have h40 : 2 ^ k ≤ 2 ^ 40 := Nat.pow_le_pow_right (by omega) (by omega)
    have h40' : (2 : Nat) ^ 40 = 1099511627776 := by decide
    rw [h40'] at h40
    clear h40'
    have hs : 2 ^ (k + 1) = 2 ^ k * 2 := Nat.pow_succ 2 k
    have Hs := Lib.hid hs
    have He : Hid (k = n.toNat → 2 ^ k = r) := Lib.hid (fun e => by rw [e, Hres.out])
    clear hs Hres
    generalize 2 ^ k = m at h40 Hs He ⊢
    by_cases hkl : (k : Int) < n
    · go_wp2
      go_round
      case rel => exact ⟨k + 1, by omega, by go_num, by rw [Hs.out]; go_num⟩
      case measure => simp [intOf]; omega
    · rw [He.out (by omega)]
      go_wp2
      go_ret
      exact ⟨rfl, rfl⟩
end Go.Proofs.YtbdciiiimdbmkaaGreat

namespace Go.Proofs.YtbdciiiimdbmkaaGreat
open Go.RowKit
namespace Bm
/-- Are these a share of that log's size? -/
def Fair (l : List Int) (log : Int) : Prop := 5 ≤ log ∧ log ≤ 9 ∧ l.length ≤ 256 ∧ (∀ x ∈ l, 0 ≤ x ∧ x ≤ 1000) ∧ l.sum = ((2 ^ log.toNat : Nat) : Int)
instance (l : List Int) (log : Int) : Decidable (Fair l log) := by unfold Fair; exact inferInstance
def fairB (l : List Int) (log : Int) : Bool := decide (Fair l log)
theorem sum_take (l : List Int) (k : Nat) (h : k < l.length) : (l.take (k + 1)).sum = (l.take k).sum + l[k] := by
  rw [List.take_succ_eq_append_getElem h, List.sum_append_int, List.sum_singleton]
theorem all_take (p : Int → Prop) (l : List Int) (k : Nat) (h : k < l.length) (h0 : ∀ x ∈ l.take k, p x) (h1 : p l[k]) : ∀ x ∈ l.take (k + 1), p x := by
  rw [List.take_succ_eq_append_getElem h]
  intro x hx
  rcases List.mem_append.1 hx with h2 | h2
  · exact h0 x h2
  · rw [List.mem_singleton.1 h2]; exact h1
theorem sum_bound (l : List Int) (h : ∀ x ∈ l, 0 ≤ x ∧ x ≤ 1000) : 0 ≤ l.sum ∧ l.sum ≤ 1000 * l.length := by
  induction l with
  | nil => simp
  | cons a l ih =>
    have h1 := ih (fun x hx => h x (List.mem_cons_of_mem _ hx))
    have h2 := h a List.mem_cons_self
    rw [List.sum_cons, List.length_cons]
    omega
end Bm

set_option maxHeartbeats 1000000 in
set_option maxRecDepth 100000 in
theorem hfair_any (A : Option Addr) (c : Nat) (l : List Int) (log : Int) (w : World) (hl : l.length ≤ 1000000000) (hr : Reads w A (i64z l)) :
    Calls Tryz.prog 66 #[.slice A l.length c, .int .i64 log] w fun e w' => e = .returned (.bool (Bm.fairB l log)) ∧ w = w' := by
  have Hr := Lib.hid hr
  obtain ⟨r, hres⟩ : ∃ r, r = Bm.fairB l log := ⟨_, rfl⟩
  rw [← hres]
  have hno : ∀ P : Prop, (Bm.Fair l log → P) → ¬ P → false = r := fun P h hp => by
    rw [hres]; symm; unfold Bm.fairB; exact decide_eq_false (fun h1 => hp (h h1))
  have Hno := Lib.hid hno
  have Hres := Lib.hid hres
  clear hr hres hno
  by_cases h1 : log < 5
  · have hf : false = r := Hno.out (5 ≤ log) (fun h => h.1) (by omega)
    rw [← hf]
    go_enter Tryz.func66, Tryz.ntmps66
    go_wp2
    go_ret
    exact ⟨rfl, rfl⟩
  by_cases h2 : 9 < log
  · have hf : false = r := Hno.out (log ≤ 9) (fun h => h.2.1) (by omega)
    rw [← hf]
    go_enter Tryz.func66, Tryz.ntmps66
    go_wp2
    go_ret
    exact ⟨rfl, rfl⟩
  by_cases h3 : 256 < l.length
  · have hf : false = r := Hno.out (l.length ≤ 256) (fun h => h.2.2.1) (by omega)
    rw [← hf]
    go_enter Tryz.func66, Tryz.ntmps66
    go_wp2
    go_ret
    exact ⟨rfl, rfl⟩
  have hs := Lib.hid (hsize_any log w (by omega))
  go_enter Tryz.func66, Tryz.ntmps66
  go_wp2
  go_loop [5, 6] (fun n i => ∃ k : Nat, k ≤ l.length ∧ i = .int .i64 (k : Int) ∧ n = .int .i64 (l.take k).sum ∧ ∀ x ∈ l.take k, 0 ≤ x ∧ x ≤ 1000) (fun _ i => l.length - (intOf i).toNat)
  case atStart => exact ⟨0, by omega, rfl, rfl, by simp⟩
  case round =>
    obtain ⟨k, hk, rfl, rfl, hall⟩ := hrel
    by_cases hkl : k < l.length
    · obtain ⟨g, off, rfl, hc⟩ := reads_iz Hr.out (by omega)
      have c0 := hc k hkl
      have hb := Bm.sum_bound _ hall
      rw [List.length_take, Nat.min_eq_left (by omega)] at hb
      have Hs := Lib.hid (Bm.sum_take l k hkl)
      have Ha := Lib.hid (Bm.all_take (fun x => 0 ≤ x ∧ x ≤ 1000) l k hkl hall)
      have Hm := Lib.hid (List.getElem_mem hkl)
      clear hc hall Hres hs
      generalize (l.take k).sum = m at hb Hs ⊢
      generalize l[k] = z at c0 Hs Ha Hm
      by_cases hz : z < 0
      · have hf : false = r := Hno.out (0 ≤ z) (fun h => (h.2.2.2.1 z Hm.out).1) (by omega)
        have Hf := Lib.hid hf
        clear hf
        go_wp2
        go_ret
        exact ⟨congrArg (fun x => Ending.returned (Value.bool x)) Hf.out, rfl⟩
      by_cases hz2 : 1000 < z
      · have hf : false = r := Hno.out (z ≤ 1000) (fun h => (h.2.2.2.1 z Hm.out).2) (by omega)
        have Hf := Lib.hid hf
        clear hf
        go_wp2
        go_ret
        exact ⟨congrArg (fun x => Ending.returned (Value.bool x)) Hf.out, rfl⟩
      go_wp2
      go_round
      case rel => exact ⟨k + 1, by omega, by go_num, by rw [Hs.out], Ha.out (by omega)⟩
      case measure => simp [intOf]; omega
    · obtain rfl : k = l.length := by omega
      rw [List.take_length] at hall ⊢
      have hb := Bm.sum_bound _ hall
      have hres : (l.sum == ((2 ^ log.toNat : Nat) : Int)) = r := by
        rw [Hres.out]
        unfold Bm.fairB
        rw [Bool.eq_iff_iff, beq_iff_eq, decide_eq_true_iff]
        exact ⟨fun h => ⟨by omega, by omega, by omega, hall, h⟩, fun h => h.2.2.2.2⟩
      clear Hr Hno Hres hall
      generalize 2 ^ log.toNat = m at hres hs
      generalize l.sum = q at hres hb ⊢
      go_wp2_with fail
      refine hs.out.mono ?_
      rintro e w' ⟨rfl, rfl⟩
      go_wp2
      go_ret
      exact ⟨rfl, rfl⟩
end Go.Proofs.YtbdciiiimdbmkaaGreat

namespace Go.Proofs.YtbdciiiimdbmkaaGreat.Bm

/-- The greatest of these (0: there are none), and the first place where it lies. -/
def maxL : List Nat → Nat
  | [] => 0
  | x :: l => max x (maxL l)
def firstMax (l : List Nat) : Nat := l.idxOf (maxL l)
theorem maxL_le (l : List Nat) : ∀ x ∈ l, x ≤ maxL l := by
  induction l with
  | nil => intro x h; cases h
  | cons a l ih =>
    intro x h
    rw [maxL]
    rcases List.mem_cons.1 h with rfl | h
    · omega
    · have := ih x h; omega
theorem maxL_mem (l : List Nat) (h : l ≠ []) : maxL l ∈ l := by
  induction l with
  | nil => exact absurd rfl h
  | cons a l ih =>
    rw [maxL]
    by_cases hl : l = []
    · subst hl; simp [maxL]
    · have h1 := ih hl
      by_cases h2 : maxL l ≤ a
      · rw [Nat.max_eq_left h2]; exact List.mem_cons_self
      · rw [Nat.max_eq_right (by omega)]; exact List.mem_cons_of_mem _ h1
theorem firstMax_lt (l : List Nat) (h : l ≠ []) : firstMax l < l.length := List.idxOf_lt_length_of_mem (maxL_mem l h)
theorem firstMax_get (l : List Nat) (h : firstMax l < l.length) : l[firstMax l] = maxL l := List.getElem_idxOf h
theorem maxL_append (a b : List Nat) : maxL (a ++ b) = max (maxL a) (maxL b) := by
  induction a with
  | nil => simp [maxL]
  | cons x a ih => rw [List.cons_append, maxL, ih, maxL]; omega
/-- One number more: the place of the first greatest goes on only if it is greater than all. -/
theorem firstMax_snoc (a : List Nat) (x : Nat) (h : a ≠ []) : firstMax (a ++ [x]) = if maxL a < x then a.length else firstMax a := by
  have hm := maxL_mem a h
  have e : maxL [x] = x := by simp [maxL]
  unfold firstMax
  rw [maxL_append, e]
  split
  · next hlt =>
    rw [Nat.max_eq_right (by omega), List.idxOf_append, if_neg (fun hx => by have := maxL_le a x hx; omega)]
    simp
  · next hlt =>
    rw [Nat.max_eq_left (by omega), List.idxOf_append, if_pos hm]
theorem sum_modify (p : List Nat) (k : Nat) (f : Nat → Nat) (h : k < p.length) : (p.modify k f).sum + p[k] = p.sum + f p[k] := by
  induction p generalizing k with
  | nil => simp at h
  | cons a p ih =>
    cases k with
    | zero => simp; omega
    | succ k =>
      have := ih k (by simpa using h)
      simp [List.modify_succ_cons] at this ⊢
      omega
theorem get_modify (p : List Nat) (k i : Nat) (f : Nat → Nat) : (p.modify k f)[i]? = if k = i then p[i]?.map f else p[i]? := by
  rw [List.getElem?_modify]
  cases h : p[i]? <;> split <;> simp
/-- Are they above 0 at the same places? -/
def SamePos (p q : List Nat) : Prop := p.length = q.length ∧ ∀ i : Nat, 0 < p[i]?.getD 0 ↔ 0 < q[i]?.getD 0
theorem SamePos.refl (p : List Nat) : SamePos p p := ⟨rfl, fun _ => Iff.rfl⟩
theorem SamePos.trans {p q r : List Nat} (h : SamePos p q) (k : SamePos q r) : SamePos p r := ⟨h.1.trans k.1, fun i => (h.2 i).trans (k.2 i)⟩
/-- How many are above 0. -/
def posN (l : List Nat) : Nat := l.countP fun n => decide (0 < n)
theorem SamePos.posN : ∀ {p q : List Nat}, SamePos p q → posN p = posN q
  | [], [], _ => rfl
  | [], _ :: _, h => by have := h.1; simp at this
  | _ :: _, [], h => by have := h.1; simp at this
  | a :: p, b :: q, h => by
    have h0 := h.2 0
    have h1 : SamePos p q := ⟨by have := h.1; simpa using this, fun i => by have := h.2 (i + 1); simpa using this⟩
    have h2 := h1.posN
    unfold Bm.posN at h2 ⊢
    rw [List.countP_cons, List.countP_cons, h2]
    simp at h0
    by_cases ha : 0 < a <;> simp [ha, h0.1] <;> simp_all
theorem sum_le_posN (l : List Nat) (h : ∀ x ∈ l, x ≤ 1) : l.sum ≤ posN l := by
  induction l with
  | nil => simp
  | cons a l ih =>
    have h1 := ih (fun x hx => h x (List.mem_cons_of_mem _ hx))
    have h2 := h a List.mem_cons_self
    unfold posN at h1 ⊢
    rw [List.sum_cons, List.countP_cons]
    by_cases ha : 0 < a
    · simp [ha]; omega
    · simp [ha]; omega
/-- k times one less at the first greatest. -/
def decs : Nat → List Nat → List Nat
  | 0, p => p
  | k + 1, p => decs k (p.modify (firstMax p) (· - 1))
theorem decs_spec (size : Nat) : ∀ (k : Nat) (p : List Nat), posN p ≤ size → p.sum = size + k → (decs k p).sum = size ∧ SamePos (decs k p) p
  | 0, p, _, hs => ⟨by simpa [decs] using hs, SamePos.refl p⟩
  | k + 1, p, hp, hs => by
    have hne : p ≠ [] := by rintro rfl; simp at hs
    have hlt := firstMax_lt p hne
    have hget := firstMax_get p hlt
    have h2 : 2 ≤ maxL p := by
      rcases Nat.lt_or_ge (maxL p) 2 with h1 | h1
      · have := sum_le_posN p (fun x hx => by have := maxL_le p x hx; omega)
        omega
      · exact h1
    have hsum := sum_modify p (firstMax p) (· - 1) hlt
    rw [hget] at hsum
    have hsame : SamePos (p.modify (firstMax p) (· - 1)) p := by
      refine ⟨by simp, fun i => ?_⟩
      rw [get_modify]
      split
      · next e =>
        subst e
        rw [List.getElem?_eq_getElem hlt, hget]
        simp
        omega
      · exact Iff.rfl
    have h3 := decs_spec size k (p.modify (firstMax p) (· - 1)) (by rw [hsame.posN]; exact hp) (by omega)
    exact ⟨h3.1, h3.2.trans hsame⟩
/-- A count's part of the size. -/
def partN (size total c : Nat) : Nat := if c * size / total = 0 ∧ 0 < c then 1 else c * size / total
def parts (cs : List Nat) (size : Nat) : List Nat := cs.map (partN size cs.sum)
/-- The share of counts of a size. -/
def shareM (cs : List Nat) (size : Nat) : List Nat :=
  if (parts cs size).sum < size then (parts cs size).modify (firstMax cs) (· + (size - (parts cs size).sum)) else decs ((parts cs size).sum - size) (parts cs size)
theorem partN_pos (size total c : Nat) : 0 < partN size total c ↔ 0 < c := by
  unfold partN
  split
  · next h => simp [h.2]
  · next h =>
    constructor
    · intro h1
      rcases Nat.eq_zero_or_pos c with h2 | h2
      · subst h2; simp at h1
      · exact h2
    · intro h1
      rcases Nat.eq_zero_or_pos (c * size / total) with h2 | h2
      · exact absurd ⟨h2, h1⟩ h
      · exact h2
theorem parts_same (cs : List Nat) (size : Nat) : SamePos (parts cs size) cs := by
  refine ⟨by simp [parts], fun i => ?_⟩
  unfold parts
  rw [List.getElem?_map]
  cases h : cs[i]? with
  | none => simp
  | some c => simp [partN_pos]
theorem share_spec (cs : List Nat) (size : Nat) (h0 : 0 < cs.sum) (h : posN cs ≤ size) : (shareM cs size).sum = size ∧ SamePos (shareM cs size) cs := by
  have hsame := parts_same cs size
  unfold shareM
  split
  · next hlt =>
    have hne : cs ≠ [] := by rintro rfl; simp at h0
    have hlt2 := firstMax_lt cs hne
    have hlt3 : firstMax cs < (parts cs size).length := by rw [hsame.1]; exact hlt2
    have hs := sum_modify (parts cs size) (firstMax cs) (· + (size - (parts cs size).sum)) hlt3
    refine ⟨by omega, ⟨by simp [hsame.1], fun i => ?_⟩⟩
    rw [get_modify]
    split
    · next e =>
      subst e
      have h1 := hsame.2 (firstMax cs)
      have hp : 0 < cs[firstMax cs]?.getD 0 := by
        rw [List.getElem?_eq_getElem hlt2, firstMax_get cs hlt2]
        simp
        rcases Nat.eq_zero_or_pos (maxL cs) with h2 | h2
        · have h3 : cs.sum = 0 := by
            have : ∀ (l : List Nat), (∀ x ∈ l, x = 0) → l.sum = 0 := fun l => by
              induction l with
              | nil => simp
              | cons a l ih => intro hh; rw [List.sum_cons, hh a List.mem_cons_self, ih (fun x hx => hh x (List.mem_cons_of_mem _ hx))]
            exact this cs (fun x hx => by have := maxL_le cs x hx; omega)
          omega
        · exact h2
      rw [List.getElem?_eq_getElem hlt3] at h1 ⊢
      simp at h1 ⊢
      have := h1.2 hp
      omega
    · exact hsame.2 i
  · next hlt =>
    have h1 := decs_spec size ((parts cs size).sum - size) (parts cs size) (by rw [hsame.posN]; exact h) (by omega)
    exact ⟨h1.1, h1.2.trans hsame⟩
/-- Counts that may be. -/
def Right (l : List Int) : Prop := l.length ≤ 256 ∧ (∀ x ∈ l, 0 ≤ x ∧ x ≤ 1048576) ∧ ∃ x ∈ l, 0 < x
/-- A log for so many symbols, an eighth of whose sum is q. -/
def logM (sym q : Nat) : Nat :=
  if 4 * sym ≤ 32 ∧ q ≤ 32 then 5 else if 4 * sym ≤ 64 ∧ q ≤ 64 then 6 else if 4 * sym ≤ 128 ∧ q ≤ 128 then 7 else if 4 * sym ≤ 256 ∧ q ≤ 256 then 8 else 9
theorem logM_ok (sym q : Nat) (h : sym ≤ 256) : 5 ≤ logM sym q ∧ logM sym q ≤ 9 ∧ sym ≤ 2 ^ logM sym q := by
  unfold logM
  split
  · refine ⟨by omega, by omega, ?_⟩
    have : (2 : Nat) ^ 5 = 32 := by decide
    omega
  split
  · refine ⟨by omega, by omega, ?_⟩
    have : (2 : Nat) ^ 6 = 64 := by decide
    omega
  split
  · refine ⟨by omega, by omega, ?_⟩
    have : (2 : Nat) ^ 7 = 128 := by decide
    omega
  split
  · refine ⟨by omega, by omega, ?_⟩
    have : (2 : Nat) ^ 8 = 256 := by decide
    omega
  · refine ⟨by omega, by omega, ?_⟩
    have : (2 : Nat) ^ 9 = 512 := by decide
    omega
end Go.Proofs.YtbdciiiimdbmkaaGreat.Bm

namespace Go.Proofs.YtbdciiiimdbmkaaGreat
open Go.RowKit
namespace Bm
instance (l : List Int) : Decidable (Right l) := by unfold Right; exact inferInstance
def ShareOk (l : List Int) (log : Int) : Prop := Right l ∧ 5 ≤ log ∧ log ≤ 9 ∧ symN l ≤ 2 ^ log.toNat
instance (l : List Int) (log : Int) : Decidable (ShareOk l log) := by unfold ShareOk; exact inferInstance
/-- What Share answers: the numbers (none: there is no share). -/
def shareA (l : List Int) (log : Int) : List Int := if ShareOk l log then (shareM (l.map Int.toNat) (2 ^ log.toNat)).map (fun n : Nat => (n : Int)) else []
/-- What Log answers. -/
def logA (l : List Int) : Nat := if Right l then logM (symN l) (l.sum.toNat / 8) else 0
end Bm
def COf : Prop := ∀ (A : Option Addr) (c : Nat) (bs : List Nat) (w : World), bs.length ≤ 1000000 → (∀ x ∈ bs, x < 256) → Reads w A (u8s bs) →
  Calls Tryz.prog 61 #[.slice A bs.length c] w fun e w' => ∃ A' c', e = .returned (.slice A' (Bm.topB bs) c') ∧ Reads w' A' (i64s (Bm.countsOf bs)) ∧ Below w.heap.size w w'
def CSymbols : Prop := ∀ (A : Option Addr) (c : Nat) (l : List Int) (w : World), l.length ≤ 1000000 → Reads w A (i64z l) →
  Calls Tryz.prog 62 #[.slice A l.length c] w fun e w' => e = .returned (.int .i64 (Bm.symN l : Int)) ∧ Below w.heap.size w w'
def CFair : Prop := ∀ (A : Option Addr) (c : Nat) (l : List Int) (log : Int) (w : World), l.length ≤ 1000000 → (∀ x ∈ l, Bm.IntOk x) → Bm.IntOk log → Reads w A (i64z l) →
  Calls Tryz.prog 103 #[.slice A l.length c, .int .i64 log] w fun e w' => e = .returned (.bool (Bm.fairB l log)) ∧ Below w.heap.size w w'
def CLog : Prop := ∀ (A : Option Addr) (c : Nat) (l : List Int) (w : World), l.length ≤ 1000000 → (∀ x ∈ l, Bm.IntOk x) → Reads w A (i64z l) →
  Calls Tryz.prog 85 #[.slice A l.length c] w fun e w' => e = .returned (.int .i64 (Bm.logA l : Int)) ∧ Below w.heap.size w w'
def CShare : Prop := ∀ (A : Option Addr) (c : Nat) (l : List Int) (log : Int) (w : World), l.length ≤ 1000000 → (∀ x ∈ l, Bm.IntOk x) → Bm.IntOk log → Reads w A (i64z l) →
  Calls Tryz.prog 86 #[.slice A l.length c, .int .i64 log] w fun e w' => ∃ A' c', e = .returned (.tuple #[.slice A' (Bm.shareA l log).length c', .bool (decide (Bm.ShareOk l log))]) ∧ Reads w' A' (i64z (Bm.shareA l log)) ∧ Below w.heap.size w w'
end Go.Proofs.YtbdciiiimdbmkaaGreat

namespace Go.Proofs.YtbdciiiimdbmkaaGreat
open Go.RowKit
namespace Bm
/-- Counts of bytes, as ints. -/
def countsI (bs : List Nat) : List Int := (countsOf bs).map fun n : Nat => (n : Int)
theorem countsI_length (bs : List Nat) : (countsI bs).length = topB bs := by simp [countsI, countsOf]
theorem countsI_mem (bs : List Nat) (x : Int) (h : x ∈ countsI bs) : 0 ≤ x ∧ x ≤ bs.length := by
  unfold countsI countsOf at h
  rw [List.map_map, List.mem_map] at h
  obtain ⟨s, _, rfl⟩ := h
  have := List.count_le_length (a := s) (l := bs)
  exact ⟨Int.natCast_nonneg _, by simp only [Function.comp_apply]; omega⟩
theorem countsI_right (bs : List Nat) (hlt : ∀ x ∈ bs, x < 256) (hl : bs.length ≤ 1048576) (h0 : 0 < bs.length) : Right (countsI bs) := by
  refine ⟨by rw [countsI_length]; exact topB_le bs hlt, fun x hx => by have := countsI_mem bs x hx; omega, ?_⟩
  obtain ⟨b, hb⟩ : ∃ b, b ∈ bs := by
    cases bs with
    | nil => simp at h0
    | cons b bs => exact ⟨b, List.mem_cons_self⟩
  refine ⟨((bs.count b : Nat) : Int), ?_, ?_⟩
  · unfold countsI countsOf
    rw [List.map_map, List.mem_map]
    exact ⟨b, List.mem_range.2 (topB_mem bs b hb), rfl⟩
  · have := List.count_pos_iff.2 hb
    omega
theorem countsI_share (bs : List Nat) (hlt : ∀ x ∈ bs, x < 256) (hl : bs.length ≤ 1048576) : ShareOk (countsI bs) (logA (countsI bs) : Int) ↔ 0 < bs.length := by
  constructor
  · rintro ⟨⟨_, _, x, hx, h0⟩, _⟩
    have := countsI_mem bs x hx
    omega
  · intro h0
    have hr := countsI_right bs hlt hl h0
    have hs := symN_le (countsI bs)
    rw [countsI_length] at hs
    have ht := topB_le bs hlt
    have h1 := logM_ok (symN (countsI bs)) ((countsI bs).sum.toNat / 8) (by omega)
    unfold logA
    rw [if_pos hr]
    exact ⟨hr, by omega, by omega, by rw [Int.toNat_natCast]; exact h1.2.2⟩
end Bm
end Go.Proofs.YtbdciiiimdbmkaaGreat

namespace Go.Proofs.YtbdciiiimdbmkaaGreat
open Go.RowKit

/-- A cell of a table: its symbol, its bits, its base. -/
abbrev Cel := Nat × Nat × Nat
def cel3 (t : Cel) : List Value := [.int .u8 (t.1 : Int), .int .i64 (t.2.1 : Int), .int .i64 (t.2.2 : Int)]
/-- The memory's cells of a list of them. -/
def c3 : List Cel → List Value
  | [] => []
  | t :: l => cel3 t ++ c3 l
theorem c3_length (l : List Cel) : (c3 l).length = l.length * 3 := by
  induction l with
  | nil => rfl
  | cons t l ih => rw [c3, List.length_append, ih, List.length_cons]; simp [cel3]; omega
theorem c3_get (l : List Cel) (i : Nat) (h : i < l.length) : (c3 l)[i * 3]? = some (.int .u8 (l[i].1 : Int)) ∧ (c3 l)[i * 3 + 1]? = some (.int .i64 (l[i].2.1 : Int)) ∧ (c3 l)[i * 3 + 2]? = some (.int .i64 (l[i].2.2 : Int)) := by
  induction l generalizing i with
  | nil => simp at h
  | cons t l ih =>
    cases i with
    | zero => exact ⟨rfl, rfl, rfl⟩
    | succ i =>
      have h1 := ih i (by simpa using h)
      rw [c3]
      have e : ∀ j, (cel3 t ++ c3 l)[(i + 1) * 3 + j]? = (c3 l)[i * 3 + j]? := fun j => by
        rw [List.getElem?_append_right (by simp [cel3]; omega)]
        congr 1
        simp [cel3]; omega
      have e0 := e 0
      rw [Nat.add_zero, Nat.add_zero] at e0
      rw [e0, e 1, e 2]
      exact h1
theorem c3_set (l : List Cel) (i : Nat) (h : i < l.length) (s b z : Nat) :
    (c3 l).set (i * 3) (.int .u8 (s : Int)) = c3 (l.set i (s, l[i].2)) ∧ (c3 l).set (i * 3 + 1) (.int .i64 (b : Int)) = c3 (l.set i (l[i].1, b, l[i].2.2)) ∧ (c3 l).set (i * 3 + 2) (.int .i64 (z : Int)) = c3 (l.set i (l[i].1, l[i].2.1, z)) := by
  induction l generalizing i with
  | nil => simp at h
  | cons t l ih =>
    cases i with
    | zero => exact ⟨rfl, rfl, rfl⟩
    | succ i =>
      have h1 := ih i (by simpa using h)
      have e : ∀ j v, (cel3 t ++ c3 l).set ((i + 1) * 3 + j) v = cel3 t ++ (c3 l).set (i * 3 + j) v := fun j v => by
        rw [List.set_append_right _ _ (by simp [cel3]; omega)]
        congr 2
        simp [cel3]; omega
      have e0 := fun v => e 0 v
      simp only [Nat.add_zero] at e0
      simp only [c3, e0, e 1, e 2, List.set_cons_succ, List.getElem_cons_succ]
      exact ⟨by rw [h1.1], by rw [h1.2.1], by rw [h1.2.2]⟩
theorem reads_c3 {w : World} {A : Option Addr} {l : List Cel} (h : Reads w A (c3 l)) (hne : 0 < l.length) : ∃ g off, A = some ⟨g, off, none⟩ ∧ ∀ j (hj : j < l.length), w.cell? ⟨g, off + j * 3, none⟩ = some (.int .u8 (l[j].1 : Int)) ∧ w.cell? ⟨g, off + j * 3 + 1, none⟩ = some (.int .i64 (l[j].2.1 : Int)) ∧ w.cell? ⟨g, off + j * 3 + 2, none⟩ = some (.int .i64 (l[j].2.2 : Int)) := by
  have hne' : c3 l ≠ [] := fun e => by
    have h1 := congrArg List.length e
    rw [c3_length, List.length_nil] at h1
    omega
  obtain ⟨g, off, e, hc⟩ := h hne'
  refine ⟨g, off, e, fun j hj => ?_⟩
  obtain ⟨h0, h1, h2⟩ := c3_get l j hj
  have hl := c3_length l
  have k0 := hc (j * 3) (by omega)
  have k1 := hc (j * 3 + 1) (by omega)
  have k2 := hc (j * 3 + 2) (by omega)
  rw [h0] at k0
  rw [h1, ← Nat.add_assoc] at k1
  rw [h2, ← Nat.add_assoc] at k2
  exact ⟨k0, k1, k2⟩
/-- Does a cell have this symbol, and lead to this state? -/
def Leads (st : Int) (s : Nat) (t : Cel) : Prop := t.1 = s ∧ (t.2.2 : Int) ≤ st ∧ st < (t.2.2 : Int) + ((2 ^ t.2.1 : Nat) : Int)
/-- What Back answers of a place. -/
def backV (l : List Cel) (st : Int) : Option Nat → Value
  | none => .tuple #[.int .i64 0, .int .i64 0, .bool false]
  | some p => .tuple #[.int .i64 (p : Int), .int .i64 (st - ((l[p]?.getD (0, 0, 0)).2.2 : Int)), .bool true]

theorem quiet_left6 {P : Program} {f : FuncId} {args : Array Value} {w : World} {n : Nat} {v : Value}
    (h : Calls P f args (w.drewN n) fun e w' => e = .returned v ∧ w.drewN n = w') : Calls P f args (w.drewN n) fun e w'' => e = .returned v ∧ ∃ m, w'' = w.drewN m :=
  h.mono fun _ _ ⟨he, hm⟩ => ⟨he, n, hm.symm⟩
end Go.Proofs.YtbdciiiimdbmkaaGreat

namespace Go.Proofs.YtbdciiiimdbmkaaGreat
open Go.RowKit
namespace Bm
/-- The table's cells. -/
def cellsM (ls : List Nat) (log : Nat) : List Cel := (List.range (2 ^ log)).map fun p => (symAt ls log p, bitsAt ls log p, baseAt ls log p)
/-- Behind K symbols. -/
def ph1 (ls : List Nat) (log K : Nat) : List Cel := (List.range (2 ^ log)).map fun p => ((if invL log p < K then symAt ls log p else 0), 0, 0)
/-- Behind all numbers of the symbols ahead of s, and of s up to place i. -/
def ph2 (ls : List Nat) (log s i : Nat) : List Cel := (List.range (2 ^ log)).map fun p => if symAt ls log p < s ∨ (symAt ls log p = s ∧ p < i) then (symAt ls log p, bitsAt ls log p, baseAt ls log p) else (symAt ls log p, 0, 0)
theorem cellsM_length (ls : List Nat) (log : Nat) : (cellsM ls log).length = 2 ^ log := by simp [cellsM]
theorem ph1_length (ls : List Nat) (log K : Nat) : (ph1 ls log K).length = 2 ^ log := by simp [ph1]
theorem ph2_length (ls : List Nat) (log s i : Nat) : (ph2 ls log s i).length = 2 ^ log := by simp [ph2]
theorem cellsM_get (ls : List Nat) (log p : Nat) (h : p < (cellsM ls log).length) : (cellsM ls log)[p] = (symAt ls log p, bitsAt ls log p, baseAt ls log p) := by simp [cellsM]
theorem ph1_zero (ls : List Nat) (log : Nat) : ph1 ls log 0 = List.replicate (2 ^ log) (0, 0, 0) := by
  unfold ph1
  simp only [Nat.not_lt_zero, if_false]
  rw [List.map_const', List.length_range]
theorem ph1_next (ls : List Nat) (log K s : Nat) (h5 : 5 ≤ log) (h9 : log ≤ 9) (hK : K < 2 ^ log) (hs : (symsFrom 0 ls)[K]? = some s) :
    ∃ h : posL log K < (ph1 ls log K).length, ph1 ls log (K + 1) = (ph1 ls log K).set (posL log K) (s, (ph1 ls log K)[posL log K].2) := by
  have hp := pos_lt log K
  refine ⟨by rw [ph1_length]; exact hp, ?_⟩
  have hi := inv_pos log K h5 h9 hK
  apply List.ext_getElem
  · simp [ph1_length]
  · intro p h1 h2
    have hpp : p < 2 ^ log := by rw [ph1_length] at h1; exact h1
    rw [List.getElem_set]
    simp only [ph1, List.getElem_map, List.getElem_range]
    by_cases e : posL log K = p
    · subst e
      rw [if_pos rfl, hi, if_pos (by omega)]
      unfold symAt
      rw [hi, hs]
      rfl
    · rw [if_neg e]
      have hne : invL log p ≠ K := fun h => e (by rw [← h]; exact pos_inv log p h5 h9 hpp)
      by_cases hlt : invL log p < K
      · rw [if_pos hlt, if_pos (by omega)]
      · rw [if_neg hlt, if_neg (by omega)]
theorem ph1_all (ls : List Nat) (log : Nat) : ph1 ls log (2 ^ log) = ph2 ls log 0 0 := by
  unfold ph1 ph2
  apply List.map_congr_left
  intro p _
  rw [if_pos (inv_lt log p), if_neg (by omega)]
theorem ph2_none (ls : List Nat) (log s i : Nat) (h : symAt ls log i ≠ s) : ph2 ls log s (i + 1) = ph2 ls log s i := by
  unfold ph2
  apply List.map_congr_left
  intro p _
  by_cases e : p = i
  · subst e
    congr 1
    apply propext
    constructor <;> intro h1 <;> omega
  · congr 1
    apply propext
    constructor <;> intro h1 <;> omega
theorem ph2_some (ls : List Nat) (log i : Nat) : ph2 ls log (symAt ls log i) (i + 1) = (ph2 ls log (symAt ls log i) i).set i (symAt ls log i, bitsAt ls log i, baseAt ls log i) := by
  apply List.ext_getElem
  · simp [ph2_length]
  · intro p h1 h2
    rw [List.getElem_set]
    simp only [ph2, List.getElem_map, List.getElem_range]
    by_cases e : i = p
    · subst e
      rw [if_pos rfl, if_pos (by omega)]
    · rw [if_neg e]
      congr 1
      apply propext
      constructor <;> intro h3 <;> omega
theorem ph2_at (ls : List Nat) (log s i : Nat) (hs : symAt ls log i = s) (h : i < (ph2 ls log s i).length) : (ph2 ls log s i)[i] = (s, 0, 0) := by
  subst hs
  simp only [ph2, List.getElem_map, List.getElem_range]
  rw [if_neg (by omega)]
theorem ph2_sym (ls : List Nat) (log s i p : Nat) (h : p < (ph2 ls log s i).length) : (ph2 ls log s i)[p].1 = symAt ls log p := by
  simp only [ph2, List.getElem_map, List.getElem_range]
  split <;> rfl
theorem ph2_over (ls : List Nat) (log s : Nat) : ph2 ls log s (2 ^ log) = ph2 ls log (s + 1) 0 := by
  unfold ph2
  apply List.map_congr_left
  intro p hp
  have := List.mem_range.1 hp
  congr 1
  apply propext
  constructor <;> intro h1 <;> omega
theorem ph2_skip (ls : List Nat) (log s : Nat) (h : FairN ls log) (hs : ls[s]?.getD 0 = 0) : ph2 ls log s 0 = ph2 ls log (s + 1) 0 := by
  unfold ph2
  apply List.map_congr_left
  intro p hp
  have hne : symAt ls log p ≠ s := fun e => by
    obtain ⟨h1, h2⟩ := tab_sym ls log p h (List.mem_range.1 hp)
    have h3 : ls[symAt ls log p]?.getD 0 = 0 := by rw [e]; exact hs
    rw [List.getElem?_eq_getElem h1, Option.getD_some] at h3
    omega
  congr 1
  apply propext
  constructor <;> intro h1 <;> omega
theorem ph2_all (ls : List Nat) (log : Nat) (h : FairN ls log) : ph2 ls log ls.length 0 = cellsM ls log := by
  unfold ph2 cellsM
  apply List.map_congr_left
  intro p hp
  obtain ⟨h1, _⟩ := tab_sym ls log p h (List.mem_range.1 hp)
  rw [if_pos (Or.inl h1)]
theorem tab_getElem (ls : List Nat) (log p : Nat) (hp : p < 2 ^ log) (h : p < (tab ls log).length) : (tab ls log)[p] = symAt ls log p := by
  have := tab_get ls log p hp
  rw [List.getElem?_eq_getElem h] at this
  injection this
end Bm
theorem made_c3 (n : Nat) : (madeCells #[Value.int .u8 0, .int .i64 0, .int .i64 0] (n * 3)).toList = c3 (List.replicate n (0, 0, 0)) := by
  apply List.ext_getElem
  · simp [madeCells, c3_length]
  · intro i h1 h2
    have hi : i < n * 3 := by simpa [madeCells] using h1
    have hq : i / 3 < (List.replicate n ((0, 0, 0) : Cel)).length := by simp; omega
    obtain ⟨e0, e1, e2⟩ := c3_get (List.replicate n (0, 0, 0)) (i / 3) hq
    rw [List.getElem_replicate] at e0 e1 e2
    have hl : (madeCells #[Value.int .u8 0, .int .i64 0, .int .i64 0] (n * 3)).toList[i] = (#[Value.int .u8 0, .int .i64 0, .int .i64 0] : Array Value)[i % 3]! := by simp [madeCells]
    have hr : i % 3 = 0 ∨ i % 3 = 1 ∨ i % 3 = 2 := by omega
    rw [hl, ← Option.some_inj, ← List.getElem?_eq_getElem h2]
    rcases hr with h | h | h
    · rw [h, show i = i / 3 * 3 by omega, e0]; rfl
    · rw [h, show i = i / 3 * 3 + 1 by omega, e1]; rfl
    · rw [h, show i = i / 3 * 3 + 2 by omega, e2]; rfl
theorem info_cell : (Tryz.prog.info? 144).map (fun i => (i.zero, i.size, i.bytes)) = some (some (.agg #[.int .u8 0, .int .i64 0, .int .i64 0]), 3, 24) := by kernel_rfl
theorem row_of_own3 {w : World} {base g n : Nat} (h : w.ownsRow base 144 3 (.slice (some ⟨g, 0, none⟩) n n) n (madeCells #[Value.int .u8 0, .int .i64 0, .int .i64 0] (n * 3)).toList) : Row w g 144 (c3 (List.replicate n (0, 0, 0))) := by
  rcases h.2 with ⟨hv, _⟩ | ⟨g', cap, cur, hv, hb, hh, h1, h2, h3, h4⟩
  · cases hv
  · injection hv with e1 e2 e3
    injection e1 with e1
    injection e1 with e1
    subst e1 e3
    have e : cur.toList = c3 (List.replicate n (0, 0, 0)) := by
      rw [List.take_of_length_le (by rw [Array.length_toList]; omega)] at h4
      rw [h4, made_c3]
    unfold Row
    rw [← e, Array.toArray_toList]
    exact hh
namespace Bm
theorem leads_int (ls : List Nat) (log st s p : Nat) (hp : p < (cellsM ls log).length) : Leads (st : Int) s (cellsM ls log)[p] ↔ leads ls log st s p := by
  rw [cellsM_get]
  unfold Leads leads
  dsimp only
  constructor
  · rintro ⟨h1, h2, h3⟩
    refine ⟨h1, by omega, ?_⟩
    have : (st : Int) < ((baseAt ls log p + 2 ^ bitsAt ls log p : Nat) : Int) := by rw [Int.natCast_add]; exact h3
    omega
  · rintro ⟨h1, h2, h3⟩
    refine ⟨h1, by omega, ?_⟩
    have : (st : Int) < ((baseAt ls log p + 2 ^ bitsAt ls log p : Nat) : Int) := by omega
    rw [Int.natCast_add] at this
    exact this
theorem back_leads (ls : List Nat) (log st s p : Nat) (h : backP ls log st s = some p) : p < 2 ^ log ∧ leads ls log st s p := by
  unfold backP at h
  have h1 := List.find?_some h
  have h2 := List.mem_range.1 (List.mem_of_find?_eq_some h)
  exact ⟨h2, of_decide_eq_true h1⟩
end Bm
theorem cells_small (ls : List Nat) (log : Nat) (h : Bm.FairN ls log) : ∀ t ∈ Bm.cellsM ls log, t.1 < 256 ∧ t.2.1 ≤ 20 ∧ t.2.2 ≤ 1000000000 := by
  intro t ht
  unfold Bm.cellsM at ht
  obtain ⟨p, hp, rfl⟩ := List.mem_map.1 ht
  have hp' := List.mem_range.1 hp
  obtain ⟨h1, _⟩ := Bm.tab_sym ls log p h hp'
  have h2 := Bm.bits_at ls log p h hp'
  have h3 := Bm.base_at ls log p h hp'
  have h9 : 2 ^ log ≤ 2 ^ 9 := Nat.pow_le_pow_right (by omega) h.high
  have h4 := h.len
  have h5 := h.high
  have e9 : (2 : Nat) ^ 9 = 512 := by decide
  refine ⟨?_, ?_, ?_⟩
  · show Bm.symAt ls log p < 256; omega
  · show Bm.bitsAt ls log p ≤ 20; omega
  · show Bm.baseAt ls log p ≤ 1000000000
    have h6 := Nat.le_trans (Nat.le_add_right _ _) h3
    omega

end Go.Proofs.YtbdciiiimdbmkaaGreat

namespace Go.Proofs.YtbdciiiimdbmkaaGreat
open Go.RowKit

theorem c3_two (l : List Cel) (i s B Z : Nat) (h : i < l.length) (hl : l[i] = (s, 0, 0)) : ((c3 l).set (i * 3 + 1) (.int .i64 (B : Int))).set (i * 3 + 2) (.int .i64 (Z : Int)) = c3 (l.set i (s, B, Z)) := by
  have h1 := (c3_set l i h 0 B 0).2.1
  rw [hl] at h1
  rw [h1]
  have hl2 : i < (l.set i (s, B, 0)).length := by simpa using h
  have h2 := (c3_set (l.set i (s, B, 0)) i hl2 0 0 Z).2.2
  rw [List.getElem_set_self, List.set_set] at h2
  exact h2
theorem step_int (a S : Nat) : ((a : Int) + (S : Int) / 2 + (S : Int) / 8 + 3) % (S : Int) = (((a + (S / 2 + S / 8 + 3)) % S : Nat) : Int) := by
  rw [Int.natCast_emod]
  congr 1
  omega
set_option maxHeartbeats 2000000 in
set_option maxRecDepth 100000 in
theorem jbuild_any (A : Option Addr) (c : Nat) (ls : List Nat) (log : Nat) (w : World) (hf : Bm.FairN ls log) (hr : Reads w A (i64s ls)) :
    Calls Tryz.prog 68 #[.slice A ls.length c, .int .i64 (log : Int)] w fun e w' => ∃ g, e = .returned (.slice (some ⟨g, 0, none⟩) (2 ^ log) (2 ^ log)) ∧ w.heap.size ≤ g ∧ Row w' g 144 (c3 (Bm.cellsM ls log)) ∧ Below w.heap.size w w' := by
  obtain ⟨i0, hi, hz0, hz1, hz2⟩ := info_parts info_cell
  have Hf := Lib.hid hf
  have hlog5 := hf.low
  have hlog9 := hf.high
  have hlen := hf.len
  obtain ⟨S, hS⟩ : ∃ S, S = 2 ^ log := ⟨_, rfl⟩
  have hS32 : 32 ≤ S := by rw [hS]; exact Nat.pow_le_pow_right (n := 2) (by omega) hlog5
  have hS512 : S ≤ 512 := by rw [hS]; exact Nat.pow_le_pow_right (n := 2) (by omega) hlog9
  have hsum : ls.sum = S := by rw [hS]; exact hf.sum
  have hls : ∀ s (h : s < ls.length), ∃ g off, A = some ⟨g, off, none⟩ ∧ w.cell? ⟨g, off + s, none⟩ = some (.int .i64 (ls[s] : Int)) ∧ g < w.heap.size := fun s h => by
    obtain ⟨g, off, e, hc⟩ := hr (by intro e; have := congrArg List.length e; rw [i64s_length, List.length_nil] at this; omega)
    have h1 := hc s (by rw [i64s_length]; exact h)
    rw [i64s_get? ls s h] at h1
    exact ⟨g, off, e, h1, World.block_lt_of_cell? w _ h1⟩
  have hsz := Lib.hid (fun W => hsize_any (log : Int) W (by omega))
  rw [Int.toNat_natCast, ← hS] at hsz
  have Hls := Lib.hid hls
  have HS := Lib.hid hS
  have Hsum := Lib.hid hsum
  clear hf hr hls hS hsum
  obtain ⟨g0, hg0⟩ : ∃ g, g = w.heap.size := ⟨_, rfl⟩
  have Hg0 := Lib.hid hg0
  clear hg0
  rw [← HS.out]
  go_enter Tryz.func68, Tryz.ntmps68
  go_wp2_with fail
  refine (hsz.out w).mono ?_
  rintro e w' ⟨rfl, rfl⟩
  go_wp2_with (at_make; refine wpList_make_full _ rfl _ _ 117 rfl w.heap.size 144 i0 (.agg #[.int .u8 0, .int .i64 0, .int .i64 0]) 3 Tryz.underlying117 hi hz0 hz1 .i64 .i64 _ _ S rfl rfl ?c1 ?c1 ?c2 ?c3 ?c4 ?_)
  case c1 => rfl
  case c2 => first | omega | (rw [hz2]; omega)
  case c3 => unfold maxLen; omega
  try case c4 => exact Nat.le_refl _
  intro w1 hown1 hg1
  have hb1 := below_of_grown hg1
  have hr0 := row_of_own3 hown1
  rw [← Hg0.out] at hr0 ⊢
  have hr1 : Row w1 g0 144 (c3 (Bm.ph1 ls log 0)) := by rw [Bm.ph1_zero, ← HS.out]; exact hr0
  have Hb1 := Lib.hid hb1
  have Hr1 := Lib.hid hr1
  clear hown1 hg1 hr0 hb1 hr1 hi hz0 hz1 hz2
  go_wp2
  go_loopw [7, 8, 9] (fun a s _ wr => ∃ si : Nat, si ≤ ls.length ∧ a = .int .i64 (Bm.posL log (ls.take si).sum : Int) ∧ s = .int .i64 (si : Int) ∧ Hid (Row wr g0 144 (c3 (Bm.ph1 ls log (ls.take si).sum))) ∧ Hid (Below w.heap.size w wr)) (fun _ s _ _ => ls.length - (intOf s).toNat)
  case atStart => exact ⟨0, by omega, by simp [Bm.posL], rfl, Lib.hid (by rw [List.take_zero, List.sum_nil]; exact Hr1.out), Hb1⟩
  case round =>
    obtain ⟨si, hsi, rfl, rfl, hrow, hbel⟩ := hrel
    clear Hr1 Hb1
    by_cases hlt : si < ls.length
    · obtain ⟨g, off, rfl, hcell, hgl⟩ := Hls.out si hlt
      obtain ⟨K, hK⟩ : ∃ K, K = (ls.take si).sum := ⟨_, rfl⟩
      have hK1 : (ls.take (si + 1)).sum = K + ls[si] := by rw [List.take_succ_eq_append_getElem hlt, List.sum_append_nat, hK]; simp
      have hKS : K + ls[si] ≤ S := by
        rw [← hK1, ← Hsum.out, ← List.take_append_drop (si + 1) ls, List.sum_append_nat]
        simp
      have hsy : ∀ k, k < ls[si] → (Bm.symsFrom 0 ls)[K + k]? = some si := fun k hk => by
        have h1 := Bm.symsFrom_get ls 0 si k hlt hk
        rw [Nat.zero_add, ← hK] at h1
        exact h1
      rw [← hK] at hrow ⊢
      have Hsy := Lib.hid hsy
      have HK1 := Lib.hid hK1
      have Hcell := Lib.hid hcell
      clear hsy hK1 hK hcell
      generalize ls[si] = n at Hsy HK1 hKS Hcell
      have hn512 : n ≤ 512 := by omega
      go_wp2
      go_loopw [7, 9] (fun a k wr => ∃ ki : Nat, ki ≤ n ∧ a = .int .i64 (Bm.posL log (K + ki) : Int) ∧ k = .int .i64 (ki : Int) ∧ Hid (Row wr g0 144 (c3 (Bm.ph1 ls log (K + ki)))) ∧ Hid (Below w.heap.size w wr)) (fun _ k _ => n - (intOf k).toNat)
      case atStart => exact ⟨0, by omega, rfl, rfl, hrow, hbel⟩
      case round =>
        obtain ⟨ki, hki, rfl, rfl, hrow2, hbel2⟩ := hrel
        clear hrow hbel
        have c0 := (hbel2.out.cell (p := ⟨g, off + si, none⟩) hgl).trans Hcell.out
        by_cases hkn : ki < n
        · have hpl : Bm.posL log (K + ki) < S := by rw [HS.out]; exact Bm.pos_lt log _
          obtain ⟨hpn, hnx⟩ := Bm.ph1_next ls log (K + ki) si hlog5 hlog9 (by rw [← HS.out]; omega) (Hsy.out ki hkn)
          have hps := Bm.pos_succ log (K + ki)
          rw [← HS.out] at hps
          have hst : Bm.stepL log = S / 2 + S / 8 + 3 := by unfold Bm.stepL; rw [← HS.out]
          rw [hst, show K + ki + 1 = K + (ki + 1) by omega] at hps
          rw [show K + ki + 1 = K + (ki + 1) by omega] at hnx
          have hcs := (c3_set (Bm.ph1 ls log (K + ki)) (Bm.posL log (K + ki)) hpn si 0 0).1
          rw [← hnx] at hcs
          have hget := (c3_get (Bm.ph1 ls log (K + ki)) (Bm.posL log (K + ki)) hpn).1
          have c1 := (hrow2.out.cell (Bm.posL log (K + ki) * 3)).trans hget
          have f1 := hrow2.out.free (Bm.posL log (K + ki) * 3)
          have Hset := Lib.hid (hrow2.out.set_ (Bm.posL log (K + ki) * 3) (.int .u8 (si : Int)))
          rw [hcs] at Hset
          generalize (Bm.ph1 ls log (K + ki))[Bm.posL log (K + ki)].1 = old at c1
          have Hps := Lib.hid hps
          clear hnx hps hst hcs hget hpn hrow2 HK1 Hsy
          generalize Bm.posL log (K + ki) = a at hpl c1 f1 Hset Hps ⊢
          go_wp2
          go_roundw
          case rel =>
            refine ⟨ki + 1, by omega, ?_, by go_num, Hset, Lib.hid (hbel2.out.setCell (by rw [Hg0.out]; exact Nat.le_refl _) _)⟩
            rw [Hps.out, step_int]
          case measure => simp [intOf]; omega
        · obtain rfl : ki = n := by omega
          rw [← HK1.out] at hrow2 ⊢
          clear Hsy
          go_wp2
          go_roundw
          case rel => exact ⟨si + 1, by omega, rfl, by go_num, hrow2, hbel2⟩
          case measure => simp [intOf]; omega
    · obtain rfl : si = ls.length := by omega
      rw [List.take_length, Hsum.out, HS.out, Bm.ph1_all] at hrow
      have Hph := hrow
      clear hrow
      generalize Bm.posL log (ls.take ls.length).sum = alast
      go_wp2
      go_loopw [10, 11, 12] (fun s _ _ wr => ∃ si : Nat, si ≤ ls.length ∧ s = .int .i64 (si : Int) ∧ Hid (Row wr g0 144 (c3 (Bm.ph2 ls log si 0))) ∧ Hid (Below w.heap.size w wr)) (fun s _ _ _ => ls.length - (intOf s).toNat)
      case atStart => exact ⟨0, by omega, rfl, Hph, hbel⟩
      case round =>
        obtain ⟨si, hsi, rfl, hrow, hbel⟩ := hrel
        clear Hph
        by_cases hlt : si < ls.length
        · obtain ⟨g, off, rfl, hcell, hgl⟩ := Hls.out si hlt
          have hng : ls[si]?.getD 0 = ls[si] := by simp [hlt]
          have hnS : ls[si] ≤ 512 := by
            have h1 : (ls.take (si + 1)).sum = (ls.take si).sum + ls[si] := by rw [List.take_succ_eq_append_getElem hlt, List.sum_append_nat]; simp
            have h2 : (ls.take (si + 1)).sum + (ls.drop (si + 1)).sum = S := by rw [← List.sum_append_nat, List.take_append_drop]; exact Hsum.out
            omega
          have Hng := Lib.hid hng
          have Hcell := Lib.hid hcell
          have c0 := (hbel.out.cell (p := ⟨g, off + si, none⟩) hgl).trans hcell
          clear hcell hng
          generalize ls[si] = n at Hng hnS Hcell c0
          go_wp2
          clear c0
          go_loopw [11, 12] (fun x i wr => ∃ ii : Nat, ii ≤ S ∧ i = .int .i64 (ii : Int) ∧ x = .int .i64 ((n + ((Bm.tab ls log).take ii).count si : Nat) : Int) ∧ Hid (Row wr g0 144 (c3 (Bm.ph2 ls log si ii))) ∧ Hid (Below w.heap.size w wr)) (fun _ i _ => S - (intOf i).toNat)
          case atStart => exact ⟨0, by omega, rfl, by simp, hrow, hbel⟩
          case round =>
            obtain ⟨ii, hii, rfl, rfl, hrow2, hbel2⟩ := hrel
            clear hrow hbel
            have c0 := (hbel2.out.cell (p := ⟨g, off + si, none⟩) hgl).trans Hcell.out
            have hxc := Bm.count_take_all (Bm.tab ls log) ii si
            have htc := Bm.tab_count ls log si Hf.out
            rw [Hng.out] at htc
            rw [htc] at hxc
            by_cases hiS : ii < S
            · by_cases hn0 : 0 < n
              · have hiS2 : ii < 2 ^ log := by rw [← HS.out]; exact hiS
                have hil : ii < (Bm.ph2 ls log si ii).length := by rw [Bm.ph2_length]; exact hiS2
                have hget := (c3_get (Bm.ph2 ls log si ii) ii hil).1
                rw [Bm.ph2_sym] at hget
                have c1 := (hrow2.out.cell (ii * 3)).trans hget
                have hl : ii < (Bm.tab ls log).length := by rw [Bm.tab_length]; exact hiS2
                have hts := Bm.count_take_succ (Bm.tab ls log) ii si hl
                rw [Bm.tab_getElem ls log ii hiS2 hl] at hts
                by_cases hsm : Bm.symAt ls log ii = si
                · have hat := Bm.ph2_at ls log si ii hsm hil
                  have hsome := Bm.ph2_some ls log ii
                  obtain ⟨n', e1, e2, e3, e4, e5, e6⟩ := Bm.num_ok ls log ii Hf.out hiS2
                  have hnum : Bm.numAt ls log ii = n + ((Bm.tab ls log).take ii).count si := by
                    unfold Bm.numAt Bm.rankAt
                    rw [hsm, Hng.out]
                  have hle := Bm.wid_le_of _ _ e6
                  have hge := Bm.wid_one (Bm.numAt ls log ii) (by omega)
                  have hlo := Bm.base_low log _ (by omega) e6
                  have hhi := Bm.base_high log _ (by omega) e6
                  have hpp : 2 ^ (log + 1) = 2 ^ log * 2 := Nat.pow_succ 2 log
                  rw [hpp, ← HS.out] at e6 hhi
                  rw [← HS.out] at hlo
                  have hB9 : Bm.bitsX log (Bm.numAt ls log ii) ≤ 9 := by unfold Bm.bitsX; omega
                  have hBe : (log : Int) - (Bm.wid (Bm.numAt ls log ii) : Int) + 1 = (Bm.bitsX log (Bm.numAt ls log ii) : Int) := by unfold Bm.bitsX; omega
                  have hZe : Bm.baseAt ls log ii = Bm.numAt ls log ii * 2 ^ Bm.bitsX log (Bm.numAt ls log ii) - S := by unfold Bm.baseAt Bm.baseX; rw [HS.out]
                  have hBa : Bm.bitsAt ls log ii = Bm.bitsX log (Bm.numAt ls log ii) := rfl
                  have hsz2 := Lib.hid (fun W => hsize_any (Bm.bitsX log (Bm.numAt ls log ii) : Int) W (by omega))
                  rw [Int.toNat_natCast] at hsz2
                  have hwd := Lib.hid (fun W => rwidth_wid (Bm.numAt ls log ii) W (by omega))
                  have hXP : Bm.numAt ls log ii * 2 ^ Bm.bitsX log (Bm.numAt ls log ii) ≤ S * 2 := by
                    rw [Nat.add_mul, Nat.one_mul] at hhi
                    exact Nat.le_trans (Nat.le_add_right _ _) hhi
                  rw [hBa, hZe] at hsome
                  rw [hsm] at hsome
                  have htwo := c3_two (Bm.ph2 ls log si ii) ii si (Bm.bitsX log (Bm.numAt ls log ii)) (Bm.numAt ls log ii * 2 ^ Bm.bitsX log (Bm.numAt ls log ii) - S) hil hat
                  rw [← hsome] at htwo
                  have hset := (hrow2.out.set_ (ii * 3 + 1) (.int .i64 (Bm.bitsX log (Bm.numAt ls log ii) : Int))).set_ (ii * 3 + 2) (.int .i64 ((Bm.numAt ls log ii * 2 ^ Bm.bitsX log (Bm.numAt ls log ii) - S : Nat) : Int))
                  rw [htwo] at hset
                  have Hset := Lib.hid hset
                  obtain ⟨g0', g1, g2⟩ := c3_get (Bm.ph2 ls log si ii) ii hil
                  rw [hat] at g1 g2
                  have c2 := (hrow2.out.cell (ii * 3 + 1)).trans g1
                  have c2b := (hrow2.out.cell (ii * 3 + 2)).trans g2
                  dsimp only at c2 c2b
                  have f2 := hrow2.out.free (ii * 3 + 1)
                  have f3 := hrow2.out.free (ii * 3 + 2)
                  rw [if_pos hsm] at hts
                  rw [hsm] at c1
                  have Hts := Lib.hid hts
                  have hne : ((si : Int) != (si : Int)) = false := by simp
                  have Hnum := Lib.hid hnum
                  clear hset htwo hat hsome hZe hBa hhi hpp e1 e2 e3 e4 e5 hts hnum hsm hget hil hl hiS2 htc g0' g1 g2 hxc hrow2
                  rw [← Hnum.out]
                  generalize Bm.numAt ls log ii = X at e6 hle hge hlo hB9 hBe hsz2 hwd hXP Hset Hnum ⊢
                  generalize Bm.wid X = wX at hle hge hBe hwd
                  generalize Bm.bitsX log X = B at hlo hB9 hBe hsz2 hXP Hset
                  generalize 2 ^ B = P at hlo hsz2 hXP Hset
                  obtain ⟨M, hM⟩ : ∃ M, M = X * P := ⟨_, rfl⟩
                  have hMi : (X : Int) * (P : Int) = (M : Int) := by rw [hM, Int.natCast_mul]
                  rw [← hM] at hlo hXP Hset
                  obtain ⟨Z, hZ⟩ : ∃ Z, Z = M - S := ⟨_, rfl⟩
                  have hZi : (M : Int) - (S : Int) = (Z : Int) := by omega
                  rw [← hZ] at Hset
                  clear hM hZ
                  go_wp2_with fail
                  refine (hwd.out wr).mono ?_
                  rintro e w' ⟨rfl, rfl⟩
                  go_wp2_with fail
                  refine (hsz2.out _).mono ?_
                  rintro e w' ⟨rfl, rfl⟩
                  go_wp2
                  go_roundw
                  case rel =>
                    refine ⟨ii + 1, by omega, by go_num, ?_, Hset, Lib.hid ((hbel2.out.setCell (by rw [Hg0.out]; exact Nat.le_refl _) _).setCell (by rw [Hg0.out]; exact Nat.le_refl _) _)⟩
                    rw [Hts.out, ← Nat.add_assoc, ← Hnum.out]
                    go_num
                  case measure => simp [intOf]; omega
                · have hnone := Bm.ph2_none ls log si ii hsm
                  rw [if_neg hsm] at hts
                  have hts := hts.trans (Nat.add_zero _)
                  have hne : ((Bm.symAt ls log ii : Int) != (si : Int)) = true := by simp; omega
                  have Hts := Lib.hid hts
                  have Hnone := Lib.hid hnone
                  have hsb : Bm.symAt ls log ii < 256 := by
                    obtain ⟨h1, _⟩ := Bm.tab_sym ls log ii Hf.out hiS2
                    omega
                  clear hts hnone hsm hget hil hl hiS2 htc
                  generalize ((Bm.tab ls log).take ii).count si = q at hxc Hts ⊢
                  generalize Bm.symAt ls log ii = sy at c1 hne hsb
                  go_wp2
                  go_roundw
                  case rel => exact ⟨ii + 1, by omega, by go_num, by rw [Hts.out], by rw [Hnone.out]; exact hrow2, hbel2⟩
                  case measure => simp [intOf]; omega
              · obtain rfl : n = 0 := by omega
                have h00 : ii = 0 ∨ Hid (Row wr g0 144 (c3 (Bm.ph2 ls log (si + 1) 0))) := by
                  right
                  have hk : ∀ k, k ≤ 2 ^ log → Bm.ph2 ls log si k = Bm.ph2 ls log si 0 := fun k => by
                    induction k with
                    | zero => intro _; rfl
                    | succ k ih =>
                      intro hk1
                      rw [Bm.ph2_none ls log si k (fun e => ?_), ih (by omega)]
                      obtain ⟨h1, h2⟩ := Bm.tab_sym ls log k Hf.out (by omega)
                      have h3 := Hng.out
                      rw [← e, List.getElem?_eq_getElem h1, Option.getD_some] at h3
                      omega
                  rw [hk ii (by rw [← HS.out]; exact hii), Bm.ph2_skip ls log si Hf.out Hng.out] at hrow2
                  exact hrow2
                have hrw : Hid (Row wr g0 144 (c3 (Bm.ph2 ls log (si + 1) 0))) := by
                  rcases h00 with h | h
                  · subst h
                    rw [Bm.ph2_skip ls log si Hf.out Hng.out] at hrow2
                    exact hrow2
                  · exact h
                clear h00 hrow2 htc hxc
                generalize 0 + ((Bm.tab ls log).take ii).count si = q
                go_wp2
                go_roundw
                case rel => exact ⟨si + 1, by omega, by go_num, hrw, hbel2⟩
                case measure => simp [intOf]; omega
            · obtain rfl : ii = S := by omega
              rw [HS.out, Bm.ph2_over] at hrow2
              clear htc hxc
              generalize n + ((Bm.tab ls log).take ii).count si = q
              go_wp2
              go_roundw
              case rel => exact ⟨si + 1, by omega, by go_num, hrow2, hbel2⟩
              case measure => simp [intOf]; omega
        · obtain rfl : si = ls.length := by omega
          rw [Bm.ph2_all ls log Hf.out] at hrow
          go_wp2
          go_ret
          exact ⟨g0, rfl, by rw [Hg0.out]; exact Nat.le_refl _, hrow.out, hbel.out⟩
end Go.Proofs.YtbdciiiimdbmkaaGreat

namespace Go.Proofs.YtbdciiiimdbmkaaGreat
open Go.RowKit
namespace Bm
theorem fair_n (l : List Int) (log : Int) (h : Fair l log) : FairN (l.map Int.toNat) log.toNat := by
  obtain ⟨h1, h2, h3, h4, h5⟩ := h
  have hs : ∀ l : List Int, (∀ x ∈ l, 0 ≤ x ∧ x ≤ 1000) → (((l.map Int.toNat).sum : Nat) : Int) = l.sum := fun l => by
    induction l with
    | nil => simp
    | cons a l ih =>
      intro hh
      have := hh a List.mem_cons_self
      rw [List.map_cons, List.sum_cons, List.sum_cons, Int.natCast_add, ih (fun x hx => hh x (List.mem_cons_of_mem _ hx))]
      omega
  refine ⟨by omega, by omega, by simpa using h3, ?_⟩
  have := hs l h4
  rw [h5] at this
  exact Int.ofNat_inj.1 this
theorem fair_map (l : List Int) (log : Int) (h : Fair l log) : (l.map Int.toNat).map (fun n : Nat => (n : Int)) = l := by
  rw [List.map_map]
  have : ∀ l : List Int, (∀ x ∈ l, 0 ≤ x ∧ x ≤ 1000) → l.map ((fun n : Nat => (n : Int)) ∘ Int.toNat) = l := fun l => by
    induction l with
    | nil => simp
    | cons a l ih =>
      intro hh
      have := hh a List.mem_cons_self
      rw [List.map_cons, ih (fun x hx => hh x (List.mem_cons_of_mem _ hx))]
      congr 1
      simp only [Function.comp_apply]
      omega
  exact this l h.2.2.2.1
/-- What Cell answers. -/
def cellA (ls : List Nat) (log : Nat) (st : Int) : Cel := if 0 ≤ st ∧ st < ((2 ^ log : Nat) : Int) then (symAt ls log st.toNat, bitsAt ls log st.toNat, baseAt ls log st.toNat) else (0, 0, 0)
/-- May these be a state and the bits behind it? -/
def nextB (ls : List Nat) (log : Nat) (st more : Int) : Bool := decide (0 ≤ st ∧ st < ((2 ^ log : Nat) : Int) ∧ 0 ≤ more ∧ more < ((2 ^ bitsAt ls log st.toNat : Nat) : Int))
def nextA (ls : List Nat) (log : Nat) (st more : Int) : Int := if nextB ls log st more then (baseAt ls log st.toNat : Int) + more else 0
/-- The state ahead, the bits that lead on, how many; none: there is no such state. -/
def backA (ls : List Nat) (log : Nat) (st : Int) (s : Nat) : Option (Nat × Nat × Nat) :=
  if 0 ≤ st ∧ st < ((2 ^ log : Nat) : Int) then (backP ls log st.toNat s).map fun p => (p, st.toNat - baseAt ls log p, bitsAt ls log p) else none
end Bm
/-- A cell as a value. -/
def celV (t : Cel) : Value := .agg #[.int .u8 (t.1 : Int), .int .i64 (t.2.1 : Int), .int .i64 (t.2.2 : Int)]
def backT : Option (Nat × Nat × Nat) → Value
  | none => .tuple #[.int .i64 0, .int .i64 0, .int .i64 0, .bool false]
  | some (p, v, k) => .tuple #[.int .i64 (p : Int), .int .i64 (v : Int), .int .i64 (k : Int), .bool true]
/-- What the calls of layer 6 answer, TB saying that a table lies at a place. -/
structure TabOk (TB : World → Addr → List Nat → Nat → Prop) : Prop where
  keep : ∀ w W p ls log, TB w p ls log → Below w.heap.size w W → TB W p ls log
  build : ∀ (A : Option Addr) (c : Nat) (l : List Int) (log : Int) (w : World), l.length ≤ 1000000 → (∀ x ∈ l, Bm.IntOk x) → Bm.IntOk log → Reads w A (i64z l) → Bm.Fair l log →
    Calls Tryz.prog 88 #[.slice A l.length c, .int .i64 log] w fun e w' => ∃ p, e = .returned (.tuple #[.pointer (some p), .bool true]) ∧ TB w' p (l.map Int.toNat) log.toNat ∧ Below w.heap.size w w'
  noBuild : ∀ (A : Option Addr) (c : Nat) (l : List Int) (log : Int) (w : World), l.length ≤ 1000000 → (∀ x ∈ l, Bm.IntOk x) → Bm.IntOk log → Reads w A (i64z l) → ¬ Bm.Fair l log →
    Calls Tryz.prog 88 #[.slice A l.length c, .int .i64 log] w fun e w' => e = .returned (.tuple #[.pointer none, .bool false]) ∧ Below w.heap.size w w'
  cell : ∀ (w : World) (p : Addr) (ls : List Nat) (log : Nat) (st : Int), Bm.FairN ls log → TB w p ls log → Bm.IntOk st →
    Calls Tryz.prog 124 #[.pointer (some p), .int .i64 st] w fun e w' => e = .returned (.tuple #[celV (Bm.cellA ls log st), .bool (decide (0 ≤ st ∧ st < ((2 ^ log : Nat) : Int)))]) ∧ Below w.heap.size w w'
  cellNil : ∀ (w : World) (st : Int), Bm.IntOk st → Calls Tryz.prog 124 #[.pointer none, .int .i64 st] w fun e w' => e = .returned (.tuple #[celV (0, 0, 0), .bool false]) ∧ Below w.heap.size w w'
  size : ∀ (w : World) (p : Addr) (ls : List Nat) (log : Nat), Bm.FairN ls log → TB w p ls log → Calls Tryz.prog 113 #[.pointer (some p)] w fun e w' => e = .returned (.int .i64 ((2 ^ log : Nat) : Int)) ∧ ∃ m, w' = w.drewN m
  sizeNil : ∀ w : World, Calls Tryz.prog 113 #[.pointer none] w fun e w' => e = .returned (.int .i64 0) ∧ ∃ m, w' = w.drewN m
  logOf : ∀ (w : World) (p : Addr) (ls : List Nat) (log : Nat), Bm.FairN ls log → TB w p ls log → Calls Tryz.prog 116 #[.pointer (some p)] w fun e w' => e = .returned (.int .i64 (log : Int)) ∧ ∃ m, w' = w.drewN m
  logNil : ∀ w : World, Calls Tryz.prog 116 #[.pointer none] w fun e w' => e = .returned (.int .i64 0) ∧ ∃ m, w' = w.drewN m
  next : ∀ (w : World) (p : Addr) (ls : List Nat) (log : Nat) (st more : Int), Bm.FairN ls log → TB w p ls log → Bm.IntOk st → Bm.IntOk more →
    Calls Tryz.prog 125 #[.pointer (some p), .int .i64 st, .int .i64 more] w fun e w' => e = .returned (.tuple #[.int .i64 (Bm.nextA ls log st more), .bool (Bm.nextB ls log st more)]) ∧ Below w.heap.size w w'
  back : ∀ (w : World) (p : Addr) (ls : List Nat) (log : Nat) (st : Int) (s : Nat), Bm.FairN ls log → TB w p ls log → Bm.IntOk st → s < 256 →
    Calls Tryz.prog 120 #[.pointer (some p), .int .i64 st, .int .u8 (s : Int)] w fun e w' => e = .returned (backT (Bm.backA ls log st s)) ∧ Below w.heap.size w w'
theorem below_of_drewN {w w' : World} (h : ∃ m, w' = w.drewN m) : Below w.heap.size w w' := by
  obtain ⟨m, rfl⟩ := h
  exact below_drewN (Below.refl _ _) m
end Go.Proofs.YtbdciiiimdbmkaaGreat

namespace Go.Proofs.YtbdciiiimdbmkaaGreat
open Go.RowKit

set_option maxRecDepth 100000 in
theorem cut_to (A : Option Addr) (L c q : Nat) (W : World) (h : q ≤ L) (hc : L ≤ c) : (Instr.slice 57 (.slice A L c) none (some (.int .i64 (q : Int))) none).run Tryz.prog W = .ok (.slice A q c) W := by
  have h1 : q ≤ c := by omega
  rcases A with _ | a
  · go_simp
  · go_simp
/-- Where a slice goes on behind q of its elements. -/
def behindA (A : Option Addr) (c q : Nat) : Option Addr := if c = q then A else A.map (·.add q)
set_option maxRecDepth 100000 in
theorem cut_from (A : Option Addr) (L c q : Nat) (W : World) (h : q ≤ L) (hc : L ≤ c) : (Instr.slice 57 (.slice A L c) (some (.int .i64 (q : Int))) none none).run Tryz.prog W = .ok (.slice (behindA A c q) (L - q) (c - q)) W := by
  have h1 : q ≤ c := by omega
  unfold behindA
  by_cases hcq : c = q
  · subst hcq
    rcases A with _ | a
    · go_simp
    · go_simp
  · rcases A with _ | a
    · go_simp
    · go_simp
theorem reads_behind {w : World} {A : Option Addr} {l : List Nat} {c q : Nat} (h : Reads w A (i64s l)) (hc : l.length ≤ c) : Reads w (behindA A c q) (i64s (l.drop q)) := fun hne => by
  have h0 : q < l.length := by
    rcases Nat.lt_or_ge q l.length with e | e
    · exact e
    · rw [List.drop_of_length_le e] at hne; simp [i64s] at hne
  obtain ⟨g, off, e, hcell⟩ := h (by intro e; have := congrArg List.length e; rw [i64s_length, List.length_nil] at this; omega)
  refine ⟨g, off + q, ?_, fun j hj => ?_⟩
  · unfold behindA
    rw [if_neg (by omega), e]
    show some _ = _
    congr 1
    unfold Addr.add
    split <;> simp_all
  · rw [i64s_length, List.length_drop] at hj
    rw [Nat.add_assoc, hcell (q + j) (by rw [i64s_length]; omega), i64s_get? _ _ (by omega), i64s_get? _ _ (by rw [List.length_drop]; omega), List.getElem_drop]
theorem reads_far {w : World} {A : Option Addr} {xs : List Value} {p : Addr} {u : Value} (h : Reads w A xs) (hA : ∀ a, A = some a → a.block ≠ p.block) : Reads (w.setCell p u) A xs := fun hx => by
  obtain ⟨g, off, e, hc⟩ := h hx
  refine ⟨g, off, e, fun j hj => ?_⟩
  rw [World.cell?_of_block (a := ⟨g, off + j, none⟩) (Below.heap_setCell w p u g (hA _ e))]
  exact hc j hj
theorem own_capA {w : World} {base n c : Nat} {A : Option Addr} {e : TypeId} {xs : List Value} (h : w.ownsRow base e 1 (.slice A n c) n xs) : n ≤ c ∧ c ≤ maxLen := by
  rcases h.2 with ⟨hv, h0⟩ | ⟨g', cap', cur, hv, hb, hh, h1, h2, _⟩
  · injection hv with _ _ e3
    subst h0 e3
    exact ⟨Nat.le_refl _, by unfold maxLen; omega⟩
  · injection hv with _ _ e3
    subst e3
    exact ⟨h1, h2⟩
theorem cell_in {w : World} {g j : Nat} {v : Value} (h : w.cell? ⟨g, j, none⟩ = some v) : g < w.heap.size := by
  rcases Nat.lt_or_ge g w.heap.size with h2 | h2
  · exact h2
  · simp [World.cell?, Array.getElem?_eq_none h2] at h
theorem quiet_leftC {P : Program} {f : FuncId} {args : Array Value} {w : World} {n : Nat} {v : Value}
    (h : Calls P f args (w.drewN n) fun e w' => e = .returned v ∧ w.drewN n = w') : Calls P f args (w.drewN n) fun e w'' => e = .returned v ∧ ∃ m, w'' = w.drewN m :=
  h.mono fun _ _ ⟨he, hm⟩ => ⟨he, n, hm.symm⟩
end Go.Proofs.YtbdciiiimdbmkaaGreat

namespace Go.Proofs.YtbdciiiimdbmkaaGreat
open Go.RowKit
namespace Bm
/-- A share's bits, as a number, and how many. -/
def hdrA (ls : List Nat) (lg : Nat) : Nat × Nat := (lg - 5 + (hdrN ls (2 ^ lg)).1 * 2 ^ 3, 3 + (hdrN ls (2 ^ lg)).2)
/-- The share at the beginning of bits, its log, how many bits are left; none: there is none. -/
def takeA (N len : Nat) : Option (List Nat × Nat × Nat) :=
  if len < 3 then none else if 4 < N % 2 ^ 3 then none else (takeN 256 (2 ^ (5 + N % 2 ^ 3)) (N / 2 ^ 3) (len - 3)).map fun t => (t.1, 5 + N % 2 ^ 3, t.2)
theorem hdrA_lt (ls : List Nat) (lg : Nat) (h : FairN ls lg) : (hdrA ls lg).1 < 2 ^ (hdrA ls lg).2 := by
  have h1 := hdr_lt ls (2 ^ lg) (Nat.le_of_eq h.sum)
  have h9 := h.high
  unfold hdrA
  dsimp only
  generalize (hdrN ls (2 ^ lg)).1 = A at h1 ⊢
  generalize (hdrN ls (2 ^ lg)).2 = k at h1 ⊢
  rw [Nat.pow_add]
  have : A * 2 ^ 3 + 2 ^ 3 ≤ 2 ^ 3 * 2 ^ k := by
    have h2 := Nat.mul_le_mul_right (2 ^ 3) h1
    rw [Nat.succ_mul, Nat.mul_comm (2 ^ k)] at h2
    exact h2
  omega
theorem hdr_bits : ∀ (l : List Nat) (rest : Nat), rest ≤ 512 → (hdrN l rest).2 ≤ 10 * l.length
  | [], rest, _ => by simp [hdrN]
  | n :: l, rest, h => by
    unfold hdrN
    split
    · simp
    · have h1 := hdr_bits l (rest - n) (by omega)
      have h2 := wid_le_of rest 10 (by omega)
      rw [List.length_cons]
      dsimp only
      omega
theorem hdrA_bits (ls : List Nat) (lg : Nat) (h : FairN ls lg) : 3 ≤ (hdrA ls lg).2 ∧ (hdrA ls lg).2 ≤ 3000 := by
  have hP := Nat.pow_le_pow_right (n := 2) (j := 9) (by omega) h.high
  have h1 := hdr_bits ls (2 ^ lg) (by omega)
  have h2 := h.len
  unfold hdrA
  dsimp only
  omega
theorem take_hdrA (ls : List Nat) (lg X m : Nat) (h : FairN ls lg) : takeA ((hdrA ls lg).1 + X * 2 ^ (hdrA ls lg).2) ((hdrA ls lg).2 + m) = some (shortL ls, lg, m) := by
  have h5 := h.low
  have h9 := h.high
  have ht := take_hdr ls (2 ^ lg) X m 256 h.sum h.len
  unfold hdrA
  dsimp only
  generalize (hdrN ls (2 ^ lg)).1 = A at ht ⊢
  generalize (hdrN ls (2 ^ lg)).2 = k at ht ⊢
  have e : lg - 5 + A * 2 ^ 3 + X * 2 ^ (3 + k) = (lg - 5) + (A + X * 2 ^ k) * 2 ^ 3 := by
    rw [Nat.pow_add, Nat.add_mul, Nat.mul_assoc X, Nat.mul_comm (2 ^ 3) (2 ^ k), Nat.add_assoc]
  have hm : (lg - 5 + (A + X * 2 ^ k) * 2 ^ 3) % 2 ^ 3 = lg - 5 := by rw [Nat.add_mul_mod_self_right]; exact Nat.mod_eq_of_lt (by omega)
  have hd : (lg - 5 + (A + X * 2 ^ k) * 2 ^ 3) / 2 ^ 3 = A + X * 2 ^ k := by
    rw [Nat.add_mul_div_right _ _ (by omega), Nat.div_eq_of_lt (by omega), Nat.zero_add]
  unfold takeA
  rw [e, hm, hd, if_neg (by omega), if_neg (by omega), show 5 + (lg - 5) = lg by omega, show 3 + k + m - 3 = k + m by omega, ht]
  rfl
theorem takeA_fair (N len : Nat) (l : List Nat) (lg e : Nat) (h : takeA N len = some (l, lg, e)) : FairN l lg ∧ e + 3 ≤ len := by
  unfold takeA at h
  split at h
  · cases h
  · split at h
    · cases h
    · next h3 h4 =>
      cases hr : takeN 256 (2 ^ (5 + N % 2 ^ 3)) (N / 2 ^ 3) (len - 3) with
      | none => rw [hr] at h; cases h
      | some t =>
        rw [hr, Option.map_some] at h
        injection h with h
        injection h with e1 h
        injection h with e2 e3
        subst e1 e2 e3
        obtain ⟨k1, k2, k3⟩ := take_fair _ _ _ _ _ _ hr
        exact ⟨⟨by omega, by omega, k2, k1⟩, by omega⟩
theorem fairN_fair (l : List Nat) (lg : Nat) (h : FairN l lg) : Fair (l.map (fun n : Nat => (n : Int))) (lg : Int) := by
  have hsum : ∀ l : List Nat, (l.map (fun n : Nat => (n : Int))).sum = ((l.sum : Nat) : Int) := fun l => by
    induction l with
    | nil => simp
    | cons a l ih => rw [List.map_cons, List.sum_cons, ih, List.sum_cons]; omega
  have hle : ∀ (l : List Nat) (x : Nat), x ∈ l → x ≤ l.sum := fun l => by
    induction l with
    | nil => intro x h; cases h
    | cons a l ih =>
      intro x hx
      rw [List.sum_cons]
      rcases List.mem_cons.1 hx with rfl | hx
      · omega
      · have := ih x hx; omega
  have h5 := h.low
  have h9 := h.high
  have hP := Nat.pow_le_pow_right (n := 2) (j := 9) (by omega) h9
  refine ⟨by omega, by omega, by rw [List.length_map]; exact h.len, ?_, by rw [hsum, h.sum, Int.toNat_natCast]⟩
  intro x hx
  obtain ⟨y, hy, rfl⟩ := List.mem_map.1 hx
  have h1 := hle l y hy
  rw [h.sum] at h1
  omega
end Bm
/-- What Take answers. -/
def TakeP (w' : World) (e : Ending) : Option (List Nat × Nat × Nat) → Prop
  | none => ∃ A c, e = .returned (.tuple #[.slice A 0 c, .int .i64 0, .bool false])
  | some t => ∃ A c, e = .returned (.tuple #[.slice A t.1.length c, .int .i64 (t.2.1 : Int), .bool true]) ∧ Reads w' A (i64s t.1)
theorem reads_lt {w : World} {A : Option Addr} {l : List Int} (h : Reads w A (i64z l)) (a : Addr) (e : A = some a) (hne : l ≠ []) : a.block < w.heap.size := by
  have h0 : 0 < l.length := List.length_pos_iff.2 hne
  obtain ⟨g, off, e2, hc⟩ := reads_iz h h0
  rw [e] at e2
  injection e2 with e2
  subst e2
  exact World.block_lt_of_cell? w _ (hc 0 h0)
end Go.Proofs.YtbdciiiimdbmkaaGreat

namespace Go.Proofs.YtbdciiiimdbmkaaGreat
open Go.RowKit
namespace Bm
def sizedB (log : Int) : Bool := decide (5 ≤ log ∧ log ≤ 9)
end Bm
set_option maxHeartbeats 400000 in
set_option maxRecDepth 100000 in
theorem nsized_any (log : Int) (w : World) : Calls Tryz.prog 100 #[.int .i64 log] w fun e w' => e = .returned (.bool (Bm.sizedB log)) ∧ w = w' := by
  by_cases h5 : 5 ≤ log
  · by_cases h9 : log ≤ 9
    · have hs : Bm.sizedB log = true := decide_eq_true ⟨h5, h9⟩
      rw [hs]
      go_enter Tryz.func100, Tryz.ntmps100
      go_wp2
      go_ret
      exact ⟨rfl, rfl⟩
    · have hs : Bm.sizedB log = false := decide_eq_false (fun h => h9 h.2)
      have h9' : decide (log ≤ 9) = false := by simpa using h9
      rw [hs]
      go_enter Tryz.func100, Tryz.ntmps100
      go_wp2
      go_ret
      exact ⟨rfl, rfl⟩
  · have hs : Bm.sizedB log = false := decide_eq_false (fun h => h5 h.1)
    have h5' : decide (5 ≤ log) = false := by simpa using h5
    rw [hs]
    go_enter Tryz.func100, Tryz.ntmps100
    go_wp2
    go_ret
    exact ⟨rfl, rfl⟩

theorem wrap_in (x : Int) (h0 : -9223372036854775808 ≤ x) (h1 : x ≤ 9223372036854775807) : wrap64 x = x := by unfold wrap64; omega
namespace Bm
theorem sum_nn (l : List Int) (h : ∀ x ∈ l, 0 ≤ x) : 0 ≤ l.sum := by
  induction l with
  | nil => simp
  | cons a l ih =>
    have h1 := ih (fun x hx => h x (List.mem_cons_of_mem _ hx))
    have h2 := h a List.mem_cons_self
    rw [List.sum_cons]; omega
theorem sum_take_le (l : List Int) (k : Nat) (h : ∀ x ∈ l, 0 ≤ x) : (l.take k).sum ≤ l.sum := by
  have h1 := sum_nn (l.drop k) (fun x hx => h x (List.mem_of_mem_drop hx))
  have h2 : l.sum = (l.take k).sum + (l.drop k).sum := by
    conv => lhs; rw [← List.take_append_drop k l]
    rw [List.sum_append_int]
  omega
theorem mem_le_sumI (l : List Int) (h : ∀ x ∈ l, 0 ≤ x) (x : Int) (hx : x ∈ l) : x ≤ l.sum := by
  induction l with
  | nil => cases hx
  | cons a l ih =>
    have h1 := sum_nn l (fun x hx => h x (List.mem_cons_of_mem _ hx))
    have h2 := h a List.mem_cons_self
    rw [List.sum_cons]
    rcases List.mem_cons.1 hx with rfl | hx
    · omega
    · have := ih (fun x hx => h x (List.mem_cons_of_mem _ hx)) hx; omega
theorem pow_log (b : Nat) (h5 : 5 ≤ b) (h9 : b ≤ 9) : 32 ≤ 2 ^ b ∧ 2 ^ b ≤ 512 :=
  ⟨Nat.pow_le_pow_right (n := 2) (i := 5) (by omega) h5, Nat.pow_le_pow_right (n := 2) (j := 9) (by omega) h9⟩
end Bm

set_option maxHeartbeats 1000000 in
set_option maxRecDepth 100000 in
theorem nfair_any (A : Option Addr) (c : Nat) (l : List Int) (log : Int) (w : World) (hl : l.length ≤ 1000000) (hok : ∀ x ∈ l, Bm.IntOk x) (_hlog : Bm.IntOk log) (hr : Reads w A (i64z l)) :
    Calls Tryz.prog 103 #[.slice A l.length c, .int .i64 log] w fun e w' => e = .returned (.bool (Bm.fairB l log)) ∧ Below w.heap.size w w' := by
  have Hr := Lib.hid hr
  obtain ⟨r, hres⟩ : ∃ r, r = Bm.fairB l log := ⟨_, rfl⟩
  rw [← hres]
  have hno : ∀ P : Prop, (Bm.Fair l log → P) → ¬ P → false = r := fun P h hp => by
    rw [hres]; symm; unfold Bm.fairB; exact decide_eq_false (fun h1 => hp (h h1))
  have Hno := Lib.hid hno
  have Hres := Lib.hid hres
  have Hok := Lib.hid hok
  have Hsz := Lib.hid (nsized_any log w)
  clear hr hres hno hok
  by_cases hs : Bm.sizedB log = true
  · obtain ⟨h5, h9⟩ : 5 ≤ log ∧ log ≤ 9 := of_decide_eq_true hs
    rw [hs] at Hsz
    clear hs
    by_cases h3 : 256 < l.length
    · have hf : false = r := Hno.out (l.length ≤ 256) (fun h => h.2.2.1) (by omega)
      have h3' : decide (256 < l.length) = true := decide_eq_true h3
      rw [← hf]
      clear hf
      go_enter Tryz.func103, Tryz.ntmps103
      go_wp2_with fail
      refine Hsz.out.mono ?_
      rintro e w' ⟨rfl, rfl⟩
      go_wp2
      go_ret
      exact ⟨rfl, Below.refl _ _⟩
    have h3' : decide (256 < l.length) = false := decide_eq_false h3
    obtain ⟨b, rfl⟩ := Int.eq_ofNat_of_zero_le (show 0 ≤ log by omega)
    have hP := Bm.pow_log b (by omega) (by omega)
    have hpd : (2 : Int) ^ b = ((2 ^ b : Nat) : Int) := by simp
    obtain ⟨P, hPe⟩ : ∃ P, P = 2 ^ b := ⟨_, rfl⟩
    rw [← hPe] at hP hpd
    have HPe := Lib.hid hPe
    clear hPe
    have hw : wrap64 (P : Int) = (P : Int) := wrap_in _ (by omega) (by omega)
    go_enter Tryz.func103, Tryz.ntmps103
    go_wp2_with fail
    refine Hsz.out.mono ?_
    rintro e w' ⟨rfl, rfl⟩
    clear Hsz
    go_wp2
    clear hpd hw
    go_loop [5, 20] (fun q i => ∃ k : Nat, k ≤ l.length ∧ i = .int .i64 (k : Int) ∧ q = .int .i64 ((P : Int) - (l.take k).sum) ∧ (l.take k).sum ≤ P ∧ ∀ x ∈ l.take k, 0 ≤ x) (fun _ i => l.length - (intOf i).toNat)
    case atStart => exact ⟨0, by omega, rfl, by go_num, by simp, by simp⟩
    case round =>
      obtain ⟨k, hk, rfl, rfl, hle, hall⟩ := hrel
      by_cases hkl : k < l.length
      · obtain ⟨g, off, rfl, hc⟩ := reads_iz Hr.out (by omega)
        have c0 := hc k hkl
        have h0 := Bm.sum_nn _ hall
        have hzb := Hok.out _ (List.getElem_mem hkl)
        have Hs := Lib.hid (Bm.sum_take l k hkl)
        have Ha := Lib.hid (Bm.all_take (fun x => 0 ≤ x) l k hkl hall)
        have Hm := Lib.hid (List.getElem_mem hkl)
        unfold Bm.IntOk at hzb
        clear hc hall Hres
        have Htk : Hid (Bm.Fair l (b : Int) → (l.take (k + 1)).sum ≤ P) := Lib.hid (fun h => by
          have h1 := Bm.sum_take_le l (k + 1) (fun x hx => (h.2.2.2.1 x hx).1)
          have h2 := h.2.2.2.2
          rw [Int.toNat_natCast, ← HPe.out] at h2
          omega)
        generalize (l.take k).sum = m at hle h0 Hs ⊢
        generalize l[k] = z at c0 Hs Ha Hm hzb
        by_cases hz : z < 0
        · have hf : false = r := Hno.out (0 ≤ z) (fun h => (h.2.2.2.1 z Hm.out).1) (by omega)
          have Hf := Lib.hid hf
          clear hf
          go_wp2
          go_ret
          exact ⟨congrArg (fun x => Ending.returned (Value.bool x)) Hf.out, Below.refl _ _⟩
        have hz0 : decide (z < 0) = false := decide_eq_false hz
        by_cases hz2 : (P : Int) - m < z
        · have hf : false = r := Hno.out (m + z ≤ P) (fun h => by rw [← Hs.out]; exact Htk.out h) (by omega)
          have Hf := Lib.hid hf
          have hz3 : decide ((P : Int) - m < z) = true := decide_eq_true hz2
          clear hf
          go_wp2
          go_ret
          exact ⟨congrArg (fun x => Ending.returned (Value.bool x)) Hf.out, Below.refl _ _⟩
        have hz3 : decide ((P : Int) - m < z) = false := decide_eq_false hz2
        go_wp2
        go_round
        case rel => exact ⟨k + 1, by omega, by go_num, by rw [Hs.out]; go_num, by rw [Hs.out]; omega, Ha.out (by omega)⟩
        case measure => simp [intOf]; omega
      · obtain rfl : k = l.length := by omega
        rw [List.take_length] at hall hle ⊢
        have h0 := Bm.sum_nn _ hall
        have hres : ((P : Int) - l.sum == 0) = r := by
          rw [Hres.out]
          unfold Bm.fairB
          rw [Bool.eq_iff_iff, beq_iff_eq, decide_eq_true_iff]
          constructor
          · intro h
            refine ⟨by omega, by omega, by omega, fun x hx => ⟨hall x hx, ?_⟩, ?_⟩
            · have := Bm.mem_le_sumI l hall x hx; omega
            · rw [Int.toNat_natCast, ← HPe.out]; omega
          · intro h
            have h2 := h.2.2.2.2
            rw [Int.toNat_natCast, ← HPe.out] at h2
            omega
        have Hres2 := Lib.hid hres
        clear Hr Hno Hres hall hres
        generalize l.sum = q at Hres2 h0 hle ⊢
        go_wp2
        go_ret
        exact ⟨congrArg (fun x => Ending.returned (Value.bool x)) Hres2.out, Below.refl _ _⟩
  · have hs0 : Bm.sizedB log = false := by simpa using hs
    have hf : false = r := Hno.out (5 ≤ log ∧ log ≤ 9) (fun h => ⟨h.1, h.2.1⟩) (fun h => hs (decide_eq_true h))
    rw [hs0] at Hsz
    clear hs hs0
    rw [← hf]
    clear hf
    go_enter Tryz.func103, Tryz.ntmps103
    go_wp2_with fail
    refine Hsz.out.mono ?_
    rintro e w' ⟨rfl, rfl⟩
    go_wp2
    go_ret
    exact ⟨rfl, Below.refl _ _⟩

end Go.Proofs.YtbdciiiimdbmkaaGreat

namespace Go.Proofs.YtbdciiiimdbmkaaGreat
open Go.RowKit

theorem reads_in {w : World} {A : Option Addr} {l : List Nat} (h : Reads w A (i64s l)) (hne : 0 < l.length) : ∃ g off, A = some ⟨g, off, none⟩ ∧ ∀ j (hj : j < l.length), w.cell? ⟨g, off + j, none⟩ = some (.int .i64 (l[j] : Int)) := by
  have hne' : i64s l ≠ [] := fun e => by
    have h1 := congrArg List.length e
    rw [i64s_length, List.length_nil] at h1
    omega
  obtain ⟨g, off, e, hc⟩ := h hne'
  exact ⟨g, off, e, fun j hj => by rw [hc j (by rw [i64s_length]; exact hj), i64s_get? l j hj]⟩

set_option maxHeartbeats 400000 in
set_option maxRecDepth 100000 in
theorem nsymbols_any (A : Option Addr) (c : Nat) (l : List Int) (w : World) (hl : l.length ≤ 1000000000) (hr : Reads w A (i64z l)) :
    Calls Tryz.prog 62 #[.slice A l.length c] w fun e w' => e = .returned (.int .i64 (Bm.symN l : Int)) ∧ w = w' := by
  have Hr := Lib.hid hr
  obtain ⟨r, hres⟩ : ∃ r, r = Bm.symN l := ⟨_, rfl⟩
  rw [← hres]
  have Hres := Lib.hid hres
  clear hr hres
  go_enter Tryz.func62, Tryz.ntmps62
  go_wp2
  go_loop [3, 8] (fun n i => ∃ k : Nat, k ≤ l.length ∧ i = .int .i64 (k : Int) ∧ n = .int .i64 (Bm.symN (l.take k) : Int)) (fun _ i => l.length - (intOf i).toNat)
  case atStart => exact ⟨0, by omega, rfl, rfl⟩
  case round =>
    obtain ⟨k, hk, rfl, rfl⟩ := hrel
    by_cases hkl : k < l.length
    · obtain ⟨g, off, rfl, hc⟩ := reads_iz Hr.out (by omega)
      have c0 := hc k hkl
      have hs := Bm.symN_take l k hkl
      have hle := Bm.symN_le (l.take k)
      rw [List.length_take, Nat.min_eq_left (by omega)] at hle
      have Hs := Lib.hid hs
      clear hc hs
      generalize Bm.symN (l.take k) = m at hle Hs ⊢
      generalize l[k] = z at c0 Hs
      by_cases hz : 0 < z
      · go_wp2
        go_round
        case rel => exact ⟨k + 1, by omega, by go_num, by rw [Hs.out, if_pos hz]; go_num⟩
        case measure => simp [intOf]; omega
      · go_wp2
        go_round
        case rel => exact ⟨k + 1, by omega, by go_num, by rw [Hs.out, if_neg hz]; go_num⟩
        case measure => simp [intOf]; omega
    · obtain rfl : k = l.length := by omega
      rw [List.take_length, ← Hres.out]
      clear Hr
      go_wp2
      go_ret
      exact ⟨rfl, rfl⟩
theorem nsymbols_is : CSymbols := fun A c l w hl hr => (nsymbols_any A c l w (by omega) hr).mono fun _ w' ⟨he, hw⟩ => ⟨he, by subst hw; exact Below.refl _ _⟩

namespace Bm
theorem right_iff (l : List Int) : Right l ↔ l.length ≤ 256 ∧ (∀ x ∈ l, 0 ≤ x ∧ x ≤ 1048576) ∧ 0 < symN l := by
  unfold Right symN
  rw [List.countP_pos_iff]
  simp
def rightB (l : List Int) : Bool := decide (Right l)
end Bm
set_option maxHeartbeats 1000000 in
set_option maxRecDepth 100000 in
theorem nright_any (A : Option Addr) (c : Nat) (l : List Int) (w : World) (hl : l.length ≤ 1000000000) (hr : Reads w A (i64z l)) :
    Calls Tryz.prog 98 #[.slice A l.length c] w fun e w' => e = .returned (.bool (Bm.rightB l)) ∧ w = w' := by
  have Hr := Lib.hid hr
  have Hsy := Lib.hid (nsymbols_any A c l w hl hr)
  obtain ⟨r, hres⟩ : ∃ r, r = Bm.rightB l := ⟨_, rfl⟩
  rw [← hres]
  have hno : ∀ P : Prop, (Bm.Right l → P) → ¬ P → false = r := fun P h hp => by
    rw [hres]; symm; unfold Bm.rightB; exact decide_eq_false (fun h1 => hp (h h1))
  have Hno := Lib.hid hno
  have Hres := Lib.hid hres
  clear hr hres hno
  by_cases h3 : 256 < l.length
  · have hf : false = r := Hno.out (l.length ≤ 256) (fun h => h.1) (by omega)
    rw [← hf]
    go_enter Tryz.func98, Tryz.ntmps98
    go_wp2
    go_ret
    exact ⟨rfl, rfl⟩
  go_enter Tryz.func98, Tryz.ntmps98
  go_wp2
  go_loop [10] (fun i => ∃ k : Nat, k ≤ l.length ∧ i = .int .i64 (k : Int) ∧ ∀ x ∈ l.take k, 0 ≤ x ∧ x ≤ 1048576) (fun i => l.length - (intOf i).toNat)
  case atStart => exact ⟨0, by omega, rfl, by simp⟩
  case round =>
    obtain ⟨k, hk, rfl, hall⟩ := hrel
    by_cases hkl : k < l.length
    · obtain ⟨g, off, rfl, hc⟩ := reads_iz Hr.out (by omega)
      have c0 := hc k hkl
      have Ha := Lib.hid (Bm.all_take (fun x => 0 ≤ x ∧ x ≤ 1048576) l k hkl hall)
      have Hm := Lib.hid (List.getElem_mem hkl)
      clear hc hall Hres Hsy
      generalize l[k] = z at c0 Ha Hm
      by_cases hz : z < 0
      · have hf : false = r := Hno.out (0 ≤ z) (fun h => (h.2.1 z Hm.out).1) (by omega)
        have Hf := Lib.hid hf
        clear hf
        go_wp2
        go_ret
        exact ⟨congrArg (fun x => Ending.returned (Value.bool x)) Hf.out, rfl⟩
      by_cases hz2 : 1048576 < z
      · have hf : false = r := Hno.out (z ≤ 1048576) (fun h => (h.2.1 z Hm.out).2) (by omega)
        have Hf := Lib.hid hf
        clear hf
        go_wp2
        go_ret
        exact ⟨congrArg (fun x => Ending.returned (Value.bool x)) Hf.out, rfl⟩
      go_wp2
      go_round
      case rel => exact ⟨k + 1, by omega, by go_num, Ha.out (by omega)⟩
      case measure => simp [intOf]; omega
    · obtain rfl : k = l.length := by omega
      rw [List.take_length] at hall
      have hres : decide (0 < Bm.symN l) = r := by
        rw [Hres.out]
        unfold Bm.rightB
        rw [decide_eq_decide, Bm.right_iff]
        exact ⟨fun h => ⟨by omega, hall, h⟩, fun h => h.2.2⟩
      clear Hr Hno Hres hall
      generalize Bm.symN l = q at hres Hsy
      have Hsy2 := Lib.hid Hsy.out
      clear Hsy
      go_wp2_with fail
      refine Hsy2.out.mono ?_
      rintro e w' ⟨rfl, rfl⟩
      go_wp2
      go_ret
      exact ⟨congrArg (fun x => Ending.returned (Value.bool x)) (by simp), rfl⟩

set_option maxHeartbeats 400000 in
set_option maxRecDepth 100000 in
theorem ntotal_any (A : Option Addr) (c : Nat) (l : List Nat) (w : World) (hl : l.length ≤ 1000000000) (hs : l.sum ≤ 1000000000000) (hr : Reads w A (i64s l)) :
    Calls Tryz.prog 99 #[.slice A l.length c] w fun e w' => e = .returned (.int .i64 (l.sum : Int)) ∧ w = w' := by
  have Hr := Lib.hid hr
  obtain ⟨r, hres⟩ : ∃ r, r = l.sum := ⟨_, rfl⟩
  rw [← hres] at hs ⊢
  have Hres := Lib.hid hres
  clear hr hres
  go_enter Tryz.func99, Tryz.ntmps99
  go_wp2
  go_loop [3, 8] (fun n i => ∃ k : Nat, k ≤ l.length ∧ i = .int .i64 (k : Int) ∧ n = .int .i64 ((l.take k).sum : Int)) (fun _ i => l.length - (intOf i).toNat)
  case atStart => exact ⟨0, by omega, rfl, rfl⟩
  case round =>
    obtain ⟨k, hk, rfl, rfl⟩ := hrel
    by_cases hkl : k < l.length
    · obtain ⟨g, off, rfl, hc⟩ := reads_in Hr.out (by omega)
      have c0 := hc k hkl
      have h1 : (l.take (k + 1)).sum = (l.take k).sum + l[k] := by
        rw [List.take_succ_eq_append_getElem hkl, List.sum_append_nat, List.sum_singleton]
      have h2 : (l.take (k + 1)).sum ≤ r := by
        rw [Hres.out]
        conv => rhs; rw [← List.take_append_drop (k + 1) l]
        rw [List.sum_append_nat]; omega
      rw [h1] at h2
      have Hs := Lib.hid h1
      clear hc h1
      generalize (l.take k).sum = m at h2 Hs ⊢
      generalize l[k] = z at c0 h2 Hs
      go_wp2
      go_round
      case rel => exact ⟨k + 1, by omega, by go_num, by rw [Hs.out]; go_num⟩
      case measure => simp [intOf]; omega
    · obtain rfl : k = l.length := by omega
      rw [List.take_length, ← Hres.out]
      clear Hr
      go_wp2
      go_ret
      exact ⟨rfl, rfl⟩

set_option maxHeartbeats 1000000 in
set_option maxRecDepth 100000 in
theorem ngreatest_any (A : Option Addr) (c : Nat) (l : List Nat) (w : World) (hl : l.length ≤ 1000000000) (hm : ∀ x ∈ l, x ≤ 1000000000000) (hr : Reads w A (i64s l)) :
    Calls Tryz.prog 102 #[.slice A l.length c] w fun e w' => e = .returned (.int .i64 (Bm.firstMax l : Int)) ∧ w = w' := by
  have Hr := Lib.hid hr
  have Hm := Lib.hid hm
  obtain ⟨r, hres⟩ : ∃ r, r = Bm.firstMax l := ⟨_, rfl⟩
  rw [← hres]
  have Hres := Lib.hid hres
  clear hr hres hm
  go_enter Tryz.func102, Tryz.ntmps102
  go_wp2
  go_loop [3, 8] (fun n i => ∃ k : Nat, k ≤ l.length ∧ i = .int .i64 (k : Int) ∧ n = .int .i64 (Bm.firstMax (l.take k) : Int)) (fun _ i => l.length - (intOf i).toNat)
  case atStart => exact ⟨0, by omega, rfl, rfl⟩
  case round =>
    obtain ⟨k, hk, rfl, rfl⟩ := hrel
    by_cases hkl : k < l.length
    · obtain ⟨g, off, rfl, hc⟩ := reads_in Hr.out (by omega)
      have c0 := hc k hkl
      have hz0 := Hm.out l[k] (List.getElem_mem hkl)
      have hx : ∃ f, f = Bm.firstMax (l.take k) ∧ f < l.length ∧ f ≤ k ∧ ∃ y : Nat, y ≤ 1000000000000 ∧ w.cell? ⟨g, off + f, none⟩ = some (.int .i64 (y : Int)) ∧ Bm.firstMax (l.take (k + 1)) = if y < l[k] then k else f := by
        refine ⟨_, rfl, ?_⟩
        rcases Nat.eq_zero_or_pos k with h0 | h0
        · subst h0
          refine ⟨by simpa [Bm.firstMax] using hkl, by simp [Bm.firstMax], l[0], Hm.out _ (List.getElem_mem hkl), by simpa [Bm.firstMax] using hc 0 hkl, ?_⟩
          rw [if_neg (by omega), List.take_succ_eq_append_getElem hkl]
          simp [Bm.firstMax, Bm.maxL]
        · have hne : l.take k ≠ [] := fun e => by
            have h1 := congrArg List.length e
            rw [List.length_take, List.length_nil] at h1
            omega
          have hlt := Bm.firstMax_lt _ hne
          have hlt2 := hlt
          rw [List.length_take] at hlt2
          have hg := Bm.firstMax_get _ hlt
          rw [List.getElem_take] at hg
          have h1 := hc (Bm.firstMax (l.take k)) (by omega)
          rw [hg] at h1
          refine ⟨by omega, by omega, Bm.maxL (l.take k), ?_, h1, ?_⟩
          · rw [← hg]; exact Hm.out _ (List.getElem_mem _)
          · rw [List.take_succ_eq_append_getElem hkl, Bm.firstMax_snoc _ _ hne, List.length_take, Nat.min_eq_left (by omega)]
      obtain ⟨f, hf, hfl, hfk, y, hy, c1, hn⟩ := hx
      rw [← hf]
      have Hn := Lib.hid hn
      clear hc hn hf
      generalize l[k] = z at c0 Hn hz0
      by_cases hyz : y < z
      · have hb : decide (y < z) = true := decide_eq_true hyz
        rw [if_pos hyz] at Hn
        go_wp2
        go_round
        case rel => exact ⟨k + 1, by omega, by go_num, by rw [Hn.out]⟩
        case measure => simp [intOf]; omega
      · have hb : decide (y < z) = false := decide_eq_false hyz
        rw [if_neg hyz] at Hn
        go_wp2
        go_round
        case rel => exact ⟨k + 1, by omega, by go_num, by rw [Hn.out]⟩
        case measure => simp [intOf]; omega
    · obtain rfl : k = l.length := by omega
      rw [List.take_length, ← Hres.out]
      clear Hr
      go_wp2
      go_ret
      exact ⟨rfl, rfl⟩
end Go.Proofs.YtbdciiiimdbmkaaGreat

namespace Go.Proofs.YtbdciiiimdbmkaaGreat
open Go.RowKit

namespace Bm
theorem count_two (p : Int → Bool) (l : List Int) (i j : Nat) (hij : i < j) (hj : j < l.length) (hi : p l[i] = true) (hp : p l[j] = true) : 2 ≤ l.countP p := by
  have e : l = l.take j ++ l[j] :: l.drop (j + 1) := by rw [← List.drop_eq_getElem_cons hj, List.take_append_drop]
  have h1 : 0 < (l.take j).countP p := by
    refine List.countP_pos_iff.2 ⟨l[i], ?_, hi⟩
    have hil : i < (l.take j).length := by rw [List.length_take]; omega
    have := List.getElem_mem hil
    rwa [List.getElem_take] at this
  have h2 := congrArg (List.countP p) e
  rw [List.countP_append, List.countP_cons, if_pos hp] at h2
  omega
theorem counts_at (s : List Nat) (b : Nat) (hb : b ∈ s) : ∃ h : b < (countsI s).length, 0 < (countsI s)[b] := by
  have ht := topB_mem s b hb
  refine ⟨by rw [countsI_length]; exact ht, ?_⟩
  have : (countsI s)[b]'(by rw [countsI_length]; exact ht) = ((s.count b : Nat) : Int) := by simp [countsI, countsOf]
  rw [this]
  have := List.count_pos_iff.2 hb
  omega
/-- All bytes are one where one symbol comes. -/
theorem one_alike (s : List Nat) (h : symN (countsI s) = 1) : ∃ x, s = List.replicate s.length x ∧ 0 < s.length := by
  cases s with
  | nil => simp [countsI, countsOf, topB, symN] at h
  | cons x r =>
    refine ⟨x, ?_, by simp⟩
    rw [List.eq_replicate_iff]
    refine ⟨rfl, fun b hb => ?_⟩
    rcases Nat.lt_trichotomy b x with hlt | he | hgt
    · exfalso
      obtain ⟨h1, h2⟩ := counts_at (x :: r) b hb
      obtain ⟨h3, h4⟩ := counts_at (x :: r) x List.mem_cons_self
      have := count_two (fun z => decide (0 < z)) (countsI (x :: r)) b x hlt h3 (decide_eq_true h2) (decide_eq_true h4)
      unfold symN at h
      omega
    · exact he
    · exfalso
      obtain ⟨h1, h2⟩ := counts_at (x :: r) b hb
      obtain ⟨h3, h4⟩ := counts_at (x :: r) x List.mem_cons_self
      have := count_two (fun z => decide (0 < z)) (countsI (x :: r)) x b hgt h1 (decide_eq_true h4) (decide_eq_true h2)
      unfold symN at h
      omega
theorem top_in : ∀ bs : List Nat, 0 < topB bs → ∃ b ∈ bs, topB bs = b + 1
  | [], h => by simp [topB] at h
  | b :: bs, _ => by
    by_cases h : topB bs ≤ b + 1
    · exact ⟨b, List.mem_cons_self, by rw [topB, Nat.max_eq_left h]⟩
    · obtain ⟨x, hx, e⟩ := top_in bs (by omega)
      exact ⟨x, List.mem_cons_of_mem _ hx, by rw [topB, Nat.max_eq_right (by omega), e]⟩
theorem counts_pos (s : List Nat) (b : Nat) (h : b ∈ s) : 0 < (countsOf s)[b]?.getD 0 := by
  unfold countsOf
  rw [List.getElem?_map, List.getElem?_range (topB_mem s b h)]
  exact List.count_pos_iff.2 h
theorem counts_len (s : List Nat) : (countsOf s).length = topB s := by simp [countsOf]
theorem counts_back (s : List Nat) : (countsI s).map Int.toNat = countsOf s := by
  unfold countsI
  rw [List.map_map]
  conv => rhs; rw [← List.map_id (countsOf s)]
  exact List.map_congr_left fun x _ => rfl
end Bm
theorem nsyms_nat (A : Option Addr) (c : Nat) (s : List Nat) (w : World) (hlt : ∀ x ∈ s, x < 256) (hr : Reads w A (i64s (Bm.countsOf s))) :
    Calls Tryz.prog 62 #[.slice A (Bm.topB s) c] w fun e w' => e = .returned (.int .i64 (Bm.symN (Bm.countsI s) : Int)) ∧ Below w.heap.size w w' := by
  have ht := Bm.topB_le s hlt
  have h := nsymbols_is A c (Bm.countsI s) w (by rw [Bm.countsI_length]; omega) (by unfold Bm.countsI; rw [i64z_nat]; exact hr)
  rw [Bm.countsI_length] at h
  exact h
end Go.Proofs.YtbdciiiimdbmkaaGreat

namespace Go.Proofs.YtbdciiiimdbmkaaGreat
open Go.RowKit

/-- A step's cells. -/
def stp3 (t : Bm.Stp) : List Value := [.int .i64 (t.1 : Int), .int .i64 (t.2.1 : Int), .int .i64 (t.2.2 : Int)]
/-- The memory's cells of a list of steps. -/
def sqs : List Bm.Stp → List Value
  | [] => []
  | t :: l => stp3 t ++ sqs l
theorem sqs_length (l : List Bm.Stp) : (sqs l).length = l.length * 3 := by
  induction l with
  | nil => rfl
  | cons t l ih => rw [sqs, List.length_append, ih, List.length_cons]; simp [stp3]; omega
theorem sqs_append (l m : List Bm.Stp) : sqs (l ++ m) = sqs l ++ sqs m := by
  induction l with
  | nil => rfl
  | cons t l ih => rw [List.cons_append, sqs, ih, sqs, List.append_assoc]
theorem sqs_get (l : List Bm.Stp) (i : Nat) (h : i < l.length) : (sqs l)[i * 3]? = some (.int .i64 (l[i].1 : Int)) ∧ (sqs l)[i * 3 + 1]? = some (.int .i64 (l[i].2.1 : Int)) ∧ (sqs l)[i * 3 + 2]? = some (.int .i64 (l[i].2.2 : Int)) := by
  induction l generalizing i with
  | nil => simp at h
  | cons t l ih =>
    cases i with
    | zero => exact ⟨rfl, rfl, rfl⟩
    | succ i =>
      have h1 := ih i (by simpa using h)
      rw [sqs]
      have e : ∀ j, (stp3 t ++ sqs l)[(i + 1) * 3 + j]? = (sqs l)[i * 3 + j]? := fun j => by
        rw [List.getElem?_append_right (by simp [stp3]; omega)]
        congr 1
        simp [stp3]; omega
      have e0 := e 0
      rw [Nat.add_zero, Nat.add_zero] at e0
      rw [e0, e 1, e 2]
      exact h1
/-- A slice that reads as these steps. -/
def StpR (w : World) (A : Option Addr) (l : List Bm.Stp) : Prop := 0 < l.length → ∃ g off, A = some ⟨g, off, none⟩ ∧ g < w.heap.size ∧ ∀ j (h : j < l.length), w.cell? ⟨g, off + j * 3, none⟩ = some (.int .i64 (l[j].1 : Int)) ∧ w.cell? ⟨g, off + j * 3 + 1, none⟩ = some (.int .i64 (l[j].2.1 : Int)) ∧ w.cell? ⟨g, off + j * 3 + 2, none⟩ = some (.int .i64 (l[j].2.2 : Int))
theorem StpR.below {w w' : World} {A : Option Addr} {l : List Bm.Stp} (h : StpR w A l) (hb : Below w.heap.size w w') : StpR w' A l := fun h0 => by
  obtain ⟨g, off, e, hg, hc⟩ := h h0
  refine ⟨g, off, e, Nat.lt_of_lt_of_le hg hb.size, fun j hj => ?_⟩
  obtain ⟨c0, c1, c2⟩ := hc j hj
  exact ⟨(hb.cell (p := ⟨g, _, none⟩) hg).trans c0, (hb.cell (p := ⟨g, _, none⟩) hg).trans c1, (hb.cell (p := ⟨g, _, none⟩) hg).trans c2⟩
theorem StpR.nil (w : World) (A : Option Addr) : StpR w A [] := fun h => absurd h (by simp)
theorem stp_own {w : World} {base : Nat} {v : Value} {l : List Bm.Stp} (h : w.ownsRow base 38 3 v l.length (sqs l)) : ∃ A c, v = .slice A l.length c ∧ StpR w A l ∧ c ≤ maxLen ∧ l.length ≤ c := by
  rcases h.2 with ⟨rfl, h0⟩ | ⟨g, cap, cur, rfl, hb, hg, hnc, hcm, hcs, ht⟩
  · refine ⟨none, 0, by rw [h0], fun h1 => by omega, by unfold maxLen; omega, by omega⟩
  · have hr : Row w g 38 (sqs l ++ cur.toList.drop (l.length * 3)) := by
      unfold Row
      rw [← ht, List.take_append_drop, Array.toArray_toList]
      exact hg
    refine ⟨_, cap, rfl, fun h1 => ⟨g, 0, rfl, hr.lt, fun j hj => ?_⟩, hcm, hnc⟩
    obtain ⟨c0, c1, c2⟩ := sqs_get l j hj
    have hl := sqs_length l
    rw [Nat.zero_add, hr.cell, hr.cell, hr.cell, List.getElem?_append_left (by omega), List.getElem?_append_left (by omega), List.getElem?_append_left (by omega)]
    exact ⟨c0, c1, c2⟩
theorem info_seq : (Tryz.prog.info? 38).map (fun i => (i.zero, i.size, i.bytes)) = some (some (.agg #[.int .i64 0, .int .i64 0, .int .i64 0]), 3, 24) := by kernel_rfl
theorem grown_trans12 {a b c : World} {row : Option Nat} (h : a.grownBy b row) (k : b.grownBy c row) : a.grownBy c row :=
  ⟨k.os.trans h.os, k.tape.trans h.tape, k.output.trans h.output, Nat.le_trans h.size k.size, fun i hi hn => (k.block i (Nat.lt_of_lt_of_le hi h.size) hn).trans (h.block i hi hn)⟩
theorem grown_on {a b c : World} {row : Option Nat} (h : a.grownBy b row) (k : Below b.heap.size b c) : a.grownBy c row := grown_trans12 h (grown_below k row)
/-- A slice that reads as these steps, of either sign. -/
def StzR (w : World) (A : Option Addr) (l : List Bm.StZ) : Prop := 0 < l.length → ∃ g off, A = some ⟨g, off, none⟩ ∧ g < w.heap.size ∧ ∀ j (h : j < l.length), w.cell? ⟨g, off + j * 3, none⟩ = some (.int .i64 l[j].1) ∧ w.cell? ⟨g, off + j * 3 + 1, none⟩ = some (.int .i64 l[j].2.1) ∧ w.cell? ⟨g, off + j * 3 + 2, none⟩ = some (.int .i64 l[j].2.2)
/-- Steps whose numbers are ints. -/
def ZOk (l : List Bm.StZ) : Prop := ∀ s ∈ l, Bm.IntOk s.1 ∧ Bm.IntOk s.2.1 ∧ Bm.IntOk s.2.2
theorem StzR.below {w w' : World} {A : Option Addr} {l : List Bm.StZ} (h : StzR w A l) (hb : Below w.heap.size w w') : StzR w' A l := fun h0 => by
  obtain ⟨g, off, e, hg, hc⟩ := h h0
  refine ⟨g, off, e, Nat.lt_of_lt_of_le hg hb.size, fun j hj => ?_⟩
  obtain ⟨c0, c1, c2⟩ := hc j hj
  exact ⟨(hb.cell (p := ⟨g, _, none⟩) hg).trans c0, (hb.cell (p := ⟨g, _, none⟩) hg).trans c1, (hb.cell (p := ⟨g, _, none⟩) hg).trans c2⟩
theorem stz_of {w : World} {A : Option Addr} {l : List Bm.Stp} (h : StpR w A l) : StzR w A (l.map Bm.stpZ) := fun h0 => by
  obtain ⟨g, off, e, hg, hc⟩ := h (by simpa using h0)
  refine ⟨g, off, e, hg, fun j hj => ?_⟩
  have h1 := hc j (by simpa using hj)
  rw [List.getElem_map]
  exact h1
theorem stp_of {w : World} {A : Option Addr} {l : List Bm.Stp} (h : StzR w A (l.map Bm.stpZ)) : StpR w A l := fun h0 => by
  obtain ⟨g, off, e, hg, hc⟩ := h (by simpa using h0)
  refine ⟨g, off, e, hg, fun j hj => ?_⟩
  have h1 := hc j (by simpa using hj)
  rw [List.getElem_map] at h1
  exact h1
end Go.Proofs.YtbdciiiimdbmkaaGreat

namespace Go.Proofs.YtbdciiiimdbmkaaGreat
open Go.RowKit
namespace Bm
theorem topB_pos (bs : List Nat) (h : bs ≠ []) : 0 < topB bs := by
  cases bs with
  | nil => exact absurd rfl h
  | cons x a => rw [topB]; omega
/-- The parts of the first k counts, noughts behind. -/
def partsTo (cs : List Nat) (size k : Nat) : List Nat := (cs.take k).map (partN size cs.sum) ++ List.replicate (cs.length - k) 0
theorem partsTo_zero (cs : List Nat) (size : Nat) : partsTo cs size 0 = List.replicate cs.length 0 := by simp [partsTo]
theorem partsTo_all (cs : List Nat) (size : Nat) : partsTo cs size cs.length = parts cs size := by simp [partsTo, parts]
theorem partsTo_length (cs : List Nat) (size k : Nat) (h : k ≤ cs.length) : (partsTo cs size k).length = cs.length := by simp [partsTo]; omega
theorem partsTo_get (cs : List Nat) (size k : Nat) (h : k < cs.length) : (partsTo cs size k)[k]? = some 0 := by
  unfold partsTo
  have h1 : ((cs.take k).map (partN size cs.sum)).length = k := by simp; omega
  rw [List.getElem?_append_right (by omega), h1, Nat.sub_self, List.getElem?_replicate, if_pos (by omega)]
theorem partsTo_next (cs : List Nat) (size k : Nat) (h : k < cs.length) : partsTo cs size (k + 1) = (partsTo cs size k).set k (partN size cs.sum cs[k]) := by
  unfold partsTo
  have h1 : ((cs.take k).map (partN size cs.sum)).length = k := by simp; omega
  rw [List.set_append_right _ _ (by omega), h1, Nat.sub_self, List.take_succ_eq_append_getElem h, List.map_append, List.append_assoc]
  congr 1
  obtain ⟨m, hm⟩ : ∃ m, cs.length - k = m + 1 := ⟨cs.length - k - 1, by omega⟩
  rw [hm, show cs.length - (k + 1) = m by omega, List.replicate_succ]
  simp
theorem partsTo_none (cs : List Nat) (size k : Nat) (h : k < cs.length) (h0 : cs[k] = 0) : partsTo cs size (k + 1) = partsTo cs size k := by
  have hz : partN size cs.sum 0 = 0 := by simp [partN]
  rw [partsTo_next cs size k h, h0, hz]
  apply List.ext_getElem?
  intro i
  rw [List.getElem?_set]
  split
  · next e =>
    subst e
    rw [if_pos (by rw [partsTo_length cs size k (by omega)]; omega), partsTo_get cs size k h]
  · rfl
theorem mem_le_sum (l : List Nat) (x : Nat) (h : x ∈ l) : x ≤ l.sum := by
  induction l with
  | nil => cases h
  | cons a l ih =>
    rw [List.sum_cons]
    rcases List.mem_cons.1 h with rfl | h1
    · omega
    · have := ih h1; omega
theorem partN_max (size total c : Nat) (h : 0 < c) : max ((c : Int) * size / total) 1 = (partN size total c : Int) := by
  have e : (c : Int) * size / total = ((c * size / total : Nat) : Int) := by simp
  unfold partN
  rw [e]
  split
  · next h1 => rw [h1.1]; rfl
  · next h1 =>
    have h2 : c * size / total ≠ 0 := fun e => h1 ⟨e, h⟩
    generalize c * size / total = q at h2 ⊢
    omega
theorem sum_le (l : List Nat) (m : Nat) (h : ∀ x ∈ l, x ≤ m) : l.sum ≤ m * l.length := by
  induction l with
  | nil => simp
  | cons a l ih =>
    have h1 := ih (fun x hx => h x (List.mem_cons_of_mem _ hx))
    have h2 := h a List.mem_cons_self
    rw [List.sum_cons, List.length_cons, Nat.mul_succ]
    omega
end Bm

set_option maxHeartbeats 1000000 in
set_option maxRecDepth 100000 in
theorem nmax_any (A : Option Addr) (c : Nat) (bs : List Nat) (w : World) (hl : bs.length ≤ 1000000000) (h0 : 0 < bs.length) (hlt : ∀ x ∈ bs, x < 256) (hr : Reads w A (u8s bs)) :
    Calls Tryz.prog 84 #[.slice A bs.length c] w fun e w' => e = .returned (.int .u8 ((Bm.topB bs : Int) - 1)) ∧ w = w' := by
  have hne : bs ≠ [] := by intro e; rw [e] at h0; simp at h0
  obtain ⟨g, off, rfl, hc⟩ := reads_u8 hr hne
  have Hc := Lib.hid hc
  have Hlt := Lib.hid hlt
  have c0 := hc 0 h0
  have hb0 := hlt bs[0] (List.getElem_mem h0)
  have H0 : Hid (Bm.topB (bs.take 1) = bs[0] + 1) := Lib.hid (by
    have h1 := Bm.topB_take bs 0 h0
    rw [List.take_zero] at h1
    rw [h1]
    simp [Bm.topB])
  obtain ⟨r, hres⟩ : ∃ r, r = Bm.topB bs := ⟨_, rfl⟩
  rw [← hres]
  have Hres := Lib.hid hres
  clear hr hlt hc hres
  rw [Nat.add_zero] at c0
  generalize bs[0] = b0 at c0 hb0 H0
  go_enter Tryz.func84, Tryz.ntmps84
  go_wp2
  go_loop [3, 4] (fun m i => ∃ k : Nat, 1 ≤ k ∧ k ≤ bs.length ∧ i = .int .i64 (k : Int) ∧ m = .int .u8 ((Bm.topB (bs.take k) : Int) - 1)) (fun _ i => bs.length - (intOf i).toNat)
  case atStart => exact ⟨1, by omega, by omega, rfl, by rw [H0.out]; go_num⟩
  case round =>
    obtain ⟨k, hk1, hk, rfl, rfl⟩ := hrel
    clear c0
    by_cases hkl : k < bs.length
    · have c1 := Hc.out k hkl
      have hb := Hlt.out bs[k] (List.getElem_mem hkl)
      have hT1 := Bm.topB_le (bs.take k) (fun x hx => Hlt.out x (List.mem_of_mem_take hx))
      have Hs := Lib.hid (Bm.topB_take bs k hkl)
      have hp : 0 < Bm.topB (bs.take k) := Bm.topB_pos _ (fun e => by
        have h1 := congrArg List.length e
        rw [List.length_take, List.length_nil] at h1
        omega)
      generalize Bm.topB (bs.take k) = T at hT1 Hs hp ⊢
      generalize bs[k] = b at c1 hb Hs
      have hmx := max_top T b
      generalize max T (b + 1) = T2 at hmx Hs
      go_wp2
      go_round
      case rel => exact ⟨k + 1, by omega, by omega, by go_num, by rw [Hs.out]⟩
      case measure => simp [intOf]; omega
    · obtain rfl : k = bs.length := by omega
      rw [List.take_length, ← Hres.out]
      go_wp2
      go_ret
      exact ⟨rfl, rfl⟩

set_option maxHeartbeats 1000000 in
set_option maxRecDepth 100000 in
theorem nof_is : COf := by
  intro A c bs w hl hlt hr
  rcases Nat.eq_zero_or_pos bs.length with h0 | h0
  · have hb : bs = [] := List.eq_nil_of_length_eq_zero h0
    subst hb
    go_enter Tryz.func61, Tryz.ntmps61
    go_wp2
    go_ret
    exact ⟨none, 0, rfl, fun h => absurd rfl h, Below.refl _ _⟩
  have hz : ((bs.length : Int) == 0) = false := by rw [beq_eq_false_iff_ne]; omega
  obtain ⟨i0, hi, hz0, hz1, hz2⟩ := info_parts info_in
  have Hr := Lib.hid hr
  have Hlt := Lib.hid hlt
  have hT := Bm.topB_le bs hlt
  have hT0 := Bm.topB_pos bs (by intro e; rw [e] at h0; simp at h0)
  have Hmx := Lib.hid (nmax_any A c bs w (by omega) h0 hlt hr)
  clear hr hlt
  obtain ⟨g0, hg0⟩ : ∃ g, g = w.heap.size := ⟨_, rfl⟩
  have Hg0 := Lib.hid hg0
  obtain ⟨T, hTe⟩ : ∃ T, T = Bm.topB bs := ⟨_, rfl⟩
  have HTe := Lib.hid hTe
  have Hmx2 : Hid (Calls Tryz.prog 84 #[.slice A bs.length c] w fun e w' => e = .returned (.int .u8 ((T : Int) - 1)) ∧ w = w') := Lib.hid (by rw [hTe]; exact Hmx.out)
  rw [← hTe] at hT hT0 ⊢
  clear hg0 hTe Hmx
  go_enter Tryz.func61, Tryz.ntmps61
  go_wp2_with fail
  refine Hmx2.out.mono ?_
  rintro e w' ⟨rfl, rfl⟩
  clear Hmx2
  have e1 : ((T : Int) - 1) + 1 = (T : Int) := by omega
  go_wp2_with (at_make; refine wpList_make_full _ rfl _ _ 57 rfl w.heap.size 3 i0 (.int .i64 0) 1 Tryz.underlying57 hi hz0 hz1 .i64 .i64 _ _ T rfl rfl ?c1 ?c1 ?c2 ?c3 ?c4 ?_)
  case c1 => omega
  case c2 => first | omega | (rw [hz2]; omega)
  case c3 => unfold maxLen; omega
  try case c4 => exact Nat.le_refl _
  intro w1 hown1 hg1
  have hb1 := below_of_grown hg1
  have hr1 := row_of_ownI hown1
  rw [← Hg0.out] at hr1 ⊢
  have Hb1 := Lib.hid hb1
  rw [HTe.out, ← Bm.countsTo_zero] at hr1
  have Hr1 := Lib.hid hr1
  clear hown1 hg1 hb1 hr1 hi hz0 hz1 hz2 e1 hz
  go_wp2
  go_loopw [16] (fun i wr => ∃ k : Nat, k ≤ bs.length ∧ i = .int .i64 (k : Int) ∧ Hid (Row wr g0 3 (i64s (Bm.countsTo bs k))) ∧ Hid (Below w.heap.size w wr)) (fun i _ => bs.length - (intOf i).toNat)
  case atStart => exact ⟨0, by omega, rfl, Hr1, Hb1⟩
  case round =>
    obtain ⟨k, hk, rfl, hrow, hbel⟩ := hrel
    clear Hr1 Hb1
    by_cases hkl : k < bs.length
    · have hne : bs ≠ [] := by intro e; rw [e] at hkl; simp at hkl
      obtain ⟨g, off, rfl, hc⟩ := reads_u8 (reads_on Hr.out hbel.out) hne
      have c0 := hc k hkl
      have hb := Hlt.out bs[k] (List.getElem_mem hkl)
      have hbT : bs[k] < T := by rw [HTe.out]; exact Bm.topB_mem bs _ (List.getElem_mem hkl)
      have hcb : (bs.take k).count bs[k] ≤ bs.length := Nat.le_trans List.count_le_length (by rw [List.length_take]; omega)
      have hcell := hrow.out.cell bs[k]
      have hgt := Bm.countsTo_get bs k bs[k] (by rw [← HTe.out]; exact hbT)
      simp only [i64s, List.getElem?_map, hgt, Option.map_some] at hcell
      have hfree := hrow.out.free bs[k]
      have Hn := Lib.hid (Bm.countsTo_next bs k hkl)
      clear hc hgt
      generalize (bs.take k).count bs[k] = q at hcb hcell Hn
      generalize bs[k] = b at c0 hb hbT hcell hfree Hn
      go_wp2
      go_roundw
      case rel =>
        refine ⟨k + 1, by omega, by go_num, Lib.hid ?_, Lib.hid (hbel.out.setCell (by rw [Hg0.out]; exact Nat.le_refl _) _)⟩
        rw [Hn.out]
        have h1 := hrow.out.set_ b (.int .i64 ((q : Int) + 1))
        rw [show i64s ((Bm.countsTo bs k).set b (q + 1)) = (i64s (Bm.countsTo bs k)).set b (.int .i64 ((q : Int) + 1)) by simp [i64s, List.map_set]]
        exact h1
      case measure => simp [intOf]; omega
    · obtain rfl : k = bs.length := by omega
      rw [Bm.countsTo_all] at hrow
      go_wp2
      go_ret
      exact ⟨some ⟨g0, 0, none⟩, T, rfl, row_reads hrow.out, hbel.out⟩

set_option maxHeartbeats 1000000 in
set_option maxRecDepth 100000 in
theorem nparts_any (A : Option Addr) (c : Nat) (cs : List Nat) (size : Nat) (w : World) (hl : cs.length ≤ 256) (hm : ∀ x ∈ cs, x ≤ 1048576) (hsz : size ≤ 512) (hr : Reads w A (i64s cs)) :
    Calls Tryz.prog 101 #[.slice A cs.length c, .int .i64 (size : Int)] w fun e w' => ∃ g, e = .returned (.slice (some ⟨g, 0, none⟩) cs.length cs.length) ∧ w.heap.size ≤ g ∧ Row w' g 3 (i64s (Bm.parts cs size)) ∧ Below w.heap.size w w' := by
  obtain ⟨i0, hi, hz0, hz1, hz2⟩ := info_parts info_in
  have hsum := Bm.sum_le cs 1048576 hm
  have Hr := Lib.hid hr
  have Hm := Lib.hid hm
  have Htt := Lib.hid (ntotal_any A c cs w (by omega) (by omega) hr)
  obtain ⟨S, hS⟩ : ∃ S, S = cs.sum := ⟨_, rfl⟩
  have HS := Lib.hid hS
  rw [← hS] at Htt hsum
  clear hr hm hS
  obtain ⟨g0, hg0⟩ : ∃ g, g = w.heap.size := ⟨_, rfl⟩
  have Hg0 := Lib.hid hg0
  clear hg0
  go_enter Tryz.func101, Tryz.ntmps101
  go_wp2_with fail
  refine Htt.out.mono ?_
  rintro e w' ⟨rfl, rfl⟩
  clear Htt
  go_wp2_with (at_make; refine wpList_make_full _ rfl _ _ 57 rfl w.heap.size 3 i0 (.int .i64 0) 1 Tryz.underlying57 hi hz0 hz1 .i64 .i64 _ _ cs.length rfl rfl ?c1 ?c1 ?c2 ?c3 ?c4 ?_)
  case c1 => omega
  case c2 => first | omega | (rw [hz2]; omega)
  case c3 => unfold maxLen; omega
  try case c4 => exact Nat.le_refl _
  intro w1 hown1 hg1
  have hb1 := below_of_grown hg1
  have hr1 := row_of_ownI hown1
  rw [← Hg0.out] at hr1 ⊢
  have Hb1 := Lib.hid hb1
  rw [← Bm.partsTo_zero cs size] at hr1
  have Hr1 := Lib.hid hr1
  clear hown1 hg1 hb1 hr1 hi hz0 hz1 hz2
  go_wp2
  go_loopw [16] (fun i wr => ∃ k : Nat, k ≤ cs.length ∧ i = .int .i64 (k : Int) ∧ Hid (Row wr g0 3 (i64s (Bm.partsTo cs size k))) ∧ Hid (Below w.heap.size w wr)) (fun i _ => cs.length - (intOf i).toNat)
  case atStart => exact ⟨0, by omega, rfl, Hr1, Hb1⟩
  case round =>
    obtain ⟨k, hk, rfl, hrow, hbel⟩ := hrel
    clear Hr1 Hb1
    by_cases hkl : k < cs.length
    · obtain ⟨g, off, rfl, hc⟩ := reads_in (reads_on Hr.out hbel.out) (by omega)
      have c0 := hc k hkl
      have hb := Hm.out cs[k] (List.getElem_mem hkl)
      have hcell := hrow.out.cell k
      have hgt := Bm.partsTo_get cs size k hkl
      simp only [i64s, List.getElem?_map, hgt, Option.map_some] at hcell
      have hfree := hrow.out.free k
      have hsk : cs[k] ≤ S := by rw [HS.out]; exact Bm.mem_le_sum cs _ (List.getElem_mem hkl)
      have Hn := Lib.hid (Bm.partsTo_next cs size k hkl)
      have Hn0 := Lib.hid (Bm.partsTo_none cs size k hkl)
      have hpm := Bm.partN_max size S cs[k]
      rw [← HS.out] at Hn
      have Hpm := Lib.hid hpm
      have hpz : (cs[k] : Int) * size ≤ 1048576 * 512 := by
        rw [← Int.natCast_mul]
        have := Nat.mul_le_mul hb hsz
        omega
      have hpz0 : 0 ≤ (cs[k] : Int) * size := by rw [← Int.natCast_mul]; omega
      clear hc hgt hpm
      generalize cs[k] = z at c0 hb hsk Hn Hn0 Hpm hpz hpz0
      by_cases hz : 0 < z
      · have hmax := Hpm.out hz
        have Hmax := Lib.hid hmax
        clear hmax
        have hq0 : 0 ≤ (z : Int) * size / S := Int.ediv_nonneg hpz0 (by omega)
        go_wp2
        go_roundw
        case rel =>
          refine ⟨k + 1, by omega, by go_num, Lib.hid ?_, Lib.hid (hbel.out.setCell (by rw [Hg0.out]; exact Nat.le_refl _) _)⟩
          rw [Hn.out]
          have h1 := hrow.out.set_ k (.int .i64 (Bm.partN size S z : Int))
          rw [show i64s ((Bm.partsTo cs size k).set k (Bm.partN size S z)) = (i64s (Bm.partsTo cs size k)).set k (.int .i64 (Bm.partN size S z : Int)) by simp [i64s, List.map_set]]
          rw [← Hmax.out] at h1 ⊢
          exact h1
        case measure => simp [intOf]; omega
      · have e0 : z = 0 := by omega
        have H2 := Lib.hid (Hn0.out e0)
        clear e0
        go_wp2
        go_roundw
        case rel => exact ⟨k + 1, by omega, by go_num, Lib.hid (by rw [H2.out]; exact hrow.out), hbel⟩
        case measure => simp [intOf]; omega
    · obtain rfl : k = cs.length := by omega
      rw [Bm.partsTo_all] at hrow
      go_wp2
      go_ret
      exact ⟨g0, rfl, by rw [Hg0.out]; exact Nat.le_refl _, hrow.out, hbel.out⟩
end Go.Proofs.YtbdciiiimdbmkaaGreat
