/-
  General lemmas over any program: what the call owns, as a slice that reads; or of words. No condition.
  What layer 13's calls (codes) are to answer, as the laws' walks ask for it: definitions, each a premise of a law's walk. No condition.
  The reference's Width (layer 1), by its walk, over layer 6's mathematics. Condition: the argument is a uint32.
  The reference of layer 1 (bits), by its walk: Of, Number (XWr's proofs, without layer 1's Writer). Conditions: as each theorem's premises say.
  General lemmas over a program that has bytes, slices of bytes, strings: a new slice of bytes, bytes as a string. No condition.
  Small facts of memory for layer 16 (seqs). No condition.
  The leaves of layer 1 (bits), each by its walk: lowest, Len, Left. Each contract holds for every input of its premises; no condition beyond.
  Put of a Writer (layer 1), by its walk: refused numbers of bits leave all as it is; else the bits go behind those that are there.
  The reference of layer 1 (bits), each function by its walk: Of, Bytes, Bits, on lists of noughts and ones. Conditions: as each theorem's premises say (up to 32 bits of a number, up to a million bits in a list).
  The reference of layer 1 (bits), by its walk: Number. Conditions: as each theorem's premises say (up to 32 bits of a number).
  Strings as lists of bytes: concatenation, pieces, equality, indices. No condition.
  Layer 3 (cursor): what a Reader answers, as lists of bytes; a Writer and a Reader in memory, and what keeps each. No condition.
  Layer 3 (cursor), the leaves, each by its walk: fixed, ends, Bad, fail, Done, New. Conditions: as each theorem's premises say.
  Layer 3 (cursor), the Reader, each by its walk: Group. Conditions: as each theorem's premises say (up to a hundred million bytes).
  Layer 3 (cursor), the Writer, each by its walk: Raw, Fixed, Group, Text. Conditions: as each theorem's premises say (up to a hundred million bytes).
  A string as a new slice of bytes. No condition beyond the theorem's premises.
  Layer 3 (cursor), the Reader, each by its walk: Int, Text, Rest, Fixed. Conditions: as each theorem's premises say (up to a hundred million bytes).
  What is left of a Reader, case by case (layers 15, 16). No condition but the theorems' premises.
  Layer 3 (cursor), the Writer, each by its walk: Group, Text. Conditions: as each theorem's premises say (up to a hundred million bytes).
  The reference of layer 3 (cursor), each by its walk: Fixed, Group, Text, Value. Conditions: as each theorem's premises say.
-/
import Derived.Test.YtbdciiiimdbmkaaGreatGab
import Derived.Test.YtbdciiiimdbmkaaGreatGaa
import Derived.Lib.Hide
import Derived.Lib.BitFns
import Derived.BigQuiet
import Derived.Deep.QuietTactic
import Derived.RegionTactic
import Derived.BigRegion
import Derived.Laws.Concat
import Derived.Laws.DeepStrings4
import Derived.Laws.IdiomStrings
namespace Go.Proofs.YtbdciiiimdbmkaaGreat
open Go.RowKit

theorem u64_wrap (n : Nat) (h : n < 2 ^ 64) : IntKind.u64.wrap (n : Int) = (n : Int) := by
  have : IntKind.u64.wrap (n : Int) = (n : Int) % 18446744073709551616 := by simp [IntKind.wrap, IntKind.bits, IntKind.signed]
  rw [this]; omega
theorem or_val (rest x a : Nat) (hr : rest < 2 ^ 64) : bits .or .u64 (rest : Int) (IntKind.u64.wrap ((x : Int) * 2 ^ a)) = ((rest ||| x * 2 ^ a % 2 ^ 64 : Nat) : Int) := by
  have e : (x : Int) * 2 ^ a = ((x * 2 ^ a : Nat) : Int) := by simp
  have e2 : IntKind.u64.wrap ((x * 2 ^ a : Nat) : Int) = ((x * 2 ^ a % 2 ^ 64 : Nat) : Int) := by
    have : IntKind.u64.wrap ((x * 2 ^ a : Nat) : Int) = ((x * 2 ^ a : Nat) : Int) % 18446744073709551616 := by simp [IntKind.wrap, IntKind.bits, IntKind.signed]
    rw [this]; omega
  rw [e, e2, u64_or_nat _ _ hr (by exact Nat.mod_lt _ (by decide))]
theorem modpow (v m : Nat) : (v : Int) % 2 ^ m = ((v % 2 ^ m : Nat) : Int) := by simp
theorem reads_u8 {w : World} {A : Option Addr} {l : List Nat} (h : Reads w A (u8s l)) (hne : l ≠ []) : ∃ g off, A = some ⟨g, off, none⟩ ∧ ∀ j (hj : j < l.length), w.cell? ⟨g, off + j, none⟩ = some (.int .u8 (l[j] : Int)) := by
  obtain ⟨g, off, e, hc⟩ := h (by simpa [u8s] using hne)
  exact ⟨g, off, e, fun j hj => by rw [hc j (by simpa [u8s] using hj), u8s_get? l j hj]⟩
/-- A byte more of the reference's Bytes. -/
theorem own_form {w : World} {base : Nat} {e : TypeId} {v : Value} {n : Nat} {xs : List Value} (h : w.ownsRow base e 1 v n xs) (hn : 0 < n) : ∃ g cap, v = .slice (some ⟨g, 0, none⟩) n cap ∧ base ≤ g ∧ g < w.heap.size := by
  rcases h.2 with ⟨_, h0⟩ | ⟨g, cap, cur, hv, hb, hh, _⟩
  · omega
  · refine ⟨g, cap, hv, hb, ?_⟩
    rcases Nat.lt_or_ge g w.heap.size with h1 | h1
    · exact h1
    · rw [Array.getElem?_eq_none h1] at hh; cases hh
theorem own_below {w w' : World} {base : Nat} {e : TypeId} {v : Value} {n : Nat} {xs : List Value} (h : w.ownsRow base e 1 v n xs) (hb : Below w.heap.size w w') : w'.ownsRow base e 1 v n xs :=
  h.kept (row := none) (grown_below hb none) (by cases v.ownBlock <;> simp)
theorem add_zero_off (g j : Nat) : ((⟨g, 0, none⟩ : Addr).add j) = ⟨g, j, none⟩ := by
  unfold Addr.add; split <;> simp_all
/-- A list that the call owns, as one that reads. -/
theorem own_reads {w : World} {base : Nat} {e : TypeId} {v : Value} {n : Nat} {xs : List Value} (h : w.ownsRow base e 1 v n xs) : ∃ A c, v = .slice A n c ∧ Reads w A xs ∧ (∀ a, A = some a → base ≤ a.block ∧ a.block < w.heap.size ∧ ∃ cs fz, w.heap[a.block]? = some (.cells cs e fz)) := by
  rcases Nat.eq_zero_or_pos n with h0 | h0
  · subst h0
    have hl : xs = [] := List.eq_nil_of_length_eq_zero (by simpa using h.1)
    subst hl
    rcases h.2 with ⟨hv, _⟩ | ⟨g, cap, cur, hv, hb, hh, _⟩
    · exact ⟨none, 0, hv, fun h => absurd rfl h, fun a e => by cases e⟩
    · refine ⟨some ⟨g, 0, none⟩, cap, hv, fun h => absurd rfl h, fun a e => ?_⟩
      injection e with e
      subst e
      refine ⟨hb, ?_, _, _, hh⟩
      rcases Nat.lt_or_ge g w.heap.size with h1 | h1
      · exact h1
      · rw [Array.getElem?_eq_none h1] at hh; cases hh
  · rcases h.2 with ⟨_, h1⟩ | ⟨g, cap, cur, hv, hb, hh, h3⟩
    · omega
    · refine ⟨some ⟨g, 0, none⟩, cap, hv, fun _ => ⟨g, 0, rfl, fun j hj => ?_⟩, fun a e => ?_⟩
      · have hc := h.cells (g := g) (by rw [hv]; rfl) j (xs[j]) (List.getElem?_eq_getElem hj)
        rw [add_zero_off] at hc
        rw [Nat.zero_add, hc, List.getElem?_eq_getElem hj]
      · injection e with e
        subst e
        refine ⟨hb, ?_, _, _, hh⟩
        rcases Nat.lt_or_ge g w.heap.size with h1 | h1
        · exact h1
        · rw [Array.getElem?_eq_none h1] at hh; cases hh
theorem byte_val (v k : Nat) : (v : Int) / 2 ^ (8 * k) % 256 = ((v / 256 ^ k % 256 : Nat) : Int) := by rw [Bm.p256]; simp
theorem below_of_grown {w w' : World} (h : w.grownBy w' none) : Below w.heap.size w w' := ⟨h.os, h.tape, h.output, h.size, fun k hk => h.block k hk (by simp)⟩
theorem row_reads {w : World} {g : Nat} {t : TypeId} {cs : List Value} (h : Row w g t cs) : Reads w (some ⟨g, 0, none⟩) cs := fun _ => ⟨g, 0, rfl, fun j _ => by rw [Nat.zero_add]; exact h.cell j⟩
theorem reads_below {w W : World} {A : Option Addr} {xs : List Value} (h : Reads w A xs) (hb : Below w.heap.size w W) (hA : ∀ a, A = some a → a.block < w.heap.size) : Reads W A xs := fun hne => by
  obtain ⟨g, off, e, hc⟩ := h hne
  have hg : g < w.heap.size := hA _ e
  exact ⟨g, off, e, fun j hj => (hb.cell (p := ⟨g, off + j, none⟩) hg).trans (hc j hj)⟩
theorem own_cap {w : World} {base g n cap : Nat} {e : TypeId} {xs : List Value} (h : w.ownsRow base e 1 (.slice (some ⟨g, 0, none⟩) n cap) n xs) : n ≤ cap ∧ cap ≤ maxLen := by
  rcases h.2 with ⟨hv, _⟩ | ⟨g', cap', cur, hv, hb, hh, h1, h2, _⟩
  · cases hv
  · injection hv with _ _ e3
    subst e3
    exact ⟨h1, h2⟩
/-- A slice that the call owns and that isn't nil: its place, and what it reads as. -/
theorem own_place {w : World} {base g n cap : Nat} {e : TypeId} {xs : List Value} (h : w.ownsRow base e 1 (.slice (some ⟨g, 0, none⟩) n cap) n xs) : base ≤ g ∧ g < w.heap.size ∧ n ≤ cap ∧ cap ≤ maxLen ∧ Reads w (some ⟨g, 0, none⟩) xs := by
  obtain ⟨A, c', e, h1, h2⟩ := own_reads h
  injection e with e1 e2 e3
  subst e1
  obtain ⟨h3, h4, _⟩ := h2 _ rfl
  exact ⟨h3, h4, (own_cap h).1, (own_cap h).2, h1⟩
theorem own_low {w : World} {base base' n : Nat} {v : Value} {e : TypeId} {xs : List Value} (h : w.ownsRow base e 1 v n xs) (hb : base' ≤ base) : w.ownsRow base' e 1 v n xs :=
  ⟨h.1, h.2.imp id (fun ⟨g, cap, cur, a, b, c⟩ => ⟨g, cap, cur, a, Nat.le_trans hb b, c⟩)⟩
theorem reads_alloc {w : World} {g : Nat} {xs : List Value} (h : Reads w (some ⟨g, 0, none⟩) xs) (hg : g < w.heap.size) (o : Obj) : Reads (w.alloc o) (some ⟨g, 0, none⟩) xs := fun hne => by
  obtain ⟨g', off, e, hc⟩ := h hne
  injection e with e
  injection e with e1 e2
  subst e1 e2
  exact ⟨_, _, rfl, fun j hj => by rw [World.cell?_alloc_lt _ _ _ (by exact hg)]; exact hc j hj⟩
theorem reads_news {w : World} {g off : Nat} {xs : List Value} (h : Reads w (some ⟨g, off, none⟩) xs) : ∀ j u, xs[j]? = some u → w.cell? ((⟨g, off, none⟩ : Addr).add j) = some u := by
  intro j u hj
  have hjl : j < xs.length := by
    rcases Nat.lt_or_ge j xs.length with h1 | h1
    · exact h1
    · rw [List.getElem?_eq_none h1] at hj; cases hj
  obtain ⟨g', off', e, hc⟩ := h (by intro e; rw [e] at hjl; simp at hjl)
  injection e with e
  injection e with e1 e2
  subst e1 e2
  have e : ((⟨g, off, none⟩ : Addr).add j) = ⟨g, off + j, none⟩ := by unfold Addr.add; split <;> simp_all
  rw [e, hc j hjl, hj]
end Go.Proofs.YtbdciiiimdbmkaaGreat

namespace Go.Proofs.YtbdciiiimdbmkaaGreat
open Go.RowKit

def KCode : Prop := (∀ (w : World) (v : Nat), v ≤ 65535 → Calls Tryz.prog 37 #[.int .i64 (v : Int)] w fun e w' => e = .returned (.tuple #[.int .u8 (Bm.codeK v : Int), .int .i64 (Bm.moreN v : Int), .int .i64 (Bm.bitsK v : Int), .bool true]) ∧ Below w.heap.size w w') ∧
  ∀ (w : World) (v : Int), -9223372036854775808 ≤ v ∧ v ≤ 9223372036854775807 → (v < 0 ∨ 65535 < v) → Calls Tryz.prog 37 #[.int .i64 v] w fun e w' => e = .returned (.tuple #[.int .u8 0, .int .i64 0, .int .i64 0, .bool false]) ∧ Below w.heap.size w w'
def KValue : Prop := ∀ (w : World) (c m : Nat), c < 256 → m < 4294967296 → Calls Tryz.prog 77 #[.int .u8 (c : Int), .int .u32 (m : Int)] w fun e w' => e = .returned (match Bm.valueK c m with | some g => .tuple #[.int .i64 (g : Int), .bool true] | none => .tuple #[.int .i64 0, .bool false]) ∧ Below w.heap.size w w'
def KExtra : Prop := ∀ (w : World) (c : Nat), c < 256 → Calls Tryz.prog 75 #[.int .u8 (c : Int)] w fun e w' => e = .returned (.tuple #[.int .i64 (max (Bm.extraI c) 0), .bool (decide (0 ≤ Bm.extraI c))]) ∧ Below w.heap.size w w'
def KFirst : Prop := ∀ w : World, Calls Tryz.prog 35 #[] w fun e w' => e = .returned (.agg #[.int .i64 1, .int .i64 2, .int .i64 4]) ∧ Below w.heap.size w w'
def Ok64 (x : Int) : Prop := -9223372036854775808 ≤ x ∧ x ≤ 9223372036854775807
def KNum : Prop := ∀ (w : World) (a b c x : Int), Ok64 a → Ok64 b → Ok64 c → Ok64 x → Calls Tryz.prog 56 #[.agg #[.int .i64 a, .int .i64 b, .int .i64 c], .int .i64 x] w fun e w' =>
  (0 ≤ Bm.numI a b c x → e = .returned (.tuple #[.int .i64 (Bm.numI a b c x), .agg #[.int .i64 (Bm.behI a b c x).1, .int .i64 (Bm.behI a b c x).2.1, .int .i64 (Bm.behI a b c x).2.2], .bool true])) ∧
  (Bm.numI a b c x < 0 → e = .returned (.tuple #[.int .i64 0, .agg #[.int .i64 a, .int .i64 b, .int .i64 c], .bool false])) ∧ Below w.heap.size w w'
def KOff : Prop := ∀ (w : World) (a b c n : Int), Ok64 a → Ok64 b → Ok64 c → Ok64 n → Calls Tryz.prog 78 #[.agg #[.int .i64 a, .int .i64 b, .int .i64 c], .int .i64 n] w fun e w' =>
  (∀ x, Bm.offI a b c n = some x → e = .returned (.tuple #[.int .i64 x, .agg #[.int .i64 (Bm.behI a b c x).1, .int .i64 (Bm.behI a b c x).2.1, .int .i64 (Bm.behI a b c x).2.2], .bool true])) ∧
  (Bm.offI a b c n = none → e = .returned (.tuple #[.int .i64 0, .agg #[.int .i64 a, .int .i64 b, .int .i64 c], .bool false])) ∧ Below w.heap.size w w'
end Go.Proofs.YtbdciiiimdbmkaaGreat

namespace Go.Proofs.YtbdciiiimdbmkaaGreat
open Go.RowKit

theorem bitLen_z6 : Lib.bitLen 0 = 0 := by decide
theorem bitLen_wid : ∀ x : Nat, x < 2 ^ 64 → Lib.bitLen x = Bm.wid x := by
  intro x
  induction x using Nat.strongRecOn with
  | ind x ih =>
    intro hx
    rcases Nat.eq_zero_or_pos x with h | h
    · subst h; rfl
    · rw [Lib.bitLen_half x (by omega) hx, ih (x / 2) (by omega) (by omega)]
      rcases Nat.eq_zero_or_pos (x / 2) with h1 | h1
      · rw [h1, show x = 1 by omega, Bm.wid_eq 1 0 (by simp) (by simp)]
        rfl
      · have h2 := Bm.wid_double (x / 2) h1 (x % 2) (by omega)
        rw [show 2 * (x / 2) + x % 2 = x by omega] at h2
        omega
set_option maxHeartbeats 400000 in
set_option maxRecDepth 100000 in
theorem rwidth_len (x : Nat) (w : World) (hx : x < 4294967296) :
    Calls Tryz.prog 90 #[.int .u32 (x : Int)] w fun e w' => e = .returned (.int .i64 (Lib.bitLen x : Int)) ∧ w = w' := by
  have hb := Lib.bitLen_le x 32 (by omega) (by omega)
  go_enter Tryz.func90, Tryz.ntmps90
  go_wp2
  go_loop [0, 3] (fun v n => ∃ y k : Nat, y ≤ x ∧ v = .int .u32 (y : Int) ∧ n = .int .i64 (k : Int) ∧ Hid (k + Lib.bitLen y = Lib.bitLen x)) (fun v _ => (intOf v).toNat)
  case atStart => exact ⟨x, 0, Nat.le_refl _, rfl, rfl, by unfold Hid; omega⟩
  case round =>
    obtain ⟨y, k, hy, rfl, rfl, hk⟩ := hrel
    have hk32 : k ≤ 32 := by have := hk.out; omega
    by_cases h0 : 0 < y
    · have hh : Lib.bitLen y = 1 + Lib.bitLen (y / 2) := Lib.bitLen_half y (by omega) (by omega)
      have Hh := Lib.hid hh
      clear hh
      go_wp2
      go_round
      case rel => exact ⟨y / 2, k + 1, by omega, by go_num, by go_num, by have h1 := hk.out; have h2 := Hh.out; unfold Hid; omega⟩
      case measure => simp [intOf]; omega
    · obtain rfl : y = 0 := by omega
      go_wp2
      go_ret
      exact ⟨congrArg Ending.returned (congrArg (Value.int .i64) (by have h1 := hk.out; rw [bitLen_z6] at h1; omega)), rfl⟩
theorem rwidth_wid (x : Nat) (w : World) (hx : x < 4294967296) :
    Calls Tryz.prog 90 #[.int .u32 (x : Int)] w fun e w' => e = .returned (.int .i64 (Bm.wid x : Int)) ∧ w = w' := by
  have h := rwidth_len x w hx
  rw [bitLen_wid x (by omega)] at h
  exact h
end Go.Proofs.YtbdciiiimdbmkaaGreat

namespace Go.Proofs.YtbdciiiimdbmkaaGreat
open Go.RowKit

theorem info_io : (Tryz.prog.info? 3).map (fun i => (i.zero, i.size, i.bytes)) = some (some (.int .i64 0), 1, 8) := by kernel_rfl
set_option maxHeartbeats 400000 in
set_option maxRecDepth 100000 in
theorem rof_bits (v n : Nat) (w : World) (hv : v < 4294967296) (hn : n ≤ 32) :
    Calls Tryz.prog 46 #[.int .u32 (v : Int), .int .i64 (n : Int)] w fun e w' =>
      ∃ u, e = .returned u ∧ w'.ownsRow w.heap.size 3 1 u n (i64s (Bm.bitsOf v n)) ∧ Below w.heap.size w w' ∧ (n = 0 → u = .slice none 0 0) := by
  obtain ⟨i0, hi, hz0, hz1, hz2⟩ := info_parts info_io
  go_enter Tryz.func46, Tryz.ntmps46
  go_wp2
  go_loopw [5, 6] (fun u i wr => ∃ k : Nat, k ≤ n ∧ i = .int .i64 k ∧ wr.ownsRow w.heap.size 3 1 u k (i64s (Bm.bitsOf v k)) ∧ Below w.heap.size w wr ∧ (k = 0 → u = .slice none 0 0)) (fun _ i _ => n - (intOf i).toNat)
  case atStart => exact ⟨0, Nat.zero_le _, rfl, World.ownsRow_nil _ _ _ _, Below.refl _ _, fun _ => rfl⟩
  case round =>
    obtain ⟨k, hk, rfl, hown, hbel, hnil⟩ := hrel
    have hb0 : 0 ≤ (v : Int) / 2 ^ k := Int.ediv_nonneg (by omega) (by exact_mod_cast Nat.zero_le (2 ^ k))
    have hb1 : (v : Int) / 2 ^ k ≤ 4294967295 := by
      have h1 : (v : Int) / 2 ^ k = ((v / 2 ^ k : Nat) : Int) := by simp
      have h2 := Nat.div_le_self v (2 ^ k)
      omega
    by_cases hlt : k < n
    · go_wp2_with (at_builtin; refine wpList_append_own _ rfl _ _ 57 rfl w.heap.size 3 i0 (.int .i64 0) 1 8 Tryz.underlying57 hi hz0 hz1 hz2 rfl (by decide) _ _ _ rfl (hown.alloc _) ⟨wr.heap.size, 0, none⟩ 1 1 [.int .i64 ((v : Int) / 2 ^ k % 2)] rfl rfl ?c1 ?c2 ?c3 ?c4 ?c5 ?_)
      case c1 =>
        intro j u hj
        match j, hj with
        | 0, hj => simp at hj; subst hj; simp [Addr.add]
      case c2 => intro u hu; simp at hu; subst hu; rfl
      case c3 => unfold maxLen; omega
      case c4 => omega
      case c5 => have := hbel.size; simp; omega
      intro u' w1 hown' hgrow _
      have e : i64s (Bm.bitsOf v k) ++ [Value.int .i64 ((v : Int) / 2 ^ k % 2)] = i64s (Bm.bitsOf v (k + 1)) := by
        rw [Bm.bitsOf_succ]; simp [i64s]
      rw [e] at hown'
      have hb' : Below w.heap.size w w1 := (hbel.alloc hbel.size _).grown hgrow (by have := hbel.size; simp; omega) (fun q hq => (hown.lt q hq).1)
      have Hown := Lib.hid hown'
      have Hb := Lib.hid hb'
      clear hown' hb' hgrow hown hbel e
      go_wp2
      go_roundw
      case rel => exact ⟨k + 1, by omega, by go_num, Hown.out, Hb.out, fun h => by omega⟩
      case measure => simp [intOf]; omega
    · go_wp2
      obtain rfl : k = n := by omega
      go_ret
      exact ⟨_, rfl, hown, hbel, hnil⟩

set_option maxHeartbeats 400000 in
set_option maxRecDepth 100000 in
theorem rnum_none (A : Option Addr) (c : Nat) (w : World) :
    Calls Tryz.prog 25 #[.slice A 0 c] w fun e w' => e = .returned (.int .u32 0) ∧ w = w' := by
  go_enter Tryz.func25, Tryz.ntmps25
  go_wp2
  go_loop [3, 4] (fun v i => v = .int .u32 0 ∧ i = .int .i64 (-1)) (fun _ _ => 0)
  case atStart => exact ⟨rfl, rfl⟩
  case round =>
    obtain ⟨rfl, rfl⟩ := hrel
    go_wp2
    go_ret
    exact ⟨rfl, rfl⟩

set_option maxHeartbeats 400000 in
set_option maxRecDepth 100000 in
theorem rnum_bits (g off n c N : Nat) (w : World) (hn : n ≤ 32) (hn0 : 0 < n) (hc : ∀ j, j < n → w.cell? ⟨g, off + j, none⟩ = some (.int .i64 ((N / 2 ^ j % 2 : Nat) : Int))) :
    Calls Tryz.prog 25 #[.slice (some ⟨g, off, none⟩) n c] w fun e w' => e = .returned (.int .u32 ((N % 2 ^ n : Nat) : Int)) ∧ w = w' := by
  have hx : N % 2 ^ n < 4294967296 := Nat.lt_of_lt_of_le (Nat.mod_lt _ (Nat.two_pow_pos n)) (Nat.pow_le_pow_right (n := 2) (by omega) hn)
  go_enter Tryz.func25, Tryz.ntmps25
  go_wp2
  go_loop [3, 4] (fun v i => ∃ k y : Nat, k ≤ n ∧ v = .int .u32 (y : Int) ∧ i = .int .i64 ((k : Int) - 1) ∧ Hid (y = N % 2 ^ n / 2 ^ k)) (fun _ i => (intOf i + 1).toNat)
  case atStart => exact ⟨n, 0, Nat.le_refl _, rfl, rfl, by unfold Hid; rw [Nat.div_eq_of_lt (Nat.mod_lt _ (Nat.two_pow_pos n))]⟩
  case round =>
    obtain ⟨k, y, hk, rfl, rfl, hy⟩ := hrel
    by_cases h0 : k = 0
    · subst h0
      have hf : Ending.returned (Value.int .u32 (y : Int)) = Ending.returned (Value.int .u32 ((N % 2 ^ n : Nat) : Int)) := by
        have h1 := hy.out
        rw [Nat.pow_zero, Nat.div_one] at h1
        rw [h1]
      have Hf := Lib.hid hf
      clear hc hf hy
      go_wp2
      go_ret
      exact ⟨Hf.out, rfl⟩
    · obtain ⟨j, rfl⟩ : ∃ j, k = j + 1 := ⟨k - 1, by omega⟩
      rw [show (((j + 1 : Nat) : Int) - 1) = (j : Int) by omega]
      have hcell := hc j (by omega)
      have ht : N / 2 ^ j % 2 ≤ 1 := by omega
      have hs : y * 2 + N / 2 ^ j % 2 = N % 2 ^ n / 2 ^ j := by
        have h1 := hy.out
        rw [← Bm.mod_digit N n j (by omega), h1, Nat.pow_succ, ← Nat.div_div_eq_div_mul]
        omega
      have hle : y * 2 + N / 2 ^ j % 2 ≤ 4294967295 := by
        have := Nat.div_le_self (N % 2 ^ n) (2 ^ j)
        omega
      have Hs := Lib.hid hs
      clear hs hc hy
      generalize N / 2 ^ j % 2 = t at hcell ht Hs hle
      go_wp2
      go_round
      case rel => exact ⟨j, y * 2 + t, by omega, by go_num, by go_num, Hs⟩
      case measure => simp [intOf]

end Go.Proofs.YtbdciiiimdbmkaaGreat

namespace Go.Proofs.YtbdciiiimdbmkaaGreat
open Go.RowKit

theorem info_u8 : (Tryz.prog.info? 5).map (fun i => (i.zero, i.size, i.bytes)) = some (some (.int .u8 0), 1, 1) := by kernel_rfl
theorem row_of_own {w : World} {base g n : Nat} (h : w.ownsRow base 5 1 (.slice (some ⟨g, 0, none⟩) n n) n (madeCells #[Value.int .u8 0] n).toList) : Row w g 5 (u8s (List.replicate n 0)) := by
  rcases h.2 with ⟨hv, _⟩ | ⟨g', cap, cur, hv, hb, hh, h1, h2, h3, h4⟩
  · cases hv
  · injection hv with e1 e2 e3
    injection e1 with e1
    injection e1 with e1
    subst e1 e3
    have e : cur.toList = u8s (List.replicate n 0) := by
      rw [List.take_of_length_le (by rw [Array.length_toList]; omega)] at h4
      rw [h4, toList_madeCells_one]
      simp only [u8s, List.map_replicate]
      rfl
    unfold Row
    rw [← e, Array.toArray_toList]
    exact hh
theorem conv_bytes (w : World) (A : Option Addr) (c : Nat) (bs : List Nat) (hbs : ∀ b ∈ bs, b < 256) (hr : Reads w A (u8s bs)) :
    (convert 45 9 (.slice A bs.length c)).run Tryz.prog w = .ok (.string (strOf bs)) w := by
  have key : ∀ a : Addr, (∀ j (hj : j < bs.length), w.cell? (a.add j) = some (.int .u8 (bs[j] : Int))) → (convert 45 9 (.slice (some a) bs.length c)).run Tryz.prog w = .ok (.string (strOf bs)) w := by
    intro a ha
    have h := run_convert_bytes_back (P := Tryz.prog) w 45 9 5 a c (bs.map UInt8.ofNat) Tryz.underlying45 Tryz.underlying5 Tryz.underlying9 (fun j hj => by
      have hj' : j < bs.length := by simpa using hj
      have hlt := hbs bs[j] (List.getElem_mem hj')
      rw [ha j hj', List.getElem_map, UInt8.toNat_ofNat_of_lt' hlt])
    rw [List.length_map] at h
    exact h
  rcases bs with _ | ⟨b, bs⟩
  · rcases A with _ | a
    · exact run_convert_bytes_nil w 45 5 Tryz.underlying45 Tryz.underlying5 0 c 9 Tryz.underlying9
    · exact key a (fun j hj => absurd hj (by simp))
  · obtain ⟨g, off, rfl, hc⟩ := reads_u8 hr (by simp)
    refine key _ (fun j hj => ?_)
    have e : ((⟨g, off, none⟩ : Addr).add j) = ⟨g, off + j, none⟩ := by unfold Addr.add; split <;> simp_all
    rw [e]
    exact hc j hj
theorem index_at (bs : List Nat) (i : Nat) (W : World) (hi : i < bs.length) (hlt : bs[i] < 256) : (Instr.index 9 (.string (strOf bs)) (.int .i64 (i : Int))).run Tryz.prog W = .ok (.int .u8 ((bs[i] : Nat) : Int)) W := by
  have hs := strOf_size bs
  rw [run_index_string W 9 (strOf bs) .i64 (i : Int) Tryz.underlying9, dif_pos ⟨by omega, by omega⟩]
  have e : (strOf bs)[i]'(by omega) = UInt8.ofNat bs[i] := by
    rw [ByteArray.getElem_eq_getElem_data]
    simp [strOf]
  simp only [Int.toNat_natCast, e]
  rw [UInt8.toNat_ofNat_of_lt' hlt]
theorem own_of_row {w : World} {base g : Nat} {l : List Nat} (h : Row w g 5 (u8s l)) (hb : base ≤ g) (hm : l.length ≤ 1000000000) : w.ownsRow base 5 1 (.slice (some ⟨g, 0, none⟩) l.length l.length) l.length (u8s l) :=
  ⟨by rw [u8s_length, Nat.mul_one], .inr ⟨g, l.length, (u8s l).toArray, rfl, hb, h, Nat.le_refl _, by unfold maxLen; omega, by simp [u8s_length], by rw [List.take_of_length_le (by simp [u8s_length])]⟩⟩
end Go.Proofs.YtbdciiiimdbmkaaGreat

namespace Go.Proofs.YtbdciiiimdbmkaaGreat
open Go.RowKit

theorem reads_keep {w w' : World} {A : Option Addr} {xs : List Value} {b : Nat} (h : Reads w A xs) (hA : ∀ a, A = some a → a.block ≠ b) (hg : w.grownBy w' (some b)) : Reads w' A xs := fun hne => by
  obtain ⟨g, off, rfl, hc⟩ := h hne
  have hgb : g ≠ b := hA _ rfl
  refine ⟨g, off, rfl, fun j hj => ?_⟩
  have h1 := hc j hj
  have hlt : j < xs.length := hj
  rw [List.getElem?_eq_getElem hlt] at h1 ⊢
  exact hg.cell h1 (fun e => by injection e with e; exact hgb e)
theorem grown_one (W : World) (p : Addr) (u : Value) : W.grownBy (W.setCell p u) (some p.block) := ⟨rfl, rfl, rfl, by simp [World.setCell], fun i _ hne => Below.heap_setCell W p u i (fun e => hne (by rw [e]))⟩
end Go.Proofs.YtbdciiiimdbmkaaGreat

namespace Go.Proofs.YtbdciiiimdbmkaaGreat
open Go.RowKit

theorem mask_eq (v n : Nat) (hv : v < 2 ^ 64) (hn : n < 64) : bits .and .u64 (v : Int) (IntKind.u64.wrap (IntKind.u64.wrap (2 ^ n) - 1)) = ((v % 2 ^ n : Nat) : Int) := by
  have hp : 2 ^ n < 2 ^ 64 := Nat.pow_lt_pow_right (by omega) hn
  have e : ((2 : Int) ^ n) = ((2 ^ n : Nat) : Int) := by simp
  have hpos := Nat.two_pow_pos n
  rw [e, u64_wrap _ hp, show ((2 ^ n : Nat) : Int) - 1 = ((2 ^ n - 1 : Nat) : Int) by omega, u64_wrap _ (by omega), u64_and_nat _ _ hv (by omega), Nat.and_two_pow_sub_one_eq_mod]

set_option maxHeartbeats 400000 in
set_option maxRecDepth 100000 in
theorem lowest_any (v n : Nat) (w : World) (hv : v < 2 ^ 64) (hn : n < 64) :
    Calls Tryz.prog 58 #[.int .u64 (v : Int), .int .i64 (n : Int)] w fun e w' => e = .returned (.int .u64 ((v % 2 ^ n : Nat) : Int)) ∧ w = w' := by
  have hm := mask_eq v n hv hn
  have Hm := Lib.hid hm
  clear hm hv
  go_enter Tryz.func58, Tryz.ntmps58
  go_wp2
  go_ret
  exact ⟨congrArg Ending.returned (congrArg (Value.int .u64) Hm.out), rfl⟩

set_option maxHeartbeats 400000 in
set_option maxRecDepth 100000 in
theorem len_any (b off : Nat) (n : Int) (w : World) (h : w.cell? ⟨b, off + 2, none⟩ = some (.int .i64 n)) :
    Calls Tryz.prog 121 #[.pointer (some ⟨b, off, none⟩)] w fun e w' => e = .returned (.int .i64 n) ∧ w = w' := by
  go_enter Tryz.func121, Tryz.ntmps121
  go_wp2
  go_ret
  exact ⟨rfl, rfl⟩

set_option maxHeartbeats 400000 in
set_option maxRecDepth 100000 in
theorem left_nil (w : World) : Calls Tryz.prog 79 #[.pointer none] w fun e w' => e = .returned (.int .i64 0) ∧ w = w' := by
  go_enter Tryz.func79, Tryz.ntmps79
  go_wp2
  go_ret
  exact ⟨rfl, rfl⟩

set_option maxHeartbeats 400000 in
set_option maxRecDepth 100000 in
theorem left_core (b off : Nat) (s : ByteArray) (n : Nat) (w : World) (hs : s.size ≤ 1000000000) (hn : n ≤ 8 * s.size) (h0 : w.cell? ⟨b, off, none⟩ = some (.string s)) (h : w.cell? ⟨b, off + 1, none⟩ = some (.int .i64 (n : Int))) :
    Calls Tryz.prog 79 #[.pointer (some ⟨b, off, none⟩)] w fun e w' => e = .returned (.int .i64 ((8 * s.size - n : Nat) : Int)) ∧ ∃ k, w' = w.drewN k := by
  have hx : (8 * (s.size : Int) - (n : Int)) = ((8 * s.size - n : Nat) : Int) := by omega
  have Hx := Lib.hid hx
  clear hx
  go_enter Tryz.func79, Tryz.ntmps79
  go_wp2
  go_quiet (fail)
  go_wp2
  go_ret
  exact ⟨congrArg Ending.returned (congrArg (Value.int .i64) Hx.out), _, rfl⟩
theorem left_any (b off : Nat) (bs : List Nat) (n : Nat) (w : World) (hs : bs.length ≤ 1000000000) (hn : n ≤ 8 * bs.length) (h : RS w b off bs n) :
    Calls Tryz.prog 79 #[.pointer (some ⟨b, off, none⟩)] w fun e w' => e = .returned (.int .i64 ((8 * bs.length - n : Nat) : Int)) ∧ ∃ k, w' = w.drewN k := by
  have h1 := left_core b off (strOf bs) n w (by rw [strOf_size]; exact hs) (by rw [strOf_size]; exact hn) h.1 h.2.1
  rw [strOf_size] at h1
  exact h1

set_option maxHeartbeats 400000 in
set_option maxRecDepth 100000 in
theorem take_nil (w : World) (n : Int) : Calls Tryz.prog 76 #[.pointer none, .int .i64 n] w fun e w' => e = .returned (.tuple #[.int .u32 0, .bool false]) ∧ w = w' := by
  go_enter Tryz.func76, Tryz.ntmps76
  go_wp2
  go_ret2
  exact ⟨rfl, rfl⟩

end Go.Proofs.YtbdciiiimdbmkaaGreat

namespace Go.Proofs.YtbdciiiimdbmkaaGreat
open Go.RowKit

set_option maxHeartbeats 400000 in
set_option maxRecDepth 100000 in
theorem put_false (a : Addr) (v m : Int) (w : World) (h : m < 0 ∨ 32 < m) :
    Calls Tryz.prog 38 #[.pointer (some a), .int .u32 v, .int .i64 m] w fun e w' => e = .returned (.bool false) ∧ w = w' := by
  rcases h with h | h
  · go_enter Tryz.func38, Tryz.ntmps38
    go_wp2
    go_ret
    exact ⟨rfl, rfl⟩
  · go_enter Tryz.func38, Tryz.ntmps38
    go_wp2
    go_ret
    exact ⟨rfl, rfl⟩

/-- The world behind a Put that fills no word. -/
theorem ws_low {w : World} {b off N n rest v m : Nat} {p : Option Addr} {us : List Nat} (hlow : n % 64 + m < 64)
    (h0 : w.cell? ⟨b, off, none⟩ = some (.pointer p)) (h1 : w.cell? ⟨b, off + 1, none⟩ = some (.int .u64 (rest : Int))) (h2 : w.cell? ⟨b, off + 2, none⟩ = some (.int .i64 (n : Int)))
    (f0 : w.frozen? ⟨b, off, none⟩ = false) (f1 : w.frozen? ⟨b, off + 1, none⟩ = false) (f2 : w.frozen? ⟨b, off + 2, none⟩ = false) (hn : NotT w b 108) (hc : Chain w p us) (hw : Bm.WOk N n rest us) :
    WS ((w.setCell ⟨b, off + 1, none⟩ (.int .u64 ((rest ||| v % 2 ^ m * 2 ^ (n % 64) % 2 ^ 64 : Nat) : Int))).setCell ⟨b, off + 2, none⟩ (.int .i64 ((n + m : Nat) : Int))) b off (N + v % 2 ^ m * 2 ^ n) (n + m) ∧
      w.grownBy ((w.setCell ⟨b, off + 1, none⟩ (.int .u64 ((rest ||| v % 2 ^ m * 2 ^ (n % 64) % 2 ^ 64 : Nat) : Int))).setCell ⟨b, off + 2, none⟩ (.int .i64 ((n + m : Nat) : Int))) (some b) := by
  have hg : w.grownBy ((w.setCell ⟨b, off + 1, none⟩ (.int .u64 ((rest ||| v % 2 ^ m * 2 ^ (n % 64) % 2 ^ 64 : Nat) : Int))).setCell ⟨b, off + 2, none⟩ (.int .i64 ((n + m : Nat) : Int))) (some b) :=
    grown_set (grown_set (grown_refl _ _) _ _) _ _
  refine ⟨⟨p, _, us, ?_, ?_, ?_, ?_, ?_, ?_, (hn.setCell _ _).setCell _ _, hc.keep (words_grown hg (fun g e => by injection e with e; subst e; exact hn)), hw.put_low v m hlow⟩, hg⟩
  · rw [World.cell?_setCell_other _ _ _ _ (by intro e; injection e with _ e _; omega), World.cell?_setCell_other _ _ _ _ (by intro e; injection e with _ e _; omega)]; exact h0
  · rw [World.cell?_setCell_other _ _ _ _ (by intro e; injection e with _ e _; omega), World.cell?_setCell_same _ _ _ h1]
  · rw [World.cell?_setCell_same _ _ _ (show _ = some (.int .i64 (n : Int)) from by rw [World.cell?_setCell_other _ _ _ _ (by intro e; injection e with _ e _; omega)]; exact h2)]
  · simpa using f0
  · simpa using f1
  · simpa using f2

set_option maxHeartbeats 400000 in
set_option maxRecDepth 100000 in
theorem put_low (b off N n : Nat) (v m : Nat) (w : World) (hn : n ≤ 1000000000) (hv : v < 4294967296) (hm : m ≤ 32) (hlow : n % 64 + m < 64) (h : WS w b off N n) :
    Calls Tryz.prog 38 #[.pointer (some ⟨b, off, none⟩), .int .u32 (v : Int), .int .i64 (m : Int)] w fun e w' => e = .returned (.bool true) ∧ WS w' b off (N + v % 2 ^ m * 2 ^ n) (n + m) ∧ w.grownBy w' (some b) := by
  obtain ⟨p, rest, us, h0, h1, h2, f0, f1, f2, hnt, hc, hw⟩ := h
  have hz := ws_low (v := v) (m := m) hlow h0 h1 h2 f0 f1 f2 hnt hc hw
  have Hz := Lib.hid hz
  have ho := or_val rest (v % 2 ^ m) (n % 64) hw.rest_lt
  have Ho := Lib.hid ho
  clear hz ho hc hw hnt f0
  go_enter Tryz.func38, Tryz.ntmps38
  go_wp2_with fail
  refine (lowest_any v m _ (by omega) (by omega)).mono ?_
  rintro e w' ⟨rfl, rfl⟩
  go_wp2
  go_region
  all_goals go_wp2
  go_ret
  rw [modpow, Ho.out, ← Int.natCast_add]
  exact ⟨rfl, Hz.out.1.drew, grown_drew Hz.out.2⟩

/-- The world behind a Put that fills a word: its four stores, and the new word. -/
def highW (w : World) (b off n rest x m : Nat) (p : Option Addr) : World :=
  ((((w.setCell ⟨b, off + 1, none⟩ (.int .u64 ((rest ||| x * 2 ^ (n % 64) % 2 ^ 64 : Nat) : Int))).setCell ⟨b, off + 2, none⟩ (.int .i64 ((n + m : Nat) : Int))).setCell ⟨b, off, none⟩ (.pointer (some ⟨w.heap.size, 0, none⟩))).setCell
    ⟨b, off + 1, none⟩ (.int .u64 ((x / 2 ^ (64 - n % 64) : Nat) : Int))).alloc (.cells #[.pointer p, .int .u64 ((rest ||| x * 2 ^ (n % 64) % 2 ^ 64 : Nat) : Int)] 108)
theorem ws_high {w : World} {b off N n rest v m : Nat} {p : Option Addr} {us : List Nat} (hm : m ≤ 32) (hge : 64 ≤ n % 64 + m)
    (h0 : w.cell? ⟨b, off, none⟩ = some (.pointer p)) (h1 : w.cell? ⟨b, off + 1, none⟩ = some (.int .u64 (rest : Int))) (h2 : w.cell? ⟨b, off + 2, none⟩ = some (.int .i64 (n : Int)))
    (f0 : w.frozen? ⟨b, off, none⟩ = false) (f1 : w.frozen? ⟨b, off + 1, none⟩ = false) (f2 : w.frozen? ⟨b, off + 2, none⟩ = false) (hn : NotT w b 108) (hc : Chain w p us) (hw : Bm.WOk N n rest us) :
    WS (highW w b off n rest (v % 2 ^ m) m p) b off (N + v % 2 ^ m * 2 ^ n) (n + m) ∧ w.grownBy (highW w b off n rest (v % 2 ^ m) m p) (some b) := by
  have hg0 : w.grownBy ((((w.setCell ⟨b, off + 1, none⟩ (.int .u64 ((rest ||| v % 2 ^ m * 2 ^ (n % 64) % 2 ^ 64 : Nat) : Int))).setCell ⟨b, off + 2, none⟩ (.int .i64 ((n + m : Nat) : Int))).setCell ⟨b, off, none⟩
      (.pointer (some ⟨w.heap.size, 0, none⟩))).setCell ⟨b, off + 1, none⟩ (.int .u64 ((v % 2 ^ m / 2 ^ (64 - n % 64) : Nat) : Int))) (some b) := grown_set (grown_set (grown_set (grown_set (grown_refl _ _) _ _) _ _) _ _) _ _
  have hs0 : ((((w.setCell ⟨b, off + 1, none⟩ (.int .u64 ((rest ||| v % 2 ^ m * 2 ^ (n % 64) % 2 ^ 64 : Nat) : Int))).setCell ⟨b, off + 2, none⟩ (.int .i64 ((n + m : Nat) : Int))).setCell ⟨b, off, none⟩
      (.pointer (some ⟨w.heap.size, 0, none⟩))).setCell ⟨b, off + 1, none⟩ (.int .u64 ((v % 2 ^ m / 2 ^ (64 - n % 64) : Nat) : Int))).heap.size = w.heap.size := by simp
  have hg : w.grownBy (highW w b off n rest (v % 2 ^ m) m p) (some b) := grown_alloc hg0 _
  have hb := hn.lt
  have hrow : Row (highW w b off n rest (v % 2 ^ m) m p) w.heap.size 108 [.pointer p, .int .u64 ((rest ||| v % 2 ^ m * 2 ^ (n % 64) % 2 ^ 64 : Nat) : Int)] := by
    have := Row.new ((((w.setCell ⟨b, off + 1, none⟩ (.int .u64 ((rest ||| v % 2 ^ m * 2 ^ (n % 64) % 2 ^ 64 : Nat) : Int))).setCell ⟨b, off + 2, none⟩ (.int .i64 ((n + m : Nat) : Int))).setCell ⟨b, off, none⟩
      (.pointer (some ⟨w.heap.size, 0, none⟩))).setCell ⟨b, off + 1, none⟩ (.int .u64 ((v % 2 ^ m / 2 ^ (64 - n % 64) : Nat) : Int))) 108 [.pointer p, .int .u64 ((rest ||| v % 2 ^ m * 2 ^ (n % 64) % 2 ^ 64 : Nat) : Int)]
    rw [hs0] at this
    exact this
  have ne1 : (⟨b, off + 1, none⟩ : Addr) ≠ ⟨b, off, none⟩ := by intro e; injection e with _ e _; omega
  have ne2 : (⟨b, off + 2, none⟩ : Addr) ≠ ⟨b, off, none⟩ := by intro e; injection e with _ e _; omega
  have ne3 : (⟨b, off + 2, none⟩ : Addr) ≠ ⟨b, off + 1, none⟩ := by intro e; injection e with _ e _; omega
  refine ⟨⟨some ⟨w.heap.size, 0, none⟩, _, _ :: us, ?_, ?_, ?_, ?_, ?_, ?_, ((((hn.setCell _ _).setCell _ _).setCell _ _).setCell _ _).alloc _, ⟨_, p, rfl, hrow, hc.keep (words_grown hg (fun g e => by injection e with e; subst e; exact hn))⟩, hw.put_high v m hm hge⟩, hg⟩ <;>
    unfold highW
  · rw [World.cell?_alloc_lt _ _ _ (by simpa using hb), World.cell?_setCell_other _ _ _ _ ne1]
    exact World.cell?_setCell_same _ _ _ (u := .pointer p) (by rw [World.cell?_setCell_other _ _ _ _ ne2, World.cell?_setCell_other _ _ _ _ ne1]; exact h0)
  · rw [World.cell?_alloc_lt _ _ _ (by simpa using hb)]
    exact World.cell?_setCell_same _ _ _ (u := .int .u64 ((rest ||| v % 2 ^ m * 2 ^ (n % 64) % 2 ^ 64 : Nat) : Int)) (by
      rw [World.cell?_setCell_other _ _ _ _ ne1.symm, World.cell?_setCell_other _ _ _ _ ne3]; exact World.cell?_setCell_same _ _ _ h1)
  · rw [World.cell?_alloc_lt _ _ _ (by simpa using hb), World.cell?_setCell_other _ _ _ _ ne3.symm, World.cell?_setCell_other _ _ _ _ ne2.symm]
    exact World.cell?_setCell_same _ _ _ (u := .int .i64 (n : Int)) (by rw [World.cell?_setCell_other _ _ _ _ ne3.symm]; exact h2)
  · rw [World.frozen?_alloc_past _ _ _ (by simpa using hb)]; simpa using f0
  · rw [World.frozen?_alloc_past _ _ _ (by simpa using hb)]; simpa using f1
  · rw [World.frozen?_alloc_past _ _ _ (by simpa using hb)]; simpa using f2

set_option maxHeartbeats 1000000 in
set_option maxRecDepth 100000 in
theorem put_high (b off N n : Nat) (v m : Nat) (w : World) (hn : n ≤ 1000000000) (hv : v < 4294967296) (hm : m ≤ 32) (hge : 64 ≤ n % 64 + m) (h : WS w b off N n) :
    Calls Tryz.prog 38 #[.pointer (some ⟨b, off, none⟩), .int .u32 (v : Int), .int .i64 (m : Int)] w fun e w' => e = .returned (.bool true) ∧ WS w' b off (N + v % 2 ^ m * 2 ^ n) (n + m) ∧ w.grownBy w' (some b) := by
  obtain ⟨p, rest, us, h0, h1, h2, f0, f1, f2, hnt, hc, hw⟩ := h
  have hz := ws_high (v := v) (m := m) hm hge h0 h1 h2 f0 f1 f2 hnt hc hw
  have Hz := Lib.hid hz
  have ho := or_val rest (v % 2 ^ m) (n % 64) hw.rest_lt
  have Ho := Lib.hid ho
  have hb := hnt.lt
  have hd : ((v % 2 ^ m : Nat) : Int) / 2 ^ (64 - n % 64) = ((v % 2 ^ m / 2 ^ (64 - n % 64) : Nat) : Int) := by simp
  have Hd := Lib.hid hd
  clear hz ho hc hw hnt hd
  go_enter Tryz.func38, Tryz.ntmps38
  go_wp2_with fail
  refine (lowest_any v m _ (by omega) (by omega)).mono ?_
  rintro e w' ⟨rfl, rfl⟩
  go_wp2
  go_region
  all_goals go_wp2
  go_region
  all_goals go_wp2
  go_ret
  rw [modpow, Ho.out, Hd.out, ← Int.natCast_add]
  exact ⟨rfl, Hz.out.1.drew.drew, grown_drew (grown_drew Hz.out.2)⟩

/-- Put of 0 to 32 bits: they are behind those that were there; no other block has changed but by new ones. -/
theorem put_true (b off N n : Nat) (v m : Nat) (w : World) (hn : n ≤ 1000000000) (hv : v < 4294967296) (hm : m ≤ 32) (h : WS w b off N n) :
    Calls Tryz.prog 38 #[.pointer (some ⟨b, off, none⟩), .int .u32 (v : Int), .int .i64 (m : Int)] w fun e w' => e = .returned (.bool true) ∧ WS w' b off (N + v % 2 ^ m * 2 ^ n) (n + m) ∧ w.grownBy w' (some b) := by
  by_cases hl : n % 64 + m < 64
  · exact put_low b off N n v m w hn hv hm hl h
  · exact put_high b off N n v m w hn hv hm (by omega) h
end Go.Proofs.YtbdciiiimdbmkaaGreat

namespace Go.Proofs.YtbdciiiimdbmkaaGreat
open Go.RowKit

theorem info_int : (Tryz.prog.info? 3).map (fun i => (i.zero, i.size, i.bytes)) = some (some (.int .i64 0), 1, 8) := by kernel_rfl
set_option maxHeartbeats 400000 in
set_option maxRecDepth 100000 in
theorem rof_any (v n : Nat) (w : World) (hv : v < 4294967296) (hn : n ≤ 32) :
    Calls Tryz.prog 46 #[.int .u32 (v : Int), .int .i64 (n : Int)] w fun e w' =>
      ∃ u, e = .returned u ∧ w'.ownsRow w.heap.size 3 1 u n (i64s (Bm.bitsOf v n)) ∧ Below w.heap.size w w' ∧ (n = 0 → u = .slice none 0 0) := by
  obtain ⟨i0, hi, hz0, hz1, hz2⟩ := info_parts info_int
  go_enter Tryz.func46, Tryz.ntmps46
  go_wp2
  go_loopw [5, 6] (fun u i wr => ∃ k : Nat, k ≤ n ∧ i = .int .i64 k ∧ wr.ownsRow w.heap.size 3 1 u k (i64s (Bm.bitsOf v k)) ∧ Below w.heap.size w wr ∧ (k = 0 → u = .slice none 0 0)) (fun _ i _ => n - (intOf i).toNat)
  case atStart => exact ⟨0, Nat.zero_le _, rfl, World.ownsRow_nil _ _ _ _, Below.refl _ _, fun _ => rfl⟩
  case round =>
    obtain ⟨k, hk, rfl, hown, hbel, hnil⟩ := hrel
    have hb0 : 0 ≤ (v : Int) / 2 ^ k := Int.ediv_nonneg (by omega) (by exact_mod_cast Nat.zero_le (2 ^ k))
    have hb1 : (v : Int) / 2 ^ k ≤ 4294967295 := by
      have h1 : (v : Int) / 2 ^ k = ((v / 2 ^ k : Nat) : Int) := by simp
      have h2 := Nat.div_le_self v (2 ^ k)
      omega
    by_cases hlt : k < n
    · go_wp2_with (at_builtin; refine wpList_append_own _ rfl _ _ 57 rfl w.heap.size 3 i0 (.int .i64 0) 1 8 Tryz.underlying57 hi hz0 hz1 hz2 rfl (by decide) _ _ _ rfl (hown.alloc _) ⟨wr.heap.size, 0, none⟩ 1 1 [.int .i64 ((v : Int) / 2 ^ k % 2)] rfl rfl ?c1 ?c2 ?c3 ?c4 ?c5 ?_)
      case c1 =>
        intro j u hj
        match j, hj with
        | 0, hj => simp at hj; subst hj; simp [Addr.add]
      case c2 => intro u hu; simp at hu; subst hu; rfl
      case c3 => unfold maxLen; omega
      case c4 => omega
      case c5 => have := hbel.size; simp; omega
      intro u' w1 hown' hgrow _
      have e : i64s (Bm.bitsOf v k) ++ [Value.int .i64 ((v : Int) / 2 ^ k % 2)] = i64s (Bm.bitsOf v (k + 1)) := by
        rw [Bm.bitsOf_succ]; simp [i64s]
      rw [e] at hown'
      have hb' : Below w.heap.size w w1 := (hbel.alloc hbel.size _).grown hgrow (by have := hbel.size; simp; omega) (fun q hq => (hown.lt q hq).1)
      have Hown := Lib.hid hown'
      have Hb := Lib.hid hb'
      clear hown' hb' hgrow hown hbel e
      go_wp2
      go_roundw
      case rel => exact ⟨k + 1, by omega, by go_num, Hown.out, Hb.out, fun h => by omega⟩
      case measure => simp [intOf]; omega
    · go_wp2
      obtain rfl : k = n := by omega
      go_ret
      exact ⟨_, rfl, hown, hbel, hnil⟩

theorem reads_i64 {w : World} {A : Option Addr} {l : List Nat} (h : Reads w A (i64s l)) (hne : l ≠ []) : ∃ g off, A = some ⟨g, off, none⟩ ∧ ∀ j (hj : j < l.length), w.cell? ⟨g, off + j, none⟩ = some (.int .i64 (l[j] : Int)) := by
  obtain ⟨g, off, e, hc⟩ := h (by simpa [i64s] using hne)
  exact ⟨g, off, e, fun j hj => by rw [hc j (by simpa [i64s] using hj), i64s_get? l j hj]⟩
theorem bit_val (N k : Nat) : bits .or .u8 ((N : Int) % 2 ^ k / 256 ^ (k / 8) % 256) (2 ^ (k % 8) % 256) = ((N % 2 ^ k / 256 ^ (k / 8) % 256 + 2 ^ (k % 8) : Nat) : Int) := by
  have hM : N % 2 ^ k < 2 ^ k := Nat.mod_lt _ (Nat.two_pow_pos k)
  have h1 : N % 2 ^ k / 256 ^ (k / 8) < 2 ^ (k % 8) := by
    rw [Bm.p256, Nat.div_lt_iff_lt_mul (Nat.two_pow_pos _), ← Nat.pow_add, show k % 8 + 8 * (k / 8) = k by omega]
    exact hM
  have h2 : 2 ^ (k % 8) ≤ 128 := Nat.pow_le_pow_right (n := 2) (j := 7) (by omega) (by omega)
  have e1 : (N : Int) % 2 ^ k / 256 ^ (k / 8) % 256 = ((N % 2 ^ k / 256 ^ (k / 8) % 256 : Nat) : Int) := by simp
  have e2 : (2 : Int) ^ (k % 8) = ((2 ^ (k % 8) : Nat) : Int) := by simp
  have h4 := Bm.or_sum (k % 8) (N % 2 ^ k / 256 ^ (k / 8)) 1 h1
  rw [Nat.one_mul] at h4
  rw [e1, e2]
  generalize N % 2 ^ k / 256 ^ (k / 8) = x at h1 h4 ⊢
  generalize 2 ^ (k % 8) = y at h1 h2 h4 ⊢
  rw [show ((y : Nat) : Int) % 256 = ((y : Nat) : Int) by omega, Nat.mod_eq_of_lt (show x < 256 by omega), u8_or_nat _ _ (by omega) (by omega), h4]

/-- The reference's Bytes: the byte of bit k has been stored with it. -/
theorem own_bit {w : World} {base b cap N k : Nat} (h : w.ownsRow base 5 1 (.slice (some ⟨b, 0, none⟩) (k / 8 + 1) cap) (k / 8 + 1) (u8s (Bm.bytesOf (N % 2 ^ k) (k / 8 + 1)))) (ht : N / 2 ^ k % 2 = 1) :
    (w.setCell ⟨b, k / 8, none⟩ (.int .u8 (bits .or .u8 ((N : Int) % 2 ^ k / 256 ^ (k / 8) % 256) (2 ^ (k % 8) % 256)))).drew.ownsRow base 5 1 (.slice (some ⟨b, 0, none⟩) (k / 8 + 1) cap) ((k + 1 + 7) / 8) (u8s (Bm.bytesOf (N % 2 ^ (k + 1)) ((k + 1 + 7) / 8))) := by
  have h1 := h.stored (k / 8) (.int .u8 ((N % 2 ^ k / 256 ^ (k / 8) % 256 + 2 ^ (k % 8) : Nat) : Int))
  have hM : N % 2 ^ k < 2 ^ (8 * (k / 8) + k % 8) := by
    rw [show 8 * (k / 8) + k % 8 = k by omega]
    exact Nat.mod_lt _ (Nat.two_pow_pos k)
  rw [u8s_set, Bm.bytesOf_bit _ _ _ (by omega) hM] at h1
  have h2 := Bm.mod_succ N k
  rw [ht, Nat.one_mul] at h2
  rw [bit_val, show (k + 1 + 7) / 8 = k / 8 + 1 by omega, h2]
  rw [show 8 * (k / 8) + k % 8 = k by omega] at h1
  exact h1.1
theorem own_nobit {w : World} {base N k : Nat} {u : Value} (h : w.ownsRow base 5 1 u (k / 8 + 1) (u8s (Bm.bytesOf (N % 2 ^ k) (k / 8 + 1)))) (ht : N / 2 ^ k % 2 = 0) :
    w.ownsRow base 5 1 u ((k + 1 + 7) / 8) (u8s (Bm.bytesOf (N % 2 ^ (k + 1)) ((k + 1 + 7) / 8))) := by
  have h2 := Bm.mod_succ N k
  rw [ht, Nat.zero_mul, Nat.add_zero] at h2
  rw [show (k + 1 + 7) / 8 = k / 8 + 1 by omega, h2]
  exact h
theorem own_push {w : World} {base N k : Nat} {u : Value} (h8 : k % 8 = 0) (h : w.ownsRow base 5 1 u (k / 8 + 1) (u8s (Bm.bytesOf (N % 2 ^ k) (k / 8)) ++ [.int .u8 0])) :
    w.ownsRow base 5 1 u (k / 8 + 1) (u8s (Bm.bytesOf (N % 2 ^ k) (k / 8 + 1))) := by
  rw [← Bm.bytesOf_push _ _ (by rw [show 8 * (k / 8) = k by omega]; exact Nat.mod_lt _ (Nat.two_pow_pos k))]
  have e : u8s (Bm.bytesOf (N % 2 ^ k) (k / 8) ++ [0]) = u8s (Bm.bytesOf (N % 2 ^ k) (k / 8)) ++ [.int .u8 0] := by simp [u8s]
  rw [e]
  exact h

theorem rof_8 (v : Nat) (w : World) (hv : v < 4294967296) :
    Calls Tryz.prog 46 #[.int .u32 (v : Int), .int .i64 8] w fun e w' =>
      ∃ u, e = .returned u ∧ w'.ownsRow w.heap.size 3 1 u 8 (i64s (Bm.bitsOf v 8)) ∧ Below w.heap.size w w' ∧ (8 = 0 → u = .slice none 0 0) := rof_any v 8 w hv (by omega)

set_option maxHeartbeats 1000000 in
set_option maxRecDepth 100000 in
theorem rbits_any (A : Option Addr) (c : Nat) (bs : List Nat) (w : World) (hn : bs.length ≤ 100000) (hbs : ∀ b ∈ bs, b < 256) (hr : Reads w A (u8s bs)) (hA : ∀ a, A = some a → 0 < bs.length → a.block < w.heap.size) :
    Calls Tryz.prog 22 #[.slice A bs.length c] w fun e w' =>
      ∃ u, e = .returned u ∧ w'.ownsRow w.heap.size 3 1 u (8 * bs.length) (i64s (Bm.bitsOf (Bm.valB bs) (8 * bs.length))) ∧ Below w.heap.size w w' := by
  obtain ⟨i0, hi, hz0, hz1, hz2⟩ := info_parts info_int
  have hcells : ∀ k, (hk : k < bs.length) → ∃ g off, A = some ⟨g, off, none⟩ ∧ g < w.heap.size ∧ w.cell? ⟨g, off + k, none⟩ = some (.int .u8 ((bs[k] : Nat) : Int)) := by
    intro k hk
    obtain ⟨g, off, e, hc⟩ := reads_u8 hr (by intro h; rw [h] at hk; simp at hk)
    exact ⟨g, off, e, hA _ e (by omega), hc k hk⟩
  have Hcells := Lib.hid hcells
  have Hbs := Lib.hid hbs
  clear hcells hr hA hbs
  go_enter Tryz.func22, Tryz.ntmps22
  go_wp2
  go_loopw [3, 4] (fun u i wr => ∃ k : Nat, k ≤ bs.length ∧ i = .int .i64 k ∧ wr.ownsRow w.heap.size 3 1 u (8 * k) (i64s (Bm.bitsOf (Bm.valB (bs.take k)) (8 * k))) ∧ Below w.heap.size w wr) (fun _ i _ => bs.length - (intOf i).toNat)
  case atStart => exact ⟨0, Nat.zero_le _, rfl, World.ownsRow_nil _ _ _ _, Below.refl _ _⟩
  case round =>
    obtain ⟨k, hk, rfl, hown, hbel⟩ := hrel
    by_cases hlt : k < bs.length
    · obtain ⟨g, off, rfl, hg, hc0⟩ := Hcells.out k hlt
      have hc : wr.cell? ⟨g, off + k, none⟩ = some (.int .u8 ((bs[k] : Nat) : Int)) := (hbel.cell (p := ⟨g, off + k, none⟩) hg).trans hc0
      have hb8 := Hbs.out bs[k] (List.getElem_mem hlt)
      have hstep := Bm.bits_byte (bs.take k) bs[k] (fun x hx => Hbs.out x (List.mem_of_mem_take hx)) hb8
      rw [List.length_take, Nat.min_eq_left (Nat.le_of_lt hlt), ← List.take_succ_eq_append_getElem hlt] at hstep
      have Hstep := Lib.hid hstep
      clear hc0 Hcells Hbs hstep
      generalize bs[k] = x at hc hb8 Hstep
      go_wp2_with fail
      refine (rof_8 x _ (by omega)).mono ?_
      rintro e w1 ⟨u', rfl, hu, hb1, _⟩
      obtain ⟨g1, cap1, hform, _, _⟩ := own_form hu (by omega)
      have hnews : ∀ j q, (i64s (Bm.bitsOf x 8))[j]? = some q → w1.cell? ((⟨g1, 0, none⟩ : Addr).add j) = some q := hu.cells (by rw [hform]; rfl)
      have hown1 := own_below hown hb1
      rw [hform]
      have hbel1 : Below w.heap.size w w1 := hbel.trans (hb1.mono hbel.size)
      clear hform hu hown hbel hc
      go_wp2_with (at_builtin; refine wpList_append_own _ rfl _ _ 57 rfl w.heap.size 3 i0 (.int .i64 0) 1 8 Tryz.underlying57 hi hz0 hz1 hz2 rfl (by decide) _ _ _ rfl hown1 ⟨g1, 0, none⟩ 8 cap1 (i64s (Bm.bitsOf x 8)) rfl ?c0 hnews ?c2 ?c3 ?c4 ?c5 ?_)
      case c0 => simp [i64s_length, Bm.bitsOf_length]
      case c2 => intro u hu; simp [i64s] at hu; obtain ⟨a, _, rfl⟩ := hu; rfl
      case c3 => unfold maxLen; omega
      case c4 => omega
      case c5 => exact hbel1.size
      intro u2 w2 hown' hgrow _
      rw [i64s_append, Hstep.out, show 8 * k + 8 = 8 * (k + 1) by omega] at hown'
      have hb' : Below w.heap.size w w2 := hbel1.grown hgrow hbel1.size (fun q hq => (hown1.lt q hq).1)
      have Hown := Lib.hid hown'
      have Hb := Lib.hid hb'
      clear hown' hb' hgrow hown1 hbel1 hnews
      go_wp2
      go_roundw
      case rel => exact ⟨k + 1, by omega, by go_num, Hown.out, Hb.out⟩
      case measure => simp [intOf]; omega
    · obtain rfl : k = bs.length := by omega
      rw [List.take_length] at hown
      go_wp2
      go_ret
      exact ⟨_, rfl, hown, hbel⟩

theorem rbits_n (A : Option Addr) (n c : Nat) (bs : List Nat) (w : World) (hl : bs.length = n) (hn : n ≤ 100000) (hbs : ∀ b ∈ bs, b < 256) (hr : Reads w A (u8s bs)) (hA : ∀ a, A = some a → 0 < n → a.block < w.heap.size) :
    Calls Tryz.prog 22 #[.slice A n c] w fun e w' =>
      ∃ u, e = .returned u ∧ w'.ownsRow w.heap.size 3 1 u (8 * n) (i64s (Bm.bitsOf (Bm.valB bs) (8 * n))) ∧ Below w.heap.size w w' := by
  subst hl
  exact rbits_any A c bs w hn hbs hr hA
end Go.Proofs.YtbdciiiimdbmkaaGreat

namespace Go.Proofs.YtbdciiiimdbmkaaGreat
open Go.RowKit
set_option maxHeartbeats 400000 in
set_option maxRecDepth 100000 in
theorem rnum_nil (A : Option Addr) (c : Nat) (w : World) :
    Calls Tryz.prog 25 #[.slice A 0 c] w fun e w' => e = .returned (.int .u32 0) ∧ w = w' := by
  go_enter Tryz.func25, Tryz.ntmps25
  go_wp2
  go_loop [3, 4] (fun v i => v = .int .u32 0 ∧ i = .int .i64 (-1)) (fun _ _ => 0)
  case atStart => exact ⟨rfl, rfl⟩
  case round =>
    obtain ⟨rfl, rfl⟩ := hrel
    go_wp2
    go_ret
    exact ⟨rfl, rfl⟩

set_option maxHeartbeats 400000 in
set_option maxRecDepth 100000 in
theorem rnum_some (g off n c N : Nat) (w : World) (hn : n ≤ 32) (hn0 : 0 < n) (hc : ∀ j, j < n → w.cell? ⟨g, off + j, none⟩ = some (.int .i64 ((N / 2 ^ j % 2 : Nat) : Int))) :
    Calls Tryz.prog 25 #[.slice (some ⟨g, off, none⟩) n c] w fun e w' => e = .returned (.int .u32 ((N % 2 ^ n : Nat) : Int)) ∧ w = w' := by
  have hx : N % 2 ^ n < 4294967296 := Nat.lt_of_lt_of_le (Nat.mod_lt _ (Nat.two_pow_pos n)) (Nat.pow_le_pow_right (n := 2) (by omega) hn)
  go_enter Tryz.func25, Tryz.ntmps25
  go_wp2
  go_loop [3, 4] (fun v i => ∃ k y : Nat, k ≤ n ∧ v = .int .u32 (y : Int) ∧ i = .int .i64 ((k : Int) - 1) ∧ Hid (y = N % 2 ^ n / 2 ^ k)) (fun _ i => (intOf i + 1).toNat)
  case atStart => exact ⟨n, 0, Nat.le_refl _, rfl, rfl, by unfold Hid; rw [Nat.div_eq_of_lt (Nat.mod_lt _ (Nat.two_pow_pos n))]⟩
  case round =>
    obtain ⟨k, y, hk, rfl, rfl, hy⟩ := hrel
    by_cases h0 : k = 0
    · subst h0
      have hf : Ending.returned (Value.int .u32 (y : Int)) = Ending.returned (Value.int .u32 ((N % 2 ^ n : Nat) : Int)) := by
        have h1 := hy.out
        rw [Nat.pow_zero, Nat.div_one] at h1
        rw [h1]
      have Hf := Lib.hid hf
      clear hc hf hy
      go_wp2
      go_ret
      exact ⟨Hf.out, rfl⟩
    · obtain ⟨j, rfl⟩ : ∃ j, k = j + 1 := ⟨k - 1, by omega⟩
      rw [show (((j + 1 : Nat) : Int) - 1) = (j : Int) by omega]
      have hcell := hc j (by omega)
      have ht : N / 2 ^ j % 2 ≤ 1 := by omega
      have hs : y * 2 + N / 2 ^ j % 2 = N % 2 ^ n / 2 ^ j := by
        have h1 := hy.out
        rw [← Bm.mod_digit N n j (by omega), h1, Nat.pow_succ, ← Nat.div_div_eq_div_mul]
        omega
      have hle : y * 2 + N / 2 ^ j % 2 ≤ 4294967295 := by
        have := Nat.div_le_self (N % 2 ^ n) (2 ^ j)
        omega
      have Hs := Lib.hid hs
      clear hs hc hy
      generalize N / 2 ^ j % 2 = t at hcell ht Hs hle
      go_wp2
      go_round
      case rel => exact ⟨j, y * 2 + t, by omega, by go_num, by go_num, Hs⟩
      case measure => simp [intOf]
end Go.Proofs.YtbdciiiimdbmkaaGreat

namespace Go.Proofs.YtbdciiiimdbmkaaGreat
open Go.RowKit

theorem strOf_append (a b : List Nat) : strOf a ++ strOf b = strOf (a ++ b) := by
  simp [strOf, ByteArray.mk_append_mk]
theorem strOf_extract (l : List Nat) (i j : Nat) : (strOf l).extract i j = strOf ((l.take j).drop i) := by
  apply ByteArray.ext
  simp only [strOf, ByteArray.data_extract, List.extract_toArray, List.extract_eq_take_drop, List.map_drop, List.map_take]
  rw [List.drop_take]
theorem strOf_take (l : List Nat) (j : Nat) : (strOf l).extract 0 j = strOf (l.take j) := by rw [strOf_extract, List.drop_zero]
theorem strOf_drop (l : List Nat) (i : Nat) : (strOf l).extract i l.length = strOf (l.drop i) := by rw [strOf_extract, List.take_length]
theorem strOf_toList (a : List Nat) : (strOf a).toList = a.map UInt8.ofNat := by simp [strOf]
theorem map_inj8 : ∀ (a b : List Nat), (∀ x ∈ a, x < 256) → (∀ x ∈ b, x < 256) → a.map UInt8.ofNat = b.map UInt8.ofNat → a = b
  | [], [], _, _, _ => rfl
  | [], _ :: _, _, _, h => by simp at h
  | _ :: _, [], _, _, h => by simp at h
  | x :: a, y :: b, ha, hb, h => by
    simp only [List.map_cons, List.cons.injEq] at h
    have hx := ha x List.mem_cons_self
    have hy := hb y List.mem_cons_self
    have e := congrArg UInt8.toNat h.1
    rw [UInt8.toNat_ofNat_of_lt' hx, UInt8.toNat_ofNat_of_lt' hy] at e
    rw [e, map_inj8 a b (fun z hz => ha z (List.mem_cons_of_mem _ hz)) (fun z hz => hb z (List.mem_cons_of_mem _ hz)) h.2]
theorem strOf_beq (a b : List Nat) (ha : ∀ x ∈ a, x < 256) (hb : ∀ x ∈ b, x < 256) : ((strOf a).toList == (strOf b).toList) = decide (a = b) := by
  rw [strOf_toList, strOf_toList]
  by_cases h : a = b
  · subst h; simp
  · rw [decide_eq_false h]
    simp only [beq_eq_false_iff_ne, ne_eq]
    exact fun e => h (map_inj8 a b ha hb e)
/-- The bytes of a string. -/
def bytesIn (s : ByteArray) : List Nat := s.data.toList.map UInt8.toNat
theorem strOf_in (s : ByteArray) : strOf (bytesIn s) = s := by
  apply ByteArray.ext
  have e : (UInt8.ofNat ∘ UInt8.toNat) = id := funext fun u => UInt8.ofNat_toNat
  simp [strOf, bytesIn, e]
theorem in_lt (s : ByteArray) : ∀ x ∈ bytesIn s, x < 256 := by
  intro x hx
  obtain ⟨u, _, rfl⟩ := List.mem_map.1 hx
  exact u.toNat_lt
theorem of_string (s : ByteArray) : ∃ l, s = strOf l ∧ ∀ x ∈ l, x < 256 := ⟨bytesIn s, (strOf_in s).symm, in_lt s⟩
theorem take_lt {l : List Nat} (h : ∀ x ∈ l, x < 256) (k : Nat) : ∀ x ∈ l.take k, x < 256 := fun x hx => h x (List.mem_of_mem_take hx)
theorem drop_lt {l : List Nat} (h : ∀ x ∈ l, x < 256) (k : Nat) : ∀ x ∈ l.drop k, x < 256 := fun x hx => h x (List.mem_of_mem_drop hx)
theorem append_lt {a b : List Nat} (ha : ∀ x ∈ a, x < 256) (hb : ∀ x ∈ b, x < 256) : ∀ x ∈ a ++ b, x < 256 := fun x hx => (List.mem_append.1 hx).elim (ha x) (hb x)
/-- Two strings, added. -/
theorem str_add (a b : List Nat) (h : a.length + b.length ≤ 1000000000) (W : World) : (Op.stringOp .add (strOf a) (strOf b)).run Tryz.prog W = .ok (.string (strOf (a ++ b))) W := by
  rw [run_string_add_sum W _ _ (by rw [strOf_size, strOf_size]; omega), strOf_append]
theorem str_to (l : List Nat) (j : Nat) (h : j ≤ l.length) (W : World) : (Instr.slice 9 (.string (strOf l)) none (some (.int .i64 (j : Int))) none).run Tryz.prog W = .ok (.string (strOf (l.take j))) W := by
  rw [run_slice_string_to_if W 9 _ .i64 j Tryz.underlying9, if_pos ⟨by omega, by rw [strOf_size]; omega⟩, Int.toNat_natCast, strOf_take]
theorem str_from (l : List Nat) (i : Nat) (h : i ≤ l.length) (W : World) : (Instr.slice 9 (.string (strOf l)) (some (.int .i64 (i : Int))) none none).run Tryz.prog W = .ok (.string (strOf (l.drop i))) W := by
  rw [run_slice_string_from_if W 9 _ .i64 i Tryz.underlying9, if_pos ⟨by omega, by rw [strOf_size]; omega⟩, Int.toNat_natCast, strOf_size, strOf_drop]
/-- A new slice of one byte, as a string. -/
theorem conv_one (W : World) (g b : Nat) (hb : b < 256) (h : W.cell? ⟨g, 0, none⟩ = some (.int .u8 (b : Int))) (c : Nat) :
    (convert 45 9 (.slice (some ⟨g, 0, none⟩) 1 c)).run Tryz.prog W = .ok (.string (strOf [b])) W := by
  have h1 := conv_bytes W (some ⟨g, 0, none⟩) c [b] (by intro x hx; simp at hx; omega) (fun _ => ⟨g, 0, rfl, fun j hj => by
    have : j = 0 := by simp [u8s] at hj; omega
    subst this
    rw [h]; simp [u8s]⟩)
  exact h1
end Go.Proofs.YtbdciiiimdbmkaaGreat

namespace Go.Proofs.YtbdciiiimdbmkaaGreat
open Go.RowKit

/-- n brought to 0 up to 8. -/
def fx (n : Int) : Nat := (min (max n 0) 8).toNat
theorem fx_le (n : Int) : fx n ≤ 8 := by unfold fx; omega
/-- What is left of a Reader: none of a bad one. -/
abbrev Left := Option (List Nat)
def rawS (n : Nat) : Left → List Nat × Left
  | some bs => if n ≤ bs.length then (bs.take n, some (bs.drop n)) else ([], none)
  | none => ([], none)
def groupS : Left → Nat × Left
  | some bs => if 0 < (Bm.firstG bs).2 then ((Bm.firstG bs).1, some (bs.drop (Bm.firstG bs).2)) else (0, none)
  | none => (0, none)
def intS (most : Int) (st : Left) : Nat × Left :=
  if (groupS st).2 = none ∨ most < 0 ∨ most < ((groupS st).1 : Int) then (0, none) else groupS st
def textS (most : Int) (st : Left) : List Nat × Left := rawS (intS most st).1 (intS most st).2
def restS : Left → List Nat × Left
  | some bs => (bs, some [])
  | none => ([], none)
/-- All of them are bytes. -/
def OkL : Left → Prop
  | some bs => (∀ x ∈ bs, x < 256) ∧ bs.length ≤ 100000000
  | none => True
theorem ok_raw {n : Nat} {st : Left} (h : OkL st) : OkL (rawS n st).2 ∧ (∀ x ∈ (rawS n st).1, x < 256) ∧ (rawS n st).1.length ≤ n := by
  rcases st with _ | bs
  · exact ⟨trivial, by simp [rawS], by simp [rawS]⟩
  · simp only [rawS]
    split
    · exact ⟨⟨drop_lt h.1 _, by have := h.2; simp; omega⟩, take_lt h.1 _, by simp; omega⟩
    · exact ⟨trivial, by simp, by simp⟩
theorem ok_group {st : Left} (h : OkL st) : OkL (groupS st).2 ∧ (groupS st).1 < 2 ^ 64 := by
  rcases st with _ | bs
  · exact ⟨trivial, by simp [groupS]⟩
  · simp only [groupS]
    split
    · rename_i hp
      exact ⟨⟨drop_lt h.1 _, by have := h.2; simp; omega⟩, (Bm.firstG_some bs _ _ hp rfl).1⟩
    · exact ⟨trivial, by omega⟩
theorem ok_int {most : Int} {st : Left} (h : OkL st) (hm : most ≤ 9223372036854775807) : OkL (intS most st).2 ∧ ((intS most st).1 : Int) ≤ 9223372036854775807 := by
  unfold intS
  split
  · exact ⟨trivial, by simp⟩
  · rename_i hn
    exact ⟨(ok_group h).1, by omega⟩
theorem ok_rest {st : Left} (h : OkL st) : OkL (restS st).2 ∧ (∀ x ∈ (restS st).1, x < 256) := by
  rcases st with _ | bs
  · exact ⟨trivial, by simp [restS]⟩
  · exact ⟨⟨by simp, by simp⟩, h.1⟩

/-- The pieces behind a pointer, the last one first. -/
def PC (w : World) : Option Addr → List (List Nat) → Prop
  | p, [] => p = none
  | p, t :: ts => ∃ g q, p = some ⟨g, 0, none⟩ ∧ Row w g 74 [.pointer q, .string (strOf t)] ∧ t ≠ [] ∧ PC w q ts
theorem PC.keep {w w' : World} (hk : ∀ g cs, Row w g 74 cs → Row w' g 74 cs) : ∀ (ts : List (List Nat)) (p : Option Addr), PC w p ts → PC w' p ts
  | [], _, h => h
  | _ :: ts, _, ⟨g, q, hp, hr, hn, hc⟩ => ⟨g, q, hp, hk _ _ hr, hn, PC.keep hk ts q hc⟩
theorem pieces_grown {w w' : World} {row : Option Nat} (hg : w.grownBy w' row) (hr : ∀ g, row = some g → NotT w g 74) : ∀ g cs, Row w g 74 cs → Row w' g 74 cs :=
  fun g _ h => h.keep (hg.block g h.lt (fun e => (hr g e.symm).ne h rfl))
/-- A Writer at block b has these bytes. -/
def CW (w : World) (b : Nat) (bs : List Nat) : Prop := ∃ (p : Option Addr) (ts : List (List Nat)),
  Row w b 41 [.pointer p, .int .i64 (bs.length : Int)] ∧ PC w p ts ∧ bs = ts.reverse.flatten
theorem CW.keep {w w' : World} {b : Nat} {bs : List Nat} {row : Option Nat} (h : CW w b bs) (hg : w.grownBy w' row) (hb : row ≠ some b) (hr : ∀ g, row = some g → NotT w g 74) : CW w' b bs := by
  obtain ⟨p, ts, h0, hc, e⟩ := h
  exact ⟨p, ts, h0.keep (hg.block b h0.lt (fun e => hb e.symm)), hc.keep (pieces_grown hg hr), e⟩
theorem CW.below {w w' : World} {b : Nat} {bs : List Nat} (h : CW w b bs) (hg : Below w.heap.size w w') : CW w' b bs := h.keep (row := none) (grown_below hg none) (by simp) (by simp)
theorem CW.lt {w : World} {b : Nat} {bs : List Nat} (h : CW w b bs) : b < w.heap.size := by obtain ⟨p, ts, h0, _⟩ := h; exact h0.lt
theorem CW.notT {w : World} {b : Nat} {bs : List Nat} (h : CW w b bs) : NotT w b 74 := by obtain ⟨p, ts, h0, _⟩ := h; exact h0.notT (by decide)
theorem CW.new (w : World) : CW (w.alloc (.cells #[.pointer none, .int .i64 0] 41)) w.heap.size [] := ⟨none, [], Row.new w _ [.pointer none, .int .i64 0], rfl, rfl⟩
/-- A Reader at block b has this left. -/
def rcells : Left → List Value
  | some bs => [.string (strOf bs), .bool false]
  | none => [.string (strOf []), .bool true]
def CR (w : World) (b : Nat) (st : Left) : Prop := Row w b 67 (rcells st)
theorem CR.keep {w w' : World} {b : Nat} {st : Left} {row : Option Nat} (h : CR w b st) (hg : w.grownBy w' row) (hb : row ≠ some b) : CR w' b st := Row.keep h (hg.block b (Row.lt h) (fun e => hb e.symm))
theorem CR.below {w w' : World} {b : Nat} {st : Left} (h : CR w b st) (hg : Below w.heap.size w w') : CR w' b st := h.keep (row := none) (grown_below hg none) (by simp)
theorem CR.lt {w : World} {b : Nat} {st : Left} (h : CR w b st) : b < w.heap.size := Row.lt h
end Go.Proofs.YtbdciiiimdbmkaaGreat

namespace Go.Proofs.YtbdciiiimdbmkaaGreat
open Go.RowKit

set_option maxHeartbeats 400000 in
set_option maxRecDepth 100000 in
theorem cfixed_any (n : Int) (w : World) (h0 : -9223372036854775808 ≤ n) (h1 : n ≤ 9223372036854775807) :
    Calls Tryz.prog 92 #[.int .i64 n] w fun e w' => e = .returned (.int .i64 (fx n : Int)) ∧ w = w' := by
  have hf : min (max n 0) 8 = (fx n : Int) := by unfold fx; omega
  have Hf := Lib.hid hf
  clear hf
  go_enter Tryz.func92, Tryz.ntmps92
  go_wp2
  go_ret
  exact ⟨congrArg Ending.returned (congrArg (Value.int .i64) Hf.out), rfl⟩

/-- Whether a byte may be a number's last group, so many being ahead of it. -/
def endsB (c i : Nat) : Bool := decide ((i = 9 ∧ c = 1) ∨ (i ≠ 9 ∧ (c ≠ 0 ∨ i = 0)))
set_option maxHeartbeats 400000 in
set_option maxRecDepth 100000 in
theorem cends_any (c i : Nat) (w : World) (hc : c < 256) (hi : i ≤ 9) :
    Calls Tryz.prog 69 #[.int .u8 (c : Int), .int .i64 (i : Int)] w fun e w' => e = .returned (.bool (endsB c i)) ∧ w = w' := by
  by_cases h9 : i = 9
  · subst h9
    by_cases h1 : c = 1
    · subst h1
      have he : endsB 1 9 = true := by decide
      rw [he]
      go_enter Tryz.func69, Tryz.ntmps69
      go_wp2
      go_ret
      exact ⟨rfl, rfl⟩
    · have he : endsB c 9 = false := by unfold endsB; simp; omega
      have hb : ((c : Int) == 1) = false := by simp; omega
      rw [he]
      clear h1 he
      go_enter Tryz.func69, Tryz.ntmps69
      go_wp2
      go_ret
      exact ⟨rfl, rfl⟩
  · have h9b : ((i : Int) == 9) = false := by simp; omega
    by_cases h0 : c = 0
    · subst h0
      by_cases hz : i = 0
      · subst hz
        have he : endsB 0 0 = true := by decide
        rw [he]
        clear h9b
        go_enter Tryz.func69, Tryz.ntmps69
        go_wp2
        go_ret
        exact ⟨rfl, rfl⟩
      · have he : endsB 0 i = false := by unfold endsB; simp; omega
        have hb : ((i : Int) == 0) = false := by simp; omega
        rw [he]
        clear he hz h9
        go_enter Tryz.func69, Tryz.ntmps69
        go_wp2
        go_ret
        exact ⟨rfl, rfl⟩
    · have he : endsB c i = true := by unfold endsB; simp; omega
      have hb : ((c : Int) != 0) = true := by simp; omega
      rw [he]
      clear he h0 h9
      go_enter Tryz.func69, Tryz.ntmps69
      go_wp2
      go_ret
      exact ⟨rfl, rfl⟩

theorem CR.cells {w : World} {b : Nat} {st : Left} (h : CR w b st) : w.cell? ⟨b, 0, none⟩ = some (.string (strOf (st.getD []))) ∧ w.cell? ⟨b, 1, none⟩ = some (.bool st.isNone) ∧ w.frozen? ⟨b, 0, none⟩ = false ∧ w.frozen? ⟨b, 1, none⟩ = false := by
  refine ⟨(Row.cell h 0).trans ?_, (Row.cell h 1).trans ?_, Row.free h 0, Row.free h 1⟩
  all_goals rcases st with _ | bs <;> rfl

theorem CR.left {w : World} {b : Nat} {st : Left} (h : CR w b st) (l : List Nat) : Row (w.setCell ⟨b, 0, none⟩ (.string (strOf l))) b 67 [.string (strOf l), .bool st.isNone] := by
  have h1 := Row.set_ h 0 (.string (strOf l))
  have e : (rcells st).set 0 (.string (strOf l)) = [.string (strOf l), .bool st.isNone] := by rcases st with _ | bs <;> rfl
  rw [e] at h1
  exact h1
theorem Row.bad {w : World} {b : Nat} {x : Value} (h : Row w b 67 [.string (strOf []), x]) : CR (w.setCell ⟨b, 1, none⟩ (.bool true)) b none := h.set_ 1 (.bool true)
theorem CR.step {w : World} {b : Nat} {bs : List Nat} (h : CR w b (some bs)) (l : List Nat) : CR (w.setCell ⟨b, 0, none⟩ (.string (strOf l))) b (some l) := h.left l

set_option maxHeartbeats 400000 in
set_option maxRecDepth 100000 in
theorem rbad_nil (w : World) : Calls Tryz.prog 30 #[.pointer none] w fun e w' => e = .returned (.bool true) ∧ w = w' := by
  go_enter Tryz.func30, Tryz.ntmps30
  go_wp2
  go_ret
  exact ⟨rfl, rfl⟩
set_option maxHeartbeats 400000 in
set_option maxRecDepth 100000 in
theorem rbad_any (b : Nat) (st : Left) (w : World) (h : CR w b st) : Calls Tryz.prog 30 #[.pointer (some ⟨b, 0, none⟩)] w fun e w' => e = .returned (.bool st.isNone) ∧ w = w' := by
  obtain ⟨c0, c1, f0, f1⟩ := h.cells
  clear h c0 f0 f1
  generalize st.isNone = bad at c1 ⊢
  go_enter Tryz.func30, Tryz.ntmps30
  go_wp2
  go_ret
  exact ⟨rfl, rfl⟩

set_option maxHeartbeats 400000 in
set_option maxRecDepth 100000 in
theorem rfail_any (b : Nat) (st : Left) (w : World) (h : CR w b st) : Calls Tryz.prog 49 #[.pointer (some ⟨b, 0, none⟩)] w fun e w' => e = .returned (.tuple #[]) ∧ CR w' b none ∧ w.grownBy w' (some b) := by
  obtain ⟨c0, c1, f0, f1⟩ := h.cells
  have H := Lib.hid h
  clear h
  go_enter Tryz.func49, Tryz.ntmps49
  go_wp2
  go_end0
  refine ⟨rfl, ?_, grown_set (grown_set (grown_refl _ _) _ _) _ _⟩
  exact (H.out.left []).bad
set_option maxHeartbeats 400000 in
set_option maxRecDepth 100000 in
theorem cnew_any (l : List Nat) (w : World) : Calls Tryz.prog 9 #[.string (strOf l)] w fun e w' => e = .returned (.pointer (some ⟨w.heap.size, 0, none⟩)) ∧ CR w' w.heap.size (some l) ∧ Below w.heap.size w w' := by
  generalize hs : strOf l = s
  have Hs := Lib.hid hs
  clear hs
  go_enter Tryz.func9, Tryz.ntmps9
  go_wp2
  go_ret
  refine ⟨rfl, ?_, (Below.refl _ _).alloc (Nat.le_refl _) _⟩
  rw [← Hs.out]
  exact Row.new w 67 [.string (strOf l), .bool false]

theorem emptyB (bs : List Nat) : (strOf bs).toList.isEmpty = decide (bs = []) := by
  rw [strOf_toList]
  rcases bs with _ | ⟨x, bs⟩
  · rfl
  · rw [decide_eq_false (by simp)]; rfl
set_option maxHeartbeats 400000 in
set_option maxRecDepth 100000 in
theorem rraw_bad (b : Nat) (n : Int) (w : World) (h : CR w b none) : Calls Tryz.prog 34 #[.pointer (some ⟨b, 0, none⟩), .int .i64 n] w fun e w' => e = .returned (.string (strOf [])) ∧ w = w' := by
  have Hb := Lib.hid (rbad_any b none w h)
  clear h
  go_enter Tryz.func34, Tryz.ntmps34
  go_wp2_with fail
  refine Hb.out.mono ?_
  rintro e w' ⟨rfl, rfl⟩
  go_wp2
  go_ret
  exact ⟨rfl, rfl⟩
theorem CR.drew {w : World} {b : Nat} {st : Left} (h : CR w b st) : CR w.drew b st := h.keep (row := none) (grown_drew (grown_refl _ _)) (by simp)
theorem CR.drewN {w : World} {b : Nat} {st : Left} (h : CR w b st) (k : Nat) : CR (w.drewN k) b st := h.keep (row := none) (grown_drewN (grown_refl _ _) k) (by simp)
set_option maxHeartbeats 400000 in
set_option maxRecDepth 100000 in
theorem rraw_some (b m : Nat) (n : Int) (bs : List Nat) (w : World) (hm : max n 0 = (m : Int)) (hle : m ≤ bs.length) (h : CR w b (some bs)) :
    Calls Tryz.prog 34 #[.pointer (some ⟨b, 0, none⟩), .int .i64 n] w fun e w' => e = .returned (.string (strOf (bs.take m))) ∧ CR w' b (some (bs.drop m)) ∧ w.grownBy w' (some b) := by
  have Hb := Lib.hid (rbad_any b _ w h)
  obtain ⟨c0, c1, f0, f1⟩ := h.cells
  rw [Option.getD_some] at c0
  have hsz := strOf_size bs
  have hto := str_to bs m hle
  have hfrom := str_from bs m hle
  have hstep := h.step (bs.drop m)
  have Hstep := Lib.hid hstep
  have hlt : (m : Int) ≤ (bs.length : Int) := by omega
  clear h hstep c1 f1
  generalize strOf bs = s at c0 hsz hto hfrom
  generalize strOf (bs.take m) = s1 at hto ⊢
  generalize strOf (bs.drop m) = s2 at hfrom Hstep
  go_enter Tryz.func34, Tryz.ntmps34
  go_wp2_with fail
  refine Hb.out.mono ?_
  rintro e w' ⟨rfl, rfl⟩
  go_wp2
  go_ret
  exact ⟨rfl, Hstep.out, grown_set (grown_refl _ _) _ _⟩
set_option maxHeartbeats 400000 in
set_option maxRecDepth 100000 in
theorem rraw_more (b m : Nat) (n : Int) (bs : List Nat) (w : World) (hm : max n 0 = (m : Int)) (hle : bs.length < m) (h : CR w b (some bs)) :
    Calls Tryz.prog 34 #[.pointer (some ⟨b, 0, none⟩), .int .i64 n] w fun e w' => e = .returned (.string (strOf [])) ∧ CR w' b none ∧ w.grownBy w' (some b) := by
  have Hb := Lib.hid (rbad_any b _ w h)
  have Hf := Lib.hid (rfail_any b _ w h)
  obtain ⟨c0, c1, f0, f1⟩ := h.cells
  rw [Option.getD_some] at c0
  have hsz := strOf_size bs
  have hlt : (bs.length : Int) < (m : Int) := by omega
  clear h c1 f1 f0
  generalize strOf bs = s at c0 hsz
  go_enter Tryz.func34, Tryz.ntmps34
  go_wp2_with fail
  refine Hb.out.mono ?_
  rintro e w' ⟨rfl, rfl⟩
  go_wp2_with fail
  refine Hf.out.mono ?_
  rintro e w' ⟨rfl, hcr, hgr⟩
  go_wp2
  go_ret
  exact ⟨rfl, hcr, hgr⟩
theorem rraw_any (b : Nat) (st : Left) (n : Int) (w : World) (h : CR w b st) :
    Calls Tryz.prog 34 #[.pointer (some ⟨b, 0, none⟩), .int .i64 n] w fun e w' => e = .returned (.string (strOf (rawS n.toNat st).1)) ∧ CR w' b (rawS n.toNat st).2 ∧ w.grownBy w' (some b) := by
  rcases st with _ | bs
  · exact (rraw_bad b n w h).mono fun e w' ⟨he, hw⟩ => by subst hw; exact ⟨he, h, grown_refl _ _⟩
  · have hm : max n 0 = (n.toNat : Int) := by omega
    simp only [rawS]
    split
    · exact rraw_some b _ n bs w hm (by assumption) h
    · exact rraw_more b _ n bs w hm (by omega) h
end Go.Proofs.YtbdciiiimdbmkaaGreat

namespace Go.Proofs.YtbdciiiimdbmkaaGreat
open Go.RowKit

theorem andNot_more (c : Nat) (h : c < 256) : bits .andNot .u8 (c : Int) 128 = ((c % 128 : Nat) : Int) := by
  have key : ∀ c, c < 256 → bits .andNot .u8 ((c : Nat) : Int) 128 = ((c % 128 : Nat) : Int) := by decide +kernel
  exact key c h
theorem or_step (l : List Nat) (k : Nat) (hk : k < l.length) (h9 : k ≤ 9) :
    ∃ V', bits .or .u64 ((Bm.val7 (l.take k) : Nat) : Int) (IntKind.u64.wrap (((l[k] % 128 : Nat) : Int) * 2 ^ (7 * k))) = ((V' : Nat) : Int) ∧ V' < 2 ^ 64 ∧ (k ≤ 8 ∨ l[k] = 1 → V' = Bm.val7 (l.take (k + 1))) := by
  have hlen : (l.take k).length = k := by rw [List.length_take]; omega
  have hv := Bm.val7_lt (l.take k)
  rw [hlen] at hv
  have hp : (128 : Nat) ^ k = 2 ^ (7 * k) := by rw [show (128 : Nat) = 2 ^ 7 by rfl, ← Nat.pow_mul]
  have h9p : (128 : Nat) ^ k ≤ 128 ^ 9 := Nat.pow_le_pow_right (by omega) h9
  have h9e : (128 : Nat) ^ 9 = 2 ^ 63 := by decide
  have hv64 : Bm.val7 (l.take k) < 2 ^ 64 := by omega
  refine ⟨_, or_val _ (l[k] % 128) (7 * k) hv64, ?_, ?_⟩
  · exact Nat.or_lt_two_pow hv64 (Nat.mod_lt _ (by decide))
  · intro hc
    have hsmall : l[k] % 128 * 2 ^ (7 * k) < 2 ^ 64 := by
      rw [← hp]
      rcases hc with h | h
      · have h8 : (128 : Nat) ^ k ≤ 128 ^ 8 := Nat.pow_le_pow_right (by omega) h
        have h8e : 127 * (128 : Nat) ^ 8 < 2 ^ 64 := by decide
        have := Nat.mul_le_mul (show l[k] % 128 ≤ 127 by omega) h8
        omega
      · rw [h, show 1 % 128 = 1 from rfl]; omega
    rw [Nat.mod_eq_of_lt hsmall, Bm.or_sum (7 * k) _ (l[k] % 128) (by rw [← hp]; exact hv), Bm.val7_take l k hk, ← hp]

set_option maxHeartbeats 400000 in
set_option maxRecDepth 100000 in
theorem rgroup_nil (w : World) : Calls Tryz.prog 48 #[.pointer none] w fun e w' => e = .returned (.int .u64 0) ∧ w = w' := by
  go_enter Tryz.func48, Tryz.ntmps48
  go_wp2_with fail
  refine (rbad_nil w).mono ?_
  rintro e w' ⟨rfl, rfl⟩
  go_wp2
  go_ret
  exact ⟨rfl, rfl⟩
set_option maxHeartbeats 400000 in
set_option maxRecDepth 100000 in
theorem rgroup_bad (b : Nat) (w : World) (h : CR w b none) : Calls Tryz.prog 48 #[.pointer (some ⟨b, 0, none⟩)] w fun e w' => e = .returned (.int .u64 0) ∧ w = w' := by
  have Hb := Lib.hid (rbad_any b none w h)
  clear h
  go_enter Tryz.func48, Tryz.ntmps48
  go_wp2_with fail
  refine Hb.out.mono ?_
  rintro e w' ⟨rfl, rfl⟩
  go_wp2
  go_ret
  exact ⟨rfl, rfl⟩
set_option maxHeartbeats 2000000 in
set_option maxRecDepth 100000 in
theorem rgroup_some (b : Nat) (l : List Nat) (w : World) (hl : l.length ≤ 100000000) (hlt : ∀ x ∈ l, x < 256) (h : CR w b (some l)) :
    Calls Tryz.prog 48 #[.pointer (some ⟨b, 0, none⟩)] w fun e w' => e = .returned (.int .u64 ((groupS (some l)).1 : Int)) ∧ CR w' b (groupS (some l)).2 ∧ w.grownBy w' (some b) := by
  have Hb := Lib.hid (rbad_any b _ w h)
  have Hf := Lib.hid (rfail_any b _ w h)
  obtain ⟨c0, c1, f0, f1⟩ := h.cells
  rw [Option.getD_some] at c0
  have hsz := strOf_size l
  have hidx : ∀ (i : Nat) (W : World) (hi : i < l.length), (Instr.index 9 (.string (strOf l)) (.int .i64 (i : Int))).run Tryz.prog W = .ok (.int .u8 ((l[i] : Nat) : Int)) W := fun i W hi => index_at l i W hi (hlt _ (List.getElem_mem hi))
  have hfrom := str_from l
  have hle := Bm.lead_le l
  obtain ⟨n, hn⟩ : ∃ n, n = l.length := ⟨_, rfl⟩
  obtain ⟨M, hM⟩ : ∃ M, M = min n 10 := ⟨_, rfl⟩
  have hMi : min (n : Int) 10 = (M : Int) := by omega
  obtain ⟨f1', f2, hF⟩ : ∃ f1 f2, groupS (some l) = (f1, f2) := ⟨_, _, rfl⟩
  rw [hF]
  rw [← hn] at hsz hl
  have hMn : M ≤ n := by omega
  have hM10 : M ≤ 10 := by omega
  have HF := Lib.hid hF
  have Hn := Lib.hid hn
  have HM := Lib.hid hM
  have HMi := Lib.hid hMi
  have Hidx := Lib.hid hidx
  have Hfrom := Lib.hid hfrom
  have Hlt := Lib.hid hlt
  have Hle := Lib.hid hle
  have H := Lib.hid h
  clear hn hidx hfrom hlt hF hle hM hMi h c1 f1
  generalize strOf l = s at hsz Hidx Hfrom c0
  go_enter Tryz.func48, Tryz.ntmps48
  go_wp2_with fail
  refine Hb.out.mono ?_
  rintro e w' ⟨rfl, rfl⟩
  go_wp2
  rw [HMi.out]
  go_loop [3, 14] (fun v i => ∃ k V : Nat, k ≤ M ∧ Hid (k ≤ Bm.lead l) ∧ i = .int .i64 (k : Int) ∧ v = .int .u64 (V : Int) ∧ Hid (k ≤ 9 → V = Bm.val7 (l.take k))) (fun _ i => M - (intOf i).toNat)
  case atStart => exact ⟨0, 0, by omega, Nat.zero_le _, rfl, rfl, fun _ => rfl⟩
  case round =>
    obtain ⟨k, V, hkM, hkl, rfl, rfl, hV⟩ := hrel
    by_cases hltM : k < M
    · have hk1 : k < l.length := by rw [← Hn.out]; omega
      have hk9 : k ≤ 9 := by omega
      have hkn : k < n := by omega
      obtain ⟨V', hor, hV64, hVal⟩ := or_step l k hk1 hk9
      have hVk := hV.out hk9
      rw [← hVk] at hor
      have hx := fun W => Hidx.out k W hk1
      have hc8 := Hlt.out l[k] (List.getElem_mem hk1)
      have hand := andNot_more l[k] hc8
      have hup := fun h => Bm.lead_up l k hkl.out hk1 h
      have hat := fun h => Bm.lead_at l k hkl.out hk1 h
      have hfirst := fun h => Bm.firstG_at l Hlt.out k hk1 hk9 h
      have hVal2 : k ≤ 8 ∨ l[k] = 1 → V' = Bm.val7 (l.take (k + 1)) := hVal
      have Hup := Lib.hid hup
      have Hat := Lib.hid hat
      have Hfirst := Lib.hid hfirst
      have HVal := Lib.hid hVal2
      have Hor := Lib.hid hor
      clear hup hat hfirst hVal hVal2 hVk hor
      generalize l[k] = c at hx hc8 hand Hup Hat Hfirst HVal Hor
      have hfrom1 := Hfrom.out (k + 1) hk1
      clear hk1
      obtain ⟨d, hd⟩ : ∃ d, d = c % 128 := ⟨_, rfl⟩
      rw [← hd] at hand Hor
      have hd7 : d ≤ 127 := by omega
      clear hd
      by_cases h128 : 128 ≤ c
      · clear hfrom1
        go_wp2
        go_round
        case rel => exact ⟨k + 1, V', by omega, Hup.out h128, by go_num, by first | rfl | rw [Hor.out], fun h9 => HVal.out (.inl (by omega))⟩
        case measure => simp [intOf]; omega
      · have hlead := Hat.out (by omega)
        have hfi := Hfirst.out hlead
        have hends := fun W => cends_any c k W hc8 hk9
        have hgr := HF.out
        simp only [groupS, hfi] at hgr
        have HV := Lib.hid HVal.out
        by_cases he : (k = 9 ∧ c = 1) ∨ (k ≠ 9 ∧ (c ≠ 0 ∨ k = 0))
        · have heb : endsB c k = true := by unfold endsB; exact decide_eq_true he
          rw [heb] at hends
          rw [if_pos he] at hgr
          simp only [if_pos (Nat.succ_pos k)] at hgr
          have hVv := HV.out (by omega)
          obtain ⟨rfl, rfl⟩ : V' = f1' ∧ some (l.drop (k + 1)) = f2 := by injection hgr with h1 h2; exact ⟨by rw [hVv]; exact h1, h2⟩
          have hstep := H.out.step (l.drop (k + 1))
          rw [show ((k + 1 : Nat) : Int) = (k : Int) + 1 by omega] at hfrom1
          have Hends := Lib.hid hends
          have Hstep := Lib.hid hstep
          clear hgr hends hfi hlead heb he hVv HV hstep HF Hup Hat Hfirst HVal
          generalize strOf (l.drop (k + 1)) = s2 at hfrom1 Hstep
          go_wp2_with fail
          refine (Hends.out _).mono ?_
          rintro e w' ⟨rfl, rfl⟩
          go_wp2
          rw [Hor.out]
          go_ret
          exact ⟨rfl, Hstep.out, grown_set (grown_refl _ _) _ _⟩
        · have heb : endsB c k = false := by unfold endsB; exact decide_eq_false he
          rw [heb] at hends
          rw [if_neg he] at hgr
          simp only [Nat.lt_irrefl, if_false] at hgr
          obtain ⟨rfl, rfl⟩ : 0 = f1' ∧ none = f2 := by injection hgr with h1 h2; exact ⟨h1, h2⟩
          have Hends := Lib.hid hends
          clear hgr hends hfi hlead heb he HV HF Hup Hat Hfirst HVal hfrom1
          go_wp2_with fail
          refine (Hends.out _).mono ?_
          rintro e w' ⟨rfl, rfl⟩
          go_wp2_with fail
          refine Hf.out.mono ?_
          rintro e w' ⟨rfl, hcr, hgr⟩
          go_wp2
          go_ret
          exact ⟨rfl, hcr, hgr⟩
    · have hgr := HF.out
      have hlong : Bm.firstG l = (0, 0) := by
        refine Bm.firstG_long l ?_
        have h1 := hkl.out
        have h2 := Hle.out
        have h3 := Hn.out
        have h4 := HM.out
        omega
      simp only [groupS, hlong, Nat.lt_irrefl, if_false] at hgr
      obtain ⟨rfl, rfl⟩ : 0 = f1' ∧ none = f2 := by injection hgr with h1 h2; exact ⟨h1, h2⟩
      obtain rfl : k = M := by omega
      clear hgr hlong HF
      go_wp2_with fail
      refine Hf.out.mono ?_
      rintro e w' ⟨rfl, hcr, hgr⟩
      go_wp2
      go_ret
      exact ⟨rfl, hcr, hgr⟩
theorem rgroup_any (b : Nat) (st : Left) (w : World) (hok : OkL st) (h : CR w b st) :
    Calls Tryz.prog 48 #[.pointer (some ⟨b, 0, none⟩)] w fun e w' => e = .returned (.int .u64 ((groupS st).1 : Int)) ∧ CR w' b (groupS st).2 ∧ w.grownBy w' (some b) := by
  rcases st with _ | l
  · exact (rgroup_bad b w h).mono fun e w' ⟨he, hw⟩ => by subst hw; exact ⟨he, h, grown_refl _ _⟩
  · exact rgroup_some b l w hok.2 hok.1 h
end Go.Proofs.YtbdciiiimdbmkaaGreat

namespace Go.Proofs.YtbdciiiimdbmkaaGreat
open Go.RowKit

set_option maxHeartbeats 400000 in
set_option maxRecDepth 100000 in
theorem wraw_nil (s : ByteArray) (w : World) : Calls Tryz.prog 16 #[.pointer none, .string s] w fun e w' => e = .returned (.pointer none) ∧ w = w' := by
  go_enter Tryz.func16, Tryz.ntmps16
  go_wp2
  go_ret
  exact ⟨rfl, rfl⟩
set_option maxHeartbeats 400000 in
set_option maxRecDepth 100000 in
theorem wraw_empty (a : Addr) (w : World) : Calls Tryz.prog 16 #[.pointer (some a), .string (strOf [])] w fun e w' => e = .returned (.pointer (some a)) ∧ w = w' := by
  have he : (strOf []).toList.isEmpty = true := by rw [emptyB]; rfl
  generalize strOf [] = s at he ⊢
  go_enter Tryz.func16, Tryz.ntmps16
  go_wp2
  go_ret
  exact ⟨rfl, rfl⟩
/-- The world behind one piece more. -/
def more (w : World) (b : Nat) (p : Option Addr) (n : Int) (s : ByteArray) : World :=
  ((w.setCell ⟨b, 0, none⟩ (.pointer (some ⟨w.heap.size, 0, none⟩))).setCell ⟨b, 1, none⟩ (.int .i64 n)).alloc (.cells #[.pointer p, .string s] 74)
theorem cw_more {w : World} {b : Nat} {p : Option Addr} {ts : List (List Nat)} {n : Int} (s : List Nat) (hs : s ≠ []) (h0 : Row w b 41 [.pointer p, .int .i64 n]) (hc : PC w p ts) :
    CW (more w b p ((ts.reverse.flatten.length : Int) + (s.length : Int)) (strOf s)) b (ts.reverse.flatten ++ s) ∧ w.grownBy (more w b p ((ts.reverse.flatten.length : Int) + (s.length : Int)) (strOf s)) (some b) := by
  have hb := h0.lt
  have hg : w.grownBy (more w b p ((ts.reverse.flatten.length : Int) + (s.length : Int)) (strOf s)) (some b) :=
    grown_alloc (grown_set (grown_set (grown_refl _ _) _ _) _ _) _
  refine ⟨⟨some ⟨w.heap.size, 0, none⟩, s :: ts, ?_, ⟨w.heap.size, p, rfl, ?_, hs, hc.keep (pieces_grown hg (fun g e => ?_))⟩, by simp⟩, hg⟩
  · have h1 := ((h0.set_ 0 (.pointer (some ⟨w.heap.size, 0, none⟩))).set_ 1 (.int .i64 ((ts.reverse.flatten.length : Int) + (s.length : Int)))).alloc (.cells #[.pointer p, .string (strOf s)] 74)
    rw [List.length_append, Int.natCast_add]
    exact h1
  · have h1 := Row.new ((w.setCell ⟨b, 0, none⟩ (.pointer (some ⟨w.heap.size, 0, none⟩))).setCell ⟨b, 1, none⟩ (.int .i64 ((ts.reverse.flatten.length : Int) + (s.length : Int)))) 74 [.pointer p, .string (strOf s)]
    simpa [more] using h1
  · injection e with e
    subst e
    exact h0.notT (by decide)
set_option maxHeartbeats 400000 in
set_option maxRecDepth 100000 in
theorem wraw_some (b : Nat) (bs s : List Nat) (w : World) (hs : s ≠ []) (hl : bs.length + s.length ≤ 1000000000) (h : CW w b bs) :
    Calls Tryz.prog 16 #[.pointer (some ⟨b, 0, none⟩), .string (strOf s)] w fun e w' => e = .returned (.pointer (some ⟨b, 0, none⟩)) ∧ CW w' b (bs ++ s) ∧ w.grownBy w' (some b) := by
  obtain ⟨p, ts, h0, hc, e⟩ := h
  have hend := cw_more s hs h0 hc
  have c0 := h0.cell 0
  have c1 := h0.cell 1
  have f0 := h0.free 0
  have f1 := h0.free 1
  have hbl := h0.lt
  simp only [List.getElem?_cons_zero, List.getElem?_cons_succ] at c0 c1
  rw [← e] at hend
  have he : (strOf s).toList.isEmpty = false := by rw [emptyB]; simp [hs]
  have hsz := strOf_size s
  have Hend := Lib.hid hend
  clear hend h0 hc e hs
  generalize strOf s = str at he hsz Hend ⊢
  go_enter Tryz.func16, Tryz.ntmps16
  go_wp2
  go_ret
  exact ⟨rfl, Hend.out.1, Hend.out.2⟩
theorem wraw_any (b : Nat) (bs s : List Nat) (w : World) (hl : bs.length + s.length ≤ 1000000000) (h : CW w b bs) :
    Calls Tryz.prog 16 #[.pointer (some ⟨b, 0, none⟩), .string (strOf s)] w fun e w' => e = .returned (.pointer (some ⟨b, 0, none⟩)) ∧ CW w' b (bs ++ s) ∧ w.grownBy w' (some b) := by
  by_cases hs : s = []
  · subst hs
    exact (wraw_empty _ w).mono fun e w' ⟨he, hw⟩ => by subst hw; exact ⟨he, by rw [List.append_nil]; exact h, grown_refl _ _⟩
  · exact wraw_some b bs s w hs hl h

theorem fill_all (v m : Nat) (h : m ≤ 8) : (Bm.fillB (List.replicate 8 0) 0 8 v).take m = Bm.bytesOf v m := by
  have e : Bm.fillB (List.replicate 8 0) 0 8 v = Bm.bytesOf v 8 := by simp [Bm.fillB]
  rw [e, Bm.bytesOf_take _ _ _ h]
theorem row_fill8 {w : World} {g k v : Nat} {cs : List Nat} {t : TypeId} (hl : k < cs.length) (h : Row w g t (u8s (Bm.fillB cs 0 k v))) :
    Row (w.setCell ⟨g, k, none⟩ (.int .u8 ((v / 256 ^ k % 256 : Nat) : Int))) g t (u8s (Bm.fillB cs 0 (k + 1) v)) := by
  have h1 := h.set_ k (.int .u8 ((v / 256 ^ k % 256 : Nat) : Int))
  have h2 := Bm.fillB_step cs 0 k v (by omega)
  rw [Nat.zero_add] at h2
  rw [u8s_set, h2] at h1
  exact h1
/-- The first m cells of a row, as a string. -/
theorem conv_row {w : World} {g m c : Nat} {t : TypeId} {cs : List Nat} (h : Row w g t (u8s cs)) (hm : m ≤ cs.length) (hlt : ∀ x ∈ cs, x < 256) :
    (convert 45 9 (.slice (some ⟨g, 0, none⟩) m c)).run Tryz.prog w = .ok (.string (strOf (cs.take m))) w := by
  have h1 := conv_bytes w (some ⟨g, 0, none⟩) c (cs.take m) (take_lt hlt m) (fun _ => ⟨g, 0, rfl, fun j hj => by
    have hj' : j < m := by simp [u8s] at hj; omega
    rw [Nat.zero_add, h.cell j]
    simp [u8s, hj']⟩)
  rw [List.length_take, Nat.min_eq_left hm] at h1
  exact h1

set_option maxRecDepth 100000 in
theorem slice_a8 (g m : Nat) (W : World) (h : m ≤ 8) : (Instr.sliceAt 151 (.pointer (some ⟨g, 0, none⟩)) none (some (.int .i64 (m : Int))) none).run Tryz.prog W = .ok (.slice (some ⟨g, 0, none⟩) m 8) W := by
  have hl : Tryz.prog.arrayLen 151 = 8 := by kernel_rfl
  have he : Tryz.prog.elem 151 = 5 := by kernel_rfl
  rw [run_sliceAt_array_h W 151 ⟨g, 0, none⟩ (by kernel_rfl) .i64 m (by omega) (by rw [hl]; omega), hl, he]
  go_simp
theorem grown_trans {w w1 w2 : World} {row : Option Nat} (h : w.grownBy w1 row) (h2 : w1.grownBy w2 row) : w.grownBy w2 row :=
  ⟨h2.os.trans h.os, h2.tape.trans h.tape, h2.output.trans h.output, Nat.le_trans h.size h2.size, fun i hi hn => (h2.block i (Nat.lt_of_lt_of_le hi h.size) hn).trans (h.block i hi hn)⟩

set_option maxHeartbeats 1000000 in
set_option maxRecDepth 100000 in
theorem wfixed_any (b v : Nat) (n : Int) (bs : List Nat) (w : World) (hn0 : -9223372036854775808 ≤ n) (hn1 : n ≤ 9223372036854775807) (hv : v < 2 ^ 64) (hl : bs.length ≤ 100000000) (h : CW w b bs) :
    Calls Tryz.prog 83 #[.pointer (some ⟨b, 0, none⟩), .int .u64 (v : Int), .int .i64 n] w fun e w' => e = .returned (.pointer (some ⟨b, 0, none⟩)) ∧ CW w' b (bs ++ Bm.bytesOf v (fx n)) ∧ w.grownBy w' (some b) := by
  have hfx := fx_le n
  have Hf := Lib.hid (fun w => cfixed_any n w hn0 hn1)
  have Hcw := Lib.hid h
  have Hl := Lib.hid hl
  have hg : Row (w.alloc (.cells (u8s (List.replicate 8 0)).toArray 151)) w.heap.size 151 (u8s (List.replicate 8 0)) := Row.new w _ _
  have Hg := Lib.hid hg
  have h64 : v ≤ 18446744073709551615 := by omega
  clear h hl hg hv
  generalize fx n = m at hfx Hf ⊢
  go_enter Tryz.func83, Tryz.ntmps83
  go_wp2
  go_loopw [9] (fun i wr => ∃ k : Nat, k ≤ 8 ∧ i = .int .i64 (k : Int) ∧ Hid (Row wr w.heap.size 151 (u8s (Bm.fillB (List.replicate 8 0) 0 k v))) ∧ Hid (Below w.heap.size w wr)) (fun i _ => 8 - (intOf i).toNat)
  case atStart => exact ⟨0, by omega, rfl, Hg.out, (Below.refl _ _).alloc (Nat.le_refl _) _⟩
  case round =>
    obtain ⟨k, hk, rfl, hrow, hbel⟩ := hrel
    have hlen : (Bm.fillB (List.replicate 8 0) 0 k v).length = 8 := by rw [Bm.fillB_length _ _ _ _ (by simp; omega)]; simp
    by_cases hlt : k < 8
    · have hcell := hrow.out.cell k
      have hfree := hrow.out.free k
      rw [u8s_get? _ _ (by omega)] at hcell
      generalize (Bm.fillB (List.replicate 8 0) 0 k v)[k] = old at hcell
      clear hlen
      go_wp2
      rw [byte_val]
      go_roundw
      case rel => exact ⟨k + 1, by omega, by go_num, row_fill8 (by simp; omega) hrow.out, hbel.out.setCell (Nat.le_refl _) _⟩
      case measure => simp [intOf]; omega
    · obtain rfl : k = 8 := by omega
      have hconv := conv_row (m := m) (c := 8) hrow.out (by omega) (fun x hx => by
        simp [Bm.fillB] at hx
        exact Bm.bytesOf_lt _ _ x hx)
      rw [fill_all _ _ hfx] at hconv
      have hcw := Hcw.out.below hbel.out
      have hlen2 : bs.length + (Bm.bytesOf v m).length ≤ 1000000000 := by rw [Bm.bytesOf_length]; have := Hl.out; omega
      have Hraw := Lib.hid (wraw_any b bs _ wr hlen2 hcw)
      have hsl := slice_a8 w.heap.size m wr hfx
      have Hgr := Lib.hid (grown_below hbel.out (some b))
      clear hlen hlen2 hcw hlt
      generalize strOf (Bm.bytesOf v m) = str at hconv Hraw
      go_wp2_with fail
      refine (Hf.out _).mono ?_
      rintro e w' ⟨rfl, rfl⟩
      go_wp2_with fail
      refine Hraw.out.mono ?_
      rintro e w' ⟨rfl, hcw', hgr'⟩
      go_wp2
      go_ret
      exact ⟨rfl, hcw', grown_trans Hgr.out hgr'⟩
end Go.Proofs.YtbdciiiimdbmkaaGreat

namespace Go.Proofs.YtbdciiiimdbmkaaGreat
open Go.RowKit

/-- A string as bytes: a new row. -/
theorem conv_back (w : World) (l : List Nat) (hlt : ∀ x ∈ l, x < 256) : ∃ w2 cap, (convert 9 45 (.string (strOf l))).run Tryz.prog w = .ok (.slice (some ⟨w.heap.size, 0, none⟩) l.length cap) w2 ∧
    (∀ j (h : j < l.length), w2.cell? ⟨w.heap.size, j, none⟩ = some (.int .u8 (l[j] : Int))) ∧ Below w.heap.size w w2 := by
  have h := run_bytes_of_string (P := Tryz.prog) w 9 45 5 (strOf l) Tryz.underlying9 Tryz.underlying45 Tryz.underlying5
  rw [strOf_size] at h
  refine ⟨_, _, h, ?_, ?_⟩
  · intro j hj
    have hs : j < (strOf l).data.size := by simp [strOf]; exact hj
    have h1 := bytesRow_at (strOf l) (grownCap w l.length 0 5) j hs
    have e : (strOf l).data[j] = UInt8.ofNat l[j] := by simp [strOf]
    rw [e, UInt8.toNat_ofNat_of_lt' (hlt _ (List.getElem_mem hj))] at h1
    rw [cell_of_row _ w.heap.size j _ _ _ (heap_alloc_new w.drew _)]
    exact h1
  · exact (Below.refl _ _).drew.alloc (Nat.le_refl _) _
end Go.Proofs.YtbdciiiimdbmkaaGreat

namespace Go.Proofs.YtbdciiiimdbmkaaGreat
open Go.RowKit

set_option maxHeartbeats 1000000 in
set_option maxRecDepth 100000 in
theorem rint_any (b : Nat) (st : Left) (most : Int) (w : World) (hm0 : -9223372036854775808 ≤ most) (hm1 : most ≤ 9223372036854775807) (hok : OkL st) (h : CR w b st) :
    Calls Tryz.prog 29 #[.pointer (some ⟨b, 0, none⟩), .int .i64 most] w fun e w' => e = .returned (.int .i64 ((intS most st).1 : Int)) ∧ CR w' b (intS most st).2 ∧ w.grownBy w' (some b) := by
  have Hg := Lib.hid (rgroup_any b st w hok h)
  have hok2 := ok_group hok
  unfold intS
  obtain ⟨v, st', hgs⟩ : ∃ v st', groupS st = (v, st') := ⟨_, _, rfl⟩
  rw [hgs] at Hg hok2 ⊢
  have hv := hok2.2
  clear hok2 hgs h hok
  rcases st' with _ | l
  · rw [if_pos (.inl rfl)]
    go_enter Tryz.func29, Tryz.ntmps29
    go_wp2_with fail
    refine Hg.out.mono ?_
    rintro e w1 ⟨rfl, hcr, hgr⟩
    have Hb := Lib.hid (rbad_any b none w1 hcr)
    go_wp2_with fail
    refine Hb.out.mono ?_
    rintro e w' ⟨rfl, rfl⟩
    go_wp2
    go_ret
    exact ⟨rfl, hcr, hgr⟩
  · by_cases hneg : most < 0
    · rw [if_pos (.inr (.inl hneg))]
      go_enter Tryz.func29, Tryz.ntmps29
      go_wp2_with fail
      refine Hg.out.mono ?_
      rintro e w1 ⟨rfl, hcr, hgr⟩
      have Hb := Lib.hid (rbad_any b _ w1 hcr)
      have Hf := Lib.hid (rfail_any b _ w1 hcr)
      have Hgr := Lib.hid hgr
      clear hcr hgr
      go_wp2_with fail
      refine Hb.out.mono ?_
      rintro e w' ⟨rfl, rfl⟩
      go_wp2_with fail
      refine Hf.out.mono ?_
      rintro e w2 ⟨rfl, hcr, hgr⟩
      go_wp2
      go_ret
      exact ⟨rfl, hcr, grown_trans Hgr.out hgr⟩
    · obtain ⟨m, rfl⟩ := Int.eq_ofNat_of_zero_le (show 0 ≤ most by omega)
      by_cases hgt : m < v
      · rw [if_pos (.inr (.inr (by show ((m : Nat) : Int) < ((v : Nat) : Int); omega)))]
        clear hv
        go_enter Tryz.func29, Tryz.ntmps29
        go_wp2_with fail
        refine Hg.out.mono ?_
        rintro e w1 ⟨rfl, hcr, hgr⟩
        have Hb := Lib.hid (rbad_any b _ w1 hcr)
        have Hf := Lib.hid (rfail_any b _ w1 hcr)
        have Hgr := Lib.hid hgr
        clear hcr hgr
        go_wp2_with fail
        refine Hb.out.mono ?_
        rintro e w' ⟨rfl, rfl⟩
        go_wp2_with fail
        refine Hf.out.mono ?_
        rintro e w2 ⟨rfl, hcr, hgr⟩
        go_wp2
        go_ret
        exact ⟨rfl, hcr, grown_trans Hgr.out hgr⟩
      · rw [if_neg (by show ¬ (some l = none ∨ ((m : Nat) : Int) < 0 ∨ ((m : Nat) : Int) < ((v : Nat) : Int)); simp; omega)]
        have hvm : v ≤ m := by omega
        clear hv hgt
        go_enter Tryz.func29, Tryz.ntmps29
        go_wp2_with fail
        refine Hg.out.mono ?_
        rintro e w1 ⟨rfl, hcr, hgr⟩
        have Hb := Lib.hid (rbad_any b _ w1 hcr)
        have Hcr := Lib.hid hcr
        have Hgr := Lib.hid hgr
        clear hcr hgr
        go_wp2_with fail
        refine Hb.out.mono ?_
        rintro e w' ⟨rfl, rfl⟩
        go_wp2
        go_ret
        exact ⟨rfl, Hcr.out, Hgr.out⟩

set_option maxHeartbeats 400000 in
set_option maxRecDepth 100000 in
theorem rtext_any (b : Nat) (st : Left) (most : Int) (w : World) (hm0 : -9223372036854775808 ≤ most) (hm1 : most ≤ 9223372036854775807) (hok : OkL st) (h : CR w b st) :
    Calls Tryz.prog 32 #[.pointer (some ⟨b, 0, none⟩), .int .i64 most] w fun e w' => e = .returned (.string (strOf (textS most st).1)) ∧ CR w' b (textS most st).2 ∧ w.grownBy w' (some b) := by
  have Hi := Lib.hid (rint_any b st most w hm0 hm1 hok h)
  unfold textS
  obtain ⟨v, st', hgs⟩ : ∃ v st', intS most st = (v, st') := ⟨_, _, rfl⟩
  rw [hgs] at Hi ⊢
  have hr : ∀ w1, CR w1 b st' → _ := fun w1 h1 => rraw_any b st' (v : Int) w1 h1
  rw [Int.toNat_natCast] at hr
  have Hr := Lib.hid hr
  clear hgs h hok hr hm0 hm1
  go_enter Tryz.func32, Tryz.ntmps32
  go_wp2_with fail
  refine Hi.out.mono ?_
  rintro e w1 ⟨rfl, hcr, hgr⟩
  have Hgr := Lib.hid hgr
  have Hcr := Lib.hid (Hr.out w1 hcr)
  clear hcr hgr
  go_wp2_with fail
  refine Hcr.out.mono ?_
  rintro e w2 ⟨rfl, hcr, hgr⟩
  go_wp2
  go_ret
  exact ⟨rfl, hcr, grown_trans Hgr.out hgr⟩

set_option maxHeartbeats 400000 in
set_option maxRecDepth 100000 in
theorem rrest_any (b : Nat) (st : Left) (w : World) (h : CR w b st) :
    Calls Tryz.prog 12 #[.pointer (some ⟨b, 0, none⟩)] w fun e w' => e = .returned (.string (strOf (restS st).1)) ∧ CR w' b (restS st).2 ∧ w.grownBy w' (some b) := by
  have Hb := Lib.hid (rbad_any b st w h)
  rcases st with _ | l
  · have H := Lib.hid h
    clear h
    go_enter Tryz.func12, Tryz.ntmps12
    go_wp2_with fail
    refine Hb.out.mono ?_
    rintro e w' ⟨rfl, rfl⟩
    go_wp2
    go_ret
    exact ⟨rfl, H.out, grown_refl _ _⟩
  · obtain ⟨c0, c1, f0, f1⟩ := h.cells
    rw [Option.getD_some] at c0
    have hr := rraw_any b (some l) (l.length : Int) w h
    rw [Int.toNat_natCast] at hr
    simp only [rawS, Nat.le_refl, if_true, List.take_length, List.drop_length] at hr
    have Hr := Lib.hid hr
    have hsz := strOf_size l
    simp only [restS]
    clear h hr c1 f0 f1
    generalize strOf l = s at c0 hsz Hr ⊢
    go_enter Tryz.func12, Tryz.ntmps12
    go_wp2_with fail
    refine Hb.out.mono ?_
    rintro e w' ⟨rfl, rfl⟩
    go_wp2_with fail
    refine Hr.out.mono ?_
    rintro e w2 ⟨rfl, hcr, hgr⟩
    go_wp2
    go_ret
    exact ⟨rfl, hcr, hgr⟩

theorem or_byte (l : List Nat) (k : Nat) (hk : k < l.length) (h8 : l.length ≤ 8) (hlt : ∀ x ∈ l, x < 256) :
    bits .or .u64 ((Bm.valB (l.take k) : Nat) : Int) (IntKind.u64.wrap ((l[k] : Int) * 2 ^ (8 * k))) = ((Bm.valB (l.take (k + 1)) : Nat) : Int) := by
  have hlen : (l.take k).length = k := by rw [List.length_take]; omega
  have hv := Bm.valB_lt (l.take k) (take_lt hlt k)
  rw [hlen, Bm.p256] at hv
  have hb := hlt l[k] (List.getElem_mem hk)
  have hp : (2 : Nat) ^ (8 * k) ≤ 2 ^ 56 := Nat.pow_le_pow_right (by omega) (by omega)
  have h64 : l[k] * 2 ^ (8 * k) < 2 ^ 64 := by
    have := Nat.mul_le_mul (show l[k] ≤ 255 by omega) hp
    omega
  rw [or_val _ _ _ (by omega), Nat.mod_eq_of_lt h64, Bm.or_sum _ _ _ hv, List.take_succ_eq_append_getElem hk, Bm.valB_snoc, hlen, Bm.p256]

set_option maxHeartbeats 1000000 in
set_option maxRecDepth 100000 in
theorem rfixed_any (b : Nat) (st : Left) (n : Int) (w : World) (hn0 : -9223372036854775808 ≤ n) (hn1 : n ≤ 9223372036854775807) (hok : OkL st) (h : CR w b st) :
    Calls Tryz.prog 70 #[.pointer (some ⟨b, 0, none⟩), .int .i64 n] w fun e w' => e = .returned (.int .u64 (Bm.valB (rawS (fx n) st).1 : Int)) ∧ CR w' b (rawS (fx n) st).2 ∧ w.grownBy w' (some b) := by
  have hfx := fx_le n
  have Hfx := Lib.hid (cfixed_any n w hn0 hn1)
  have hr := rraw_any b st (fx n : Int) w h
  rw [Int.toNat_natCast] at hr
  have hok2 := ok_raw (n := fx n) hok
  generalize fx n = m at *
  obtain ⟨l, st', hgs⟩ : ∃ l st', rawS m st = (l, st') := ⟨_, _, rfl⟩
  rw [hgs] at hr hok2 ⊢
  have hlt := hok2.2.1
  have hl8 : l.length ≤ 8 := Nat.le_trans hok2.2.2 hfx
  have Hr := Lib.hid hr
  have Hlt := Lib.hid hlt
  obtain ⟨res, hres⟩ : ∃ r, r = Bm.valB l := ⟨_, rfl⟩
  rw [← hres]
  have Hres := Lib.hid hres
  clear hr hok2 hok h hgs hlt hn0 hn1 hfx hres
  go_enter Tryz.func70, Tryz.ntmps70
  go_wp2_with fail
  refine Hfx.out.mono ?_
  rintro e w' ⟨rfl, rfl⟩
  go_wp2_with fail
  refine Hr.out.mono ?_
  rintro e w1 ⟨rfl, hcr, hgr⟩
  obtain ⟨w2, cap, hconv, hcells, hbel⟩ := conv_back w1 l Hlt.out
  have hbw := hcr.lt
  have Hcr := Lib.hid (hcr.below hbel)
  have Hgr := Lib.hid (grown_trans hgr (grown_below hbel (some b)))
  have Hcells := Lib.hid hcells
  have Hor := Lib.hid (fun k hk => or_byte l k hk hl8 Hlt.out)
  clear hcr hgr hcells hbel
  obtain ⟨g, hg⟩ : ∃ g, g = w1.heap.size := ⟨_, rfl⟩
  rw [← hg] at hconv Hcells
  clear hg
  generalize strOf l = s at hconv ⊢
  obtain ⟨N, hN⟩ : ∃ N, N = l.length := ⟨_, rfl⟩
  rw [← hN] at hconv hl8
  have HN := Lib.hid hN
  clear hN
  go_wp2
  go_loop [5, 14] (fun v i => ∃ k V : Nat, k ≤ N ∧ i = .int .i64 (k : Int) ∧ v = .int .u64 (V : Int) ∧ Hid (V = Bm.valB (l.take k))) (fun _ i => N - (intOf i).toNat)
  case atStart => exact ⟨0, 0, by omega, rfl, rfl, rfl⟩
  case round =>
    obtain ⟨k, V, hk, rfl, rfl, hV⟩ := hrel
    by_cases hlt : k < N
    · have hk1 : k < l.length := by rw [← HN.out]; exact hlt
      have hc := Hcells.out k hk1
      have hc8 := Hlt.out l[k] (List.getElem_mem hk1)
      have hor := Hor.out k hk1
      rw [← hV.out] at hor
      have Hor1 := Lib.hid hor
      clear hor
      generalize l[k] = c at hc hc8 Hor1
      clear hk1
      go_wp2
      rw [Hor1.out]
      go_round
      case rel => exact ⟨k + 1, _, by omega, by go_num, rfl, rfl⟩
      case measure => simp [intOf]; omega
    · obtain rfl : k = N := by omega
      have hVr : V = res := by rw [hV.out, HN.out, List.take_length, Hres.out]
      subst hVr
      go_wp2
      go_ret
      exact ⟨rfl, Hcr.out, Hgr.out⟩
end Go.Proofs.YtbdciiiimdbmkaaGreat

namespace Go.Proofs.YtbdciiiimdbmkaaGreat
open Go.RowKit

theorem group_yes (t : List Nat) (h0 : 0 < (Bm.firstG t).2) : groupS (some t) = ((Bm.firstG t).1, some (t.drop (Bm.firstG t).2)) := by
  simp only [groupS, if_pos h0]
theorem group_no (t : List Nat) (h0 : ¬ 0 < (Bm.firstG t).2) : groupS (some t) = (0, none) := by
  simp only [groupS, if_neg h0]
theorem int_yes (m : Int) (t : List Nat) (h0 : 0 < (Bm.firstG t).2) (hm : ((Bm.firstG t).1 : Int) ≤ m) : intS m (some t) = ((Bm.firstG t).1, some (t.drop (Bm.firstG t).2)) := by
  unfold intS
  rw [group_yes t h0, if_neg]
  rintro (h | h | h)
  · cases h
  · omega
  · dsimp only at h
    omega
theorem int_no (m : Int) (t : List Nat) (h : ¬ (0 < (Bm.firstG t).2 ∧ ((Bm.firstG t).1 : Int) ≤ m)) : intS m (some t) = (0, none) := by
  unfold intS
  by_cases h0 : 0 < (Bm.firstG t).2
  · rw [group_yes t h0, if_pos]
    by_cases hm : m < 0
    · exact .inr (.inl hm)
    · exact .inr (.inr (by dsimp only; omega))
  · rw [group_no t h0, if_pos (.inl rfl)]
/-- What Text answers of what is left: a text that is there, or nothing. -/
theorem text_yes (t : List Nat) (h : 0 < (Bm.firstG t).2 ∧ (Bm.firstG t).1 ≤ t.length - (Bm.firstG t).2) (_ : t.length ≤ 100000000) :
    textS 9223372036854775807 (some t) = ((t.drop (Bm.firstG t).2).take (Bm.firstG t).1, some (t.drop ((Bm.firstG t).2 + (Bm.firstG t).1))) := by
  unfold textS
  rw [int_yes 9223372036854775807 t h.1 (by omega)]
  simp only [rawS]
  rw [if_pos (by rw [List.length_drop]; exact h.2), List.drop_drop]
theorem text_no (t : List Nat) (h : ¬ (0 < (Bm.firstG t).2 ∧ (Bm.firstG t).1 ≤ t.length - (Bm.firstG t).2)) (_ : t.length ≤ 100000000) :
    textS 9223372036854775807 (some t) = ([], none) := by
  unfold textS
  by_cases h0 : 0 < (Bm.firstG t).2 ∧ ((Bm.firstG t).1 : Int) ≤ 9223372036854775807
  · rw [int_yes 9223372036854775807 t h0.1 h0.2]
    simp only [rawS]
    rw [if_neg (by rw [List.length_drop]; omega)]
  · rw [int_no 9223372036854775807 t h0]
    rfl
/-- Ints that are read lie in no Reader: they stay where a Reader's block alone turns. -/
theorem reads_notR {w w' : World} {b : Nat} {st : Left} {A : Option Addr} {l : List Nat} (h : CR w b st) (hr : Reads w A (i64s l)) (hg : w.grownBy w' (some b)) : Reads w' A (i64s l) := fun hne => by
  obtain ⟨g, off, rfl, hc⟩ := hr hne
  refine ⟨g, off, rfl, fun j hj => ?_⟩
  have h1 := hc j hj
  rw [i64s_length] at hj
  rw [i64s_get? l j hj] at h1 ⊢
  refine hg.cell h1 (fun e => ?_)
  injection e with e
  dsimp only at e
  subst e
  have h2 := (Row.cell h (off + j)).symm.trans h1
  have hrc : ∀ (m : Nat) (z : Int), (rcells st)[m]? ≠ some (.int .i64 z) := by
    intro m z hx
    rcases st with _ | bs
    all_goals
      match m, hx with
      | 0, hx => simp [rcells] at hx
      | 1, hx => simp [rcells] at hx
      | m + 2, hx => simp [rcells] at hx
  exact hrc _ _ h2
theorem fix_read (k : Nat) (r : List Nat) : rawS (fx 1) (some (k :: r)) = ([k], some r) := by
  rw [show fx 1 = 1 by decide]
  simp [rawS]
theorem raw_yes (n : Nat) (t : List Nat) (h : n ≤ t.length) : rawS n (some t) = (t.take n, some (t.drop n)) := by
  simp only [rawS, if_pos h]
theorem raw_no (n : Nat) (t : List Nat) (h : ¬ n ≤ t.length) : rawS n (some t) = ([], none) := by
  simp only [rawS, if_neg h]
end Go.Proofs.YtbdciiiimdbmkaaGreat

namespace Go.Proofs.YtbdciiiimdbmkaaGreat
open Go.RowKit

theorem or_more (x : Nat) : bits .or .u8 ((x : Int) % 256) 128 = ((x % 128 + 128 : Nat) : Int) := by
  have e : (x : Int) % 256 = ((x % 256 : Nat) : Int) := by simp
  rw [e, show (128 : Int) = ((128 : Nat) : Int) from rfl, u8_or_nat _ _ (by omega) (by omega)]
  congr 1
  have h : ∀ y, y < 256 → y ||| 128 = y % 128 + 128 := by decide +kernel
  rw [h _ (by omega)]
  omega
theorem own_snoc {w : World} {base n b : Nat} {u : Value} {l : List Nat} (h : w.ownsRow base 5 1 u (n + 1) (u8s l ++ [.int .u8 (b : Int)])) : w.ownsRow base 5 1 u (n + 1) (u8s (l ++ [b])) := by
  have e : u8s (l ++ [b]) = u8s l ++ [.int .u8 (b : Int)] := by simp [u8s]
  rw [e]; exact h

set_option maxHeartbeats 1000000 in
set_option maxRecDepth 100000 in
theorem wgroup_gen (po : Option Addr) (v : Nat) (R : World → World → Prop) (w : World) (hv : v < 2 ^ 64)
    (hraw : ∀ w', Below w.heap.size w w' → Calls Tryz.prog 16 #[.pointer po, .string (strOf (Bm.grp v))] w' fun e w'' => e = .returned (.pointer po) ∧ R w' w'') :
    Calls Tryz.prog 13 #[.pointer po, .int .u64 (v : Int)] w fun e w' => e = .returned (.pointer po) ∧ ∃ w1, Below w.heap.size w w1 ∧ R w1 w' := by
  obtain ⟨i0, hi, hz0, hz1, hz2⟩ := info_parts info_u8
  have Hraw := Lib.hid hraw
  have Hv := Lib.hid hv
  clear hraw hv
  go_enter Tryz.func13, Tryz.ntmps13
  go_wp2_with (at_make; refine wpList_make_own _ rfl _ _ 45 rfl w.heap.size 5 i0 (.int .u8 0) 1 Tryz.underlying45 hi hz0 hz1 .i64 .i64 _ 10 rfl rfl ?c1 ?c2 ?c3 ?c4 ?_)
  case c1 => rfl
  case c2 => rw [hz2]; omega
  case c3 => unfold maxLen; omega
  case c4 => exact Nat.le_refl _
  intro w1 hown1 hg1
  have Hb1 := Lib.hid (below_of_grown hg1)
  have Hown1 := Lib.hid hown1
  clear hown1 hg1
  go_wp2
  go_loopw [1, 5] (fun x u wr => ∃ (y : Nat) (acc : List Nat), x = .int .u64 (y : Int) ∧ Hid (y < 2 ^ 64) ∧ Hid (acc ++ Bm.grp y = Bm.grp v) ∧ Hid (wr.ownsRow w.heap.size 5 1 u acc.length (u8s acc)) ∧ Hid (Below w.heap.size w wr)) (fun x _ _ => (intOf x).toNat)
  case atStart => exact ⟨v, [], rfl, by have := Hv.out; omega, by simp [Hid], Hown1.out, Hb1.out⟩
  case round =>
    obtain ⟨y, acc, rfl, hy, hacc, hown, hbel⟩ := hrel
    have hacc10 : acc.length ≤ 10 := by
      have h1 := congrArg List.length hacc.out
      rw [List.length_append] at h1
      have h2 := Bm.grp_ten v Hv.out
      omega
    by_cases hlt : 128 ≤ y
    · go_wp2_with (at_builtin; refine wpList_append_own _ rfl _ _ 45 rfl w.heap.size 5 i0 (.int .u8 0) 1 1 Tryz.underlying45 hi hz0 hz1 hz2 rfl (by decide) _ _ _ rfl (hown.out.alloc _) ⟨wr.heap.size, 0, none⟩ 1 1 [.int .u8 (bits .or .u8 ((y : Int) % 256) 128)] rfl rfl ?d1 ?d2 ?d3 ?d4 ?d5 ?_)
      case d1 =>
        intro j u hj
        match j, hj with
        | 0, hj => simp at hj; subst hj; simp [Addr.add]
      case d2 => intro u hu; simp at hu; subst hu; rfl
      case d3 => unfold maxLen; omega
      case d4 => omega
      case d5 => have := hbel.out.size; simp; omega
      intro u' w2 hown' hgrow _
      rw [or_more] at hown'
      have hb' : Below w.heap.size w w2 := (hbel.out.alloc hbel.out.size _).grown hgrow (by have := hbel.out.size; simp; omega) (fun q hq => (hown.out.lt q hq).1)
      have Hown := Lib.hid (own_snoc hown')
      have Hb := Lib.hid hb'
      clear hown' hb' hgrow hown hbel
      go_wp2
      go_roundw
      case rel => 
        refine ⟨y / 128, acc ++ [y % 128 + 128], by go_num, by have := hy.out; unfold Hid; omega, ?_, ?_, Hb⟩
        · unfold Hid
          rw [← hacc.out, Bm.grp_big y hlt hy.out, List.append_assoc]
          rfl
        · rw [List.length_append]; exact Hown
      case measure => simp [intOf]; omega
    · have hyB : y ≤ 127 := by omega
      have hfin : acc ++ [y] = Bm.grp v := by rw [← hacc.out, Bm.grp_small y (by omega)]
      have Hfin := Lib.hid hfin
      clear hfin hacc hlt
      go_wp2_with (at_builtin; refine wpList_append_own _ rfl _ _ 45 rfl w.heap.size 5 i0 (.int .u8 0) 1 1 Tryz.underlying45 hi hz0 hz1 hz2 rfl (by decide) _ _ _ rfl (hown.out.alloc _) ⟨wr.heap.size, 0, none⟩ 1 1 [.int .u8 (y : Int)] rfl rfl ?d1 ?d2 ?d3 ?d4 ?d5 ?_)
      case d1 =>
        intro j u hj
        match j, hj with
        | 0, hj => simp at hj; subst hj; simp [Addr.add]
      case d2 => intro u hu; simp at hu; subst hu; rfl
      case d3 => unfold maxLen; omega
      case d4 => omega
      case d5 => have := hbel.out.size; simp; omega
      intro u' w2 hown' hgrow _
      have hb' : Below w.heap.size w w2 := (hbel.out.alloc hbel.out.size _).grown hgrow (by have := hbel.out.size; simp; omega) (fun q hq => (hown.out.lt q hq).1)
      have hown2 := own_snoc hown'
      rw [Hfin.out] at hown2
      have hlen : acc.length + 1 = (Bm.grp v).length := by rw [← Hfin.out]; simp
      obtain ⟨A, c, rfl, hr, _⟩ := own_reads hown2
      have hconv := conv_bytes w2 A c (Bm.grp v) (Bm.grp_lt v Hv.out) hr
      rw [hlen]
      have Hb := Lib.hid hb'
      have Hlast := Lib.hid (Hraw.out w2 hb')
      clear hown' hb' hgrow hown hbel hown2 hr hlen hacc10 Hfin Hraw
      generalize strOf (Bm.grp v) = str at hconv Hlast
      generalize (Bm.grp v).length = len at hconv ⊢
      go_wp2_with fail
      refine Hlast.out.mono ?_
      rintro e w' ⟨rfl, hR⟩
      have HR := Lib.hid hR
      clear hR
      go_wp2
      go_ret
      exact ⟨rfl, w2, Hb.out, HR.out⟩

theorem wgroup_nil (v : Nat) (w : World) (hv : v < 2 ^ 64) : Calls Tryz.prog 13 #[.pointer none, .int .u64 (v : Int)] w fun e w' => e = .returned (.pointer none) ∧ Below w.heap.size w w' :=
  (wgroup_gen none v (fun w1 w' => w1 = w') w hv (fun w' _ => wraw_nil _ w')).mono fun e w' ⟨he, w1, hb, hw⟩ => by subst hw; exact ⟨he, hb⟩
theorem wgroup_any (b v : Nat) (bs : List Nat) (w : World) (hv : v < 2 ^ 64) (hl : bs.length ≤ 100000000) (h : CW w b bs) :
    Calls Tryz.prog 13 #[.pointer (some ⟨b, 0, none⟩), .int .u64 (v : Int)] w fun e w' => e = .returned (.pointer (some ⟨b, 0, none⟩)) ∧ CW w' b (bs ++ Bm.grp v) ∧ w.grownBy w' (some b) := by
  have h10 := Bm.grp_ten v hv
  exact (wgroup_gen (some ⟨b, 0, none⟩) v (fun w1 w' => CW w' b (bs ++ Bm.grp v) ∧ w1.grownBy w' (some b)) w hv (fun w' hb => wraw_any b bs _ w' (by omega) (h.below hb))).mono
    fun e w' ⟨he, w1, hb, hc, hg⟩ => ⟨he, hc, grown_trans (grown_below hb _) hg⟩

set_option maxHeartbeats 400000 in
set_option maxRecDepth 100000 in
theorem wtext_any (b : Nat) (bs s : List Nat) (w : World) (hl : bs.length ≤ 10000000) (hs : s.length ≤ 10000000) (h : CW w b bs) :
    Calls Tryz.prog 18 #[.pointer (some ⟨b, 0, none⟩), .string (strOf s)] w fun e w' => e = .returned (.pointer (some ⟨b, 0, none⟩)) ∧ CW w' b (bs ++ (Bm.grp s.length ++ s)) ∧ w.grownBy w' (some b) := by
  have h10 := Bm.grp_ten s.length (by omega)
  have Hg := Lib.hid (wgroup_any b s.length bs w (by omega) (by omega) h)
  have Hr := Lib.hid (fun w1 h1 => wraw_any b (bs ++ Bm.grp s.length) s w1 (by rw [List.length_append]; omega) h1)
  have hsz := strOf_size s
  clear h
  generalize strOf s = str at hsz Hr ⊢
  go_enter Tryz.func18, Tryz.ntmps18
  go_wp2_with fail
  refine Hg.out.mono ?_
  rintro e w1 ⟨rfl, hc, hg⟩
  have Hc := Lib.hid (Hr.out w1 hc)
  have Hg1 := Lib.hid hg
  clear hc hg
  go_wp2_with fail
  refine Hc.out.mono ?_
  rintro e w2 ⟨rfl, hc, hg⟩
  rw [List.append_assoc] at hc
  have Hc2 := Lib.hid hc
  have Hg2 := Lib.hid hg
  clear hc hg
  go_wp2
  go_ret
  exact ⟨rfl, Hc2.out, grown_trans Hg1.out Hg2.out⟩
end Go.Proofs.YtbdciiiimdbmkaaGreat

namespace Go.Proofs.YtbdciiiimdbmkaaGreat
open Go.RowKit

theorem fx_lt {n : Int} {k : Nat} (h : k < fx n) : (k : Int) < n ∧ k < 8 := by unfold fx at h; omega
theorem fx_end {n : Int} {k : Nat} (h : k = fx n) : n ≤ (k : Int) ∨ k = 8 := by unfold fx at h; omega
/-- A new slice of one byte, as a string, in the world where it is new. -/
theorem conv_new (w : World) (x : Nat) (h : x < 256) : (convert 45 9 (.slice (some ⟨w.heap.size, 0, none⟩) 1 1)).run Tryz.prog (w.alloc (.cells #[.int .u8 (x : Int)] 5)) = .ok (.string (strOf [x])) (w.alloc (.cells #[.int .u8 (x : Int)] 5)) :=
  conv_one _ _ _ h ((Row.new w 5 [.int .u8 (x : Int)]).cell 0) 1
theorem quo_wrap (X d : Nat) (h : X < 2 ^ 64) : IntKind.u64.wrap ((X : Int) / (d : Int)) = ((X / d : Nat) : Int) := by
  have := Nat.div_le_self X d
  rw [show (X : Int) / (d : Int) = ((X / d : Nat) : Int) by simp, u64_wrap _ (by omega)]
theorem or_grp (x : Nat) : ((x : Int) % 128 + 128) = ((x % 128 + 128 : Nat) : Int) := by simp
set_option maxHeartbeats 1000000 in
set_option maxRecDepth 100000 in
theorem fgroup_any (v : Nat) (w : World) (hv : v < 2 ^ 64) :
    Calls Tryz.prog 44 #[.int .u64 (v : Int)] w fun e w' => e = .returned (.string (strOf (Bm.grp v))) ∧ Below w.heap.size w w' := by
  have Hv := Lib.hid hv
  obtain ⟨all, hall⟩ : ∃ s, s = strOf (Bm.grp v) := ⟨_, rfl⟩
  rw [← hall]
  have Hall := Lib.hid hall
  clear hv hall
  go_enter Tryz.func44, Tryz.ntmps44
  go_wp2
  go_loopw [0, 3] (fun x s wr => ∃ (y : Nat) (acc : List Nat), x = .int .u64 (y : Int) ∧ s = .string (strOf acc) ∧ Hid (y < 2 ^ 64) ∧ Hid (acc ++ Bm.grp y = Bm.grp v) ∧ Hid (Below w.heap.size w wr)) (fun x _ _ => (intOf x).toNat)
  case atStart => exact ⟨v, [], rfl, rfl, Hv, by simp [Hid], Below.refl _ _⟩
  case round =>
    obtain ⟨y, acc, rfl, rfl, hy, hacc, hbel⟩ := hrel
    have hacc10 : acc.length ≤ 10 := by
      have h1 := congrArg List.length hacc.out
      rw [List.length_append] at h1
      have h2 := Bm.grp_ten v Hv.out
      omega
    by_cases hlt : 128 ≤ y
    · have hconv := conv_new wr (y % 128 + 128) (by omega)
      have hadd := fun W => str_add acc [y % 128 + 128] (by simp; omega) W
      rw [show ((y % 128 + 128 : Nat) : Int) = (y : Int) % 128 + 128 by simp] at hconv
      have hnext : acc ++ [y % 128 + 128] ++ Bm.grp (y / 128) = Bm.grp v := by
        rw [← hacc.out, Bm.grp_big y hlt hy.out, List.append_assoc]; rfl
      have Hnext := Lib.hid hnext
      clear hnext hacc hacc10
      generalize strOf [y % 128 + 128] = s2 at hconv hadd
      generalize hs1 : strOf (acc ++ [y % 128 + 128]) = s1 at hadd
      generalize strOf acc = s0 at hadd ⊢
      have Hs1 := Lib.hid hs1
      clear hs1
      go_wp2
      have hw := quo_wrap y 128 hy.out
      simp only [Int.cast_ofNat_Int] at hw
      rw [hw]
      go_roundw
      case rel => exact ⟨y / 128, acc ++ [y % 128 + 128], rfl, by rw [Hs1.out], by have := hy.out; unfold Hid; omega, Hnext, hbel.out.alloc hbel.out.size _⟩
      case measure => simp [intOf]; omega
    · have hyB : y ≤ 127 := by omega
      have hfin : acc ++ [y] = Bm.grp v := by rw [← hacc.out, Bm.grp_small y (by omega)]
      have hconv := conv_new wr y (by omega)
      have hadd := fun W => str_add acc [y] (by simp; omega) W
      rw [hfin, ← Hall.out] at hadd
      clear hfin hacc hlt hacc10
      generalize strOf [y] = s2 at hconv hadd
      generalize strOf acc = s0 at hadd ⊢
      go_wp2
      go_ret
      exact ⟨rfl, hbel.out.alloc hbel.out.size _⟩

theorem valB_at (l : List Nat) (k : Nat) (h : k < l.length) : Bm.valB (l.drop k) = Bm.valB (l.drop (k + 1)) * 256 + l[k] := by
  rw [List.drop_eq_getElem_cons h]
  simp only [Bm.valB]
  omega
end Go.Proofs.YtbdciiiimdbmkaaGreat
