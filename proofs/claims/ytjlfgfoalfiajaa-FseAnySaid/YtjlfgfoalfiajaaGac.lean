/-
  General lemmas over any program: what the call owns, as a slice that reads; or of words. No condition.
  The reference's Width (layer 1), by its walk, over layer 6's mathematics. Condition: the argument is a uint32.
  The reference of layer 1 (bits), by its walk: Of, Number (XWr's proofs, without layer 1's Writer). Conditions: as each theorem's premises say.
  General lemmas over a program that has bytes, slices of bytes, strings: a new slice of bytes, bytes as a string. No condition.
  The leaves of layer 1 (bits), each by its walk: lowest, Len, Left. Each contract holds for every input of its premises; no condition beyond.
  Put of a Writer (layer 1), by its walk: refused numbers of bits leave all as it is; else the bits go behind those that are there.
  The reference of layer 1 (bits), each function by its walk: Of, Number, Bytes, Bits, on lists of noughts and ones. Conditions: as each theorem's premises say (up to 32 bits of a number, up to a million bits in a list).
  Strings as lists of bytes: concatenation, pieces, equality, indices. No condition.
-/
import Derived.Test.YtjlfgfoalfiajaaGab
import Derived.Test.YtjlfgfoalfiajaaGaa
import Derived.Lib.Hide
import Derived.Lib.BitFns
import Derived.BigQuiet
import Derived.Deep.QuietTactic
import Derived.RegionTactic
import Derived.BigRegion
import Derived.Laws.Concat
import Derived.Laws.DeepStrings4
namespace Go.Proofs.Ytjlfgfoalfiajaa
open Go.RowKit

theorem u64_wrap (n : Nat) (h : n < 2 ^ 64) : IntKind.u64.wrap (n : Int) = (n : Int) := by
  have : IntKind.u64.wrap (n : Int) = (n : Int) % 18446744073709551616 := by simp [IntKind.wrap, IntKind.bits, IntKind.signed]
  rw [this]; omega
theorem or_val (rest x a : Nat) (hr : rest < 2 ^ 64) : bits .or .u64 (rest : Int) (IntKind.u64.wrap ((x : Int) * 2 ^ a)) = ((rest ||| x * 2 ^ a % 2 ^ 64 : Nat) : Int) := by
  have e : (x : Int) * 2 ^ a = ((x * 2 ^ a : Nat) : Int) := by simp
  have e2 : IntKind.u64.wrap ((x * 2 ^ a : Nat) : Int) = ((x * 2 ^ a % 2 ^ 64 : Nat) : Int) := by
    have : IntKind.u64.wrap ((x * 2 ^ a : Nat) : Int) = ((x * 2 ^ a : Nat) : Int) % 18446744073709551616 := by simp [IntKind.wrap, IntKind.bits, IntKind.signed]
    rw [this]; omega
  rw [e, e2, u64_or_nat _ _ hr (by exact Nat.mod_lt _ (by decide))]
theorem modpow (v m : Nat) : (v : Int) % 2 ^ m = ((v % 2 ^ m : Nat) : Int) := by simp
theorem reads_u8 {w : World} {A : Option Addr} {l : List Nat} (h : Reads w A (u8s l)) (hne : l ≠ []) : ∃ g off, A = some ⟨g, off, none⟩ ∧ ∀ j (hj : j < l.length), w.cell? ⟨g, off + j, none⟩ = some (.int .u8 (l[j] : Int)) := by
  obtain ⟨g, off, e, hc⟩ := h (by simpa [u8s] using hne)
  exact ⟨g, off, e, fun j hj => by rw [hc j (by simpa [u8s] using hj), u8s_get? l j hj]⟩
/-- A byte more of the reference's Bytes. -/
theorem own_form {w : World} {base : Nat} {e : TypeId} {v : Value} {n : Nat} {xs : List Value} (h : w.ownsRow base e 1 v n xs) (hn : 0 < n) : ∃ g cap, v = .slice (some ⟨g, 0, none⟩) n cap ∧ base ≤ g ∧ g < w.heap.size := by
  rcases h.2 with ⟨_, h0⟩ | ⟨g, cap, cur, hv, hb, hh, _⟩
  · omega
  · refine ⟨g, cap, hv, hb, ?_⟩
    rcases Nat.lt_or_ge g w.heap.size with h1 | h1
    · exact h1
    · rw [Array.getElem?_eq_none h1] at hh; cases hh
theorem own_below {w w' : World} {base : Nat} {e : TypeId} {v : Value} {n : Nat} {xs : List Value} (h : w.ownsRow base e 1 v n xs) (hb : Below w.heap.size w w') : w'.ownsRow base e 1 v n xs :=
  h.kept (row := none) (grown_below hb none) (by cases v.ownBlock <;> simp)
theorem add_zero_off (g j : Nat) : ((⟨g, 0, none⟩ : Addr).add j) = ⟨g, j, none⟩ := by
  unfold Addr.add; split <;> simp_all
/-- A list that the call owns, as one that reads. -/
theorem own_reads {w : World} {base : Nat} {e : TypeId} {v : Value} {n : Nat} {xs : List Value} (h : w.ownsRow base e 1 v n xs) : ∃ A c, v = .slice A n c ∧ Reads w A xs ∧ (∀ a, A = some a → base ≤ a.block ∧ a.block < w.heap.size ∧ ∃ cs fz, w.heap[a.block]? = some (.cells cs e fz)) := by
  rcases Nat.eq_zero_or_pos n with h0 | h0
  · subst h0
    have hl : xs = [] := List.eq_nil_of_length_eq_zero (by simpa using h.1)
    subst hl
    rcases h.2 with ⟨hv, _⟩ | ⟨g, cap, cur, hv, hb, hh, _⟩
    · exact ⟨none, 0, hv, fun h => absurd rfl h, fun a e => by cases e⟩
    · refine ⟨some ⟨g, 0, none⟩, cap, hv, fun h => absurd rfl h, fun a e => ?_⟩
      injection e with e
      subst e
      refine ⟨hb, ?_, _, _, hh⟩
      rcases Nat.lt_or_ge g w.heap.size with h1 | h1
      · exact h1
      · rw [Array.getElem?_eq_none h1] at hh; cases hh
  · rcases h.2 with ⟨_, h1⟩ | ⟨g, cap, cur, hv, hb, hh, h3⟩
    · omega
    · refine ⟨some ⟨g, 0, none⟩, cap, hv, fun _ => ⟨g, 0, rfl, fun j hj => ?_⟩, fun a e => ?_⟩
      · have hc := h.cells (g := g) (by rw [hv]; rfl) j (xs[j]) (List.getElem?_eq_getElem hj)
        rw [add_zero_off] at hc
        rw [Nat.zero_add, hc, List.getElem?_eq_getElem hj]
      · injection e with e
        subst e
        refine ⟨hb, ?_, _, _, hh⟩
        rcases Nat.lt_or_ge g w.heap.size with h1 | h1
        · exact h1
        · rw [Array.getElem?_eq_none h1] at hh; cases hh
theorem byte_val (v k : Nat) : (v : Int) / 2 ^ (8 * k) % 256 = ((v / 256 ^ k % 256 : Nat) : Int) := by rw [Bm.p256]; simp
theorem below_of_grown {w w' : World} (h : w.grownBy w' none) : Below w.heap.size w w' := ⟨h.os, h.tape, h.output, h.size, fun k hk => h.block k hk (by simp)⟩
theorem row_reads {w : World} {g : Nat} {t : TypeId} {cs : List Value} (h : Row w g t cs) : Reads w (some ⟨g, 0, none⟩) cs := fun _ => ⟨g, 0, rfl, fun j _ => by rw [Nat.zero_add]; exact h.cell j⟩
theorem reads_below {w W : World} {A : Option Addr} {xs : List Value} (h : Reads w A xs) (hb : Below w.heap.size w W) (hA : ∀ a, A = some a → a.block < w.heap.size) : Reads W A xs := fun hne => by
  obtain ⟨g, off, e, hc⟩ := h hne
  have hg : g < w.heap.size := hA _ e
  exact ⟨g, off, e, fun j hj => (hb.cell (p := ⟨g, off + j, none⟩) hg).trans (hc j hj)⟩
theorem own_cap {w : World} {base g n cap : Nat} {e : TypeId} {xs : List Value} (h : w.ownsRow base e 1 (.slice (some ⟨g, 0, none⟩) n cap) n xs) : n ≤ cap ∧ cap ≤ maxLen := by
  rcases h.2 with ⟨hv, _⟩ | ⟨g', cap', cur, hv, hb, hh, h1, h2, _⟩
  · cases hv
  · injection hv with _ _ e3
    subst e3
    exact ⟨h1, h2⟩
/-- A slice that the call owns and that isn't nil: its place, and what it reads as. -/
theorem own_place {w : World} {base g n cap : Nat} {e : TypeId} {xs : List Value} (h : w.ownsRow base e 1 (.slice (some ⟨g, 0, none⟩) n cap) n xs) : base ≤ g ∧ g < w.heap.size ∧ n ≤ cap ∧ cap ≤ maxLen ∧ Reads w (some ⟨g, 0, none⟩) xs := by
  obtain ⟨A, c', e, h1, h2⟩ := own_reads h
  injection e with e1 e2 e3
  subst e1
  obtain ⟨h3, h4, _⟩ := h2 _ rfl
  exact ⟨h3, h4, (own_cap h).1, (own_cap h).2, h1⟩
theorem own_low {w : World} {base base' n : Nat} {v : Value} {e : TypeId} {xs : List Value} (h : w.ownsRow base e 1 v n xs) (hb : base' ≤ base) : w.ownsRow base' e 1 v n xs :=
  ⟨h.1, h.2.imp id (fun ⟨g, cap, cur, a, b, c⟩ => ⟨g, cap, cur, a, Nat.le_trans hb b, c⟩)⟩
theorem reads_alloc {w : World} {g : Nat} {xs : List Value} (h : Reads w (some ⟨g, 0, none⟩) xs) (hg : g < w.heap.size) (o : Obj) : Reads (w.alloc o) (some ⟨g, 0, none⟩) xs := fun hne => by
  obtain ⟨g', off, e, hc⟩ := h hne
  injection e with e
  injection e with e1 e2
  subst e1 e2
  exact ⟨_, _, rfl, fun j hj => by rw [World.cell?_alloc_lt _ _ _ (by exact hg)]; exact hc j hj⟩
theorem reads_news {w : World} {g off : Nat} {xs : List Value} (h : Reads w (some ⟨g, off, none⟩) xs) : ∀ j u, xs[j]? = some u → w.cell? ((⟨g, off, none⟩ : Addr).add j) = some u := by
  intro j u hj
  have hjl : j < xs.length := by
    rcases Nat.lt_or_ge j xs.length with h1 | h1
    · exact h1
    · rw [List.getElem?_eq_none h1] at hj; cases hj
  obtain ⟨g', off', e, hc⟩ := h (by intro e; rw [e] at hjl; simp at hjl)
  injection e with e
  injection e with e1 e2
  subst e1 e2
  have e : ((⟨g, off, none⟩ : Addr).add j) = ⟨g, off + j, none⟩ := by unfold Addr.add; split <;> simp_all
  rw [e, hc j hjl, hj]
end Go.Proofs.Ytjlfgfoalfiajaa

namespace Go.Proofs.Ytjlfgfoalfiajaa
open Go.RowKit

theorem bitLen_z6 : Lib.bitLen 0 = 0 := by decide
theorem bitLen_wid : ∀ x : Nat, x < 2 ^ 64 → Lib.bitLen x = Bm.wid x := by
  intro x
  induction x using Nat.strongRecOn with
  | ind x ih =>
    intro hx
    rcases Nat.eq_zero_or_pos x with h | h
    · subst h; rfl
    · rw [Lib.bitLen_half x (by omega) hx, ih (x / 2) (by omega) (by omega)]
      rcases Nat.eq_zero_or_pos (x / 2) with h1 | h1
      · rw [h1, show x = 1 by omega, Bm.wid_eq 1 0 (by simp) (by simp)]
        rfl
      · have h2 := Bm.wid_double (x / 2) h1 (x % 2) (by omega)
        rw [show 2 * (x / 2) + x % 2 = x by omega] at h2
        omega
set_option maxHeartbeats 400000 in
set_option maxRecDepth 100000 in
theorem rwidth_len (x : Nat) (w : World) (hx : x < 4294967296) :
    Calls Try.prog 25 #[.int .u32 (x : Int)] w fun e w' => e = .returned (.int .i64 (Lib.bitLen x : Int)) ∧ w = w' := by
  have hb := Lib.bitLen_le x 32 (by omega) (by omega)
  go_enter Try.func25, Try.ntmps25
  go_wp2
  go_loop [0, 3] (fun v n => ∃ y k : Nat, y ≤ x ∧ v = .int .u32 (y : Int) ∧ n = .int .i64 (k : Int) ∧ Hid (k + Lib.bitLen y = Lib.bitLen x)) (fun v _ => (intOf v).toNat)
  case atStart => exact ⟨x, 0, Nat.le_refl _, rfl, rfl, by unfold Hid; omega⟩
  case round =>
    obtain ⟨y, k, hy, rfl, rfl, hk⟩ := hrel
    have hk32 : k ≤ 32 := by have := hk.out; omega
    by_cases h0 : 0 < y
    · have hh : Lib.bitLen y = 1 + Lib.bitLen (y / 2) := Lib.bitLen_half y (by omega) (by omega)
      have Hh := Lib.hid hh
      clear hh
      go_wp2
      go_round
      case rel => exact ⟨y / 2, k + 1, by omega, by go_num, by go_num, by have h1 := hk.out; have h2 := Hh.out; unfold Hid; omega⟩
      case measure => simp [intOf]; omega
    · obtain rfl : y = 0 := by omega
      go_wp2
      go_ret
      exact ⟨congrArg Ending.returned (congrArg (Value.int .i64) (by have h1 := hk.out; rw [bitLen_z6] at h1; omega)), rfl⟩
theorem rwidth_wid (x : Nat) (w : World) (hx : x < 4294967296) :
    Calls Try.prog 25 #[.int .u32 (x : Int)] w fun e w' => e = .returned (.int .i64 (Bm.wid x : Int)) ∧ w = w' := by
  have h := rwidth_len x w hx
  rw [bitLen_wid x (by omega)] at h
  exact h
end Go.Proofs.Ytjlfgfoalfiajaa

namespace Go.Proofs.Ytjlfgfoalfiajaa
open Go.RowKit

theorem info_io : (Try.prog.info? 3).map (fun i => (i.zero, i.size, i.bytes)) = some (some (.int .i64 0), 1, 8) := by kernel_rfl
set_option maxHeartbeats 400000 in
set_option maxRecDepth 100000 in
theorem rof_bits (v n : Nat) (w : World) (hv : v < 4294967296) (hn : n ≤ 32) :
    Calls Try.prog 24 #[.int .u32 (v : Int), .int .i64 (n : Int)] w fun e w' =>
      ∃ u, e = .returned u ∧ w'.ownsRow w.heap.size 3 1 u n (i64s (Bm.bitsOf v n)) ∧ Below w.heap.size w w' ∧ (n = 0 → u = .slice none 0 0) := by
  obtain ⟨i0, hi, hz0, hz1, hz2⟩ := info_parts info_io
  go_enter Try.func24, Try.ntmps24
  go_wp2
  go_loopw [5, 6] (fun u i wr => ∃ k : Nat, k ≤ n ∧ i = .int .i64 k ∧ wr.ownsRow w.heap.size 3 1 u k (i64s (Bm.bitsOf v k)) ∧ Below w.heap.size w wr ∧ (k = 0 → u = .slice none 0 0)) (fun _ i _ => n - (intOf i).toNat)
  case atStart => exact ⟨0, Nat.zero_le _, rfl, World.ownsRow_nil _ _ _ _, Below.refl _ _, fun _ => rfl⟩
  case round =>
    obtain ⟨k, hk, rfl, hown, hbel, hnil⟩ := hrel
    have hb0 : 0 ≤ (v : Int) / 2 ^ k := Int.ediv_nonneg (by omega) (by exact_mod_cast Nat.zero_le (2 ^ k))
    have hb1 : (v : Int) / 2 ^ k ≤ 4294967295 := by
      have h1 : (v : Int) / 2 ^ k = ((v / 2 ^ k : Nat) : Int) := by simp
      have h2 := Nat.div_le_self v (2 ^ k)
      omega
    by_cases hlt : k < n
    · go_wp2_with (at_builtin; refine wpList_append_own _ rfl _ _ 22 rfl w.heap.size 3 i0 (.int .i64 0) 1 8 Try.underlying22 hi hz0 hz1 hz2 rfl (by decide) _ _ _ rfl (hown.alloc _) ⟨wr.heap.size, 0, none⟩ 1 1 [.int .i64 ((v : Int) / 2 ^ k % 2)] rfl rfl ?c1 ?c2 ?c3 ?c4 ?c5 ?_)
      case c1 =>
        intro j u hj
        match j, hj with
        | 0, hj => simp at hj; subst hj; simp [Addr.add]
      case c2 => intro u hu; simp at hu; subst hu; rfl
      case c3 => unfold maxLen; omega
      case c4 => omega
      case c5 => have := hbel.size; simp; omega
      intro u' w1 hown' hgrow _
      have e : i64s (Bm.bitsOf v k) ++ [Value.int .i64 ((v : Int) / 2 ^ k % 2)] = i64s (Bm.bitsOf v (k + 1)) := by
        rw [Bm.bitsOf_succ]; simp [i64s]
      rw [e] at hown'
      have hb' : Below w.heap.size w w1 := (hbel.alloc hbel.size _).grown hgrow (by have := hbel.size; simp; omega) (fun q hq => (hown.lt q hq).1)
      have Hown := Lib.hid hown'
      have Hb := Lib.hid hb'
      clear hown' hb' hgrow hown hbel e
      go_wp2
      go_roundw
      case rel => exact ⟨k + 1, by omega, by go_num, Hown.out, Hb.out, fun h => by omega⟩
      case measure => simp [intOf]; omega
    · go_wp2
      obtain rfl : k = n := by omega
      go_ret
      exact ⟨_, rfl, hown, hbel, hnil⟩

set_option maxHeartbeats 400000 in
set_option maxRecDepth 100000 in
theorem rnum_none (A : Option Addr) (c : Nat) (w : World) :
    Calls Try.prog 39 #[.slice A 0 c] w fun e w' => e = .returned (.int .u32 0) ∧ w = w' := by
  go_enter Try.func39, Try.ntmps39
  go_wp2
  go_loop [3, 4] (fun v i => v = .int .u32 0 ∧ i = .int .i64 (-1)) (fun _ _ => 0)
  case atStart => exact ⟨rfl, rfl⟩
  case round =>
    obtain ⟨rfl, rfl⟩ := hrel
    go_wp2
    go_ret
    exact ⟨rfl, rfl⟩

set_option maxHeartbeats 400000 in
set_option maxRecDepth 100000 in
theorem rnum_bits (g off n c N : Nat) (w : World) (hn : n ≤ 32) (hn0 : 0 < n) (hc : ∀ j, j < n → w.cell? ⟨g, off + j, none⟩ = some (.int .i64 ((N / 2 ^ j % 2 : Nat) : Int))) :
    Calls Try.prog 39 #[.slice (some ⟨g, off, none⟩) n c] w fun e w' => e = .returned (.int .u32 ((N % 2 ^ n : Nat) : Int)) ∧ w = w' := by
  have hx : N % 2 ^ n < 4294967296 := Nat.lt_of_lt_of_le (Nat.mod_lt _ (Nat.two_pow_pos n)) (Nat.pow_le_pow_right (n := 2) (by omega) hn)
  go_enter Try.func39, Try.ntmps39
  go_wp2
  go_loop [3, 4] (fun v i => ∃ k y : Nat, k ≤ n ∧ v = .int .u32 (y : Int) ∧ i = .int .i64 ((k : Int) - 1) ∧ Hid (y = N % 2 ^ n / 2 ^ k)) (fun _ i => (intOf i + 1).toNat)
  case atStart => exact ⟨n, 0, Nat.le_refl _, rfl, rfl, by unfold Hid; rw [Nat.div_eq_of_lt (Nat.mod_lt _ (Nat.two_pow_pos n))]⟩
  case round =>
    obtain ⟨k, y, hk, rfl, rfl, hy⟩ := hrel
    by_cases h0 : k = 0
    · subst h0
      have hf : Ending.returned (Value.int .u32 (y : Int)) = Ending.returned (Value.int .u32 ((N % 2 ^ n : Nat) : Int)) := by
        have h1 := hy.out
        rw [Nat.pow_zero, Nat.div_one] at h1
        rw [h1]
      have Hf := Lib.hid hf
      clear hc hf hy
      go_wp2
      go_ret
      exact ⟨Hf.out, rfl⟩
    · obtain ⟨j, rfl⟩ : ∃ j, k = j + 1 := ⟨k - 1, by omega⟩
      rw [show (((j + 1 : Nat) : Int) - 1) = (j : Int) by omega]
      have hcell := hc j (by omega)
      have ht : N / 2 ^ j % 2 ≤ 1 := by omega
      have hs : y * 2 + N / 2 ^ j % 2 = N % 2 ^ n / 2 ^ j := by
        have h1 := hy.out
        rw [← Bm.mod_digit N n j (by omega), h1, Nat.pow_succ, ← Nat.div_div_eq_div_mul]
        omega
      have hle : y * 2 + N / 2 ^ j % 2 ≤ 4294967295 := by
        have := Nat.div_le_self (N % 2 ^ n) (2 ^ j)
        omega
      have Hs := Lib.hid hs
      clear hs hc hy
      generalize N / 2 ^ j % 2 = t at hcell ht Hs hle
      go_wp2
      go_round
      case rel => exact ⟨j, y * 2 + t, by omega, by go_num, by go_num, Hs⟩
      case measure => simp [intOf]

end Go.Proofs.Ytjlfgfoalfiajaa

namespace Go.Proofs.Ytjlfgfoalfiajaa
open Go.RowKit

theorem info_u8 : (Try.prog.info? 5).map (fun i => (i.zero, i.size, i.bytes)) = some (some (.int .u8 0), 1, 1) := by kernel_rfl
theorem row_of_own {w : World} {base g n : Nat} (h : w.ownsRow base 5 1 (.slice (some ⟨g, 0, none⟩) n n) n (madeCells #[Value.int .u8 0] n).toList) : Row w g 5 (u8s (List.replicate n 0)) := by
  rcases h.2 with ⟨hv, _⟩ | ⟨g', cap, cur, hv, hb, hh, h1, h2, h3, h4⟩
  · cases hv
  · injection hv with e1 e2 e3
    injection e1 with e1
    injection e1 with e1
    subst e1 e3
    have e : cur.toList = u8s (List.replicate n 0) := by
      rw [List.take_of_length_le (by rw [Array.length_toList]; omega)] at h4
      rw [h4, toList_madeCells_one]
      simp only [u8s, List.map_replicate]
      rfl
    unfold Row
    rw [← e, Array.toArray_toList]
    exact hh
theorem conv_bytes (w : World) (A : Option Addr) (c : Nat) (bs : List Nat) (hbs : ∀ b ∈ bs, b < 256) (hr : Reads w A (u8s bs)) :
    (convert 23 9 (.slice A bs.length c)).run Try.prog w = .ok (.string (strOf bs)) w := by
  have key : ∀ a : Addr, (∀ j (hj : j < bs.length), w.cell? (a.add j) = some (.int .u8 (bs[j] : Int))) → (convert 23 9 (.slice (some a) bs.length c)).run Try.prog w = .ok (.string (strOf bs)) w := by
    intro a ha
    have h := run_convert_bytes_back (P := Try.prog) w 23 9 5 a c (bs.map UInt8.ofNat) Try.underlying23 Try.underlying5 Try.underlying9 (fun j hj => by
      have hj' : j < bs.length := by simpa using hj
      have hlt := hbs bs[j] (List.getElem_mem hj')
      rw [ha j hj', List.getElem_map, UInt8.toNat_ofNat_of_lt' hlt])
    rw [List.length_map] at h
    exact h
  rcases bs with _ | ⟨b, bs⟩
  · rcases A with _ | a
    · exact run_convert_bytes_nil w 23 5 Try.underlying23 Try.underlying5 0 c 9 Try.underlying9
    · exact key a (fun j hj => absurd hj (by simp))
  · obtain ⟨g, off, rfl, hc⟩ := reads_u8 hr (by simp)
    refine key _ (fun j hj => ?_)
    have e : ((⟨g, off, none⟩ : Addr).add j) = ⟨g, off + j, none⟩ := by unfold Addr.add; split <;> simp_all
    rw [e]
    exact hc j hj
theorem index_at (bs : List Nat) (i : Nat) (W : World) (hi : i < bs.length) (hlt : bs[i] < 256) : (Instr.index 9 (.string (strOf bs)) (.int .i64 (i : Int))).run Try.prog W = .ok (.int .u8 ((bs[i] : Nat) : Int)) W := by
  have hs := strOf_size bs
  rw [run_index_string W 9 (strOf bs) .i64 (i : Int) Try.underlying9, dif_pos ⟨by omega, by omega⟩]
  have e : (strOf bs)[i]'(by omega) = UInt8.ofNat bs[i] := by
    rw [ByteArray.getElem_eq_getElem_data]
    simp [strOf]
  simp only [Int.toNat_natCast, e]
  rw [UInt8.toNat_ofNat_of_lt' hlt]
theorem own_of_row {w : World} {base g : Nat} {l : List Nat} (h : Row w g 5 (u8s l)) (hb : base ≤ g) (hm : l.length ≤ 1000000000) : w.ownsRow base 5 1 (.slice (some ⟨g, 0, none⟩) l.length l.length) l.length (u8s l) :=
  ⟨by rw [u8s_length, Nat.mul_one], .inr ⟨g, l.length, (u8s l).toArray, rfl, hb, h, Nat.le_refl _, by unfold maxLen; omega, by simp [u8s_length], by rw [List.take_of_length_le (by simp [u8s_length])]⟩⟩
end Go.Proofs.Ytjlfgfoalfiajaa

namespace Go.Proofs.Ytjlfgfoalfiajaa
open Go.RowKit

theorem mask_eq (v n : Nat) (hv : v < 2 ^ 64) (hn : n < 64) : bits .and .u64 (v : Int) (IntKind.u64.wrap (IntKind.u64.wrap (2 ^ n) - 1)) = ((v % 2 ^ n : Nat) : Int) := by
  have hp : 2 ^ n < 2 ^ 64 := Nat.pow_lt_pow_right (by omega) hn
  have e : ((2 : Int) ^ n) = ((2 ^ n : Nat) : Int) := by simp
  have hpos := Nat.two_pow_pos n
  rw [e, u64_wrap _ hp, show ((2 ^ n : Nat) : Int) - 1 = ((2 ^ n - 1 : Nat) : Int) by omega, u64_wrap _ (by omega), u64_and_nat _ _ hv (by omega), Nat.and_two_pow_sub_one_eq_mod]

set_option maxHeartbeats 400000 in
set_option maxRecDepth 100000 in
theorem lowest_any (v n : Nat) (w : World) (hv : v < 2 ^ 64) (hn : n < 64) :
    Calls Try.prog 50 #[.int .u64 (v : Int), .int .i64 (n : Int)] w fun e w' => e = .returned (.int .u64 ((v % 2 ^ n : Nat) : Int)) ∧ w = w' := by
  have hm := mask_eq v n hv hn
  have Hm := Lib.hid hm
  clear hm hv
  go_enter Try.func50, Try.ntmps50
  go_wp2
  go_ret
  exact ⟨congrArg Ending.returned (congrArg (Value.int .u64) Hm.out), rfl⟩

set_option maxHeartbeats 400000 in
set_option maxRecDepth 100000 in
theorem len_any (b off : Nat) (n : Int) (w : World) (h : w.cell? ⟨b, off + 2, none⟩ = some (.int .i64 n)) :
    Calls Try.prog 52 #[.pointer (some ⟨b, off, none⟩)] w fun e w' => e = .returned (.int .i64 n) ∧ w = w' := by
  go_enter Try.func52, Try.ntmps52
  go_wp2
  go_ret
  exact ⟨rfl, rfl⟩

set_option maxHeartbeats 400000 in
set_option maxRecDepth 100000 in
theorem left_nil (w : World) : Calls Try.prog 63 #[.pointer none] w fun e w' => e = .returned (.int .i64 0) ∧ w = w' := by
  go_enter Try.func63, Try.ntmps63
  go_wp2
  go_ret
  exact ⟨rfl, rfl⟩

set_option maxHeartbeats 400000 in
set_option maxRecDepth 100000 in
theorem left_core (b off : Nat) (s : ByteArray) (n : Nat) (w : World) (hs : s.size ≤ 1000000000) (hn : n ≤ 8 * s.size) (h0 : w.cell? ⟨b, off, none⟩ = some (.string s)) (h : w.cell? ⟨b, off + 1, none⟩ = some (.int .i64 (n : Int))) :
    Calls Try.prog 63 #[.pointer (some ⟨b, off, none⟩)] w fun e w' => e = .returned (.int .i64 ((8 * s.size - n : Nat) : Int)) ∧ ∃ k, w' = w.drewN k := by
  have hx : (8 * (s.size : Int) - (n : Int)) = ((8 * s.size - n : Nat) : Int) := by omega
  have Hx := Lib.hid hx
  clear hx
  go_enter Try.func63, Try.ntmps63
  go_wp2
  go_quiet (fail)
  go_wp2
  go_ret
  exact ⟨congrArg Ending.returned (congrArg (Value.int .i64) Hx.out), _, rfl⟩
theorem left_any (b off : Nat) (bs : List Nat) (n : Nat) (w : World) (hs : bs.length ≤ 1000000000) (hn : n ≤ 8 * bs.length) (h : RS w b off bs n) :
    Calls Try.prog 63 #[.pointer (some ⟨b, off, none⟩)] w fun e w' => e = .returned (.int .i64 ((8 * bs.length - n : Nat) : Int)) ∧ ∃ k, w' = w.drewN k := by
  have h1 := left_core b off (strOf bs) n w (by rw [strOf_size]; exact hs) (by rw [strOf_size]; exact hn) h.1 h.2.1
  rw [strOf_size] at h1
  exact h1

set_option maxHeartbeats 400000 in
set_option maxRecDepth 100000 in
theorem take_nil (w : World) (n : Int) : Calls Try.prog 55 #[.pointer none, .int .i64 n] w fun e w' => e = .returned (.tuple #[.int .u32 0, .bool false]) ∧ w = w' := by
  go_enter Try.func55, Try.ntmps55
  go_wp2
  go_ret2
  exact ⟨rfl, rfl⟩

end Go.Proofs.Ytjlfgfoalfiajaa

namespace Go.Proofs.Ytjlfgfoalfiajaa
open Go.RowKit

set_option maxHeartbeats 400000 in
set_option maxRecDepth 100000 in
theorem put_false (a : Addr) (v m : Int) (w : World) (h : m < 0 ∨ 32 < m) :
    Calls Try.prog 28 #[.pointer (some a), .int .u32 v, .int .i64 m] w fun e w' => e = .returned (.bool false) ∧ w = w' := by
  rcases h with h | h
  · go_enter Try.func28, Try.ntmps28
    go_wp2
    go_ret
    exact ⟨rfl, rfl⟩
  · go_enter Try.func28, Try.ntmps28
    go_wp2
    go_ret
    exact ⟨rfl, rfl⟩

/-- The world behind a Put that fills no word. -/
theorem ws_low {w : World} {b off N n rest v m : Nat} {p : Option Addr} {us : List Nat} (hlow : n % 64 + m < 64)
    (h0 : w.cell? ⟨b, off, none⟩ = some (.pointer p)) (h1 : w.cell? ⟨b, off + 1, none⟩ = some (.int .u64 (rest : Int))) (h2 : w.cell? ⟨b, off + 2, none⟩ = some (.int .i64 (n : Int)))
    (f0 : w.frozen? ⟨b, off, none⟩ = false) (f1 : w.frozen? ⟨b, off + 1, none⟩ = false) (f2 : w.frozen? ⟨b, off + 2, none⟩ = false) (hn : NotT w b 90) (hc : Chain w p us) (hw : Bm.WOk N n rest us) :
    WS ((w.setCell ⟨b, off + 1, none⟩ (.int .u64 ((rest ||| v % 2 ^ m * 2 ^ (n % 64) % 2 ^ 64 : Nat) : Int))).setCell ⟨b, off + 2, none⟩ (.int .i64 ((n + m : Nat) : Int))) b off (N + v % 2 ^ m * 2 ^ n) (n + m) ∧
      w.grownBy ((w.setCell ⟨b, off + 1, none⟩ (.int .u64 ((rest ||| v % 2 ^ m * 2 ^ (n % 64) % 2 ^ 64 : Nat) : Int))).setCell ⟨b, off + 2, none⟩ (.int .i64 ((n + m : Nat) : Int))) (some b) := by
  have hg : w.grownBy ((w.setCell ⟨b, off + 1, none⟩ (.int .u64 ((rest ||| v % 2 ^ m * 2 ^ (n % 64) % 2 ^ 64 : Nat) : Int))).setCell ⟨b, off + 2, none⟩ (.int .i64 ((n + m : Nat) : Int))) (some b) :=
    grown_set (grown_set (grown_refl _ _) _ _) _ _
  refine ⟨⟨p, _, us, ?_, ?_, ?_, ?_, ?_, ?_, (hn.setCell _ _).setCell _ _, hc.keep (words_grown hg (fun g e => by injection e with e; subst e; exact hn)), hw.put_low v m hlow⟩, hg⟩
  · rw [World.cell?_setCell_other _ _ _ _ (by intro e; injection e with _ e _; omega), World.cell?_setCell_other _ _ _ _ (by intro e; injection e with _ e _; omega)]; exact h0
  · rw [World.cell?_setCell_other _ _ _ _ (by intro e; injection e with _ e _; omega), World.cell?_setCell_same _ _ _ h1]
  · rw [World.cell?_setCell_same _ _ _ (show _ = some (.int .i64 (n : Int)) from by rw [World.cell?_setCell_other _ _ _ _ (by intro e; injection e with _ e _; omega)]; exact h2)]
  · simpa using f0
  · simpa using f1
  · simpa using f2

set_option maxHeartbeats 400000 in
set_option maxRecDepth 100000 in
theorem put_low (b off N n : Nat) (v m : Nat) (w : World) (hn : n ≤ 1000000000) (hv : v < 4294967296) (hm : m ≤ 32) (hlow : n % 64 + m < 64) (h : WS w b off N n) :
    Calls Try.prog 28 #[.pointer (some ⟨b, off, none⟩), .int .u32 (v : Int), .int .i64 (m : Int)] w fun e w' => e = .returned (.bool true) ∧ WS w' b off (N + v % 2 ^ m * 2 ^ n) (n + m) ∧ w.grownBy w' (some b) := by
  obtain ⟨p, rest, us, h0, h1, h2, f0, f1, f2, hnt, hc, hw⟩ := h
  have hz := ws_low (v := v) (m := m) hlow h0 h1 h2 f0 f1 f2 hnt hc hw
  have Hz := Lib.hid hz
  have ho := or_val rest (v % 2 ^ m) (n % 64) hw.rest_lt
  have Ho := Lib.hid ho
  clear hz ho hc hw hnt f0
  go_enter Try.func28, Try.ntmps28
  go_wp2_with fail
  refine (lowest_any v m _ (by omega) (by omega)).mono ?_
  rintro e w' ⟨rfl, rfl⟩
  go_wp2
  go_region
  all_goals go_wp2
  go_ret
  rw [modpow, Ho.out, ← Int.natCast_add]
  exact ⟨rfl, Hz.out.1.drew, grown_drew Hz.out.2⟩

/-- The world behind a Put that fills a word: its four stores, and the new word. -/
def highW (w : World) (b off n rest x m : Nat) (p : Option Addr) : World :=
  ((((w.setCell ⟨b, off + 1, none⟩ (.int .u64 ((rest ||| x * 2 ^ (n % 64) % 2 ^ 64 : Nat) : Int))).setCell ⟨b, off + 2, none⟩ (.int .i64 ((n + m : Nat) : Int))).setCell ⟨b, off, none⟩ (.pointer (some ⟨w.heap.size, 0, none⟩))).setCell
    ⟨b, off + 1, none⟩ (.int .u64 ((x / 2 ^ (64 - n % 64) : Nat) : Int))).alloc (.cells #[.pointer p, .int .u64 ((rest ||| x * 2 ^ (n % 64) % 2 ^ 64 : Nat) : Int)] 90)
theorem ws_high {w : World} {b off N n rest v m : Nat} {p : Option Addr} {us : List Nat} (hm : m ≤ 32) (hge : 64 ≤ n % 64 + m)
    (h0 : w.cell? ⟨b, off, none⟩ = some (.pointer p)) (h1 : w.cell? ⟨b, off + 1, none⟩ = some (.int .u64 (rest : Int))) (h2 : w.cell? ⟨b, off + 2, none⟩ = some (.int .i64 (n : Int)))
    (f0 : w.frozen? ⟨b, off, none⟩ = false) (f1 : w.frozen? ⟨b, off + 1, none⟩ = false) (f2 : w.frozen? ⟨b, off + 2, none⟩ = false) (hn : NotT w b 90) (hc : Chain w p us) (hw : Bm.WOk N n rest us) :
    WS (highW w b off n rest (v % 2 ^ m) m p) b off (N + v % 2 ^ m * 2 ^ n) (n + m) ∧ w.grownBy (highW w b off n rest (v % 2 ^ m) m p) (some b) := by
  have hg0 : w.grownBy ((((w.setCell ⟨b, off + 1, none⟩ (.int .u64 ((rest ||| v % 2 ^ m * 2 ^ (n % 64) % 2 ^ 64 : Nat) : Int))).setCell ⟨b, off + 2, none⟩ (.int .i64 ((n + m : Nat) : Int))).setCell ⟨b, off, none⟩
      (.pointer (some ⟨w.heap.size, 0, none⟩))).setCell ⟨b, off + 1, none⟩ (.int .u64 ((v % 2 ^ m / 2 ^ (64 - n % 64) : Nat) : Int))) (some b) := grown_set (grown_set (grown_set (grown_set (grown_refl _ _) _ _) _ _) _ _) _ _
  have hs0 : ((((w.setCell ⟨b, off + 1, none⟩ (.int .u64 ((rest ||| v % 2 ^ m * 2 ^ (n % 64) % 2 ^ 64 : Nat) : Int))).setCell ⟨b, off + 2, none⟩ (.int .i64 ((n + m : Nat) : Int))).setCell ⟨b, off, none⟩
      (.pointer (some ⟨w.heap.size, 0, none⟩))).setCell ⟨b, off + 1, none⟩ (.int .u64 ((v % 2 ^ m / 2 ^ (64 - n % 64) : Nat) : Int))).heap.size = w.heap.size := by simp
  have hg : w.grownBy (highW w b off n rest (v % 2 ^ m) m p) (some b) := grown_alloc hg0 _
  have hb := hn.lt
  have hrow : Row (highW w b off n rest (v % 2 ^ m) m p) w.heap.size 90 [.pointer p, .int .u64 ((rest ||| v % 2 ^ m * 2 ^ (n % 64) % 2 ^ 64 : Nat) : Int)] := by
    have := Row.new ((((w.setCell ⟨b, off + 1, none⟩ (.int .u64 ((rest ||| v % 2 ^ m * 2 ^ (n % 64) % 2 ^ 64 : Nat) : Int))).setCell ⟨b, off + 2, none⟩ (.int .i64 ((n + m : Nat) : Int))).setCell ⟨b, off, none⟩
      (.pointer (some ⟨w.heap.size, 0, none⟩))).setCell ⟨b, off + 1, none⟩ (.int .u64 ((v % 2 ^ m / 2 ^ (64 - n % 64) : Nat) : Int))) 90 [.pointer p, .int .u64 ((rest ||| v % 2 ^ m * 2 ^ (n % 64) % 2 ^ 64 : Nat) : Int)]
    rw [hs0] at this
    exact this
  have ne1 : (⟨b, off + 1, none⟩ : Addr) ≠ ⟨b, off, none⟩ := by intro e; injection e with _ e _; omega
  have ne2 : (⟨b, off + 2, none⟩ : Addr) ≠ ⟨b, off, none⟩ := by intro e; injection e with _ e _; omega
  have ne3 : (⟨b, off + 2, none⟩ : Addr) ≠ ⟨b, off + 1, none⟩ := by intro e; injection e with _ e _; omega
  refine ⟨⟨some ⟨w.heap.size, 0, none⟩, _, _ :: us, ?_, ?_, ?_, ?_, ?_, ?_, ((((hn.setCell _ _).setCell _ _).setCell _ _).setCell _ _).alloc _, ⟨_, p, rfl, hrow, hc.keep (words_grown hg (fun g e => by injection e with e; subst e; exact hn))⟩, hw.put_high v m hm hge⟩, hg⟩ <;>
    unfold highW
  · rw [World.cell?_alloc_lt _ _ _ (by simpa using hb), World.cell?_setCell_other _ _ _ _ ne1]
    exact World.cell?_setCell_same _ _ _ (u := .pointer p) (by rw [World.cell?_setCell_other _ _ _ _ ne2, World.cell?_setCell_other _ _ _ _ ne1]; exact h0)
  · rw [World.cell?_alloc_lt _ _ _ (by simpa using hb)]
    exact World.cell?_setCell_same _ _ _ (u := .int .u64 ((rest ||| v % 2 ^ m * 2 ^ (n % 64) % 2 ^ 64 : Nat) : Int)) (by
      rw [World.cell?_setCell_other _ _ _ _ ne1.symm, World.cell?_setCell_other _ _ _ _ ne3]; exact World.cell?_setCell_same _ _ _ h1)
  · rw [World.cell?_alloc_lt _ _ _ (by simpa using hb), World.cell?_setCell_other _ _ _ _ ne3.symm, World.cell?_setCell_other _ _ _ _ ne2.symm]
    exact World.cell?_setCell_same _ _ _ (u := .int .i64 (n : Int)) (by rw [World.cell?_setCell_other _ _ _ _ ne3.symm]; exact h2)
  · rw [World.frozen?_alloc_past _ _ _ (by simpa using hb)]; simpa using f0
  · rw [World.frozen?_alloc_past _ _ _ (by simpa using hb)]; simpa using f1
  · rw [World.frozen?_alloc_past _ _ _ (by simpa using hb)]; simpa using f2

set_option maxHeartbeats 1000000 in
set_option maxRecDepth 100000 in
theorem put_high (b off N n : Nat) (v m : Nat) (w : World) (hn : n ≤ 1000000000) (hv : v < 4294967296) (hm : m ≤ 32) (hge : 64 ≤ n % 64 + m) (h : WS w b off N n) :
    Calls Try.prog 28 #[.pointer (some ⟨b, off, none⟩), .int .u32 (v : Int), .int .i64 (m : Int)] w fun e w' => e = .returned (.bool true) ∧ WS w' b off (N + v % 2 ^ m * 2 ^ n) (n + m) ∧ w.grownBy w' (some b) := by
  obtain ⟨p, rest, us, h0, h1, h2, f0, f1, f2, hnt, hc, hw⟩ := h
  have hz := ws_high (v := v) (m := m) hm hge h0 h1 h2 f0 f1 f2 hnt hc hw
  have Hz := Lib.hid hz
  have ho := or_val rest (v % 2 ^ m) (n % 64) hw.rest_lt
  have Ho := Lib.hid ho
  have hb := hnt.lt
  have hd : ((v % 2 ^ m : Nat) : Int) / 2 ^ (64 - n % 64) = ((v % 2 ^ m / 2 ^ (64 - n % 64) : Nat) : Int) := by simp
  have Hd := Lib.hid hd
  clear hz ho hc hw hnt hd
  go_enter Try.func28, Try.ntmps28
  go_wp2_with fail
  refine (lowest_any v m _ (by omega) (by omega)).mono ?_
  rintro e w' ⟨rfl, rfl⟩
  go_wp2
  go_region
  all_goals go_wp2
  go_region
  all_goals go_wp2
  go_ret
  rw [modpow, Ho.out, Hd.out, ← Int.natCast_add]
  exact ⟨rfl, Hz.out.1.drew.drew, grown_drew (grown_drew Hz.out.2)⟩

/-- Put of 0 to 32 bits: they are behind those that were there; no other block has changed but by new ones. -/
theorem put_true (b off N n : Nat) (v m : Nat) (w : World) (hn : n ≤ 1000000000) (hv : v < 4294967296) (hm : m ≤ 32) (h : WS w b off N n) :
    Calls Try.prog 28 #[.pointer (some ⟨b, off, none⟩), .int .u32 (v : Int), .int .i64 (m : Int)] w fun e w' => e = .returned (.bool true) ∧ WS w' b off (N + v % 2 ^ m * 2 ^ n) (n + m) ∧ w.grownBy w' (some b) := by
  by_cases hl : n % 64 + m < 64
  · exact put_low b off N n v m w hn hv hm hl h
  · exact put_high b off N n v m w hn hv hm (by omega) h
end Go.Proofs.Ytjlfgfoalfiajaa

namespace Go.Proofs.Ytjlfgfoalfiajaa
open Go.RowKit

theorem info_int : (Try.prog.info? 3).map (fun i => (i.zero, i.size, i.bytes)) = some (some (.int .i64 0), 1, 8) := by kernel_rfl
set_option maxHeartbeats 400000 in
set_option maxRecDepth 100000 in
theorem rof_any (v n : Nat) (w : World) (hv : v < 4294967296) (hn : n ≤ 32) :
    Calls Try.prog 24 #[.int .u32 (v : Int), .int .i64 (n : Int)] w fun e w' =>
      ∃ u, e = .returned u ∧ w'.ownsRow w.heap.size 3 1 u n (i64s (Bm.bitsOf v n)) ∧ Below w.heap.size w w' ∧ (n = 0 → u = .slice none 0 0) := by
  obtain ⟨i0, hi, hz0, hz1, hz2⟩ := info_parts info_int
  go_enter Try.func24, Try.ntmps24
  go_wp2
  go_loopw [5, 6] (fun u i wr => ∃ k : Nat, k ≤ n ∧ i = .int .i64 k ∧ wr.ownsRow w.heap.size 3 1 u k (i64s (Bm.bitsOf v k)) ∧ Below w.heap.size w wr ∧ (k = 0 → u = .slice none 0 0)) (fun _ i _ => n - (intOf i).toNat)
  case atStart => exact ⟨0, Nat.zero_le _, rfl, World.ownsRow_nil _ _ _ _, Below.refl _ _, fun _ => rfl⟩
  case round =>
    obtain ⟨k, hk, rfl, hown, hbel, hnil⟩ := hrel
    have hb0 : 0 ≤ (v : Int) / 2 ^ k := Int.ediv_nonneg (by omega) (by exact_mod_cast Nat.zero_le (2 ^ k))
    have hb1 : (v : Int) / 2 ^ k ≤ 4294967295 := by
      have h1 : (v : Int) / 2 ^ k = ((v / 2 ^ k : Nat) : Int) := by simp
      have h2 := Nat.div_le_self v (2 ^ k)
      omega
    by_cases hlt : k < n
    · go_wp2_with (at_builtin; refine wpList_append_own _ rfl _ _ 22 rfl w.heap.size 3 i0 (.int .i64 0) 1 8 Try.underlying22 hi hz0 hz1 hz2 rfl (by decide) _ _ _ rfl (hown.alloc _) ⟨wr.heap.size, 0, none⟩ 1 1 [.int .i64 ((v : Int) / 2 ^ k % 2)] rfl rfl ?c1 ?c2 ?c3 ?c4 ?c5 ?_)
      case c1 =>
        intro j u hj
        match j, hj with
        | 0, hj => simp at hj; subst hj; simp [Addr.add]
      case c2 => intro u hu; simp at hu; subst hu; rfl
      case c3 => unfold maxLen; omega
      case c4 => omega
      case c5 => have := hbel.size; simp; omega
      intro u' w1 hown' hgrow _
      have e : i64s (Bm.bitsOf v k) ++ [Value.int .i64 ((v : Int) / 2 ^ k % 2)] = i64s (Bm.bitsOf v (k + 1)) := by
        rw [Bm.bitsOf_succ]; simp [i64s]
      rw [e] at hown'
      have hb' : Below w.heap.size w w1 := (hbel.alloc hbel.size _).grown hgrow (by have := hbel.size; simp; omega) (fun q hq => (hown.lt q hq).1)
      have Hown := Lib.hid hown'
      have Hb := Lib.hid hb'
      clear hown' hb' hgrow hown hbel e
      go_wp2
      go_roundw
      case rel => exact ⟨k + 1, by omega, by go_num, Hown.out, Hb.out, fun h => by omega⟩
      case measure => simp [intOf]; omega
    · go_wp2
      obtain rfl : k = n := by omega
      go_ret
      exact ⟨_, rfl, hown, hbel, hnil⟩

theorem reads_i64 {w : World} {A : Option Addr} {l : List Nat} (h : Reads w A (i64s l)) (hne : l ≠ []) : ∃ g off, A = some ⟨g, off, none⟩ ∧ ∀ j (hj : j < l.length), w.cell? ⟨g, off + j, none⟩ = some (.int .i64 (l[j] : Int)) := by
  obtain ⟨g, off, e, hc⟩ := h (by simpa [i64s] using hne)
  exact ⟨g, off, e, fun j hj => by rw [hc j (by simpa [i64s] using hj), i64s_get? l j hj]⟩
set_option maxHeartbeats 400000 in
set_option maxRecDepth 100000 in
theorem rnum_nil (A : Option Addr) (c : Nat) (w : World) :
    Calls Try.prog 39 #[.slice A 0 c] w fun e w' => e = .returned (.int .u32 0) ∧ w = w' := by
  go_enter Try.func39, Try.ntmps39
  go_wp2
  go_loop [3, 4] (fun v i => v = .int .u32 0 ∧ i = .int .i64 (-1)) (fun _ _ => 0)
  case atStart => exact ⟨rfl, rfl⟩
  case round =>
    obtain ⟨rfl, rfl⟩ := hrel
    go_wp2
    go_ret
    exact ⟨rfl, rfl⟩

set_option maxHeartbeats 400000 in
set_option maxRecDepth 100000 in
theorem rnum_some (g off n c N : Nat) (w : World) (hn : n ≤ 32) (hn0 : 0 < n) (hc : ∀ j, j < n → w.cell? ⟨g, off + j, none⟩ = some (.int .i64 ((N / 2 ^ j % 2 : Nat) : Int))) :
    Calls Try.prog 39 #[.slice (some ⟨g, off, none⟩) n c] w fun e w' => e = .returned (.int .u32 ((N % 2 ^ n : Nat) : Int)) ∧ w = w' := by
  have hx : N % 2 ^ n < 4294967296 := Nat.lt_of_lt_of_le (Nat.mod_lt _ (Nat.two_pow_pos n)) (Nat.pow_le_pow_right (n := 2) (by omega) hn)
  go_enter Try.func39, Try.ntmps39
  go_wp2
  go_loop [3, 4] (fun v i => ∃ k y : Nat, k ≤ n ∧ v = .int .u32 (y : Int) ∧ i = .int .i64 ((k : Int) - 1) ∧ Hid (y = N % 2 ^ n / 2 ^ k)) (fun _ i => (intOf i + 1).toNat)
  case atStart => exact ⟨n, 0, Nat.le_refl _, rfl, rfl, by unfold Hid; rw [Nat.div_eq_of_lt (Nat.mod_lt _ (Nat.two_pow_pos n))]⟩
  case round =>
    obtain ⟨k, y, hk, rfl, rfl, hy⟩ := hrel
    by_cases h0 : k = 0
    · subst h0
      have hf : Ending.returned (Value.int .u32 (y : Int)) = Ending.returned (Value.int .u32 ((N % 2 ^ n : Nat) : Int)) := by
        have h1 := hy.out
        rw [Nat.pow_zero, Nat.div_one] at h1
        rw [h1]
      have Hf := Lib.hid hf
      clear hc hf hy
      go_wp2
      go_ret
      exact ⟨Hf.out, rfl⟩
    · obtain ⟨j, rfl⟩ : ∃ j, k = j + 1 := ⟨k - 1, by omega⟩
      rw [show (((j + 1 : Nat) : Int) - 1) = (j : Int) by omega]
      have hcell := hc j (by omega)
      have ht : N / 2 ^ j % 2 ≤ 1 := by omega
      have hs : y * 2 + N / 2 ^ j % 2 = N % 2 ^ n / 2 ^ j := by
        have h1 := hy.out
        rw [← Bm.mod_digit N n j (by omega), h1, Nat.pow_succ, ← Nat.div_div_eq_div_mul]
        omega
      have hle : y * 2 + N / 2 ^ j % 2 ≤ 4294967295 := by
        have := Nat.div_le_self (N % 2 ^ n) (2 ^ j)
        omega
      have Hs := Lib.hid hs
      clear hs hc hy
      generalize N / 2 ^ j % 2 = t at hcell ht Hs hle
      go_wp2
      go_round
      case rel => exact ⟨j, y * 2 + t, by omega, by go_num, by go_num, Hs⟩
      case measure => simp [intOf]

theorem bit_val (N k : Nat) : bits .or .u8 ((N : Int) % 2 ^ k / 256 ^ (k / 8) % 256) (2 ^ (k % 8) % 256) = ((N % 2 ^ k / 256 ^ (k / 8) % 256 + 2 ^ (k % 8) : Nat) : Int) := by
  have hM : N % 2 ^ k < 2 ^ k := Nat.mod_lt _ (Nat.two_pow_pos k)
  have h1 : N % 2 ^ k / 256 ^ (k / 8) < 2 ^ (k % 8) := by
    rw [Bm.p256, Nat.div_lt_iff_lt_mul (Nat.two_pow_pos _), ← Nat.pow_add, show k % 8 + 8 * (k / 8) = k by omega]
    exact hM
  have h2 : 2 ^ (k % 8) ≤ 128 := Nat.pow_le_pow_right (n := 2) (j := 7) (by omega) (by omega)
  have e1 : (N : Int) % 2 ^ k / 256 ^ (k / 8) % 256 = ((N % 2 ^ k / 256 ^ (k / 8) % 256 : Nat) : Int) := by simp
  have e2 : (2 : Int) ^ (k % 8) = ((2 ^ (k % 8) : Nat) : Int) := by simp
  have h4 := Bm.or_sum (k % 8) (N % 2 ^ k / 256 ^ (k / 8)) 1 h1
  rw [Nat.one_mul] at h4
  rw [e1, e2]
  generalize N % 2 ^ k / 256 ^ (k / 8) = x at h1 h4 ⊢
  generalize 2 ^ (k % 8) = y at h1 h2 h4 ⊢
  rw [show ((y : Nat) : Int) % 256 = ((y : Nat) : Int) by omega, Nat.mod_eq_of_lt (show x < 256 by omega), u8_or_nat _ _ (by omega) (by omega), h4]

/-- The reference's Bytes: the byte of bit k has been stored with it. -/
theorem own_bit {w : World} {base b cap N k : Nat} (h : w.ownsRow base 5 1 (.slice (some ⟨b, 0, none⟩) (k / 8 + 1) cap) (k / 8 + 1) (u8s (Bm.bytesOf (N % 2 ^ k) (k / 8 + 1)))) (ht : N / 2 ^ k % 2 = 1) :
    (w.setCell ⟨b, k / 8, none⟩ (.int .u8 (bits .or .u8 ((N : Int) % 2 ^ k / 256 ^ (k / 8) % 256) (2 ^ (k % 8) % 256)))).drew.ownsRow base 5 1 (.slice (some ⟨b, 0, none⟩) (k / 8 + 1) cap) ((k + 1 + 7) / 8) (u8s (Bm.bytesOf (N % 2 ^ (k + 1)) ((k + 1 + 7) / 8))) := by
  have h1 := h.stored (k / 8) (.int .u8 ((N % 2 ^ k / 256 ^ (k / 8) % 256 + 2 ^ (k % 8) : Nat) : Int))
  have hM : N % 2 ^ k < 2 ^ (8 * (k / 8) + k % 8) := by
    rw [show 8 * (k / 8) + k % 8 = k by omega]
    exact Nat.mod_lt _ (Nat.two_pow_pos k)
  rw [u8s_set, Bm.bytesOf_bit _ _ _ (by omega) hM] at h1
  have h2 := Bm.mod_succ N k
  rw [ht, Nat.one_mul] at h2
  rw [bit_val, show (k + 1 + 7) / 8 = k / 8 + 1 by omega, h2]
  rw [show 8 * (k / 8) + k % 8 = k by omega] at h1
  exact h1.1
theorem own_nobit {w : World} {base N k : Nat} {u : Value} (h : w.ownsRow base 5 1 u (k / 8 + 1) (u8s (Bm.bytesOf (N % 2 ^ k) (k / 8 + 1)))) (ht : N / 2 ^ k % 2 = 0) :
    w.ownsRow base 5 1 u ((k + 1 + 7) / 8) (u8s (Bm.bytesOf (N % 2 ^ (k + 1)) ((k + 1 + 7) / 8))) := by
  have h2 := Bm.mod_succ N k
  rw [ht, Nat.zero_mul, Nat.add_zero] at h2
  rw [show (k + 1 + 7) / 8 = k / 8 + 1 by omega, h2]
  exact h
theorem own_push {w : World} {base N k : Nat} {u : Value} (h8 : k % 8 = 0) (h : w.ownsRow base 5 1 u (k / 8 + 1) (u8s (Bm.bytesOf (N % 2 ^ k) (k / 8)) ++ [.int .u8 0])) :
    w.ownsRow base 5 1 u (k / 8 + 1) (u8s (Bm.bytesOf (N % 2 ^ k) (k / 8 + 1))) := by
  rw [← Bm.bytesOf_push _ _ (by rw [show 8 * (k / 8) = k by omega]; exact Nat.mod_lt _ (Nat.two_pow_pos k))]
  have e : u8s (Bm.bytesOf (N % 2 ^ k) (k / 8) ++ [0]) = u8s (Bm.bytesOf (N % 2 ^ k) (k / 8)) ++ [.int .u8 0] := by simp [u8s]
  rw [e]
  exact h

set_option maxHeartbeats 1000000 in
set_option maxRecDepth 100000 in
theorem rbytes_any (A : Option Addr) (n c N : Nat) (w : World) (hn : n ≤ 1000000) (hN : N < 2 ^ n) (hr : Reads w A (i64s (Bm.bitsOf N n))) (hA : ∀ a, A = some a → 0 < n → a.block < w.heap.size) :
    Calls Try.prog 37 #[.slice A n c] w fun e w' =>
      ∃ u, e = .returned u ∧ w'.ownsRow w.heap.size 5 1 u ((n + 7) / 8) (u8s (Bm.bytesOf N ((n + 7) / 8))) ∧ Below w.heap.size w w' := by
  obtain ⟨i0, hi, hz0, hz1, hz2⟩ := info_parts info_u8
  have hcells : ∀ k, k < n → ∃ g off, A = some ⟨g, off, none⟩ ∧ g < w.heap.size ∧ w.cell? ⟨g, off + k, none⟩ = some (.int .i64 ((N / 2 ^ k % 2 : Nat) : Int)) := by
    intro k hk
    obtain ⟨g, off, e, hc⟩ := reads_i64 hr (by intro h; have := Bm.bitsOf_length N n; rw [h] at this; simp at this; omega)
    refine ⟨g, off, e, hA _ e (by omega), ?_⟩
    rw [hc k (by rw [Bm.bitsOf_length]; exact hk), Bm.bitsOf_get]
  have Hcells := Lib.hid hcells
  have HN : Hid (N % 2 ^ n = N) := Nat.mod_eq_of_lt hN
  clear hcells hr hA hN
  go_enter Try.func37, Try.ntmps37
  go_wp2
  go_loopw [3, 4] (fun u i wr => ∃ k : Nat, k ≤ n ∧ i = .int .i64 k ∧ wr.ownsRow w.heap.size 5 1 u ((k + 7) / 8) (u8s (Bm.bytesOf (N % 2 ^ k) ((k + 7) / 8))) ∧ Below w.heap.size w wr) (fun _ i _ => n - (intOf i).toNat)
  case atStart => exact ⟨0, Nat.zero_le _, rfl, World.ownsRow_nil _ _ _ _, Below.refl _ _⟩
  case round =>
    obtain ⟨k, hk, rfl, hown, hbel⟩ := hrel
    by_cases hlt : k < n
    · obtain ⟨g, off, rfl, hg, hc0⟩ := Hcells.out k hlt
      have hc : wr.cell? ⟨g, off + k, none⟩ = some (.int .i64 ((N / 2 ^ k % 2 : Nat) : Int)) := (hbel.cell (p := ⟨g, off + k, none⟩) hg).trans hc0
      clear hc0 Hcells HN
      by_cases h8 : k % 8 = 0
      · rw [show (k + 7) / 8 = k / 8 by omega] at hown
        have h8b : ((k : Int) % 8 == 0) = true := by simp; omega
        have H8 := Lib.hid h8
        have hkq : k / 8 ≤ 1000000 := by omega
        clear h8
        rcases (show N / 2 ^ k % 2 = 0 ∨ N / 2 ^ k % 2 = 1 by omega) with ht | ht
        all_goals
          rw [ht] at hc
          have Ht := Lib.hid ht
          clear ht
          go_wp2_with (at_builtin; refine wpList_append_own _ rfl _ _ 23 rfl w.heap.size 5 i0 (.int .u8 0) 1 1 Try.underlying23 hi hz0 hz1 hz2 rfl (by decide) _ _ _ rfl (hown.alloc _) ⟨wr.heap.size, 0, none⟩ 1 1 [.int .u8 0] rfl rfl ?c1 ?c2 ?c3 ?c4 ?c5 ?_)
          case c1 =>
            intro j u hj
            match j, hj with
            | 0, hj => simp at hj; subst hj; simp [Addr.add]
          case c2 => intro u hu; simp at hu; subst hu; rfl
          case c3 => unfold maxLen; omega
          case c4 => omega
          case c5 => have := hbel.size; simp; omega
          intro u' w1 hown' hgrow _
          have hb' : Below w.heap.size w w1 := (hbel.alloc hbel.size _).grown hgrow (by have := hbel.size; simp; omega) (fun q hq => (hown.lt q hq).1)
          have hcx : w1.cell? ⟨g, off + k, none⟩ = wr.cell? ⟨g, off + k, none⟩ := (hb'.cell (p := ⟨g, off + k, none⟩) hg).trans (hbel.cell (p := ⟨g, off + k, none⟩) hg).symm
          rw [hc] at hcx
          have hown1 := own_push H8.out hown'
          obtain ⟨b, cap, hu, hb, hbl⟩ := own_form hown1 (by omega)
          rw [hu] at hown1 ⊢
          have hcell := hown1.cellAt (k / 8) (by omega)
          rw [u8s_get? _ _ (by rw [Bm.bytesOf_length]; omega), Bm.bytesOf_get] at hcell
          have hfree := hown1.frozenAt (k / 8)
          have Hown := Lib.hid hown1
          have Hb := Lib.hid hb'
          clear hown1 hb' hgrow hown' hbel hown hc
        · go_wp2
          go_roundw
          case rel => exact ⟨k + 1, by omega, by go_num, own_nobit Hown.out Ht.out, Hb.out⟩
          case measure => simp [intOf]; omega
        · go_wp2
          go_region
          all_goals go_wp2
          go_roundw
          case rel => exact ⟨k + 1, by omega, by go_num, own_bit Hown.out Ht.out, (Hb.out.setCell hb _).drew⟩
          case measure => simp [intOf]; omega
      · rw [show (k + 7) / 8 = k / 8 + 1 by omega] at hown
        obtain ⟨b, cap, hu, hb, hbl⟩ := own_form hown (by omega)
        have h8b : ((k : Int) % 8 == 0) = false := by simp; omega
        rw [hu] at hown ⊢
        have hcell := hown.cellAt (k / 8) (by omega)
        rw [u8s_get? _ _ (by rw [Bm.bytesOf_length]; omega), Bm.bytesOf_get] at hcell
        have hfree := hown.frozenAt (k / 8)
        have Hown := Lib.hid hown
        have Hb := Lib.hid hbel
        clear h8 hown hbel
        rcases (show N / 2 ^ k % 2 = 0 ∨ N / 2 ^ k % 2 = 1 by omega) with ht | ht
        · rw [ht] at hc
          have Ht := Lib.hid ht
          clear ht
          go_wp2
          go_roundw
          case rel => exact ⟨k + 1, by omega, by go_num, own_nobit Hown.out Ht.out, Hb.out⟩
          case measure => simp [intOf]; omega
        · rw [ht] at hc
          have Ht := Lib.hid ht
          clear ht
          go_wp2
          go_region
          all_goals go_wp2
          go_roundw
          case rel => exact ⟨k + 1, by omega, by go_num, own_bit Hown.out Ht.out, (Hb.out.setCell hb _).drew⟩
          case measure => simp [intOf]; omega
    · obtain rfl : k = n := by omega
      rw [HN.out] at hown
      go_wp2
      go_ret
      exact ⟨_, rfl, hown, hbel⟩

theorem rof_8 (v : Nat) (w : World) (hv : v < 4294967296) :
    Calls Try.prog 24 #[.int .u32 (v : Int), .int .i64 8] w fun e w' =>
      ∃ u, e = .returned u ∧ w'.ownsRow w.heap.size 3 1 u 8 (i64s (Bm.bitsOf v 8)) ∧ Below w.heap.size w w' ∧ (8 = 0 → u = .slice none 0 0) := rof_any v 8 w hv (by omega)

set_option maxHeartbeats 1000000 in
set_option maxRecDepth 100000 in
theorem rbits_any (A : Option Addr) (c : Nat) (bs : List Nat) (w : World) (hn : bs.length ≤ 100000) (hbs : ∀ b ∈ bs, b < 256) (hr : Reads w A (u8s bs)) (hA : ∀ a, A = some a → 0 < bs.length → a.block < w.heap.size) :
    Calls Try.prog 58 #[.slice A bs.length c] w fun e w' =>
      ∃ u, e = .returned u ∧ w'.ownsRow w.heap.size 3 1 u (8 * bs.length) (i64s (Bm.bitsOf (Bm.valB bs) (8 * bs.length))) ∧ Below w.heap.size w w' := by
  obtain ⟨i0, hi, hz0, hz1, hz2⟩ := info_parts info_int
  have hcells : ∀ k, (hk : k < bs.length) → ∃ g off, A = some ⟨g, off, none⟩ ∧ g < w.heap.size ∧ w.cell? ⟨g, off + k, none⟩ = some (.int .u8 ((bs[k] : Nat) : Int)) := by
    intro k hk
    obtain ⟨g, off, e, hc⟩ := reads_u8 hr (by intro h; rw [h] at hk; simp at hk)
    exact ⟨g, off, e, hA _ e (by omega), hc k hk⟩
  have Hcells := Lib.hid hcells
  have Hbs := Lib.hid hbs
  clear hcells hr hA hbs
  go_enter Try.func58, Try.ntmps58
  go_wp2
  go_loopw [3, 4] (fun u i wr => ∃ k : Nat, k ≤ bs.length ∧ i = .int .i64 k ∧ wr.ownsRow w.heap.size 3 1 u (8 * k) (i64s (Bm.bitsOf (Bm.valB (bs.take k)) (8 * k))) ∧ Below w.heap.size w wr) (fun _ i _ => bs.length - (intOf i).toNat)
  case atStart => exact ⟨0, Nat.zero_le _, rfl, World.ownsRow_nil _ _ _ _, Below.refl _ _⟩
  case round =>
    obtain ⟨k, hk, rfl, hown, hbel⟩ := hrel
    by_cases hlt : k < bs.length
    · obtain ⟨g, off, rfl, hg, hc0⟩ := Hcells.out k hlt
      have hc : wr.cell? ⟨g, off + k, none⟩ = some (.int .u8 ((bs[k] : Nat) : Int)) := (hbel.cell (p := ⟨g, off + k, none⟩) hg).trans hc0
      have hb8 := Hbs.out bs[k] (List.getElem_mem hlt)
      have hstep := Bm.bits_byte (bs.take k) bs[k] (fun x hx => Hbs.out x (List.mem_of_mem_take hx)) hb8
      rw [List.length_take, Nat.min_eq_left (Nat.le_of_lt hlt), ← List.take_succ_eq_append_getElem hlt] at hstep
      have Hstep := Lib.hid hstep
      clear hc0 Hcells Hbs hstep
      generalize bs[k] = x at hc hb8 Hstep
      go_wp2_with fail
      refine (rof_8 x _ (by omega)).mono ?_
      rintro e w1 ⟨u', rfl, hu, hb1, _⟩
      obtain ⟨g1, cap1, hform, _, _⟩ := own_form hu (by omega)
      have hnews : ∀ j q, (i64s (Bm.bitsOf x 8))[j]? = some q → w1.cell? ((⟨g1, 0, none⟩ : Addr).add j) = some q := hu.cells (by rw [hform]; rfl)
      have hown1 := own_below hown hb1
      rw [hform]
      have hbel1 : Below w.heap.size w w1 := hbel.trans (hb1.mono hbel.size)
      clear hform hu hown hbel hc
      go_wp2_with (at_builtin; refine wpList_append_own _ rfl _ _ 22 rfl w.heap.size 3 i0 (.int .i64 0) 1 8 Try.underlying22 hi hz0 hz1 hz2 rfl (by decide) _ _ _ rfl hown1 ⟨g1, 0, none⟩ 8 cap1 (i64s (Bm.bitsOf x 8)) rfl ?c0 hnews ?c2 ?c3 ?c4 ?c5 ?_)
      case c0 => simp [i64s_length, Bm.bitsOf_length]
      case c2 => intro u hu; simp [i64s] at hu; obtain ⟨a, _, rfl⟩ := hu; rfl
      case c3 => unfold maxLen; omega
      case c4 => omega
      case c5 => exact hbel1.size
      intro u2 w2 hown' hgrow _
      rw [i64s_append, Hstep.out, show 8 * k + 8 = 8 * (k + 1) by omega] at hown'
      have hb' : Below w.heap.size w w2 := hbel1.grown hgrow hbel1.size (fun q hq => (hown1.lt q hq).1)
      have Hown := Lib.hid hown'
      have Hb := Lib.hid hb'
      clear hown' hb' hgrow hown1 hbel1 hnews
      go_wp2
      go_roundw
      case rel => exact ⟨k + 1, by omega, by go_num, Hown.out, Hb.out⟩
      case measure => simp [intOf]; omega
    · obtain rfl : k = bs.length := by omega
      rw [List.take_length] at hown
      go_wp2
      go_ret
      exact ⟨_, rfl, hown, hbel⟩

theorem rbits_n (A : Option Addr) (n c : Nat) (bs : List Nat) (w : World) (hl : bs.length = n) (hn : n ≤ 100000) (hbs : ∀ b ∈ bs, b < 256) (hr : Reads w A (u8s bs)) (hA : ∀ a, A = some a → 0 < n → a.block < w.heap.size) :
    Calls Try.prog 58 #[.slice A n c] w fun e w' =>
      ∃ u, e = .returned u ∧ w'.ownsRow w.heap.size 3 1 u (8 * n) (i64s (Bm.bitsOf (Bm.valB bs) (8 * n))) ∧ Below w.heap.size w w' := by
  subst hl
  exact rbits_any A c bs w hn hbs hr hA
end Go.Proofs.Ytjlfgfoalfiajaa

namespace Go.Proofs.Ytjlfgfoalfiajaa
open Go.RowKit

theorem strOf_append (a b : List Nat) : strOf a ++ strOf b = strOf (a ++ b) := by
  simp [strOf, ByteArray.mk_append_mk]
theorem strOf_extract (l : List Nat) (i j : Nat) : (strOf l).extract i j = strOf ((l.take j).drop i) := by
  apply ByteArray.ext
  simp only [strOf, ByteArray.data_extract, List.extract_toArray, List.extract_eq_take_drop, List.map_drop, List.map_take]
  rw [List.drop_take]
theorem strOf_take (l : List Nat) (j : Nat) : (strOf l).extract 0 j = strOf (l.take j) := by rw [strOf_extract, List.drop_zero]
theorem strOf_drop (l : List Nat) (i : Nat) : (strOf l).extract i l.length = strOf (l.drop i) := by rw [strOf_extract, List.take_length]
theorem strOf_toList (a : List Nat) : (strOf a).toList = a.map UInt8.ofNat := by simp [strOf]
theorem map_inj8 : ∀ (a b : List Nat), (∀ x ∈ a, x < 256) → (∀ x ∈ b, x < 256) → a.map UInt8.ofNat = b.map UInt8.ofNat → a = b
  | [], [], _, _, _ => rfl
  | [], _ :: _, _, _, h => by simp at h
  | _ :: _, [], _, _, h => by simp at h
  | x :: a, y :: b, ha, hb, h => by
    simp only [List.map_cons, List.cons.injEq] at h
    have hx := ha x List.mem_cons_self
    have hy := hb y List.mem_cons_self
    have e := congrArg UInt8.toNat h.1
    rw [UInt8.toNat_ofNat_of_lt' hx, UInt8.toNat_ofNat_of_lt' hy] at e
    rw [e, map_inj8 a b (fun z hz => ha z (List.mem_cons_of_mem _ hz)) (fun z hz => hb z (List.mem_cons_of_mem _ hz)) h.2]
theorem strOf_beq (a b : List Nat) (ha : ∀ x ∈ a, x < 256) (hb : ∀ x ∈ b, x < 256) : ((strOf a).toList == (strOf b).toList) = decide (a = b) := by
  rw [strOf_toList, strOf_toList]
  by_cases h : a = b
  · subst h; simp
  · rw [decide_eq_false h]
    simp only [beq_eq_false_iff_ne, ne_eq]
    exact fun e => h (map_inj8 a b ha hb e)
/-- The bytes of a string. -/
def bytesIn (s : ByteArray) : List Nat := s.data.toList.map UInt8.toNat
theorem strOf_in (s : ByteArray) : strOf (bytesIn s) = s := by
  apply ByteArray.ext
  have e : (UInt8.ofNat ∘ UInt8.toNat) = id := funext fun u => UInt8.ofNat_toNat
  simp [strOf, bytesIn, e]
theorem in_lt (s : ByteArray) : ∀ x ∈ bytesIn s, x < 256 := by
  intro x hx
  obtain ⟨u, _, rfl⟩ := List.mem_map.1 hx
  exact u.toNat_lt
theorem of_string (s : ByteArray) : ∃ l, s = strOf l ∧ ∀ x ∈ l, x < 256 := ⟨bytesIn s, (strOf_in s).symm, in_lt s⟩
theorem take_lt {l : List Nat} (h : ∀ x ∈ l, x < 256) (k : Nat) : ∀ x ∈ l.take k, x < 256 := fun x hx => h x (List.mem_of_mem_take hx)
theorem drop_lt {l : List Nat} (h : ∀ x ∈ l, x < 256) (k : Nat) : ∀ x ∈ l.drop k, x < 256 := fun x hx => h x (List.mem_of_mem_drop hx)
theorem append_lt {a b : List Nat} (ha : ∀ x ∈ a, x < 256) (hb : ∀ x ∈ b, x < 256) : ∀ x ∈ a ++ b, x < 256 := fun x hx => (List.mem_append.1 hx).elim (ha x) (hb x)
/-- Two strings, added. -/
theorem str_add (a b : List Nat) (h : a.length + b.length ≤ 1000000000) (W : World) : (Op.stringOp .add (strOf a) (strOf b)).run Try.prog W = .ok (.string (strOf (a ++ b))) W := by
  rw [run_string_add_sum W _ _ (by rw [strOf_size, strOf_size]; omega), strOf_append]
theorem str_to (l : List Nat) (j : Nat) (h : j ≤ l.length) (W : World) : (Instr.slice 9 (.string (strOf l)) none (some (.int .i64 (j : Int))) none).run Try.prog W = .ok (.string (strOf (l.take j))) W := by
  rw [run_slice_string_to_if W 9 _ .i64 j Try.underlying9, if_pos ⟨by omega, by rw [strOf_size]; omega⟩, Int.toNat_natCast, strOf_take]
theorem str_from (l : List Nat) (i : Nat) (h : i ≤ l.length) (W : World) : (Instr.slice 9 (.string (strOf l)) (some (.int .i64 (i : Int))) none none).run Try.prog W = .ok (.string (strOf (l.drop i))) W := by
  rw [run_slice_string_from_if W 9 _ .i64 i Try.underlying9, if_pos ⟨by omega, by rw [strOf_size]; omega⟩, Int.toNat_natCast, strOf_size, strOf_drop]
/-- A new slice of one byte, as a string. -/
theorem conv_one (W : World) (g b : Nat) (hb : b < 256) (h : W.cell? ⟨g, 0, none⟩ = some (.int .u8 (b : Int))) (c : Nat) :
    (convert 23 9 (.slice (some ⟨g, 0, none⟩) 1 c)).run Try.prog W = .ok (.string (strOf [b])) W := by
  have h1 := conv_bytes W (some ⟨g, 0, none⟩) c [b] (by intro x hx; simp at hx; omega) (fun _ => ⟨g, 0, rfl, fun j hj => by
    have : j = 0 := by simp [u8s] at hj; omega
    subst this
    rw [h]; simp [u8s]⟩)
  exact h1
end Go.Proofs.Ytjlfgfoalfiajaa
