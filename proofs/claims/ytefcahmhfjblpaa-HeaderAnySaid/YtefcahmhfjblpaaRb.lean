/-
  The reference of layer 1 (bits), each function by its walk: Of, Bytes, Bits, on lists of noughts and ones. Conditions: as each theorem's premises say (up to 32 bits of a number, up to a million bits in a list).
-/
import Derived.Test.YtefcahmhfjblpaaGn
import Derived.Test.YtefcahmhfjblpaaBm
namespace Go.Proofs.Ytefcahmhfjblpaa
open Go.RowKit

theorem info_int : (Try.prog.info? 3).map (fun i => (i.zero, i.size, i.bytes)) = some (some (.int .i64 0), 1, 8) := by kernel_rfl
set_option maxHeartbeats 400000 in
set_option maxRecDepth 100000 in
theorem rof_any (v n : Nat) (w : World) (hv : v < 4294967296) (hn : n ≤ 32) :
    Calls Try.prog 15 #[.int .u32 (v : Int), .int .i64 (n : Int)] w fun e w' =>
      ∃ u, e = .returned u ∧ w'.ownsRow w.heap.size 3 1 u n (i64s (Bm.bitsOf v n)) ∧ Below w.heap.size w w' ∧ (n = 0 → u = .slice none 0 0) := by
  obtain ⟨i0, hi, hz0, hz1, hz2⟩ := info_parts info_int
  go_enter Try.func15, Try.ntmps15
  go_wp2
  go_loopw [5, 6] (fun u i wr => ∃ k : Nat, k ≤ n ∧ i = .int .i64 k ∧ wr.ownsRow w.heap.size 3 1 u k (i64s (Bm.bitsOf v k)) ∧ Below w.heap.size w wr ∧ (k = 0 → u = .slice none 0 0)) (fun _ i _ => n - (intOf i).toNat)
  case atStart => exact ⟨0, Nat.zero_le _, rfl, World.ownsRow_nil _ _ _ _, Below.refl _ _, fun _ => rfl⟩
  case round =>
    obtain ⟨k, hk, rfl, hown, hbel, hnil⟩ := hrel
    have hb0 : 0 ≤ (v : Int) / 2 ^ k := Int.ediv_nonneg (by omega) (by exact_mod_cast Nat.zero_le (2 ^ k))
    have hb1 : (v : Int) / 2 ^ k ≤ 4294967295 := by
      have h1 : (v : Int) / 2 ^ k = ((v / 2 ^ k : Nat) : Int) := by simp
      have h2 := Nat.div_le_self v (2 ^ k)
      omega
    by_cases hlt : k < n
    · go_wp2_with (at_builtin; refine wpList_append_own _ rfl _ _ 22 rfl w.heap.size 3 i0 (.int .i64 0) 1 8 Try.underlying22 hi hz0 hz1 hz2 rfl (by decide) _ _ _ rfl (hown.alloc _) ⟨wr.heap.size, 0, none⟩ 1 1 [.int .i64 ((v : Int) / 2 ^ k % 2)] rfl rfl ?c1 ?c2 ?c3 ?c4 ?c5 ?_)
      case c1 =>
        intro j u hj
        match j, hj with
        | 0, hj => simp at hj; subst hj; simp [Addr.add]
      case c2 => intro u hu; simp at hu; subst hu; rfl
      case c3 => unfold maxLen; omega
      case c4 => omega
      case c5 => have := hbel.size; simp; omega
      intro u' w1 hown' hgrow _
      have e : i64s (Bm.bitsOf v k) ++ [Value.int .i64 ((v : Int) / 2 ^ k % 2)] = i64s (Bm.bitsOf v (k + 1)) := by
        rw [Bm.bitsOf_succ]; simp [i64s]
      rw [e] at hown'
      have hb' : Below w.heap.size w w1 := (hbel.alloc hbel.size _).grown hgrow (by have := hbel.size; simp; omega) (fun q hq => (hown.lt q hq).1)
      have Hown := Lib.hid hown'
      have Hb := Lib.hid hb'
      clear hown' hb' hgrow hown hbel e
      go_wp2
      go_roundw
      case rel => exact ⟨k + 1, by omega, by go_num, Hown.out, Hb.out, fun h => by omega⟩
      case measure => simp [intOf]; omega
    · go_wp2
      obtain rfl : k = n := by omega
      go_ret
      exact ⟨_, rfl, hown, hbel, hnil⟩

theorem reads_i64 {w : World} {A : Option Addr} {l : List Nat} (h : Reads w A (i64s l)) (hne : l ≠ []) : ∃ g off, A = some ⟨g, off, none⟩ ∧ ∀ j (hj : j < l.length), w.cell? ⟨g, off + j, none⟩ = some (.int .i64 (l[j] : Int)) := by
  obtain ⟨g, off, e, hc⟩ := h (by simpa [i64s] using hne)
  exact ⟨g, off, e, fun j hj => by rw [hc j (by simpa [i64s] using hj), i64s_get? l j hj]⟩
theorem bit_val (N k : Nat) : bits .or .u8 ((N : Int) % 2 ^ k / 256 ^ (k / 8) % 256) (2 ^ (k % 8) % 256) = ((N % 2 ^ k / 256 ^ (k / 8) % 256 + 2 ^ (k % 8) : Nat) : Int) := by
  have hM : N % 2 ^ k < 2 ^ k := Nat.mod_lt _ (Nat.two_pow_pos k)
  have h1 : N % 2 ^ k / 256 ^ (k / 8) < 2 ^ (k % 8) := by
    rw [Bm.p256, Nat.div_lt_iff_lt_mul (Nat.two_pow_pos _), ← Nat.pow_add, show k % 8 + 8 * (k / 8) = k by omega]
    exact hM
  have h2 : 2 ^ (k % 8) ≤ 128 := Nat.pow_le_pow_right (n := 2) (j := 7) (by omega) (by omega)
  have e1 : (N : Int) % 2 ^ k / 256 ^ (k / 8) % 256 = ((N % 2 ^ k / 256 ^ (k / 8) % 256 : Nat) : Int) := by simp
  have e2 : (2 : Int) ^ (k % 8) = ((2 ^ (k % 8) : Nat) : Int) := by simp
  have h4 := Bm.or_sum (k % 8) (N % 2 ^ k / 256 ^ (k / 8)) 1 h1
  rw [Nat.one_mul] at h4
  rw [e1, e2]
  generalize N % 2 ^ k / 256 ^ (k / 8) = x at h1 h4 ⊢
  generalize 2 ^ (k % 8) = y at h1 h2 h4 ⊢
  rw [show ((y : Nat) : Int) % 256 = ((y : Nat) : Int) by omega, Nat.mod_eq_of_lt (show x < 256 by omega), u8_or_nat _ _ (by omega) (by omega), h4]

/-- The reference's Bytes: the byte of bit k has been stored with it. -/
theorem own_bit {w : World} {base b cap N k : Nat} (h : w.ownsRow base 5 1 (.slice (some ⟨b, 0, none⟩) (k / 8 + 1) cap) (k / 8 + 1) (u8s (Bm.bytesOf (N % 2 ^ k) (k / 8 + 1)))) (ht : N / 2 ^ k % 2 = 1) :
    (w.setCell ⟨b, k / 8, none⟩ (.int .u8 (bits .or .u8 ((N : Int) % 2 ^ k / 256 ^ (k / 8) % 256) (2 ^ (k % 8) % 256)))).drew.ownsRow base 5 1 (.slice (some ⟨b, 0, none⟩) (k / 8 + 1) cap) ((k + 1 + 7) / 8) (u8s (Bm.bytesOf (N % 2 ^ (k + 1)) ((k + 1 + 7) / 8))) := by
  have h1 := h.stored (k / 8) (.int .u8 ((N % 2 ^ k / 256 ^ (k / 8) % 256 + 2 ^ (k % 8) : Nat) : Int))
  have hM : N % 2 ^ k < 2 ^ (8 * (k / 8) + k % 8) := by
    rw [show 8 * (k / 8) + k % 8 = k by omega]
    exact Nat.mod_lt _ (Nat.two_pow_pos k)
  rw [u8s_set, Bm.bytesOf_bit _ _ _ (by omega) hM] at h1
  have h2 := Bm.mod_succ N k
  rw [ht, Nat.one_mul] at h2
  rw [bit_val, show (k + 1 + 7) / 8 = k / 8 + 1 by omega, h2]
  rw [show 8 * (k / 8) + k % 8 = k by omega] at h1
  exact h1.1
theorem own_nobit {w : World} {base N k : Nat} {u : Value} (h : w.ownsRow base 5 1 u (k / 8 + 1) (u8s (Bm.bytesOf (N % 2 ^ k) (k / 8 + 1)))) (ht : N / 2 ^ k % 2 = 0) :
    w.ownsRow base 5 1 u ((k + 1 + 7) / 8) (u8s (Bm.bytesOf (N % 2 ^ (k + 1)) ((k + 1 + 7) / 8))) := by
  have h2 := Bm.mod_succ N k
  rw [ht, Nat.zero_mul, Nat.add_zero] at h2
  rw [show (k + 1 + 7) / 8 = k / 8 + 1 by omega, h2]
  exact h
theorem own_push {w : World} {base N k : Nat} {u : Value} (h8 : k % 8 = 0) (h : w.ownsRow base 5 1 u (k / 8 + 1) (u8s (Bm.bytesOf (N % 2 ^ k) (k / 8)) ++ [.int .u8 0])) :
    w.ownsRow base 5 1 u (k / 8 + 1) (u8s (Bm.bytesOf (N % 2 ^ k) (k / 8 + 1))) := by
  rw [← Bm.bytesOf_push _ _ (by rw [show 8 * (k / 8) = k by omega]; exact Nat.mod_lt _ (Nat.two_pow_pos k))]
  have e : u8s (Bm.bytesOf (N % 2 ^ k) (k / 8) ++ [0]) = u8s (Bm.bytesOf (N % 2 ^ k) (k / 8)) ++ [.int .u8 0] := by simp [u8s]
  rw [e]
  exact h

set_option maxHeartbeats 1000000 in
set_option maxRecDepth 100000 in
theorem rbytes_any (A : Option Addr) (n c N : Nat) (w : World) (hn : n ≤ 1000000) (hN : N < 2 ^ n) (hr : Reads w A (i64s (Bm.bitsOf N n))) (hA : ∀ a, A = some a → 0 < n → a.block < w.heap.size) :
    Calls Try.prog 14 #[.slice A n c] w fun e w' =>
      ∃ u, e = .returned u ∧ w'.ownsRow w.heap.size 5 1 u ((n + 7) / 8) (u8s (Bm.bytesOf N ((n + 7) / 8))) ∧ Below w.heap.size w w' := by
  obtain ⟨i0, hi, hz0, hz1, hz2⟩ := info_parts info_u8
  have hcells : ∀ k, k < n → ∃ g off, A = some ⟨g, off, none⟩ ∧ g < w.heap.size ∧ w.cell? ⟨g, off + k, none⟩ = some (.int .i64 ((N / 2 ^ k % 2 : Nat) : Int)) := by
    intro k hk
    obtain ⟨g, off, e, hc⟩ := reads_i64 hr (by intro h; have := Bm.bitsOf_length N n; rw [h] at this; simp at this; omega)
    refine ⟨g, off, e, hA _ e (by omega), ?_⟩
    rw [hc k (by rw [Bm.bitsOf_length]; exact hk), Bm.bitsOf_get]
  have Hcells := Lib.hid hcells
  have HN : Hid (N % 2 ^ n = N) := Nat.mod_eq_of_lt hN
  clear hcells hr hA hN
  go_enter Try.func14, Try.ntmps14
  go_wp2
  go_loopw [3, 4] (fun u i wr => ∃ k : Nat, k ≤ n ∧ i = .int .i64 k ∧ wr.ownsRow w.heap.size 5 1 u ((k + 7) / 8) (u8s (Bm.bytesOf (N % 2 ^ k) ((k + 7) / 8))) ∧ Below w.heap.size w wr) (fun _ i _ => n - (intOf i).toNat)
  case atStart => exact ⟨0, Nat.zero_le _, rfl, World.ownsRow_nil _ _ _ _, Below.refl _ _⟩
  case round =>
    obtain ⟨k, hk, rfl, hown, hbel⟩ := hrel
    by_cases hlt : k < n
    · obtain ⟨g, off, rfl, hg, hc0⟩ := Hcells.out k hlt
      have hc : wr.cell? ⟨g, off + k, none⟩ = some (.int .i64 ((N / 2 ^ k % 2 : Nat) : Int)) := (hbel.cell (p := ⟨g, off + k, none⟩) hg).trans hc0
      clear hc0 Hcells HN
      by_cases h8 : k % 8 = 0
      · rw [show (k + 7) / 8 = k / 8 by omega] at hown
        have h8b : ((k : Int) % 8 == 0) = true := by simp; omega
        have H8 := Lib.hid h8
        have hkq : k / 8 ≤ 1000000 := by omega
        clear h8
        rcases (show N / 2 ^ k % 2 = 0 ∨ N / 2 ^ k % 2 = 1 by omega) with ht | ht
        all_goals
          rw [ht] at hc
          have Ht := Lib.hid ht
          clear ht
          go_wp2_with (at_builtin; refine wpList_append_own _ rfl _ _ 36 rfl w.heap.size 5 i0 (.int .u8 0) 1 1 Try.underlying36 hi hz0 hz1 hz2 rfl (by decide) _ _ _ rfl (hown.alloc _) ⟨wr.heap.size, 0, none⟩ 1 1 [.int .u8 0] rfl rfl ?c1 ?c2 ?c3 ?c4 ?c5 ?_)
          case c1 =>
            intro j u hj
            match j, hj with
            | 0, hj => simp at hj; subst hj; simp [Addr.add]
          case c2 => intro u hu; simp at hu; subst hu; rfl
          case c3 => unfold maxLen; omega
          case c4 => omega
          case c5 => have := hbel.size; simp; omega
          intro u' w1 hown' hgrow _
          have hb' : Below w.heap.size w w1 := (hbel.alloc hbel.size _).grown hgrow (by have := hbel.size; simp; omega) (fun q hq => (hown.lt q hq).1)
          have hcx : w1.cell? ⟨g, off + k, none⟩ = wr.cell? ⟨g, off + k, none⟩ := (hb'.cell (p := ⟨g, off + k, none⟩) hg).trans (hbel.cell (p := ⟨g, off + k, none⟩) hg).symm
          rw [hc] at hcx
          have hown1 := own_push H8.out hown'
          obtain ⟨b, cap, hu, hb, hbl⟩ := own_form hown1 (by omega)
          rw [hu] at hown1 ⊢
          have hcell := hown1.cellAt (k / 8) (by omega)
          rw [u8s_get? _ _ (by rw [Bm.bytesOf_length]; omega), Bm.bytesOf_get] at hcell
          have hfree := hown1.frozenAt (k / 8)
          have Hown := Lib.hid hown1
          have Hb := Lib.hid hb'
          clear hown1 hb' hgrow hown' hbel hown hc
        · go_wp2
          go_roundw
          case rel => exact ⟨k + 1, by omega, by go_num, own_nobit Hown.out Ht.out, Hb.out⟩
          case measure => simp [intOf]; omega
        · go_wp2
          go_region
          all_goals go_wp2
          go_roundw
          case rel => exact ⟨k + 1, by omega, by go_num, own_bit Hown.out Ht.out, (Hb.out.setCell hb _).drew⟩
          case measure => simp [intOf]; omega
      · rw [show (k + 7) / 8 = k / 8 + 1 by omega] at hown
        obtain ⟨b, cap, hu, hb, hbl⟩ := own_form hown (by omega)
        have h8b : ((k : Int) % 8 == 0) = false := by simp; omega
        rw [hu] at hown ⊢
        have hcell := hown.cellAt (k / 8) (by omega)
        rw [u8s_get? _ _ (by rw [Bm.bytesOf_length]; omega), Bm.bytesOf_get] at hcell
        have hfree := hown.frozenAt (k / 8)
        have Hown := Lib.hid hown
        have Hb := Lib.hid hbel
        clear h8 hown hbel
        rcases (show N / 2 ^ k % 2 = 0 ∨ N / 2 ^ k % 2 = 1 by omega) with ht | ht
        · rw [ht] at hc
          have Ht := Lib.hid ht
          clear ht
          go_wp2
          go_roundw
          case rel => exact ⟨k + 1, by omega, by go_num, own_nobit Hown.out Ht.out, Hb.out⟩
          case measure => simp [intOf]; omega
        · rw [ht] at hc
          have Ht := Lib.hid ht
          clear ht
          go_wp2
          go_region
          all_goals go_wp2
          go_roundw
          case rel => exact ⟨k + 1, by omega, by go_num, own_bit Hown.out Ht.out, (Hb.out.setCell hb _).drew⟩
          case measure => simp [intOf]; omega
    · obtain rfl : k = n := by omega
      rw [HN.out] at hown
      go_wp2
      go_ret
      exact ⟨_, rfl, hown, hbel⟩

theorem rof_8 (v : Nat) (w : World) (hv : v < 4294967296) :
    Calls Try.prog 15 #[.int .u32 (v : Int), .int .i64 8] w fun e w' =>
      ∃ u, e = .returned u ∧ w'.ownsRow w.heap.size 3 1 u 8 (i64s (Bm.bitsOf v 8)) ∧ Below w.heap.size w w' ∧ (8 = 0 → u = .slice none 0 0) := rof_any v 8 w hv (by omega)

set_option maxHeartbeats 1000000 in
set_option maxRecDepth 100000 in
theorem rbits_any (A : Option Addr) (c : Nat) (bs : List Nat) (w : World) (hn : bs.length ≤ 100000) (hbs : ∀ b ∈ bs, b < 256) (hr : Reads w A (u8s bs)) (hA : ∀ a, A = some a → 0 < bs.length → a.block < w.heap.size) :
    Calls Try.prog 23 #[.slice A bs.length c] w fun e w' =>
      ∃ u, e = .returned u ∧ w'.ownsRow w.heap.size 3 1 u (8 * bs.length) (i64s (Bm.bitsOf (Bm.valB bs) (8 * bs.length))) ∧ Below w.heap.size w w' := by
  obtain ⟨i0, hi, hz0, hz1, hz2⟩ := info_parts info_int
  have hcells : ∀ k, (hk : k < bs.length) → ∃ g off, A = some ⟨g, off, none⟩ ∧ g < w.heap.size ∧ w.cell? ⟨g, off + k, none⟩ = some (.int .u8 ((bs[k] : Nat) : Int)) := by
    intro k hk
    obtain ⟨g, off, e, hc⟩ := reads_u8 hr (by intro h; rw [h] at hk; simp at hk)
    exact ⟨g, off, e, hA _ e (by omega), hc k hk⟩
  have Hcells := Lib.hid hcells
  have Hbs := Lib.hid hbs
  clear hcells hr hA hbs
  go_enter Try.func23, Try.ntmps23
  go_wp2
  go_loopw [3, 4] (fun u i wr => ∃ k : Nat, k ≤ bs.length ∧ i = .int .i64 k ∧ wr.ownsRow w.heap.size 3 1 u (8 * k) (i64s (Bm.bitsOf (Bm.valB (bs.take k)) (8 * k))) ∧ Below w.heap.size w wr) (fun _ i _ => bs.length - (intOf i).toNat)
  case atStart => exact ⟨0, Nat.zero_le _, rfl, World.ownsRow_nil _ _ _ _, Below.refl _ _⟩
  case round =>
    obtain ⟨k, hk, rfl, hown, hbel⟩ := hrel
    by_cases hlt : k < bs.length
    · obtain ⟨g, off, rfl, hg, hc0⟩ := Hcells.out k hlt
      have hc : wr.cell? ⟨g, off + k, none⟩ = some (.int .u8 ((bs[k] : Nat) : Int)) := (hbel.cell (p := ⟨g, off + k, none⟩) hg).trans hc0
      have hb8 := Hbs.out bs[k] (List.getElem_mem hlt)
      have hstep := Bm.bits_byte (bs.take k) bs[k] (fun x hx => Hbs.out x (List.mem_of_mem_take hx)) hb8
      rw [List.length_take, Nat.min_eq_left (Nat.le_of_lt hlt), ← List.take_succ_eq_append_getElem hlt] at hstep
      have Hstep := Lib.hid hstep
      clear hc0 Hcells Hbs hstep
      generalize bs[k] = x at hc hb8 Hstep
      go_wp2_with fail
      refine (rof_8 x _ (by omega)).mono ?_
      rintro e w1 ⟨u', rfl, hu, hb1, _⟩
      obtain ⟨g1, cap1, hform, _, _⟩ := own_form hu (by omega)
      have hnews : ∀ j q, (i64s (Bm.bitsOf x 8))[j]? = some q → w1.cell? ((⟨g1, 0, none⟩ : Addr).add j) = some q := hu.cells (by rw [hform]; rfl)
      have hown1 := own_below hown hb1
      rw [hform]
      have hbel1 : Below w.heap.size w w1 := hbel.trans (hb1.mono hbel.size)
      clear hform hu hown hbel hc
      go_wp2_with (at_builtin; refine wpList_append_own _ rfl _ _ 22 rfl w.heap.size 3 i0 (.int .i64 0) 1 8 Try.underlying22 hi hz0 hz1 hz2 rfl (by decide) _ _ _ rfl hown1 ⟨g1, 0, none⟩ 8 cap1 (i64s (Bm.bitsOf x 8)) rfl ?c0 hnews ?c2 ?c3 ?c4 ?c5 ?_)
      case c0 => simp [i64s_length, Bm.bitsOf_length]
      case c2 => intro u hu; simp [i64s] at hu; obtain ⟨a, _, rfl⟩ := hu; rfl
      case c3 => unfold maxLen; omega
      case c4 => omega
      case c5 => exact hbel1.size
      intro u2 w2 hown' hgrow _
      rw [i64s_append, Hstep.out, show 8 * k + 8 = 8 * (k + 1) by omega] at hown'
      have hb' : Below w.heap.size w w2 := hbel1.grown hgrow hbel1.size (fun q hq => (hown1.lt q hq).1)
      have Hown := Lib.hid hown'
      have Hb := Lib.hid hb'
      clear hown' hb' hgrow hown1 hbel1 hnews
      go_wp2
      go_roundw
      case rel => exact ⟨k + 1, by omega, by go_num, Hown.out, Hb.out⟩
      case measure => simp [intOf]; omega
    · obtain rfl : k = bs.length := by omega
      rw [List.take_length] at hown
      go_wp2
      go_ret
      exact ⟨_, rfl, hown, hbel⟩

theorem rbits_n (A : Option Addr) (n c : Nat) (bs : List Nat) (w : World) (hl : bs.length = n) (hn : n ≤ 100000) (hbs : ∀ b ∈ bs, b < 256) (hr : Reads w A (u8s bs)) (hA : ∀ a, A = some a → 0 < n → a.block < w.heap.size) :
    Calls Try.prog 23 #[.slice A n c] w fun e w' =>
      ∃ u, e = .returned u ∧ w'.ownsRow w.heap.size 3 1 u (8 * n) (i64s (Bm.bitsOf (Bm.valB bs) (8 * n))) ∧ Below w.heap.size w w' := by
  subst hl
  exact rbits_any A c bs w hn hbs hr hA
end Go.Proofs.Ytefcahmhfjblpaa
