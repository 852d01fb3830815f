/-
  Layer 7 (fse): the references' Open of any bytes, Seal of any bits, as layer 7's laws ask for them. Conditions: as each theorem's premises say.
  The program's layer 7 (fse), by its walk: a code opened, a state's symbol, Decode. Conditions: as each theorem's premises say (up to ten thousand bytes).
  The program's layer 7 (fse), by its walk: Decode. Conditions: as each theorem's premises say (up to ten thousand bytes).
  Decode (layer 7) of any bytes, by any table. Conditions: as the theorem's premises say.
  Layer 7 (fse): the laws' awake, by its walk: true. Premises: what the calls of layers 6, 7 answer.
-/
import Derived.Test.YtbdciiiimdbmkaaGreatGaw
import Derived.Test.YtbdciiiimdbmkaaGreatGbc
import Derived.Test.YtbdciiiimdbmkaaGreatGaq
import Derived.Test.YtbdciiiimdbmkaaGreatGae
namespace Go.Proofs.YtbdciiiimdbmkaaGreat
open Go.RowKit

theorem reads_ltV {w : World} {g off : Nat} {xs : List Value} (h : Reads w (some ⟨g, off, none⟩) xs) (hne : xs ≠ []) : g < w.heap.size := by
  obtain ⟨g', off', e, hc⟩ := h hne
  injection e with e
  injection e with e1 e2
  subst e1 e2
  have h0 : 0 < xs.length := List.length_pos_iff.2 hne
  have h1 := hc 0 h0
  rw [List.getElem?_eq_getElem h0] at h1
  exact World.block_lt_of_cell? w _ h1
/-- The reference's Open of any bytes. -/
theorem ropen_bits (A : Option Addr) (c : Nat) (bs : List Nat) (w : World) (hl : bs.length ≤ 10000) (hb : ∀ x ∈ bs, x < 256) (hr : Reads w A (u8s bs)) :
    (Bm.openN bs = none ∧ Calls Tryz.prog 91 #[.slice A bs.length c] w fun e w' => e = .returned (.tuple #[.slice none 0 0, .bool false]) ∧ Below w.heap.size w w') ∨
    ∃ M L, Bm.openN bs = some (M, L) ∧ Calls Tryz.prog 91 #[.slice A bs.length c] w fun e w' => ∃ A' c', e = .returned (.tuple #[.slice A' L c', .bool true]) ∧ L ≤ c' ∧ c' ≤ maxLen ∧ Reads w' A' (i64s (Bm.bitsOf M L)) ∧ Below w.heap.size w w' := by
  rcases List.eq_nil_or_concat bs with rfl | ⟨front, b, e⟩
  · exact .inl ⟨by simp [Bm.openN], (ropen_empty A c w).mono fun e w' ⟨he, hw⟩ => ⟨he, by subst hw; exact Below.refl _ _⟩⟩
  · rw [List.concat_eq_append] at e
    have hlen : bs.length = front.length + 1 := by rw [e, List.length_append, List.length_singleton]
    have hlast : bs[front.length]'(by omega) = b := by subst e; simp
    have hgl : bs.getLast?.getD 0 = b := by rw [e, List.getLast?_append, List.getLast?_singleton]; rfl
    obtain ⟨g, off, rfl, hc⟩ := reads_u8 hr (by intro h; rw [h] at hlen; simp at hlen)
    have hg := reads_ltV hr (by intro h; have := congrArg List.length h; rw [u8s_length, hlen, List.length_nil] at this; omega)
    rcases Nat.eq_zero_or_pos b with h0 | h0
    · refine .inl ⟨by unfold Bm.openN; rw [if_pos (by rw [hgl, h0])], ?_⟩
      have h1 := hc front.length (by omega)
      rw [hlast, h0] at h1
      rw [hlen]
      exact (ropen_zero g off front.length c w (by omega) h1).mono fun e w' ⟨he, hw⟩ => ⟨he, by subst hw; exact Below.refl _ _⟩
    · have hb0 : b ≠ 0 := by omega
      obtain ⟨l1, l8, ht⟩ := Bm.top_last front b (fun x hx => hb x (by rw [e]; exact List.mem_append_left _ hx)) (hb b (by rw [e]; simp)) hb0
      rw [← e] at ht
      have hlg := Bm.top_log2 _ _ ht
      refine .inr ⟨_, _, by unfold Bm.openN; rw [if_neg (by rw [hgl]; exact hb0)], ?_⟩
      rw [hlg]
      generalize 8 * front.length + (Lib.bitLen b - 1) = top at ht
      have htl : top < 8 * (front.length + 1) := by
        have h1 := (Bm.top_iff.1 ht).1
        have h2 := Bm.valB_lt bs hb
        rw [hlen, Bm.p256] at h2
        rcases Nat.lt_or_ge top (8 * (front.length + 1)) with h3 | h3
        · exact h3
        · have := Nat.pow_le_pow_right (n := 2) (by omega) h3
          omega
      rw [hlen]
      refine (ropen_some g off front.length c top bs b w (by omega) hb hb0 hlen hlast hr hg ht htl).mono fun e w' ⟨A', c', he, h1, h2, hrest, hbel⟩ => ⟨A', c', he, h1, h2, ?_, hbel⟩
      intro hne
      have h0 : 0 < top := by
        rcases Nat.eq_zero_or_pos top with h3 | h3
        · subst h3; simp [Bm.bitsOf, i64s] at hne
        · exact h3
      rcases hrest with h3 | ⟨g', off', e', _, _, hcell⟩
      · omega
      · refine ⟨g', off', e', fun j hj => ?_⟩
        rw [i64s_length, Bm.bitsOf_length] at hj
        rw [hcell j hj, i64s_get? _ j (by rw [Bm.bitsOf_length]; exact hj), Bm.bitsOf_get, Bm.mod_digit _ _ _ hj]
end Go.Proofs.YtbdciiiimdbmkaaGreat

namespace Go.Proofs.YtbdciiiimdbmkaaGreat
open Go.RowKit

/-- Any bytes, opened by the program. -/
theorem open_bits (A : Option Addr) (c : Nat) (bs : List Nat) (w : World) (hl : bs.length ≤ 10000) (hb : ∀ x ∈ bs, x < 256) (hr : Reads w A (u8s bs)) :
    (Bm.openN bs = none ∧ Calls Tryz.prog 114 #[.slice A bs.length c] w fun e w' => e = .returned (.tuple #[.pointer none, .bool false]) ∧ Below w.heap.size w w') ∨
    ∃ M L, Bm.openN bs = some (M, L) ∧ M < 2 ^ L ∧ Bm.valB bs = M + 2 ^ L ∧ L < 8 * bs.length ∧ Calls Tryz.prog 114 #[.slice A bs.length c] w fun e w' => ∃ b, e = .returned (.tuple #[.pointer (some ⟨b, 0, none⟩), .bool true]) ∧ TS w' w.heap.size b bs L ∧ Below w.heap.size w w' := by
  rcases List.eq_nil_or_concat bs with rfl | ⟨front, b, e⟩
  · exact .inl ⟨by simp [Bm.openN], (open_empty A c w).mono fun e w' ⟨he, hw⟩ => ⟨he, by subst hw; exact Below.refl _ _⟩⟩
  · rw [List.concat_eq_append] at e
    have hlen : bs.length = front.length + 1 := by rw [e, List.length_append, List.length_singleton]
    have hlast : bs[front.length]'(by omega) = b := by subst e; simp
    have hgl : bs.getLast?.getD 0 = b := by rw [e, List.getLast?_append, List.getLast?_singleton]; rfl
    obtain ⟨g, off, rfl, hc⟩ := reads_u8 hr (by intro h; rw [h] at hlen; simp at hlen)
    have hg := reads_ltV hr (by intro h; have := congrArg List.length h; rw [u8s_length, hlen, List.length_nil] at this; omega)
    rcases Nat.eq_zero_or_pos b with h0 | h0
    · refine .inl ⟨by unfold Bm.openN; rw [if_pos (by rw [hgl, h0])], ?_⟩
      have h1 := hc front.length (by omega)
      rw [hlast, h0] at h1
      rw [hlen]
      exact (open_zero g off front.length c w (by omega) h1).mono fun e w' ⟨he, hw⟩ => ⟨he, by subst hw; exact Below.refl _ _⟩
    · have hb0 : b ≠ 0 := by omega
      have hb256 := hb b (by rw [e]; simp)
      obtain ⟨l1, l8, ht⟩ := Bm.top_last front b (fun x hx => hb x (by rw [e]; exact List.mem_append_left _ hx)) hb256 hb0
      rw [← e] at ht
      have hlg := Bm.top_log2 _ _ ht
      have hopen : Bm.openN bs = some (Bm.valB bs % 2 ^ (Bm.valB bs).log2, (Bm.valB bs).log2) := by unfold Bm.openN; rw [if_neg (by rw [hgl]; exact hb0)]
      obtain ⟨k1, _, k3⟩ := Bm.seal_open bs _ _ hb hopen
      have hs := ht.sum
      rw [hlg] at hopen k1 k3
      refine .inr ⟨_, _, hopen, k1, by omega, k3, ?_⟩
      rw [hlen]
      exact open_some g off front.length c bs b w (by omega) hb256 hb0 hlen hlast hr hg

theorem mod_top (M left k : Nat) (h : k ≤ left) : M % 2 ^ left / 2 ^ (left - k) = M / 2 ^ (left - k) % 2 ^ k ∧ M % 2 ^ left % 2 ^ (left - k) = M % 2 ^ (left - k) := by
  have e : 2 ^ left = 2 ^ (left - k) * 2 ^ k := by rw [← Nat.pow_add]; congr 1; omega
  rw [e]
  exact ⟨Nat.mod_mul_right_div_self _ _ _, Nat.mod_mul_right_mod _ _ _⟩

theorem cell_nat (ls : List Nat) (log st : Nat) (h : st < 2 ^ log) : celV (Bm.cellA ls log (st : Int)) = .agg #[.int .u8 (Bm.symAt ls log st : Int), .int .i64 (Bm.bitsAt ls log st : Int), .int .i64 (Bm.baseAt ls log st : Int)] := by
  unfold Bm.cellA celV
  rw [if_pos ⟨by omega, by omega⟩, Int.toNat_natCast]
theorem next_nat (ls : List Nat) (log st v : Nat) (h : st < 2 ^ log) (hv : v < 2 ^ Bm.bitsAt ls log st) : Bm.nextB ls log (st : Int) (v : Int) = true ∧ Bm.nextA ls log (st : Int) (v : Int) = ((Bm.baseAt ls log st + v : Nat) : Int) := by
  have h1 : Bm.nextB ls log (st : Int) (v : Int) = true := by
    unfold Bm.nextB
    rw [Int.toNat_natCast]
    exact decide_eq_true ⟨by omega, by omega, by omega, by omega⟩
  refine ⟨h1, ?_⟩
  unfold Bm.nextA
  rw [h1, if_pos rfl, Int.toNat_natCast, Int.natCast_add]

set_option maxHeartbeats 1000000 in
set_option maxRecDepth 100000 in
theorem estep_ok (w0 w : World) (p : Addr) (ls : List Nat) (log B b left st : Nat) (bs : List Nat) (hf : Bm.FairN ls log) (ht : STab w0 p ls log) (hw : Below w0.heap.size w0 w) (hB : w0.heap.size ≤ B) (hs : bs.length ≤ 10000) (hbs : ∀ x ∈ bs, x < 256) (hlb : left < 8 * bs.length)
    (hst : st < 2 ^ log) (hle : Bm.bitsAt ls log st ≤ left) (h : TS w B b bs left) :
    Calls Tryz.prog 117 #[.pointer (some p), .pointer (some ⟨b, 0, none⟩), .int .i64 (st : Int)] w fun e w' =>
      e = .returned (.tuple #[.int .u8 (Bm.symAt ls log st : Int), .int .i64 ((Bm.baseAt ls log st + Bm.valB bs / 2 ^ (left - Bm.bitsAt ls log st) % 2 ^ Bm.bitsAt ls log st : Nat) : Int), .bool true]) ∧ TS w' B b bs (left - Bm.bitsAt ls log st) ∧ w.grownBy w' (some b) ∧ w'.cell? ⟨b, 0, none⟩ = w.cell? ⟨b, 0, none⟩ := by
  have hbits := Bm.bits_at ls log st hf hst
  have h9 := hf.high
  have hBb : B ≤ b := by obtain ⟨_, _, _, _, _, h3, _⟩ := h; exact h3
  have Hcell := Lib.hid (tcell_any w p ls log (st : Int) hf (stab_keep _ _ _ _ _ ht hw))
  have hP := pow_fair log hf.low hf.high
  have hba := Bm.base_at ls log st hf hst
  have hv := Nat.mod_lt (Bm.valB bs / 2 ^ (left - Bm.bitsAt ls log st)) (Nat.two_pow_pos (Bm.bitsAt ls log st))
  obtain ⟨n1, n2⟩ := next_nat ls log st _ hst hv
  have Htake := Lib.hid (fun W (hW : TS W B b bs left) => btk_okC B b left bs (Bm.bitsAt ls log st) W (by omega) hbs (by omega) hle hlb hW)
  have Hnext := Lib.hid (fun W v (hW : Below w0.heap.size w0 W) => tnext_any W p ls log (st : Int) v hf (stab_keep _ _ _ _ _ ht hW))
  have hd : decide (0 ≤ (st : Int) ∧ (st : Int) < ((2 ^ log : Nat) : Int)) = true := decide_eq_true ⟨by omega, by omega⟩
  rw [cell_nat ls log st hst, hd] at Hcell
  have Hn1 := Lib.hid n1
  have Hn2 := Lib.hid n2
  have hv512 : Bm.valB bs / 2 ^ (left - Bm.bitsAt ls log st) % 2 ^ Bm.bitsAt ls log st ≤ 512 := by
    have h2 : 2 ^ Bm.bitsAt ls log st ≤ 512 := Nat.le_trans (Nat.le_trans (Nat.le_add_left _ _) hba) hP.2
    omega
  have Hts := Lib.hid h
  have Hw := Lib.hid hw
  clear hd n1 n2 hv hba hf ht hst hlb hbs h hw
  generalize Bm.valB bs / 2 ^ (left - Bm.bitsAt ls log st) % 2 ^ Bm.bitsAt ls log st = V at *
  generalize Bm.symAt ls log st = sy at *
  generalize Bm.baseAt ls log st = z at *
  generalize Bm.bitsAt ls log st = k at *
  go_enter Tryz.func117, Tryz.ntmps117
  go_wp2_with fail
  refine Hcell.out.mono ?_
  rintro e w1 ⟨rfl, hb1⟩
  have hw1 := hb1.alloc hb1.size (.cells #[.int .u8 (sy : Int), .int .i64 (k : Int), .int .i64 (z : Int)] 144)
  obtain ⟨W2, hW2⟩ : ∃ W2, W2 = w1.alloc (.cells #[.int .u8 (sy : Int), .int .i64 (k : Int), .int .i64 (z : Int)] 144) := ⟨_, rfl⟩
  have hrow : Row W2 w1.heap.size 144 [.int .u8 (sy : Int), .int .i64 (k : Int), .int .i64 (z : Int)] := by rw [hW2]; exact Row.new w1 _ _
  rw [← hW2] at hw1
  have hbl : b < w.heap.size := by obtain ⟨_, _, _, _, _, _, h4, _⟩ := Hts.out; exact h4
  have hbs1 : b < w1.heap.size := Nat.lt_of_lt_of_le hbl hb1.size
  have Ht2 := Lib.hid (Htake.out W2 (Hts.out.keep (grown_below hw1 none) (by simp)))
  have HW2 := Lib.hid hW2
  have Hw1 := Lib.hid hw1
  clear hb1 hW2 hw1 Htake Hcell
  go_wp2_with fail
  rw [← HW2.out]
  refine Ht2.out.mono ?_
  rintro e W3 ⟨rfl, hts3, hg3, hk3⟩
  have hbW2 : b < W2.heap.size := Nat.lt_of_lt_of_le hbl Hw1.out.size
  have hbW3 : b < W3.heap.size := Nat.lt_of_lt_of_le hbW2 hg3.size
  have Hk3 : Hid (W3.cell? ⟨b, 0, none⟩ = w.cell? ⟨b, 0, none⟩) := Lib.hid (hk3.trans (Hw1.out.cell (p := ⟨b, 0, none⟩) hbl))
  clear hk3
  have c0 : W3.cell? ⟨w1.heap.size, 0, none⟩ = some (.int .u8 (sy : Int)) := by
    rw [World.cell?_of_block (hg3.block w1.heap.size hrow.lt (fun e => by injection e with e; omega))]
    exact hrow.cell 0
  have hb3 : Below w0.heap.size w0 W3 := (Hw.out.trans (Hw1.out.mono Hw.out.size)).grown hg3 (Nat.le_trans Hw.out.size Hw1.out.size) (fun k e => by injection e with e; omega)
  have Hn3 := Lib.hid (Hnext.out W3 (V : Int) hb3)
  rw [Hn1.out, Hn2.out] at Hn3
  have Hts3 := Lib.hid hts3
  have Hg3 := Lib.hid ((grown_below Hw1.out (some b)).trans hg3)
  clear hts3 hg3 hb3 hrow Ht2 Hnext Hn1 Hn2
  go_wp2_with fail
  refine Hn3.out.mono ?_
  rintro e W4 ⟨rfl, hb4⟩
  have c1 : W4.cell? ⟨w1.heap.size, 0, none⟩ = some (.int .u8 (sy : Int)) := (hb4.cell (p := ⟨w1.heap.size, 0, none⟩) (by
    rcases Nat.lt_or_ge w1.heap.size W3.heap.size with h | h
    · exact h
    · unfold World.cell? at c0; rw [Array.getElem?_eq_none h] at c0; cases c0)).trans c0
  have Hts4 := Lib.hid (Hts3.out.keep (grown_below hb4 none) (by simp))
  have Hg4 := Lib.hid (Hg3.out.trans (grown_below hb4 (some b)))
  have Hk4 := Lib.hid ((hb4.cell (p := ⟨b, 0, none⟩) hbW3).trans Hk3.out)
  clear hb4 c0
  go_wp2
  refine bodyPost_ret (v := .tuple #[.int .u8 (sy : Int), .int .i64 ((z + V : Nat) : Int), .bool true]) (by simp [results, Tryz.results117, go_sem]) rfl ⟨rfl, Hts4.out, Hg4.out, Hk4.out⟩

set_option maxHeartbeats 1000000 in
set_option maxRecDepth 100000 in
theorem estep_few (w0 w : World) (p : Addr) (ls : List Nat) (log B b left st : Nat) (bs : List Nat) (hf : Bm.FairN ls log) (ht : STab w0 p ls log) (hw : Below w0.heap.size w0 w)
    (hst : st < 2 ^ log) (hle : left < Bm.bitsAt ls log st) (h : TS w B b bs left) :
    Calls Tryz.prog 117 #[.pointer (some p), .pointer (some ⟨b, 0, none⟩), .int .i64 (st : Int)] w fun e w' =>
      (∃ v : Nat, v ≤ 512 ∧ e = .returned (.tuple #[.int .u8 (Bm.symAt ls log st : Int), .int .i64 (v : Int), .bool false])) ∧ TS w' B b bs left ∧ w.grownBy w' (some b) := by
  have hbits := Bm.bits_at ls log st hf hst
  have h9 := hf.high
  have Hcell := Lib.hid (tcell_any w p ls log (st : Int) hf (stab_keep _ _ _ _ _ ht hw))
  have hP := pow_fair log hf.low hf.high
  have hba := Bm.base_at ls log st hf hst
  obtain ⟨n1, n2⟩ := next_nat ls log st 0 hst (Nat.two_pow_pos _)
  have Htake := Lib.hid (fun W (hW : TS W B b bs left) => btk_few B b left bs (Bm.bitsAt ls log st) W (by omega) hle hW)
  have Hnext := Lib.hid (fun W v (hW : Below w0.heap.size w0 W) => tnext_any W p ls log (st : Int) v hf (stab_keep _ _ _ _ _ ht hW))
  have hd : decide (0 ≤ (st : Int) ∧ (st : Int) < ((2 ^ log : Nat) : Int)) = true := decide_eq_true ⟨by omega, by omega⟩
  rw [cell_nat ls log st hst, hd] at Hcell
  have Hn1 := Lib.hid n1
  have Hn2 := Lib.hid n2
  have hz : Bm.baseAt ls log st ≤ 512 := Nat.le_trans (Nat.le_trans (Nat.le_add_right _ _) hba) hP.2
  have Hts := Lib.hid h
  have Hw := Lib.hid hw
  clear hd n1 n2 hba hf ht hst h hw
  generalize Bm.symAt ls log st = sy at *
  generalize Bm.baseAt ls log st = z at *
  generalize Bm.bitsAt ls log st = k at *
  go_enter Tryz.func117, Tryz.ntmps117
  go_wp2_with fail
  refine Hcell.out.mono ?_
  rintro e w1 ⟨rfl, hb1⟩
  have hw1 := hb1.alloc hb1.size (.cells #[.int .u8 (sy : Int), .int .i64 (k : Int), .int .i64 (z : Int)] 144)
  obtain ⟨W2, hW2⟩ : ∃ W2, W2 = w1.alloc (.cells #[.int .u8 (sy : Int), .int .i64 (k : Int), .int .i64 (z : Int)] 144) := ⟨_, rfl⟩
  have hrow : Row W2 w1.heap.size 144 [.int .u8 (sy : Int), .int .i64 (k : Int), .int .i64 (z : Int)] := by rw [hW2]; exact Row.new w1 _ _
  rw [← hW2] at hw1
  have hts2 := Hts.out.keep (grown_below hw1 none) (by simp)
  have Ht2 := Lib.hid (Htake.out W2 hts2)
  have Hts2 := Lib.hid hts2
  have HW2 := Lib.hid hW2
  have Hw1 := Lib.hid hw1
  have c0 := hrow.cell 0
  have hrl := hrow.lt
  have Hn3 := Lib.hid (Hnext.out W2 ((0 : Nat) : Int) (Hw.out.trans (hw1.mono Hw.out.size)))
  rw [Hn1.out, Hn2.out] at Hn3
  clear hb1 hW2 hw1 Htake Hcell hrow hts2 Hnext Hn1 Hn2
  go_wp2_with fail
  rw [← HW2.out]
  refine Ht2.out.mono ?_
  rintro e W3 ⟨rfl, rfl⟩
  go_wp2_with fail
  refine Hn3.out.mono ?_
  rintro e W4 ⟨rfl, hb4⟩
  have c1 : W4.cell? ⟨w1.heap.size, 0, none⟩ = some (.int .u8 (sy : Int)) := (hb4.cell (p := ⟨w1.heap.size, 0, none⟩) hrl).trans c0
  have Hts4 := Lib.hid (Hts2.out.keep (grown_below hb4 none) (by simp))
  have Hg4 := Lib.hid ((grown_below Hw1.out (some b)).trans (grown_below hb4 (some b)))
  clear hb4 c0
  go_wp2
  refine bodyPost_ret (v := .tuple #[.int .u8 (sy : Int), .int .i64 (z : Int), .bool false]) (by simp [results, Tryz.results117, go_sem]) rfl ⟨⟨z, hz, rfl⟩, Hts4.out, Hg4.out⟩
end Go.Proofs.YtbdciiiimdbmkaaGreat

namespace Go.Proofs.YtbdciiiimdbmkaaGreat
open Go.RowKit

theorem TS.far {w w' : World} {B b left g cap : Nat} {bs : List Nat} {row : Option Nat} (h : TS w B b bs left) (hc : w.cell? ⟨b, 0, none⟩ = some (.slice (some ⟨g, 0, none⟩) bs.length cap)) (hg : w.grownBy w' row) (h1 : row ≠ some b) (h2 : row ≠ some g) : TS w' B b bs left := by
  obtain ⟨g', cap', k0, k1, k2, k3, k4, k5, k6, k7, k8, k9, k10⟩ := h
  rw [k0] at hc
  simp only [Option.some.injEq, Value.slice.injEq, Addr.mk.injEq] at hc
  obtain ⟨⟨rfl, _⟩, _, rfl⟩ := hc
  have hl := hg.block b k4 (fun e => h1 e.symm)
  have hl2 := hg.block g' k6 (fun e => h2 e.symm)
  refine ⟨g', cap', (World.cell?_of_block hl).trans k0, (World.cell?_of_block hl).trans k1, (World.frozen?_of_block hl).trans k2, k3, Nat.lt_of_lt_of_le k4 hg.size, k5, Nat.lt_of_lt_of_le k6 hg.size, k7, k8, k9, fun hne => ?_⟩
  obtain ⟨g2, off, e, hcs⟩ := k10 hne
  injection e with e
  injection e with e1 e2
  subst e1 e2
  exact ⟨_, _, rfl, fun j hj => (World.cell?_of_block (a := ⟨g', 0 + j, none⟩) hl2).trans (hcs j hj)⟩

set_option maxHeartbeats 400000 in
set_option maxRecDepth 100000 in
theorem edec_nil (w : World) (A : Option Addr) (m c : Nat) (n : Int) : Calls Tryz.prog 96 #[.pointer none, .slice A m c, .int .i64 n] w fun e w' => BytesP w' e none ∧ Below w.heap.size w w' := by
  have Hz := Lib.hid (tsize_nil w)
  go_enter Tryz.func96, Tryz.ntmps96
  go_wp2_with fail
  refine Hz.out.mono ?_
  rintro e w' ⟨rfl, rfl⟩
  go_wp2
  go_ret2
  exact ⟨⟨_, _, rfl⟩, Below.refl _ _⟩

set_option maxHeartbeats 400000 in
set_option maxRecDepth 100000 in
theorem edec_out (w : World) (p : Addr) (ls : List Nat) (log : Nat) (A : Option Addr) (m c : Nat) (n : Int) (hf : Bm.FairN ls log) (ht : STab w p ls log) (hn : n < 0 ∨ 1048576 < n) : Calls Tryz.prog 96 #[.pointer (some p), .slice A m c, .int .i64 n] w fun e w' => BytesP w' e none ∧ Below w.heap.size w w' := by
  have Hz := Lib.hid (tsize_any w p ls log ht)
  have hP := pow_fair log hf.low hf.high
  clear ht hf
  have Hdz : Hid ((((2 ^ log : Nat) : Int) == 0) = false) := Lib.hid (by rw [beq_eq_false_iff_ne]; omega)
  clear hP
  generalize 2 ^ log = S at *
  have dz := Hdz.out
  rcases hn with h | h
  · go_enter Tryz.func96, Tryz.ntmps96
    go_wp2_with fail
    refine Hz.out.mono ?_
    rintro e w' ⟨rfl, rfl⟩
    go_wp2
    go_ret2
    exact ⟨⟨_, _, rfl⟩, Below.refl _ _⟩
  · go_enter Tryz.func96, Tryz.ntmps96
    go_wp2_with fail
    refine Hz.out.mono ?_
    rintro e w' ⟨rfl, rfl⟩
    go_wp2
    go_ret2
    exact ⟨⟨_, _, rfl⟩, Below.refl _ _⟩

set_option maxHeartbeats 1000000 in
set_option maxRecDepth 100000 in
/-- No code, or too few bits: nothing. -/
theorem edec_none (w : World) (p : Addr) (ls : List Nat) (log : Nat) (A : Option Addr) (m c n : Nat) (q : Option Addr) (okb : Bool) (hf : Bm.FairN ls log) (ht : STab w p ls log) (hn : n ≤ 1048576)
    (hopen : Calls Tryz.prog 114 #[.slice A m c] w fun e w' => e = .returned (.tuple #[.pointer q, .bool okb]) ∧ Below w.heap.size w w' ∧ Calls Tryz.prog 115 #[.pointer q, .int .i64 (log : Int)] w' fun e w2 => e = .returned (.tuple #[.int .u32 0, .bool false]) ∧ w' = w2) :
    Calls Tryz.prog 96 #[.pointer (some p), .slice A m c, .int .i64 (n : Int)] w fun e w' => BytesP w' e none ∧ Below w.heap.size w w' := by
  obtain ⟨i0, hi, hz0, hz1, hz2⟩ := info_parts info_u8
  have Hz := Lib.hid (tsize_any w p ls log ht)
  have Hlog := Lib.hid (fun W (hb : Below w.heap.size w W) => tlog_any W p ls log (stab_keep _ _ _ _ _ ht hb))
  have hP := pow_fair log hf.low hf.high
  have h9 := hf.high
  have Hop := Lib.hid hopen
  clear ht hf hopen
  have Hdz : Hid ((((2 ^ log : Nat) : Int) == 0) = false) := Lib.hid (by rw [beq_eq_false_iff_ne]; omega)
  clear hP
  generalize 2 ^ log = S at *
  have dz := Hdz.out
  have dn0 : decide ((n : Int) < 0) = false := decide_eq_false (by omega)
  have dn1 : decide (1048576 < (n : Int)) = false := decide_eq_false (by omega)
  go_enter Tryz.func96, Tryz.ntmps96
  go_wp2_with fail
  refine Hz.out.mono ?_
  rintro e w' ⟨rfl, rfl⟩
  go_wp2_with fail
  refine Hop.out.mono ?_
  rintro e w1 ⟨rfl, hb1, hbt⟩
  have Hb1 := Lib.hid hb1
  have Hbt := Lib.hid hbt
  have Hl1 := Lib.hid (Hlog.out w1 hb1)
  clear hb1 hbt Hop Hlog
  go_wp2_with fail
  refine Hl1.out.mono ?_
  rintro e w' ⟨rfl, rfl⟩
  go_wp2_with fail
  refine Hbt.out.mono ?_
  rintro e w' ⟨rfl, rfl⟩
  go_wp2_with (at_make; refine wpList_make_own _ rfl _ _ 45 rfl w.heap.size 5 i0 (.int .u8 0) 1 Tryz.underlying45 hi hz0 hz1 .i64 .i64 _ n rfl rfl ?c1 ?c2 ?c3 ?c4 ?_)
  case c1 => rfl
  case c2 => rw [hz2]; omega
  case c3 => unfold maxLen; omega
  case c4 => exact Hb1.out.size
  intro w5 hown hg5
  have Hb5 := Lib.hid (Hb1.out.grown hg5 Hb1.out.size (by simp))
  clear hown hg5
  go_wp2
  go_loopw [11, 12, 13, 14] (fun ok _ _ _ wr => ok = .bool false ∧ Hid (Below w.heap.size w wr)) (fun _ _ _ _ _ => 0)
  case atStart => exact ⟨rfl, Hb5⟩
  case round =>
    obtain ⟨rfl, hb⟩ := hrel
    go_wp2
    go_ret2
    exact ⟨⟨_, _, rfl⟩, hb.out⟩

set_option maxHeartbeats 1000000 in
set_option maxRecDepth 100000 in
/-- Too few bits: nothing. -/
theorem edec_few (w : World) (p : Addr) (ls : List Nat) (log : Nat) (A : Option Addr) (m c n : Nat) (hf : Bm.FairN ls log) (ht : STab w p ls log) (hn : n ≤ 1048576)
    (hopen : Calls Tryz.prog 114 #[.slice A m c] w fun e w' => ∃ b : Nat, e = .returned (.tuple #[.pointer (some ⟨b, 0, none⟩), .bool true]) ∧ Below w.heap.size w w' ∧ Calls Tryz.prog 115 #[.pointer (some ⟨b, 0, none⟩), .int .i64 (log : Int)] w' fun e w2 => e = .returned (.tuple #[.int .u32 0, .bool false]) ∧ w' = w2) :
    Calls Tryz.prog 96 #[.pointer (some p), .slice A m c, .int .i64 (n : Int)] w fun e w' => BytesP w' e none ∧ Below w.heap.size w w' := by
  obtain ⟨i0, hi, hz0, hz1, hz2⟩ := info_parts info_u8
  have Hz := Lib.hid (tsize_any w p ls log ht)
  have Hlog := Lib.hid (fun W (hb : Below w.heap.size w W) => tlog_any W p ls log (stab_keep _ _ _ _ _ ht hb))
  have hP := pow_fair log hf.low hf.high
  have h9 := hf.high
  have Hop := Lib.hid hopen
  clear ht hf hopen
  have Hdz : Hid ((((2 ^ log : Nat) : Int) == 0) = false) := Lib.hid (by rw [beq_eq_false_iff_ne]; omega)
  clear hP
  generalize 2 ^ log = S at *
  have dz := Hdz.out
  have dn0 : decide ((n : Int) < 0) = false := decide_eq_false (by omega)
  have dn1 : decide (1048576 < (n : Int)) = false := decide_eq_false (by omega)
  go_enter Tryz.func96, Tryz.ntmps96
  go_wp2_with fail
  refine Hz.out.mono ?_
  rintro e w' ⟨rfl, rfl⟩
  go_wp2_with fail
  refine Hop.out.mono ?_
  rintro e w1 ⟨b, rfl, hb1, hbt⟩
  have Hb1 := Lib.hid hb1
  have Hbt := Lib.hid hbt
  have Hl1 := Lib.hid (Hlog.out w1 hb1)
  clear hb1 hbt Hop Hlog
  go_wp2_with fail
  refine Hl1.out.mono ?_
  rintro e w' ⟨rfl, rfl⟩
  go_wp2_with fail
  refine Hbt.out.mono ?_
  rintro e w' ⟨rfl, rfl⟩
  go_wp2_with (at_make; refine wpList_make_own _ rfl _ _ 45 rfl w.heap.size 5 i0 (.int .u8 0) 1 Tryz.underlying45 hi hz0 hz1 .i64 .i64 _ n rfl rfl ?c1 ?c2 ?c3 ?c4 ?_)
  case c1 => rfl
  case c2 => rw [hz2]; omega
  case c3 => unfold maxLen; omega
  case c4 => exact Hb1.out.size
  intro w5 hown hg5
  have Hb5 := Lib.hid (Hb1.out.grown hg5 Hb1.out.size (by simp))
  clear hown hg5
  go_wp2
  go_loopw [11, 12, 13, 14] (fun ok _ _ _ wr => ok = .bool false ∧ Hid (Below w.heap.size w wr)) (fun _ _ _ _ _ => 0)
  case atStart => exact ⟨rfl, Hb5⟩
  case round =>
    obtain ⟨rfl, hb⟩ := hrel
    go_wp2
    go_ret2
    exact ⟨⟨_, _, rfl⟩, hb.out⟩

def lenOf : Value → Nat
  | .slice _ n _ => n
  | _ => 0
theorem own_kept {w w' : World} {base b : Nat} {e : TypeId} {v : Value} {n : Nat} {xs : List Value} (h : w.ownsRow base e 1 v n xs) (hg : w.grownBy w' (some b)) (hb : b < base) : w'.ownsRow base e 1 v n xs :=
  h.kept hg (by
    cases hv : v.ownBlock with
    | none => exact .inl rfl
    | some x => exact .inr (fun e => by injection e with e; have := (h.lt x hv).1; omega))
theorem own_len {w : World} {base : Nat} {e : TypeId} {v : Value} {n : Nat} {xs : List Value} (h : w.ownsRow base e 1 v n xs) : lenOf v = n := by
  rcases h.2 with ⟨rfl, h0⟩ | ⟨g, cap, cur, rfl, _⟩
  · exact h0.symm
  · rfl

set_option maxHeartbeats 2000000 in
set_option maxRecDepth 100000 in
/-- A code of bits enough. -/
theorem edec_some (w : World) (p : Addr) (ls : List Nat) (log : Nat) (A : Option Addr) (c n M q : Nat) (bs : List Nat) (hf : Bm.FairN ls log) (ht : STab w p ls log) (hn : n ≤ 1048576) (hs : bs.length ≤ 10000) (hbs : ∀ x ∈ bs, x < 256) (hM : M < 2 ^ (q + log)) (hval : Bm.valB bs = M + 2 ^ (q + log)) (hL : q + log < 8 * bs.length)
    (hopen : Calls Tryz.prog 114 #[.slice A bs.length c] w fun e w' => ∃ b, e = .returned (.tuple #[.pointer (some ⟨b, 0, none⟩), .bool true]) ∧ TS w' w.heap.size b bs (q + log) ∧ Below w.heap.size w w') :
    Calls Tryz.prog 96 #[.pointer (some p), .slice A bs.length c, .int .i64 (n : Int)] w fun e w' => BytesP w' e (Bm.decR ls log n (M % 2 ^ q) q (M / 2 ^ q)) ∧ Below w.heap.size w w' := by
  obtain ⟨i0, hi, hz0, hz1, hz2⟩ := info_parts info_u8
  obtain ⟨r, hr⟩ : ∃ r, r = Bm.decR ls log n (M % 2 ^ q) q (M / 2 ^ q) := ⟨_, rfl⟩
  rw [← hr]
  have Hz := Lib.hid (tsize_any w p ls log ht)
  have Hlog := Lib.hid (fun W (hb : Below w.heap.size w W) => tlog_any W p ls log (stab_keep _ _ _ _ _ ht hb))
  have hP := pow_fair log hf.low hf.high
  have h9 := hf.high
  have hst : M / 2 ^ q < 2 ^ log := by
    rw [Nat.pow_add, Nat.mul_comm] at hM
    exact (Nat.div_lt_iff_lt_mul (Nat.pow_pos (by omega))).2 hM
  have hfirst : Bm.valB bs / 2 ^ q % 2 ^ log = M / 2 ^ q := by
    rw [hval, Bm.seal_digit M (q + log) q log (Nat.le_refl _), Nat.mod_eq_of_lt hst]
  have Htake := Lib.hid (fun W b (h : TS W w.heap.size b bs (q + log)) => btk_okC w.heap.size b (q + log) bs log W (by omega) hbs (by omega) (by omega) hL h)
  rw [Nat.add_sub_cancel, hfirst] at Htake
  have Hdig : Hid (∀ left k, k ≤ left → left ≤ q + log → M % 2 ^ left / 2 ^ (left - k) = Bm.valB bs / 2 ^ (left - k) % 2 ^ k ∧ M % 2 ^ left % 2 ^ (left - k) = M % 2 ^ (left - k)) := Lib.hid (fun left k h1 h2 => by
    obtain ⟨e1, e2⟩ := mod_top M left k h1
    rw [e1, e2, hval, Bm.seal_digit M (q + log) (left - k) k (by omega)]
    exact ⟨rfl, rfl⟩)
  have Hok := Lib.hid (fun W b left st (hW : Below w.heap.size w W) (h1 : left ≤ q + log) (h2 : st < 2 ^ log) (h3 : Bm.bitsAt ls log st ≤ left) (h : TS W w.heap.size b bs left) => estep_ok w W p ls log w.heap.size b left st bs hf ht hW (Nat.le_refl _) hs hbs (by omega) h2 h3 h)
  have Hfew := Lib.hid (fun W b left st (hW : Below w.heap.size w W) (h2 : st < 2 ^ log) (h3 : left < Bm.bitsAt ls log st) (h : TS W w.heap.size b bs left) => estep_few w W p ls log w.heap.size b left st bs hf ht hW h2 h3 h)
  have Hf := Lib.hid hf
  have Hop := Lib.hid hopen
  have Hr := Lib.hid hr
  clear ht hf hopen hr hfirst hval hM hbs
  have Hdz : Hid ((((2 ^ log : Nat) : Int) == 0) = false) := Lib.hid (by rw [beq_eq_false_iff_ne]; omega)
  obtain ⟨S, hS⟩ : ∃ S, S = 2 ^ log := ⟨_, rfl⟩
  have HS := Lib.hid hS
  rw [← hS] at Hz Hdz Hok Hfew hP hst
  clear hS
  have dz := Hdz.out
  have dn0 : decide ((n : Int) < 0) = false := decide_eq_false (by omega)
  have dn1 : decide (1048576 < (n : Int)) = false := decide_eq_false (by omega)
  go_enter Tryz.func96, Tryz.ntmps96
  go_wp2_with fail
  refine Hz.out.mono ?_
  rintro e w' ⟨rfl, rfl⟩
  go_wp2_with fail
  refine Hop.out.mono ?_
  rintro e w1 ⟨b, rfl, hts, hb1⟩
  have Hb1 := Lib.hid hb1
  have Hts := Lib.hid hts
  have Hl1 := Lib.hid (Hlog.out w1 hb1)
  have Ht1 := Lib.hid (Htake.out w1 b hts)
  obtain ⟨g, cap, k0, _, _, hwb, hbl, hwg, hgl, _⟩ := hts
  have K0 := Lib.hid k0
  clear hb1 k0 Hop Hlog Htake
  go_wp2_with fail
  refine Hl1.out.mono ?_
  rintro e w' ⟨rfl, rfl⟩
  go_wp2_with fail
  refine Ht1.out.mono ?_
  rintro e w2 ⟨rfl, hts2, hg2, hk2⟩
  have Hb2 := Lib.hid (Hb1.out.grown hg2 Hb1.out.size (fun x e => by injection e with e; omega))
  have hs2 := hg2.size
  have Hts2 := Lib.hid hts2
  have Hk2 := Lib.hid (hk2.trans K0.out)
  clear hts2 hg2 hk2 Ht1 Hl1 K0 Hts Hb1
  generalize hF : M / 2 ^ q = F at *
  have HF := Lib.hid hF
  clear hF
  go_wp2_with (at_make; refine wpList_make_own _ rfl _ _ 45 rfl w2.heap.size 5 i0 (.int .u8 0) 1 Tryz.underlying45 hi hz0 hz1 .i64 .i64 _ n rfl rfl ?c1 ?c2 ?c3 ?c4 ?_)
  case c1 => rfl
  case c2 => rw [hz2]; omega
  case c3 => unfold maxLen; omega
  case c4 => exact Nat.le_refl _
  intro w5 hown hg5
  have Hb5 := Lib.hid (Hb2.out.grown hg5 Hb2.out.size (by simp))
  have Hown := Lib.hid hown
  have Hts5 := Lib.hid (Hts2.out.keep hg5 (by simp))
  have Hk5 := Lib.hid ((World.cell?_of_block (a := ⟨b, 0, none⟩) (hg5.block b (by omega) (by simp))).trans Hk2.out)
  have hs5 := hg5.size
  clear hown hg5 Hb2 Hts2 Hk2
  go_wp2
  clear dn0 dn1 dz Hdz Hz
  go_loopw [11, 12, 13, 14] (fun ok sv u _ wr => ∃ (k left st : Nat) (acc : List Nat) (okb : Bool), ok = .bool okb ∧ sv = .int .i64 (st : Int) ∧ k ≤ n ∧ acc.length = k ∧ left ≤ q ∧ st ≤ 512 ∧ w5.heap.size ≤ wr.heap.size ∧ Hid (wr.ownsRow w2.heap.size 5 1 u k (u8s acc)) ∧ Hid (Below w.heap.size w wr) ∧ Hid ((okb = true → st < S ∧ TS wr w.heap.size b bs left ∧ wr.cell? ⟨b, 0, none⟩ = some (.slice (some ⟨g, 0, none⟩) bs.length cap) ∧ r = (Bm.decR ls log (n - k) (M % 2 ^ left) left st).map (acc ++ ·)) ∧ (okb = false → r = none))) (fun _ _ u _ _ => n - lenOf u)
  case atStart => exact ⟨0, q, F, [], true, rfl, rfl, by omega, rfl, Nat.le_refl _, by omega, Nat.le_refl _, Hown, Hb5, Lib.hid ⟨fun _ => ⟨hst, Hts5.out, Hk5.out, by rw [Hr.out, Nat.sub_zero]; cases Bm.decR ls log n (M % 2 ^ q) q F <;> rfl⟩, fun h => by cases h⟩⟩
  case round =>
    obtain ⟨k, left, st, acc, okb, rfl, rfl, hk, hacc, hleft, hst5, hsz, hown, hbel, hrest⟩ := hrel
    clear Hown Hb5 Hts5 Hk5 Hr HF hst
    obtain ⟨A1, c1, rfl, hrd, hA1⟩ := own_reads hown.out
    have Hlen := Lib.hid (own_len hown.out)
    have Hrd := Lib.hid hrd
    clear hrd hA1
    cases okb with
    | false =>
      have hx := Lib.hid (hrest.out.2 rfl)
      clear hrest hown
      go_wp2
      go_ret2
      rw [hx.out]
      exact ⟨⟨_, _, rfl⟩, hbel.out⟩
    | true =>
      obtain ⟨hst, hts, hc0, hrr⟩ := hrest.out.1 rfl
      have Hts := Lib.hid hts
      have Hc0 := Lib.hid hc0
      have Hrr := Lib.hid hrr
      clear hts hc0 hrr hrest
      by_cases hkn : k < n
      · have hst2 : st < 2 ^ log := by rw [← HS.out]; exact hst
        have hunf : Bm.decR ls log (n - k) (M % 2 ^ left) left st = if left < Bm.bitsAt ls log st then none else (Bm.decR ls log (n - (k + 1)) (M % 2 ^ left % 2 ^ (left - Bm.bitsAt ls log st)) (left - Bm.bitsAt ls log st) (Bm.baseAt ls log st + M % 2 ^ left / 2 ^ (left - Bm.bitsAt ls log st))).map fun l => Bm.symAt ls log st :: l := by
          rw [show n - k = (n - (k + 1)) + 1 by omega, Bm.decR]
        rw [hunf] at Hrr
        clear hunf
        have hba := Bm.base_at ls log st Hf.out hst2
        by_cases hfew : left < Bm.bitsAt ls log st
        · rw [if_pos hfew] at Hrr
          have Hstep := Lib.hid (Hfew.out wr b left st hbel.out hst hfew Hts.out)
          clear hba hfew hst2
          generalize Bm.symAt ls log st = sy at *
          go_wp2_with fail
          refine Hstep.out.mono ?_
          rintro e W6 ⟨⟨v, hv, rfl⟩, _, hg6⟩
          have hs6 := hg6.size
          have Hown6 := Lib.hid (own_kept hown.out hg6 (by omega))
          have Hbel6 := Lib.hid (hbel.out.grown hg6 hbel.out.size (fun x e => by injection e with e; omega))
          clear hg6 hown hbel Hstep
          go_wp2_with (at_builtin; refine wpList_append_own _ rfl _ _ 45 rfl w2.heap.size 5 i0 (.int .u8 0) 1 1 Tryz.underlying45 hi hz0 hz1 hz2 rfl (by decide) _ _ _ rfl (Hown6.out.alloc _) ⟨W6.heap.size, 0, none⟩ 1 1 [.int .u8 (sy : Int)] rfl rfl ?d1 ?d2 ?d3 ?d4 ?d5 ?_)
          case d1 =>
            intro j u hj
            match j, hj with
            | 0, hj => simp at hj; subst hj; simp [Addr.add]
          case d2 => intro u hu; simp at hu; subst hu; rfl
          case d3 => unfold maxLen; omega
          case d4 => omega
          case d5 => simp; omega
          intro u' w7 hown7 hgr7 _
          have hbel7 : Below w.heap.size w w7 := (Hbel6.out.alloc Hbel6.out.size _).grown hgr7 (by have := Hbel6.out.size; simp; omega) (fun x e => by have := (Hown6.out.lt x e).1; omega)
          have e : u8s acc ++ [Value.int .u8 (sy : Int)] = u8s (acc ++ [sy]) := by simp [u8s]
          rw [e] at hown7
          have hl7 := own_len hown7
          have hs7 : w5.heap.size ≤ w7.heap.size := by have := hgr7.size; simp at this; omega
          have Hown7 := Lib.hid hown7
          have Hbel7 := Lib.hid hbel7
          clear hown7 hgr7 hbel7 e
          go_wp2
          go_roundw
          case rel => exact ⟨k + 1, left, v, acc ++ [sy], false, rfl, rfl, by omega, by simp [hacc], hleft, by omega, hs7, Hown7, Hbel7, Lib.hid ⟨fun h => (by cases h), fun _ => Hrr.out⟩⟩
          case measure => rw [hl7]; show n - (k + 1) < n - k; omega
        · rw [if_neg hfew] at Hrr
          have hkl : Bm.bitsAt ls log st ≤ left := by omega
          obtain ⟨g1, g2⟩ := Hdig.out left _ hkl (by omega)
          rw [g1, g2] at Hrr
          have hv := Nat.mod_lt (Bm.valB bs / 2 ^ (left - Bm.bitsAt ls log st)) (Nat.two_pow_pos (Bm.bitsAt ls log st))
          have hnx : Bm.baseAt ls log st + Bm.valB bs / 2 ^ (left - Bm.bitsAt ls log st) % 2 ^ Bm.bitsAt ls log st < S := by
            rw [HS.out]
            generalize 2 ^ Bm.bitsAt ls log st = P at *
            omega
          have Hstep := Lib.hid (Hok.out wr b left st hbel.out (by omega) hst hkl Hts.out)
          clear hba hfew hst2 g1 g2 hv
          generalize Bm.symAt ls log st = sy at *
          generalize Bm.baseAt ls log st + Bm.valB bs / 2 ^ (left - Bm.bitsAt ls log st) % 2 ^ Bm.bitsAt ls log st = nx at *
          generalize Bm.bitsAt ls log st = kb at *
          go_wp2_with fail
          refine Hstep.out.mono ?_
          rintro e W6 ⟨rfl, hts6, hg6, hk6⟩
          have hs6 := hg6.size
          have Hts6 := Lib.hid hts6
          have Hk6 := Lib.hid (hk6.trans Hc0.out)
          have Hown6 := Lib.hid (own_kept hown.out hg6 (by omega))
          have Hbel6 := Lib.hid (hbel.out.grown hg6 hbel.out.size (fun x e => by injection e with e; omega))
          clear hg6 hown hbel Hstep hts6 hk6 Hc0 Hts
          go_wp2_with (at_builtin; refine wpList_append_own _ rfl _ _ 45 rfl w2.heap.size 5 i0 (.int .u8 0) 1 1 Tryz.underlying45 hi hz0 hz1 hz2 rfl (by decide) _ _ _ rfl (Hown6.out.alloc _) ⟨W6.heap.size, 0, none⟩ 1 1 [.int .u8 (sy : Int)] rfl rfl ?d1 ?d2 ?d3 ?d4 ?d5 ?_)
          case d1 =>
            intro j u hj
            match j, hj with
            | 0, hj => simp at hj; subst hj; simp [Addr.add]
          case d2 => intro u hu; simp at hu; subst hu; rfl
          case d3 => unfold maxLen; omega
          case d4 => omega
          case d5 => simp; omega
          intro u' w7 hown7 hgr7 _
          have hbel7 : Below w.heap.size w w7 := (Hbel6.out.alloc Hbel6.out.size _).grown hgr7 (by have := Hbel6.out.size; simp; omega) (fun x e => by have := (Hown6.out.lt x e).1; omega)
          have e : u8s acc ++ [Value.int .u8 (sy : Int)] = u8s (acc ++ [sy]) := by simp [u8s]
          rw [e] at hown7
          have hl7 := own_len hown7
          have hs7 : w5.heap.size ≤ w7.heap.size := by have := hgr7.size; simp at this; omega
          have hgz : W6.grownBy (W6.alloc (.cells #[.int .u8 (sy : Int)] 5)) none := grown_alloc (grown_refl _ _) _
          have Hk7a := Lib.hid ((World.cell?_of_block (a := ⟨b, 0, none⟩) (hgz.block b (by omega) (by simp))).trans Hk6.out)
          have Hts7a := Lib.hid (Hts6.out.far Hk6.out hgz (by simp) (by simp))
          have hnb : ∀ x, x < w2.heap.size → (Value.slice A1 k c1).ownBlock ≠ some x := fun x hx e => by have := (Hown6.out.lt x e).1; omega
          have Hts7 := Lib.hid (Hts7a.out.far Hk7a.out hgr7 (hnb b (by omega)) (hnb g (by omega)))
          have Hk7 := Lib.hid ((World.cell?_of_block (a := ⟨b, 0, none⟩) (hgr7.block b (by simp; omega) (fun e => hnb b (by omega) e.symm))).trans Hk7a.out)
          have Hown7 := Lib.hid hown7
          have Hbel7 := Lib.hid hbel7
          clear hown7 hgr7 hbel7 e hgz Hk7a Hts7a hnb Hts6 Hk6 Hown6 Hbel6
          go_wp2
          go_roundw
          case rel =>
            refine ⟨k + 1, left - kb, nx, acc ++ [sy], true, rfl, rfl, by omega, by simp [hacc], by omega, by omega, hs7, Hown7, Hbel7, Lib.hid ⟨fun _ => ⟨hnx, Hts7.out, Hk7.out, ?_⟩, fun h => (by cases h)⟩⟩
            rw [Hrr.out]
            cases Bm.decR ls log (n - (k + 1)) (M % 2 ^ (left - kb)) (left - kb) nx with
            | none => rfl
            | some l => simp
          case measure => rw [hl7]; show n - (k + 1) < n - k; omega
      · obtain rfl : k = n := by omega
        rw [Nat.sub_self] at Hrr
        have Hleft := Lib.hid (bleft_any w.heap.size b left bs wr Hts.out)
        clear Hts Hc0 Hok Hfew
        by_cases hz : st = 0 ∧ left = 0
        · obtain ⟨rfl, rfl⟩ := hz
          have Hx := Lib.hid (show r = some acc by rw [Hrr.out]; simp [Bm.decR])
          have Hl := Lib.hid hacc
          clear Hrr hacc hown
          go_wp2_with fail
          refine Hleft.out.mono ?_
          rintro e w' ⟨rfl, rfl⟩
          go_wp2
          go_ret2
          rw [Hx.out]
          exact ⟨⟨A1, c1, by rw [Hl.out]; rfl, Hrd.out⟩, hbel.out⟩
        · have Hx := Lib.hid (show r = none by rw [Hrr.out, Bm.decR, if_neg hz]; rfl)
          clear Hrr hacc hown
          by_cases hl0 : 0 < left
          · have d1 : decide (0 < left) = true := decide_eq_true hl0
            go_wp2_with fail
            refine Hleft.out.mono ?_
            rintro e w' ⟨rfl, rfl⟩
            go_wp2
            go_ret2
            rw [Hx.out]
            exact ⟨⟨_, _, rfl⟩, hbel.out⟩
          · have hs0 : 0 < st := by omega
            obtain rfl : left = 0 := by omega
            have d1 : ((st : Int) == 0) = false := by rw [beq_eq_false_iff_ne]; omega
            go_wp2_with fail
            refine Hleft.out.mono ?_
            rintro e w' ⟨rfl, rfl⟩
            go_wp2
            go_ret2
            rw [Hx.out]
            exact ⟨⟨_, _, rfl⟩, hbel.out⟩
end Go.Proofs.YtbdciiiimdbmkaaGreat

namespace Go.Proofs.YtbdciiiimdbmkaaGreat
open Go.RowKit

theorem edec_any (w : World) (p : Addr) (ls : List Nat) (log : Nat) (A : Option Addr) (c : Nat) (bs : List Nat) (n : Int) (hf : Bm.FairN ls log) (ht : STab w p ls log) (hs : bs.length ≤ 10000) (hbs : ∀ x ∈ bs, x < 256) (hr : Reads w A (u8s bs)) :
    Calls Tryz.prog 96 #[.pointer (some p), .slice A bs.length c, .int .i64 n] w fun e w' => BytesP w' e (Bm.decB ls log bs n) ∧ Below w.heap.size w w' := by
  by_cases hn : n < 0 ∨ 1048576 < n
  · have hx : Bm.decB ls log bs n = none := by
      unfold Bm.decB
      cases Bm.openN bs with
      | none => rfl
      | some t => rw [Option.bind_some]; unfold Bm.decA; rw [if_neg (by omega)]
    rw [hx]
    exact edec_out w p ls log A bs.length c n hf ht hn
  · obtain ⟨m, rfl⟩ := Int.eq_ofNat_of_zero_le (show 0 ≤ n by omega)
    rcases open_bits A c bs w hs hbs hr with ⟨ho, hc⟩ | ⟨M, L, ho, hM, hval, hL, hc⟩
    · have hx : Bm.decB ls log bs (m : Int) = none := by unfold Bm.decB; rw [ho]; rfl
      rw [hx]
      exact edec_none w p ls log A bs.length c m none false hf ht (by omega) (hc.mono fun e w' ⟨he, hb⟩ => ⟨he, hb, btk_nil w' _⟩)
    · by_cases hfew : L < log
      · have hx : Bm.decB ls log bs (m : Int) = none := by
          unfold Bm.decB
          rw [ho, Option.bind_some]
          unfold Bm.decA
          rw [if_neg (by omega)]
        rw [hx]
        have h9 := hf.high
        refine edec_few w p ls log A bs.length c m hf ht (by omega) (hc.mono fun e w' ⟨b, he, hts, hb⟩ => ⟨b, he, hb, btk_few w.heap.size b L bs log w' (by omega) hfew hts⟩)
      · obtain ⟨q, rfl⟩ : ∃ q, L = q + log := ⟨L - log, by omega⟩
        have hx : Bm.decB ls log bs (m : Int) = Bm.decR ls log m (M % 2 ^ q) q (M / 2 ^ q) := by
          unfold Bm.decB
          rw [ho, Option.bind_some]
          unfold Bm.decA
          rw [if_pos ⟨rfl, by omega, by omega, by omega⟩, Int.toNat_natCast, Nat.add_sub_cancel]
        rw [hx]
        exact edec_some w p ls log A c m M q bs hf ht (by omega) hs hbs hM hval hL hc
end Go.Proofs.YtbdciiiimdbmkaaGreat

namespace Go.Proofs.YtbdciiiimdbmkaaGreat
open Go.RowKit

theorem fair_248 : Bm.Fair [24, 8] 5 := by decide
end Go.Proofs.YtbdciiiimdbmkaaGreat
