/-
  Layer 7 (fse): the reference's Decode, by its walk. Premise: what the reference's Open answers (its bits as a number, how many). Conditions: as each theorem's premises say.
  What layer 7's calls (fse) are to answer, as the laws' walks ask for it: definitions, each a premise of a law's walk; and their mathematics: what is coded is decoded again, what is decoded has just this code. No condition.
  Plain mathematics between layers 5 and 7: the share of counts is fair, and each byte that is counted has a part of it; a code has no more than so many bits. No condition.
  Plain mathematics for layer 16 (seqs): texts, streams and sections of steps, read and made; a section that is made is read as the steps that it has, whatever stands behind. It speaks of no program. No condition.
  Plain mathematics for layer 16 (seqs), more of it: sections, case by case. No condition.
  The reference's layer 16: Right, by its walk. Conditions: as each theorem's premises say.
-/
import Derived.Test.YtbdciiiimdbmkaaGreatGav
import Derived.Test.YtbdciiiimdbmkaaGreatGae
import Derived.Test.YtbdciiiimdbmkaaGreatGap
import Derived.Test.YtbdciiiimdbmkaaGreatGaa
import Derived.Deep.DeepCutAuto
namespace Go.Proofs.YtbdciiiimdbmkaaGreat
open Go.RowKit
namespace Bm
/-- The symbols of bits; none: there are none. -/
def decA (ls : List Nat) (log : Nat) (ok : Bool) (M L : Nat) (n : Int) : Option (List Nat) :=
  if ok = true ∧ 0 ≤ n ∧ n ≤ 1048576 ∧ log ≤ L then decR ls log n.toNat (M % 2 ^ (L - log)) (L - log) (M / 2 ^ (L - log)) else none
end Bm
/-- What Decode answers. -/
def DecA (base : Nat) (w' : World) (e : Ending) : Option (List Nat) → Prop
  | none => e = .returned (.tuple #[.slice none 0 0, .bool false])
  | some l => ∃ u, e = .returned (.tuple #[u, .bool true]) ∧ w'.ownsRow base 5 1 u l.length (u8s l)

set_option maxHeartbeats 2000000 in
set_option maxRecDepth 100000 in
theorem gdec_any (A B : Option Addr) (c d nb : Nat) (ls : List Nat) (log M L : Nat) (ok : Bool) (n : Int) (w : World) (h : Bm.FairN ls log) (hn : Bm.IntOk n) (hL : L ≤ 100000) (hM : M < 2 ^ L) (hr : Reads w A (c3 (Bm.cellsM ls log)))
    (hopen : Calls Tryz.prog 91 #[.slice B nb d] w fun e w' => ∃ A' c', e = .returned (.tuple #[.slice A' L c', .bool ok]) ∧ L ≤ c' ∧ c' ≤ maxLen ∧ Reads w' A' (i64s (Bm.bitsOf M L)) ∧ Below w.heap.size w w') :
    Calls Tryz.prog 67 #[.slice A (2 ^ log) c, .int .i64 (log : Int), .slice B nb d, .int .i64 n] w fun e w' => DecA w.heap.size w' e (Bm.decA ls log ok M L n) ∧ Below w.heap.size w w' := by
  obtain ⟨i0, hi, hz0, hz1, hz2⟩ := info_parts info_u8
  have h9 := h.high
  have hlow := h.low
  obtain ⟨hn0, hn1⟩ := hn
  obtain ⟨r, hres⟩ : ∃ r, r = Bm.decA ls log ok M L n := ⟨_, rfl⟩
  rw [← hres]
  have Hf := Lib.hid h
  have Hr := Lib.hid hr
  have HM := Lib.hid hM
  have Hop := Lib.hid hopen
  have Hres := Lib.hid hres
  obtain ⟨S, hS⟩ : ∃ S, S = 2 ^ log := ⟨_, rfl⟩
  have hS512 : S ≤ 512 := by rw [hS]; exact Nat.pow_le_pow_right (n := 2) (by omega) h9
  have HS := Lib.hid hS
  rw [← hS]
  clear h hr hM hopen hres hS
  have Hno : Hid (¬ (ok = true ∧ 0 ≤ n ∧ n ≤ 1048576 ∧ log ≤ L) → r = none) := Lib.hid (fun hx => by rw [Hres.out]; unfold Bm.decA; rw [if_neg hx])
  go_enter Tryz.func67, Tryz.ntmps67
  go_wp2_with fail
  refine Hop.out.mono ?_
  rintro e w1 ⟨A', c', rfl, hLc, hcm, hrd, hb1⟩
  have Hb1 := Lib.hid hb1
  have Hrd := Lib.hid hrd
  clear hb1 hrd Hop
  cases ok with
  | false =>
    have hx := Lib.hid (Hno.out (by simp))
    clear Hno Hres
    go_wp2
    go_ret2
    exact ⟨by rw [hx.out]; rfl, Hb1.out⟩
  | true =>
  by_cases c1 : n < 0
  · have hx := Lib.hid (Hno.out (by omega))
    clear Hno Hres
    go_wp2
    go_ret2
    exact ⟨by rw [hx.out]; rfl, Hb1.out⟩
  by_cases c2 : 1048576 < n
  · have hx := Lib.hid (Hno.out (by omega))
    clear Hno Hres
    go_wp2
    go_ret2
    exact ⟨by rw [hx.out]; rfl, Hb1.out⟩
  by_cases c3 : L < log
  · have hx := Lib.hid (Hno.out (by omega))
    clear Hno Hres
    go_wp2
    go_ret2
    exact ⟨by rw [hx.out]; rfl, Hb1.out⟩
  obtain ⟨m, rfl⟩ := Int.eq_ofNat_of_zero_le (show 0 ≤ n by omega)
  obtain ⟨q, rfl⟩ : ∃ q, L = q + log := ⟨L - log, by omega⟩
  have hre : r = Bm.decR ls log m (M % 2 ^ q) q (M / 2 ^ q) := by
    rw [Hres.out]
    unfold Bm.decA
    rw [if_pos ⟨rfl, by omega, by omega, by omega⟩, Int.toNat_natCast, Nat.add_sub_cancel]
  have hst : M / 2 ^ q < 2 ^ log := by
    have h1 := HM.out
    rw [Nat.pow_add, Nat.mul_comm] at h1
    exact (Nat.div_lt_iff_lt_mul (Nat.pow_pos (by omega))).2 h1
  have hcf := fun W => cut_from A' (q + log) c' q W (by omega) hLc
  have hct := fun W => cut_to A' (q + log) c' q W (by omega) hLc
  have hbb := bits_behind Hrd.out (c := c') (q := q) (by omega) hLc
  have hbt := Lib.hid (bits_to Hrd.out (q := q) (by omega))
  rw [Nat.add_sub_cancel_left] at hcf hbb
  have Hnum := Lib.hid (rnum_reads _ log (c' - q) _ w1 (by omega) hst hbb)
  have hqi : ((q + log : Nat) : Int) - (log : Int) = (q : Int) := by omega
  have Hre := Lib.hid hre
  have hN := Lib.hid (Nat.mod_lt M (Nat.pow_pos (n := q) (show 0 < 2 by omega)))
  rw [← HS.out] at hst
  clear hre Hres Hno HM Hrd hbb
  generalize M / 2 ^ q = st at hst Hnum Hre
  generalize M % 2 ^ q = N0 at hbt Hre hN
  go_wp2_with fail
  refine Hnum.out.mono ?_
  rintro e w' ⟨rfl, rfl⟩
  clear hcf Hnum
  go_wp2
  clear hct
  go_loopw [8, 9, 10, 12, 13, 14, 15, 16] (fun _ _ lv sv u i _ _ wr => ∃ (k N len s0 : Nat) (acc : List Nat), k ≤ m ∧ i = .int .i64 (k : Int) ∧ lv = .slice A' len c' ∧ sv = .int .i64 (s0 : Int) ∧ len ≤ q ∧ s0 < S ∧ acc.length = k ∧ Hid (N < 2 ^ len) ∧ Hid (Reads w1 A' (i64s (Bm.bitsOf N len))) ∧ Hid (wr.ownsRow w1.heap.size 5 1 u k (u8s acc)) ∧ Hid (r = (Bm.decR ls log (m - k) N len s0).map (acc ++ ·)) ∧ Hid (Below w1.heap.size w1 wr)) (fun _ _ _ _ _ i _ _ _ => m - (intOf i).toNat)
  case atStart => exact ⟨0, N0, q, st, [], by omega, rfl, rfl, rfl, by omega, hst, rfl, hN, hbt, Lib.hid (World.ownsRow_nil _ _ _ _), Lib.hid (by rw [Hre.out, Nat.sub_zero]; cases Bm.decR ls log m N0 q st <;> rfl), Lib.hid (Below.refl _ _)⟩
  case round =>
    obtain ⟨k, N, len, s0, acc, hk, rfl, rfl, rfl, hlq, hs0, hacc, hNl, hrd, hown, hrr, hbel⟩ := hrel
    clear Hre hbt hN hst
    have hbelw := Lib.hid (Hb1.out.trans (hbel.out.mono Hb1.out.size))
    by_cases hkm : k < m
    · obtain ⟨g, off, rfl, hc⟩ := reads_c3 (reads_on Hr.out hbelw.out) (by rw [Bm.cellsM_length, ← HS.out]; omega)
      have hs2 : s0 < 2 ^ log := by rw [← HS.out]; exact hs0
      obtain ⟨k0, k1, k2⟩ := hc s0 (by rw [Bm.cellsM_length]; exact hs2)
      rw [Bm.cellsM_get] at k0 k1 k2
      dsimp only at k0 k1 k2
      have hbl := Bm.bits_at ls log s0 Hf.out hs2
      have hba := Bm.base_at ls log s0 Hf.out hs2
      have hsy2 : Bm.symAt ls log s0 < 256 := by
        obtain ⟨h1, _⟩ := Bm.tab_sym ls log s0 Hf.out hs2
        have := Hf.out.len
        omega
      have hz9 := Nat.le_trans (Nat.le_add_right _ _) hba
      rw [← HS.out] at hba hz9
      have hunf : Bm.decR ls log (m - k) N len s0 = if len < Bm.bitsAt ls log s0 then none else (Bm.decR ls log (m - (k + 1)) (N % 2 ^ (len - Bm.bitsAt ls log s0)) (len - Bm.bitsAt ls log s0) (Bm.baseAt ls log s0 + N / 2 ^ (len - Bm.bitsAt ls log s0))).map fun l => Bm.symAt ls log s0 :: l := by
        rw [show m - k = (m - (k + 1)) + 1 by omega, Bm.decR]
      rw [hunf] at hrr
      clear hc hunf hs2
      generalize Bm.symAt ls log s0 = sy at k0 hrr hsy2
      generalize hPg : 2 ^ Bm.bitsAt ls log s0 = P at hba
      have HPg := Lib.hid hPg
      clear hPg
      generalize Bm.bitsAt ls log s0 = b at k1 hbl hrr HPg
      generalize Bm.baseAt ls log s0 = z at k2 hba hz9 hrr
      by_cases hlb : len < b
      · rw [if_pos hlb] at hrr
        have Hrr := Lib.hid (show r = none from hrr.out)
        clear hrr hown hrd
        go_wp2
        go_ret2
        exact ⟨by rw [Hrr.out]; rfl, hbelw.out.alloc hbelw.out.size _⟩
      · rw [if_neg hlb] at hrr
        obtain ⟨q2, rfl⟩ : ∃ q2, len = q2 + b := ⟨len - b, by omega⟩
        rw [Nat.add_sub_cancel] at hrr
        have hv : N / 2 ^ q2 < 2 ^ b := by
          have h1 := hNl.out
          rw [Nat.pow_add, Nat.mul_comm] at h1
          exact (Nat.div_lt_iff_lt_mul (Nat.pow_pos (by omega))).2 h1
        have Hcf := Lib.hid (fun W => cut_from A' (q2 + b) c' q2 W (by omega) (by omega))
        have Hct := Lib.hid (fun W => cut_to A' (q2 + b) c' q2 W (by omega) (by omega))
        have hbb := bits_behind hrd.out (c := c') (q := q2) (by omega) (by omega)
        have Hbt := Lib.hid (bits_to hrd.out (q := q2) (by omega))
        rw [Nat.add_sub_cancel_left] at hbb Hcf
        have Hnum := Lib.hid (fun W (hb : Below w1.heap.size w1 W) => rnum_reads (behindA A' c' q2) b (c' - q2) (N / 2 ^ q2) W (by omega) hv (reads_on hbb hb))
        have hN2 := Lib.hid (Nat.mod_lt N (Nat.pow_pos (n := q2) (show 0 < 2 by omega)))
        rw [HPg.out] at hv
        clear hbb hrd HPg hNl
        generalize N / 2 ^ q2 = v at hv Hnum hrr
        generalize N % 2 ^ q2 = N2 at Hbt hrr hN2
        obtain ⟨bc, hbc⟩ : ∃ x, x = wr.heap.size := ⟨_, rfl⟩
        have hrowc : Row (wr.alloc (.cells #[.int .u8 (sy : Int), .int .i64 (b : Int), .int .i64 (z : Int)] 144)) bc 144 (cel3 (sy, b, z)) := by rw [hbc]; exact Row.new wr 144 (cel3 (sy, b, z))
        have hal := (Below.refl wr.heap.size wr).alloc (Nat.le_refl _) (.cells #[.int .u8 (sy : Int), .int .i64 (b : Int), .int .i64 (z : Int)] 144)
        have Hal := Lib.hid hal
        have Howna := Lib.hid (own_below hown.out hal)
        have Hbela := Lib.hid (hbel.out.trans (hal.mono hbel.out.size))
        have Hbc := Lib.hid hbc
        have Hob := Lib.hid (fun x (hx : u13.ownBlock = some x) => show x < bc by rw [hbc]; exact (hown.out.lt x hx).2)
        have Hrowc := Lib.hid hrowc
        clear hbc hrowc hal hown hbel
        go_upto_region 11 with fail
        rw [← Hbc.out]
        clear k0 k1 k2
        generalize (wr.alloc (.cells #[.int .u8 (sy : Int), .int .i64 (b : Int), .int .i64 (z : Int)] 144)) = wa at Hal Howna Hbela Hrowc ⊢
        have d0 := Hrowc.out.cell 0
        have d1 := Hrowc.out.cell 1
        simp only [cel3, List.getElem?_cons_zero, List.getElem?_cons_succ] at d0 d1
        go_wp2_with (at_builtin; refine wpList_append_own _ rfl _ _ 45 rfl w1.heap.size 5 i0 (.int .u8 0) 1 1 Tryz.underlying45 hi hz0 hz1 hz2 rfl (by decide) _ _ _ rfl (Howna.out.alloc _) ⟨wa.heap.size, 0, none⟩ 1 1 [.int .u8 (sy : Int)] rfl rfl ?d1 ?d2 ?d3 ?d4 ?d5 ?_)
        case d1 =>
          intro j u hj
          match j, hj with
          | 0, hj => simp at hj; subst hj; simp [Addr.add]
        case d2 => intro u hu; simp at hu; subst hu; rfl
        case d3 => unfold maxLen; omega
        case d4 => omega
        case d5 => have := Hbela.out.size; simp; omega
        intro u' w2 hown2 hgr2 _
        have hbel2 : Below w1.heap.size w1 w2 := (Hbela.out.alloc Hbela.out.size _).grown hgr2 (by have := Hbela.out.size; simp; omega) (fun x e => (Howna.out.lt x e).1)
        have hrow2 : Row w2 bc 144 (cel3 (sy, b, z)) := (Hrowc.out.alloc _).keep (hgr2.block bc (by have := Hrowc.out.lt; simp; omega) (fun e => by have := Hob.out bc e.symm; omega))
        have e : u8s acc ++ [Value.int .u8 (sy : Int)] = u8s (acc ++ [sy]) := by simp [u8s]
        rw [e] at hown2
        have Hown2 := Lib.hid hown2
        have Hbel2 := Lib.hid hbel2
        have f1 := hrow2.cell 1
        have f2 := hrow2.cell 2
        simp only [cel3, List.getElem?_cons_zero, List.getElem?_cons_succ] at f1 f2
        have hcf := Hcf.out
        have Hn2 := Lib.hid (fun nn => Hnum.out (w2.drewN nn) (below_drewN hbel2 nn))
        clear hgr2 hown2 hbel2 hrow2 e d0 d1 Howna Hbela Hal Hrowc Hob Hcf Hnum
        go_wp2_with fail
        go_quiet ((go_at_call 25; exact quiet_left6 (Hn2.out _)))
        have hct := Hct.out
        clear hcf
        go_wp2
        go_roundw
        case rel =>
          refine ⟨k + 1, N2, q2, z + v, acc ++ [sy], by omega, by go_num, rfl, by go_num, by omega, by omega, by simp [hacc], hN2, Hbt, Hown2, ?_, Lib.hid (below_drewN Hbel2.out _)⟩
          rw [hrr.out]
          refine Lib.hid ?_
          cases Bm.decR ls log (m - (k + 1)) N2 q2 (z + v) with
          | none => rfl
          | some l => simp
        case measure => simp [intOf]; omega
    · obtain rfl : k = m := by omega
      rw [Nat.sub_self] at hrr
      by_cases hz : s0 = 0 ∧ len = 0
      · obtain ⟨rfl, rfl⟩ := hz
        have Hx := Lib.hid (show r = some acc by rw [hrr.out]; simp [Bm.decR])
        have Hl := Lib.hid hacc
        have Hownf := Lib.hid (own_low hown.out Hb1.out.size)
        clear hrr hacc hown
        go_wp2
        go_ret2
        exact ⟨by rw [Hx.out]; exact ⟨_, rfl, by rw [Hl.out]; exact Hownf.out⟩, hbelw.out⟩
      · have Hx := Lib.hid (show r = none by rw [hrr.out]; simp only [Bm.decR]; rw [if_neg hz]; rfl)
        clear hrr
        by_cases hs00 : s0 = 0
        · subst hs00
          have hl0 : 0 < len := by omega
          go_wp2
          go_ret2
          exact ⟨by rw [Hx.out]; rfl, hbelw.out⟩
        · have hne : ((s0 : Int) != 0) = true := by simp; omega
          go_wp2
          go_ret2
          exact ⟨by rw [Hx.out]; rfl, hbelw.out⟩
end Go.Proofs.YtbdciiiimdbmkaaGreat

namespace Go.Proofs.YtbdciiiimdbmkaaGreat
open Go.RowKit
namespace Bm
theorem top_log2 (V k : Nat) (h : Top V k) : V.log2 = k := by
  obtain ⟨h1, h2⟩ := top_iff.1 h
  have h0 : 0 < V := by have := Nat.two_pow_pos k; omega
  have h3 := wid_eq V k h1 (by rw [Nat.pow_succ]; omega)
  rw [wid_pos V h0] at h3
  omega
/-- The bits of sealed bytes, as a number, and how many; none: they aren't sealed. -/
def openN (bs : List Nat) : Option (Nat × Nat) := if bs.getLast?.getD 0 = 0 then none else some (valB bs % 2 ^ (valB bs).log2, (valB bs).log2)
/-- Sealed bits as bytes. -/
def sealN (N n : Nat) : List Nat := bytesOf (N + 2 ^ n) (n / 8 + 1)
theorem sealN_length (N n : Nat) : (sealN N n).length = n / 8 + 1 := by simp [sealN, bytesOf_length]
theorem sealN_lt (N n : Nat) : ∀ x ∈ sealN N n, x < 256 := bytesOf_lt _ _
theorem bytes_last (V m : Nat) : (bytesOf V (m + 1)).getLast? = some (V / 256 ^ m % 256) := by
  rw [bytesOf_succ, List.getLast?_append, List.getLast?_singleton]
  rfl
theorem open_seal (N n : Nat) (h : N < 2 ^ n) : openN (sealN N n) = some (N, n) := by
  have ht := top_sum N n h
  have hv : valB (sealN N n) = N + 2 ^ n := valB_seal N n h
  have hd : (N + 2 ^ n) / 256 ^ (n / 8) % 256 ≠ 0 := by
    have h1 := (top_iff.1 ht).1
    have h2 := sum_lt_bytes N n h
    rw [Nat.pow_succ] at h2
    have hp : 0 < 256 ^ (n / 8) := Nat.pow_pos (by omega)
    have h3 : (N + 2 ^ n) / 256 ^ (n / 8) < 256 := (Nat.div_lt_iff_lt_mul hp).2 (by rw [Nat.mul_comm]; exact h2)
    have h4 : 256 ^ (n / 8) ≤ N + 2 ^ n := by
      refine Nat.le_trans ?_ h1
      rw [p256]
      exact Nat.pow_le_pow_right (by omega) (by omega)
    have h5 : 1 ≤ (N + 2 ^ n) / 256 ^ (n / 8) := (Nat.le_div_iff_mul_le hp).2 (by omega)
    omega
  unfold openN
  rw [hv, top_log2 _ _ ht, if_neg]
  · have := ht.sum
    congr 2
    omega
  · unfold sealN
    rw [bytes_last, Option.getD_some]
    exact hd
/-- Bytes that are sealed have just these bits. -/
theorem seal_open (bs : List Nat) (N n : Nat) (hb : ∀ x ∈ bs, x < 256) (h : openN bs = some (N, n)) : N < 2 ^ n ∧ bs = sealN N n ∧ n < 8 * bs.length := by
  unfold openN at h
  split at h
  · cases h
  · next hl =>
    injection h with h
    injection h with h1 h2
    obtain ⟨front, b, rfl⟩ : ∃ front b, bs = front ++ [b] := by
      rcases List.eq_nil_or_concat bs with rfl | ⟨f, b, rfl⟩
      · simp at hl
      · exact ⟨f, b, List.concat_eq_append⟩
    rw [List.getLast?_append, List.getLast?_singleton] at hl
    have hb0 : b ≠ 0 := by simpa using hl
    obtain ⟨l1, l8, ht⟩ := top_last front b (fun x hx => hb x (List.mem_append_left _ hx)) (hb b (by simp)) hb0
    have hlg := top_log2 _ _ ht
    rw [hlg] at h1 h2
    have hs := ht.sum
    rw [h1, h2] at hs
    have hN : N < 2 ^ n := by rw [← h1, ← h2]; exact Nat.mod_lt _ (Nat.two_pow_pos _)
    refine ⟨hN, ?_, by rw [List.length_append, List.length_singleton]; omega⟩
    unfold sealN
    rw [← hs]
    have hlen : n / 8 + 1 = (front ++ [b]).length := by rw [List.length_append, List.length_singleton]; omega
    rw [hlen]
    exact (bytesOf_valB _ hb).symm
/-- The bits of coded symbols, as a number, and how many; none: one has no state. -/
def codeN (ls : List Nat) (log : Nat) (syms : List Nat) : Option (Nat × Nat) := (encR ls log syms).map fun t => (t.1 + t.2.2 * 2 ^ t.2.1, t.2.1 + log)
/-- What Encode answers. -/
def encB (ls : List Nat) (log : Nat) (syms : List Nat) : Option (List Nat) := (codeN ls log syms).map fun t => sealN t.1 t.2
/-- What Decode answers. -/
def decB (ls : List Nat) (log : Nat) (bs : List Nat) (n : Int) : Option (List Nat) := (openN bs).bind fun t => decA ls log true t.1 t.2 n
theorem code_lt (ls : List Nat) (log : Nat) (h : FairN ls log) (syms : List Nat) (N n : Nat) (e : codeN ls log syms = some (N, n)) : N < 2 ^ n ∧ n ≤ log * (syms.length + 1) ∧ log ≤ n := by
  unfold codeN at e
  cases hr : encR ls log syms with
  | none => rw [hr] at e; cases e
  | some t =>
    obtain ⟨N0, n0, st⟩ := t
    rw [hr, Option.map_some] at e
    injection e with e
    injection e with e1 e2
    subst e1 e2
    obtain ⟨h1, h2, h3, _⟩ := enc_ok ls log h syms N0 n0 st hr
    dsimp only
    refine ⟨?_, by rw [Nat.mul_add, Nat.mul_one]; omega, by omega⟩
    rw [Nat.pow_add, Nat.mul_comm (2 ^ n0)]
    have h5 : (st + 1) * 2 ^ n0 ≤ 2 ^ log * 2 ^ n0 := Nat.mul_le_mul_right _ h2
    rw [Nat.add_mul, Nat.one_mul] at h5
    generalize st * 2 ^ n0 = A at h5 ⊢
    generalize 2 ^ log * 2 ^ n0 = B at h5 ⊢
    omega
theorem dec_enc (ls : List Nat) (log : Nat) (h : FairN ls log) (syms bs : List Nat) (hl : syms.length ≤ 1048576) (e : encB ls log syms = some bs) : decB ls log bs (syms.length : Int) = some syms := by
  unfold encB at e
  cases hc : codeN ls log syms with
  | none => rw [hc] at e; cases e
  | some t =>
    obtain ⟨N, n⟩ := t
    rw [hc, Option.map_some] at e
    injection e with e
    subst e
    obtain ⟨hN, _, hln⟩ := code_lt ls log h syms N n hc
    unfold decB
    dsimp only
    rw [open_seal N n hN, Option.bind_some]
    unfold codeN at hc
    cases hr : encR ls log syms with
    | none => rw [hr] at hc; cases hc
    | some t =>
      obtain ⟨N0, n0, st⟩ := t
      rw [hr, Option.map_some] at hc
      injection hc with hc
      injection hc with e1 e2
      subst e1 e2
      obtain ⟨h1, h2, h3, h4⟩ := enc_ok ls log h syms N0 n0 st hr
      obtain ⟨s1, s2⟩ := code_split N0 n0 st h1
      dsimp only
      unfold decA
      rw [if_pos ⟨rfl, by omega, by omega, by omega⟩, Int.toNat_natCast, Nat.add_sub_cancel, s1, s2]
      exact h4
theorem enc_dec (ls : List Nat) (log : Nat) (h : FairN ls log) (bs syms : List Nat) (n : Int) (hb : ∀ x ∈ bs, x < 256) (e : decB ls log bs n = some syms) : encB ls log syms = some bs ∧ (syms.length : Int) = n ∧ n ≤ 1048576 ∧ ∀ s ∈ syms, s < 256 := by
  unfold decB at e
  cases ho : openN bs with
  | none => rw [ho] at e; cases e
  | some t =>
    obtain ⟨N, L⟩ := t
    rw [ho, Option.bind_some] at e
    obtain ⟨hN, hbs, _⟩ := seal_open bs N L hb ho
    dsimp only at e
    unfold decA at e
    split at e
    · next hc =>
      obtain ⟨_, h0, hn, hlL⟩ := hc
      obtain ⟨q, rfl⟩ : ∃ q, L = q + log := ⟨L - log, by omega⟩
      rw [Nat.add_sub_cancel] at e
      have hst : N / 2 ^ q < 2 ^ log := by
        rw [Nat.pow_add, Nat.mul_comm] at hN
        exact (Nat.div_lt_iff_lt_mul (Nat.pow_pos (by omega))).2 hN
      have hmod : N % 2 ^ q < 2 ^ q := Nat.mod_lt _ (Nat.two_pow_pos _)
      obtain ⟨h1, h2⟩ := dec_ok ls log h n.toNat _ q _ syms hmod hst e
      refine ⟨?_, by omega, hn, ?_⟩
      · unfold encB codeN
        rw [h1]
        simp only [Option.map_some]
        congr 1
        rw [hbs]
        congr 1
        have := Nat.div_add_mod N (2 ^ q)
        rw [Nat.mul_comm] at this
        omega
      · intro s hs
        have hp : 0 < ls[s]?.getD 0 := by
          rcases Nat.eq_zero_or_pos (ls[s]?.getD 0) with h3 | h3
          · rw [enc_none ls log h s h3 syms hs] at h1; cases h1
          · exact h3
        have hlen := h.len
        rcases Nat.lt_or_ge s ls.length with h4 | h4
        · omega
        · rw [List.getElem?_eq_none h4] at hp; simp at hp
    · cases e
end Bm
/-- Bytes and true, or nothing and false. -/
def BytesP (w' : World) (e : Ending) : Option (List Nat) → Prop
  | none => ∃ A c, e = .returned (.tuple #[.slice A 0 c, .bool false])
  | some bs => ∃ A c, e = .returned (.tuple #[.slice A bs.length c, .bool true]) ∧ Reads w' A (u8s bs)
/-- What Bits answers. -/
def bitsV : Option (Nat × Nat) → Value
  | none => .tuple #[.int .i64 0, .bool false]
  | some t => .tuple #[.int .i64 (t.2 : Int), .bool true]
end Go.Proofs.YtbdciiiimdbmkaaGreat

namespace Go.Proofs.YtbdciiiimdbmkaaGreat.Bm
theorem sum_castF (cs : List Nat) : (cs.map (fun n : Nat => (n : Int))).sum = ((cs.sum : Nat) : Int) := by
  induction cs with
  | nil => simp
  | cons a l ih => rw [List.map_cons, List.sum_cons, ih, List.sum_cons]; omega
theorem mem_le_sumF (l : List Nat) (x : Nat) (h : x ∈ l) : x ≤ l.sum := by
  induction l with
  | nil => cases h
  | cons a l ih =>
    rw [List.sum_cons]
    rcases List.mem_cons.1 h with rfl | h1
    · omega
    · have := ih h1; omega
theorem posN_symN (cs : List Nat) : posN cs = symN (cs.map (fun n : Nat => (n : Int))) := by
  unfold posN symN
  rw [List.countP_map]
  apply List.countP_congr
  intro x _
  simp
/-- The share of counts of bytes: fair, above 0 where a byte is. -/
theorem share_bytes (bs : List Nat) (hlt : ∀ x ∈ bs, x < 256) (hl : bs.length ≤ 1048576) (h0 : 0 < bs.length) :
    ∃ ls : List Nat, shareA (countsI bs) (logA (countsI bs) : Int) = ls.map (fun n : Nat => (n : Int)) ∧ Fair (shareA (countsI bs) (logA (countsI bs) : Int)) (logA (countsI bs) : Int) ∧ (∀ b ∈ bs, 0 < ls[b]?.getD 0) ∧ ls.length ≤ 256 := by
  have hso := (countsI_share bs hlt hl).2 h0
  obtain ⟨hr, h5, h9, hs⟩ := hso
  have hsA : shareA (countsI bs) (logA (countsI bs) : Int) = (shareM ((countsI bs).map Int.toNat) (2 ^ logA (countsI bs))).map (fun n : Nat => (n : Int)) := by
    unfold shareA
    rw [if_pos ⟨hr, h5, h9, hs⟩, Int.toNat_natCast]
  have hcs : (countsI bs).map Int.toNat = countsOf bs := by
    unfold countsI
    rw [List.map_map]
    conv => rhs; rw [← List.map_id (countsOf bs)]
    apply List.map_congr_left
    intro x _
    rfl
  rw [hcs] at hsA
  rw [Int.toNat_natCast] at hs
  have hlen : (countsOf bs).length = topB bs := by simp [countsOf]
  have ht := topB_le bs hlt
  obtain ⟨b0, hb0⟩ : ∃ b, b ∈ bs := by
    cases bs with
    | nil => simp at h0
    | cons b bs => exact ⟨b, List.mem_cons_self⟩
  have hget : ∀ b ∈ bs, (countsOf bs)[b]? = some (bs.count b) := fun b hb => by
    unfold countsOf
    rw [List.getElem?_map, List.getElem?_range (topB_mem bs b hb)]
    rfl
  have hsum : 0 < (countsOf bs).sum := by
    have h1 := List.mem_of_getElem? (hget b0 hb0)
    have h2 := mem_le_sumF _ _ h1
    have h3 := List.count_pos_iff.2 hb0
    omega
  have hsp := share_spec (countsOf bs) (2 ^ logA (countsI bs)) hsum (by rw [posN_symN]; exact hs)
  have hP := Nat.pow_le_pow_right (n := 2) (j := 9) (by omega) (show logA (countsI bs) ≤ 9 by omega)
  refine ⟨_, hsA, ?_, ?_, by rw [hsp.2.1, hlen]; exact ht⟩
  · rw [hsA]
    refine ⟨h5, h9, by rw [List.length_map, hsp.2.1, hlen]; exact ht, ?_, by rw [sum_castF, hsp.1, Int.toNat_natCast]⟩
    intro x hx
    obtain ⟨y, hy, rfl⟩ := List.mem_map.1 hx
    have := mem_le_sumF _ _ hy
    rw [hsp.1] at this
    omega
  · intro b hb
    have h1 := hsp.2.2 b
    rw [hget b hb, Option.getD_some] at h1
    exact h1.2 (List.count_pos_iff.2 hb)
end Go.Proofs.YtbdciiiimdbmkaaGreat.Bm

namespace Go.Proofs.YtbdciiiimdbmkaaGreat.Bm

/-- The text at the beginning, of at most 4096 bytes, and how many bytes in all. -/
def txtD (bs : List Nat) : Option (List Nat × Nat) :=
  if 0 < (firstG bs).2 ∧ (firstG bs).1 ≤ 4096 ∧ (firstG bs).1 ≤ bs.length - (firstG bs).2 then some ((bs.drop (firstG bs).2).take (firstG bs).1, (firstG bs).2 + (firstG bs).1) else none
/-- Is nothing left but fewer than eight noughts? -/
def restB (V len left : Nat) : Bool := decide (left < 8 ∧ V / 2 ^ (len - left) = 0)
/-- The share whose bits these bytes are. -/
def headD (hd : List Nat) : Option (List Nat × Nat) :=
  match takeA (valB hd) (8 * hd.length) with
  | none => none
  | some t => if restB (valB hd) (8 * hd.length) t.2.2 = true then some (t.1, t.2.1) else none
/-- n codes by a share at the beginning. -/
def sharedD (t : List Nat) (n : Nat) : Option (List Nat × Nat) :=
  match txtD t with
  | none => none
  | some p => match txtD (t.drop p.2) with
    | none => none
    | some q => match headD p.1 with
      | none => none
      | some h => (decB h.1 h.2 q.1 (n : Int)).map fun c => (c, p.2 + q.2)
/-- n codes at the beginning, which may be too great. -/
def readD (bs : List Nat) (n : Nat) : Option (List Nat × Nat) :=
  match bs with
  | [] => none
  | k :: t => if k = 0 then (if n ≤ t.length then some (t.take n, 1 + n) else none)
    else if k = 1 then (if 0 < t.length then some (List.replicate n (t[0]?.getD 0), 2) else none)
    else if k = 2 then (sharedD t n).map fun r => (r.1, 1 + r.2) else none
theorem read_0 (t : List Nat) (n : Nat) : readD (0 :: t) n = if n ≤ t.length then some (t.take n, 1 + n) else none := rfl
theorem read_1 (t : List Nat) (n : Nat) : readD (1 :: t) n = if 0 < t.length then some (List.replicate n (t[0]?.getD 0), 2) else none := rfl
theorem read_2 (t : List Nat) (n : Nat) : readD (2 :: t) n = (sharedD t n).map fun r => (r.1, 1 + r.2) := rfl
theorem read_3 (k : Nat) (t : List Nat) (n : Nat) (h : 2 < k) : readD (k :: t) n = none := by
  show (if k = 0 then _ else if k = 1 then _ else if k = 2 then _ else none) = none
  rw [if_neg (by omega), if_neg (by omega), if_neg (by omega)]
/-- The n codes of the stream at the beginning, and how many bytes. -/
def strD (bs : List Nat) (n : Nat) : Option (List Nat × Nat) :=
  match readD bs n with
  | none => none
  | some r => if ∀ x ∈ r.1, x < 28 then some r else none
/-- So many streams, one behind the other. -/
def strsD : Nat → List Nat → Nat → Option (List (List Nat) × Nat)
  | 0, _, _ => some ([], 0)
  | k + 1, bs, n => match strD bs n with
    | none => none
    | some r => (strsD k (bs.drop r.2) n).map fun q => (r.1 :: q.1, r.2 + q.2)
/-- How many bits stand behind a code; the number of a code and these bits. -/
def exK (c : Nat) : Nat := if c < 16 then 0 else c - 12
def numK (c V : Nat) : Nat := if c < 16 then c else 2 ^ (c - 12) + V % 2 ^ (c - 12)
/-- The numbers of these codes, by the bits that are left. -/
def numsD : List Nat → Nat → Nat → Option (List Nat × Nat × Nat)
  | [], V, L => some ([], V, L)
  | c :: cs, V, L => if exK c ≤ L then (numsD cs (V / 2 ^ exK c) (L - exK c)).map fun r => (numK c V :: r.1, r.2) else none
/-- The steps of these codes (three each), by the bits that are left and the recent offsets. -/
def stpsD : List (List Nat) → Nat → Nat → Int × Int × Int → Option (List Stp × Nat × Nat)
  | [], V, L, _ => some ([], V, L)
  | cs :: l, V, L, r => match numsD cs V L with
    | none => none
    | some t => match offI r.1 r.2.1 r.2.2 ((t.1[2]?.getD 0 : Nat) : Int) with
      | none => none
      | some x => (stpsD l t.2.1 t.2.2 (behI r.1 r.2.1 r.2.2 x)).map fun q => ((t.1[0]?.getD 0, t.1[1]?.getD 0 + 3, x.toNat) :: q.1, q.2)
/-- The codes of step i. -/
def atD (cs : List (List Nat)) (i : Nat) : List Nat := cs.map fun l => l[i]?.getD 0
def rowsD (cs : List (List Nat)) (n : Nat) : List (List Nat) := (List.range n).map (atD cs)
/-- .. if nothing but noughts is left, fewer than eight. -/
def finD : Option (List Stp × Nat × Nat) → Option (List Stp)
  | none => none
  | some t => if t.2.2 < 8 ∧ t.2.1 = 0 then some t.1 else none
/-- The n steps of these codes and the bits in these bytes. -/
def stepsD (cs : List (List Nat)) (n : Nat) (bd : List Nat) : Option (List Stp) := finD (stpsD (rowsD cs n) (valB bd) (8 * bd.length) (1, 2, 4))
/-- The steps of the section at the beginning, and how many bytes. -/
def secD (bs : List Nat) (most : Int) : Option (List Stp × Nat) :=
  if 0 < (firstG bs).2 ∧ ((firstG bs).1 : Int) ≤ most ∧ (firstG bs).1 ≤ 1000 then
    (if (firstG bs).1 = 0 then some ([], (firstG bs).2) else
      match strsD 3 (bs.drop (firstG bs).2) (firstG bs).1 with
      | none => none
      | some p => match txtD ((bs.drop (firstG bs).2).drop p.2) with
        | none => none
        | some q => (stepsD p.1 (firstG bs).1 q.1).map fun l => (l, (firstG bs).2 + p.2 + q.2))
  else none

theorem shared_mem (t : List Nat) (n : Nat) (l : List Nat) (k : Nat) (hlt : ∀ x ∈ t, x < 256) (h : sharedD t n = some (l, k)) : l.length = n ∧ ∀ x ∈ l, x < 256 := by
  unfold sharedD at h
  split at h
  · cases h
  · next p hp =>
    split at h
    · cases h
    · next q hq =>
      split at h
      · cases h
      · next u hu =>
        cases hd : decB u.1 u.2 q.1 (n : Int) with
        | none => rw [hd] at h; cases h
        | some c =>
          rw [hd, Option.map_some] at h
          injection h with h
          injection h with h1 h2
          subst h1
          have hf : FairN u.1 u.2 := by
            unfold headD at hu
            split at hu
            · cases hu
            · next v hv =>
              split at hu
              · injection hu with hu
                subst hu
                exact (takeA_fair _ _ v.1 v.2.1 v.2.2 hv).1
              · cases hu
          have hb : ∀ x ∈ q.1, x < 256 := by
            unfold txtD at hq
            split at hq
            · injection hq with hq
              subst hq
              exact fun x hx => hlt x (List.mem_of_mem_drop (List.mem_of_mem_drop (List.mem_of_mem_take hx)))
            · cases hq
          obtain ⟨_, k2, _, k4⟩ := enc_dec u.1 u.2 hf q.1 c n hb hd
          exact ⟨by omega, k4⟩
theorem read_mem (bs : List Nat) (n : Nat) (hlt : ∀ x ∈ bs, x < 256) (l : List Nat) (k : Nat) (h : readD bs n = some (l, k)) : l.length = n ∧ ∀ x ∈ l, x < 256 := by
  cases bs with
  | nil => cases h
  | cons y t =>
    have htt : ∀ x ∈ t, x < 256 := fun x hx => hlt x (List.mem_cons_of_mem _ hx)
    by_cases h0 : y = 0
    · subst h0
      rw [read_0] at h
      split at h
      · injection h with h
        injection h with h1 _
        subst h1
        exact ⟨by rw [List.length_take]; omega, fun x hx => htt x (List.mem_of_mem_take hx)⟩
      · cases h
    · by_cases h1 : y = 1
      · subst h1
        rw [read_1] at h
        split at h
        · next hp =>
          injection h with h
          injection h with h1 _
          subst h1
          refine ⟨List.length_replicate, fun x hx => ?_⟩
          rw [List.mem_replicate] at hx
          rw [hx.2, List.getElem?_eq_getElem hp, Option.getD_some]
          exact htt _ (List.getElem_mem hp)
        · cases h
      · by_cases h2 : y = 2
        · subst h2
          rw [read_2] at h
          cases hs : sharedD t n with
          | none => rw [hs] at h; cases h
          | some r =>
            rw [hs, Option.map_some] at h
            injection h with h
            injection h with h1 _
            subst h1
            exact shared_mem t n r.1 r.2 htt hs
        · rw [read_3 y t n (by omega)] at h
          cases h
theorem str_mem (bs : List Nat) (n : Nat) (hlt : ∀ x ∈ bs, x < 256) (l : List Nat) (k : Nat) (h : strD bs n = some (l, k)) : l.length = n ∧ ∀ x ∈ l, x < 28 := by
  unfold strD at h
  split at h
  · cases h
  · next r hr =>
    split at h
    · next h28 =>
      injection h with h
      subst h
      exact ⟨(read_mem bs n hlt l k hr).1, h28⟩
    · cases h

/-! What is made. -/

/-- A text, whatever stands behind it, is read as it was. -/
theorem txt_yes (t u : List Nat) (h : t.length ≤ 4096) : txtD (grp t.length ++ (t ++ u)) = some (t, (grp t.length).length + t.length) ∧ (grp t.length ++ (t ++ u)).drop ((grp t.length).length + t.length) = u := by
  have hp := grp_pos t.length (by omega)
  have hd : (grp t.length ++ (t ++ u)).drop (grp t.length).length = t ++ u := List.drop_left
  constructor
  · unfold txtD
    rw [firstG_grp t.length (t ++ u) (by omega)]
    dsimp only
    rw [if_pos ⟨hp, h, by rw [List.length_append, List.length_append]; omega⟩, hd, List.take_left]
  · rw [← List.drop_drop, hd, List.drop_left]
/-- A stream of these codes, whatever stands behind it. -/
structure StrQ (c S : List Nat) : Prop where
  read : ∀ u, strD (S ++ u) c.length = some (c, S.length)
  lt : ∀ x ∈ S, x < 256
/-- .. no longer than the codes and one byte. -/
structure StrP (c S : List Nat) : Prop where
  q : StrQ c S
  len : S.length ≤ c.length + 1
  first : S.length = c.length + 1 → S = 0 :: c
theorem txt_pos (l : List Nat) (t : List Nat × Nat) (h : txtD l = some t) : 0 < t.2 := by
  unfold txtD at h
  split at h
  · injection h with h
    subst h
    dsimp only
    omega
  · cases h
theorem read_two (bs : List Nat) (n : Nat) (hn : 1 ≤ n) (r : List Nat × Nat) (h : readD bs n = some r) : 2 ≤ r.2 := by
  cases bs with
  | nil => cases h
  | cons k t =>
    by_cases h0 : k = 0
    · subst h0
      rw [read_0] at h
      split at h
      · injection h with h
        subst h
        dsimp only
        omega
      · cases h
    · by_cases h1 : k = 1
      · subst h1
        rw [read_1] at h
        split at h
        · injection h with h
          subst h
          exact Nat.le_refl _
        · cases h
      · by_cases h2 : k = 2
        · subst h2
          rw [read_2] at h
          cases hd : sharedD t n with
          | none => rw [hd] at h; cases h
          | some x =>
            rw [hd, Option.map_some] at h
            injection h with h
            subst h
            unfold sharedD at hd
            split at hd
            · cases hd
            · next p hp =>
              have p0 := txt_pos _ p hp
              split at hd
              · cases hd
              · next q hq =>
                split at hd
                · cases hd
                · next u hu =>
                  cases he : decB u.1 u.2 q.1 (n : Int) with
                  | none => rw [he] at hd; cases hd
                  | some c =>
                    rw [he, Option.map_some] at hd
                    injection hd with hd
                    subst hd
                    dsimp only
                    omega
        · rw [read_3 k t n (by omega)] at h; cases h
theorem one_plain (c S : List Nat) (h : StrP c S) (h1 : c.length = 1) : S = 0 :: c := by
  apply h.first
  have hr := h.q.read []
  rw [List.append_nil, h1] at hr
  unfold strD at hr
  split at hr
  · cases hr
  · next r hr2 =>
    split at hr
    · injection hr with hr
      have h2 := read_two S 1 (by omega) r hr2
      have hl := h.len
      rw [hr] at h2
      dsimp only at h2
      omega
    · cases hr
theorem str_of_read (bs : List Nat) (n : Nat) (c : List Nat) (k : Nat) (h : readD bs n = some (c, k)) (h28 : ∀ x ∈ c, x < 28) : strD bs n = some (c, k) := by
  unfold strD
  rw [h]
  dsimp only
  rw [if_pos h28]
def plainL (c : List Nat) : List Nat := 0 :: c
def alikeS (c : List Nat) : List Nat := 1 :: c.take 1
def codedS (hd bd : List Nat) : List Nat := 2 :: (grp hd.length ++ (hd ++ (grp bd.length ++ bd)))
theorem str_plain (c : List Nat) (h28 : ∀ x ∈ c, x < 28) : StrQ c (plainL c) := by
  refine ⟨fun u => str_of_read _ _ _ _ ?_ h28, fun x hx => ?_⟩
  · show readD (0 :: (c ++ u)) c.length = _
    rw [read_0, if_pos (by rw [List.length_append]; omega), List.take_left]
    simp [plainL]; omega
  · rcases List.mem_cons.1 hx with rfl | hx
    · omega
    · have := h28 x hx; omega
theorem str_alike (c : List Nat) (h28 : ∀ x ∈ c, x < 28) (h : symN (countsI c) = 1) : StrQ c (alikeS c) := by
  obtain ⟨x, e, h0⟩ := one_alike c h
  have e1 : c.take 1 = [x] := by
    rw [e]
    obtain ⟨n, hn⟩ : ∃ n, c.length = n + 1 := ⟨c.length - 1, by omega⟩
    rw [hn]
    rfl
  have hx : x < 28 := h28 x (by rw [e, List.mem_replicate]; exact ⟨by omega, rfl⟩)
  refine ⟨fun u => str_of_read _ _ _ _ ?_ h28, fun y hy => ?_⟩
  · unfold alikeS
    rw [e1]
    show readD (1 :: x :: u) c.length = _
    rw [read_1, if_pos (by simp)]
    simp only [List.getElem?_cons_zero, Option.getD_some, List.length_cons, List.length_nil]
    rw [← e]
  · unfold alikeS at hy
    rw [e1] at hy
    simp at hy
    omega
theorem mem_sum : ∀ (l : List Nat) (x : Nat), x ∈ l → x ≤ l.sum
  | [], _, h => by cases h
  | y :: l, x, h => by
    rw [List.sum_cons]
    rcases List.mem_cons.1 h with rfl | h
    · omega
    · have := mem_sum l x h; omega
theorem short_lastQ : ∀ (l : List Nat), (∀ h : l ≠ [], 0 < l.getLast h) → shortL l = l
  | [], _ => rfl
  | n :: l, h => by
    have h1 := h (by simp)
    unfold shortL
    cases l with
    | nil =>
      simp at h1
      rw [if_neg (by simp; omega)]
      rfl
    | cons m r =>
      have h2 : 0 < (m :: r).getLast (by simp) := by rw [List.getLast_cons (by simp)] at h1; exact h1
      have h3 : (m :: r).getLast (by simp) ≤ (m :: r).sum := mem_sum _ _ (List.getLast_mem _)
      rw [if_neg (by omega), short_lastQ (m :: r) (fun _ => h2)]
theorem head_yes (ls : List Nat) (lg : Nat) (hf : FairN ls lg) (hs : shortL ls = ls) : headD (bytesOf (hdrA ls lg).1 (((hdrA ls lg).2 + 7) / 8)) = some (ls, lg) := by
  have hlt := hdrA_lt ls lg hf
  obtain ⟨e, he⟩ : ∃ e, 8 * (((hdrA ls lg).2 + 7) / 8) = (hdrA ls lg).2 + e := ⟨8 * (((hdrA ls lg).2 + 7) / 8) - (hdrA ls lg).2, by omega⟩
  have ht := take_hdrA ls lg 0 e hf
  rw [Nat.zero_mul, Nat.add_zero, hs] at ht
  have hv : valB (bytesOf (hdrA ls lg).1 (((hdrA ls lg).2 + 7) / 8)) = (hdrA ls lg).1 := by
    rw [valB_bytesOf, p256]
    exact Nat.mod_eq_of_lt (Nat.lt_of_lt_of_le hlt (Nat.pow_le_pow_right (by omega) (by omega)))
  unfold headD
  rw [hv, bytesOf_length, he, ht]
  dsimp only
  have he8 : e < 8 := by omega
  have hend : restB (hdrA ls lg).1 ((hdrA ls lg).2 + e) e = true := by
    unfold restB
    rw [Nat.add_sub_cancel]
    exact decide_eq_true ⟨he8, Nat.div_eq_of_lt hlt⟩
  rw [if_pos hend]
theorem str_coded (c ls bd : List Nat) (lg : Nat) (h28 : ∀ x ∈ c, x < 28) (hf : FairN ls lg) (hs : shortL ls = ls) (he : encB ls lg c = some bd) (hbd : bd.length ≤ 4096) (hb256 : ∀ x ∈ bd, x < 256) (hcl : c.length ≤ 10000) : StrQ c (codedS (bytesOf (hdrA ls lg).1 (((hdrA ls lg).2 + 7) / 8)) bd) := by
  have hhd := head_yes ls lg hf hs
  have hb3 := (hdrA_bits ls lg hf).2
  have hd := dec_enc ls lg hf c bd (by omega) he
  have hl : (bytesOf (hdrA ls lg).1 (((hdrA ls lg).2 + 7) / 8)).length ≤ 4096 := by rw [bytesOf_length]; omega
  have hlt : ∀ x ∈ bytesOf (hdrA ls lg).1 (((hdrA ls lg).2 + 7) / 8), x < 256 := bytesOf_lt _ _
  generalize bytesOf (hdrA ls lg).1 (((hdrA ls lg).2 + 7) / 8) = hd' at *
  refine ⟨fun u => str_of_read _ _ _ _ ?_ h28, fun x hx => ?_⟩
  · show readD (2 :: ((grp hd'.length ++ (hd' ++ (grp bd.length ++ bd))) ++ u)) c.length = _
    have e1 : (grp hd'.length ++ (hd' ++ (grp bd.length ++ bd))) ++ u = grp hd'.length ++ (hd' ++ (grp bd.length ++ (bd ++ u))) := by simp only [List.append_assoc]
    rw [e1]
    obtain ⟨t1, t2⟩ := txt_yes hd' (grp bd.length ++ (bd ++ u)) hl
    obtain ⟨t3, t4⟩ := txt_yes bd u hbd
    rw [read_2]
    unfold sharedD
    rw [t1]
    dsimp only
    rw [t2, t3]
    dsimp only
    rw [hhd]
    dsimp only
    rw [hd]
    simp [codedS]; omega
  · unfold codedS at hx
    rcases List.mem_cons.1 hx with rfl | hx
    · omega
    rcases List.mem_append.1 hx with hx | hx
    · exact grp_lt _ (by omega) x hx
    rcases List.mem_append.1 hx with hx | hx
    · exact hlt x hx
    rcases List.mem_append.1 hx with hx | hx
    · exact grp_lt _ (by omega) x hx
    · exact hb256 x hx

/-- May a step be? -/
def MayZ (s : StZ) : Prop := 0 ≤ s.1 ∧ s.1 ≤ 65535 ∧ 3 ≤ s.2.1 ∧ s.2.1 ≤ 65538 ∧ 1 ≤ s.2.2 ∧ s.2.2 ≤ 65533
instance (s : StZ) : Decidable (MayZ s) := by unfold MayZ; infer_instance
def natZ (s : StZ) : Stp := (s.1.toNat, s.2.1.toNat, s.2.2.toNat)
/-- The three numbers of a step. -/
def threeE (r : Int × Int × Int) (s : StZ) : List Nat := [s.1.toNat, (s.2.1 - 3).toNat, (numI r.1 r.2.1 r.2.2 s.2.2).toNat]
/-- The numbers of steps, step by step. -/
def numsE : (Int × Int × Int) → List StZ → List (List Nat)
  | _, [] => []
  | r, s :: l => threeE r s :: numsE (behI r.1 r.2.1 r.2.2 s.2.2) l
/-- The recent offsets behind steps. -/
def recE : (Int × Int × Int) → List StZ → Int × Int × Int
  | r, [] => r
  | r, s :: l => recE (behI r.1 r.2.1 r.2.2 s.2.2) l
theorem numsE_snoc : ∀ (l : List StZ) (r : Int × Int × Int) (s : StZ), numsE r (l ++ [s]) = numsE r l ++ [threeE (recE r l) s]
  | [], _, _ => rfl
  | t :: l, r, s => by
    rw [List.cons_append, numsE, numsE, recE, numsE_snoc l, List.cons_append]
theorem recE_snoc : ∀ (l : List StZ) (r : Int × Int × Int) (s : StZ), recE r (l ++ [s]) = behI (recE r l).1 (recE r l).2.1 (recE r l).2.2 s.2.2
  | [], _, _ => rfl
  | t :: l, r, s => by rw [List.cons_append, recE, recE, recE_snoc l]
theorem numsE_length : ∀ (l : List StZ) (r : Int × Int × Int), (numsE r l).length = l.length
  | [], _ => rfl
  | t :: l, r => by rw [numsE, List.length_cons, List.length_cons, numsE_length l]
/-- The bits behind these numbers' codes, and how many. -/
def bitsE : List Nat → Nat × Nat
  | [] => (0, 0)
  | v :: l => (moreN v + (bitsE l).1 * 2 ^ bitsK v, bitsK v + (bitsE l).2)
theorem bitsE_snoc : ∀ (l : List Nat) (v : Nat), bitsE (l ++ [v]) = ((bitsE l).1 + moreN v * 2 ^ (bitsE l).2, (bitsE l).2 + bitsK v)
  | [], v => by simp [bitsE]
  | x :: l, v => by
    rw [List.cons_append, bitsE, bitsE_snoc l v, bitsE]
    dsimp only
    rw [Nat.pow_add, Nat.add_mul, Nat.add_assoc, Nat.mul_assoc, Nat.mul_comm (2 ^ (bitsE l).2) (2 ^ bitsK x), Nat.add_assoc]
theorem more_lt (v : Nat) : moreN v < 2 ^ bitsK v := by
  unfold moreN bitsK
  split
  · simp
  · exact Nat.mod_lt _ (Nat.pow_pos (by omega))
theorem bitsE_lt : ∀ l : List Nat, (bitsE l).1 < 2 ^ (bitsE l).2
  | [] => by simp [bitsE]
  | v :: l => by
    have h := bitsE_lt l
    have hm := more_lt v
    show moreN v + (bitsE l).1 * 2 ^ bitsK v < 2 ^ (bitsK v + (bitsE l).2)
    rw [Nat.pow_add, Nat.mul_comm (2 ^ bitsK v)]
    have h5 : ((bitsE l).1 + 1) * 2 ^ bitsK v ≤ 2 ^ (bitsE l).2 * 2 ^ bitsK v := Nat.mul_le_mul_right _ h
    rw [Nat.add_mul, Nat.one_mul] at h5
    omega
theorem bitsE_le (l : List Nat) (h : ∀ v ∈ l, v ≤ 65535) : (bitsE l).2 ≤ 15 * l.length := by
  induction l with
  | nil => simp [bitsE]
  | cons v l ih =>
    have h1 := (code_spec v (h v List.mem_cons_self)).2.2.1
    have h2 := ih (fun x hx => h x (List.mem_cons_of_mem _ hx))
    rw [bitsE, List.length_cons]
    dsimp only
    omega
theorem ex_code (v : Nat) (h : v ≤ 65535) : exK (codeK v) = bitsK v ∧ codeK v < 28 := by
  obtain ⟨h1, _, h3, _⟩ := code_spec v h
  refine ⟨?_, by omega⟩
  unfold exK codeK bitsK
  by_cases h16 : v < 16
  · rw [if_pos h16, if_pos h16, if_pos h16]
  · obtain ⟨k, hk4, _, _, _, hw⟩ := wid_has v (by omega) h
    rw [if_neg h16, if_neg h16, hw, if_neg (by omega)]
    omega
theorem num_code (v V : Nat) (h : v ≤ 65535) (hV : V % 2 ^ bitsK v = moreN v) : numK (codeK v) V = v := by
  have hs := (code_spec v h).2.2.2
  obtain ⟨he, h28⟩ := ex_code v h
  unfold numK
  unfold valueK at hs
  unfold exK at he
  by_cases h16 : codeK v < 16
  · rw [if_pos h16] at hs ⊢
    split at hs
    · injection hs
    · cases hs
  · rw [if_neg h16] at hs he ⊢
    rw [if_neg (by omega)] at hs
    split at hs
    · injection hs with hs
      rw [he, hV, ← he]
      exact hs
    · cases hs
/-- Numbers, as codes and bits, are read again. -/
theorem nums_again (l : List Nat) (m : Nat) : ∀ vs : List Nat, (∀ v ∈ vs, v ≤ 65535) → numsD (vs.map codeK) (bitsE (vs ++ l)).1 ((bitsE (vs ++ l)).2 + m) = some (vs, (bitsE l).1, (bitsE l).2 + m)
  | [], _ => rfl
  | v :: vs, h => by
    have hv := h v List.mem_cons_self
    have ih := nums_again l m vs (fun x hx => h x (List.mem_cons_of_mem _ hx))
    obtain ⟨he, h28⟩ := ex_code v hv
    have hm := more_lt v
    rw [List.map_cons, List.cons_append, bitsE, numsD, he]
    dsimp only
    have e1 : (moreN v + (bitsE (vs ++ l)).1 * 2 ^ bitsK v) / 2 ^ bitsK v = (bitsE (vs ++ l)).1 := by
      rw [Nat.add_mul_div_right _ _ (Nat.pow_pos (by omega)), Nat.div_eq_of_lt hm, Nat.zero_add]
    have e2 : (moreN v + (bitsE (vs ++ l)).1 * 2 ^ bitsK v) % 2 ^ bitsK v = moreN v := by
      rw [Nat.add_mul_mod_self_right, Nat.mod_eq_of_lt hm]
    rw [if_pos (by omega), e1, show bitsK v + (bitsE (vs ++ l)).2 + m - bitsK v = (bitsE (vs ++ l)).2 + m by omega, ih, num_code v _ hv e2]
    rfl
theorem num_may (a b c x : Int) (h1 : 1 ≤ x) (h2 : x ≤ 65533) : 0 ≤ numI a b c x ∧ numI a b c x ≤ 65535 := by
  unfold numI
  rw [if_neg (by omega)]
  split
  · omega
  · split
    · omega
    · split <;> omega
theorem three_le (r : Int × Int × Int) (s : StZ) (h : MayZ s) : ∀ v ∈ threeE r s, v ≤ 65535 := by
  obtain ⟨h0, h1, h2, h3, h4, h5⟩ := h
  have hn := num_may r.1 r.2.1 r.2.2 s.2.2 h4 h5
  intro v hv
  simp only [threeE, List.mem_cons, List.not_mem_nil, or_false] at hv
  rcases hv with rfl | rfl | rfl <;> omega
theorem nums_le : ∀ (l : List StZ) (r : Int × Int × Int), (∀ s ∈ l, MayZ s) → ∀ v ∈ (numsE r l).flatten, v ≤ 65535
  | [], _, _, v, hv => by simp [numsE] at hv
  | s :: l, r, h, v, hv => by
    rw [numsE, List.flatten_cons] at hv
    rcases List.mem_append.1 hv with hv | hv
    · exact three_le r s (h s List.mem_cons_self) v hv
    · exact nums_le l _ (fun x hx => h x (List.mem_cons_of_mem _ hx)) v hv
theorem flat_length : ∀ (l : List StZ) (r : Int × Int × Int), (numsE r l).flatten.length = 3 * l.length
  | [], _ => rfl
  | s :: l, r => by
    rw [numsE, List.flatten_cons, List.length_append, flat_length l, List.length_cons]
    simp [threeE]; omega
/-- Steps, as codes and bits, are read again. -/
theorem steps_again (m : Nat) : ∀ (l : List StZ) (r : Int × Int × Int), (∀ s ∈ l, MayZ s) →
    stpsD ((numsE r l).map (List.map codeK)) (bitsE (numsE r l).flatten).1 ((bitsE (numsE r l).flatten).2 + m) r = some (l.map natZ, 0, m)
  | [], r, _ => by simp [numsE, stpsD, bitsE]
  | s :: l, r, h => by
    have hs := h s List.mem_cons_self
    have ih := steps_again m l (behI r.1 r.2.1 r.2.2 s.2.2) (fun x hx => h x (List.mem_cons_of_mem _ hx))
    obtain ⟨h0, h1, h2, h3, h4, h5⟩ := id hs
    have hn := num_may r.1 r.2.1 r.2.2 s.2.2 h4 h5
    have ho := off_num r.1 r.2.1 r.2.2 s.2.2 hn.1
    rw [numsE, List.map_cons, List.flatten_cons, stpsD, nums_again _ m (threeE r s) (three_le r s hs)]
    dsimp only
    have e2 : (((threeE r s)[2]?.getD 0 : Nat) : Int) = numI r.1 r.2.1 r.2.2 s.2.2 := by
      simp only [threeE, List.getElem?_cons_succ, List.getElem?_cons_zero, Option.getD_some]
      omega
    rw [e2, ho]
    dsimp only
    rw [ih, Option.map_some, List.map_cons]
    have e3 : ((threeE r s)[0]?.getD 0, (threeE r s)[1]?.getD 0 + 3, s.2.2.toNat) = natZ s := by
      simp only [threeE, List.getElem?_cons_succ, List.getElem?_cons_zero, Option.getD_some, natZ]
      rw [show (s.2.1 - 3).toNat + 3 = s.2.1.toNat by omega]
    rw [e3]
/-- The codes of one part. -/
def partE (j : Nat) (N : List (List Nat)) : List Nat := N.map fun vs => codeK (vs[j]?.getD 0)
def codesE (N : List (List Nat)) : List (List Nat) := [partE 0 N, partE 1 N, partE 2 N]
theorem rows_codes (l : List StZ) (r : Int × Int × Int) : rowsD (codesE (numsE r l)) l.length = (numsE r l).map (List.map codeK) := by
  have hl := numsE_length l r
  have h3 : ∀ vs ∈ numsE r l, vs.length = 3 := by
    clear hl
    induction l generalizing r with
    | nil => intro vs h; simp [numsE] at h
    | cons s l ih =>
      intro vs h
      rw [numsE] at h
      rcases List.mem_cons.1 h with rfl | h
      · rfl
      · exact ih _ vs h
  generalize numsE r l = N at *
  apply List.ext_getElem
  · simp [rowsD, hl]
  · intro i h1 h2
    have hi : i < N.length := by simpa using h2
    have hv := h3 N[i] (List.getElem_mem hi)
    simp only [rowsD, List.getElem_map, List.getElem_range, atD, codesE, partE, List.map_cons, List.map_nil, List.getElem?_map, List.getElem?_eq_getElem hi, Option.map_some, Option.getD_some]
    generalize N[i] = vs at *
    match vs, hv with
    | [a, b, c], _ => rfl
def bytesE (N : List (List Nat)) : List Nat := bytesOf (bitsE N.flatten).1 (((bitsE N.flatten).2 + 7) / 8)
def secE (n : Nat) (S0 S1 S2 bd : List Nat) : List Nat := grp n ++ (S0 ++ (S1 ++ (S2 ++ (grp bd.length ++ bd))))
/-- A section of these steps, whatever stands behind it. -/
structure SecQ (l : List StZ) (S : List Nat) : Prop where
  read : ∀ u, secD (S ++ u) (l.length : Int) = some (l.map natZ, S.length)
  lt : ∀ x ∈ S, x < 256
  len : S.length ≤ 10000
  one : l.length = 1 → S = secE 1 (0 :: partE 0 (numsE (1, 2, 4) l)) (0 :: partE 1 (numsE (1, 2, 4) l)) (0 :: partE 2 (numsE (1, 2, 4) l)) (bytesE (numsE (1, 2, 4) l))
theorem sec_yes (l : List StZ) (h0 : 0 < l.length) (hl : l.length ≤ 700) (hm : ∀ s ∈ l, MayZ s) (S0 S1 S2 : List Nat) (h1 : StrP (partE 0 (numsE (1, 2, 4) l)) S0) (h2 : StrP (partE 1 (numsE (1, 2, 4) l)) S1) (h3 : StrP (partE 2 (numsE (1, 2, 4) l)) S2) :
    SecQ l (secE l.length S0 S1 S2 (bytesE (numsE (1, 2, 4) l))) := by
  have hp : ∀ j, (partE j (numsE (1, 2, 4) l)).length = l.length := fun j => by rw [partE, List.length_map, numsE_length]
  have r1 := h1.q.read; have r2 := h2.q.read; have r3 := h3.q.read
  have g1 := h1.len; have g2 := h2.len; have g3 := h3.len
  rw [hp] at r1 r2 r3 g1 g2 g3
  have hbl : (bytesE (numsE (1, 2, 4) l)).length ≤ 4096 := by
    have a1 := bitsE_le _ (nums_le l (1, 2, 4) hm)
    have a2 := flat_length l (1, 2, 4)
    rw [bytesE, bytesOf_length]
    omega
  have hb256 : ∀ x ∈ bytesE (numsE (1, 2, 4) l), x < 256 := bytesOf_lt _ _
  have hgp := grp_pos l.length (by omega)
  have hst : stepsD (codesE (numsE (1, 2, 4) l)) l.length (bytesE (numsE (1, 2, 4) l)) = some (l.map natZ) := by
    obtain ⟨e, he⟩ : ∃ e, 8 * (((bitsE (numsE (1, 2, 4) l).flatten).2 + 7) / 8) = (bitsE (numsE (1, 2, 4) l).flatten).2 + e := ⟨8 * (((bitsE (numsE (1, 2, 4) l).flatten).2 + 7) / 8) - (bitsE (numsE (1, 2, 4) l).flatten).2, by omega⟩
    have hv : valB (bytesE (numsE (1, 2, 4) l)) = (bitsE (numsE (1, 2, 4) l).flatten).1 := by
      rw [bytesE, valB_bytesOf, p256]
      exact Nat.mod_eq_of_lt (Nat.lt_of_lt_of_le (bitsE_lt _) (Nat.pow_le_pow_right (by omega) (by omega)))
    have hl8 : 8 * (bytesE (numsE (1, 2, 4) l)).length = (bitsE (numsE (1, 2, 4) l).flatten).2 + e := by rw [bytesE, bytesOf_length, he]
    unfold stepsD
    rw [rows_codes, hv, hl8, steps_again e l (1, 2, 4) hm]
    unfold finD
    dsimp only
    rw [if_pos ⟨by omega, rfl⟩]
  have hone : l.length = 1 → secE l.length S0 S1 S2 (bytesE (numsE (1, 2, 4) l)) = secE 1 (0 :: partE 0 (numsE (1, 2, 4) l)) (0 :: partE 1 (numsE (1, 2, 4) l)) (0 :: partE 2 (numsE (1, 2, 4) l)) (bytesE (numsE (1, 2, 4) l)) := fun h => by
    rw [one_plain _ _ h1 (by rw [hp, h]), one_plain _ _ h2 (by rw [hp, h]), one_plain _ _ h3 (by rw [hp, h]), h]
  generalize hbd : bytesE (numsE (1, 2, 4) l) = bd at *
  refine ⟨fun u => ?_, fun x hx => ?_, ?_, fun h => by rw [hbd]; exact hone h⟩
  · have e1 : secE l.length S0 S1 S2 bd ++ u = grp l.length ++ (S0 ++ (S1 ++ (S2 ++ (grp bd.length ++ (bd ++ u))))) := by simp only [secE, List.append_assoc]
    have hd : (grp l.length ++ (S0 ++ (S1 ++ (S2 ++ (grp bd.length ++ (bd ++ u)))))).drop (grp l.length).length = S0 ++ (S1 ++ (S2 ++ (grp bd.length ++ (bd ++ u)))) := List.drop_left
    unfold secD
    rw [e1, firstG_grp l.length _ (by omega)]
    dsimp only
    rw [if_pos ⟨hgp, Int.le_refl _, by omega⟩, if_neg (by omega), hd]
    have hs3 : strsD 3 (S0 ++ (S1 ++ (S2 ++ (grp bd.length ++ (bd ++ u))))) l.length = some (codesE (numsE (1, 2, 4) l), S0.length + (S1.length + (S2.length + 0))) := by
      rw [strsD, r1]
      dsimp only
      rw [List.drop_left, strsD, r2]
      dsimp only
      rw [List.drop_left, strsD, r3]
      rfl
    rw [hs3]
    dsimp only
    have hd2 : (S0 ++ (S1 ++ (S2 ++ (grp bd.length ++ (bd ++ u))))).drop (S0.length + (S1.length + (S2.length + 0))) = grp bd.length ++ (bd ++ u) := by
      rw [← List.drop_drop, List.drop_left, ← List.drop_drop, List.drop_left, Nat.add_zero, List.drop_left]
    rw [hd2, (txt_yes bd u hbl).1]
    dsimp only
    rw [hst]
    simp only [Option.map_some, secE, List.length_append]
    congr 2
    omega
  · unfold secE at hx
    rcases List.mem_append.1 hx with hx | hx
    · exact grp_lt _ (by omega) x hx
    rcases List.mem_append.1 hx with hx | hx
    · exact h1.q.lt x hx
    rcases List.mem_append.1 hx with hx | hx
    · exact h2.q.lt x hx
    rcases List.mem_append.1 hx with hx | hx
    · exact h3.q.lt x hx
    rcases List.mem_append.1 hx with hx | hx
    · exact grp_lt _ (by omega) x hx
    · exact hb256 x hx
  · have t1 := grp_ten l.length (by omega)
    have t2 := grp_ten bd.length (by omega)
    simp only [secE, List.length_append]
    omega
theorem sec_none (l : List StZ) (h : l = []) : SecQ l [0] := by
  subst h
  refine ⟨fun u => ?_, fun x hx => by simp at hx; omega, by simp, fun h => by simp at h⟩
  have e : firstG ([0] ++ u) = (0, 1) := by
    have h1 := firstG_grp 0 u (by omega)
    have h2 : grp 0 = [0] := grp_small 0 (by omega)
    rw [h2] at h1
    exact h1
  unfold secD
  rw [e]
  simp
end Go.Proofs.YtbdciiiimdbmkaaGreat.Bm

namespace Go.Proofs.YtbdciiiimdbmkaaGreat.Bm

theorem sec_no (bs : List Nat) (most : Int) (h : ¬ (0 < (firstG bs).2 ∧ ((firstG bs).1 : Int) ≤ min most 1000)) : secD bs most = none := by
  unfold secD
  rw [if_neg (by omega)]
theorem sec_zero (bs : List Nat) (most : Int) (h : 0 < (firstG bs).2 ∧ ((firstG bs).1 : Int) ≤ min most 1000) (h0 : (firstG bs).1 = 0) : secD bs most = some ([], (firstG bs).2) := by
  unfold secD
  rw [if_pos (by omega), if_pos h0]
theorem sec_more (bs : List Nat) (most : Int) (h : 0 < (firstG bs).2 ∧ ((firstG bs).1 : Int) ≤ min most 1000) (h0 : (firstG bs).1 ≠ 0) : secD bs most =
    match strsD 3 (bs.drop (firstG bs).2) (firstG bs).1 with
    | none => none
    | some p => match txtD ((bs.drop (firstG bs).2).drop p.2) with
      | none => none
      | some q => (stepsD p.1 (firstG bs).1 q.1).map fun l => (l, (firstG bs).2 + p.2 + q.2) := by
  unfold secD
  exact (if_pos (by omega)).trans (if_neg h0)
end Go.Proofs.YtbdciiiimdbmkaaGreat.Bm

namespace Go.Proofs.YtbdciiiimdbmkaaGreat
open Go.RowKit

theorem first_of (p1 p2 p3 p4 p5 p6 : Bool) : p1 = true ∨ (p1 = false ∧ p2 = true) ∨ (p1 = false ∧ p2 = false ∧ p3 = true) ∨ (p1 = false ∧ p2 = false ∧ p3 = false ∧ p4 = true) ∨
    (p1 = false ∧ p2 = false ∧ p3 = false ∧ p4 = false ∧ p5 = true) ∨ (p1 = false ∧ p2 = false ∧ p3 = false ∧ p4 = false ∧ p5 = false ∧ p6 = true) ∨ (p1 = false ∧ p2 = false ∧ p3 = false ∧ p4 = false ∧ p5 = false ∧ p6 = false) := by
  cases p1 <;> cases p2 <;> cases p3 <;> cases p4 <;> cases p5 <;> cases p6 <;> simp
set_option maxHeartbeats 4000000 in
set_option maxRecDepth 100000 in
theorem qrright_any (A : Option Addr) (c : Nat) (l : List Bm.StZ) (w : World) (hl : l.length ≤ 100000) (hr : StzR w A l) :
    Calls Tryz.prog 7 #[.slice A l.length c] w fun e w' => e = .returned (.bool (decide ((∀ s ∈ l, Bm.MayZ s) ∧ l.length ≤ 1000))) ∧ w = w' := by
  have Hr := Lib.hid hr
  obtain ⟨n, hn⟩ : ∃ n, n = l.length := ⟨_, rfl⟩
  have Hn := Lib.hid hn
  obtain ⟨r, hres⟩ : ∃ r, r = decide ((∀ s ∈ l, Bm.MayZ s) ∧ l.length ≤ 1000) := ⟨_, rfl⟩
  rw [← hres]
  have Hres := Lib.hid hres
  rw [← hn] at hl ⊢
  clear hr hn hres
  go_enter Tryz.func7, Tryz.ntmps7
  go_wp2
  go_loopw [3] (fun i wr => wr = w ∧ ∃ k : Nat, i = .int .i64 (k : Int) ∧ k ≤ n ∧ Hid (∀ s ∈ l.take k, Bm.MayZ s)) (fun i _ => n - (intOf i).toNat)
  case atStart => exact ⟨rfl, 0, rfl, Nat.zero_le _, Lib.hid (by simp)⟩
  case round =>
    obtain ⟨rfl, k, rfl, hk, hall⟩ := hrel
    by_cases hkl : k < n
    · have hkl' : k < l.length := by rw [← Hn.out]; exact hkl
      obtain ⟨g, off, rfl, hg, hc⟩ := Hr.out (by omega)
      obtain ⟨c0, c1, c2⟩ := hc k hkl'
      obtain ⟨x, m, o, hs⟩ : ∃ x m o, l[k] = (x, m, o) := ⟨_, _, _, rfl⟩
      rw [hs] at c0 c1 c2
      simp only at c0 c1 c2
      have Htk : Hid (l.take (k + 1) = l.take k ++ [(x, m, o)]) := Lib.hid (by rw [List.take_add_one, List.getElem?_eq_getElem hkl', hs]; rfl)
      have Hin : Hid ((x, m, o) ∈ l) := Lib.hid (by rw [← hs]; exact List.getElem_mem hkl')
      have dk : decide ((k : Int) < (n : Int)) = true := decide_eq_true (by omega)
      have hno : ¬ Bm.MayZ (x, m, o) → r = false := fun h => by rw [Hres.out]; exact decide_eq_false (fun hh => h (hh.1 _ Hin.out))
      have hyes : Bm.MayZ (x, m, o) → ∀ s ∈ l.take (k + 1), Bm.MayZ s := fun h s hs => by
        rw [Htk.out] at hs
        rcases List.mem_append.1 hs with hs | hs
        · exact hall.out s hs
        · rw [List.mem_singleton.1 hs]; exact h
      have h6 := first_of (decide (x < 0)) (decide (65535 < x)) (decide (m < 3)) (decide (65538 < m)) (decide (o < 1)) (decide (65533 < o))
      clear hc hs hall Htk Hin Hr Hres
      rcases h6 with h1 | ⟨h1, h2⟩ | ⟨h1, h2, h3⟩ | ⟨h1, h2, h3, h4⟩ | ⟨h1, h2, h3, h4, h5⟩ | ⟨h1, h2, h3, h4, h5, h6⟩ | ⟨h1, h2, h3, h4, h5, h6⟩
      case' inr.inr.inr.inr.inr.inr =>
        have Hy : Hid (∀ s ∈ l.take (k + 1), Bm.MayZ s) := Lib.hid (hyes (by
          simp only [decide_eq_false_iff_not] at h1 h2 h3 h4 h5 h6
          exact ⟨by dsimp only; omega, by dsimp only; omega, by dsimp only; omega, by dsimp only; omega, by dsimp only; omega, by dsimp only; omega⟩))
        clear hno hyes
        go_wp2
        go_roundw
        case rel => exact ⟨trivial, k + 1, by go_num, by omega, Hy⟩
        case measure => simp [intOf]; omega
      all_goals
        have Hno : Hid (r = false) := Lib.hid (hno (by
          simp only [decide_eq_false_iff_not, decide_eq_true_eq] at *
          rintro ⟨q1, q2, q3, q4, q5, q6⟩
          dsimp only at q1 q2 q3 q4 q5 q6
          omega))
        clear hno hyes
        go_wp2
        go_ret
        rw [Hno.out]
        exact ⟨rfl, rfl⟩
    · obtain rfl : k = n := by omega
      have d0 : decide (k ≤ 1000) = r := by
        have h := hall.out
        rw [Hn.out, List.take_length] at h
        rw [Hres.out, ← Hn.out]
        exact decide_eq_decide.2 ⟨fun h1 => ⟨h, h1⟩, fun h1 => h1.2⟩
      have d1 : decide ((k : Int) ≤ 1000) = r := by rw [← d0]; exact decide_eq_decide.2 (by omega)
      have dk : decide ((k : Int) < (k : Int)) = false := decide_eq_false (by omega)
      clear hall
      go_wp2
      go_ret
      exact ⟨rfl, rfl⟩
end Go.Proofs.YtbdciiiimdbmkaaGreat
