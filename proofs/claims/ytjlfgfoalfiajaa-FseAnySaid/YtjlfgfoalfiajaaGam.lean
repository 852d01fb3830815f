/-
  Layer 7 (fse): the reference's Decode, by its walk. Premise: what the reference's Open answers (its bits as a number, how many). Conditions: as each theorem's premises say.
  What layer 7's calls (fse) are to answer, as the laws' walks ask for it: definitions, each a premise of a law's walk; and their mathematics: what is coded is decoded again, what is decoded has just this code. No condition.
  Plain mathematics between layers 5 and 7: the share of counts is fair, and each byte that is counted has a part of it; a code has no more than so many bits. No condition.
-/
import Derived.Test.YtjlfgfoalfiajaaGal
import Derived.Test.YtjlfgfoalfiajaaGac
import Derived.Test.YtjlfgfoalfiajaaGaj
import Derived.Test.YtjlfgfoalfiajaaGaa
import Derived.Deep.DeepCutAuto
namespace Go.Proofs.Ytjlfgfoalfiajaa
open Go.RowKit
namespace Bm
/-- The symbols of bits; none: there are none. -/
def decA (ls : List Nat) (log : Nat) (ok : Bool) (M L : Nat) (n : Int) : Option (List Nat) :=
  if ok = true ∧ 0 ≤ n ∧ n ≤ 1048576 ∧ log ≤ L then decR ls log n.toNat (M % 2 ^ (L - log)) (L - log) (M / 2 ^ (L - log)) else none
end Bm
/-- What Decode answers. -/
def DecA (base : Nat) (w' : World) (e : Ending) : Option (List Nat) → Prop
  | none => e = .returned (.tuple #[.slice none 0 0, .bool false])
  | some l => ∃ u, e = .returned (.tuple #[u, .bool true]) ∧ w'.ownsRow base 5 1 u l.length (u8s l)

set_option maxHeartbeats 2000000 in
set_option maxRecDepth 100000 in
theorem gdec_any (A B : Option Addr) (c d nb : Nat) (ls : List Nat) (log M L : Nat) (ok : Bool) (n : Int) (w : World) (h : Bm.FairN ls log) (hn : Bm.IntOk n) (hL : L ≤ 100000) (hM : M < 2 ^ L) (hr : Reads w A (c3 (Bm.cellsM ls log)))
    (hopen : Calls Try.prog 38 #[.slice B nb d] w fun e w' => ∃ A' c', e = .returned (.tuple #[.slice A' L c', .bool ok]) ∧ L ≤ c' ∧ c' ≤ maxLen ∧ Reads w' A' (i64s (Bm.bitsOf M L)) ∧ Below w.heap.size w w') :
    Calls Try.prog 15 #[.slice A (2 ^ log) c, .int .i64 (log : Int), .slice B nb d, .int .i64 n] w fun e w' => DecA w.heap.size w' e (Bm.decA ls log ok M L n) ∧ Below w.heap.size w w' := by
  obtain ⟨i0, hi, hz0, hz1, hz2⟩ := info_parts info_u8
  have h9 := h.high
  have hlow := h.low
  obtain ⟨hn0, hn1⟩ := hn
  obtain ⟨r, hres⟩ : ∃ r, r = Bm.decA ls log ok M L n := ⟨_, rfl⟩
  rw [← hres]
  have Hf := Lib.hid h
  have Hr := Lib.hid hr
  have HM := Lib.hid hM
  have Hop := Lib.hid hopen
  have Hres := Lib.hid hres
  obtain ⟨S, hS⟩ : ∃ S, S = 2 ^ log := ⟨_, rfl⟩
  have hS512 : S ≤ 512 := by rw [hS]; exact Nat.pow_le_pow_right (n := 2) (by omega) h9
  have HS := Lib.hid hS
  rw [← hS]
  clear h hr hM hopen hres hS
  have Hno : Hid (¬ (ok = true ∧ 0 ≤ n ∧ n ≤ 1048576 ∧ log ≤ L) → r = none) := Lib.hid (fun hx => by rw [Hres.out]; unfold Bm.decA; rw [if_neg hx])
  go_enter Try.func15, Try.ntmps15
  go_wp2_with fail
  refine Hop.out.mono ?_
  rintro e w1 ⟨A', c', rfl, hLc, hcm, hrd, hb1⟩
  have Hb1 := Lib.hid hb1
  have Hrd := Lib.hid hrd
  clear hb1 hrd Hop
  cases ok with
  | false =>
    have hx := Lib.hid (Hno.out (by simp))
    clear Hno Hres
    go_wp2
    go_ret2
    exact ⟨by rw [hx.out]; rfl, Hb1.out⟩
  | true =>
  by_cases c1 : n < 0
  · have hx := Lib.hid (Hno.out (by omega))
    clear Hno Hres
    go_wp2
    go_ret2
    exact ⟨by rw [hx.out]; rfl, Hb1.out⟩
  by_cases c2 : 1048576 < n
  · have hx := Lib.hid (Hno.out (by omega))
    clear Hno Hres
    go_wp2
    go_ret2
    exact ⟨by rw [hx.out]; rfl, Hb1.out⟩
  by_cases c3 : L < log
  · have hx := Lib.hid (Hno.out (by omega))
    clear Hno Hres
    go_wp2
    go_ret2
    exact ⟨by rw [hx.out]; rfl, Hb1.out⟩
  obtain ⟨m, rfl⟩ := Int.eq_ofNat_of_zero_le (show 0 ≤ n by omega)
  obtain ⟨q, rfl⟩ : ∃ q, L = q + log := ⟨L - log, by omega⟩
  have hre : r = Bm.decR ls log m (M % 2 ^ q) q (M / 2 ^ q) := by
    rw [Hres.out]
    unfold Bm.decA
    rw [if_pos ⟨rfl, by omega, by omega, by omega⟩, Int.toNat_natCast, Nat.add_sub_cancel]
  have hst : M / 2 ^ q < 2 ^ log := by
    have h1 := HM.out
    rw [Nat.pow_add, Nat.mul_comm] at h1
    exact (Nat.div_lt_iff_lt_mul (Nat.pow_pos (by omega))).2 h1
  have hcf := fun W => cut_from A' (q + log) c' q W (by omega) hLc
  have hct := fun W => cut_to A' (q + log) c' q W (by omega) hLc
  have hbb := bits_behind Hrd.out (c := c') (q := q) (by omega) hLc
  have hbt := Lib.hid (bits_to Hrd.out (q := q) (by omega))
  rw [Nat.add_sub_cancel_left] at hcf hbb
  have Hnum := Lib.hid (rnum_reads _ log (c' - q) _ w1 (by omega) hst hbb)
  have hqi : ((q + log : Nat) : Int) - (log : Int) = (q : Int) := by omega
  have Hre := Lib.hid hre
  have hN := Lib.hid (Nat.mod_lt M (Nat.pow_pos (n := q) (show 0 < 2 by omega)))
  rw [← HS.out] at hst
  clear hre Hres Hno HM Hrd hbb
  generalize M / 2 ^ q = st at hst Hnum Hre
  generalize M % 2 ^ q = N0 at hbt Hre hN
  go_wp2_with fail
  refine Hnum.out.mono ?_
  rintro e w' ⟨rfl, rfl⟩
  clear hcf Hnum
  go_wp2
  clear hct
  go_loopw [8, 9, 10, 12, 13, 14, 15, 16] (fun _ _ lv sv u i _ _ wr => ∃ (k N len s0 : Nat) (acc : List Nat), k ≤ m ∧ i = .int .i64 (k : Int) ∧ lv = .slice A' len c' ∧ sv = .int .i64 (s0 : Int) ∧ len ≤ q ∧ s0 < S ∧ acc.length = k ∧ Hid (N < 2 ^ len) ∧ Hid (Reads w1 A' (i64s (Bm.bitsOf N len))) ∧ Hid (wr.ownsRow w1.heap.size 5 1 u k (u8s acc)) ∧ Hid (r = (Bm.decR ls log (m - k) N len s0).map (acc ++ ·)) ∧ Hid (Below w1.heap.size w1 wr)) (fun _ _ _ _ _ i _ _ _ => m - (intOf i).toNat)
  case atStart => exact ⟨0, N0, q, st, [], by omega, rfl, rfl, rfl, by omega, hst, rfl, hN, hbt, Lib.hid (World.ownsRow_nil _ _ _ _), Lib.hid (by rw [Hre.out, Nat.sub_zero]; cases Bm.decR ls log m N0 q st <;> rfl), Lib.hid (Below.refl _ _)⟩
  case round =>
    obtain ⟨k, N, len, s0, acc, hk, rfl, rfl, rfl, hlq, hs0, hacc, hNl, hrd, hown, hrr, hbel⟩ := hrel
    clear Hre hbt hN hst
    have hbelw := Lib.hid (Hb1.out.trans (hbel.out.mono Hb1.out.size))
    by_cases hkm : k < m
    · obtain ⟨g, off, rfl, hc⟩ := reads_c3 (reads_on Hr.out hbelw.out) (by rw [Bm.cellsM_length, ← HS.out]; omega)
      have hs2 : s0 < 2 ^ log := by rw [← HS.out]; exact hs0
      obtain ⟨k0, k1, k2⟩ := hc s0 (by rw [Bm.cellsM_length]; exact hs2)
      rw [Bm.cellsM_get] at k0 k1 k2
      dsimp only at k0 k1 k2
      have hbl := Bm.bits_at ls log s0 Hf.out hs2
      have hba := Bm.base_at ls log s0 Hf.out hs2
      have hsy2 : Bm.symAt ls log s0 < 256 := by
        obtain ⟨h1, _⟩ := Bm.tab_sym ls log s0 Hf.out hs2
        have := Hf.out.len
        omega
      have hz9 := Nat.le_trans (Nat.le_add_right _ _) hba
      rw [← HS.out] at hba hz9
      have hunf : Bm.decR ls log (m - k) N len s0 = if len < Bm.bitsAt ls log s0 then none else (Bm.decR ls log (m - (k + 1)) (N % 2 ^ (len - Bm.bitsAt ls log s0)) (len - Bm.bitsAt ls log s0) (Bm.baseAt ls log s0 + N / 2 ^ (len - Bm.bitsAt ls log s0))).map fun l => Bm.symAt ls log s0 :: l := by
        rw [show m - k = (m - (k + 1)) + 1 by omega, Bm.decR]
      rw [hunf] at hrr
      clear hc hunf hs2
      generalize Bm.symAt ls log s0 = sy at k0 hrr hsy2
      generalize hPg : 2 ^ Bm.bitsAt ls log s0 = P at hba
      have HPg := Lib.hid hPg
      clear hPg
      generalize Bm.bitsAt ls log s0 = b at k1 hbl hrr HPg
      generalize Bm.baseAt ls log s0 = z at k2 hba hz9 hrr
      by_cases hlb : len < b
      · rw [if_pos hlb] at hrr
        have Hrr := Lib.hid (show r = none from hrr.out)
        clear hrr hown hrd
        go_wp2
        go_ret2
        exact ⟨by rw [Hrr.out]; rfl, hbelw.out.alloc hbelw.out.size _⟩
      · rw [if_neg hlb] at hrr
        obtain ⟨q2, rfl⟩ : ∃ q2, len = q2 + b := ⟨len - b, by omega⟩
        rw [Nat.add_sub_cancel] at hrr
        have hv : N / 2 ^ q2 < 2 ^ b := by
          have h1 := hNl.out
          rw [Nat.pow_add, Nat.mul_comm] at h1
          exact (Nat.div_lt_iff_lt_mul (Nat.pow_pos (by omega))).2 h1
        have Hcf := Lib.hid (fun W => cut_from A' (q2 + b) c' q2 W (by omega) (by omega))
        have Hct := Lib.hid (fun W => cut_to A' (q2 + b) c' q2 W (by omega) (by omega))
        have hbb := bits_behind hrd.out (c := c') (q := q2) (by omega) (by omega)
        have Hbt := Lib.hid (bits_to hrd.out (q := q2) (by omega))
        rw [Nat.add_sub_cancel_left] at hbb Hcf
        have Hnum := Lib.hid (fun W (hb : Below w1.heap.size w1 W) => rnum_reads (behindA A' c' q2) b (c' - q2) (N / 2 ^ q2) W (by omega) hv (reads_on hbb hb))
        have hN2 := Lib.hid (Nat.mod_lt N (Nat.pow_pos (n := q2) (show 0 < 2 by omega)))
        rw [HPg.out] at hv
        clear hbb hrd HPg hNl
        generalize N / 2 ^ q2 = v at hv Hnum hrr
        generalize N % 2 ^ q2 = N2 at Hbt hrr hN2
        obtain ⟨bc, hbc⟩ : ∃ x, x = wr.heap.size := ⟨_, rfl⟩
        have hrowc : Row (wr.alloc (.cells #[.int .u8 (sy : Int), .int .i64 (b : Int), .int .i64 (z : Int)] 53)) bc 53 (cel3 (sy, b, z)) := by rw [hbc]; exact Row.new wr 53 (cel3 (sy, b, z))
        have hal := (Below.refl wr.heap.size wr).alloc (Nat.le_refl _) (.cells #[.int .u8 (sy : Int), .int .i64 (b : Int), .int .i64 (z : Int)] 53)
        have Hal := Lib.hid hal
        have Howna := Lib.hid (own_below hown.out hal)
        have Hbela := Lib.hid (hbel.out.trans (hal.mono hbel.out.size))
        have Hbc := Lib.hid hbc
        have Hob := Lib.hid (fun x (hx : u13.ownBlock = some x) => show x < bc by rw [hbc]; exact (hown.out.lt x hx).2)
        have Hrowc := Lib.hid hrowc
        clear hbc hrowc hal hown hbel
        go_upto_region 11 with fail
        rw [← Hbc.out]
        clear k0 k1 k2
        generalize (wr.alloc (.cells #[.int .u8 (sy : Int), .int .i64 (b : Int), .int .i64 (z : Int)] 53)) = wa at Hal Howna Hbela Hrowc ⊢
        have d0 := Hrowc.out.cell 0
        have d1 := Hrowc.out.cell 1
        simp only [cel3, List.getElem?_cons_zero, List.getElem?_cons_succ] at d0 d1
        go_wp2_with (at_builtin; refine wpList_append_own _ rfl _ _ 23 rfl w1.heap.size 5 i0 (.int .u8 0) 1 1 Try.underlying23 hi hz0 hz1 hz2 rfl (by decide) _ _ _ rfl (Howna.out.alloc _) ⟨wa.heap.size, 0, none⟩ 1 1 [.int .u8 (sy : Int)] rfl rfl ?d1 ?d2 ?d3 ?d4 ?d5 ?_)
        case d1 =>
          intro j u hj
          match j, hj with
          | 0, hj => simp at hj; subst hj; simp [Addr.add]
        case d2 => intro u hu; simp at hu; subst hu; rfl
        case d3 => unfold maxLen; omega
        case d4 => omega
        case d5 => have := Hbela.out.size; simp; omega
        intro u' w2 hown2 hgr2 _
        have hbel2 : Below w1.heap.size w1 w2 := (Hbela.out.alloc Hbela.out.size _).grown hgr2 (by have := Hbela.out.size; simp; omega) (fun x e => (Howna.out.lt x e).1)
        have hrow2 : Row w2 bc 53 (cel3 (sy, b, z)) := (Hrowc.out.alloc _).keep (hgr2.block bc (by have := Hrowc.out.lt; simp; omega) (fun e => by have := Hob.out bc e.symm; omega))
        have e : u8s acc ++ [Value.int .u8 (sy : Int)] = u8s (acc ++ [sy]) := by simp [u8s]
        rw [e] at hown2
        have Hown2 := Lib.hid hown2
        have Hbel2 := Lib.hid hbel2
        have f1 := hrow2.cell 1
        have f2 := hrow2.cell 2
        simp only [cel3, List.getElem?_cons_zero, List.getElem?_cons_succ] at f1 f2
        have hcf := Hcf.out
        have Hn2 := Lib.hid (fun nn => Hnum.out (w2.drewN nn) (below_drewN hbel2 nn))
        clear hgr2 hown2 hbel2 hrow2 e d0 d1 Howna Hbela Hal Hrowc Hob Hcf Hnum
        go_wp2_with fail
        go_quiet ((go_at_call 39; exact quiet_left6 (Hn2.out _)))
        have hct := Hct.out
        clear hcf
        go_wp2
        go_roundw
        case rel =>
          refine ⟨k + 1, N2, q2, z + v, acc ++ [sy], by omega, by go_num, rfl, by go_num, by omega, by omega, by simp [hacc], hN2, Hbt, Hown2, ?_, Lib.hid (below_drewN Hbel2.out _)⟩
          rw [hrr.out]
          refine Lib.hid ?_
          cases Bm.decR ls log (m - (k + 1)) N2 q2 (z + v) with
          | none => rfl
          | some l => simp
        case measure => simp [intOf]; omega
    · obtain rfl : k = m := by omega
      rw [Nat.sub_self] at hrr
      by_cases hz : s0 = 0 ∧ len = 0
      · obtain ⟨rfl, rfl⟩ := hz
        have Hx := Lib.hid (show r = some acc by rw [hrr.out]; simp [Bm.decR])
        have Hl := Lib.hid hacc
        have Hownf := Lib.hid (own_low hown.out Hb1.out.size)
        clear hrr hacc hown
        go_wp2
        go_ret2
        exact ⟨by rw [Hx.out]; exact ⟨_, rfl, by rw [Hl.out]; exact Hownf.out⟩, hbelw.out⟩
      · have Hx := Lib.hid (show r = none by rw [hrr.out]; simp only [Bm.decR]; rw [if_neg hz]; rfl)
        clear hrr
        by_cases hs00 : s0 = 0
        · subst hs00
          have hl0 : 0 < len := by omega
          go_wp2
          go_ret2
          exact ⟨by rw [Hx.out]; rfl, hbelw.out⟩
        · have hne : ((s0 : Int) != 0) = true := by simp; omega
          go_wp2
          go_ret2
          exact ⟨by rw [Hx.out]; rfl, hbelw.out⟩
end Go.Proofs.Ytjlfgfoalfiajaa

namespace Go.Proofs.Ytjlfgfoalfiajaa
open Go.RowKit
namespace Bm
theorem top_log2 (V k : Nat) (h : Top V k) : V.log2 = k := by
  obtain ⟨h1, h2⟩ := top_iff.1 h
  have h0 : 0 < V := by have := Nat.two_pow_pos k; omega
  have h3 := wid_eq V k h1 (by rw [Nat.pow_succ]; omega)
  rw [wid_pos V h0] at h3
  omega
/-- The bits of sealed bytes, as a number, and how many; none: they aren't sealed. -/
def openN (bs : List Nat) : Option (Nat × Nat) := if bs.getLast?.getD 0 = 0 then none else some (valB bs % 2 ^ (valB bs).log2, (valB bs).log2)
/-- Sealed bits as bytes. -/
def sealN (N n : Nat) : List Nat := bytesOf (N + 2 ^ n) (n / 8 + 1)
theorem sealN_length (N n : Nat) : (sealN N n).length = n / 8 + 1 := by simp [sealN, bytesOf_length]
theorem sealN_lt (N n : Nat) : ∀ x ∈ sealN N n, x < 256 := bytesOf_lt _ _
theorem bytes_last (V m : Nat) : (bytesOf V (m + 1)).getLast? = some (V / 256 ^ m % 256) := by
  rw [bytesOf_succ, List.getLast?_append, List.getLast?_singleton]
  rfl
theorem open_seal (N n : Nat) (h : N < 2 ^ n) : openN (sealN N n) = some (N, n) := by
  have ht := top_sum N n h
  have hv : valB (sealN N n) = N + 2 ^ n := valB_seal N n h
  have hd : (N + 2 ^ n) / 256 ^ (n / 8) % 256 ≠ 0 := by
    have h1 := (top_iff.1 ht).1
    have h2 := sum_lt_bytes N n h
    rw [Nat.pow_succ] at h2
    have hp : 0 < 256 ^ (n / 8) := Nat.pow_pos (by omega)
    have h3 : (N + 2 ^ n) / 256 ^ (n / 8) < 256 := (Nat.div_lt_iff_lt_mul hp).2 (by rw [Nat.mul_comm]; exact h2)
    have h4 : 256 ^ (n / 8) ≤ N + 2 ^ n := by
      refine Nat.le_trans ?_ h1
      rw [p256]
      exact Nat.pow_le_pow_right (by omega) (by omega)
    have h5 : 1 ≤ (N + 2 ^ n) / 256 ^ (n / 8) := (Nat.le_div_iff_mul_le hp).2 (by omega)
    omega
  unfold openN
  rw [hv, top_log2 _ _ ht, if_neg]
  · have := ht.sum
    congr 2
    omega
  · unfold sealN
    rw [bytes_last, Option.getD_some]
    exact hd
/-- Bytes that are sealed have just these bits. -/
theorem seal_open (bs : List Nat) (N n : Nat) (hb : ∀ x ∈ bs, x < 256) (h : openN bs = some (N, n)) : N < 2 ^ n ∧ bs = sealN N n ∧ n < 8 * bs.length := by
  unfold openN at h
  split at h
  · cases h
  · next hl =>
    injection h with h
    injection h with h1 h2
    obtain ⟨front, b, rfl⟩ : ∃ front b, bs = front ++ [b] := by
      rcases List.eq_nil_or_concat bs with rfl | ⟨f, b, rfl⟩
      · simp at hl
      · exact ⟨f, b, List.concat_eq_append⟩
    rw [List.getLast?_append, List.getLast?_singleton] at hl
    have hb0 : b ≠ 0 := by simpa using hl
    obtain ⟨l1, l8, ht⟩ := top_last front b (fun x hx => hb x (List.mem_append_left _ hx)) (hb b (by simp)) hb0
    have hlg := top_log2 _ _ ht
    rw [hlg] at h1 h2
    have hs := ht.sum
    rw [h1, h2] at hs
    have hN : N < 2 ^ n := by rw [← h1, ← h2]; exact Nat.mod_lt _ (Nat.two_pow_pos _)
    refine ⟨hN, ?_, by rw [List.length_append, List.length_singleton]; omega⟩
    unfold sealN
    rw [← hs]
    have hlen : n / 8 + 1 = (front ++ [b]).length := by rw [List.length_append, List.length_singleton]; omega
    rw [hlen]
    exact (bytesOf_valB _ hb).symm
/-- The bits of coded symbols, as a number, and how many; none: one has no state. -/
def codeN (ls : List Nat) (log : Nat) (syms : List Nat) : Option (Nat × Nat) := (encR ls log syms).map fun t => (t.1 + t.2.2 * 2 ^ t.2.1, t.2.1 + log)
/-- What Encode answers. -/
def encB (ls : List Nat) (log : Nat) (syms : List Nat) : Option (List Nat) := (codeN ls log syms).map fun t => sealN t.1 t.2
/-- What Decode answers. -/
def decB (ls : List Nat) (log : Nat) (bs : List Nat) (n : Int) : Option (List Nat) := (openN bs).bind fun t => decA ls log true t.1 t.2 n
theorem code_lt (ls : List Nat) (log : Nat) (h : FairN ls log) (syms : List Nat) (N n : Nat) (e : codeN ls log syms = some (N, n)) : N < 2 ^ n ∧ n ≤ log * (syms.length + 1) ∧ log ≤ n := by
  unfold codeN at e
  cases hr : encR ls log syms with
  | none => rw [hr] at e; cases e
  | some t =>
    obtain ⟨N0, n0, st⟩ := t
    rw [hr, Option.map_some] at e
    injection e with e
    injection e with e1 e2
    subst e1 e2
    obtain ⟨h1, h2, h3, _⟩ := enc_ok ls log h syms N0 n0 st hr
    dsimp only
    refine ⟨?_, by rw [Nat.mul_add, Nat.mul_one]; omega, by omega⟩
    rw [Nat.pow_add, Nat.mul_comm (2 ^ n0)]
    have h5 : (st + 1) * 2 ^ n0 ≤ 2 ^ log * 2 ^ n0 := Nat.mul_le_mul_right _ h2
    rw [Nat.add_mul, Nat.one_mul] at h5
    generalize st * 2 ^ n0 = A at h5 ⊢
    generalize 2 ^ log * 2 ^ n0 = B at h5 ⊢
    omega
theorem dec_enc (ls : List Nat) (log : Nat) (h : FairN ls log) (syms bs : List Nat) (hl : syms.length ≤ 1048576) (e : encB ls log syms = some bs) : decB ls log bs (syms.length : Int) = some syms := by
  unfold encB at e
  cases hc : codeN ls log syms with
  | none => rw [hc] at e; cases e
  | some t =>
    obtain ⟨N, n⟩ := t
    rw [hc, Option.map_some] at e
    injection e with e
    subst e
    obtain ⟨hN, _, hln⟩ := code_lt ls log h syms N n hc
    unfold decB
    dsimp only
    rw [open_seal N n hN, Option.bind_some]
    unfold codeN at hc
    cases hr : encR ls log syms with
    | none => rw [hr] at hc; cases hc
    | some t =>
      obtain ⟨N0, n0, st⟩ := t
      rw [hr, Option.map_some] at hc
      injection hc with hc
      injection hc with e1 e2
      subst e1 e2
      obtain ⟨h1, h2, h3, h4⟩ := enc_ok ls log h syms N0 n0 st hr
      obtain ⟨s1, s2⟩ := code_split N0 n0 st h1
      dsimp only
      unfold decA
      rw [if_pos ⟨rfl, by omega, by omega, by omega⟩, Int.toNat_natCast, Nat.add_sub_cancel, s1, s2]
      exact h4
theorem enc_dec (ls : List Nat) (log : Nat) (h : FairN ls log) (bs syms : List Nat) (n : Int) (hb : ∀ x ∈ bs, x < 256) (e : decB ls log bs n = some syms) : encB ls log syms = some bs ∧ (syms.length : Int) = n ∧ n ≤ 1048576 ∧ ∀ s ∈ syms, s < 256 := by
  unfold decB at e
  cases ho : openN bs with
  | none => rw [ho] at e; cases e
  | some t =>
    obtain ⟨N, L⟩ := t
    rw [ho, Option.bind_some] at e
    obtain ⟨hN, hbs, _⟩ := seal_open bs N L hb ho
    dsimp only at e
    unfold decA at e
    split at e
    · next hc =>
      obtain ⟨_, h0, hn, hlL⟩ := hc
      obtain ⟨q, rfl⟩ : ∃ q, L = q + log := ⟨L - log, by omega⟩
      rw [Nat.add_sub_cancel] at e
      have hst : N / 2 ^ q < 2 ^ log := by
        rw [Nat.pow_add, Nat.mul_comm] at hN
        exact (Nat.div_lt_iff_lt_mul (Nat.pow_pos (by omega))).2 hN
      have hmod : N % 2 ^ q < 2 ^ q := Nat.mod_lt _ (Nat.two_pow_pos _)
      obtain ⟨h1, h2⟩ := dec_ok ls log h n.toNat _ q _ syms hmod hst e
      refine ⟨?_, by omega, hn, ?_⟩
      · unfold encB codeN
        rw [h1]
        simp only [Option.map_some]
        congr 1
        rw [hbs]
        congr 1
        have := Nat.div_add_mod N (2 ^ q)
        rw [Nat.mul_comm] at this
        omega
      · intro s hs
        have hp : 0 < ls[s]?.getD 0 := by
          rcases Nat.eq_zero_or_pos (ls[s]?.getD 0) with h3 | h3
          · rw [enc_none ls log h s h3 syms hs] at h1; cases h1
          · exact h3
        have hlen := h.len
        rcases Nat.lt_or_ge s ls.length with h4 | h4
        · omega
        · rw [List.getElem?_eq_none h4] at hp; simp at hp
    · cases e
end Bm
/-- Bytes and true, or nothing and false. -/
def BytesP (w' : World) (e : Ending) : Option (List Nat) → Prop
  | none => ∃ A c, e = .returned (.tuple #[.slice A 0 c, .bool false])
  | some bs => ∃ A c, e = .returned (.tuple #[.slice A bs.length c, .bool true]) ∧ Reads w' A (u8s bs)
/-- What Bits answers. -/
def bitsV : Option (Nat × Nat) → Value
  | none => .tuple #[.int .i64 0, .bool false]
  | some t => .tuple #[.int .i64 (t.2 : Int), .bool true]
/-- What the calls of layer 7 answer, TB saying that a table lies at a place. -/
structure FseOk (TB : World → Addr → List Nat → Nat → Prop) : Prop where
  enc : ∀ (w : World) (p : Addr) (ls : List Nat) (log : Nat) (A : Option Addr) (c : Nat) (syms : List Nat), Bm.FairN ls log → TB w p ls log → syms.length ≤ 10000 → (∀ x ∈ syms, x < 256) → Reads w A (u8s syms) →
    Calls Try.prog 11 #[.pointer (some p), .slice A syms.length c] w fun e w' => BytesP w' e (Bm.encB ls log syms) ∧ Below w.heap.size w w'
  encNil : ∀ (w : World) (A : Option Addr) (n c : Nat), Calls Try.prog 11 #[.pointer none, .slice A n c] w fun e w' => BytesP w' e none ∧ Below w.heap.size w w'
  dec : ∀ (w : World) (p : Addr) (ls : List Nat) (log : Nat) (A : Option Addr) (c : Nat) (bs : List Nat) (n : Int), Bm.FairN ls log → TB w p ls log → bs.length ≤ 10000 → (∀ x ∈ bs, x < 256) → Bm.IntOk n → Reads w A (u8s bs) →
    Calls Try.prog 13 #[.pointer (some p), .slice A bs.length c, .int .i64 n] w fun e w' => BytesP w' e (Bm.decB ls log bs n) ∧ Below w.heap.size w w'
  decNil : ∀ (w : World) (A : Option Addr) (m c : Nat) (n : Int), Bm.IntOk n → Calls Try.prog 13 #[.pointer none, .slice A m c, .int .i64 n] w fun e w' => BytesP w' e none ∧ Below w.heap.size w w'
  bits : ∀ (w : World) (p : Addr) (ls : List Nat) (log : Nat) (A : Option Addr) (c : Nat) (syms : List Nat), Bm.FairN ls log → TB w p ls log → syms.length ≤ 10000 → (∀ x ∈ syms, x < 256) → Reads w A (u8s syms) →
    Calls Try.prog 12 #[.pointer (some p), .slice A syms.length c] w fun e w' => e = .returned (bitsV (Bm.codeN ls log syms)) ∧ Below w.heap.size w w'
end Go.Proofs.Ytjlfgfoalfiajaa

namespace Go.Proofs.Ytjlfgfoalfiajaa.Bm
theorem sum_castF (cs : List Nat) : (cs.map (fun n : Nat => (n : Int))).sum = ((cs.sum : Nat) : Int) := by
  induction cs with
  | nil => simp
  | cons a l ih => rw [List.map_cons, List.sum_cons, ih, List.sum_cons]; omega
theorem mem_le_sumF (l : List Nat) (x : Nat) (h : x ∈ l) : x ≤ l.sum := by
  induction l with
  | nil => cases h
  | cons a l ih =>
    rw [List.sum_cons]
    rcases List.mem_cons.1 h with rfl | h1
    · omega
    · have := ih h1; omega
theorem posN_symN (cs : List Nat) : posN cs = symN (cs.map (fun n : Nat => (n : Int))) := by
  unfold posN symN
  rw [List.countP_map]
  apply List.countP_congr
  intro x _
  simp
/-- The share of counts of bytes: fair, above 0 where a byte is. -/
theorem share_bytes (bs : List Nat) (hlt : ∀ x ∈ bs, x < 256) (hl : bs.length ≤ 1048576) (h0 : 0 < bs.length) :
    ∃ ls : List Nat, shareA (countsI bs) (logA (countsI bs) : Int) = ls.map (fun n : Nat => (n : Int)) ∧ Fair (shareA (countsI bs) (logA (countsI bs) : Int)) (logA (countsI bs) : Int) ∧ (∀ b ∈ bs, 0 < ls[b]?.getD 0) ∧ ls.length ≤ 256 := by
  have hso := (countsI_share bs hlt hl).2 h0
  obtain ⟨hr, h5, h9, hs⟩ := hso
  have hsA : shareA (countsI bs) (logA (countsI bs) : Int) = (shareM ((countsI bs).map Int.toNat) (2 ^ logA (countsI bs))).map (fun n : Nat => (n : Int)) := by
    unfold shareA
    rw [if_pos ⟨hr, h5, h9, hs⟩, Int.toNat_natCast]
  have hcs : (countsI bs).map Int.toNat = countsOf bs := by
    unfold countsI
    rw [List.map_map]
    conv => rhs; rw [← List.map_id (countsOf bs)]
    apply List.map_congr_left
    intro x _
    rfl
  rw [hcs] at hsA
  rw [Int.toNat_natCast] at hs
  have hlen : (countsOf bs).length = topB bs := by simp [countsOf]
  have ht := topB_le bs hlt
  obtain ⟨b0, hb0⟩ : ∃ b, b ∈ bs := by
    cases bs with
    | nil => simp at h0
    | cons b bs => exact ⟨b, List.mem_cons_self⟩
  have hget : ∀ b ∈ bs, (countsOf bs)[b]? = some (bs.count b) := fun b hb => by
    unfold countsOf
    rw [List.getElem?_map, List.getElem?_range (topB_mem bs b hb)]
    rfl
  have hsum : 0 < (countsOf bs).sum := by
    have h1 := List.mem_of_getElem? (hget b0 hb0)
    have h2 := mem_le_sumF _ _ h1
    have h3 := List.count_pos_iff.2 hb0
    omega
  have hsp := share_spec (countsOf bs) (2 ^ logA (countsI bs)) hsum (by rw [posN_symN]; exact hs)
  have hP := Nat.pow_le_pow_right (n := 2) (j := 9) (by omega) (show logA (countsI bs) ≤ 9 by omega)
  refine ⟨_, hsA, ?_, ?_, by rw [hsp.2.1, hlen]; exact ht⟩
  · rw [hsA]
    refine ⟨h5, h9, by rw [List.length_map, hsp.2.1, hlen]; exact ht, ?_, by rw [sum_castF, hsp.1, Int.toNat_natCast]⟩
    intro x hx
    obtain ⟨y, hy, rfl⟩ := List.mem_map.1 hx
    have := mem_le_sumF _ _ hy
    rw [hsp.1] at this
    omega
  · intro b hb
    have h1 := hsp.2.2 b
    rw [hget b hb, Option.getD_some] at h1
    exact h1.2 (List.count_pos_iff.2 hb)
end Go.Proofs.Ytjlfgfoalfiajaa.Bm
