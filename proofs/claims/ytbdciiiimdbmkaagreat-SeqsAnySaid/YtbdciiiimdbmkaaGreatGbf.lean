/-
  The reference of layer 8 (header), by its walk: Bits. Conditions: as each theorem's premises say.
  The reference of layer 8 (header), by its walk: Take. Conditions: as each theorem's premises say.
-/
import Derived.Test.YtbdciiiimdbmkaaGreatGap
import Derived.Test.YtbdciiiimdbmkaaGreatGae
import Derived.Test.YtbdciiiimdbmkaaGreatGav
import Derived.Deep.RegionHeld3
import Derived.Deep.AppendLies
namespace Go.Proofs.YtbdciiiimdbmkaaGreat
open Go.RowKit
namespace Bm
theorem sum_take_leN (l : List Nat) (k : Nat) : (l.take k).sum ≤ l.sum := by
  conv => rhs; rw [← List.take_append_drop k l]
  rw [List.sum_append_nat]; omega
theorem sum_take_s (l : List Nat) (k : Nat) (h : k < l.length) : (l.take (k + 1)).sum = (l.take k).sum + l[k] := by
  rw [List.take_succ_eq_append_getElem h, List.sum_append_nat, List.sum_singleton]
/-- The bits so far, and those of the numbers behind. -/
theorem hdr_split (l : List Nat) (k rest N n : Nat) (hk : k < l.length) (h0 : 0 < rest) :
    N + (hdrN (l.drop k) rest).1 * 2 ^ n = (N + l[k] * 2 ^ n) + (hdrN (l.drop (k + 1)) (rest - l[k])).1 * 2 ^ (n + wid rest) ∧ n + (hdrN (l.drop k) rest).2 = (n + wid rest) + (hdrN (l.drop (k + 1)) (rest - l[k])).2 := by
  rw [List.drop_eq_getElem_cons hk]
  have e : hdrN (l[k] :: l.drop (k + 1)) rest = (l[k] + (hdrN (l.drop (k + 1)) (rest - l[k])).1 * 2 ^ wid rest, wid rest + (hdrN (l.drop (k + 1)) (rest - l[k])).2) := by
    rw [hdrN, if_neg (by omega)]
  rw [e]
  constructor
  · dsimp only
    rw [Nat.add_mul, Nat.pow_add, Nat.mul_assoc, Nat.mul_comm (2 ^ wid rest), Nat.add_assoc]
  · dsimp only
    omega
theorem hdr_zeroB (l : List Nat) : hdrN l 0 = (0, 0) := by cases l <;> simp [hdrN]
end Bm

end Go.Proofs.YtbdciiiimdbmkaaGreat

namespace Go.Proofs.YtbdciiiimdbmkaaGreat
open Go.RowKit

set_option maxRecDepth 100000 in
theorem cut_mid (A : Option Addr) (L c q r : Nat) (W : World) (h : q ≤ r) (h2 : r ≤ L) (hc : L ≤ c) : (Instr.slice 57 (.slice A L c) (some (.int .i64 (q : Int))) (some (.int .i64 (r : Int))) none).run Tryz.prog W = .ok (.slice (behindA A c q) (r - q) (c - q)) W := by
  have h1 : q ≤ c := by omega
  have h3 : r ≤ c := by omega
  unfold behindA
  by_cases hcq : c = q
  · subst hcq
    obtain rfl : c = r := by omega
    rcases A with _ | a
    · go_simp
    · go_simp
  · rcases A with _ | a
    · go_simp
    · go_simp
/-- What the reference's Take answers. -/
def GTakeP (w' : World) (e : Ending) (len : Nat) : Option (List Nat × Nat × Nat) → Prop
  | none => e = .returned (.tuple #[.slice none 0 0, .int .i64 0, .int .i64 0])
  | some t => ∃ A c, e = .returned (.tuple #[.slice A t.1.length c, .int .i64 (t.2.1 : Int), .int .i64 ((len : Int) - (t.2.2 : Int))]) ∧ Reads w' A (i64s t.1)

set_option maxHeartbeats 2000000 in
set_option maxRecDepth 100000 in
theorem gtake_any (A : Option Addr) (c N len : Nat) (w : World) (hlen : len ≤ 100000) (hc : len ≤ c) (hcm : c ≤ maxLen) (hr : Reads w A (i64s (Bm.bitsOf N len))) :
    Calls Tryz.prog 65 #[.slice A len c] w fun e w' => GTakeP w' e len (Bm.takeA N len) ∧ Below w.heap.size w w' := by
  obtain ⟨i0, hi, hz0, hz1, hz2⟩ := info_parts info_io
  obtain ⟨r, hres⟩ : ∃ r, r = Bm.takeA N len := ⟨_, rfl⟩
  rw [← hres]
  have Hres := Lib.hid hres
  have Hr := Lib.hid hr
  clear hres hr
  unfold maxLen at hcm
  by_cases h3 : len < 3
  · have hx : r = none := by rw [Hres.out]; unfold Bm.takeA; rw [if_pos h3]
    have Hx := Lib.hid hx
    clear hx
    go_enter Tryz.func65, Tryz.ntmps65
    go_wp2
    refine bodyPost_ret (v := .tuple #[.slice none 0 0, .int .i64 0, .int .i64 0]) (by simp [results, Tryz.results65, go_sem]) rfl ⟨by rw [Hx.out]; rfl, Below.refl _ _⟩
  have hcut : ∀ W, (Instr.slice 57 (.slice A len c) none (some (.int .i64 3)) none).run Tryz.prog W = .ok (.slice A 3 c) W := fun W => cut_to A len c 3 W (by omega) hc
  have hnum := Lib.hid (rnum_reads A 3 c (N % 2 ^ 3) w (by omega) (Nat.mod_lt _ (by omega)) (bits_to Hr.out (by omega)))
  have hv8 : N % 2 ^ 3 < 8 := Nat.mod_lt _ (by omega)
  obtain ⟨v, hv⟩ : ∃ v, v = N % 2 ^ 3 := ⟨_, rfl⟩
  have Hv := Lib.hid hv
  rw [← hv] at hnum hv8
  clear hv
  by_cases h4 : 4 < v
  · have hx : r = none := by rw [Hres.out]; unfold Bm.takeA; rw [if_neg h3, ← Hv.out, if_pos h4]
    have Hx := Lib.hid hx
    clear hx Hres Hr Hv
    go_enter Tryz.func65, Tryz.ntmps65
    go_wp2_with fail
    refine hnum.out.mono ?_
    rintro e w' ⟨rfl, rfl⟩
    go_wp2
    refine bodyPost_ret (v := .tuple #[.slice none 0 0, .int .i64 0, .int .i64 0]) (by simp [results, Tryz.results65, go_sem]) rfl ⟨by rw [Hx.out]; rfl, Below.refl _ _⟩
  have hre : r = (Bm.takeN 256 (2 ^ (5 + v)) (N / 2 ^ 3) (len - 3)).map fun t => ([] ++ t.1, 5 + v, t.2) := by
    rw [Hres.out]
    unfold Bm.takeA
    rw [if_neg h3, ← Hv.out, if_neg h4]
    simp
  have hP : 2 ^ (5 + v) ≤ 512 := Nat.pow_le_pow_right (n := 2) (j := 9) (by omega) (by omega)
  have hsz : ∀ w, Calls Tryz.prog 24 #[.int .i64 (5 + (v : Int))] w fun e w' => e = .returned (.int .i64 ((2 ^ (5 + v) : Nat) : Int)) ∧ w = w' := fun w => by
    have h1 := hsize_any ((5 + v : Nat) : Int) w (by omega)
    rw [Int.toNat_natCast] at h1
    exact h1
  have Hsz := Lib.hid hsz
  generalize 2 ^ (5 + v) = P at *
  have Hre := Lib.hid hre
  clear hre Hres Hv hsz
  go_enter Tryz.func65, Tryz.ntmps65
  go_wp2_with fail
  refine hnum.out.mono ?_
  rintro e w' ⟨rfl, rfl⟩
  clear hnum
  go_wp2_with fail
  refine (Hsz.out w).mono ?_
  rintro e w' ⟨rfl, rfl⟩
  clear Hsz hcut
  go_wp2
  go_loopw [6, 7, 8] (fun u a s wr => ∃ (t R : Nat) (acc : List Nat), a = .int .i64 (t : Int) ∧ s = .int .i64 (R : Int) ∧ t ≤ len ∧ R ≤ 512 ∧ acc.length ≤ 256 ∧ Hid (r = (Bm.takeN (256 - acc.length) R (N / 2 ^ t) (len - t)).map fun x => (acc ++ x.1, 5 + v, x.2)) ∧ Hid (wr.ownsRow w.heap.size 3 1 u acc.length (i64s acc)) ∧ Hid (Below w.heap.size w wr)) (fun _ a _ _ => len - (intOf a).toNat)
  case atStart => exact ⟨3, P, [], rfl, rfl, by omega, hP, by simp, Hre, Lib.hid (World.ownsRow_nil _ _ _ _), Lib.hid (Below.refl _ _)⟩
  case round =>
    obtain ⟨t, R, acc, rfl, rfl, htl, hR, hal, Hd, hown, hbel⟩ := hrel
    clear Hre
    rcases Nat.eq_zero_or_pos R with hR0 | hR0
    · subst hR0
      have hfin : r = some (acc, 5 + v, len - t) := by
        have h1 := Hd.out
        rw [h1]
        cases 256 - acc.length <;> simp [Bm.takeN]
      have Hfin := Lib.hid hfin
      obtain ⟨A', c', rfl, hrd, _⟩ := own_reads hown.out
      have Hrd := Lib.hid hrd
      clear hfin Hd hrd hown
      go_wp2
      refine bodyPost_ret (v := .tuple #[.slice A' acc.length c', .int .i64 (5 + (v : Int)), .int .i64 (t : Int)]) (by simp [results, Tryz.results65, go_sem]) rfl ⟨by rw [Hfin.out]; exact ⟨A', c', by dsimp only; rw [show ((5 + v : Nat) : Int) = 5 + (v : Int) by omega, show (len : Int) - ((len - t : Nat) : Int) = (t : Int) by omega], Hrd.out⟩, hbel.out⟩
    · have hd0 : decide ((0 : Int) < (R : Int)) = true := decide_eq_true (by omega)
      have hw1 := Bm.wid_one R hR0
      have hw2 := Bm.wid_le_of R 10 (by omega)
      have Hwd := Lib.hid (rwidth_wid R wr (by omega))
      obtain ⟨A', c', rfl, hrd, _⟩ := own_reads hown.out
      have hcu : IntKind.u32.wrap (R : Int) = (R : Int) := by simp [IntKind.wrap, IntKind.bits, IntKind.signed]; omega
      have hunf : ∀ f, 256 - acc.length = f + 1 → Bm.takeN (256 - acc.length) R (N / 2 ^ t) (len - t) = if len - t < Bm.wid R then none else if R < N / 2 ^ t % 2 ^ Bm.wid R then none else (Bm.takeN f (R - N / 2 ^ t % 2 ^ Bm.wid R) (N / 2 ^ t / 2 ^ Bm.wid R) (len - t - Bm.wid R)).map fun x => (N / 2 ^ t % 2 ^ Bm.wid R :: x.1, x.2) := fun f hf => by
        rw [hf, Bm.takeN, if_neg (by omega)]
      have hz : 256 - acc.length = 0 → Bm.takeN (256 - acc.length) R (N / 2 ^ t) (len - t) = none := fun hf => by
        rw [hf, Bm.takeN, if_neg (by omega)]
      have Hunf := Lib.hid hunf
      have Hz := Lib.hid hz
      clear hunf hz hrd
      by_cases h1 : len < t + Bm.wid R
      · have hx : r = none := by
          rw [Hd.out]
          rcases Nat.eq_zero_or_pos (256 - acc.length) with h2 | h2
          · rw [Hz.out h2]; rfl
          · rw [Hunf.out (256 - acc.length - 1) (by omega), if_pos (by omega)]; rfl
        have Hx := Lib.hid hx
        clear hx Hd Hunf Hz
        generalize Bm.wid R = b at *
        have hd1 : decide ((len : Int) < (t : Int) + (b : Int)) = true := decide_eq_true (by omega)
        go_wp2_with fail
        refine Hwd.out.mono ?_
        rintro e w' ⟨rfl, rfl⟩
        go_wp2
        refine bodyPost_ret (v := .tuple #[.slice none 0 0, .int .i64 0, .int .i64 0]) (by simp [results, Tryz.results65, go_sem]) rfl ⟨by rw [Hx.out]; rfl, hbel.out⟩
      have hd1 : decide ((len : Int) < (t : Int) + (Bm.wid R : Int)) = false := decide_eq_false (by omega)
      by_cases h2 : acc.length = 256
      · have hx : r = none := by
          rw [Hd.out, Hz.out (by omega)]; rfl
        have Hx := Lib.hid hx
        clear hx Hd Hunf Hz hown
        generalize Bm.wid R = b at *
        have hd2 : ((acc.length : Int) == 256) = true := by rw [h2]; rfl
        clear h2
        generalize acc.length = k at *
        go_wp2_with fail
        refine Hwd.out.mono ?_
        rintro e w' ⟨rfl, rfl⟩
        go_wp2
        refine bodyPost_ret (v := .tuple #[.slice none 0 0, .int .i64 0, .int .i64 0]) (by simp [results, Tryz.results65, go_sem]) rfl ⟨by rw [Hx.out]; rfl, hbel.out⟩
      have hd2 : ((acc.length : Int) == 256) = false := by rw [beq_eq_false_iff_ne]; omega
      have hd := Hd.out
      rw [Hunf.out (256 - acc.length - 1) (by omega), if_neg (by omega)] at hd
      have hcutm : ∀ W, (Instr.slice 57 (.slice A len c) (some (.int .i64 (t : Int))) (some (.int .i64 ((t : Int) + (Bm.wid R : Int)))) none).run Tryz.prog W = .ok (.slice (behindA A c t) (Bm.wid R) (c - t)) W := fun W => by
        have h5 := cut_mid A len c t (t + Bm.wid R) W (by omega) (by omega) hc
        rw [Nat.add_sub_cancel_left] at h5
        exact h5
      have hnum := rnum_reads (behindA A c t) (Bm.wid R) (c - t) (N / 2 ^ t % 2 ^ Bm.wid R) wr (by omega) (Nat.mod_lt _ (Nat.two_pow_pos _)) (bits_to (bits_behind (reads_on Hr.out hbel.out) htl hc) (by omega))
      have hvlt : N / 2 ^ t % 2 ^ Bm.wid R < 1024 := Nat.lt_of_lt_of_le (Nat.mod_lt _ (Nat.two_pow_pos _)) (Nat.pow_le_pow_right (n := 2) (j := 10) (by omega) hw2)
      rw [Nat.div_div_eq_div_mul, ← Nat.pow_add] at hd
      have Hnum := Lib.hid hnum
      have Hdd := Lib.hid hd
      clear hd hnum Hd Hunf Hz
      generalize N / 2 ^ t % 2 ^ Bm.wid R = x at *
      generalize Bm.wid R = b at *
      by_cases h4 : R < x
      · have hx : r = none := by
          rw [Hdd.out, if_pos h4]; rfl
        have Hx := Lib.hid hx
        have hd4 : decide (R < x) = true := decide_eq_true h4
        clear hx Hdd hown
        generalize acc.length = k at *
        go_wp2_with fail
        refine Hwd.out.mono ?_
        rintro e w' ⟨rfl, rfl⟩
        go_wp2_with fail
        refine Hnum.out.mono ?_
        rintro e w' ⟨rfl, rfl⟩
        go_wp2
        refine bodyPost_ret (v := .tuple #[.slice none 0 0, .int .i64 0, .int .i64 0]) (by simp [results, Tryz.results65, go_sem]) rfl ⟨by rw [Hx.out]; rfl, hbel.out⟩
      have hd4 : decide (R < x) = false := decide_eq_false h4
      have Hnx : Hid (r = (Bm.takeN (256 - (acc ++ [x]).length) (R - x) (N / 2 ^ (t + b)) (len - (t + b))).map fun y => ((acc ++ [x]) ++ y.1, 5 + v, y.2)) := Lib.hid (by
        rw [Hdd.out, if_neg h4, show 256 - (acc ++ [x]).length = 256 - acc.length - 1 by simp; omega, show len - (t + b) = len - t - b by omega]
        cases Bm.takeN (256 - acc.length - 1) (R - x) (N / 2 ^ (t + b)) (len - t - b) <;> simp)
      clear Hdd
      go_wp2_with fail
      refine Hwd.out.mono ?_
      rintro e w' ⟨rfl, rfl⟩
      go_wp2_with fail
      refine Hnum.out.mono ?_
      rintro e w' ⟨rfl, rfl⟩
      clear Hwd Hnum
      go_wp2_with (at_builtin; refine wpList_append_own _ rfl _ _ 57 rfl w.heap.size 3 i0 (.int .i64 0) 1 8 Tryz.underlying57 hi hz0 hz1 hz2 rfl (by decide) _ _ _ rfl (hown.out.alloc _) ⟨wr.heap.size, 0, none⟩ 1 1 [.int .i64 (x : Int)] rfl rfl ?d1 ?d2 ?d3 ?d4 ?d5 ?_)
      case d1 =>
        intro j u hj
        match j, hj with
        | 0, hj => simp at hj; subst hj; simp [Addr.add]
      case d2 => intro u hu; simp at hu; subst hu; rfl
      case d3 => unfold maxLen; omega
      case d4 => omega
      case d5 => have := hbel.out.size; simp; omega
      intro u' w2 hown2 hgr2 _
      have hbel2 : Below w.heap.size w w2 := (hbel.out.alloc hbel.out.size _).grown hgr2 (by have := hbel.out.size; simp; omega) (fun x e => (hown.out.lt x e).1)
      have e : i64s acc ++ [Value.int .i64 (x : Int)] = i64s (acc ++ [x]) := by simp [i64s]
      have e2 : acc.length + 1 = (acc ++ [x]).length := by simp
      rw [e, e2] at hown2
      have Hown2 := Lib.hid hown2
      have Hbel2 := Lib.hid hbel2
      have hal2 : (acc ++ [x]).length ≤ 256 := by simp; omega
      clear hgr2 hown2 hbel2 e e2 hown hbel hd0 hd1 hd2 hd4 hcu
      clear hcutm
      go_wp2
      go_roundw
      case rel => exact ⟨t + b, R - x, acc ++ [x], by go_num, by go_num, by omega, by omega, hal2, Hnx, Hown2, Hbel2⟩
      case measure => simp [intOf]; omega
end Go.Proofs.YtbdciiiimdbmkaaGreat
