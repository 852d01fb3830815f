/-
  The program's layer 8 (header), by its walk: width, Put, Size. Conditions: as each theorem's premises say.
-/
import Derived.Test.YtefcahmhfjblpaaHk
import Derived.Test.YtefcahmhfjblpaaNd
import Derived.Test.YtefcahmhfjblpaaSw
namespace Go.Proofs.Ytefcahmhfjblpaa
open Go.RowKit

set_option maxRecDepth 100000 in
theorem hdwid_any (x : Nat) (w : World) (hx : x < 4294967296) :
    Calls Try.prog 26 #[.int .i64 (x : Int)] w fun e w' => e = .returned (.int .i64 (Bm.wid x : Int)) ∧ w = w' := by
  have H := Lib.hid (width_wid x w hx)
  have hcu : IntKind.u32.wrap (x : Int) = (x : Int) := by simp [IntKind.wrap, IntKind.bits, IntKind.signed]; omega
  go_enter Try.func26, Try.ntmps26
  go_wp2_with fail
  refine H.out.mono ?_
  rintro e w' ⟨rfl, rfl⟩
  go_wp2
  go_ret
  exact ⟨rfl, rfl⟩

theorem hgrown_trans {w w1 w2 : World} {row : Option Nat} (h : w.grownBy w1 row) (h2 : w1.grownBy w2 row) : w.grownBy w2 row :=
  ⟨h2.os.trans h.os, h2.tape.trans h.tape, h2.output.trans h.output, Nat.le_trans h.size h2.size, fun i hi hne => (h2.block i (Nat.lt_of_lt_of_le hi h.size) hne).trans (h.block i hi hne)⟩
theorem hpow_fair (log : Nat) (h5 : 5 ≤ log) (h9 : log ≤ 9) : 32 ≤ 2 ^ log ∧ 2 ^ log ≤ 512 :=
  ⟨Nat.pow_le_pow_right (n := 2) (i := 5) (by omega) h5, Nat.pow_le_pow_right (n := 2) (j := 9) (by omega) h9⟩
theorem hreads_in {w : World} {A : Option Addr} {l : List Nat} (h : Reads w A (i64s l)) (hne : 0 < l.length) : ∃ g off, A = some ⟨g, off, none⟩ ∧ ∀ j (hj : j < l.length), w.cell? ⟨g, off + j, none⟩ = some (.int .i64 (l[j] : Int)) := by
  rw [← i64z_nat] at h
  obtain ⟨g, off, e, hc⟩ := reads_iz h (by simpa using hne)
  exact ⟨g, off, e, fun j hj => by have := hc j (by simpa using hj); simpa using this⟩
namespace Bm
theorem hdr_zero (l : List Nat) : hdrN l 0 = (0, 0) := by cases l <;> simp [hdrN]
theorem wid_zero : wid 0 = 0 := by decide +kernel
/-- One number's bits, whether the rest is 0 or not. -/
theorem hdr_step (x : Nat) (l : List Nat) (R : Nat) (h : x ≤ R) : hdrN (x :: l) R = (x + (hdrN l (R - x)).1 * 2 ^ wid R, wid R + (hdrN l (R - x)).2) := by
  rw [hdrN]
  split
  · next h0 =>
    subst h0
    obtain rfl : x = 0 := by omega
    simp [hdr_zero, wid_zero]
  · rfl
theorem put_more (M x m k H : Nat) : M + (x + H * 2 ^ k) * 2 ^ m = M + x * 2 ^ m + H * 2 ^ (m + k) := by
  rw [Nat.add_mul, Nat.mul_assoc, ← Nat.pow_add, Nat.add_comm k m, Nat.add_assoc]
end Bm

set_option maxHeartbeats 1000000 in
set_option maxRecDepth 100000 in
theorem hdput_fair (w : World) (b off N n : Nat) (A : Option Addr) (c : Nat) (ls : List Nat) (lg : Nat) (hn : n ≤ 100000) (hws : WS w b off N n) (hr : Reads w A (i64s ls)) (hA : ∀ a, A = some a → a.block ≠ b) (hf : Bm.FairN ls lg)
    (hfair : Calls Try.prog 25 #[.slice A ls.length c, .int .i64 (lg : Int)] w fun e w' => e = .returned (.bool true) ∧ Below w.heap.size w w') :
    Calls Try.prog 8 #[.pointer (some ⟨b, off, none⟩), .slice A ls.length c, .int .i64 (lg : Int)] w fun e w' => e = .returned (.bool true) ∧ WS w' b off (N + (Bm.hdrA ls lg).1 * 2 ^ n) (n + (Bm.hdrA ls lg).2) ∧ w.grownBy w' (some b) := by
  have h5 := hf.low
  have h9 := hf.high
  have hP := hpow_fair lg h5 h9
  have hl256 := hf.len
  have hsum := hf.sum
  have hcu : IntKind.u32.wrap ((lg : Int) - 5) = ((lg - 5 : Nat) : Int) := by simp [IntKind.wrap, IntKind.bits, IntKind.signed]; omega
  have hwr : wrap64 ((lg : Int) - 5) = (lg : Int) - 5 := wrap_in _ (by omega) (by omega)
  obtain ⟨T, hT⟩ : ∃ T, T = N + (Bm.hdrA ls lg).1 * 2 ^ n := ⟨_, rfl⟩
  obtain ⟨C, hC⟩ : ∃ C, C = n + (Bm.hdrA ls lg).2 := ⟨_, rfl⟩
  rw [← hT, ← hC]
  unfold Bm.hdrA at hT hC
  dsimp only at hT hC
  obtain ⟨S, hS⟩ : ∃ S, S = 2 ^ lg := ⟨_, rfl⟩
  rw [← hS] at hT hC hP hsum
  have hpd : (2 : Int) ^ lg = (S : Int) := by rw [hS]; simp
  have hw64 : wrap64 (S : Int) = (S : Int) := wrap_in _ (by omega) (by omega)
  have HT := Lib.hid hT
  have HC := Lib.hid hC
  have Hws := Lib.hid hws
  have Hr := Lib.hid hr
  have HA := Lib.hid hA
  have Hfair := Lib.hid hfair
  have Hput : Hid (∀ (W : World) (N n v m : Nat), n ≤ 1000000000 → v < 4294967296 → m ≤ 32 → WS W b off N n → Calls Try.prog 7 #[.pointer (some ⟨b, off, none⟩), .int .u32 (v : Int), .int .i64 (m : Int)] W fun e w' => e = .returned (.bool true) ∧ WS w' b off (N + v % 2 ^ m * 2 ^ n) (n + m) ∧ W.grownBy w' (some b)) := Lib.hid (fun W N n v m h1 h2 h3 h4 => put_true b off N n v m W h1 h2 h3 h4)
  clear hT hC hws hr hA hf hfair hS
  go_enter Try.func8, Try.ntmps8
  go_wp2_with fail
  refine Hfair.out.mono ?_
  rintro e w1 ⟨rfl, hb1⟩
  have Hg1 := Lib.hid (grown_below hb1 (some b))
  have Hws1 := Lib.hid (Hws.out.below hb1)
  have Hr1 := Lib.hid (reads_on Hr.out hb1)
  clear hb1 Hws Hr Hfair
  go_wp2_with fail
  refine (Hput.out w1 N n (lg - 5) 3 (by omega) (by omega) (by omega) Hws1.out).mono ?_
  rintro e w2 ⟨rfl, hws2, hg2⟩
  have Hg2 := Lib.hid (hgrown_trans Hg1.out hg2)
  have Hws2 := Lib.hid hws2
  have Hr2 : Hid (∀ W, w1.grownBy W (some b) → Reads W A (i64s ls)) := Lib.hid (fun W hg hne => by
    obtain ⟨g, off, e, hc⟩ := Hr1.out hne
    refine ⟨g, off, e, fun j hj => ?_⟩
    have h1 := hc j hj
    rw [List.getElem?_eq_getElem hj] at h1 ⊢
    exact (World.cell?_of_block (a := ⟨g, off + j, none⟩) (hg.block g (World.block_lt_of_cell? w1 _ h1) (fun e2 => HA.out _ e (by injection e2)))).trans h1)
  have Hg12 := Lib.hid hg2
  clear hws2 hg2 Hg1 Hws1 Hr1 hcu hwr
  go_wp2
  clear hpd hw64
  have Hwid : Hid (∀ (x : Nat) (W : World), x < 4294967296 → Calls Try.prog 26 #[.int .i64 (x : Int)] W fun e w' => e = .returned (.int .i64 (Bm.wid x : Int)) ∧ W = w') := Lib.hid hdwid_any
  go_loopw [7, 27] (fun q i wr => ∃ k R M m : Nat, k ≤ ls.length ∧ i = .int .i64 (k : Int) ∧ q = .int .i64 (R : Int) ∧ R = (ls.drop k).sum ∧ R ≤ 512 ∧ m ≤ n + 3 + 10 * k ∧ Hid (WS wr b off M m) ∧ Hid (w1.grownBy wr (some b)) ∧ Hid (w.grownBy wr (some b)) ∧
    Hid (T = M + (Bm.hdrN (ls.drop k) R).1 * 2 ^ m ∧ C = m + (Bm.hdrN (ls.drop k) R).2)) (fun _ i _ => ls.length - (intOf i).toNat)
  case atStart =>
    refine ⟨0, S, _, _, by omega, rfl, rfl, hsum.symm, by omega, by omega, Hws2, Hg12, Hg2, Lib.hid ⟨?_, ?_⟩⟩
    · rw [HT.out, List.drop_zero, Nat.mod_eq_of_lt (show lg - 5 < 2 ^ 3 by omega)]
      exact Bm.put_more N (lg - 5) n 3 _
    · rw [HC.out, List.drop_zero]; omega
  case round =>
    obtain ⟨k, R, M, m, hk, rfl, rfl, hR, hR5, hm, hws, hg1, hgw, htot⟩ := hrel
    by_cases hkl : k < ls.length
    · have hd := List.drop_eq_getElem_cons hkl
      rw [hd, List.sum_cons] at hR
      obtain ⟨g, og, rfl, hc⟩ := hreads_in (Hr2.out _ hg1.out) (by omega)
      have c0 := hc k hkl
      have Htot := Lib.hid htot.out
      rw [hd, Bm.hdr_step ls[k] (ls.drop (k + 1)) R (by omega)] at Htot
      have Hdr : Hid (R - ls[k] = (ls.drop (k + 1)).sum) := Lib.hid (by omega)
      have hx : ls[k] ≤ R := by omega
      clear hc htot hd hR
      generalize ls[k] = x at *
      have hwd := Bm.wid_lt R
      have hw10 := Bm.wid_le_of R 10 (by omega)
      have hcu : IntKind.u32.wrap (x : Int) = (x : Int) := by simp [IntKind.wrap, IntKind.bits, IntKind.signed]; omega
      have Hp := Lib.hid (Hput.out _ M m x (Bm.wid R) (by omega) (by omega) (by omega) hws.out)
      rw [Nat.mod_eq_of_lt (show x < 2 ^ Bm.wid R by omega)] at Hp
      have hrx : ((R - x : Nat) : Int) = (R : Int) - (x : Int) := by omega
      have hwq : wrap64 ((R : Int) - (x : Int)) = (R : Int) - (x : Int) := wrap_in _ (by omega) (by omega)
      have Ht : Hid (T = M + x * 2 ^ m + (Bm.hdrN (ls.drop (k + 1)) (R - x)).1 * 2 ^ (m + Bm.wid R) ∧ C = m + Bm.wid R + (Bm.hdrN (ls.drop (k + 1)) (R - x)).2) := Lib.hid ⟨by rw [Htot.out.1]; exact Bm.put_more _ _ _ _ _, by rw [Htot.out.2]; dsimp only; omega⟩
      clear Htot hwd
      have Hw := Lib.hid (Hwid.out R wr (by omega))
      generalize Bm.wid R = wd at *
      go_wp2_with fail
      refine Hw.out.mono ?_
      rintro e w' ⟨rfl, rfl⟩
      go_wp2_with fail
      refine Hp.out.mono ?_
      rintro e w3 ⟨rfl, hws3, hg3⟩
      have Hws3 := Lib.hid hws3
      have Hg3 := Lib.hid (hgrown_trans hg1.out hg3)
      have Hgw3 := Lib.hid (hgrown_trans hgw.out hg3)
      clear hws3 hg3 hws hg1 hgw Hp
      go_wp2
      go_roundw
      case rel => exact ⟨k + 1, R - x, _, _, by omega, by go_num, by rw [hrx], Hdr.out, by omega, by omega, Hws3, Hg3, Hgw3, Ht⟩
      case measure => simp [intOf]; omega
    · obtain rfl : k = ls.length := by omega
      have Ht := htot.out
      rw [List.drop_length] at Ht
      simp only [Bm.hdrN, Nat.zero_mul, Nat.add_zero] at Ht
      obtain ⟨rfl, rfl⟩ := Ht
      go_wp2
      go_ret
      exact ⟨rfl, hws.out, hgw.out⟩

set_option maxHeartbeats 400000 in
set_option maxRecDepth 100000 in
theorem hdput_not (w : World) (b off : Nat) (A : Option Addr) (n c : Nat) (log : Int) (hfair : Calls Try.prog 25 #[.slice A n c, .int .i64 log] w fun e w' => e = .returned (.bool false) ∧ Below w.heap.size w w') :
    Calls Try.prog 8 #[.pointer (some ⟨b, off, none⟩), .slice A n c, .int .i64 log] w fun e w' => e = .returned (.bool false) ∧ Below w.heap.size w w' := by
  have Hfair := Lib.hid hfair
  clear hfair
  go_enter Try.func8, Try.ntmps8
  go_wp2_with fail
  refine Hfair.out.mono ?_
  rintro e w1 ⟨rfl, hb1⟩
  have Hb1 := Lib.hid hb1
  clear hb1
  go_wp2
  go_ret
  exact ⟨rfl, Hb1.out⟩

set_option maxHeartbeats 400000 in
set_option maxRecDepth 100000 in
theorem hdput_nil (w : World) (A : Option Addr) (n c : Nat) (log : Int) :
    Calls Try.prog 8 #[.pointer none, .slice A n c, .int .i64 log] w fun e w' => e = .returned (.bool false) ∧ Below w.heap.size w w' := by
  go_enter Try.func8, Try.ntmps8
  go_wp2
  go_ret
  exact ⟨rfl, Below.refl _ _⟩

theorem fair_true {A : Option Addr} {c : Nat} {l : List Int} {log : Int} {w : World} (hl : l.length ≤ 1000000) (hok : ∀ x ∈ l, Bm.IntOk x) (hlog : Bm.IntOk log) (hr : Reads w A (i64z l)) (hf : Bm.Fair l log) :
    Calls Try.prog 25 #[.slice A l.length c, .int .i64 log] w fun e w' => e = .returned (.bool true) ∧ Below w.heap.size w w' := by
  have h1 := nfair_any A c l log w hl hok hlog hr
  rw [show Bm.fairB l log = true from decide_eq_true hf] at h1
  exact h1
theorem fair_false {A : Option Addr} {c : Nat} {l : List Int} {log : Int} {w : World} (hl : l.length ≤ 1000000) (hok : ∀ x ∈ l, Bm.IntOk x) (hlog : Bm.IntOk log) (hr : Reads w A (i64z l)) (hf : ¬ Bm.Fair l log) :
    Calls Try.prog 25 #[.slice A l.length c, .int .i64 log] w fun e w' => e = .returned (.bool false) ∧ Below w.heap.size w w' := by
  have h1 := nfair_any A c l log w hl hok hlog hr
  rw [show Bm.fairB l log = false from decide_eq_false hf] at h1
  exact h1

theorem hdput_put (w : World) (b off N n : Nat) (A : Option Addr) (c : Nat) (l : List Int) (log : Int) (hn : n ≤ 100000) (hws : WS w b off N n) (hl : l.length ≤ 1000000) (hok : ∀ x ∈ l, Bm.IntOk x) (hlog : Bm.IntOk log) (hr : Reads w A (i64z l)) (hA : ∀ a, A = some a → l ≠ [] → a.block ≠ b) (hf : Bm.Fair l log) :
    Calls Try.prog 8 #[.pointer (some ⟨b, off, none⟩), .slice A l.length c, .int .i64 log] w fun e w' => e = .returned (.bool true) ∧ WS w' b off (N + (Bm.hdrA (l.map Int.toNat) log.toNat).1 * 2 ^ n) (n + (Bm.hdrA (l.map Int.toNat) log.toNat).2) ∧ w.grownBy w' (some b) := by
  have hfr := fair_true (c := c) hl hok hlog hr hf
  have hfn := Bm.fair_n l log hf
  have hmap := Bm.fair_map l log hf
  have hl9 : (log.toNat : Int) = log := by have := hf.1; omega
  have hne : l ≠ [] := by
    rintro rfl
    have h1 := hfn.sum
    have h2 := Nat.two_pow_pos log.toNat
    simp at h1
    omega
  have hls : i64s (l.map Int.toNat) = i64z l := by rw [← i64z_nat, hmap]
  have hlen : (l.map Int.toNat).length = l.length := by simp
  rw [← hls] at hr
  have h := hdput_fair w b off N n A c (l.map Int.toNat) log.toNat hn hws hr (fun a e => hA a e hne) hfn (by rw [hlen, hl9]; exact hfr)
  rw [hlen, hl9] at h
  exact h

set_option maxHeartbeats 400000 in
set_option maxRecDepth 100000 in
/-- Size, whatever Put leaves in its Writer. -/
theorem hdsize_of (w : World) (A : Option Addr) (n c k N : Nat) (log : Int) (r : Bool)
    (hput : ∀ w0, w0 = w.alloc (.cells #[.pointer none, .int .u64 0, .int .i64 0] 27) → Calls Try.prog 8 #[.pointer (some ⟨w.heap.size, 0, none⟩), .slice A n c, .int .i64 log] w0 fun e w' => e = .returned (.bool r) ∧ WS w' w.heap.size 0 N k ∧ Below w.heap.size w w') :
    Calls Try.prog 11 #[.slice A n c, .int .i64 log] w fun e w' => e = .returned (.int .i64 (k : Int)) ∧ Below w.heap.size w w' := by
  have Hput := Lib.hid (hput _ rfl)
  clear hput
  go_enter Try.func11, Try.ntmps11
  go_wp2_with fail
  refine Hput.out.mono ?_
  rintro e w1 ⟨rfl, hws, hb⟩
  have Hlen := Lib.hid (len_any w.heap.size 0 k w1 hws.len_cell)
  have Hb := Lib.hid hb
  clear hws hb
  go_wp2_with fail
  refine Hlen.out.mono ?_
  rintro e w' ⟨rfl, rfl⟩
  go_wp2
  go_ret
  exact ⟨rfl, Hb.out⟩

theorem hdsize_any (w : World) (A : Option Addr) (c : Nat) (l : List Int) (log : Int) (hl : l.length ≤ 1000000) (hok : ∀ x ∈ l, Bm.IntOk x) (hlog : Bm.IntOk log) (hr : Reads w A (i64z l)) :
    Calls Try.prog 11 #[.slice A l.length c, .int .i64 log] w fun e w' => e = .returned (.int .i64 (if Bm.Fair l log then ((Bm.hdrA (l.map Int.toNat) log.toNat).2 : Int) else 0)) ∧ Below w.heap.size w w' := by
  have hal : ∀ w0, w0 = w.alloc (.cells #[.pointer none, .int .u64 0, .int .i64 0] 27) → WS w0 w.heap.size 0 0 0 ∧ Below w.heap.size w w0 := fun w0 e => by
    rw [e]; exact ⟨WS.new w 27 notW, (Below.refl _ _).alloc (Nat.le_refl _) _⟩
  by_cases hf : Bm.Fair l log
  · rw [if_pos hf]
    refine hdsize_of w A l.length c _ (Bm.hdrA (l.map Int.toNat) log.toNat).1 log true (fun w0 e => ?_)
    obtain ⟨h1, h2⟩ := hal w0 e
    refine (hdput_put w0 w.heap.size 0 0 0 A c l log (by omega) h1 hl hok hlog (reads_on hr h2) (fun a e h0 => Nat.ne_of_lt (reads_lt hr a e h0)) hf).mono ?_
    rintro e w' ⟨he, hws, hg⟩
    exact ⟨he, by simpa using hws, h2.grown hg h2.size (fun k e => by injection e with e; omega)⟩
  · rw [if_neg hf]
    refine hdsize_of w A l.length c 0 0 log false (fun w0 e => ?_)
    obtain ⟨h1, h2⟩ := hal w0 e
    refine (hdput_not w0 w.heap.size 0 A l.length c log (fair_false hl hok hlog (reads_on hr h2) hf)).mono ?_
    rintro e w' ⟨he, hb⟩
    exact ⟨he, h1.below hb, h2.trans (hb.mono h2.size)⟩
end Go.Proofs.Ytefcahmhfjblpaa
