/-
  The program's layer 8 (header), by its walk: width, Put, Size. Conditions: as each theorem's premises say.
  The program's layer 8 (header), by its walk: numbers, Take; what its calls answer, together. Conditions: as each theorem's premises say.
-/
import Derived.Test.YtbdciiiimdbmkaaGreatGax
import Derived.Test.YtbdciiiimdbmkaaGreatGap
import Derived.Test.YtbdciiiimdbmkaaGreatGah
namespace Go.Proofs.YtbdciiiimdbmkaaGreat
open Go.RowKit

set_option maxRecDepth 100000 in
theorem hdwid_any (x : Nat) (w : World) (hx : x < 4294967296) :
    Calls Tryz.prog 104 #[.int .i64 (x : Int)] w fun e w' => e = .returned (.int .i64 (Bm.wid x : Int)) ∧ w = w' := by
  have H := Lib.hid (width_wid x w hx)
  have hcu : IntKind.u32.wrap (x : Int) = (x : Int) := by simp [IntKind.wrap, IntKind.bits, IntKind.signed]; omega
  go_enter Tryz.func104, Tryz.ntmps104
  go_wp2_with fail
  refine H.out.mono ?_
  rintro e w' ⟨rfl, rfl⟩
  go_wp2
  go_ret
  exact ⟨rfl, rfl⟩

theorem hgrown_trans {w w1 w2 : World} {row : Option Nat} (h : w.grownBy w1 row) (h2 : w1.grownBy w2 row) : w.grownBy w2 row :=
  ⟨h2.os.trans h.os, h2.tape.trans h.tape, h2.output.trans h.output, Nat.le_trans h.size h2.size, fun i hi hne => (h2.block i (Nat.lt_of_lt_of_le hi h.size) hne).trans (h.block i hi hne)⟩
theorem hpow_fair (log : Nat) (h5 : 5 ≤ log) (h9 : log ≤ 9) : 32 ≤ 2 ^ log ∧ 2 ^ log ≤ 512 :=
  ⟨Nat.pow_le_pow_right (n := 2) (i := 5) (by omega) h5, Nat.pow_le_pow_right (n := 2) (j := 9) (by omega) h9⟩
theorem hreads_in {w : World} {A : Option Addr} {l : List Nat} (h : Reads w A (i64s l)) (hne : 0 < l.length) : ∃ g off, A = some ⟨g, off, none⟩ ∧ ∀ j (hj : j < l.length), w.cell? ⟨g, off + j, none⟩ = some (.int .i64 (l[j] : Int)) := by
  rw [← i64z_nat] at h
  obtain ⟨g, off, e, hc⟩ := reads_iz h (by simpa using hne)
  exact ⟨g, off, e, fun j hj => by have := hc j (by simpa using hj); simpa using this⟩
namespace Bm
theorem hdr_zero (l : List Nat) : hdrN l 0 = (0, 0) := by cases l <;> simp [hdrN]
theorem wid_zero : wid 0 = 0 := by decide +kernel
/-- One number's bits, whether the rest is 0 or not. -/
theorem hdr_step (x : Nat) (l : List Nat) (R : Nat) (h : x ≤ R) : hdrN (x :: l) R = (x + (hdrN l (R - x)).1 * 2 ^ wid R, wid R + (hdrN l (R - x)).2) := by
  rw [hdrN]
  split
  · next h0 =>
    subst h0
    obtain rfl : x = 0 := by omega
    simp [hdr_zero, wid_zero]
  · rfl
theorem put_more (M x m k H : Nat) : M + (x + H * 2 ^ k) * 2 ^ m = M + x * 2 ^ m + H * 2 ^ (m + k) := by
  rw [Nat.add_mul, Nat.mul_assoc, ← Nat.pow_add, Nat.add_comm k m, Nat.add_assoc]
end Bm

set_option maxHeartbeats 1000000 in
set_option maxRecDepth 100000 in
theorem hdput_fair (w : World) (b off N n : Nat) (A : Option Addr) (c : Nat) (ls : List Nat) (lg : Nat) (hn : n ≤ 100000) (hws : WS w b off N n) (hr : Reads w A (i64s ls)) (hA : ∀ a, A = some a → a.block ≠ b) (hf : Bm.FairN ls lg)
    (hfair : Calls Tryz.prog 103 #[.slice A ls.length c, .int .i64 (lg : Int)] w fun e w' => e = .returned (.bool true) ∧ Below w.heap.size w w') :
    Calls Tryz.prog 87 #[.pointer (some ⟨b, off, none⟩), .slice A ls.length c, .int .i64 (lg : Int)] w fun e w' => e = .returned (.bool true) ∧ WS w' b off (N + (Bm.hdrA ls lg).1 * 2 ^ n) (n + (Bm.hdrA ls lg).2) ∧ w.grownBy w' (some b) := by
  have h5 := hf.low
  have h9 := hf.high
  have hP := hpow_fair lg h5 h9
  have hl256 := hf.len
  have hsum := hf.sum
  have hcu : IntKind.u32.wrap ((lg : Int) - 5) = ((lg - 5 : Nat) : Int) := by simp [IntKind.wrap, IntKind.bits, IntKind.signed]; omega
  have hwr : wrap64 ((lg : Int) - 5) = (lg : Int) - 5 := wrap_in _ (by omega) (by omega)
  obtain ⟨T, hT⟩ : ∃ T, T = N + (Bm.hdrA ls lg).1 * 2 ^ n := ⟨_, rfl⟩
  obtain ⟨C, hC⟩ : ∃ C, C = n + (Bm.hdrA ls lg).2 := ⟨_, rfl⟩
  rw [← hT, ← hC]
  unfold Bm.hdrA at hT hC
  dsimp only at hT hC
  obtain ⟨S, hS⟩ : ∃ S, S = 2 ^ lg := ⟨_, rfl⟩
  rw [← hS] at hT hC hP hsum
  have hpd : (2 : Int) ^ lg = (S : Int) := by rw [hS]; simp
  have hw64 : wrap64 (S : Int) = (S : Int) := wrap_in _ (by omega) (by omega)
  have HT := Lib.hid hT
  have HC := Lib.hid hC
  have Hws := Lib.hid hws
  have Hr := Lib.hid hr
  have HA := Lib.hid hA
  have Hfair := Lib.hid hfair
  have Hput : Hid (∀ (W : World) (N n v m : Nat), n ≤ 1000000000 → v < 4294967296 → m ≤ 32 → WS W b off N n → Calls Tryz.prog 38 #[.pointer (some ⟨b, off, none⟩), .int .u32 (v : Int), .int .i64 (m : Int)] W fun e w' => e = .returned (.bool true) ∧ WS w' b off (N + v % 2 ^ m * 2 ^ n) (n + m) ∧ W.grownBy w' (some b)) := Lib.hid (fun W N n v m h1 h2 h3 h4 => put_true b off N n v m W h1 h2 h3 h4)
  clear hT hC hws hr hA hf hfair hS
  go_enter Tryz.func87, Tryz.ntmps87
  go_wp2_with fail
  refine Hfair.out.mono ?_
  rintro e w1 ⟨rfl, hb1⟩
  have Hg1 := Lib.hid (grown_below hb1 (some b))
  have Hws1 := Lib.hid (Hws.out.below hb1)
  have Hr1 := Lib.hid (reads_on Hr.out hb1)
  clear hb1 Hws Hr Hfair
  go_wp2_with fail
  refine (Hput.out w1 N n (lg - 5) 3 (by omega) (by omega) (by omega) Hws1.out).mono ?_
  rintro e w2 ⟨rfl, hws2, hg2⟩
  have Hg2 := Lib.hid (hgrown_trans Hg1.out hg2)
  have Hws2 := Lib.hid hws2
  have Hr2 : Hid (∀ W, w1.grownBy W (some b) → Reads W A (i64s ls)) := Lib.hid (fun W hg hne => by
    obtain ⟨g, off, e, hc⟩ := Hr1.out hne
    refine ⟨g, off, e, fun j hj => ?_⟩
    have h1 := hc j hj
    rw [List.getElem?_eq_getElem hj] at h1 ⊢
    exact (World.cell?_of_block (a := ⟨g, off + j, none⟩) (hg.block g (World.block_lt_of_cell? w1 _ h1) (fun e2 => HA.out _ e (by injection e2)))).trans h1)
  have Hg12 := Lib.hid hg2
  clear hws2 hg2 Hg1 Hws1 Hr1 hcu hwr
  go_wp2
  clear hpd hw64
  have Hwid : Hid (∀ (x : Nat) (W : World), x < 4294967296 → Calls Tryz.prog 104 #[.int .i64 (x : Int)] W fun e w' => e = .returned (.int .i64 (Bm.wid x : Int)) ∧ W = w') := Lib.hid hdwid_any
  go_loopw [7, 27] (fun q i wr => ∃ k R M m : Nat, k ≤ ls.length ∧ i = .int .i64 (k : Int) ∧ q = .int .i64 (R : Int) ∧ R = (ls.drop k).sum ∧ R ≤ 512 ∧ m ≤ n + 3 + 10 * k ∧ Hid (WS wr b off M m) ∧ Hid (w1.grownBy wr (some b)) ∧ Hid (w.grownBy wr (some b)) ∧
    Hid (T = M + (Bm.hdrN (ls.drop k) R).1 * 2 ^ m ∧ C = m + (Bm.hdrN (ls.drop k) R).2)) (fun _ i _ => ls.length - (intOf i).toNat)
  case atStart =>
    refine ⟨0, S, _, _, by omega, rfl, rfl, hsum.symm, by omega, by omega, Hws2, Hg12, Hg2, Lib.hid ⟨?_, ?_⟩⟩
    · rw [HT.out, List.drop_zero, Nat.mod_eq_of_lt (show lg - 5 < 2 ^ 3 by omega)]
      exact Bm.put_more N (lg - 5) n 3 _
    · rw [HC.out, List.drop_zero]; omega
  case round =>
    obtain ⟨k, R, M, m, hk, rfl, rfl, hR, hR5, hm, hws, hg1, hgw, htot⟩ := hrel
    by_cases hkl : k < ls.length
    · have hd := List.drop_eq_getElem_cons hkl
      rw [hd, List.sum_cons] at hR
      obtain ⟨g, og, rfl, hc⟩ := hreads_in (Hr2.out _ hg1.out) (by omega)
      have c0 := hc k hkl
      have Htot := Lib.hid htot.out
      rw [hd, Bm.hdr_step ls[k] (ls.drop (k + 1)) R (by omega)] at Htot
      have Hdr : Hid (R - ls[k] = (ls.drop (k + 1)).sum) := Lib.hid (by omega)
      have hx : ls[k] ≤ R := by omega
      clear hc htot hd hR
      generalize ls[k] = x at *
      have hwd := Bm.wid_lt R
      have hw10 := Bm.wid_le_of R 10 (by omega)
      have hcu : IntKind.u32.wrap (x : Int) = (x : Int) := by simp [IntKind.wrap, IntKind.bits, IntKind.signed]; omega
      have Hp := Lib.hid (Hput.out _ M m x (Bm.wid R) (by omega) (by omega) (by omega) hws.out)
      rw [Nat.mod_eq_of_lt (show x < 2 ^ Bm.wid R by omega)] at Hp
      have hrx : ((R - x : Nat) : Int) = (R : Int) - (x : Int) := by omega
      have hwq : wrap64 ((R : Int) - (x : Int)) = (R : Int) - (x : Int) := wrap_in _ (by omega) (by omega)
      have Ht : Hid (T = M + x * 2 ^ m + (Bm.hdrN (ls.drop (k + 1)) (R - x)).1 * 2 ^ (m + Bm.wid R) ∧ C = m + Bm.wid R + (Bm.hdrN (ls.drop (k + 1)) (R - x)).2) := Lib.hid ⟨by rw [Htot.out.1]; exact Bm.put_more _ _ _ _ _, by rw [Htot.out.2]; dsimp only; omega⟩
      clear Htot hwd
      have Hw := Lib.hid (Hwid.out R wr (by omega))
      generalize Bm.wid R = wd at *
      go_wp2_with fail
      refine Hw.out.mono ?_
      rintro e w' ⟨rfl, rfl⟩
      go_wp2_with fail
      refine Hp.out.mono ?_
      rintro e w3 ⟨rfl, hws3, hg3⟩
      have Hws3 := Lib.hid hws3
      have Hg3 := Lib.hid (hgrown_trans hg1.out hg3)
      have Hgw3 := Lib.hid (hgrown_trans hgw.out hg3)
      clear hws3 hg3 hws hg1 hgw Hp
      go_wp2
      go_roundw
      case rel => exact ⟨k + 1, R - x, _, _, by omega, by go_num, by rw [hrx], Hdr.out, by omega, by omega, Hws3, Hg3, Hgw3, Ht⟩
      case measure => simp [intOf]; omega
    · obtain rfl : k = ls.length := by omega
      have Ht := htot.out
      rw [List.drop_length] at Ht
      simp only [Bm.hdrN, Nat.zero_mul, Nat.add_zero] at Ht
      obtain ⟨rfl, rfl⟩ := Ht
      go_wp2
      go_ret
      exact ⟨rfl, hws.out, hgw.out⟩

set_option maxHeartbeats 400000 in
set_option maxRecDepth 100000 in
theorem hdput_not (w : World) (b off : Nat) (A : Option Addr) (n c : Nat) (log : Int) (hfair : Calls Tryz.prog 103 #[.slice A n c, .int .i64 log] w fun e w' => e = .returned (.bool false) ∧ Below w.heap.size w w') :
    Calls Tryz.prog 87 #[.pointer (some ⟨b, off, none⟩), .slice A n c, .int .i64 log] w fun e w' => e = .returned (.bool false) ∧ Below w.heap.size w w' := by
  have Hfair := Lib.hid hfair
  clear hfair
  go_enter Tryz.func87, Tryz.ntmps87
  go_wp2_with fail
  refine Hfair.out.mono ?_
  rintro e w1 ⟨rfl, hb1⟩
  have Hb1 := Lib.hid hb1
  clear hb1
  go_wp2
  go_ret
  exact ⟨rfl, Hb1.out⟩

set_option maxHeartbeats 400000 in
set_option maxRecDepth 100000 in
theorem hdput_nil (w : World) (A : Option Addr) (n c : Nat) (log : Int) :
    Calls Tryz.prog 87 #[.pointer none, .slice A n c, .int .i64 log] w fun e w' => e = .returned (.bool false) ∧ Below w.heap.size w w' := by
  go_enter Tryz.func87, Tryz.ntmps87
  go_wp2
  go_ret
  exact ⟨rfl, Below.refl _ _⟩

theorem fair_true {A : Option Addr} {c : Nat} {l : List Int} {log : Int} {w : World} (hl : l.length ≤ 1000000) (hok : ∀ x ∈ l, Bm.IntOk x) (hlog : Bm.IntOk log) (hr : Reads w A (i64z l)) (hf : Bm.Fair l log) :
    Calls Tryz.prog 103 #[.slice A l.length c, .int .i64 log] w fun e w' => e = .returned (.bool true) ∧ Below w.heap.size w w' := by
  have h1 := nfair_any A c l log w hl hok hlog hr
  rw [show Bm.fairB l log = true from decide_eq_true hf] at h1
  exact h1
theorem fair_false {A : Option Addr} {c : Nat} {l : List Int} {log : Int} {w : World} (hl : l.length ≤ 1000000) (hok : ∀ x ∈ l, Bm.IntOk x) (hlog : Bm.IntOk log) (hr : Reads w A (i64z l)) (hf : ¬ Bm.Fair l log) :
    Calls Tryz.prog 103 #[.slice A l.length c, .int .i64 log] w fun e w' => e = .returned (.bool false) ∧ Below w.heap.size w w' := by
  have h1 := nfair_any A c l log w hl hok hlog hr
  rw [show Bm.fairB l log = false from decide_eq_false hf] at h1
  exact h1

theorem hdput_put (w : World) (b off N n : Nat) (A : Option Addr) (c : Nat) (l : List Int) (log : Int) (hn : n ≤ 100000) (hws : WS w b off N n) (hl : l.length ≤ 1000000) (hok : ∀ x ∈ l, Bm.IntOk x) (hlog : Bm.IntOk log) (hr : Reads w A (i64z l)) (hA : ∀ a, A = some a → l ≠ [] → a.block ≠ b) (hf : Bm.Fair l log) :
    Calls Tryz.prog 87 #[.pointer (some ⟨b, off, none⟩), .slice A l.length c, .int .i64 log] w fun e w' => e = .returned (.bool true) ∧ WS w' b off (N + (Bm.hdrA (l.map Int.toNat) log.toNat).1 * 2 ^ n) (n + (Bm.hdrA (l.map Int.toNat) log.toNat).2) ∧ w.grownBy w' (some b) := by
  have hfr := fair_true (c := c) hl hok hlog hr hf
  have hfn := Bm.fair_n l log hf
  have hmap := Bm.fair_map l log hf
  have hl9 : (log.toNat : Int) = log := by have := hf.1; omega
  have hne : l ≠ [] := by
    rintro rfl
    have h1 := hfn.sum
    have h2 := Nat.two_pow_pos log.toNat
    simp at h1
    omega
  have hls : i64s (l.map Int.toNat) = i64z l := by rw [← i64z_nat, hmap]
  have hlen : (l.map Int.toNat).length = l.length := by simp
  rw [← hls] at hr
  have h := hdput_fair w b off N n A c (l.map Int.toNat) log.toNat hn hws hr (fun a e => hA a e hne) hfn (by rw [hlen, hl9]; exact hfr)
  rw [hlen, hl9] at h
  exact h

end Go.Proofs.YtbdciiiimdbmkaaGreat

namespace Go.Proofs.YtbdciiiimdbmkaaGreat
open Go.RowKit

def hlenOf : Value → Nat
  | .slice _ n _ => n
  | _ => 0
theorem hown_kept {w w' : World} {base b : Nat} {e : TypeId} {v : Value} {n : Nat} {xs : List Value} (h : w.ownsRow base e 1 v n xs) (hg : w.grownBy w' (some b)) (hb : b < base) : w'.ownsRow base e 1 v n xs :=
  h.kept hg (by
    cases hv : v.ownBlock with
    | none => exact .inl rfl
    | some x => exact .inr (fun e => by injection e with e; have := (h.lt x hv).1; omega))
theorem hown_len {w : World} {base : Nat} {e : TypeId} {v : Value} {n : Nat} {xs : List Value} (h : w.ownsRow base e 1 v n xs) : hlenOf v = n := by
  rcases h.2 with ⟨rfl, h0⟩ | ⟨g, cap, cur, rfl, _⟩
  · exact h0.symm
  · rfl
/-- What Take answers, and that its slice lies in a new block. -/
def TakeF (n0 : Nat) (w' : World) (e : Ending) : Option (List Nat × Nat × Nat) → Prop
  | none => ∃ A c, e = .returned (.tuple #[.slice A 0 c, .int .i64 0, .bool false])
  | some t => ∃ A c, e = .returned (.tuple #[.slice A t.1.length c, .int .i64 (t.2.1 : Int), .bool true]) ∧ Reads w' A (i64s t.1) ∧ ∀ a, A = some a → n0 ≤ a.block
theorem TakeF.less {n0 : Nat} {w' : World} {e : Ending} : ∀ {t : Option (List Nat × Nat × Nat)}, TakeF n0 w' e t → TakeP w' e t
  | none, h => h
  | some _, ⟨A, c, he, hr, _⟩ => ⟨A, c, he, hr⟩
/-- What numbers answers. -/
def NumsP (n0 : Nat) (w' : World) (e : Ending) (b off : Nat) (bs : List Nat) : Option (List Nat × Nat) → Prop
  | none => e = .returned (.tuple #[.slice none 0 0, .bool false])
  | some t => ∃ A c, e = .returned (.tuple #[.slice A t.1.length c, .bool true]) ∧ (Reads w' A (i64s t.1) ∧ ∀ a, A = some a → n0 ≤ a.block) ∧ RS w' b off bs (8 * bs.length - t.2)

namespace Bm
theorem takeN_zero (f N len : Nat) : takeN f 0 N len = some ([], len) := by cases f <;> simp [takeN]
theorem takeN_few (f R N len : Nat) (h0 : 0 < R) (h : len < wid R) : takeN f R N len = none := by
  cases f with
  | zero => rw [takeN, if_neg (by omega)]
  | succ f => rw [takeN, if_neg (by omega), if_pos h]
theorem takeN_above (f R N len : Nat) (h0 : 0 < R) (h : R < N % 2 ^ wid R) : takeN f R N len = none := by
  cases f with
  | zero => rw [takeN, if_neg (by omega)]
  | succ f => rw [takeN, if_neg (by omega)]; split <;> rfl
theorem takeN_next (f R V p L : Nat) (h0 : 0 < R) (hp : p + wid R ≤ L) (h : V / 2 ^ p % 2 ^ wid R ≤ R) :
    takeN (f + 1) R (V / 2 ^ p) (L - p) = (takeN f (R - V / 2 ^ p % 2 ^ wid R) (V / 2 ^ (p + wid R)) (L - (p + wid R))).map fun t => (V / 2 ^ p % 2 ^ wid R :: t.1, t.2) := by
  rw [takeN, if_neg (by omega), if_neg (by omega), if_neg (by omega), Nat.div_div_eq_div_mul, ← Nat.pow_add, Nat.sub_sub]
end Bm

set_option maxHeartbeats 1000000 in
set_option maxRecDepth 100000 in
theorem hdnums_any (w : World) (b off pos rest : Nat) (bs : List Nat) (hs : bs.length ≤ 100000) (hbs : ∀ x ∈ bs, x < 256) (hp : pos ≤ 8 * bs.length) (hrest : rest ≤ 512) (hrs : RS w b off bs pos) :
    Calls Tryz.prog 122 #[.pointer (some ⟨b, off, none⟩), .int .i64 (rest : Int)] w fun e w' => NumsP w.heap.size w' e b off bs (Bm.takeN 256 rest (Bm.valB bs / 2 ^ pos) (8 * bs.length - pos)) ∧ w.grownBy w' (some b) := by
  obtain ⟨i0, hi, hz0, hz1, hz2⟩ := info_parts info_in
  obtain ⟨r, hr⟩ : ∃ r, r = Bm.takeN 256 rest (Bm.valB bs / 2 ^ pos) (8 * bs.length - pos) := ⟨_, rfl⟩
  rw [← hr]
  have Hr := Lib.hid hr
  have Hrs := Lib.hid hrs
  have hbl : b < w.heap.size := hrs.2.2.2
  have Hwid : Hid (∀ (x : Nat) (W : World), x < 4294967296 → Calls Tryz.prog 104 #[.int .i64 (x : Int)] W fun e w' => e = .returned (.int .i64 (Bm.wid x : Int)) ∧ W = w') := Lib.hid hdwid_any
  have Hfew : Hid (∀ W p m, p ≤ 8 * bs.length → m ≤ 32 → 8 * bs.length - p < m → RS W b off bs p → Calls Tryz.prog 76 #[.pointer (some ⟨b, off, none⟩), .int .i64 (m : Int)] W fun e w' => e = .returned (.tuple #[.int .u32 0, .bool false]) ∧ ∃ k, w' = W.drewN k) := Lib.hid (fun W p m h1 h2 h3 h4 => take_few b off bs p m W (by omega) h1 h2 h3 h4)
  have Htake : Hid (∀ W p m, m ≤ 32 → p + m ≤ 8 * bs.length → RS W b off bs p → Calls Tryz.prog 76 #[.pointer (some ⟨b, off, none⟩), .int .i64 (m : Int)] W fun e w' => e = .returned (.tuple #[.int .u32 ((Bm.valB bs / 2 ^ p % 2 ^ m : Nat) : Int), .bool true]) ∧ RS w' b off bs (p + m) ∧ W.grownBy w' (some b)) := Lib.hid (fun W p m h1 h2 h3 => take_ok b off bs p m W (by omega) hbs h1 h2 h3)
  clear hr hrs hbs
  generalize Bm.valB bs = V at *
  generalize hL : 8 * bs.length = L at *
  have HL := Lib.hid hL
  clear hL
  go_enter Tryz.func122, Tryz.ntmps122
  go_wp2
  go_loopw [1, 6] (fun q u wr => ∃ (R p : Nat) (acc : List Nat), q = .int .i64 (R : Int) ∧ R ≤ 512 ∧ p ≤ L ∧ acc.length ≤ 256 ∧ w.heap.size ≤ wr.heap.size ∧ Hid (wr.ownsRow w.heap.size 3 1 u acc.length (i64s acc)) ∧ Hid (RS wr b off bs p) ∧ Hid (w.grownBy wr (some b)) ∧
    Hid (r = (Bm.takeN (256 - acc.length) R (V / 2 ^ p) (L - p)).map fun t => (acc ++ t.1, t.2))) (fun _ u _ => 256 - hlenOf u)
  case atStart =>
    refine ⟨rest, pos, [], rfl, hrest, hp, by simp, Nat.le_refl _, Lib.hid (World.ownsRow_nil w _ _ _), Hrs, Lib.hid (grown_refl _ _), Lib.hid ?_⟩
    rw [Hr.out]
    cases Bm.takeN 256 rest (V / 2 ^ pos) (L - pos) <;> simp_all
  case round =>
    obtain ⟨R, p, acc, rfl, hR, hpL, hacc, hsz, hown, hrs, hg, hres⟩ := hrel
    clear Hr Hrs
    obtain ⟨A1, c1, rfl, hrd, hA1⟩ := own_reads hown.out
    have Hrd := Lib.hid hrd
    have HA1 := Lib.hid (fun a e => (hA1 a e).1)
    clear hA1
    have hlen := hown_len hown.out
    have Hlen := Lib.hid hlen
    clear hrd hlen
    by_cases hR0 : R = 0
    · subst hR0
      have Hx := Lib.hid hres.out
      rw [Bm.takeN_zero] at Hx
      clear hres hown
      go_wp2
      go_ret2
      rw [Hx.out]
      refine ⟨⟨A1, c1, ?_, ?_, ?_⟩, hg.out⟩
      · simp
      · exact ⟨by simpa using Hrd.out, HA1.out⟩
      · rw [HL.out, show L - (L - p) = p by omega]; exact hrs.out
    · have hw10 := Bm.wid_le_of R 10 (by omega)
      have Hw := Lib.hid (Hwid.out R wr (by omega))
      have d0 : decide ((0 : Int) < (R : Int)) = true := decide_eq_true (by omega)
      by_cases hfew : L - p < Bm.wid R
      · have Hx : Hid (r = none) := Lib.hid (by rw [hres.out, Bm.takeN_few _ _ _ _ (by omega) hfew]; rfl)
        have Hf := Lib.hid (Hfew.out wr p (Bm.wid R) hpL (by omega) hfew hrs.out)
        clear hres hown hfew hrs
        generalize Bm.wid R = wd at *
        go_wp2_with fail
        refine Hw.out.mono ?_
        rintro e w' ⟨rfl, rfl⟩
        go_wp2_with fail
        refine Hf.out.mono ?_
        rintro e w' ⟨rfl, q, rfl⟩
        go_wp2
        go_ret2
        rw [Hx.out]
        exact ⟨rfl, grown_drewN hg.out q⟩
      · have Ht := Lib.hid (Htake.out wr p (Bm.wid R) (by omega) (by omega) hrs.out)
        have hv := Nat.mod_lt (V / 2 ^ p) (Nat.two_pow_pos (Bm.wid R))
        have hP10 : 2 ^ Bm.wid R ≤ 2 ^ 10 := Nat.pow_le_pow_right (by omega) hw10
        have h1024 : (2 : Nat) ^ 10 = 1024 := by decide
        by_cases habove : R < V / 2 ^ p % 2 ^ Bm.wid R
        · have Hx : Hid (r = none) := Lib.hid (by rw [hres.out, Bm.takeN_above _ _ _ _ (by omega) habove]; rfl)
          clear hres hown
          generalize V / 2 ^ p % 2 ^ Bm.wid R = x at *
          generalize Bm.wid R = wd at *
          generalize 2 ^ wd = P at *
          have hci : IntKind.i64.wrap (x : Int) = (x : Int) := IntWalk.i64_in _ (by omega)
          have d1 : decide ((R : Int) < (x : Int)) = true := decide_eq_true (by omega)
          go_wp2_with fail
          refine Hw.out.mono ?_
          rintro e w' ⟨rfl, rfl⟩
          go_wp2_with fail
          refine Ht.out.mono ?_
          rintro e w3 ⟨rfl, hrs3, hg3⟩
          have Hg3 := Lib.hid (hgrown_trans hg.out hg3)
          clear hrs3 hg3
          go_wp2
          go_ret2
          rw [Hx.out]
          exact ⟨rfl, Hg3.out⟩
        · by_cases hfull : acc.length = 256
          · have Hx : Hid (r = none) := Lib.hid (by rw [hres.out, hfull, Bm.takeN, if_neg hR0]; rfl)
            clear hres hown
            generalize V / 2 ^ p % 2 ^ Bm.wid R = x at *
            generalize Bm.wid R = wd at *
            generalize 2 ^ wd = P at *
            have hci : IntKind.i64.wrap (x : Int) = (x : Int) := IntWalk.i64_in _ (by omega)
            have d1 : decide ((R : Int) < (x : Int)) = false := decide_eq_false (by omega)
            rw [hfull] at *
            go_wp2_with fail
            refine Hw.out.mono ?_
            rintro e w' ⟨rfl, rfl⟩
            go_wp2_with fail
            refine Ht.out.mono ?_
            rintro e w3 ⟨rfl, hrs3, hg3⟩
            have Hg3 := Lib.hid (hgrown_trans hg.out hg3)
            clear hrs3 hg3
            go_wp2
            go_ret2
            rw [Hx.out]
            exact ⟨rfl, Hg3.out⟩
          · have Hres := Lib.hid hres.out
            rw [show 256 - acc.length = (256 - (acc.length + 1)) + 1 by omega, Bm.takeN_next _ _ _ _ _ (by omega) (by omega) (by omega)] at Hres
            clear hres
            generalize V / 2 ^ p % 2 ^ Bm.wid R = x at *
            generalize Bm.wid R = wd at *
            generalize 2 ^ wd = P at *
            generalize hn : acc.length = n at *
            have Hn := Lib.hid hn
            clear hn
            have hci : IntKind.i64.wrap (x : Int) = (x : Int) := IntWalk.i64_in _ (by omega)
            have d1 : decide ((R : Int) < (x : Int)) = false := decide_eq_false (by omega)
            have d2 : ((n : Int) == 256) = false := by rw [beq_eq_false_iff_ne]; omega
            have hrx : ((R - x : Nat) : Int) = (R : Int) - (x : Int) := by omega
            have hwq : wrap64 ((R : Int) - (x : Int)) = (R : Int) - (x : Int) := wrap_in _ (by omega) (by omega)
            go_wp2_with fail
            refine Hw.out.mono ?_
            rintro e w' ⟨rfl, rfl⟩
            go_wp2_with fail
            refine Ht.out.mono ?_
            rintro e w3 ⟨rfl, hrs3, hg3⟩
            have Hg3 := Lib.hid (hgrown_trans hg.out hg3)
            have Hrs3 := Lib.hid hrs3
            have Hown3 := Lib.hid (hown_kept hown.out hg3 hbl)
            have hs3 := hg3.size
            clear hrs3 hg3 hrs hg hown Ht
            go_wp2_with (at_builtin; refine wpList_append_own _ rfl _ _ 57 rfl w.heap.size 3 i0 (.int .i64 0) 1 8 Tryz.underlying57 hi hz0 hz1 hz2 rfl (by decide) _ _ _ rfl (Hown3.out.alloc _) ⟨w3.heap.size, 0, none⟩ 1 1 [.int .i64 (x : Int)] rfl rfl ?d1 ?d2 ?d3 ?d4 ?d5 ?_)
            case d1 =>
              intro j u hj
              match j, hj with
              | 0, hj => simp at hj; subst hj; simp [Addr.add]
            case d2 => intro u hu; simp at hu; subst hu; rfl
            case d3 => unfold maxLen; omega
            case d4 => omega
            case d5 => simp; omega
            intro u' w7 hown7 hgr7 _
            have hga : w3.grownBy (w3.alloc (.cells #[.int .i64 (x : Int)] 3)) (some b) := grown_alloc (grown_refl _ _) _
            have hnb : (Value.slice A1 n c1).ownBlock ≠ some b := fun e => by have := (Hown3.out.lt b e).1; omega
            have Hrs7 := Lib.hid (RS.keep (RS.keep Hrs3.out (grown_alloc (grown_refl w3 none) (.cells #[.int .i64 (x : Int)] 3)) (by simp)) hgr7 hnb)
            have Hg7 : Hid (w.grownBy w7 (some b)) := Lib.hid (by
              have h1 := hgrown_trans Hg3.out hga
              refine ⟨hgr7.os.trans h1.os, hgr7.tape.trans h1.tape, hgr7.output.trans h1.output, Nat.le_trans h1.size hgr7.size, fun i hi2 hne => ?_⟩
              rw [← h1.block i hi2 hne]
              exact hgr7.block i (Nat.lt_of_lt_of_le hi2 h1.size) (fun e => by have := (Hown3.out.lt i e.symm).1; omega))
            have e : i64s acc ++ [Value.int .i64 (x : Int)] = i64s (acc ++ [x]) := by simp [i64s]
            rw [e] at hown7
            have hl7 := hown_len hown7
            have hs7 : w.heap.size ≤ w7.heap.size := Hg7.out.size
            have Hown7 := Lib.hid hown7
            have Hln : Hid ((acc ++ [x]).length = n + 1) := Lib.hid (by rw [List.length_append, Hn.out]; rfl)
            clear hown7 hgr7 e hga hnb Hown3 Hg3 Hrs3
            go_wp2
            go_roundw
            case rel =>
              refine ⟨R - x, p + wd, acc ++ [x], by rw [hrx], by omega, by omega, by rw [Hln.out]; omega, hs7, by rw [Hln.out]; exact Hown7, Hrs7, Hg7, Lib.hid ?_⟩
              rw [Hres.out, Hln.out]
              cases Bm.takeN (256 - (n + 1)) (R - x) (V / 2 ^ (p + wd)) (L - (p + wd)) with
              | none => rfl
              | some t => simp
            case measure => rw [hl7]; show 256 - (n + 1) < 256 - n; omega

set_option maxHeartbeats 1000000 in
set_option maxRecDepth 100000 in
theorem hdtake_far (w : World) (b off pos : Nat) (bs : List Nat) (hs : bs.length ≤ 100000) (hbs : ∀ x ∈ bs, x < 256) (hp : pos ≤ 8 * bs.length) (hrs : RS w b off bs pos) :
    Calls Tryz.prog 112 #[.pointer (some ⟨b, off, none⟩)] w fun e w' => TakeF w.heap.size w' e (Bm.takeA (Bm.valB bs / 2 ^ pos) (8 * bs.length - pos)) ∧ w.grownBy w' (some b) ∧
      ∀ t, Bm.takeA (Bm.valB bs / 2 ^ pos) (8 * bs.length - pos) = some t → RS w' b off bs (8 * bs.length - t.2.2) := by
  unfold Bm.takeA
  by_cases hfew : 8 * bs.length - pos < 3
  · rw [if_pos hfew]
    have Hf := Lib.hid (take_few b off bs pos 3 w (by omega) hp (by omega) hfew hrs)
    clear hrs hbs
    go_enter Tryz.func112, Tryz.ntmps112
    go_wp2_with fail
    refine Hf.out.mono ?_
    rintro e w' ⟨rfl, q, rfl⟩
    go_wp2
    go_ret3
    exact ⟨⟨_, _, rfl⟩, grown_drewN (grown_refl _ _) q, fun t h => by cases h⟩
  · rw [if_neg hfew]
    have ht := take_ok b off bs pos 3 w (by omega) hbs (by omega) (by omega) hrs
    have hm := Nat.mod_lt (Bm.valB bs / 2 ^ pos) (Nat.two_pow_pos 3)
    have h8 : (2 : Nat) ^ 3 = 8 := by decide
    by_cases h4 : 4 < Bm.valB bs / 2 ^ pos % 2 ^ 3
    · rw [if_pos h4]
      have Ht := Lib.hid ht
      clear ht hrs hbs
      generalize Bm.valB bs / 2 ^ pos % 2 ^ 3 = x at *
      have hci : IntKind.i64.wrap (x : Int) = (x : Int) := IntWalk.i64_in _ (by omega)
      have hw5 : wrap64 (5 + (x : Int)) = 5 + (x : Int) := wrap_in _ (by omega) (by omega)
      have d1 : decide ((9 : Int) < 5 + (x : Int)) = true := decide_eq_true (by omega)
      go_enter Tryz.func112, Tryz.ntmps112
      go_wp2_with fail
      refine Ht.out.mono ?_
      rintro e w' ⟨rfl, _, hg⟩
      have Hg := Lib.hid hg
      clear hg
      go_wp2
      go_ret3
      exact ⟨⟨_, _, rfl⟩, Hg.out, fun t h => by cases h⟩
    · rw [if_neg h4]
      have hP := hpow_fair (5 + Bm.valB bs / 2 ^ pos % 2 ^ 3) (by omega) (by omega)
      have Hnums := Lib.hid (fun W (h : RS W b off bs (pos + 3)) => hdnums_any W b off (pos + 3) (2 ^ (5 + Bm.valB bs / 2 ^ pos % 2 ^ 3)) bs hs hbs (by omega) hP.2 h)
      rw [Nat.pow_add (m := pos) (n := 3), ← Nat.div_div_eq_div_mul, ← Nat.sub_sub] at Hnums
      have Ht := Lib.hid ht
      clear ht hrs hbs
      generalize hr : Bm.takeN 256 (2 ^ (5 + Bm.valB bs / 2 ^ pos % 2 ^ 3)) (Bm.valB bs / 2 ^ pos / 2 ^ 3) (8 * bs.length - pos - 3) = r at *
      clear hr
      generalize Bm.valB bs / 2 ^ pos % 2 ^ 3 = x at *
      have hci : IntKind.i64.wrap (x : Int) = (x : Int) := IntWalk.i64_in _ (by omega)
      have hw5 : wrap64 (5 + (x : Int)) = 5 + (x : Int) := wrap_in _ (by omega) (by omega)
      have d1 : decide ((9 : Int) < 5 + (x : Int)) = false := decide_eq_false (by omega)
      have d2 : decide (5 + (x : Int) < 0) = false := decide_eq_false (by omega)
      have htn : (5 + (x : Int)).toNat = 5 + x := by omega
      have hpd : (2 : Int) ^ (5 + x) = ((2 ^ (5 + x) : Nat) : Int) := by simp
      have H5x : Hid (5 + (x : Int) = ((5 + x : Nat) : Int)) := Lib.hid (by omega)
      obtain ⟨S, hS⟩ : ∃ S, S = 2 ^ (5 + x) := ⟨_, rfl⟩
      rw [← hS] at hP hpd Hnums
      have hw64 : wrap64 (S : Int) = (S : Int) := wrap_in _ (by omega) (by omega)
      clear hS
      go_enter Tryz.func112, Tryz.ntmps112
      go_wp2_with fail
      refine Ht.out.mono ?_
      rintro e w1 ⟨rfl, hrs1, hg1⟩
      have Hn1 := Lib.hid (Hnums.out w1 hrs1)
      have Hg1 := Lib.hid hg1
      have Hs1 := Lib.hid hg1.size
      clear hrs1 hg1 Hnums Ht
      cases r with
      | none =>
        go_wp2_with fail
        refine Hn1.out.mono ?_
        rintro e w2 ⟨rfl, hg2⟩
        have Hg2 := Lib.hid (hgrown_trans Hg1.out hg2)
        clear hg2
        go_wp2
        go_ret3
        exact ⟨⟨_, _, rfl⟩, Hg2.out, fun t h => by cases h⟩
      | some t =>
        go_wp2_with fail
        refine Hn1.out.mono ?_
        rintro e w2 ⟨⟨A, c, rfl, hrd, hrs2⟩, hg2⟩
        have Hg2 := Lib.hid (hgrown_trans Hg1.out hg2)
        have Hrd := Lib.hid hrd
        have Hrs2 := Lib.hid hrs2
        clear hg2 hrd hrs2
        go_wp2
        go_ret3
        refine ⟨⟨A, c, ?_, Hrd.out.1, fun a e => Nat.le_trans Hs1.out (Hrd.out.2 a e)⟩, Hg2.out, fun t h => ?_⟩
        · rw [H5x.out]; rfl
        · injection h with h
          subst h
          exact Hrs2.out
theorem hdtake_any (w : World) (b off pos : Nat) (bs : List Nat) (hs : bs.length ≤ 100000) (hbs : ∀ x ∈ bs, x < 256) (hp : pos ≤ 8 * bs.length) (hrs : RS w b off bs pos) :
    Calls Tryz.prog 112 #[.pointer (some ⟨b, off, none⟩)] w fun e w' => TakeP w' e (Bm.takeA (Bm.valB bs / 2 ^ pos) (8 * bs.length - pos)) ∧ w.grownBy w' (some b) ∧
      ∀ t, Bm.takeA (Bm.valB bs / 2 ^ pos) (8 * bs.length - pos) = some t → RS w' b off bs (8 * bs.length - t.2.2) :=
  (hdtake_far w b off pos bs hs hbs hp hrs).mono fun _ _ ⟨h1, h2, h3⟩ => ⟨h1.less, h2, h3⟩

end Go.Proofs.YtbdciiiimdbmkaaGreat
