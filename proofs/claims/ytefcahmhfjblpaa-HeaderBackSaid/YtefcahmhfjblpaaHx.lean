/-
  HeaderBack (layer 8): the law's function by its walk: true for any numbers, any log, any byte. Premises: what the calls of layer 8 answer.
-/
import Derived.Test.YtefcahmhfjblpaaHe
import Derived.Test.YtefcahmhfjblpaaHk
import Derived.Test.YtefcahmhfjblpaaHn
import Derived.Test.YtefcahmhfjblpaaHs
import Derived.Test.YtefcahmhfjblpaaHb
import Derived.Test.YtefcahmhfjblpaaSt
import Derived.Test.YtefcahmhfjblpaaWu
import Derived.Test.YtefcahmhfjblpaaRg
import Derived.Deep.RegionHeld3
import Derived.Deep.AppendLies
namespace Go.Proofs.Ytefcahmhfjblpaa
open Go.RowKit

set_option maxHeartbeats 400000 in
set_option maxRecDepth 100000 in
theorem hback_long (hH : HdrOk) (A : Option Addr) (n c : Nat) (log : Int) (a : Nat) (w : World) (h : 300 < n) (hn : n ≤ 9223372036854775807) :
    Calls Try.prog 3 #[.slice A n c, .int .i64 log, .int .u8 (a : Int)] w fun e w' => e = .returned (.bool true) ∧ Below w.heap.size w w' := by
  have Haw := Lib.hid (hawake_of hH)
  clear hH
  go_enter Try.func3, Try.ntmps3
  go_wp2_with fail
  refine (Haw.out w).mono ?_
  rintro e w1 ⟨rfl, hb1⟩
  have Hb1 := Lib.hid hb1
  clear hb1
  go_wp2
  go_ret
  exact ⟨rfl, Hb1.out⟩

set_option maxHeartbeats 1000000 in
set_option maxRecDepth 100000 in
theorem hback_unfair (hH : HdrOk) (A : Option Addr) (c : Nat) (l : List Int) (log : Int) (a : Nat) (w : World) (h : l.length ≤ 300) (ha : a < 256) (hok : ∀ x ∈ l, Bm.IntOk x) (hlog : Bm.IntOk log) (hr : Reads w A (i64z l)) (hf : ¬ Bm.Fair l log) :
    Calls Try.prog 3 #[.slice A l.length c, .int .i64 log, .int .u8 (a : Int)] w fun e w' => e = .returned (.bool true) ∧ Below w.heap.size w w' := by
  have Haw := Lib.hid (hawake_of hH)
  have hfb : Bm.fairB l log = false := decide_eq_false hf
  have H2 : Hid (∀ W, Below w.heap.size w W → Calls Try.prog 9 #[.slice A l.length c, .int .i64 log] W fun e w' => e = .returned (.bool false) ∧ W = w') := Lib.hid (fun W hb => by
    have h1 := hfair_any A c l log W (by omega) (reads_on hr hb)
    rw [hfb] at h1
    exact h1)
  have H1 : Hid (∀ W b, WS W b 0 0 0 → Calls Try.prog 7 #[.pointer (some ⟨b, 0, none⟩), .int .u32 (a : Int), .int .i64 ((a : Int) % 9)] W fun e w' => e = .returned (.bool true) ∧ WS w' b 0 (a % 2 ^ (a % 9)) (a % 9) ∧ W.grownBy w' (some b)) := Lib.hid (fun W b hws => by
    have h1 := put_true b 0 0 0 a (a % 9) W (by omega) (by omega) (by omega) hws
    rw [show ((a % 9 : Nat) : Int) = (a : Int) % 9 by omega] at h1
    exact h1.mono fun e w' ⟨he, hw', hg⟩ => ⟨he, by simpa using hw', hg⟩)
  have H3 : Hid (∀ W b N n, n ≤ 8 → WS W b 0 N n → Below w.heap.size w W → Calls Try.prog 8 #[.pointer (some ⟨b, 0, none⟩), .slice A l.length c, .int .i64 log] W fun e w' => e = .returned (.bool false) ∧ Below W.heap.size W w') := Lib.hid (fun W b N n hn hws hb => hH.noPut W b 0 N n A c l log (by omega) hws (by omega) hok hlog (reads_on hr hb) hf)
  have H4 : Hid (∀ W, Below w.heap.size w W → Calls Try.prog 11 #[.slice A l.length c, .int .i64 log] W fun e w' => e = .returned (.int .i64 0) ∧ Below W.heap.size W w') := Lib.hid (fun W hb => by
    have h1 := hH.size W A c l log (by omega) hok hlog (reads_on hr hb)
    rw [if_neg hf] at h1
    exact h1)
  have H5 : Hid (∀ W b N n, WS W b 0 N n → Calls Try.prog 10 #[.pointer (some ⟨b, 0, none⟩)] W fun e w' => e = .returned (.int .i64 (n : Int)) ∧ W = w') := Lib.hid (fun W b N n hws => len_any b 0 n W hws.len_cell)
  have ha9 : a % 9 ≤ 8 := by omega
  have hai : ((a % 9 : Nat) : Int) = (a : Int) % 9 := by omega
  have Hai := Lib.hid hai
  clear hH hr hf hfb hok hlog hai
  go_enter Try.func3, Try.ntmps3
  go_wp2_with fail
  refine (Haw.out w).mono ?_
  rintro e w1 ⟨rfl, hb1⟩
  obtain ⟨w2, b, hw2, hbe, hws2, hb2, hbl⟩ := new_writer w1
  have Hb2 := Lib.hid (hb1.trans (hb2.mono hb1.size))
  have Hbw := Lib.hid (show w.heap.size ≤ b by rw [hbe]; exact hb1.size)
  have Hws2 := Lib.hid hws2
  have Hw2 := Lib.hid hw2
  have Hbe := Lib.hid hbe
  clear hb1 hb2 hws2 hw2 hbe hbl
  go_upto_region 7 with fail
  rw [← Hw2.out, ← Hbe.out]
  go_wp2_with fail
  refine (H1.out w2 b Hws2.out).mono ?_
  rintro e w3 ⟨rfl, hws3, hg3⟩
  have Hb3 : Hid (Below w.heap.size w w3) := Lib.hid (Hb2.out.grown hg3 Hb2.out.size (fun k e => by injection e with e; rw [← e]; exact Hbw.out))
  have Hws3 := Lib.hid hws3
  clear hws3 hg3 Hb2 Hws2
  go_wp2_with fail
  refine (H3.out w3 b _ _ ha9 Hws3.out Hb3.out).mono ?_
  rintro e w4 ⟨rfl, hb4⟩
  have Hb4 := Lib.hid (Hb3.out.trans (hb4.mono Hb3.out.size))
  have Hws4 := Lib.hid (Hws3.out.below hb4)
  clear hb4 Hb3 Hws3
  go_wp2_with fail
  refine (H2.out w4 Hb4.out).mono ?_
  rintro e w' ⟨rfl, rfl⟩
  go_wp2_with fail
  refine (H5.out w4 b _ _ Hws4.out).mono ?_
  rintro e w' ⟨rfl, rfl⟩
  rw [Hai.out]
  go_wp2_with fail
  refine (H4.out w4 Hb4.out).mono ?_
  rintro e w5 ⟨rfl, hb5⟩
  have Hb5 := Lib.hid (Hb4.out.trans (hb5.mono Hb4.out.size))
  clear hb5 Hb4
  go_wp2
  go_ret
  exact ⟨rfl, Hb5.out⟩

/-- The law's walk, what its calls answer given as letters. -/
theorem hback_bits (ls : List Nat) (lg a : Nat) (hfn : Bm.FairN ls lg) :
    Bm.takeA (Bm.valB (Bm.bytesOf (a % 2 ^ (a % 9) + (Bm.hdrA ls lg).1 * 2 ^ (a % 9)) ((a % 9 + (Bm.hdrA ls lg).2 + 7) / 8)) / 2 ^ (a % 9)) (8 * ((a % 9 + (Bm.hdrA ls lg).2 + 7) / 8) - a % 9) = some (Bm.shortL ls, lg, 8 * ((a % 9 + (Bm.hdrA ls lg).2 + 7) / 8) - (a % 9 + (Bm.hdrA ls lg).2)) ∧
    a % 2 ^ (a % 9) + (Bm.hdrA ls lg).1 * 2 ^ (a % 9) < 2 ^ (a % 9 + (Bm.hdrA ls lg).2) := by
  have hlt := Bm.hdrA_lt ls lg hfn
  have htk := Bm.take_hdrA ls lg 0
  have hm : a % 2 ^ (a % 9) < 2 ^ (a % 9) := Nat.mod_lt _ (Nat.two_pow_pos _)
  have hp : 0 < 2 ^ (a % 9) := Nat.two_pow_pos _
  generalize (Bm.hdrA ls lg).1 = H at *
  generalize (Bm.hdrA ls lg).2 = hn at *
  generalize a % 2 ^ (a % 9) = a0 at *
  generalize a % 9 = k at *
  have hN : a0 + H * 2 ^ k < 2 ^ (k + hn) := by
    rw [Nat.pow_add, Nat.mul_comm (2 ^ k)]
    have h2 := Nat.mul_le_mul_right (2 ^ k) hlt
    rw [Nat.succ_mul] at h2
    omega
  refine ⟨?_, hN⟩
  have hv : Bm.valB (Bm.bytesOf (a0 + H * 2 ^ k) ((k + hn + 7) / 8)) = a0 + H * 2 ^ k := by
    rw [Bm.valB_bytesOf, Nat.mod_eq_of_lt]
    rw [Bm.p256]
    exact Nat.lt_of_lt_of_le hN (Nat.pow_le_pow_right (by omega) (by omega))
  rw [hv, Nat.add_mul_div_right _ _ hp, Nat.div_eq_of_lt hm, Nat.zero_add]
  have h3 := htk (8 * ((k + hn + 7) / 8) - (k + hn)) hfn
  rw [Nat.zero_mul, Nat.add_zero, show hn + (8 * ((k + hn + 7) / 8) - (k + hn)) = 8 * ((k + hn + 7) / 8) - k by omega] at h3
  exact h3

set_option maxHeartbeats 4000000 in
set_option maxRecDepth 100000 in
theorem hback_fair (hH : HdrOk) (A : Option Addr) (c : Nat) (l : List Int) (log : Int) (a : Nat) (w : World) (h : l.length ≤ 300) (hc : l.length ≤ c) (ha : a < 256) (hok : ∀ x ∈ l, Bm.IntOk x) (hlog : Bm.IntOk log) (hr : Reads w A (i64z l)) (hf : Bm.Fair l log) :
    Calls Try.prog 3 #[.slice A l.length c, .int .i64 log, .int .u8 (a : Int)] w fun e w' => e = .returned (.bool true) ∧ Below w.heap.size w w' := by
  obtain ⟨i0, hi, hz0, hz1, hz2⟩ := info_parts info_io
  have Haw := Lib.hid (hawake_of hH)
  have hfn := Bm.fair_n l log hf
  have hmap := Bm.fair_map l log hf
  have hls : i64s (l.map Int.toNat) = i64z l := by rw [← i64z_nat, hmap]
  have hlen : (l.map Int.toNat).length = l.length := by simp
  have hl9 : (log.toNat : Int) = log := by have := hf.1; omega
  have hfb : Bm.fairB l log = true := decide_eq_true hf
  have H2 : Hid (∀ W, Below w.heap.size w W → Calls Try.prog 9 #[.slice A l.length c, .int .i64 log] W fun e w' => e = .returned (.bool true) ∧ W = w') := Lib.hid (fun W hb => by
    have h1 := hfair_any A c l log W (by omega) (reads_on hr hb)
    rw [hfb] at h1
    exact h1)
  have H3 := fun W b N n (hn : n ≤ 8) (hws : WS W b 0 N n) (hb : Below w.heap.size w W) (hwb : w.heap.size ≤ b) => hH.put W b 0 N n A c l log (by omega) hws (by omega) hok hlog (reads_on hr hb) (fun a e h0 => by have := reads_lt hr a e h0; omega) hf
  have H4 : Hid (∀ W, Below w.heap.size w W → Calls Try.prog 11 #[.slice A l.length c, .int .i64 log] W fun e w' => e = .returned (.int .i64 ((Bm.hdrA (l.map Int.toNat) log.toNat).2 : Int)) ∧ Below W.heap.size W w') := Lib.hid (fun W hb => by
    have h1 := hH.size W A c l log (by omega) hok hlog (reads_on hr hb)
    rw [if_pos hf] at h1
    exact h1)
  have H9 : Hid (∀ W, Below w.heap.size w W → Calls Try.prog 20 #[.slice A l.length c] W fun e w' => ∃ k, e = .returned (.slice A k c) ∧ k = (Bm.shortL (l.map Int.toNat)).length ∧ Reads W A (i64s (Bm.shortL (l.map Int.toNat))) ∧ W = w') := Lib.hid (fun W hb => by
    refine (gshort_any A c l W (by omega) hc (reads_on hr hb)).mono ?_
    rintro e w' ⟨k, rfl, hE, rfl⟩
    rw [← hmap] at hE
    obtain ⟨e1, e2, e3⟩ := short_ends _ k hE
    refine ⟨k, rfl, e2, ?_, rfl⟩
    have h5 := reads_take (reads_on hr hb) k
    rw [← hls] at h5
    rw [e1]
    have e6 : i64s ((l.map Int.toNat).take k) = (i64s (l.map Int.toNat)).take k := by simp [i64s]
    rw [e6]
    exact h5)
  generalize hlsn : l.map Int.toNat = ls at *
  generalize hlgn : log.toNat = lg at *
  clear hlsn hlgn hfb hf hmap hlog hok
  subst hl9
  obtain ⟨htk, hNN⟩ := hback_bits ls lg a hfn
  obtain ⟨hn3, hn9⟩ := Bm.hdrA_bits ls lg hfn
  have H6 : Hid (∀ W, Below w.heap.size w W → Calls Try.prog 12 #[.slice A l.length c, .int .i64 (lg : Int)] W fun e w' => ∃ u, e = .returned u ∧ w'.ownsRow W.heap.size 3 1 u (Bm.hdrA ls lg).2 (i64s (Bm.bitsOf (Bm.hdrA ls lg).1 (Bm.hdrA ls lg).2)) ∧ Below W.heap.size W w') := Lib.hid (fun W hb => by
    have h1 := gbits_any A c ls lg W hfn (by rw [hls]; exact reads_on hr hb)
    rw [hlen] at h1
    exact h1)
  have Hlt := Bm.hdrA_lt ls lg hfn
  have hmb := bits_more (a % 2 ^ (a % 9)) (a % 9) (Bm.hdrA ls lg).1 (Bm.hdrA ls lg).2 (Nat.mod_lt _ (Nat.two_pow_pos _)) Hlt
  rw [Bm.bitsOf_mod] at hmb
  have hsl256 : (Bm.shortL ls).length ≤ 1000 := by
    have : ∀ l : List Nat, (Bm.shortL l).length ≤ l.length := fun l => by
      induction l with
      | nil => simp [Bm.shortL]
      | cons n l ih => unfold Bm.shortL; split <;> simp; omega
    have := this ls
    omega
  have H8 : Hid (∀ W A' B' c' d', Reads W A' (i64s (Bm.shortL ls)) → Reads W B' (i64s (Bm.shortL ls)) → Calls Try.prog 19 #[.slice A' (Bm.shortL ls).length c', .slice B' (Bm.shortL ls).length d'] W fun e w' => e = .returned (.bool true) ∧ Below W.heap.size W w') := Lib.hid (fun W A' B' c' d' h1 h2 => by
    have h3 := hsame_any A' B' c' d' ((Bm.shortL ls).map (fun n : Nat => (n : Int))) ((Bm.shortL ls).map (fun n : Nat => (n : Int))) W (by simp; omega) (by simp; omega) (by rw [i64z_nat]; exact h1) (by rw [i64z_nat]; exact h2)
    rw [decide_eq_true rfl, List.length_map] at h3
    exact h3)
  generalize hHn : (Bm.hdrA ls lg).1 = H at *
  generalize hhn : (Bm.hdrA ls lg).2 = hn at *
  obtain ⟨k, hk⟩ : ∃ k, k = a % 9 := ⟨_, rfl⟩
  have hk8 : k ≤ 8 := by omega
  have H1 : Hid (∀ W b, WS W b 0 0 0 → Calls Try.prog 7 #[.pointer (some ⟨b, 0, none⟩), .int .u32 (a : Int), .int .i64 (k : Int)] W fun e w' => e = .returned (.bool true) ∧ WS w' b 0 (a % 2 ^ k) k ∧ W.grownBy w' (some b)) := Lib.hid (fun W b hws => by
    have h1 := put_true b 0 0 0 a k W (by omega) (by omega) (by omega) hws
    exact h1.mono fun e w' ⟨he, hw', hg⟩ => ⟨he, by simpa using hw', hg⟩)
  have hki : (a : Int) % 9 = (k : Int) := by omega
  rw [← hk] at htk hNN hmb
  have H7 : Hid (∀ W, Calls Try.prog 15 #[.int .u32 (a : Int), .int .i64 (k : Int)] W fun e w' => ∃ u, e = .returned u ∧ w'.ownsRow W.heap.size 3 1 u k (i64s (Bm.bitsOf a k)) ∧ Below W.heap.size W w' ∧ (k = 0 → u = .slice none 0 0)) := Lib.hid (fun W => rof_bits a k W (by omega) (by omega))
  generalize hNNd : a % 2 ^ k + H * 2 ^ k = NN at *
  have H3 : Hid (∀ W b, WS W b 0 (a % 2 ^ k) k → Below w.heap.size w W → w.heap.size ≤ b → Calls Try.prog 8 #[.pointer (some ⟨b, 0, none⟩), .slice A l.length c, .int .i64 (lg : Int)] W fun e w' => e = .returned (.bool true) ∧ WS w' b 0 NN (k + hn) ∧ W.grownBy w' (some b)) := Lib.hid (fun W b hws hb hwb => by
    have h1 := H3 W b _ k hk8 hws hb hwb
    rw [hNNd] at h1
    exact h1)
  have H5 : Hid (∀ W b, WS W b 0 NN (k + hn) → Calls Try.prog 10 #[.pointer (some ⟨b, 0, none⟩)] W fun e w' => e = .returned (.int .i64 ((k + hn : Nat) : Int)) ∧ W = w') := Lib.hid (fun W b hws => len_any b 0 _ W hws.len_cell)
  obtain ⟨L, hL⟩ : ∃ L, L = (k + hn + 7) / 8 := ⟨_, rfl⟩
  obtain ⟨bs, hbs⟩ : ∃ bs, bs = Bm.bytesOf NN L := ⟨_, rfl⟩
  have hbl : bs.length = L := by rw [hbs, Bm.bytesOf_length]
  have hb256 : ∀ x ∈ bs, x < 256 := by rw [hbs]; exact Bm.bytesOf_lt _ _
  have H10 : Hid (∀ W b, WS W b 0 NN (k + hn) → Calls Try.prog 13 #[.pointer (some ⟨b, 0, none⟩)] W fun e w' => ∃ g, e = .returned (.slice (some ⟨g, 0, none⟩) L L) ∧ Reads w' (some ⟨g, 0, none⟩) (u8s bs) ∧ Below W.heap.size W w') := Lib.hid (fun W b hws => by
    have h1 := bytes_any b 0 NN (k + hn) W (by omega) hws
    rw [← hL, ← hbs] at h1
    exact h1.mono fun e w' ⟨g, he, _, hrow, hb⟩ => ⟨g, he, row_reads hrow, hb⟩)
  have H11 : Hid (∀ W A' c', Reads W A' (u8s bs) → (convert 36 9 (.slice A' L c')).run Try.prog W = .ok (.string (strOf bs)) W) := Lib.hid (fun W A' c' hrd => by
    have h1 := conv_bytes W A' c' bs hb256 hrd
    rw [hbl] at h1
    exact h1)
  have H12 : Hid (∀ W base u, W.ownsRow base 3 1 u (k + hn) (i64s (Bm.bitsOf NN (k + hn))) → Calls Try.prog 14 #[u] W fun e w' => ∃ A' c', e = .returned (.slice A' L c') ∧ Reads w' A' (u8s bs) ∧ Below W.heap.size W w') := Lib.hid (fun W base u ho => by
    obtain ⟨A', c', rfl, hrd, hA⟩ := own_reads ho
    refine (rbytes_any A' (k + hn) c' NN W (by omega) hNN hrd (fun a e _ => (hA a e).2.1)).mono ?_
    rintro e w' ⟨u2, rfl, ho2, hb2⟩
    rw [← hL, ← hbs] at ho2
    obtain ⟨A2, c2, rfl, hrd2, _⟩ := own_reads ho2
    exact ⟨A2, c2, rfl, hrd2, hb2⟩)
  have H13 : Hid (∀ W g, Reads W (some ⟨g, 0, none⟩) (u8s bs) → Calls Try.prog 16 #[.slice (some ⟨g, 0, none⟩) L L] W fun e w' => e = .returned (.pointer (some ⟨W.heap.size, 0, none⟩)) ∧ RS w' W.heap.size 0 bs 0 ∧ Below W.heap.size W w') := Lib.hid (fun W g hrd => newr_n (some ⟨g, 0, none⟩) L L bs W hbl hb256 hrd)
  have H14 : Hid (∀ W b, RS W b 0 bs 0 → Calls Try.prog 17 #[.pointer (some ⟨b, 0, none⟩), .int .i64 (k : Int)] W fun e w' => (∃ v, e = .returned v) ∧ RS w' b 0 bs k ∧ W.grownBy w' (some b)) := Lib.hid (fun W b hrs => by
    have h1 := take_int b 0 bs 0 (k : Int) W (by omega) hb256 (by omega) (by omega) (by rw [Int.toNat_natCast]; omega) hrs
    rw [Int.toNat_natCast, Nat.zero_add] at h1
    exact h1.mono fun e w' ⟨he, h2, h3⟩ => ⟨⟨_, he⟩, h2, h3⟩)
  rw [← hL, ← hbs] at htk
  have H15 : Hid (∀ W b, RS W b 0 bs k → Calls Try.prog 18 #[.pointer (some ⟨b, 0, none⟩)] W fun e w' => (∃ A c, e = .returned (.tuple #[.slice A (Bm.shortL ls).length c, .int .i64 (lg : Int), .bool true]) ∧ Reads w' A (i64s (Bm.shortL ls))) ∧ W.grownBy w' (some b) ∧ RS w' b 0 bs (k + hn)) := Lib.hid (fun W b hrs => by
    have h1 := hH.take W b 0 k bs (by omega) hb256 (by omega) hrs
    rw [hbl, htk] at h1
    refine h1.mono fun e w' ⟨h2, h3, h4⟩ => ⟨h2, h3, ?_⟩
    have h5 := h4 _ rfl
    rw [show 8 * L - (8 * L - (k + hn)) = k + hn by omega] at h5
    exact h5)
  have H16 : Hid (∀ W b, RS W b 0 bs (k + hn) → Calls Try.prog 21 #[.pointer (some ⟨b, 0, none⟩)] W fun e w' => e = .returned (.int .i64 (8 * (L : Int) - ((k + hn : Nat) : Int))) ∧ ∃ q, w' = W.drewN q) := Lib.hid (fun W b hrs => by
    have h1 := left_any b 0 bs (k + hn) W (by omega) (by omega) hrs
    rw [hbl, show ((8 * L - (k + hn) : Nat) : Int) = 8 * (L : Int) - ((k + hn : Nat) : Int) by omega] at h1
    exact h1)
  have Hmb := Lib.hid hmb
  have Hki := Lib.hid hki
  have hLb : L ≤ 400 := by omega
  have HL := Lib.hid hL
  have Hki2 := hki
  clear hH hr hfn hls hlen htk hNN Hlt hmb hki hk hHn hhn hNNd hbs hbl hb256 hL
  generalize Bm.shortL ls = sh at *
  generalize l.length = ln at *
  clear ls
  go_enter Try.func3, Try.ntmps3
  go_wp2_with fail
  refine (Haw.out w).mono ?_
  rintro e w1 ⟨rfl, hb1⟩
  obtain ⟨w2, b, hw2, hbe, hws2, hb2, hbl⟩ := new_writer w1
  have Hb2 := Lib.hid (hb1.trans (hb2.mono hb1.size))
  have Hbw := Lib.hid (show w.heap.size ≤ b by rw [hbe]; exact hb1.size)
  have Hws2 := Lib.hid hws2
  have Hw2 := Lib.hid hw2
  have Hbe := Lib.hid hbe
  clear hb1 hb2 hws2 hw2 hbe hbl
  go_upto_region 7 with fail
  rw [← Hw2.out, ← Hbe.out]
  go_wp2_with fail
  clear Hki2
  refine (H1.out w2 b Hws2.out).mono ?_
  rintro e w3 ⟨rfl, hws3, hg3⟩
  have Hb3 : Hid (Below w.heap.size w w3) := Lib.hid (Hb2.out.grown hg3 Hb2.out.size (fun k e => by injection e with e; rw [← e]; exact Hbw.out))
  have Hws3 := Lib.hid hws3
  clear hws3 hg3 Hb2 Hws2
  go_wp2_with fail
  refine (H3.out w3 b Hws3.out Hb3.out Hbw.out).mono ?_
  rintro e w4 ⟨rfl, hws4, hg4⟩
  have Hb4 : Hid (Below w.heap.size w w4) := Lib.hid (Hb3.out.grown hg4 Hb3.out.size (fun k e => by injection e with e; rw [← e]; exact Hbw.out))
  have Hws4 := Lib.hid hws4
  clear hws4 hg4 Hb3 Hws3
  go_wp2_with fail
  refine (H2.out w4 Hb4.out).mono ?_
  rintro e w' ⟨rfl, rfl⟩
  go_wp2_with fail
  refine (H6.out w4 Hb4.out).mono ?_
  rintro e w5 ⟨u5, rfl, ho5, hb5⟩
  have Hb5 := Lib.hid (Hb4.out.trans (hb5.mono Hb4.out.size))
  have Hws5 := Lib.hid (Hws4.out.below hb5)
  obtain ⟨g5, cap5, rfl, _, _⟩ := own_form ho5 (by omega)
  have Hrd5 := Lib.hid (own_place ho5).2.2.2.2
  have hg5 := Lib.hid (own_place ho5).2.1
  clear hb5 ho5 Hb4 Hws4
  have Hlen5 : Hid (∀ W, Below w5.heap.size w5 W → Calls Try.prog 10 #[.pointer (some ⟨b, 0, none⟩)] W fun e w' => e = .returned (.int .i64 ((k + hn : Nat) : Int)) ∧ W = w') := Lib.hid (fun W hb => H5.out W b (Hws5.out.below hb))
  have Hsz5 : Hid (∀ W, Below w5.heap.size w5 W → Calls Try.prog 11 #[.slice A ln c, .int .i64 (lg : Int)] W fun e w' => e = .returned (.int .i64 (hn : Int)) ∧ Below W.heap.size W w') := Lib.hid (fun W hb => H4.out W (Hb5.out.trans (hb.mono Hb5.out.size)))
  have Hby5 : Hid (∀ W, Below w5.heap.size w5 W → Calls Try.prog 13 #[.pointer (some ⟨b, 0, none⟩)] W fun e w' => ∃ g, e = .returned (.slice (some ⟨g, 0, none⟩) L L) ∧ Reads w' (some ⟨g, 0, none⟩) (u8s bs) ∧ Below W.heap.size W w') := Lib.hid (fun W hb => H10.out W b (Hws5.out.below hb))
  have hsm : ((k + hn : Nat) : Int) = (k : Int) + (hn : Int) := by omega
  have Hsm := Lib.hid hsm
  have hcu : IntKind.u32.wrap (a : Int) = (a : Int) := by simp [IntKind.wrap, IntKind.bits, IntKind.signed]; omega
  have hcu8 : IntKind.i64.wrap ((k : Int) + (hn : Int)) = (k : Int) + (hn : Int) := IntWalk.i64_in _ (by omega)
  rw [hsm] at Hlen5
  clear hsm
  go_wp2_with fail
  refine wp_region_held_drew (S := (fun W => Below w5.heap.size w5 W)) (by kernel_rfl) (by exact (Below.refl w5.heap.size w5).drew) (fun hHeld => ?_)
  refine wpAnyH_take (i := 1) (oi := { dst := some 50, op := Go.Op.move (Go.Operand.tmp 8), type := 3, pos := "law.go:52", after := #[], guard := none }) (v := ?_) rfl (by kernel_rfl) (by kernel_rfl) (by kernel_rfl) (fun _ _ _ h => h) (Or.inl ⟨by rfl, ?_⟩) (by assumption) ?_
  rotate_left
  · (intro w hSw; (try dsimp only at hSw); go_simp; (try with_reducible rfl))
  try simp only [Act.put, List.setIfInBounds_toArray, List.set_cons_zero, List.set_cons_succ]
  refine wpAnyH_take (i := 2) (oi := { dst := some 51, op := Go.Op.move (Go.Operand.tmp 10), type := 22, pos := "law.go:52", after := #[], guard := none }) (v := ?_) rfl (by kernel_rfl) (by kernel_rfl) (by kernel_rfl) (fun _ _ _ h => h) (Or.inl ⟨by rfl, ?_⟩) (by assumption) ?_
  rotate_left
  · (intro w hSw; (try dsimp only at hSw); go_simp; (try with_reducible rfl))
  try simp only [Act.put, List.setIfInBounds_toArray, List.set_cons_zero, List.set_cons_succ]
  refine wpAnyH_take (i := 3) (oi := { dst := some 52, op := Go.Op.call { callee := Go.Callee.builtin Go.Builtin.len, args := #[Go.Operand.tmp 51], argTypes := #[22] }, type := 3, pos := "law.go:52", after := #[{ on := 2, ground := Go.Ground.data }], guard := none }) (v := ?_) rfl (by kernel_rfl) (by kernel_rfl) (by kernel_rfl) (fun _ _ _ h => h) (Or.inl ⟨by rfl, ?_⟩) (by assumption) ?_
  rotate_left
  · (intro w hSw; (try dsimp only at hSw); go_simp; (try with_reducible rfl))
  try simp only [Act.put, List.setIfInBounds_toArray, List.set_cons_zero, List.set_cons_succ]
  refine wpAnyH_take (i := 4) (oi := { dst := some 53, op := Go.Op.binOp Go.BinOp.add 3 (Go.Operand.tmp 50) (Go.Operand.tmp 52) 3, type := 3, pos := "law.go:52", after := #[{ on := 1, ground := Go.Ground.data }, { on := 3, ground := Go.Ground.data }], guard := none }) (v := ?_) rfl (by kernel_rfl) (by kernel_rfl) (by kernel_rfl) (fun _ _ _ h => h) (Or.inl ⟨by rfl, ?_⟩) (by assumption) ?_
  rotate_left
  · (intro w hSw; (try dsimp only at hSw); go_simp; (try with_reducible rfl))
  try simp only [Act.put, List.setIfInBounds_toArray, List.set_cons_zero, List.set_cons_succ]
  refine wpAnyH_ready (rs := [0]) (by kernel_rfl) (by simp) ?_
  refine AllReadyH.cons (o := { dst := some 49, op := Go.Op.call { callee := Go.Callee.value (Go.Operand.func 10), args := #[Go.Operand.tmp 7], argTypes := #[27] }, type := 3, pos := "law.go:52", after := #[], guard := none }) rfl (fun K hK => ?_) AllReadyH.nil
  go_simp
  (go_at_call 10; refine (Hlen5.out _ hHeld).mono ?_; rintro e w' ⟨rfl, rfl⟩)
  go_simp
  refine hK.out _ _ (by exact hHeld) (fun hHeld => ?_)
  clear hK K
  try simp only [Act.put, List.setIfInBounds_toArray, List.set_cons_zero, List.set_cons_succ]
  refine wpAnyH_take (i := 5) (oi := { dst := some 54, op := Go.Op.binOp Go.BinOp.neq 3 (Go.Operand.tmp 49) (Go.Operand.tmp 53) 3, type := 4, pos := "law.go:52", after := #[{ on := 0, ground := Go.Ground.data }, { on := 4, ground := Go.Ground.data }], guard := none }) (v := ?_) rfl (by kernel_rfl) (by kernel_rfl) (by kernel_rfl) (fun _ _ _ h => h) (Or.inl ⟨by rfl, ?_⟩) (by assumption) ?_
  rotate_left
  · (intro w hSw; (try dsimp only at hSw); go_simp; (try with_reducible rfl))
  try simp only [Act.put, List.setIfInBounds_toArray, List.set_cons_zero, List.set_cons_succ]
  refine wpAnyH_take (i := 6) (oi := { dst := some 55, op := Go.Op.move (Go.Operand.tmp 54), type := 4, pos := "law.go:52", after := #[{ on := 5, ground := Go.Ground.data }, { on := 0, ground := Go.Ground.chain }], guard := none }) (v := ?_) rfl (by kernel_rfl) (by kernel_rfl) (by kernel_rfl) (fun _ _ _ h => h) (Or.inl ⟨by rfl, ?_⟩) (by assumption) ?_
  rotate_left
  · (intro w hSw; (try dsimp only at hSw); go_simp; (try with_reducible rfl))
  try simp only [Act.put, List.setIfInBounds_toArray, List.set_cons_zero, List.set_cons_succ]
  refine wpAnyH_take (i := 7) (oi := { dst := some 56, op := Go.Op.move (Go.Operand.tmp 0), type := 22, pos := "law.go:52", after := #[{ on := 6, ground := Go.Ground.guard }], guard := some (6, false) }) (v := ?_) rfl (by kernel_rfl) (by kernel_rfl) (by kernel_rfl) (fun _ _ _ h => h) (Or.inl ⟨by rfl, ?_⟩) (by assumption) ?_
  rotate_left
  · (intro w hSw; (try dsimp only at hSw); go_simp; (try with_reducible rfl))
  try simp only [Act.put, List.setIfInBounds_toArray, List.set_cons_zero, List.set_cons_succ]
  refine wpAnyH_take (i := 8) (oi := { dst := some 57, op := Go.Op.move (Go.Operand.tmp 1), type := 3, pos := "law.go:52", after := #[{ on := 6, ground := Go.Ground.guard }], guard := some (6, false) }) (v := ?_) rfl (by kernel_rfl) (by kernel_rfl) (by kernel_rfl) (fun _ _ _ h => h) (Or.inl ⟨by rfl, ?_⟩) (by assumption) ?_
  rotate_left
  · (intro w hSw; (try dsimp only at hSw); go_simp; (try with_reducible rfl))
  try simp only [Act.put, List.setIfInBounds_toArray, List.set_cons_zero, List.set_cons_succ]
  refine wpAnyH_take (i := 10) (oi := { dst := some 59, op := Go.Op.move (Go.Operand.tmp 10), type := 22, pos := "law.go:52", after := #[{ on := 6, ground := Go.Ground.guard }], guard := some (6, false) }) (v := ?_) rfl (by kernel_rfl) (by kernel_rfl) (by kernel_rfl) (fun _ _ _ h => h) (Or.inl ⟨by rfl, ?_⟩) (by assumption) ?_
  rotate_left
  · (intro w hSw; (try dsimp only at hSw); go_simp; (try with_reducible rfl))
  try simp only [Act.put, List.setIfInBounds_toArray, List.set_cons_zero, List.set_cons_succ]
  refine wpAnyH_take (i := 11) (oi := { dst := some 60, op := Go.Op.call { callee := Go.Callee.builtin Go.Builtin.len, args := #[Go.Operand.tmp 59], argTypes := #[22] }, type := 3, pos := "law.go:52", after := #[{ on := 10, ground := Go.Ground.data }, { on := 6, ground := Go.Ground.guard }], guard := some (6, false) }) (v := ?_) rfl (by kernel_rfl) (by kernel_rfl) (by kernel_rfl) (fun _ _ _ h => h) (Or.inl ⟨by rfl, ?_⟩) (by assumption) ?_
  rotate_left
  · (intro w hSw; (try dsimp only at hSw); go_simp; (try with_reducible rfl))
  try simp only [Act.put, List.setIfInBounds_toArray, List.set_cons_zero, List.set_cons_succ]
  refine wpAnyH_ready (rs := [9]) (by kernel_rfl) (by simp) ?_
  refine AllReadyH.cons (o := { dst := some 58, op := Go.Op.call { callee := Go.Callee.value (Go.Operand.func 11), args := #[Go.Operand.tmp 56, Go.Operand.tmp 57], argTypes := #[22, 3] }, type := 3, pos := "law.go:52", after := #[{ on := 7, ground := Go.Ground.data }, { on := 8, ground := Go.Ground.data }, { on := 6, ground := Go.Ground.chain }, { on := 6, ground := Go.Ground.guard }], guard := some (6, false) }) rfl (fun K hK => ?_) AllReadyH.nil
  go_simp
  (go_at_call 11; refine (Hsz5.out _ hHeld).mono ?_; rintro e wA ⟨rfl, hbA⟩; have HwA := Lib.hid (Below.trans (B := w5.heap.size) hHeld (hbA.mono (Below.size hHeld))); clear hbA)
  go_simp
  refine hK.out _ _ (by exact HwA.out) (fun hHeld => ?_)
  clear hK K
  try simp only [Act.put, List.setIfInBounds_toArray, List.set_cons_zero, List.set_cons_succ]
  refine wpAnyH_take (i := 12) (oi := { dst := some 61, op := Go.Op.binOp Go.BinOp.neq 3 (Go.Operand.tmp 58) (Go.Operand.tmp 60) 3, type := 4, pos := "law.go:52", after := #[{ on := 9, ground := Go.Ground.data }, { on := 11, ground := Go.Ground.data }, { on := 6, ground := Go.Ground.guard }], guard := some (6, false) }) (v := ?_) rfl (by kernel_rfl) (by kernel_rfl) (by kernel_rfl) (fun _ _ _ h => h) (Or.inl ⟨by rfl, ?_⟩) (by assumption) ?_
  rotate_left
  · (intro w hSw; (try dsimp only at hSw); go_simp; (try with_reducible rfl))
  try simp only [Act.put, List.setIfInBounds_toArray, List.set_cons_zero, List.set_cons_succ]
  refine wpAnyH_take (i := 13) (oi := { dst := some 62, op := Go.Op.pick (Go.Operand.tmp 55) (Go.Operand.const (Go.Value.bool true)) (Go.Operand.tmp 61), type := 4, pos := "law.go:52", after := #[{ on := 6, ground := Go.Ground.data }, { on := 12, ground := Go.Ground.data }], guard := none }) (v := ?_) rfl (by kernel_rfl) (by kernel_rfl) (by kernel_rfl) (fun _ _ _ h => h) (Or.inl ⟨by rfl, ?_⟩) (by assumption) ?_
  rotate_left
  · (intro w hSw; (try dsimp only at hSw); go_simp; (try with_reducible rfl))
  try simp only [Act.put, List.setIfInBounds_toArray, List.set_cons_zero, List.set_cons_succ]
  refine wpAnyH_take (i := 14) (oi := { dst := some 63, op := Go.Op.move (Go.Operand.tmp 62), type := 4, pos := "law.go:52", after := #[{ on := 13, ground := Go.Ground.data }, { on := 9, ground := Go.Ground.chain }], guard := none }) (v := ?_) rfl (by kernel_rfl) (by kernel_rfl) (by kernel_rfl) (fun _ _ _ h => h) (Or.inl ⟨by rfl, ?_⟩) (by assumption) ?_
  rotate_left
  · (intro w hSw; (try dsimp only at hSw); go_simp; (try with_reducible rfl))
  try simp only [Act.put, List.setIfInBounds_toArray, List.set_cons_zero, List.set_cons_succ]
  refine wpAnyH_take (i := 17) (oi := { dst := some 66, op := Go.Op.move (Go.Operand.tmp 2), type := 5, pos := "law.go:52", after := #[{ on := 14, ground := Go.Ground.guard }], guard := some (14, false) }) (v := ?_) rfl (by kernel_rfl) (by kernel_rfl) (by kernel_rfl) (fun _ _ _ h => h) (Or.inl ⟨by rfl, ?_⟩) (by assumption) ?_
  rotate_left
  · (intro w hSw; (try dsimp only at hSw); go_simp; (try with_reducible rfl))
  try simp only [Act.put, List.setIfInBounds_toArray, List.set_cons_zero, List.set_cons_succ]
  refine wpAnyH_take (i := 18) (oi := { dst := some 67, op := Go.Op.convert 5 29 (Go.Operand.tmp 66), type := 29, pos := "law.go:52", after := #[{ on := 17, ground := Go.Ground.data }, { on := 14, ground := Go.Ground.guard }], guard := some (14, false) }) (v := ?_) rfl (by kernel_rfl) (by kernel_rfl) (by kernel_rfl) (fun _ _ _ h => h) (Or.inl ⟨by rfl, ?_⟩) (by assumption) ?_
  rotate_left
  · (intro w hSw; (try dsimp only at hSw); go_simp; (try with_reducible rfl))
  try simp only [Act.put, List.setIfInBounds_toArray, List.set_cons_zero, List.set_cons_succ]
  refine wpAnyH_take (i := 19) (oi := { dst := some 68, op := Go.Op.move (Go.Operand.tmp 8), type := 3, pos := "law.go:52", after := #[{ on := 14, ground := Go.Ground.guard }], guard := some (14, false) }) (v := ?_) rfl (by kernel_rfl) (by kernel_rfl) (by kernel_rfl) (fun _ _ _ h => h) (Or.inl ⟨by rfl, ?_⟩) (by assumption) ?_
  rotate_left
  · (intro w hSw; (try dsimp only at hSw); go_simp; (try with_reducible rfl))
  try simp only [Act.put, List.setIfInBounds_toArray, List.set_cons_zero, List.set_cons_succ]
  refine wpAnyH_take (i := 21) (oi := { dst := some 70, op := Go.Op.move (Go.Operand.tmp 10), type := 22, pos := "law.go:52", after := #[{ on := 14, ground := Go.Ground.guard }], guard := some (14, false) }) (v := ?_) rfl (by kernel_rfl) (by kernel_rfl) (by kernel_rfl) (fun _ _ _ h => h) (Or.inl ⟨by rfl, ?_⟩) (by assumption) ?_
  rotate_left
  · (intro w hSw; (try dsimp only at hSw); go_simp; (try with_reducible rfl))
  try simp only [Act.put, List.setIfInBounds_toArray, List.set_cons_zero, List.set_cons_succ]
  refine wpAnyH_ready (rs := [15]) (by kernel_rfl) (by simp) ?_
  refine AllReadyH.cons (o := { dst := some 64, op := Go.Op.call { callee := Go.Callee.value (Go.Operand.func 13), args := #[Go.Operand.tmp 7], argTypes := #[27] }, type := 36, pos := "law.go:52", after := #[{ on := 14, ground := Go.Ground.chain }, { on := 14, ground := Go.Ground.guard }], guard := some (14, false) }) rfl (fun K hK => ?_) AllReadyH.nil
  go_simp
  (go_at_call 13; refine (Hby5.out _ HwA.out).mono ?_; rintro e wB ⟨gB, rfl, hrB, hbB⟩; have hcB := H11.out wB (some ⟨gB, 0, none⟩) L hrB; have HrB := Lib.hid hrB; have HwB := Lib.hid (HwA.out.trans (hbB.mono HwA.out.size)); clear hbB hrB)
  go_simp
  refine hK.out _ _ (by exact HwB.out) (fun hHeld => ?_)
  clear hK K
  try simp only [Act.put, List.setIfInBounds_toArray, List.set_cons_zero, List.set_cons_succ]
  refine wpAnyH_turn (S' := (fun W => Below wB.heap.size wB W)) (by exact fun W hb => HwB.out.trans (hb.mono HwB.out.size)) _ _ _ _ ?_
  have hHeld : (fun W => Below wB.heap.size wB W) wB := by exact Below.refl _ _
  have hcB : ∀ W, Below wB.heap.size wB W → (convert 36 9 (.slice (some ⟨gB, 0, none⟩) L L)).run Try.prog W = .ok (.string (strOf bs)) W := fun W hb => H11.out W _ L (reads_on HrB.out hb)
  refine wpAnyH_take (i := 16) (oi := { dst := some 65, op := Go.Op.convert 36 9 (Go.Operand.tmp 64), type := 9, pos := "law.go:52", after := #[{ on := 15, ground := Go.Ground.data }, { on := 14, ground := Go.Ground.guard }], guard := some (14, false) }) (v := ?_) rfl (by kernel_rfl) (by kernel_rfl) (by kernel_rfl) (fun _ _ _ h => h) (Or.inl ⟨by rfl, ?_⟩) (by assumption) ?_
  rotate_left
  · (intro w hSw; (try dsimp only at hSw); go_simp; (try with_reducible rfl))
  try simp only [Act.put, List.setIfInBounds_toArray, List.set_cons_zero, List.set_cons_succ]
  clear hcB
  refine wpAnyH_ready (rs := [20]) (by kernel_rfl) (by simp) ?_
  refine AllReadyH.cons (o := { dst := some 69, op := Go.Op.call { callee := Go.Callee.value (Go.Operand.func 15), args := #[Go.Operand.tmp 67, Go.Operand.tmp 68], argTypes := #[29, 3] }, type := 22, pos := "law.go:52", after := #[{ on := 18, ground := Go.Ground.data }, { on := 19, ground := Go.Ground.data }, { on := 15, ground := Go.Ground.chain }, { on := 14, ground := Go.Ground.guard }], guard := some (14, false) }) rfl (fun K hK => ?_) AllReadyH.nil
  go_simp
  (go_at_call 15; refine (H7.out _).mono ?_; rintro e wC ⟨uC, rfl, hoC, hbC, _⟩; have HoC := Lib.hid hoC; have HwC := Lib.hid hbC; clear hbC hoC)
  go_simp
  refine hK.out _ _ (by exact HwC.out) (fun hHeld => ?_)
  clear hK K
  try simp only [Act.put, List.setIfInBounds_toArray, List.set_cons_zero, List.set_cons_succ]
  refine wpAnyH_ready (rs := [22]) (by kernel_rfl) (by simp) ?_
  refine AllReadyH.cons (o := { dst := some 71, op := Go.Op.call { callee := Go.Callee.builtin Go.Builtin.append, args := #[Go.Operand.tmp 69, Go.Operand.tmp 70], argTypes := #[22, 22] }, type := 22, pos := "law.go:52", after := #[{ on := 20, ground := Go.Ground.data }, { on := 21, ground := Go.Ground.data }, { on := 20, ground := Go.Ground.chain }, { on := 14, ground := Go.Ground.guard }], guard := some (14, false) }) rfl (fun K hK => ?_) AllReadyH.nil
  ((rw [if_pos (by rfl)]); refine wp_append_lies wC _ _ _ (by rfl) wB.heap.size 3 i0 (.int .i64 0) 1 8 Try.underlying22 hi hz0 hz1 hz2 rfl (by omega) uC k (i64s (Bm.bitsOf a k)) (by rfl) HoC.out ⟨g5, 0, none⟩ hn cap5 (i64s (Bm.bitsOf H hn)) (by rfl) (by rw [i64s_length, Bm.bitsOf_length, Nat.mul_one]) (reads_news (reads_on (reads_on Hrd5.out HwB.out) HwC.out)) (by intro u hu; simp [i64s] at hu; obtain ⟨a, _, rfl⟩ := hu; rfl) (by omega) (by unfold maxLen; omega) (by omega) HwC.out.size wC.heap.size rfl ?_; intro gD capD wD hoD hgD _ _; rw [Hmb.out] at hoD; have HoD := Lib.hid hoD; have HwD := Lib.hid (HwC.out.grown hgD HwC.out.size (fun q e => (HoC.out.lt q e).1)); clear hoD hgD)
  refine hK.out _ _ (by exact HwD.out) (fun hHeld => ?_)
  clear hK K
  try simp only [Act.put, List.setIfInBounds_toArray, List.set_cons_zero, List.set_cons_succ]
  refine wpAnyH_ready (rs := [23]) (by kernel_rfl) (by simp) ?_
  refine AllReadyH.cons (o := { dst := some 72, op := Go.Op.call { callee := Go.Callee.value (Go.Operand.func 14), args := #[Go.Operand.tmp 71], argTypes := #[22] }, type := 36, pos := "law.go:52", after := #[{ on := 22, ground := Go.Ground.data }, { on := 22, ground := Go.Ground.chain }, { on := 14, ground := Go.Ground.guard }], guard := some (14, false) }) rfl (fun K hK => ?_) AllReadyH.nil
  go_simp
  (go_at_call 14; refine (H12.out _ _ _ HoD.out).mono ?_; rintro e wE ⟨AE, cE, rfl, hrE, hbE⟩; have hcE := H11.out wE AE cE hrE; have HwE := Lib.hid (HwD.out.trans (hbE.mono HwD.out.size)); clear hbE hrE)
  go_simp
  refine hK.out _ _ (by exact HwE.out) (fun hHeld => ?_)
  clear hK K
  try simp only [Act.put, List.setIfInBounds_toArray, List.set_cons_zero, List.set_cons_succ]
  refine wpAnyH_ready (rs := [24]) (by kernel_rfl) (by simp) ?_
  refine AllReadyH.cons (o := { dst := some 73, op := Go.Op.convert 36 9 (Go.Operand.tmp 72), type := 9, pos := "law.go:52", after := #[{ on := 23, ground := Go.Ground.data }, { on := 14, ground := Go.Ground.guard }], guard := some (14, false) }) rfl (fun K hK => ?_) AllReadyH.nil
  go_simp
  refine hK.out _ _ (by exact HwE.out) (fun hHeld => ?_)
  clear hK K
  try simp only [Act.put, List.setIfInBounds_toArray, List.set_cons_zero, List.set_cons_succ]
  refine wpAnyH_take (i := 25) (oi := { dst := some 74, op := Go.Op.binOp Go.BinOp.neq 9 (Go.Operand.tmp 65) (Go.Operand.tmp 73) 9, type := 4, pos := "law.go:52", after := #[{ on := 16, ground := Go.Ground.data }, { on := 24, ground := Go.Ground.data }, { on := 14, ground := Go.Ground.guard }], guard := some (14, false) }) (v := ?_) rfl (by kernel_rfl) (by kernel_rfl) (by kernel_rfl) (fun _ _ _ h => h) (Or.inl ⟨by rfl, ?_⟩) (by assumption) ?_
  rotate_left
  · (intro w hSw; (try dsimp only at hSw); go_simp; (try with_reducible rfl))
  try simp only [Act.put, List.setIfInBounds_toArray, List.set_cons_zero, List.set_cons_succ]
  refine wpAnyH_take (i := 26) (oi := { dst := some 75, op := Go.Op.pick (Go.Operand.tmp 63) (Go.Operand.const (Go.Value.bool true)) (Go.Operand.tmp 74), type := 4, pos := "law.go:52", after := #[{ on := 14, ground := Go.Ground.data }, { on := 25, ground := Go.Ground.data }], guard := none }) (v := ?_) rfl (by kernel_rfl) (by kernel_rfl) (by kernel_rfl) (fun _ _ _ h => h) (Or.inl ⟨by rfl, ?_⟩) (by assumption) ?_
  rotate_left
  · (intro w hSw; (try dsimp only at hSw); go_simp; (try with_reducible rfl))
  try simp only [Act.put, List.setIfInBounds_toArray, List.set_cons_zero, List.set_cons_succ]
  refine wpAnyH_done (by kernel_rfl) ?_ _
  have Hb6 := Lib.hid (Hb5.out.trans ((HwB.out.trans (HwE.out.mono HwB.out.size)).mono Hb5.out.size))
  have Hws6 := Lib.hid (Hws5.out.below (HwB.out.trans (HwE.out.mono HwB.out.size)))
  clear hcE HwE HoD HwD HoC HwC HrB HwB HwA Hlen5 Hsz5 Hby5 Hb5 Hws5 Hrd5 hcu hcu8 hg5
  go_wp2_with fail
  refine (H10.out wE b Hws6.out).mono ?_
  rintro e w7 ⟨g7, rfl, hr7, hb7⟩
  have Hb7 := Lib.hid (Hb6.out.trans (hb7.mono Hb6.out.size))
  have Hws7 := Lib.hid (Hws6.out.below hb7)
  have Hr7 := Lib.hid hr7
  clear hb7 hr7 Hb6 Hws6
  go_wp2_with fail
  refine (H13.out w7 g7 Hr7.out).mono ?_
  rintro e w8 ⟨rfl, hrs8, hb8⟩
  have Hb8 := Lib.hid (Hb7.out.trans (hb8.mono Hb7.out.size))
  have Hws8 := Lib.hid (Hws7.out.below hb8)
  have Hrs8 := Lib.hid hrs8
  have Hsz := Lib.hid Hb7.out.size
  clear hb8 hrs8 Hb7 Hws7 Hr7
  generalize w7.heap.size = br at *
  go_wp2_with fail
  refine (H14.out w8 br Hrs8.out).mono ?_
  rintro e w9 ⟨⟨v9, rfl⟩, hrs9, hg9⟩
  have Hb9 : Hid (Below w.heap.size w w9) := Lib.hid (Hb8.out.grown hg9 Hb8.out.size (fun k e => by injection e with e; rw [← e]; exact Hsz.out))
  have Hws9 := Lib.hid (Hws8.out.keepR Hrs8.out hg9)
  have Hrs9 := Lib.hid hrs9
  clear hg9 hrs9 Hb8 Hws8 Hrs8
  go_wp2_with fail
  refine (H15.out w9 br Hrs9.out).mono ?_
  rintro e w10 ⟨⟨A10, c10, rfl, hr10⟩, hg10, hrs10⟩
  have Hb10 : Hid (Below w.heap.size w w10) := Lib.hid (Hb9.out.grown hg10 Hb9.out.size (fun k e => by injection e with e; rw [← e]; exact Hsz.out))
  have Hws10 := Lib.hid (Hws9.out.keepR Hrs9.out hg10)
  have Hrs10 := Lib.hid hrs10
  have Hr10 := Lib.hid hr10
  clear hg10 hrs10 hr10 Hb9 Hws9 Hrs9
  go_wp2_with fail
  refine (H9.out w10 Hb10.out).mono ?_
  rintro e w' ⟨q, rfl, hq, hrs, rfl⟩
  rw [hq]
  have Hrsh := Lib.hid hrs
  clear hq hrs
  go_wp2_with fail
  refine (H8.out w10 A10 A c10 c Hr10.out Hrsh.out).mono ?_
  rintro e w11 ⟨rfl, hb11⟩
  have Hb11 := Lib.hid (Hb10.out.trans (hb11.mono Hb10.out.size))
  have Hws11 := Lib.hid (Hws10.out.below hb11)
  have Hrs11 := Lib.hid (Hrs10.out.below hb11)
  clear hb11 Hb10 Hws10 Hrs10 Hr10 Hrsh
  go_wp2_with fail
  refine (H16.out w11 br Hrs11.out).mono ?_
  rintro e w12 ⟨rfl, q12, rfl⟩
  have Hb12 := Lib.hid (below_drewN Hb11.out q12)
  have Hws12 := Lib.hid (Hws11.out.drewN q12)
  clear Hb11 Hws11 Hrs11
  go_wp2_with fail
  refine (H10.out _ b Hws12.out).mono ?_
  rintro e w13 ⟨g13, rfl, hr13, hb13⟩
  have Hb13 := Lib.hid (Hb12.out.trans (hb13.mono Hb12.out.size))
  have Hws13 := Lib.hid (Hws12.out.below hb13)
  clear hb13 hr13 Hb12 Hws12
  go_wp2_with fail
  refine (H5.out w13 b Hws13.out).mono ?_
  rintro e w' ⟨rfl, rfl⟩
  go_wp2
  go_ret
  exact ⟨congrArg (fun x => Ending.returned (Value.bool x)) (by simp), Hb13.out⟩
end Go.Proofs.Ytefcahmhfjblpaa
