/-
  The reference of layer 8 (header), by its walk: Bits. Conditions: as each theorem's premises say.
-/
import Derived.Test.YtefcahmhfjblpaaHh
import Derived.Test.YtefcahmhfjblpaaRw
import Derived.Test.YtefcahmhfjblpaaFa
import Derived.Deep.RegionHeld3
import Derived.Deep.AppendLies
namespace Go.Proofs.Ytefcahmhfjblpaa
open Go.RowKit
namespace Bm
theorem sum_take_leN (l : List Nat) (k : Nat) : (l.take k).sum ≤ l.sum := by
  conv => rhs; rw [← List.take_append_drop k l]
  rw [List.sum_append_nat]; omega
theorem sum_take_s (l : List Nat) (k : Nat) (h : k < l.length) : (l.take (k + 1)).sum = (l.take k).sum + l[k] := by
  rw [List.take_succ_eq_append_getElem h, List.sum_append_nat, List.sum_singleton]
/-- The bits so far, and those of the numbers behind. -/
theorem hdr_split (l : List Nat) (k rest N n : Nat) (hk : k < l.length) (h0 : 0 < rest) :
    N + (hdrN (l.drop k) rest).1 * 2 ^ n = (N + l[k] * 2 ^ n) + (hdrN (l.drop (k + 1)) (rest - l[k])).1 * 2 ^ (n + wid rest) ∧ n + (hdrN (l.drop k) rest).2 = (n + wid rest) + (hdrN (l.drop (k + 1)) (rest - l[k])).2 := by
  rw [List.drop_eq_getElem_cons hk]
  have e : hdrN (l[k] :: l.drop (k + 1)) rest = (l[k] + (hdrN (l.drop (k + 1)) (rest - l[k])).1 * 2 ^ wid rest, wid rest + (hdrN (l.drop (k + 1)) (rest - l[k])).2) := by
    rw [hdrN, if_neg (by omega)]
  rw [e]
  constructor
  · dsimp only
    rw [Nat.add_mul, Nat.pow_add, Nat.mul_assoc, Nat.mul_comm (2 ^ wid rest), Nat.add_assoc]
  · dsimp only
    omega
theorem hdr_zero (l : List Nat) : hdrN l 0 = (0, 0) := by cases l <;> simp [hdrN]
end Bm

set_option maxHeartbeats 2000000 in
set_option maxRecDepth 100000 in
theorem gbits_any (A : Option Addr) (c : Nat) (ls : List Nat) (lg : Nat) (w : World) (h : Bm.FairN ls lg) (hr : Reads w A (i64s ls)) :
    Calls Try.prog 12 #[.slice A ls.length c, .int .i64 (lg : Int)] w fun e w' => ∃ u, e = .returned u ∧ w'.ownsRow w.heap.size 3 1 u (Bm.hdrA ls lg).2 (i64s (Bm.bitsOf (Bm.hdrA ls lg).1 (Bm.hdrA ls lg).2)) ∧ Below w.heap.size w w' := by
  obtain ⟨i0, hi, hz0, hz1, hz2⟩ := info_parts info_io
  have h5 := h.low
  have h9 := h.high
  have hlen := h.len
  have hP : 2 ^ lg ≤ 512 := Nat.pow_le_pow_right (n := 2) (j := 9) (by omega) h9
  have Hr := Lib.hid hr
  obtain ⟨N1, n1, hN1⟩ : ∃ N n, (N, n) = Bm.hdrA ls lg := ⟨_, _, rfl⟩
  have HN := Lib.hid hN1
  rw [← hN1]
  have hsum := h.sum
  obtain ⟨P, hPe⟩ : ∃ P, P = 2 ^ lg := ⟨_, rfl⟩
  have Hsz : Hid (∀ w, Calls Try.prog 27 #[.int .i64 (lg : Int)] w fun e w' => e = .returned (.int .i64 (P : Int)) ∧ w = w') := Lib.hid (fun w => by
    have h1 := hsize_any (lg : Int) w (by omega)
    rw [Int.toNat_natCast, ← hPe] at h1
    exact h1)
  have Hrof : Hid (∀ W, Calls Try.prog 15 #[.int .u32 ((lg - 5 : Nat) : Int), .int .i64 3] W fun e w' => ∃ u, e = .returned u ∧ w'.ownsRow W.heap.size 3 1 u 3 (i64s (Bm.bitsOf (lg - 5) 3)) ∧ Below W.heap.size W w' ∧ (3 = 0 → u = .slice none 0 0)) := Lib.hid (fun W => rof_bits (lg - 5) 3 W (by omega) (by omega))
  have hlg : (lg : Int) - 5 = ((lg - 5 : Nat) : Int) := by omega
  have HPe := Lib.hid hPe
  rw [← hPe] at hsum hP
  have Hsum := Lib.hid hsum
  have hd0 : (Bm.hdrA ls lg).1 = lg - 5 + (Bm.hdrN (ls.drop 0) P).1 * 2 ^ 3 ∧ (Bm.hdrA ls lg).2 = 3 + (Bm.hdrN (ls.drop 0) P).2 := by
    unfold Bm.hdrA
    rw [hPe, List.drop_zero]
    exact ⟨rfl, rfl⟩
  rw [← hN1] at hd0
  have Hd0 := Lib.hid hd0
  have hlt5 : lg - 5 < 2 ^ 3 := by omega
  clear h hr hN1 hPe hsum hd0
  generalize hq : lg - 5 = q at *
  go_enter Try.func12, Try.ntmps12
  go_wp2_with fail
  refine (Hrof.out w).mono ?_
  rintro e w1 ⟨u1, rfl, ho1, hb1, _⟩
  have Ho1 := Lib.hid ho1
  have Hb1 := Lib.hid hb1
  clear ho1 hb1 Hrof hlg
  go_wp2_with fail
  refine (Hsz.out w1).mono ?_
  rintro e w' ⟨rfl, rfl⟩
  clear Hsz
  go_wp2
  go_loopw [5, 6, 7] (fun u r i wr => ∃ k N n R : Nat, k ≤ ls.length ∧ i = .int .i64 (k : Int) ∧ r = .int .i64 (R : Int) ∧ R ≤ 512 ∧ n ≤ 3 + 10 * k ∧ Hid (R + (ls.take k).sum = P) ∧ Hid (N < 2 ^ n) ∧ Hid (N1 = N + (Bm.hdrN (ls.drop k) R).1 * 2 ^ n ∧ n1 = n + (Bm.hdrN (ls.drop k) R).2) ∧ Hid (wr.ownsRow w.heap.size 3 1 u n (i64s (Bm.bitsOf N n))) ∧ Hid (Below w.heap.size w wr)) (fun _ _ i _ => ls.length - (intOf i).toNat)
  case atStart => exact ⟨0, q, 3, P, by omega, rfl, rfl, hP, by omega, Lib.hid (by simp), Lib.hid hlt5, Hd0, Ho1, Hb1⟩
  case round =>
    obtain ⟨k, N, n, R, hk, rfl, rfl, hR, hn, HR, HNn, Hd, hown, hbel⟩ := hrel
    clear Ho1 Hb1 Hd0 hlt5
    by_cases hkl : k < ls.length
    · have d1 : decide (k < ls.length) = true := decide_eq_true hkl
      rcases Nat.eq_zero_or_pos R with hR0 | hR0
      · subst hR0
        have hfin : N1 = N ∧ n1 = n := by
          have h1 := Hd.out
          rw [Bm.hdr_zero] at h1
          simpa using h1
        have Hfin := Lib.hid hfin
        clear hfin Hd
        go_wp2
        go_ret
        exact ⟨u5, rfl, by rw [Hfin.out.1, Hfin.out.2]; exact hown.out, hbel.out⟩
      · have d2 : decide ((0 : Int) < (R : Int)) = true := decide_eq_true (by omega)
        obtain ⟨g, off, hA, hc⟩ : ∃ g off, A = some ⟨g, off, none⟩ ∧ ∀ W, Below w.heap.size w W → W.cell? ⟨g, off + k, none⟩ = some (.int .i64 (ls[k] : Int)) := by
          obtain ⟨g, off, e, hc⟩ := Hr.out (by intro e; have := congrArg List.length e; rw [i64s_length, List.length_nil] at this; omega)
          refine ⟨g, off, e, fun W hb => ?_⟩
          have h1 := hc k (by rw [i64s_length]; exact hkl)
          rw [i64s_get? ls k hkl] at h1
          rw [hb.cell (p := ⟨g, off + k, none⟩) (World.block_lt_of_cell? w _ h1)]
          exact h1
        subst hA
        have hs1 := Bm.sum_take_s ls k hkl
        have hs2 := Bm.sum_take_leN ls (k + 1)
        have hsum := Hsum.out
        have hxR : ls[k] ≤ R := by have := HR.out; omega
        have hsp := Bm.hdr_split ls k R N n hkl hR0
        have hw1 := Bm.wid_one R hR0
        have hw2 := Bm.wid_le_of R 10 (by omega)
        have hwl := Bm.wid_lt R
        have hmore := bits_more N n ls[k] (Bm.wid R) HNn.out (by omega)
        have hlt : N + ls[k] * 2 ^ n < 2 ^ (n + Bm.wid R) := by
          have h1 := HNn.out
          rw [Nat.pow_add, Nat.mul_comm (2 ^ n)]
          have h2 := Nat.mul_le_mul_right (2 ^ n) (show ls[k] + 1 ≤ 2 ^ Bm.wid R by omega)
          rw [Nat.succ_mul] at h2
          omega
        have HR2 : Hid (R - ls[k] + (ls.take (k + 1)).sum = P) := Lib.hid (by have := HR.out; omega)
        have Hd2 : Hid (N1 = (N + ls[k] * 2 ^ n) + (Bm.hdrN (ls.drop (k + 1)) (R - ls[k])).1 * 2 ^ (n + Bm.wid R) ∧ n1 = (n + Bm.wid R) + (Bm.hdrN (ls.drop (k + 1)) (R - ls[k])).2) := Lib.hid (by rw [← hsp.1, ← hsp.2]; exact Hd.out)
        have Hlt := Lib.hid hlt
        have Hmore := Lib.hid hmore
        have Hwd := Lib.hid (fun W => rwidth_wid R W (by omega))
        have Hof := Lib.hid (fun W => rof_bits ls[k] (Bm.wid R) W (by omega) (by omega))
        have hx512 : ls[k] ≤ 512 := by omega
        clear hs1 hs2 hsum hsp hwl hmore hlt HR HNn Hd
        generalize ls[k] = x at *
        generalize Bm.wid R = b at *
        have hcu1 : IntKind.u32.wrap (x : Int) = (x : Int) := by simp [IntKind.wrap, IntKind.bits, IntKind.signed]; omega
        have hcu2 : IntKind.u32.wrap (R : Int) = (R : Int) := by simp [IntKind.wrap, IntKind.bits, IntKind.signed]; omega
        go_wp2_with fail
        refine wp_region_held_drew (S := (fun W => Below w.heap.size w W)) (by kernel_rfl) (by exact hbel.out.drew) (fun hHeld => ?_)
        refine wpAnyH_take (i := 0) (oi := { dst := some 24, op := Go.Op.move (Go.Operand.tmp 5), type := 22, pos := "ref.go:14", after := #[], guard := none }) (v := ?_) rfl (by kernel_rfl) (by kernel_rfl) (by kernel_rfl) (fun _ _ _ h => h) (Or.inl ⟨by rfl, ?_⟩) (by assumption) ?_
        rotate_left
        · (intro w hSw; (try dsimp only at hSw); go_simp; (try with_reducible rfl))
        try simp only [Act.put, List.setIfInBounds_toArray, List.set_cons_zero, List.set_cons_succ]
        refine wpAnyH_take (i := 1) (oi := { dst := some 25, op := Go.Op.move (Go.Operand.tmp 0), type := 22, pos := "ref.go:14", after := #[], guard := none }) (v := ?_) rfl (by kernel_rfl) (by kernel_rfl) (by kernel_rfl) (fun _ _ _ h => h) (Or.inl ⟨by rfl, ?_⟩) (by assumption) ?_
        rotate_left
        · (intro w hSw; (try dsimp only at hSw); go_simp; (try with_reducible rfl))
        try simp only [Act.put, List.setIfInBounds_toArray, List.set_cons_zero, List.set_cons_succ]
        refine wpAnyH_take (i := 2) (oi := { dst := some 26, op := Go.Op.move (Go.Operand.tmp 7), type := 3, pos := "ref.go:14", after := #[], guard := none }) (v := ?_) rfl (by kernel_rfl) (by kernel_rfl) (by kernel_rfl) (fun _ _ _ h => h) (Or.inl ⟨by rfl, ?_⟩) (by assumption) ?_
        rotate_left
        · (intro w hSw; (try dsimp only at hSw); go_simp; (try with_reducible rfl))
        try simp only [Act.put, List.setIfInBounds_toArray, List.set_cons_zero, List.set_cons_succ]
        refine wpAnyH_take (i := 3) (oi := { dst := some 27, op := Go.Op.indexAddr 22 (Go.Operand.tmp 25) (Go.Operand.tmp 26), type := 0, pos := "ref.go:14", after := #[{ on := 1, ground := Go.Ground.data }, { on := 2, ground := Go.Ground.data }], guard := none }) (v := ?_) rfl (by kernel_rfl) (by kernel_rfl) (by kernel_rfl) (fun _ _ _ h => h) (Or.inl ⟨by rfl, ?_⟩) (by assumption) ?_
        rotate_left
        · (intro w hSw; (try dsimp only at hSw); go_simp; (try with_reducible rfl))
        try simp only [Act.put, List.setIfInBounds_toArray, List.set_cons_zero, List.set_cons_succ]
        refine wpAnyH_take (i := 4) (oi := { dst := some 28, op := Go.Op.load 3 (Go.Operand.tmp 27), type := 3, pos := "ref.go:14", after := #[{ on := 3, ground := Go.Ground.data }], guard := none }) (v := ?_) rfl (by kernel_rfl) (by kernel_rfl) (by kernel_rfl) (fun _ _ _ h => h) (Or.inl ⟨by rfl, ?_⟩) (by assumption) ?_
        rotate_left
        · (intro w hSw; (try dsimp only at hSw); go_simp; (try with_reducible rfl))
        try simp only [Act.put, List.setIfInBounds_toArray, List.set_cons_zero, List.set_cons_succ]
        refine wpAnyH_take (i := 5) (oi := { dst := some 29, op := Go.Op.convert 3 29 (Go.Operand.tmp 28), type := 29, pos := "ref.go:14", after := #[{ on := 4, ground := Go.Ground.data }], guard := none }) (v := ?_) rfl (by kernel_rfl) (by kernel_rfl) (by kernel_rfl) (fun _ _ _ h => h) (Or.inl ⟨by rfl, ?_⟩) (by assumption) ?_
        rotate_left
        · (intro w hSw; (try dsimp only at hSw); go_simp; (try with_reducible rfl))
        try simp only [Act.put, List.setIfInBounds_toArray, List.set_cons_zero, List.set_cons_succ]
        refine wpAnyH_take (i := 6) (oi := { dst := some 30, op := Go.Op.move (Go.Operand.tmp 6), type := 3, pos := "ref.go:14", after := #[], guard := none }) (v := ?_) rfl (by kernel_rfl) (by kernel_rfl) (by kernel_rfl) (fun _ _ _ h => h) (Or.inl ⟨by rfl, ?_⟩) (by assumption) ?_
        rotate_left
        · (intro w hSw; (try dsimp only at hSw); go_simp; (try with_reducible rfl))
        try simp only [Act.put, List.setIfInBounds_toArray, List.set_cons_zero, List.set_cons_succ]
        refine wpAnyH_take (i := 7) (oi := { dst := some 31, op := Go.Op.convert 3 29 (Go.Operand.tmp 30), type := 29, pos := "ref.go:14", after := #[{ on := 6, ground := Go.Ground.data }], guard := none }) (v := ?_) rfl (by kernel_rfl) (by kernel_rfl) (by kernel_rfl) (fun _ _ _ h => h) (Or.inl ⟨by rfl, ?_⟩) (by assumption) ?_
        rotate_left
        · (intro w hSw; (try dsimp only at hSw); go_simp; (try with_reducible rfl))
        try simp only [Act.put, List.setIfInBounds_toArray, List.set_cons_zero, List.set_cons_succ]
        refine wpAnyH_ready (rs := [8]) (by kernel_rfl) (by simp) ?_
        refine AllReadyH.cons (o := { dst := some 32, op := Go.Op.call { callee := Go.Callee.value (Go.Operand.func 28), args := #[Go.Operand.tmp 31], argTypes := #[29] }, type := 3, pos := "ref.go:14", after := #[{ on := 7, ground := Go.Ground.data }], guard := none }) rfl (fun K hK => ?_) AllReadyH.nil
        go_simp
        (go_at_call 28; refine (Hwd.out _).mono ?_; rintro e w' ⟨rfl, rfl⟩)
        go_simp
        refine hK.out _ _ (by with_reducible assumption) (fun hHeld => ?_)
        clear hK K
        try simp only [Act.put, List.setIfInBounds_toArray, List.set_cons_zero, List.set_cons_succ]
        refine wpAnyH_ready (rs := [9]) (by kernel_rfl) (by simp) ?_
        refine AllReadyH.cons (o := { dst := some 33, op := Go.Op.call { callee := Go.Callee.value (Go.Operand.func 15), args := #[Go.Operand.tmp 29, Go.Operand.tmp 32], argTypes := #[29, 3] }, type := 22, pos := "ref.go:14", after := #[{ on := 5, ground := Go.Ground.data }, { on := 8, ground := Go.Ground.data }, { on := 8, ground := Go.Ground.chain }], guard := none }) rfl (fun K hK => ?_) AllReadyH.nil
        go_simp
        (go_at_call 15; refine (Hof.out _).mono ?_; rintro e wB ⟨uB, rfl, hoB, hbB, _⟩; have HwB := Lib.hid ((Below.refl wr.heap.size wr).drew.trans hbB); obtain ⟨gX, capX, rfl, _, _⟩ := own_form hoB hw1; have Hnews := Lib.hid (reads_news (own_place hoB).2.2.2.2); have HoB := Lib.hid (own_below hown.out ((Below.refl wr.heap.size wr).drew.trans hbB)); clear hoB hbB)
        go_simp
        refine hK.out _ _ (by exact hbel.out.trans (HwB.out.mono hbel.out.size)) (fun hHeld => ?_)
        clear hK K
        try simp only [Act.put, List.setIfInBounds_toArray, List.set_cons_zero, List.set_cons_succ]
        refine wpAnyH_ready (rs := [10]) (by kernel_rfl) (by simp) ?_
        refine AllReadyH.cons (o := { dst := some 34, op := Go.Op.call { callee := Go.Callee.builtin Go.Builtin.append, args := #[Go.Operand.tmp 24, Go.Operand.tmp 33], argTypes := #[22, 22] }, type := 22, pos := "ref.go:14", after := #[{ on := 0, ground := Go.Ground.data }, { on := 9, ground := Go.Ground.data }, { on := 9, ground := Go.Ground.chain }], guard := none }) rfl (fun K hK => ?_) AllReadyH.nil
        (refine step_append_lies wB (by rfl) _ _ _ (by rfl) w.heap.size 3 i0 (.int .i64 0) 1 8 Try.underlying22 hi hz0 hz1 hz2 rfl (by omega) u5 n (i64s (Bm.bitsOf N n)) (by rfl) HoB.out ⟨gX, 0, none⟩ b capX (i64s (Bm.bitsOf x b)) (by rfl) (by rw [i64s_length, Bm.bitsOf_length, Nat.mul_one]) Hnews.out (by intro u hu; simp [i64s] at hu; obtain ⟨a, _, rfl⟩ := hu; rfl) (by omega) (by unfold maxLen; omega) (by omega) (by have := hbel.out.size; have := HwB.out.size; omega) wB.heap.size rfl ?_; intro gN capN wN hoN hgN _ _; rw [Hmore.out] at hoN; have HoN := Lib.hid hoN; have HbN := Lib.hid ((hbel.out.trans (HwB.out.mono hbel.out.size)).grown hgN (by have := hbel.out.size; have := HwB.out.size; omega) (fun q e => (HoB.out.lt q e).1)); clear hoN hgN)
        refine hK.out _ _ (by exact HbN.out) (fun hHeld => ?_)
        clear hK K
        try simp only [Act.put, List.setIfInBounds_toArray, List.set_cons_zero, List.set_cons_succ]
        refine wpAnyH_take (i := 11) (oi := { dst := some 5, op := Go.Op.assign (Go.Operand.tmp 34), type := 22, pos := "ref.go:14", after := #[{ on := 10, ground := Go.Ground.data }, { on := 10, ground := Go.Ground.chain }, { on := 0, ground := Go.Ground.phase }, { on := 1, ground := Go.Ground.phase }, { on := 2, ground := Go.Ground.phase }, { on := 3, ground := Go.Ground.phase }, { on := 4, ground := Go.Ground.phase }, { on := 5, ground := Go.Ground.phase }, { on := 6, ground := Go.Ground.phase }, { on := 7, ground := Go.Ground.phase }, { on := 8, ground := Go.Ground.phase }, { on := 9, ground := Go.Ground.phase }, { on := 10, ground := Go.Ground.phase }], guard := none }) (v := ?_) rfl (by kernel_rfl) (by kernel_rfl) (by kernel_rfl) (fun _ _ _ h => h) (Or.inl ⟨by rfl, ?_⟩) (by assumption) ?_
        rotate_left
        · (intro w hSw; (try dsimp only at hSw); go_simp; (try with_reducible rfl))
        try simp only [Act.put, List.setIfInBounds_toArray, List.set_cons_zero, List.set_cons_succ]
        refine wpAnyH_done (by kernel_rfl) ?_ _
        have hc2 := hc wN HbN.out
        clear hc hcu1 hcu2
        go_wp2
        go_roundw
        case rel => exact ⟨k + 1, N + x * 2 ^ n, n + b, R - x, by omega, by go_num, by go_num, by omega, by omega, HR2, Hlt, Hd2, HoN, HbN⟩
        case measure => simp [intOf]; omega
    · obtain rfl : k = ls.length := by omega
      have d1 : decide (ls.length < ls.length) = false := by simp
      have hfin : N1 = N ∧ n1 = n := by
        have h1 := Hd.out
        rw [List.drop_length] at h1
        simpa [Bm.hdrN] using h1
      have Hfin := Lib.hid hfin
      clear hfin Hd
      go_wp2
      go_ret
      exact ⟨u5, rfl, by rw [Hfin.out.1, Hfin.out.2]; exact hown.out, hbel.out⟩
end Go.Proofs.Ytefcahmhfjblpaa
