/-
  SpreadSteps (layer 6): the law's function is true for a fair share: its walk (Ty), the letters taken from the table's mathematics. Premise: what the table's calls answer.
-/
import Derived.Test.YthaahijapkolkaaTy
namespace Go.Proofs.Ythaahijapkolkaa
open Go.RowKit
theorem tsteps_fair {TB : World → Addr → List Nat → Nat → Prop} (hT : TabOk TB) (A : Option Addr) (c : Nat) (l : List Int) (log n0 n1 n2 : Int) (w : World) (h : l.length ≤ 300) (hok : ∀ x ∈ l, Bm.IntOk x) (hlog : Bm.IntOk log) (h0 : Bm.IntOk n0) (h2 : Bm.IntOk n2) (hr : Reads w A (i64z l)) (hf : Bm.Fair l log) :
    Calls Try.prog 4 #[.slice A l.length c, .int .i64 log, .agg #[.int .i64 n0, .int .i64 n1, .int .i64 n2]] w fun e w' => e = .returned (.bool true) ∧ Below w.heap.size w w' := by
  have hfn := Bm.fair_n l log hf
  have hls : i64s (l.map Int.toNat) = i64z l := by rw [← i64z_nat, Bm.fair_map l log hf]
  have hlen : (l.map Int.toNat).length = l.length := by simp
  have hl9 : (log.toNat : Int) = log := by have := hf.1; omega
  have H1 := fun W (hb : Below w.heap.size w W) => hT.build A c l log W (by omega) hok hlog (reads_on hr hb) hf
  have hfb : Bm.fairB l log = true := decide_eq_true hf
  have H2 : ∀ W, Below w.heap.size w W → Calls Try.prog 8 #[.slice A l.length c, .int .i64 log] W fun e w' => e = .returned (.bool true) ∧ W = w' := fun W hb => by
    have h1 := hfair_any A c l log W (by omega) (reads_on hr hb)
    rw [hfb] at h1
    exact h1
  generalize hlsn : l.map Int.toNat = ls at hfn hls hlen H1
  generalize hlgn : log.toNat = lg at hfn hl9 H1
  clear hlsn hlgn
  obtain ⟨S, hS⟩ : ∃ S, S = 2 ^ lg := ⟨_, rfl⟩
  have hS32 : 32 ≤ S := by rw [hS]; exact Nat.pow_le_pow_right (n := 2) (by omega) hfn.low
  have hS512 : S ≤ 512 := by rw [hS]; exact Nat.pow_le_pow_right (n := 2) (by omega) hfn.high
  have H3 : ∀ W, Below w.heap.size w W → Calls Try.prog 12 #[.slice A l.length c, .int .i64 log] W fun e w' => ∃ g, e = .returned (.slice (some ⟨g, 0, none⟩) S S) ∧ Row w' g 29 (c3 (Bm.cellsM ls lg)) ∧ Below W.heap.size W w' := fun W hb => by
    have h1 := jbuild_any A c ls lg W hfn (by rw [hls]; exact reads_on hr hb)
    rw [hlen, hl9, ← hS] at h1
    exact h1.mono fun e w' ⟨g, he, _, hrow, hb⟩ => ⟨g, he, hrow, hb⟩
  have hcl : (Bm.cellsM ls lg).length = S := by rw [Bm.cellsM_length, hS]
  have hget : ∀ i, i < S → (c3 (Bm.cellsM ls lg))[i * 3]? = some (.int .u8 (Bm.symAt ls lg i : Int)) ∧ (c3 (Bm.cellsM ls lg))[i * 3 + 1]? = some (.int .i64 (Bm.bitsAt ls lg i : Int)) ∧ (c3 (Bm.cellsM ls lg))[i * 3 + 2]? = some (.int .i64 (Bm.baseAt ls lg i : Int)) := fun i hi => by
    have hil : i < (Bm.cellsM ls lg).length := by rw [hcl]; exact hi
    have h1 := c3_get (Bm.cellsM ls lg) i hil
    rw [Bm.cellsM_get ls lg i hil] at h1
    exact h1
  obtain ⟨s, hs⟩ : ∃ s : Nat, (s : Int) = IntKind.u8.wrap n1 := ⟨(IntKind.u8.wrap n1).toNat, Int.toNat_of_nonneg (by simp [IntKind.wrap, IntKind.bits, IntKind.signed]; omega)⟩
  have hs256 : s < 256 := by
    have e : IntKind.u8.wrap n1 = n1 % 256 := by simp [IntKind.wrap, IntKind.bits, IntKind.signed]
    rw [e] at hs
    omega
  have hkeep : ∀ w W p, TB w p ls lg → Below w.heap.size w W → TB W p ls lg := fun w W p => hT.keep w W p ls lg
  have hway : (n0 < 0 ∧ Bm.nextB ls lg n0 n2 = false ∧ Bm.nextA ls lg n0 n2 = 0) ∨ ((S : Int) ≤ n0 ∧ Bm.nextB ls lg n0 n2 = false ∧ Bm.nextA ls lg n0 n2 = 0) ∨ ∃ st b z : Nat, n0 = (st : Int) ∧ st < S ∧ b ≤ 20 ∧ z ≤ 1000000 ∧ (c3 (Bm.cellsM ls lg))[st * 3 + 1]? = some (.int .i64 (b : Int)) ∧ (c3 (Bm.cellsM ls lg))[st * 3 + 2]? = some (.int .i64 (z : Int)) ∧
      ((n2 < 0 ∧ Bm.nextB ls lg n0 n2 = false ∧ Bm.nextA ls lg n0 n2 = 0) ∨ (0 ≤ n2 ∧ ((2 ^ b : Nat) : Int) ≤ n2 ∧ Bm.nextB ls lg n0 n2 = false ∧ Bm.nextA ls lg n0 n2 = 0) ∨ (0 ≤ n2 ∧ n2 < ((2 ^ b : Nat) : Int) ∧ Bm.nextB ls lg n0 n2 = true ∧ Bm.nextA ls lg n0 n2 = (z : Int) + n2)) := by
    have hno : ¬ (0 ≤ n0 ∧ n0 < ((2 ^ lg : Nat) : Int) ∧ 0 ≤ n2 ∧ n2 < ((2 ^ Bm.bitsAt ls lg n0.toNat : Nat) : Int)) → Bm.nextB ls lg n0 n2 = false ∧ Bm.nextA ls lg n0 n2 = 0 := fun hn => by
      have h1 : Bm.nextB ls lg n0 n2 = false := decide_eq_false hn
      exact ⟨h1, by unfold Bm.nextA; rw [h1]; rfl⟩
    by_cases c1 : n0 < 0
    · exact .inl ⟨c1, hno (fun hn => by omega)⟩
    by_cases c2 : (S : Int) ≤ n0
    · exact .inr (.inl ⟨c2, hno (fun hn => by rw [← hS] at hn; omega)⟩)
    obtain ⟨st, rfl⟩ := Int.eq_ofNat_of_zero_le (by omega : 0 ≤ n0)
    have hst : st < S := by omega
    obtain ⟨_, g1, g2⟩ := hget st hst
    have hb := Bm.bits_at ls lg st hfn (by rw [← hS]; exact hst)
    have hz := Bm.base_at ls lg st hfn (by rw [← hS]; exact hst)
    have h9 := hfn.high
    rw [← hS] at hz
    have hz := Nat.le_trans (Nat.le_add_right _ _) hz
    rw [Int.toNat_natCast] at hno
    refine .inr (.inr ⟨st, Bm.bitsAt ls lg st, Bm.baseAt ls lg st, rfl, hst, by omega, by omega, g1, g2, ?_⟩)
    by_cases c3 : n2 < 0
    · exact .inl ⟨c3, hno (fun hn => by omega)⟩
    by_cases c4 : n2 < ((2 ^ Bm.bitsAt ls lg st : Nat) : Int)
    · refine .inr (.inr ⟨by omega, c4, ?_⟩)
      have h1 : Bm.nextB ls lg (st : Int) n2 = true := by
        unfold Bm.nextB
        rw [Int.toNat_natCast, ← hS]
        exact decide_eq_true ⟨by omega, by omega, by omega, c4⟩
      exact ⟨h1, by unfold Bm.nextA; rw [h1, Int.toNat_natCast]; rfl⟩
    · exact .inr (.inl ⟨by omega, by omega, hno (fun hn => by omega)⟩)
  have H7 := fun W p ht => hT.next W p ls lg n0 n2 hfn ht h0 h2
  have H4 := fun W p ht => hT.back W p ls lg n0 s hfn ht h0 hs256
  have Haw := Lib.hid (fun w => tawake_of hT w)
  by_cases hin : 0 ≤ n0 ∧ n0 < (S : Int)
  · obtain ⟨st, rfl⟩ := Int.eq_ofNat_of_zero_le hin.1
    have hst : st < 2 ^ lg := by rw [← hS]; omega
    have hba : Bm.backA ls lg (st : Int) s = (Bm.backP ls lg st s).map fun p => (p, st - Bm.baseAt ls lg p, Bm.bitsAt ls lg p) := by
      unfold Bm.backA
      rw [if_pos (by rw [← hS]; exact hin), Int.toNat_natCast]
    have hjb : ∀ W g, Row W g 29 (c3 (Bm.cellsM ls lg)) → Calls Try.prog 14 #[.slice (some ⟨g, 0, none⟩) S S, .int .i64 (st : Int), .int .u8 (s : Int)] W fun e w' => e = .returned (backV (Bm.cellsM ls lg) (st : Int) (Bm.backP ls lg st s)) ∧ Below W.heap.size W w' := fun W g hrow => by
      have h1 := jback_any (some ⟨g, 0, none⟩) S (Bm.cellsM ls lg) (st : Int) s (Bm.backP ls lg st s) W (by omega) (cells_small ls lg hfn) h0 (row_reads hrow) (fun p hp hl _ => Bm.back_is ls lg st s p hfn (by rw [← hS, ← hcl]; exact hp) ((Bm.leads_int ls lg st s p hp).1 hl)) (fun hn => by
        cases e : Bm.backP ls lg st s with
        | none => rfl
        | some p =>
          obtain ⟨e1, e2⟩ := Bm.back_leads ls lg st s p e
          have hp : p < (Bm.cellsM ls lg).length := by rw [hcl, hS]; exact e1
          exact absurd ((Bm.leads_int ls lg st s p hp).2 e2) (hn p hp))
      rw [hcl] at h1
      exact h1
    cases hp : Bm.backP ls lg st s with
    | none =>
      rw [hp] at hba hjb
      rw [hba] at H4
      exact tsteps_walk A c l.length S s log (st : Int) n1 n2 ls lg 0 0 0 false (decide (0 ≤ (st : Int) ∧ (st : Int) < (S : Int) ∧ s < l.length)) _ _ w h hS32 hS512 hs.symm hs256 Haw (Lib.hid hkeep) (Lib.hid H1) (Lib.hid H2) (Lib.hid H3) (Lib.hid H4) rfl (Lib.hid (fun _ => hjb)) (fun _ => ⟨rfl, rfl, rfl⟩) (fun _ => rfl) (fun e => by cases e) (Lib.hid (fun e => by cases e)) (Lib.hid H7) hway
    | some p =>
      rw [hp] at hba hjb
      rw [hba] at H4
      obtain ⟨e1, e2⟩ := Bm.back_leads ls lg st s p hp
      have e1S : p < S := by rw [hS]; exact e1
      have hpl : p < (Bm.cellsM ls lg).length := by rw [hcl]; exact e1S
      have hbv : backV (Bm.cellsM ls lg) (st : Int) (some p) = .tuple #[.int .i64 (p : Int), .int .i64 ((st - Bm.baseAt ls lg p : Nat) : Int), .bool true] := by
        have h1 := e2.2.1
        show Value.tuple #[.int .i64 (p : Int), .int .i64 ((st : Int) - (((Bm.cellsM ls lg)[p]?.getD (0, 0, 0)).2.2 : Int)), .bool true] = _
        rw [List.getElem?_eq_getElem hpl, Option.getD_some, Bm.cellsM_get]
        dsimp only
        rw [show (st : Int) - (Bm.baseAt ls lg p : Int) = ((st - Bm.baseAt ls lg p : Nat) : Int) by omega]
      rw [hbv] at hjb
      have hsn : s < l.length := by
        obtain ⟨h1, _⟩ := Bm.tab_sym ls lg p hfn e1
        rw [e2.1, hlen] at h1
        exact h1
      have hnx : ∀ W q, TB W q ls lg → Calls Try.prog 15 #[.pointer (some q), .int .i64 (p : Int), .int .i64 ((st - Bm.baseAt ls lg p : Nat) : Int)] W fun e w' => e = .returned (.tuple #[.int .i64 (st : Int), .bool true]) ∧ Below W.heap.size W w' := fun W q ht => by
        have h1 := hT.next W q ls lg (p : Int) ((st - Bm.baseAt ls lg p : Nat) : Int) hfn ht (by unfold Bm.IntOk; omega) (by unfold Bm.IntOk; omega)
        have hlt : st - Bm.baseAt ls lg p < 2 ^ Bm.bitsAt ls lg p := by have := e2.2.1; have := e2.2.2; omega
        have hB : Bm.nextB ls lg (p : Int) ((st - Bm.baseAt ls lg p : Nat) : Int) = true := by
          unfold Bm.nextB
          rw [Int.toNat_natCast]
          exact decide_eq_true ⟨by omega, by omega, by omega, by omega⟩
        have hA : Bm.nextA ls lg (p : Int) ((st - Bm.baseAt ls lg p : Nat) : Int) = (st : Int) := by
          unfold Bm.nextA
          rw [hB, Int.toNat_natCast]
          have := e2.2.1
          simp only [if_true]
          omega
        rw [hA, hB] at h1
        exact h1
      exact tsteps_walk A c l.length S s log (st : Int) n1 n2 ls lg p (st - Bm.baseAt ls lg p) (Bm.bitsAt ls lg p) true (decide (0 ≤ (st : Int) ∧ (st : Int) < (S : Int) ∧ s < l.length)) _ _ w h hS32 hS512 hs.symm hs256 Haw (Lib.hid hkeep) (Lib.hid H1) (Lib.hid H2) (Lib.hid H3) (Lib.hid H4) rfl (Lib.hid (fun _ => hjb)) (fun e => by cases e) (fun e => absurd ⟨hin.1, hin.2, hsn⟩ (of_decide_eq_false e)) (fun _ => ⟨e1S, (hget p e1S).2.1⟩) (Lib.hid (fun _ => hnx)) (Lib.hid H7) hway
  · have hba : Bm.backA ls lg n0 s = none := by
      unfold Bm.backA
      rw [if_neg (by rw [← hS]; exact hin)]
    rw [hba] at H4
    have hd : decide (0 ≤ n0 ∧ n0 < (S : Int) ∧ s < l.length) = false := decide_eq_false (fun e => hin ⟨e.1, e.2.1⟩)
    exact tsteps_walk A c l.length S s log n0 n1 n2 ls lg 0 0 0 false false _ _ w h hS32 hS512 hs.symm hs256 Haw (Lib.hid hkeep) (Lib.hid H1) (Lib.hid H2) (Lib.hid H3) (Lib.hid H4) hd.symm (Lib.hid (fun e => by cases e)) (fun _ => ⟨rfl, rfl, rfl⟩) (fun _ => rfl) (fun e => by cases e) (Lib.hid (fun e => by cases e)) (Lib.hid H7) hway
end Go.Proofs.Ythaahijapkolkaa
