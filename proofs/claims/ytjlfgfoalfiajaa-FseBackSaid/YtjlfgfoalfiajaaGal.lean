/-
  The reference of layer 7 (fse), by its walk: Encode. Conditions: as each theorem's premises say (up to ten thousand symbols).
  Layer 7 (fse): pieces of a slice of bits, and what the reference's Number makes of them; the reference's Decode, by its walk. Premise of the walk: what the reference's Open answers. Conditions: as each theorem's premises say.
-/
import Derived.Test.YtjlfgfoalfiajaaGaj
import Derived.Test.YtjlfgfoalfiajaaGaa
import Derived.Test.YtjlfgfoalfiajaaGac
import Derived.Laws.AppendOwnNone
import Derived.BigQuiet
import Derived.WalkSmall
import Derived.Deep.QuietTactic
namespace Go.Proofs.Ytjlfgfoalfiajaa
open Go.RowKit

theorem bits_more (N n v k : Nat) (hN : N < 2 ^ n) (hv : v < 2 ^ k) : i64s (Bm.bitsOf N n) ++ i64s (Bm.bitsOf v k) = i64s (Bm.bitsOf (N + v * 2 ^ n) (n + k)) := by
  have h := Bm.bitsOf_append N n v k hN
  rw [Nat.mod_eq_of_lt hv] at h
  rw [← h]
  simp [i64s]
theorem enc_append_none (ls : List Nat) (log : Nat) (b : List Nat) (h : Bm.encR ls log b = none) : ∀ a : List Nat, Bm.encR ls log (a ++ b) = none
  | [] => h
  | x :: a => by
    rw [List.cons_append]
    simp only [Bm.encR]
    rw [enc_append_none ls log b h a]
    rfl
theorem back_value (ls : List Nat) (log st s p : Nat) (h : Bm.backP ls log st s = some p) : backV (Bm.cellsM ls log) (st : Int) (some p) = .tuple #[.int .i64 (p : Int), .int .i64 ((st - Bm.baseAt ls log p : Nat) : Int), .bool true] := by
  obtain ⟨e1, e2⟩ := Bm.back_leads ls log st s p h
  have hpl : p < (Bm.cellsM ls log).length := by rw [Bm.cellsM_length]; exact e1
  have h1 := e2.2.1
  show Value.tuple #[.int .i64 (p : Int), .int .i64 ((st : Int) - (((Bm.cellsM ls log)[p]?.getD (0, 0, 0)).2.2 : Int)), .bool true] = _
  rw [List.getElem?_eq_getElem hpl, Option.getD_some, Bm.cellsM_get]
  dsimp only
  rw [show (st : Int) - (Bm.baseAt ls log p : Int) = ((st - Bm.baseAt ls log p : Nat) : Int) by omega]
/-- What Encode answers. -/
def EncA (base : Nat) (w' : World) (log : Nat) (e : Ending) : Option (Nat × Nat × Nat) → Prop
  | none => e = .returned (.tuple #[.slice none 0 0, .bool false])
  | some (N, n, st) => ∃ u, e = .returned (.tuple #[u, .bool true]) ∧ w'.ownsRow base 3 1 u (n + log) (i64s (Bm.bitsOf (N + st * 2 ^ n) (n + log)))

set_option maxHeartbeats 1000000 in
set_option maxRecDepth 100000 in
theorem genc_any (A B : Option Addr) (c d : Nat) (ls : List Nat) (log : Nat) (syms : List Nat) (w : World) (h : Bm.FairN ls log) (hl : syms.length ≤ 10000) (hlt : ∀ x ∈ syms, x < 256) (hr : Reads w A (c3 (Bm.cellsM ls log))) (hs : Reads w B (u8s syms)) :
    Calls Try.prog 9 #[.slice A (2 ^ log) c, .int .i64 (log : Int), .slice B syms.length d] w fun e w' => EncA w.heap.size w' log e (Bm.encR ls log syms) ∧ Below w.heap.size w w' := by
  obtain ⟨i0, hi, hz0, hz1, hz2⟩ := info_parts info_io
  have h9 := h.high
  have hlow := h.low
  have Hf := Lib.hid h
  have Hr := Lib.hid hr
  have Hs := Lib.hid hs
  have Hlt := Lib.hid hlt
  obtain ⟨S, hS⟩ : ∃ S, S = 2 ^ log := ⟨_, rfl⟩
  have hS512 : S ≤ 512 := by rw [hS]; exact Nat.pow_le_pow_right (n := 2) (by omega) h9
  have HS := Lib.hid hS
  rw [← hS]
  have Hjb : Hid (∀ (W : World) (st s : Nat), Below w.heap.size w W → st < S → Calls Try.prog 23 #[.slice A S c, .int .i64 (st : Int), .int .u8 (s : Int)] W fun e w' => e = .returned (backV (Bm.cellsM ls log) (st : Int) (Bm.backP ls log st s)) ∧ Below W.heap.size W w') := Lib.hid (fun W st s hb hst => by
    rw [hS] at hst ⊢
    exact jback_model A c ls log st s W h hst (reads_on hr hb))
  clear h hr hs hlt hS
  go_enter Try.func9, Try.ntmps9
  go_wp2
  go_loopw [6, 7, 8, 9, 10, 11, 12, 13] (fun _ _ u st i _ _ _ wr => ∃ k N n s0 : Nat, k ≤ syms.length ∧ i = .int .i64 ((syms.length : Int) - (k : Int) - 1) ∧ st = .int .i64 (s0 : Int) ∧ Hid (Bm.encR ls log (syms.drop (syms.length - k)) = some (N, n, s0)) ∧ Hid (wr.ownsRow w.heap.size 3 1 u n (i64s (Bm.bitsOf N n))) ∧ Hid (Below w.heap.size w wr)) (fun _ _ _ _ i _ _ _ _ => (intOf i + 1).toNat)
  case atStart => exact ⟨0, 0, 0, 0, by omega, by go_num, rfl, Lib.hid (by rw [Nat.sub_zero, List.drop_length]; rfl), Lib.hid (World.ownsRow_nil _ _ _ _), Lib.hid (Below.refl _ _)⟩
  case round =>
    obtain ⟨k, N, n, s0, hk, rfl, rfl, henc, hown, hbel⟩ := hrel
    obtain ⟨hN, hs0, hnl, _⟩ := Bm.enc_ok ls log Hf.out _ N n s0 henc.out
    rw [← HS.out] at hs0
    have hn9 : n ≤ 90000 := by
      rw [List.length_drop] at hnl
      have h1 : log * (syms.length - (syms.length - k)) ≤ 9 * 10000 := Nat.mul_le_mul h9 (by omega)
      omega
    by_cases hkl : k < syms.length
    · obtain ⟨q, hq⟩ : ∃ q, syms.length = q + k + 1 := ⟨syms.length - k - 1, by omega⟩
      have hql : q < syms.length := by omega
      have hqi : (syms.length : Int) - (k : Int) - 1 = (q : Int) := by omega
      rw [hqi]
      obtain ⟨g2, off2, rfl, hc2⟩ := reads_u8 (reads_on Hs.out hbel.out) (by intro e; rw [e] at hql; simp at hql)
      have c0 := hc2 q hql
      have hdr : syms.drop q = syms[q] :: syms.drop (q + 1) := List.drop_eq_getElem_cons hql
      rw [show syms.length - k = q + 1 by omega] at henc
      have hsym := Hlt.out syms[q] (List.getElem_mem hql)
      have Hj := Lib.hid (Hjb.out wr s0 syms[q] hbel.out hs0)
      have hstep : Bm.encR ls log (syms.drop q) = (Bm.backP ls log s0 syms[q]).map fun p => (N + (s0 - Bm.baseAt ls log p) * 2 ^ n, n + Bm.bitsAt ls log p, p) := by
        rw [hdr]
        simp only [Bm.encR]
        rw [henc.out]
        rfl
      have Hstep := Lib.hid hstep
      have Hqi := Lib.hid hqi
      have Hq := Lib.hid hq
      clear hstep hc2 hdr hqi hq
      cases hp : Bm.backP ls log s0 syms[q] with
      | none =>
        rw [hp] at Hj Hstep
        have Hnone := Lib.hid (show Bm.encR ls log syms = none by
          rw [← List.take_append_drop q syms]
          exact enc_append_none ls log _ (Hstep.out.trans rfl) _)
        generalize syms[q] = sy at c0 hsym Hj
        clear Hstep hp henc hown
        go_wp2_with fail
        refine Hj.out.mono ?_
        rintro e w2 ⟨rfl, hb2⟩
        have Hb2 := Lib.hid (hbel.out.trans (hb2.mono hbel.out.size))
        clear hb2
        simp only [backV]
        go_wp2
        go_ret2
        exact ⟨by rw [Hnone.out]; rfl, Hb2.out⟩
      | some p =>
        rw [hp] at Hj Hstep
        rw [back_value ls log s0 syms[q] p hp] at Hj
        rw [Option.map_some] at Hstep
        obtain ⟨e1, e2⟩ := Bm.back_leads ls log s0 syms[q] p hp
        have hbl := Bm.bits_at ls log p Hf.out e1
        have hv : s0 - Bm.baseAt ls log p < 2 ^ Bm.bitsAt ls log p := by
          have h1 := e2.2.1
          have h2 := e2.2.2
          generalize 2 ^ Bm.bitsAt ls log p = P at h2
          omega
        have hpl : p < (Bm.cellsM ls log).length := by rw [Bm.cellsM_length]; exact e1
        have hps : p < S := by rw [HS.out]; exact e1
        have hmore := bits_more N n (s0 - Bm.baseAt ls log p) (Bm.bitsAt ls log p) hN hv
        have hcell : ∀ W, Below w.heap.size w W → ∃ g off, A = some ⟨g, off, none⟩ ∧ W.cell? ⟨g, off + p * 3 + 1, none⟩ = some (.int .i64 (Bm.bitsAt ls log p : Int)) := fun W hb => by
          obtain ⟨g, off, e, hc⟩ := reads_c3 (reads_on Hr.out hb) (by omega)
          have h1 := (hc p hpl).2.1
          rw [Bm.cellsM_get] at h1
          exact ⟨g, off, e, h1⟩
        have hvs : s0 - Bm.baseAt ls log p < 512 := by omega
        have Hmore := Lib.hid hmore
        have Hcell := Lib.hid hcell
        have Hrof := Lib.hid (fun W => rof_bits (s0 - Bm.baseAt ls log p) (Bm.bitsAt ls log p) W (by omega) (by omega))
        clear e1 e2 hv hpl hmore hcell hp henc
        generalize syms[q] = sy at c0 hsym Hj
        generalize s0 - Bm.baseAt ls log p = v at Hj Hmore Hrof Hstep hvs
        generalize Bm.bitsAt ls log p = b at hbl Hmore Hcell Hrof Hstep
        go_wp2_with fail
        refine Hj.out.mono ?_
        rintro e w2 ⟨rfl, hb2⟩
        have hbe := hbel.out.trans (hb2.mono hbel.out.size)
        obtain ⟨g, off, rfl, c1⟩ := Hcell.out w2 hbe
        have Hown2 := Lib.hid (own_below hown.out hb2)
        have Hb2 := Lib.hid hbe
        clear hb2 hbe hbel hown c0 Hj
        go_wp2_with fail
        refine (Hrof.out w2).mono ?_
        rintro e w3 ⟨uX, rfl, hownX, hb3, hnilX⟩
        have Hown3 := Lib.hid (own_below Hown2.out hb3)
        have Hb3 := Lib.hid (Hb2.out.trans (hb3.mono Hb2.out.size))
        have hlow := own_low hownX Hb2.out.size
        clear hb3 Hown2 Hb2 c1 Hrof hownX
        rcases Nat.eq_zero_or_pos b with hb0 | hb0
        · subst hb0
          obtain rfl := hnilX rfl
          have hown4 : w3.ownsRow w.heap.size 3 1 u8 (n + 0) (i64s (Bm.bitsOf (N + v * 2 ^ n) (n + 0))) := by
            rw [← Hmore.out]
            have e : i64s (Bm.bitsOf v 0) = [] := by simp [i64s, Bm.bitsOf]
            rw [e, List.append_nil]
            exact Hown3.out
          have Hown4 := Lib.hid hown4
          clear hown4 hlow
          go_wp2_with (at_builtin; refine wpList_append_own_none rfl _ _ 22 rfl w.heap.size 3 i0 1 Try.underlying22 hi _ _ _ rfl Hown3.out rfl ?_)
          go_wp2
          go_roundw
          case rel => exact ⟨k + 1, N + v * 2 ^ n, n + 0, p, by omega, by have := Hq.out; go_num, rfl, by rw [show syms.length - (k + 1) = q by have := Hq.out; omega]; exact Hstep, Hown4, Hb3⟩
          case measure => simp [intOf]
        · obtain ⟨gX, capX, rfl, _, _⟩ := own_form hlow hb0
          have hrd := (own_place hlow).2.2.2.2
          have Hnews := Lib.hid (reads_news hrd)
          clear hrd hlow hnilX
          go_wp2_with (at_builtin; refine wpList_append_own _ rfl _ _ 22 rfl w.heap.size 3 i0 (.int .i64 0) 1 8 Try.underlying22 hi hz0 hz1 hz2 rfl (by decide) _ _ _ rfl Hown3.out ⟨gX, 0, none⟩ b capX (i64s (Bm.bitsOf v b)) rfl ?c0 Hnews.out ?c2 ?c3 ?c4 ?c5 ?_)
          case c0 => rw [i64s_length, Bm.bitsOf_length, Nat.mul_one]
          case c2 => intro u hu; simp [i64s] at hu; obtain ⟨a, _, rfl⟩ := hu; rfl
          case c3 => unfold maxLen; omega
          case c4 => omega
          case c5 => exact Hb3.out.size
          intro v1 w4 hown4 hgr4 _
          rw [Hmore.out] at hown4
          have Hb4 := Lib.hid (Hb3.out.grown hgr4 Hb3.out.size (fun k e => (Hown3.out.lt k e).1))
          have Hown4 := Lib.hid hown4
          clear hown4 hgr4 Hown3 Hnews Hb3
          go_wp2
          go_roundw
          case rel => exact ⟨k + 1, N + v * 2 ^ n, n + b, p, by omega, by have := Hq.out; go_num, rfl, by rw [show syms.length - (k + 1) = q by have := Hq.out; omega]; exact Hstep, Hown4, Hb4⟩
          case measure => simp [intOf]
    · obtain rfl : k = syms.length := by omega
      rw [Nat.sub_self, List.drop_zero] at henc
      have hmore := Lib.hid (bits_more N n s0 log hN (by rw [← HS.out]; exact hs0))
      have hrof := Lib.hid (fun W => rof_bits s0 log W (by omega) (by omega))
      rw [show (syms.length : Int) - (syms.length : Int) - 1 = -1 by omega]
      go_wp2_with fail
      refine (hrof.out wr).mono ?_
      rintro e w3 ⟨uX, rfl, hownX, hb3, _⟩
      have Hown3 := Lib.hid (own_below hown.out hb3)
      have Hb3 := Lib.hid (hbel.out.trans (hb3.mono hbel.out.size))
      have hlw := own_low hownX hbel.out.size
      obtain ⟨gX, capX, rfl, _, _⟩ := own_form hlw (by omega)
      have Hnews := Lib.hid (reads_news (own_place hlw).2.2.2.2)
      clear hb3 hlw hownX hown hbel hrof
      go_wp2_with (at_builtin; refine wpList_append_own _ rfl _ _ 22 rfl w.heap.size 3 i0 (.int .i64 0) 1 8 Try.underlying22 hi hz0 hz1 hz2 rfl (by decide) _ _ _ rfl Hown3.out ⟨gX, 0, none⟩ log capX (i64s (Bm.bitsOf s0 log)) rfl ?c0 Hnews.out ?c2 ?c3 ?c4 ?c5 ?_)
      case c0 => rw [i64s_length, Bm.bitsOf_length, Nat.mul_one]
      case c2 => intro u hu; simp [i64s] at hu; obtain ⟨a, _, rfl⟩ := hu; rfl
      case c3 => unfold maxLen; omega
      case c4 => omega
      case c5 => exact Hb3.out.size
      intro v1 w4 hown4 hgr4 _
      rw [hmore.out] at hown4
      have Hb4 := Lib.hid (Hb3.out.grown hgr4 Hb3.out.size (fun k e => (Hown3.out.lt k e).1))
      have Hown4 := Lib.hid hown4
      clear hown4 hgr4 Hown3 Hnews Hb3
      go_wp2
      go_ret2
      exact ⟨by rw [henc.out]; exact ⟨_, rfl, Hown4.out⟩, Hb4.out⟩
end Go.Proofs.Ytjlfgfoalfiajaa

namespace Go.Proofs.Ytjlfgfoalfiajaa
open Go.RowKit

set_option maxRecDepth 100000 in
theorem cut_to (A : Option Addr) (L c q : Nat) (W : World) (h : q ≤ L) (hc : L ≤ c) : (Instr.slice 22 (.slice A L c) none (some (.int .i64 (q : Int))) none).run Try.prog W = .ok (.slice A q c) W := by
  have h1 : q ≤ c := by omega
  rcases A with _ | a
  · go_simp
  · go_simp
/-- Where a slice goes on behind q of its elements. -/
def behindA (A : Option Addr) (c q : Nat) : Option Addr := if c = q then A else A.map (·.add q)
set_option maxRecDepth 100000 in
theorem cut_from (A : Option Addr) (L c q : Nat) (W : World) (h : q ≤ L) (hc : L ≤ c) : (Instr.slice 22 (.slice A L c) (some (.int .i64 (q : Int))) none none).run Try.prog W = .ok (.slice (behindA A c q) (L - q) (c - q)) W := by
  have h1 : q ≤ c := by omega
  unfold behindA
  by_cases hcq : c = q
  · subst hcq
    rcases A with _ | a
    · go_simp
    · go_simp
  · rcases A with _ | a
    · go_simp
    · go_simp
theorem bits_cell {w : World} {A : Option Addr} {X L : Nat} (h : Reads w A (i64s (Bm.bitsOf X L))) (h0 : 0 < L) : ∃ g off, A = some ⟨g, off, none⟩ ∧ ∀ j, j < L → w.cell? ⟨g, off + j, none⟩ = some (.int .i64 ((X / 2 ^ j % 2 : Nat) : Int)) := by
  obtain ⟨g, off, e, hc⟩ := h (by intro e; have := congrArg List.length e; rw [i64s_length, Bm.bitsOf_length, List.length_nil] at this; omega)
  refine ⟨g, off, e, fun j hj => ?_⟩
  rw [hc j (by rw [i64s_length, Bm.bitsOf_length]; exact hj), i64s_get? _ j (by rw [Bm.bitsOf_length]; exact hj), Bm.bitsOf_get]
theorem bits_to {w : World} {A : Option Addr} {X L q : Nat} (h : Reads w A (i64s (Bm.bitsOf X L))) (hq : q ≤ L) : Reads w A (i64s (Bm.bitsOf (X % 2 ^ q) q)) := fun hne => by
  have h0 : 0 < q := by
    rcases Nat.eq_zero_or_pos q with e | e
    · subst e; simp [i64s, Bm.bitsOf] at hne
    · exact e
  obtain ⟨g, off, e, hc⟩ := bits_cell h (by omega)
  refine ⟨g, off, e, fun j hj => ?_⟩
  rw [i64s_length, Bm.bitsOf_length] at hj
  rw [hc j (by omega), Bm.bitsOf_mod, i64s_get? _ j (by rw [Bm.bitsOf_length]; exact hj), Bm.bitsOf_get]
theorem bits_behind {w : World} {A : Option Addr} {X L c q : Nat} (h : Reads w A (i64s (Bm.bitsOf X L))) (hq : q ≤ L) (hc : L ≤ c) : Reads w (behindA A c q) (i64s (Bm.bitsOf (X / 2 ^ q) (L - q))) := fun hne => by
  have h0 : 0 < L - q := by
    rcases Nat.eq_zero_or_pos (L - q) with e | e
    · rw [e] at hne; simp [i64s, Bm.bitsOf] at hne
    · exact e
  obtain ⟨g, off, e, hcell⟩ := bits_cell h (by omega)
  refine ⟨g, off + q, ?_, fun j hj => ?_⟩
  · unfold behindA
    rw [if_neg (by omega), e]
    show some _ = _
    congr 1
    unfold Addr.add
    split <;> simp_all
  · rw [i64s_length, Bm.bitsOf_length] at hj
    rw [Nat.add_assoc, hcell (q + j) (by omega), i64s_get? _ j (by rw [Bm.bitsOf_length]; exact hj), Bm.bitsOf_get, Nat.div_div_eq_div_mul, ← Nat.pow_add]
/-- Number, of bits that read as a number's. -/
theorem rnum_reads (A : Option Addr) (b c X : Nat) (w : World) (hb : b ≤ 32) (hX : X < 2 ^ b) (hr : Reads w A (i64s (Bm.bitsOf X b))) :
    Calls Try.prog 39 #[.slice A b c] w fun e w' => e = .returned (.int .u32 (X : Int)) ∧ w = w' := by
  rcases Nat.eq_zero_or_pos b with h0 | h0
  · subst h0
    have : X = 0 := by simpa using hX
    subst this
    exact rnum_none A c w
  · obtain ⟨g, off, rfl, hc⟩ := bits_cell hr h0
    have h1 := rnum_bits g off b c X w hb h0 hc
    rw [Nat.mod_eq_of_lt hX] at h1
    exact h1
end Go.Proofs.Ytjlfgfoalfiajaa
