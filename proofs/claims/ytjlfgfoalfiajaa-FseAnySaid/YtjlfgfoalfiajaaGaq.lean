/-
  FseBack (layer 7): the law's function by its walk: true for any numbers, log and symbols. Premises: what the calls of layers 6, 7 answer.
  FseAny (layer 7): the law's function by its walk: true for any numbers, bytes and ints. Premises: what the calls of layers 6, 7 answer.
-/
import Derived.Test.YtjlfgfoalfiajaaGap
import Derived.StillTailTactics
import Derived.Deep.RegionHeld3
namespace Go.Proofs.Ytjlfgfoalfiajaa
open Go.RowKit

set_option maxHeartbeats 400000 in
set_option maxRecDepth 100000 in
theorem eback_long {TB : World → Addr → List Nat → Nat → Prop} (hT : TabOk TB) (hF : FseOk TB) (A B : Option Addr) (n c m d : Nat) (log : Int) (w : World) (h : 300 < n ∨ 100 < m) (hn : n ≤ 9223372036854775807) (hm : m ≤ 9223372036854775807) :
    Calls Try.prog 3 #[.slice A n c, .int .i64 log, .slice B m d] w fun e w' => e = .returned (.bool true) ∧ Below w.heap.size w w' := by
  have Haw := Lib.hid (eawake_of hT hF)
  clear hT hF
  by_cases h1 : 300 < n
  · have h1' : decide (300 < n) = true := decide_eq_true h1
    clear h
    go_enter Try.func3, Try.ntmps3
    go_wp2_with fail
    refine (Haw.out w).mono ?_
    rintro e w1 ⟨rfl, hb1⟩
    have Hb1 := Lib.hid hb1
    clear hb1
    go_wp2
    go_ret
    exact ⟨rfl, Hb1.out⟩
  · have h1' : n ≤ 300 := by omega
    have h2 : 100 < m := by omega
    clear h h1
    go_enter Try.func3, Try.ntmps3
    go_wp2_with fail
    refine (Haw.out w).mono ?_
    rintro e w1 ⟨rfl, hb1⟩
    have Hb1 := Lib.hid hb1
    clear hb1
    go_wp2
    go_ret
    exact ⟨rfl, Hb1.out⟩

set_option maxHeartbeats 400000 in
set_option maxRecDepth 100000 in
theorem eback_unfair {TB : World → Addr → List Nat → Nat → Prop} (hT : TabOk TB) (hF : FseOk TB) (A B : Option Addr) (c m d : Nat) (l : List Int) (log : Int) (w : World) (h : l.length ≤ 300) (hm : m ≤ 100) (hr : Reads w A (i64z l)) (hf : ¬ Bm.Fair l log) :
    Calls Try.prog 3 #[.slice A l.length c, .int .i64 log, .slice B m d] w fun e w' => e = .returned (.bool true) ∧ Below w.heap.size w w' := by
  have Haw := Lib.hid (eawake_of hT hF)
  have hfb : Bm.fairB l log = false := decide_eq_false hf
  have H2 : Hid (∀ W, Below w.heap.size w W → Calls Try.prog 7 #[.slice A l.length c, .int .i64 log] W fun e w' => e = .returned (.bool false) ∧ W = w') := Lib.hid (fun W hb => by
    have h1 := hfair_any A c l log W (by omega) (reads_on hr hb)
    rw [hfb] at h1
    exact h1)
  have h1' : decide (300 < l.length) = false := decide_eq_false (by omega)
  have h2' : decide (100 < m) = false := decide_eq_false (by omega)
  clear hT hF hr hf hfb
  go_enter Try.func3, Try.ntmps3
  go_wp2_with fail
  refine (Haw.out w).mono ?_
  rintro e w1 ⟨rfl, hb1⟩
  have Hb1 := Lib.hid hb1
  clear hb1
  go_wp2_with fail
  refine (H2.out w1 Hb1.out).mono ?_
  rintro e w' ⟨rfl, rfl⟩
  go_wp2
  go_ret
  exact ⟨rfl, Hb1.out⟩

/-- What the reference's Encode answers, by the bits. -/
theorem genc_code (A B : Option Addr) (c d : Nat) (ls : List Nat) (log : Nat) (syms : List Nat) (w : World) (h : Bm.FairN ls log) (hl : syms.length ≤ 10000) (hlt : ∀ x ∈ syms, x < 256) (hr : Reads w A (c3 (Bm.cellsM ls log))) (hs : Reads w B (u8s syms)) :
    (Bm.codeN ls log syms = none ∧ Calls Try.prog 9 #[.slice A (2 ^ log) c, .int .i64 (log : Int), .slice B syms.length d] w fun e w' => e = .returned (.tuple #[.slice none 0 0, .bool false]) ∧ Below w.heap.size w w') ∨
    ∃ N n, Bm.codeN ls log syms = some (N, n) ∧ Calls Try.prog 9 #[.slice A (2 ^ log) c, .int .i64 (log : Int), .slice B syms.length d] w fun e w' => ∃ A' c', e = .returned (.tuple #[.slice A' n c', .bool true]) ∧ w'.ownsRow w.heap.size 3 1 (.slice A' n c') n (i64s (Bm.bitsOf N n)) ∧ Below w.heap.size w w' := by
  have h1 := genc_any A B c d ls log syms w h hl hlt hr hs
  unfold Bm.codeN
  cases he : Bm.encR ls log syms with
  | none =>
    rw [he] at h1
    exact .inl ⟨rfl, h1⟩
  | some t =>
    obtain ⟨N, n, st⟩ := t
    rw [he] at h1
    refine .inr ⟨_, _, rfl, h1.mono ?_⟩
    rintro e w' ⟨⟨u, rfl, ho⟩, hb⟩
    obtain ⟨A', c', rfl, _⟩ := own_reads ho
    exact ⟨A', c', rfl, ho, hb⟩

set_option maxHeartbeats 2000000 in
set_option maxRecDepth 100000 in
theorem eback_fair {TB : World → Addr → List Nat → Nat → Prop} (hT : TabOk TB) (hF : FseOk TB) (A B : Option Addr) (c d : Nat) (l : List Int) (log : Int) (syms : List Nat) (w : World) (h : l.length ≤ 300) (hm : syms.length ≤ 100) (hok : ∀ x ∈ l, Bm.IntOk x) (hlog : Bm.IntOk log) (hlt : ∀ x ∈ syms, x < 256) (hr : Reads w A (i64z l)) (hs : Reads w B (u8s syms)) (hf : Bm.Fair l log) :
    Calls Try.prog 3 #[.slice A l.length c, .int .i64 log, .slice B syms.length d] w fun e w' => e = .returned (.bool true) ∧ Below w.heap.size w w' := by
  have Haw := Lib.hid (eawake_of hT hF)
  have hfn := Bm.fair_n l log hf
  have hls : i64s (l.map Int.toNat) = i64z l := by rw [← i64z_nat, Bm.fair_map l log hf]
  have hlen : (l.map Int.toNat).length = l.length := by simp
  have hl9 : (log.toNat : Int) = log := by have := hf.1; omega
  have hfb : Bm.fairB l log = true := decide_eq_true hf
  have H1 : Hid (∀ W, Below w.heap.size w W → Calls Try.prog 8 #[.slice A l.length c, .int .i64 log] W fun e w' => ∃ p, e = .returned (.tuple #[.pointer (some p), .bool true]) ∧ TB w' p (l.map Int.toNat) log.toNat ∧ Below W.heap.size W w') := Lib.hid (fun W hb => hT.build A c l log W (by omega) hok hlog (reads_on hr hb) hf)
  have H2 : Hid (∀ W, Below w.heap.size w W → Calls Try.prog 7 #[.slice A l.length c, .int .i64 log] W fun e w' => e = .returned (.bool true) ∧ W = w') := Lib.hid (fun W hb => by
    have h1 := hfair_any A c l log W (by omega) (reads_on hr hb)
    rw [hfb] at h1
    exact h1)
  generalize hlsn : l.map Int.toNat = ls at hfn hls hlen H1
  generalize hlgn : log.toNat = lg at hfn hl9 H1
  clear hlsn hlgn hfb hf hok hlog
  subst hl9
  obtain ⟨S, hS⟩ : ∃ S, S = 2 ^ lg := ⟨_, rfl⟩
  have H3 : Hid (∀ W, Below w.heap.size w W → Calls Try.prog 10 #[.slice A l.length c, .int .i64 (lg : Int)] W fun e w' => ∃ g, e = .returned (.slice (some ⟨g, 0, none⟩) S S) ∧ Reads w' (some ⟨g, 0, none⟩) (c3 (Bm.cellsM ls lg)) ∧ Below W.heap.size W w') := Lib.hid (fun W hb => by
    have h1 := jbuild_any A c ls lg W hfn (by rw [hls]; exact reads_on hr hb)
    rw [hlen, ← hS] at h1
    exact h1.mono fun e w' ⟨g, he, _, hrow, hb⟩ => ⟨g, he, row_reads hrow, hb⟩)
  have H4 := fun W p (ht : TB W p ls lg) (hb : Below w.heap.size w W) => hF.enc W p ls lg B d syms hfn ht (by omega) hlt (reads_on hs hb)
  have H5 := fun W p (ht : TB W p ls lg) (hb : Below w.heap.size w W) => hF.bits W p ls lg B d syms hfn ht (by omega) hlt (reads_on hs hb)
  have hkeep := Lib.hid (fun w W p => hT.keep w W p ls lg)
  have h1' : decide (300 < l.length) = false := decide_eq_false (by omega)
  have h2' : decide (100 < syms.length) = false := decide_eq_false (by omega)
  have Hlt := Lib.hid hlt
  have Hs := Lib.hid hs
  have Hfn := Lib.hid hfn
  cases hc : Bm.codeN ls lg syms with
  | none =>
    have he : Bm.encB ls lg syms = none := by unfold Bm.encB; rw [hc]; rfl
    rw [he] at H4
    rw [hc] at H5
    have H6 : Hid (∀ W g, Below w.heap.size w W → Reads W (some ⟨g, 0, none⟩) (c3 (Bm.cellsM ls lg)) → Calls Try.prog 9 #[.slice (some ⟨g, 0, none⟩) S S, .int .i64 (lg : Int), .slice B syms.length d] W fun e w' => e = .returned (.tuple #[.slice none 0 0, .bool false]) ∧ Below W.heap.size W w') := Lib.hid (fun W g hb hrd => by
      rcases genc_code (some ⟨g, 0, none⟩) B S d ls lg syms W hfn (by omega) hlt hrd (reads_on hs hb) with ⟨_, h1⟩ | ⟨N, n, h1, _⟩
      · rw [← hS] at h1; exact h1
      · rw [hc] at h1; cases h1)
    have H4 := Lib.hid H4
    have H5 := Lib.hid H5
    clear hT hF hr hs hfn hls hlen hc he hlt hS
    generalize l.length = n at *
    generalize syms.length = m at *
    go_enter Try.func3, Try.ntmps3
    go_wp2_with fail
    refine (Haw.out w).mono ?_
    rintro e w1 ⟨rfl, hb1⟩
    have Hb1 := Lib.hid hb1
    clear hb1
    go_wp2_with fail
    refine (H2.out w1 Hb1.out).mono ?_
    rintro e w' ⟨rfl, rfl⟩
    clear h1' h2'
    go_wp2_with fail
    refine (H1.out w1 Hb1.out).mono ?_
    rintro e w2 ⟨p, rfl, ht2, hb2⟩
    have Hb2 := Lib.hid (Hb1.out.trans (hb2.mono Hb1.out.size))
    have Ht2 := Lib.hid ht2
    clear hb2 ht2 Hb1
    go_wp2_with fail
    refine (H3.out w2 Hb2.out).mono ?_
    rintro e w3 ⟨g, rfl, hr3, hb3⟩
    have Hb3 := Lib.hid (Hb2.out.trans (hb3.mono Hb2.out.size))
    have Ht3 := Lib.hid (hkeep.out _ _ _ Ht2.out hb3)
    have Hr3 := Lib.hid hr3
    clear hb3 hr3 Hb2 Ht2
    go_wp2_with fail
    refine (H6.out w3 g Hb3.out Hr3.out).mono ?_
    rintro e w4 ⟨rfl, hb4⟩
    have Hb4 := Lib.hid (Hb3.out.trans (hb4.mono Hb3.out.size))
    have Ht4 := Lib.hid (hkeep.out _ _ _ Ht3.out hb4)
    clear hb4 Hb3 Ht3 Hr3
    go_wp2_with fail
    refine (H4.out w4 p Ht4.out Hb4.out).mono ?_
    rintro e w5 ⟨⟨A5, c5, rfl⟩, hb5⟩
    have Hb5 := Lib.hid (Hb4.out.trans (hb5.mono Hb4.out.size))
    have Ht5 := Lib.hid (hkeep.out _ _ _ Ht4.out hb5)
    clear hb5 Hb4 Ht4
    go_wp2_with fail
    refine (H5.out w5 p Ht5.out Hb5.out).mono ?_
    rintro e w6 ⟨rfl, hb6⟩
    simp only [bitsV]
    have Hb6 := Lib.hid (Hb5.out.trans (hb6.mono Hb5.out.size))
    clear hb6 Hb5 Ht5
    go_wp2
    go_ret
    exact ⟨rfl, Hb6.out⟩
  | some t =>
    obtain ⟨N, k⟩ := t
    obtain ⟨hN, hk, hk5⟩ := Bm.code_lt ls lg hfn syms N k hc
    have hk9 : k ≤ 1000 := by
      have h1 : lg * (syms.length + 1) ≤ 9 * 101 := Nat.mul_le_mul hfn.high (by omega)
      omega
    have he : Bm.encB ls lg syms = some (Bm.sealN N k) := by unfold Bm.encB; rw [hc]; rfl
    have hd := Bm.dec_enc ls lg hfn syms _ (by omega) he
    rw [he] at H4
    rw [hc] at H5
    have H6 : Hid (∀ W g, Below w.heap.size w W → Reads W (some ⟨g, 0, none⟩) (c3 (Bm.cellsM ls lg)) → Calls Try.prog 9 #[.slice (some ⟨g, 0, none⟩) S S, .int .i64 (lg : Int), .slice B syms.length d] W fun e w' => ∃ A' c', e = .returned (.tuple #[.slice A' k c', .bool true]) ∧ w'.ownsRow W.heap.size 3 1 (.slice A' k c') k (i64s (Bm.bitsOf N k)) ∧ Below W.heap.size W w') := Lib.hid (fun W g hb hrd => by
      rcases genc_code (some ⟨g, 0, none⟩) B S d ls lg syms W hfn (by omega) hlt hrd (reads_on hs hb) with ⟨h1, _⟩ | ⟨N', n', h1, h2⟩
      · rw [hc] at h1; cases h1
      · rw [hc] at h1
        injection h1 with h1
        injection h1 with e1 e2
        subst e1 e2
        rw [← hS] at h2
        exact h2)
    have hsl := Bm.sealN_length N k
    have hs256 := Bm.sealN_lt N k
    have H7 : Hid (∀ W p A c, TB W p ls lg → Reads W A (u8s (Bm.sealN N k)) → Calls Try.prog 13 #[.pointer (some p), .slice A (k / 8 + 1) c, .int .i64 (syms.length : Int)] W fun e w' => ∃ A' c', e = .returned (.tuple #[.slice A' syms.length c', .bool true]) ∧ Reads w' A' (u8s syms) ∧ Below W.heap.size W w') := Lib.hid (fun W p A c ht hrd => by
      have h1 := hF.dec W p ls lg A c (Bm.sealN N k) (syms.length : Int) hfn ht (by omega) hs256 (by unfold Bm.IntOk; omega) hrd
      rw [hd, hsl] at h1
      exact h1.mono fun e w' ⟨⟨A', c', he, hrd⟩, hb⟩ => ⟨A', c', he, hrd, hb⟩)
    have H8 : Hid (∀ W base A' c', W.ownsRow base 3 1 (.slice A' k c') k (i64s (Bm.bitsOf N k)) → Calls Try.prog 14 #[.slice A' k c'] W fun e w' => ∃ A' c', e = .returned (.slice A' (k / 8 + 1) c') ∧ Reads w' A' (u8s (Bm.sealN N k)) ∧ Below W.heap.size W w') := Lib.hid (fun W base A' c' ho => rseal_bits (by omega) hN ho)
    have H9 : Hid (∀ W A c, Reads W A (u8s (Bm.sealN N k)) → (convert 23 9 (.slice A (k / 8 + 1) c)).run Try.prog W = .ok (.string (strOf (Bm.sealN N k))) W) := Lib.hid (fun W A c hrd => by
      have h1 := conv_bytes W A c (Bm.sealN N k) hs256 hrd
      rw [hsl] at h1
      exact h1)
    have H10 : Hid (∀ W A c, Reads W A (u8s syms) → (convert 23 9 (.slice A syms.length c)).run Try.prog W = .ok (.string (strOf syms)) W) := Lib.hid (fun W A c hrd => conv_bytes W A c syms Hlt.out hrd)
    have H4 : Hid (∀ W p, TB W p ls lg → Below w.heap.size w W → Calls Try.prog 11 #[.pointer (some p), .slice B syms.length d] W fun e w' => (∃ A c, e = .returned (.tuple #[.slice A (k / 8 + 1) c, .bool true]) ∧ Reads w' A (u8s (Bm.sealN N k))) ∧ Below W.heap.size W w') := Lib.hid (fun W p ht hb => by
      have h1 := H4 W p ht hb
      simp only [BytesP, hsl] at h1
      exact h1)
    have H5 := Lib.hid H5
    clear hT hF hr hs hfn hls hlen hc he hlt hS hd hsl hs256 hN hk
    generalize l.length = n at *
    generalize hmm : syms.length = m at *
    clear hmm
    generalize Bm.sealN N k = sl at *
    generalize k / 8 + 1 = q at *
    go_enter Try.func3, Try.ntmps3
    go_wp2_with fail
    refine (Haw.out w).mono ?_
    rintro e w1 ⟨rfl, hb1⟩
    have Hb1 := Lib.hid hb1
    clear hb1
    go_wp2_with fail
    refine (H2.out w1 Hb1.out).mono ?_
    rintro e w' ⟨rfl, rfl⟩
    clear h1' h2'
    go_wp2_with fail
    refine (H1.out w1 Hb1.out).mono ?_
    rintro e w2 ⟨p, rfl, ht2, hb2⟩
    have Hb2 := Lib.hid (Hb1.out.trans (hb2.mono Hb1.out.size))
    have Ht2 := Lib.hid ht2
    clear hb2 ht2 Hb1
    go_wp2_with fail
    refine (H3.out w2 Hb2.out).mono ?_
    rintro e w3 ⟨g, rfl, hr3, hb3⟩
    have Hb3 := Lib.hid (Hb2.out.trans (hb3.mono Hb2.out.size))
    have Ht3 := Lib.hid (hkeep.out _ _ _ Ht2.out hb3)
    have Hr3 := Lib.hid hr3
    clear hb3 hr3 Hb2 Ht2
    go_wp2_with fail
    refine (H6.out w3 g Hb3.out Hr3.out).mono ?_
    rintro e w4 ⟨A4, c4, rfl, ho4, hb4⟩
    have Hb4 := Lib.hid (Hb3.out.trans (hb4.mono Hb3.out.size))
    have Ht4 := Lib.hid (hkeep.out _ _ _ Ht3.out hb4)
    have Ho4 := Lib.hid ho4
    clear hb4 Hb3 Ht3 Hr3 ho4
    go_wp2_with fail
    refine (H4.out w4 p Ht4.out Hb4.out).mono ?_
    rintro e w5 ⟨⟨A5, c5, rfl, hr5⟩, hb5⟩
    have Hb5 := Lib.hid (Hb4.out.trans (hb5.mono Hb4.out.size))
    have Ht5 := Lib.hid (hkeep.out _ _ _ Ht4.out hb5)
    have Ho5 := Lib.hid (own_below Ho4.out hb5)
    have Hr5 := Lib.hid hr5
    clear hb5 Hb4 Ht4 Ho4 hr5
    go_wp2_with fail
    refine (H5.out w5 p Ht5.out Hb5.out).mono ?_
    rintro e w6 ⟨rfl, hb6⟩
    simp only [bitsV]
    have Hb6 := Lib.hid (Hb5.out.trans (hb6.mono Hb5.out.size))
    have Ht6 := Lib.hid (hkeep.out _ _ _ Ht5.out hb6)
    have Ho6 := Lib.hid (own_below Ho5.out hb6)
    have Hr6 := Lib.hid (reads_on Hr5.out hb6)
    clear hb6 Hb5 Ht5 Ho5 Hr5
    go_wp2_with fail
    refine (H7.out w6 p A5 c5 Ht6.out Hr6.out).mono ?_
    rintro e w7 ⟨A7, c7, rfl, hr7, hb7⟩
    have Hb7 := Lib.hid (Hb6.out.trans (hb7.mono Hb6.out.size))
    have Ho7 := Lib.hid (own_below Ho6.out hb7)
    have Hr7 := Lib.hid (reads_on Hr6.out hb7)
    have Hd7 := Lib.hid hr7
    clear hb7 Hb6 Ht6 Ho6 Hr6 hr7
    have hcb : ∀ W, Below w7.heap.size w7 W → (convert 23 9 (.slice A5 q c5)).run Try.prog W = .ok (.string (strOf sl)) W := fun W hb => H9.out W A5 c5 (reads_on Hr7.out hb)
    have hco : ∀ W, Below w7.heap.size w7 W → (convert 23 9 (.slice A7 m c7)).run Try.prog W = .ok (.string (strOf syms)) W := fun W hb => H10.out W A7 c7 (reads_on Hd7.out hb)
    have hcs : ∀ W, Below w7.heap.size w7 W → (convert 23 9 (.slice B m d)).run Try.prog W = .ok (.string (strOf syms)) W := fun W hb => H10.out W B d (reads_on Hs.out (Hb7.out.trans (hb.mono Hb7.out.size)))
    have H8b : Hid (∀ W, Below w7.heap.size w7 W → Calls Try.prog 14 #[.slice A4 k c4] W fun e w' => ∃ A' c', e = .returned (.slice A' q c') ∧ Reads w' A' (u8s sl) ∧ Below W.heap.size W w') := Lib.hid (fun W hb => H8.out W _ A4 c4 (own_below Ho7.out hb))
    clear Hr7 Hd7 Ho7 H1 H2 H3 H4 H5 H6 H7 H8 H10 Haw hkeep Hs Hlt Hfn
    go_wp2_with fail
    refine wp_region_held_drew (S := (fun W => Below w7.heap.size w7 W)) (by kernel_rfl) (by exact (Below.refl w7.heap.size w7).drew) (fun hHeld => ?_)
    refine wpAnyH_take (i := 0) (oi := { dst := some 85, op := Go.Op.move (Go.Operand.tmp 11), type := 23, pos := "law.go:41", after := #[], guard := none }) (v := ?_) rfl (by kernel_rfl) (by kernel_rfl) (by kernel_rfl) (fun _ _ _ h => h) (Or.inl ⟨by rfl, ?_⟩) (by assumption) ?_
    rotate_left
    · (intro w hSw; (try dsimp only at hSw); go_simp; (try with_reducible rfl))
    try simp only [Act.put, List.setIfInBounds_toArray, List.set_cons_zero, List.set_cons_succ]
    refine wpAnyH_take (i := 1) (oi := { dst := some 86, op := Go.Op.convert 23 9 (Go.Operand.tmp 85), type := 9, pos := "law.go:41", after := #[{ on := 0, ground := Go.Ground.data }], guard := none }) (v := ?_) rfl (by kernel_rfl) (by kernel_rfl) (by kernel_rfl) (fun _ _ _ h => h) (Or.inl ⟨by rfl, ?_⟩) (by assumption) ?_
    rotate_left
    · (intro w hSw; (try dsimp only at hSw); go_simp; (try with_reducible rfl))
    try simp only [Act.put, List.setIfInBounds_toArray, List.set_cons_zero, List.set_cons_succ]
    refine wpAnyH_take (i := 2) (oi := { dst := some 87, op := Go.Op.move (Go.Operand.tmp 9), type := 22, pos := "law.go:41", after := #[], guard := none }) (v := ?_) rfl (by kernel_rfl) (by kernel_rfl) (by kernel_rfl) (fun _ _ _ h => h) (Or.inl ⟨by rfl, ?_⟩) (by assumption) ?_
    rotate_left
    · (intro w hSw; (try dsimp only at hSw); go_simp; (try with_reducible rfl))
    try simp only [Act.put, List.setIfInBounds_toArray, List.set_cons_zero, List.set_cons_succ]
    refine wpAnyH_ready (rs := [3]) (by kernel_rfl) (by simp) ?_
    refine AllReadyH.cons (o := { dst := some 88, op := Go.Op.call { callee := Go.Callee.value (Go.Operand.func 14), args := #[Go.Operand.tmp 87], argTypes := #[22] }, type := 23, pos := "law.go:41", after := #[{ on := 2, ground := Go.Ground.data }], guard := none }) rfl (fun K hK => ?_) AllReadyH.nil
    go_simp
    (go_at_call 14; refine (H8b.out _ (Below.refl w7.heap.size w7).drew).mono ?_; rintro e wA ⟨AA, cA, rfl, hrA, hbA⟩; have hcA := H9.out wA AA cA hrA; have HwA := Lib.hid ((Below.refl w7.heap.size w7).drew.trans hbA); clear hrA hbA)
    go_simp
    refine hK.out _ _ (by exact HwA.out) (fun hHeld => ?_)
    clear hK K
    try simp only [Act.put, List.setIfInBounds_toArray, List.set_cons_zero, List.set_cons_succ]
    refine wpAnyH_ready (rs := [4]) (by kernel_rfl) (by simp) ?_
    refine AllReadyH.cons (o := { dst := some 89, op := Go.Op.convert 23 9 (Go.Operand.tmp 88), type := 9, pos := "law.go:41", after := #[{ on := 3, ground := Go.Ground.data }], guard := none }) rfl (fun K hK => ?_) AllReadyH.nil
    go_simp
    refine hK.out _ _ (by exact HwA.out) (fun hHeld => ?_)
    clear hK K
    try simp only [Act.put, List.setIfInBounds_toArray, List.set_cons_zero, List.set_cons_succ]
    refine wpAnyH_take (i := 5) (oi := { dst := some 90, op := Go.Op.binOp Go.BinOp.eql 9 (Go.Operand.tmp 86) (Go.Operand.tmp 89) 9, type := 4, pos := "law.go:41", after := #[{ on := 1, ground := Go.Ground.data }, { on := 4, ground := Go.Ground.data }], guard := none }) (v := ?_) rfl (by kernel_rfl) (by kernel_rfl) (by kernel_rfl) (fun _ _ _ h => h) (Or.inl ⟨by rfl, ?_⟩) (by assumption) ?_
    rotate_left
    · (intro w hSw; (try dsimp only at hSw); go_simp; (try with_reducible rfl))
    try simp only [Act.put, List.setIfInBounds_toArray, List.set_cons_zero, List.set_cons_succ]
    refine wpAnyH_take (i := 6) (oi := { dst := some 91, op := Go.Op.move (Go.Operand.tmp 90), type := 4, pos := "law.go:41", after := #[{ on := 5, ground := Go.Ground.data }, { on := 3, ground := Go.Ground.chain }], guard := none }) (v := ?_) rfl (by kernel_rfl) (by kernel_rfl) (by kernel_rfl) (fun _ _ _ h => h) (Or.inl ⟨by rfl, ?_⟩) (by assumption) ?_
    rotate_left
    · (intro w hSw; (try dsimp only at hSw); go_simp; (try with_reducible rfl))
    try simp only [Act.put, List.setIfInBounds_toArray, List.set_cons_zero, List.set_cons_succ]
    refine wpAnyH_take (i := 7) (oi := { dst := some 92, op := Go.Op.move (Go.Operand.tmp 13), type := 3, pos := "law.go:41", after := #[{ on := 6, ground := Go.Ground.guard }], guard := some (6, true) }) (v := ?_) rfl (by kernel_rfl) (by kernel_rfl) (by kernel_rfl) (fun _ _ _ h => h) (Or.inl ⟨by rfl, ?_⟩) (by assumption) ?_
    rotate_left
    · (intro w hSw; (try dsimp only at hSw); go_simp; (try with_reducible rfl))
    try simp only [Act.put, List.setIfInBounds_toArray, List.set_cons_zero, List.set_cons_succ]
    refine wpAnyH_take (i := 8) (oi := { dst := some 93, op := Go.Op.move (Go.Operand.tmp 9), type := 22, pos := "law.go:41", after := #[{ on := 6, ground := Go.Ground.guard }], guard := some (6, true) }) (v := ?_) rfl (by kernel_rfl) (by kernel_rfl) (by kernel_rfl) (fun _ _ _ h => h) (Or.inl ⟨by rfl, ?_⟩) (by assumption) ?_
    rotate_left
    · (intro w hSw; (try dsimp only at hSw); go_simp; (try with_reducible rfl))
    try simp only [Act.put, List.setIfInBounds_toArray, List.set_cons_zero, List.set_cons_succ]
    refine wpAnyH_take (i := 9) (oi := { dst := some 94, op := Go.Op.call { callee := Go.Callee.builtin Go.Builtin.len, args := #[Go.Operand.tmp 93], argTypes := #[22] }, type := 3, pos := "law.go:41", after := #[{ on := 8, ground := Go.Ground.data }, { on := 6, ground := Go.Ground.guard }], guard := some (6, true) }) (v := ?_) rfl (by kernel_rfl) (by kernel_rfl) (by kernel_rfl) (fun _ _ _ h => h) (Or.inl ⟨by rfl, ?_⟩) (by assumption) ?_
    rotate_left
    · (intro w hSw; (try dsimp only at hSw); go_simp; (try with_reducible rfl))
    try simp only [Act.put, List.setIfInBounds_toArray, List.set_cons_zero, List.set_cons_succ]
    refine wpAnyH_take (i := 10) (oi := { dst := some 95, op := Go.Op.binOp Go.BinOp.eql 3 (Go.Operand.tmp 92) (Go.Operand.tmp 94) 3, type := 4, pos := "law.go:41", after := #[{ on := 7, ground := Go.Ground.data }, { on := 9, ground := Go.Ground.data }, { on := 6, ground := Go.Ground.guard }], guard := some (6, true) }) (v := ?_) rfl (by kernel_rfl) (by kernel_rfl) (by kernel_rfl) (fun _ _ _ h => h) (Or.inl ⟨by rfl, ?_⟩) (by assumption) ?_
    rotate_left
    · (intro w hSw; (try dsimp only at hSw); go_simp; (try with_reducible rfl))
    try simp only [Act.put, List.setIfInBounds_toArray, List.set_cons_zero, List.set_cons_succ]
    refine wpAnyH_take (i := 11) (oi := { dst := some 96, op := Go.Op.pick (Go.Operand.tmp 91) (Go.Operand.tmp 95) (Go.Operand.const (Go.Value.bool false)), type := 4, pos := "law.go:41", after := #[{ on := 6, ground := Go.Ground.data }, { on := 10, ground := Go.Ground.data }], guard := none }) (v := ?_) rfl (by kernel_rfl) (by kernel_rfl) (by kernel_rfl) (fun _ _ _ h => h) (Or.inl ⟨by rfl, ?_⟩) (by assumption) ?_
    rotate_left
    · (intro w hSw; (try dsimp only at hSw); go_simp; (try with_reducible rfl))
    try simp only [Act.put, List.setIfInBounds_toArray, List.set_cons_zero, List.set_cons_succ]
    refine wpAnyH_take (i := 12) (oi := { dst := some 97, op := Go.Op.move (Go.Operand.tmp 96), type := 4, pos := "law.go:41", after := #[{ on := 11, ground := Go.Ground.data }, { on := 6, ground := Go.Ground.chain }], guard := none }) (v := ?_) rfl (by kernel_rfl) (by kernel_rfl) (by kernel_rfl) (fun _ _ _ h => h) (Or.inl ⟨by rfl, ?_⟩) (by assumption) ?_
    rotate_left
    · (intro w hSw; (try dsimp only at hSw); go_simp; (try with_reducible rfl))
    try simp only [Act.put, List.setIfInBounds_toArray, List.set_cons_zero, List.set_cons_succ]
    refine wpAnyH_take (i := 13) (oi := { dst := some 98, op := Go.Op.move (Go.Operand.tmp 16), type := 4, pos := "law.go:41", after := #[{ on := 12, ground := Go.Ground.guard }], guard := some (12, true) }) (v := ?_) rfl (by kernel_rfl) (by kernel_rfl) (by kernel_rfl) (fun _ _ _ h => h) (Or.inl ⟨by rfl, ?_⟩) (by assumption) ?_
    rotate_left
    · (intro w hSw; (try dsimp only at hSw); go_simp; (try with_reducible rfl))
    try simp only [Act.put, List.setIfInBounds_toArray, List.set_cons_zero, List.set_cons_succ]
    refine wpAnyH_take (i := 14) (oi := { dst := some 99, op := Go.Op.pick (Go.Operand.tmp 97) (Go.Operand.tmp 98) (Go.Operand.const (Go.Value.bool false)), type := 4, pos := "law.go:41", after := #[{ on := 12, ground := Go.Ground.data }, { on := 13, ground := Go.Ground.data }], guard := none }) (v := ?_) rfl (by kernel_rfl) (by kernel_rfl) (by kernel_rfl) (fun _ _ _ h => h) (Or.inl ⟨by rfl, ?_⟩) (by assumption) ?_
    rotate_left
    · (intro w hSw; (try dsimp only at hSw); go_simp; (try with_reducible rfl))
    try simp only [Act.put, List.setIfInBounds_toArray, List.set_cons_zero, List.set_cons_succ]
    refine wpAnyH_take (i := 15) (oi := { dst := some 100, op := Go.Op.move (Go.Operand.tmp 99), type := 4, pos := "law.go:41", after := #[{ on := 14, ground := Go.Ground.data }, { on := 12, ground := Go.Ground.chain }], guard := none }) (v := ?_) rfl (by kernel_rfl) (by kernel_rfl) (by kernel_rfl) (fun _ _ _ h => h) (Or.inl ⟨by rfl, ?_⟩) (by assumption) ?_
    rotate_left
    · (intro w hSw; (try dsimp only at hSw); go_simp; (try with_reducible rfl))
    try simp only [Act.put, List.setIfInBounds_toArray, List.set_cons_zero, List.set_cons_succ]
    refine wpAnyH_take (i := 16) (oi := { dst := some 101, op := Go.Op.move (Go.Operand.tmp 15), type := 23, pos := "law.go:41", after := #[{ on := 15, ground := Go.Ground.guard }], guard := some (15, true) }) (v := ?_) rfl (by kernel_rfl) (by kernel_rfl) (by kernel_rfl) (fun _ _ _ h => h) (Or.inl ⟨by rfl, ?_⟩) (by assumption) ?_
    rotate_left
    · (intro w hSw; (try dsimp only at hSw); go_simp; (try with_reducible rfl))
    try simp only [Act.put, List.setIfInBounds_toArray, List.set_cons_zero, List.set_cons_succ]
    refine wpAnyH_take (i := 17) (oi := { dst := some 102, op := Go.Op.convert 23 9 (Go.Operand.tmp 101), type := 9, pos := "law.go:41", after := #[{ on := 16, ground := Go.Ground.data }, { on := 15, ground := Go.Ground.guard }], guard := some (15, true) }) (v := ?_) rfl (by kernel_rfl) (by kernel_rfl) (by kernel_rfl) (fun _ _ _ h => h) (Or.inl ⟨by rfl, ?_⟩) (by assumption) ?_
    rotate_left
    · (intro w hSw; (try dsimp only at hSw); go_simp; (try with_reducible rfl))
    try simp only [Act.put, List.setIfInBounds_toArray, List.set_cons_zero, List.set_cons_succ]
    refine wpAnyH_take (i := 18) (oi := { dst := some 103, op := Go.Op.move (Go.Operand.tmp 2), type := 23, pos := "law.go:41", after := #[{ on := 15, ground := Go.Ground.guard }], guard := some (15, true) }) (v := ?_) rfl (by kernel_rfl) (by kernel_rfl) (by kernel_rfl) (fun _ _ _ h => h) (Or.inl ⟨by rfl, ?_⟩) (by assumption) ?_
    rotate_left
    · (intro w hSw; (try dsimp only at hSw); go_simp; (try with_reducible rfl))
    try simp only [Act.put, List.setIfInBounds_toArray, List.set_cons_zero, List.set_cons_succ]
    refine wpAnyH_take (i := 19) (oi := { dst := some 104, op := Go.Op.convert 23 9 (Go.Operand.tmp 103), type := 9, pos := "law.go:41", after := #[{ on := 18, ground := Go.Ground.data }, { on := 15, ground := Go.Ground.guard }], guard := some (15, true) }) (v := ?_) rfl (by kernel_rfl) (by kernel_rfl) (by kernel_rfl) (fun _ _ _ h => h) (Or.inl ⟨by rfl, ?_⟩) (by assumption) ?_
    rotate_left
    · (intro w hSw; (try dsimp only at hSw); go_simp; (try with_reducible rfl))
    try simp only [Act.put, List.setIfInBounds_toArray, List.set_cons_zero, List.set_cons_succ]
    refine wpAnyH_take (i := 20) (oi := { dst := some 105, op := Go.Op.binOp Go.BinOp.eql 9 (Go.Operand.tmp 102) (Go.Operand.tmp 104) 9, type := 4, pos := "law.go:41", after := #[{ on := 17, ground := Go.Ground.data }, { on := 19, ground := Go.Ground.data }, { on := 15, ground := Go.Ground.guard }], guard := some (15, true) }) (v := ?_) rfl (by kernel_rfl) (by kernel_rfl) (by kernel_rfl) (fun _ _ _ h => h) (Or.inl ⟨by rfl, ?_⟩) (by assumption) ?_
    rotate_left
    · (intro w hSw; (try dsimp only at hSw); go_simp; (try with_reducible rfl))
    try simp only [Act.put, List.setIfInBounds_toArray, List.set_cons_zero, List.set_cons_succ]
    refine wpAnyH_take (i := 21) (oi := { dst := some 106, op := Go.Op.pick (Go.Operand.tmp 100) (Go.Operand.tmp 105) (Go.Operand.const (Go.Value.bool false)), type := 4, pos := "law.go:41", after := #[{ on := 15, ground := Go.Ground.data }, { on := 20, ground := Go.Ground.data }], guard := none }) (v := ?_) rfl (by kernel_rfl) (by kernel_rfl) (by kernel_rfl) (fun _ _ _ h => h) (Or.inl ⟨by rfl, ?_⟩) (by assumption) ?_
    rotate_left
    · (intro w hSw; (try dsimp only at hSw); go_simp; (try with_reducible rfl))
    try simp only [Act.put, List.setIfInBounds_toArray, List.set_cons_zero, List.set_cons_succ]
    refine wpAnyH_take (i := 22) (oi := { dst := some 6, op := Go.Op.assign (Go.Operand.tmp 106), type := 4, pos := "law.go:41", after := #[{ on := 21, ground := Go.Ground.data }, { on := 15, ground := Go.Ground.chain }, { on := 0, ground := Go.Ground.phase }, { on := 1, ground := Go.Ground.phase }, { on := 2, ground := Go.Ground.phase }, { on := 3, ground := Go.Ground.phase }, { on := 4, ground := Go.Ground.phase }, { on := 5, ground := Go.Ground.phase }, { on := 6, ground := Go.Ground.phase }, { on := 7, ground := Go.Ground.phase }, { on := 8, ground := Go.Ground.phase }, { on := 9, ground := Go.Ground.phase }, { on := 10, ground := Go.Ground.phase }, { on := 11, ground := Go.Ground.phase }, { on := 12, ground := Go.Ground.phase }, { on := 13, ground := Go.Ground.phase }, { on := 14, ground := Go.Ground.phase }, { on := 15, ground := Go.Ground.phase }, { on := 16, ground := Go.Ground.phase }, { on := 17, ground := Go.Ground.phase }, { on := 18, ground := Go.Ground.phase }, { on := 19, ground := Go.Ground.phase }, { on := 20, ground := Go.Ground.phase }, { on := 21, ground := Go.Ground.phase }], guard := none }) (v := ?_) rfl (by kernel_rfl) (by kernel_rfl) (by kernel_rfl) (fun _ _ _ h => h) (Or.inl ⟨by rfl, ?_⟩) (by assumption) ?_
    rotate_left
    · (intro w hSw; (try dsimp only at hSw); go_simp; (try with_reducible rfl))
    try simp only [Act.put, List.setIfInBounds_toArray, List.set_cons_zero, List.set_cons_succ]
    refine wpAnyH_done (by kernel_rfl) ?_ _
    go_wp2
    go_ret
    exact ⟨rfl, Hb7.out.trans (HwA.out.mono Hb7.out.size)⟩
end Go.Proofs.Ytjlfgfoalfiajaa

namespace Go.Proofs.Ytjlfgfoalfiajaa
open Go.RowKit

set_option maxHeartbeats 1000000 in
set_option maxRecDepth 100000 in
theorem eany_long {TB : World → Addr → List Nat → Nat → Prop} (hT : TabOk TB) (hF : FseOk TB) (A B : Option Addr) (n c m d : Nat) (n0 n1 : Int) (w : World) (h : 300 < n ∨ 60 < m ∨ (500 < n1 ∧ n1 ≤ 1048576)) (hn : n ≤ 9223372036854775807) (hm : m ≤ 9223372036854775807) :
    Calls Try.prog 4 #[.slice A n c, .slice B m d, .agg #[.int .i64 n0, .int .i64 n1]] w fun e w' => e = .returned (.bool true) ∧ Below w.heap.size w w' := by
  have Haw := Lib.hid (eawake_of hT hF)
  clear hT hF
  obtain ⟨w0, hw0⟩ : ∃ w0, w0 = w.alloc (.cells #[.int .i64 n0, .int .i64 n1] 40) := ⟨_, rfl⟩
  have Hw0 := Lib.hid hw0
  have Hb0 : Hid (Below w.heap.size w w0) := Lib.hid (by rw [hw0]; exact (Below.refl _ _).alloc (Nat.le_refl _) _)
  have hc0 : w0.cell? ⟨w.heap.size, 0, none⟩ = some (.int .i64 n0) := by rw [hw0, World.cell?_alloc_new]; rfl
  have hc1 : w0.cell? ⟨w.heap.size, 1, none⟩ = some (.int .i64 n1) := by rw [hw0, World.cell?_alloc_new]; rfl
  have hlt : w.heap.size < w0.heap.size := by rw [hw0]; simp
  have Hc : Hid (∀ W, Below w0.heap.size w0 W → W.cell? ⟨w.heap.size, 0, none⟩ = some (.int .i64 n0) ∧ W.cell? ⟨w.heap.size, 1, none⟩ = some (.int .i64 n1)) := Lib.hid (fun W hb => ⟨by rw [hb.cell (p := ⟨w.heap.size, 0, none⟩) hlt]; exact hc0, by rw [hb.cell (p := ⟨w.heap.size, 1, none⟩) hlt]; exact hc1⟩)
  clear hw0 hc0 hc1 hlt
  by_cases h1 : 300 < n
  · clear h
    go_enter Try.func4, Try.ntmps4
    go_wp2_with fail
    rw [← Hw0.out]
    refine (Haw.out w0).mono ?_
    rintro e w1 ⟨rfl, hb1⟩
    obtain ⟨d0, d1⟩ := Hc.out w1 hb1
    have Hb1 := Lib.hid (Hb0.out.trans (hb1.mono Hb0.out.size))
    clear hb1
    go_wp2
    go_ret
    exact ⟨rfl, Hb1.out⟩
  by_cases h2 : 60 < m
  · have h1' : n ≤ 300 := by omega
    clear h h1
    go_enter Try.func4, Try.ntmps4
    go_wp2_with fail
    rw [← Hw0.out]
    refine (Haw.out w0).mono ?_
    rintro e w1 ⟨rfl, hb1⟩
    obtain ⟨d0, d1⟩ := Hc.out w1 hb1
    have Hb1 := Lib.hid (Hb0.out.trans (hb1.mono Hb0.out.size))
    clear hb1
    go_wp2
    go_ret
    exact ⟨rfl, Hb1.out⟩
  have h1' : n ≤ 300 := by omega
  have h2' : m ≤ 60 := by omega
  obtain ⟨h3, h4⟩ : 500 < n1 ∧ n1 ≤ 1048576 := by omega
  clear h h1 h2
  go_enter Try.func4, Try.ntmps4
  go_wp2_with fail
  rw [← Hw0.out]
  refine (Haw.out w0).mono ?_
  rintro e w1 ⟨rfl, hb1⟩
  obtain ⟨d0, d1⟩ := Hc.out w1 hb1
  have Hb1 := Lib.hid (Hb0.out.trans (hb1.mono Hb0.out.size))
  clear hb1
  go_wp2
  go_ret
  exact ⟨rfl, Hb1.out⟩

/-- The law's array in its box. -/
theorem box_ints (w : World) (n0 n1 : Int) : ∃ w0, w0 = w.alloc (.cells #[.int .i64 n0, .int .i64 n1] 40) ∧ Below w.heap.size w w0 ∧ ∀ W, Below w0.heap.size w0 W → W.cell? ⟨w.heap.size, 0, none⟩ = some (.int .i64 n0) ∧ W.cell? ⟨w.heap.size, 1, none⟩ = some (.int .i64 n1) := by
  refine ⟨_, rfl, (Below.refl _ _).alloc (Nat.le_refl _) _, fun W hb => ?_⟩
  have hlt : w.heap.size < (w.alloc (.cells #[.int .i64 n0, .int .i64 n1] 40)).heap.size := by simp
  exact ⟨by rw [hb.cell (p := ⟨w.heap.size, 0, none⟩) hlt, World.cell?_alloc_new]; rfl, by rw [hb.cell (p := ⟨w.heap.size, 1, none⟩) hlt, World.cell?_alloc_new]; rfl⟩

set_option maxHeartbeats 1000000 in
set_option maxRecDepth 100000 in
theorem eany_unfair {TB : World → Addr → List Nat → Nat → Prop} (hT : TabOk TB) (hF : FseOk TB) (A B : Option Addr) (c m d : Nat) (l : List Int) (n0 n1 : Int) (w : World) (h : l.length ≤ 300) (hm : m ≤ 60) (hn1 : n1 ≤ 500 ∨ 1048576 < n1) (hr : Reads w A (i64z l)) (hf : ¬ Bm.Fair l n0) :
    Calls Try.prog 4 #[.slice A l.length c, .slice B m d, .agg #[.int .i64 n0, .int .i64 n1]] w fun e w' => e = .returned (.bool true) ∧ Below w.heap.size w w' := by
  have Haw := Lib.hid (eawake_of hT hF)
  have hfb : Bm.fairB l n0 = false := decide_eq_false hf
  have H2 : Hid (∀ W, Below w.heap.size w W → Calls Try.prog 7 #[.slice A l.length c, .int .i64 n0] W fun e w' => e = .returned (.bool false) ∧ W = w') := Lib.hid (fun W hb => by
    have h1 := hfair_any A c l n0 W (by omega) (reads_on hr hb)
    rw [hfb] at h1
    exact h1)
  obtain ⟨w0, hw0, hb0, hc⟩ := box_ints w n0 n1
  have Hw0 := Lib.hid hw0
  have Hb0 := Lib.hid hb0
  have Hc := Lib.hid hc
  clear hT hF hr hf hfb hw0 hb0 hc
  generalize l.length = n at *
  by_cases h5 : n1 ≤ 500
  all_goals
    have h6 : n1 ≤ 500 ∨ 1048576 < n1 := hn1
    first
    | (have h7 : n1 ≤ 500 := h5; clear hn1 h6 h5)
    | (have h7 : 1048576 < n1 := by omega
       clear hn1 h6 h5)
    go_enter Try.func4, Try.ntmps4
    go_wp2_with fail
    rw [← Hw0.out]
    refine (Haw.out w0).mono ?_
    rintro e w1 ⟨rfl, hb1⟩
    obtain ⟨d0, d1⟩ := Hc.out w1 hb1
    have Hb1 := Lib.hid (Hb0.out.trans (hb1.mono Hb0.out.size))
    clear hb1
    go_wp2_with fail
    refine (H2.out w1 Hb1.out).mono ?_
    rintro e w' ⟨rfl, rfl⟩
    go_wp2
    go_ret
    exact ⟨rfl, Hb1.out⟩

/-- What the reference's Decode answers, by the bytes. -/
theorem gdec_code (A B : Option Addr) (c d : Nat) (ls : List Nat) (log : Nat) (bs : List Nat) (n : Int) (w : World) (h : Bm.FairN ls log) (hl : bs.length ≤ 1000) (hn : Bm.IntOk n) (hlt : ∀ x ∈ bs, x < 256) (hr : Reads w A (c3 (Bm.cellsM ls log))) (hs : Reads w B (u8s bs)) :
    (Bm.decB ls log bs n = none ∧ Calls Try.prog 15 #[.slice A (2 ^ log) c, .int .i64 (log : Int), .slice B bs.length d, .int .i64 n] w fun e w' => e = .returned (.tuple #[.slice none 0 0, .bool false]) ∧ Below w.heap.size w w') ∨
    ∃ l, Bm.decB ls log bs n = some l ∧ Calls Try.prog 15 #[.slice A (2 ^ log) c, .int .i64 (log : Int), .slice B bs.length d, .int .i64 n] w fun e w' => ∃ A' c', e = .returned (.tuple #[.slice A' l.length c', .bool true]) ∧ Reads w' A' (u8s l) ∧ Below w.heap.size w w' := by
  have hx : ∀ r, (Calls Try.prog 15 #[.slice A (2 ^ log) c, .int .i64 (log : Int), .slice B bs.length d, .int .i64 n] w fun e w' => DecA w.heap.size w' e r ∧ Below w.heap.size w w') → Bm.decB ls log bs n = r →
      (Bm.decB ls log bs n = none ∧ Calls Try.prog 15 #[.slice A (2 ^ log) c, .int .i64 (log : Int), .slice B bs.length d, .int .i64 n] w fun e w' => e = .returned (.tuple #[.slice none 0 0, .bool false]) ∧ Below w.heap.size w w') ∨
      ∃ l, Bm.decB ls log bs n = some l ∧ Calls Try.prog 15 #[.slice A (2 ^ log) c, .int .i64 (log : Int), .slice B bs.length d, .int .i64 n] w fun e w' => ∃ A' c', e = .returned (.tuple #[.slice A' l.length c', .bool true]) ∧ Reads w' A' (u8s l) ∧ Below w.heap.size w w' := by
    intro r h1 hd
    cases r with
    | none => exact .inl ⟨hd, h1⟩
    | some l =>
      refine .inr ⟨l, hd, h1.mono ?_⟩
      rintro e w' ⟨⟨u, rfl, ho⟩, hb⟩
      obtain ⟨A', c', rfl, hrd, _⟩ := own_reads ho
      exact ⟨A', c', rfl, hrd, hb⟩
  rcases ropen_bits B d bs w (by omega) hlt hs with ⟨ho, hop⟩ | ⟨M, L, ho, hop⟩
  · refine hx _ (gdec_any A B c d bs.length ls log 0 0 false n w h hn (by omega) (by omega) hr (hop.mono fun e w' ⟨he, hb⟩ => ⟨none, 0, he, Nat.le_refl _, by unfold maxLen; omega, fun hne => absurd rfl hne, hb⟩)) ?_
    unfold Bm.decB Bm.decA
    rw [ho, if_neg (by simp)]
    rfl
  · obtain ⟨hM, _, hL⟩ := Bm.seal_open bs M L hlt ho
    refine hx _ (gdec_any A B c d bs.length ls log M L true n w h hn (by omega) hM hr hop) ?_
    unfold Bm.decB
    rw [ho]
    rfl

set_option maxHeartbeats 2000000 in
set_option maxRecDepth 100000 in
theorem eany_fair {TB : World → Addr → List Nat → Nat → Prop} (hT : TabOk TB) (hF : FseOk TB) (A B : Option Addr) (c d : Nat) (l : List Int) (bs : List Nat) (n0 n1 : Int) (w : World) (h : l.length ≤ 300) (hm : bs.length ≤ 60) (hn1 : n1 ≤ 500 ∨ 1048576 < n1) (hok : ∀ x ∈ l, Bm.IntOk x) (h0 : Bm.IntOk n0) (h1 : Bm.IntOk n1) (hlt : ∀ x ∈ bs, x < 256) (hr : Reads w A (i64z l)) (hs : Reads w B (u8s bs)) (hf : Bm.Fair l n0) :
    Calls Try.prog 4 #[.slice A l.length c, .slice B bs.length d, .agg #[.int .i64 n0, .int .i64 n1]] w fun e w' => e = .returned (.bool true) ∧ Below w.heap.size w w' := by
  have Haw := Lib.hid (eawake_of hT hF)
  have hfn := Bm.fair_n l n0 hf
  have hls : i64s (l.map Int.toNat) = i64z l := by rw [← i64z_nat, Bm.fair_map l n0 hf]
  have hlen : (l.map Int.toNat).length = l.length := by simp
  have hl9 : (n0.toNat : Int) = n0 := by have := hf.1; omega
  have hfb : Bm.fairB l n0 = true := decide_eq_true hf
  have H1 : Hid (∀ W, Below w.heap.size w W → Calls Try.prog 8 #[.slice A l.length c, .int .i64 n0] W fun e w' => ∃ p, e = .returned (.tuple #[.pointer (some p), .bool true]) ∧ TB w' p (l.map Int.toNat) n0.toNat ∧ Below W.heap.size W w') := Lib.hid (fun W hb => hT.build A c l n0 W (by omega) hok h0 (reads_on hr hb) hf)
  have H2 : Hid (∀ W, Below w.heap.size w W → Calls Try.prog 7 #[.slice A l.length c, .int .i64 n0] W fun e w' => e = .returned (.bool true) ∧ W = w') := Lib.hid (fun W hb => by
    have h1 := hfair_any A c l n0 W (by omega) (reads_on hr hb)
    rw [hfb] at h1
    exact h1)
  generalize hlsn : l.map Int.toNat = ls at hfn hls hlen H1
  generalize hlgn : n0.toNat = lg at hfn hl9 H1
  clear hlsn hlgn hfb hf hok h0
  subst hl9
  obtain ⟨S, hS⟩ : ∃ S, S = 2 ^ lg := ⟨_, rfl⟩
  have H3 : Hid (∀ W, Below w.heap.size w W → Calls Try.prog 10 #[.slice A l.length c, .int .i64 (lg : Int)] W fun e w' => ∃ g, e = .returned (.slice (some ⟨g, 0, none⟩) S S) ∧ Reads w' (some ⟨g, 0, none⟩) (c3 (Bm.cellsM ls lg)) ∧ Below W.heap.size W w') := Lib.hid (fun W hb => by
    have h1 := jbuild_any A c ls lg W hfn (by rw [hls]; exact reads_on hr hb)
    rw [hlen, ← hS] at h1
    exact h1.mono fun e w' ⟨g, he, _, hrow, hb⟩ => ⟨g, he, row_reads hrow, hb⟩)
  have H4 := fun W p (ht : TB W p ls lg) (hb : Below w.heap.size w W) => hF.dec W p ls lg B d bs n1 hfn ht (by omega) hlt h1 (reads_on hs hb)
  have H5 := fun W g (hb : Below w.heap.size w W) (hrd : Reads W (some ⟨g, 0, none⟩) (c3 (Bm.cellsM ls lg))) => gdec_code (some ⟨g, 0, none⟩) B S d ls lg bs n1 W hfn (by omega) h1 hlt hrd (reads_on hs hb)
  have hkeep := Lib.hid (fun w W p => hT.keep w W p ls lg)
  have Hlt := Lib.hid hlt
  have Hs := Lib.hid hs
  obtain ⟨w0, hw0, hb0, hcx⟩ := box_ints w (lg : Int) n1
  have Hw0 := Lib.hid hw0
  have Hb0 := Lib.hid hb0
  have Hc := Lib.hid hcx
  clear hw0 hb0 hcx
  have hway : n1 ≤ 500 ∨ 1048576 < n1 := hn1
  cases hc : Bm.decB ls lg bs n1 with
  | none =>
    rw [hc] at H4
    have H6 : Hid (∀ W g, Below w.heap.size w W → Reads W (some ⟨g, 0, none⟩) (c3 (Bm.cellsM ls lg)) → Calls Try.prog 15 #[.slice (some ⟨g, 0, none⟩) S S, .int .i64 (lg : Int), .slice B bs.length d, .int .i64 n1] W fun e w' => e = .returned (.tuple #[.slice none 0 0, .bool false]) ∧ Below W.heap.size W w') := Lib.hid (fun W g hb hrd => by
      rcases H5 W g hb hrd with ⟨_, h1⟩ | ⟨l', h1, _⟩
      · rw [← hS] at h1; exact h1
      · rw [hc] at h1; cases h1)
    have H4 := Lib.hid H4
    have H11 : Hid (∀ W A c, (convert 23 9 (.slice A 0 c)).run Try.prog W = .ok (.string (strOf [])) W) := Lib.hid (fun W A c => conv_bytes W A c [] (by simp) (fun h => absurd rfl h))
    clear hT hF hr hs hfn hls hlen hc hlt hS H5 h1
    generalize l.length = n at *
    generalize bs.length = m at *
    by_cases h5 : n1 ≤ 500
    all_goals
      first
      | (have h7 : n1 ≤ 500 := h5; clear hn1 hway h5)
      | (have h7 : 1048576 < n1 := by omega
         clear hn1 hway h5)
      go_enter Try.func4, Try.ntmps4
      go_wp2_with fail
      rw [← Hw0.out]
      refine (Haw.out w0).mono ?_
      rintro e w1 ⟨rfl, hb1⟩
      obtain ⟨d0, d1⟩ := Hc.out w1 hb1
      have Hx1 := Lib.hid hb1
      have Hb1 := Lib.hid (Hb0.out.trans (hb1.mono Hb0.out.size))
      clear hb1
      go_wp2_with fail
      refine (H2.out w1 Hb1.out).mono ?_
      rintro e w' ⟨rfl, rfl⟩
      clear d0 d1
      go_wp2_with fail
      refine (H1.out w1 Hb1.out).mono ?_
      rintro e w2 ⟨p, rfl, ht2, hb2⟩
      have Hx2 := Lib.hid (Hx1.out.trans (hb2.mono Hx1.out.size))
      have Hb2 := Lib.hid (Hb1.out.trans (hb2.mono Hb1.out.size))
      have Ht2 := Lib.hid ht2
      obtain ⟨d0, d1⟩ := Hc.out w2 Hx2.out
      clear hb2 ht2 Hb1 Hx1
      go_wp2_with fail
      refine (H4.out w2 p Ht2.out Hb2.out).mono ?_
      rintro e w3 ⟨⟨A3, c3, rfl⟩, hb3⟩
      have Hx3 := Lib.hid (Hx2.out.trans (hb3.mono Hx2.out.size))
      have Hb3 := Lib.hid (Hb2.out.trans (hb3.mono Hb2.out.size))
      clear hb3 Hb2 Ht2 Hx2 d0 d1
      have hbox : ∀ W, Below w3.heap.size w3 W → W.cell? ⟨w.heap.size, 1, none⟩ = some (.int .i64 n1) := fun W hb => (Hc.out W (Hx3.out.trans (hb.mono Hx3.out.size))).2
      go_wp2_with fail
      refine wp_region_held_drew (S := (fun W => Below w3.heap.size w3 W)) (by kernel_rfl) (by exact (Below.refl w3.heap.size w3).drew) (fun hHeld => ?_)
      refine wpAnyH_take (i := 0) (oi := { dst := some 59, op := Go.Op.move (Go.Operand.tmp 0), type := 22, pos := "law.go:55", after := #[], guard := none }) (v := ?_) rfl (by kernel_rfl) (by kernel_rfl) (by kernel_rfl) (fun _ _ _ h => h) (Or.inl ⟨by rfl, ?_⟩) (by assumption) ?_
      rotate_left
      · (intro w hSw; (try dsimp only at hSw); go_simp; (try with_reducible rfl))
      try simp only [Act.put, List.setIfInBounds_toArray, List.set_cons_zero, List.set_cons_succ]
      refine wpAnyH_take (i := 1) (oi := { dst := some 60, op := Go.Op.move (Go.Operand.tmp 7), type := 3, pos := "law.go:55", after := #[], guard := none }) (v := ?_) rfl (by kernel_rfl) (by kernel_rfl) (by kernel_rfl) (fun _ _ _ h => h) (Or.inl ⟨by rfl, ?_⟩) (by assumption) ?_
      rotate_left
      · (intro w hSw; (try dsimp only at hSw); go_simp; (try with_reducible rfl))
      try simp only [Act.put, List.setIfInBounds_toArray, List.set_cons_zero, List.set_cons_succ]
      refine wpAnyH_take (i := 3) (oi := { dst := some 62, op := Go.Op.move (Go.Operand.tmp 7), type := 3, pos := "law.go:55", after := #[], guard := none }) (v := ?_) rfl (by kernel_rfl) (by kernel_rfl) (by kernel_rfl) (fun _ _ _ h => h) (Or.inl ⟨by rfl, ?_⟩) (by assumption) ?_
      rotate_left
      · (intro w hSw; (try dsimp only at hSw); go_simp; (try with_reducible rfl))
      try simp only [Act.put, List.setIfInBounds_toArray, List.set_cons_zero, List.set_cons_succ]
      refine wpAnyH_take (i := 4) (oi := { dst := some 63, op := Go.Op.move (Go.Operand.tmp 1), type := 23, pos := "law.go:55", after := #[], guard := none }) (v := ?_) rfl (by kernel_rfl) (by kernel_rfl) (by kernel_rfl) (fun _ _ _ h => h) (Or.inl ⟨by rfl, ?_⟩) (by assumption) ?_
      rotate_left
      · (intro w hSw; (try dsimp only at hSw); go_simp; (try with_reducible rfl))
      try simp only [Act.put, List.setIfInBounds_toArray, List.set_cons_zero, List.set_cons_succ]
      refine wpAnyH_take (i := 5) (oi := { dst := some 64, op := Go.Op.indexAddr 40 (Go.Operand.tmp 5) (Go.Operand.const (Go.Value.int Go.IntKind.i64 1)), type := 0, pos := "law.go:55", after := #[], guard := none }) (v := ?_) rfl (by kernel_rfl) (by kernel_rfl) (by kernel_rfl) (fun _ _ _ h => h) (Or.inl ⟨by rfl, ?_⟩) (by assumption) ?_
      rotate_left
      · (intro w hSw; (try dsimp only at hSw); go_simp; (try with_reducible rfl))
      try simp only [Act.put, List.setIfInBounds_toArray, List.set_cons_zero, List.set_cons_succ]
      refine wpAnyH_take (i := 6) (oi := { dst := some 65, op := Go.Op.load 3 (Go.Operand.tmp 64), type := 3, pos := "law.go:55", after := #[{ on := 5, ground := Go.Ground.data }], guard := none }) (v := ?_) rfl (by kernel_rfl) (by kernel_rfl) (by kernel_rfl) (fun _ _ _ h => h) (Or.inl ⟨by rfl, ?_⟩) (by assumption) ?_
      rotate_left
      · (intro w hSw; (try dsimp only at hSw); go_simp; (try with_reducible rfl))
      try simp only [Act.put, List.setIfInBounds_toArray, List.set_cons_zero, List.set_cons_succ]
      refine wpAnyH_ready (rs := [2]) (by kernel_rfl) (by simp) ?_
      refine AllReadyH.cons (o := { dst := some 61, op := Go.Op.call { callee := Go.Callee.value (Go.Operand.func 10), args := #[Go.Operand.tmp 59, Go.Operand.tmp 60], argTypes := #[22, 3] }, type := 31, pos := "law.go:55", after := #[{ on := 0, ground := Go.Ground.data }, { on := 1, ground := Go.Ground.data }], guard := none }) rfl (fun K hK => ?_) AllReadyH.nil
      go_simp
      (go_at_call 10; refine (H3.out _ (Hb3.out.trans ((Below.refl w3.heap.size w3).drew.mono Hb3.out.size))).mono ?_; rintro e wA ⟨gA, rfl, hrA, hbA⟩; have HrA := Lib.hid hrA; have HwA := Lib.hid ((Below.refl w3.heap.size w3).drew.trans hbA); clear hrA hbA)
      go_simp
      refine hK.out _ _ (by exact HwA.out) (fun hHeld => ?_)
      clear hK K
      try simp only [Act.put, List.setIfInBounds_toArray, List.set_cons_zero, List.set_cons_succ]
      refine wpAnyH_ready (rs := [7]) (by kernel_rfl) (by simp) ?_
      refine AllReadyH.cons (o := { dst := some 66, op := Go.Op.call { callee := Go.Callee.value (Go.Operand.func 15), args := #[Go.Operand.tmp 61, Go.Operand.tmp 62, Go.Operand.tmp 63, Go.Operand.tmp 65], argTypes := #[31, 3, 23, 3] }, type := 33, pos := "law.go:55", after := #[{ on := 2, ground := Go.Ground.data }, { on := 3, ground := Go.Ground.data }, { on := 4, ground := Go.Ground.data }, { on := 6, ground := Go.Ground.data }, { on := 2, ground := Go.Ground.chain }], guard := none }) rfl (fun K hK => ?_) AllReadyH.nil
      go_simp
      (go_at_call 15; refine (H6.out _ gA (Hb3.out.trans (HwA.out.mono Hb3.out.size)) HrA.out).mono ?_; rintro e wB ⟨rfl, hbB⟩; have HwB := Lib.hid (HwA.out.trans (hbB.mono HwA.out.size)); clear hbB)
      go_simp
      refine hK.out _ _ (by exact HwB.out) (fun hHeld => ?_)
      clear hK K
      try simp only [Act.put, List.setIfInBounds_toArray, List.set_cons_zero, List.set_cons_succ]
      refine wpAnyH_take (i := 8) (oi := { dst := some 58, op := Go.Op.move (Go.Operand.tmp 66), type := 33, pos := "law.go:55", after := #[{ on := 7, ground := Go.Ground.data }], guard := none }) (v := ?_) rfl (by kernel_rfl) (by kernel_rfl) (by kernel_rfl) (fun _ _ _ h => h) (Or.inl ⟨by rfl, ?_⟩) (by assumption) ?_
      rotate_left
      · (intro w hSw; (try dsimp only at hSw); go_simp; (try with_reducible rfl))
      try simp only [Act.put, List.setIfInBounds_toArray, List.set_cons_zero, List.set_cons_succ]
      refine wpAnyH_take (i := 9) (oi := { dst := some 67, op := Go.Op.extract (Go.Operand.tmp 58) 0, type := 23, pos := "law.go:55", after := #[{ on := 8, ground := Go.Ground.data }], guard := none }) (v := ?_) rfl (by kernel_rfl) (by kernel_rfl) (by kernel_rfl) (fun _ _ _ h => h) (Or.inl ⟨by rfl, ?_⟩) (by assumption) ?_
      rotate_left
      · (intro w hSw; (try dsimp only at hSw); go_simp; (try with_reducible rfl))
      try simp only [Act.put, List.setIfInBounds_toArray, List.set_cons_zero, List.set_cons_succ]
      refine wpAnyH_take (i := 10) (oi := { dst := some 68, op := Go.Op.extract (Go.Operand.tmp 58) 1, type := 4, pos := "law.go:55", after := #[{ on := 8, ground := Go.Ground.data }, { on := 11, ground := Go.Ground.gcOnly Go.Departure.lateStores }], guard := none }) (v := ?_) rfl (by kernel_rfl) (by kernel_rfl) (by kernel_rfl) (fun _ _ _ h => h) (Or.inl ⟨by rfl, ?_⟩) (by assumption) ?_
      rotate_left
      · (intro w hSw; (try dsimp only at hSw); go_simp; (try with_reducible rfl))
      try simp only [Act.put, List.setIfInBounds_toArray, List.set_cons_zero, List.set_cons_succ]
      refine wpAnyH_take (i := 11) (oi := { dst := some 12, op := Go.Op.assign (Go.Operand.tmp 67), type := 23, pos := "law.go:55", after := #[{ on := 9, ground := Go.Ground.data }, { on := 7, ground := Go.Ground.chain }, { on := 0, ground := Go.Ground.phase }, { on := 1, ground := Go.Ground.phase }, { on := 2, ground := Go.Ground.phase }, { on := 3, ground := Go.Ground.phase }, { on := 4, ground := Go.Ground.phase }, { on := 5, ground := Go.Ground.phase }, { on := 6, ground := Go.Ground.phase }, { on := 7, ground := Go.Ground.phase }, { on := 8, ground := Go.Ground.phase }, { on := 9, ground := Go.Ground.phase }, { on := 10, ground := Go.Ground.textOnly Go.Departure.lateStores }], guard := none }) (v := ?_) rfl (by kernel_rfl) (by kernel_rfl) (by kernel_rfl) (fun _ _ _ h => h) (Or.inl ⟨by rfl, ?_⟩) (by assumption) ?_
      rotate_left
      · (intro w hSw; (try dsimp only at hSw); go_simp; (try with_reducible rfl))
      try simp only [Act.put, List.setIfInBounds_toArray, List.set_cons_zero, List.set_cons_succ]
      refine wpAnyH_take (i := 12) (oi := { dst := some 13, op := Go.Op.assign (Go.Operand.tmp 68), type := 4, pos := "law.go:55", after := #[{ on := 10, ground := Go.Ground.data }, { on := 11, ground := Go.Ground.chain }, { on := 0, ground := Go.Ground.phase }, { on := 1, ground := Go.Ground.phase }, { on := 2, ground := Go.Ground.phase }, { on := 3, ground := Go.Ground.phase }, { on := 4, ground := Go.Ground.phase }, { on := 5, ground := Go.Ground.phase }, { on := 6, ground := Go.Ground.phase }, { on := 7, ground := Go.Ground.phase }, { on := 8, ground := Go.Ground.phase }, { on := 9, ground := Go.Ground.phase }, { on := 10, ground := Go.Ground.phase }, { on := 11, ground := Go.Ground.phase }], guard := none }) (v := ?_) rfl (by kernel_rfl) (by kernel_rfl) (by kernel_rfl) (fun _ _ _ h => h) (Or.inl ⟨by rfl, ?_⟩) (by assumption) ?_
      rotate_left
      · (intro w hSw; (try dsimp only at hSw); go_simp; (try with_reducible rfl))
      try simp only [Act.put, List.setIfInBounds_toArray, List.set_cons_zero, List.set_cons_succ]
      refine wpAnyH_done (by kernel_rfl) ?_ _
      have hcv1 := H11.out wB A3 c3
      have hcv2 := H11.out wB none 0
      clear hbox
      go_wp2
      go_ret
      exact ⟨rfl, Hb3.out.trans (HwB.out.mono Hb3.out.size)⟩
  | some syms =>
    rw [hc] at H4
    have H6 : Hid (∀ W g, Below w.heap.size w W → Reads W (some ⟨g, 0, none⟩) (c3 (Bm.cellsM ls lg)) → Calls Try.prog 15 #[.slice (some ⟨g, 0, none⟩) S S, .int .i64 (lg : Int), .slice B bs.length d, .int .i64 n1] W fun e w' => ∃ A' c', e = .returned (.tuple #[.slice A' syms.length c', .bool true]) ∧ Reads w' A' (u8s syms) ∧ Below W.heap.size W w') := Lib.hid (fun W g hb hrd => by
      rcases H5 W g hb hrd with ⟨h1, _⟩ | ⟨l', h1, h2⟩
      · rw [hc] at h1; cases h1
      · rw [hc] at h1
        injection h1 with h1
        subst h1
        rw [← hS] at h2
        exact h2)
    obtain ⟨henc, hsl, hs20, hs256⟩ := Bm.enc_dec ls lg hfn bs syms n1 hlt hc
    have H7 : Hid (∀ W p A c, TB W p ls lg → Reads W A (u8s syms) → Calls Try.prog 11 #[.pointer (some p), .slice A syms.length c] W fun e w' => ∃ A' c', e = .returned (.tuple #[.slice A' bs.length c', .bool true]) ∧ Reads w' A' (u8s bs) ∧ Below W.heap.size W w') := Lib.hid (fun W p A c ht hrd => by
      have h1 := hF.enc W p ls lg A c syms hfn ht (by omega) hs256 hrd
      rw [henc] at h1
      exact h1.mono fun e w' ⟨⟨A', c', he, hrd⟩, hb⟩ => ⟨A', c', he, hrd, hb⟩)
    have H9 : Hid (∀ W A c, Reads W A (u8s bs) → (convert 23 9 (.slice A bs.length c)).run Try.prog W = .ok (.string (strOf bs)) W) := Lib.hid (fun W A c hrd => conv_bytes W A c bs Hlt.out hrd)
    have H10 : Hid (∀ W A c, Reads W A (u8s syms) → (convert 23 9 (.slice A syms.length c)).run Try.prog W = .ok (.string (strOf syms)) W) := Lib.hid (fun W A c hrd => conv_bytes W A c syms hs256 hrd)
    have H4 : Hid (∀ W p, TB W p ls lg → Below w.heap.size w W → Calls Try.prog 13 #[.pointer (some p), .slice B bs.length d, .int .i64 n1] W fun e w' => (∃ A c, e = .returned (.tuple #[.slice A syms.length c, .bool true]) ∧ Reads w' A (u8s syms)) ∧ Below W.heap.size W w') := Lib.hid H4
    have h7 : n1 ≤ 500 := by omega
    clear hT hF hr hs hfn hls hlen hc hlt hS H5 h1 henc hs256 hn1 hway hs20 hsl
    generalize l.length = n at *
    generalize bs.length = m at *
    generalize syms.length = k at *
    go_enter Try.func4, Try.ntmps4
    go_wp2_with fail
    rw [← Hw0.out]
    refine (Haw.out w0).mono ?_
    rintro e w1 ⟨rfl, hb1⟩
    obtain ⟨d0, d1⟩ := Hc.out w1 hb1
    have Hx1 := Lib.hid hb1
    have Hb1 := Lib.hid (Hb0.out.trans (hb1.mono Hb0.out.size))
    clear hb1
    go_wp2_with fail
    refine (H2.out w1 Hb1.out).mono ?_
    rintro e w' ⟨rfl, rfl⟩
    clear d0 d1
    go_wp2_with fail
    refine (H1.out w1 Hb1.out).mono ?_
    rintro e w2 ⟨p, rfl, ht2, hb2⟩
    have Hx2 := Lib.hid (Hx1.out.trans (hb2.mono Hx1.out.size))
    have Hb2 := Lib.hid (Hb1.out.trans (hb2.mono Hb1.out.size))
    have Ht2 := Lib.hid ht2
    obtain ⟨d0, d1⟩ := Hc.out w2 Hx2.out
    clear hb2 ht2 Hb1 Hx1
    go_wp2_with fail
    refine (H4.out w2 p Ht2.out Hb2.out).mono ?_
    rintro e w3 ⟨⟨A3, c3, rfl, hr3⟩, hb3⟩
    have Hx3 := Lib.hid (Hx2.out.trans (hb3.mono Hx2.out.size))
    have Hb3 := Lib.hid (Hb2.out.trans (hb3.mono Hb2.out.size))
    have Ht3 := Lib.hid (hkeep.out _ _ _ Ht2.out hb3)
    have Hr3 := Lib.hid hr3
    clear hb3 Hb2 Ht2 Hx2 d0 d1 hr3
    have hbox : ∀ W, Below w3.heap.size w3 W → W.cell? ⟨w.heap.size, 1, none⟩ = some (.int .i64 n1) := fun W hb => (Hc.out W (Hx3.out.trans (hb.mono Hx3.out.size))).2
    go_wp2_with fail
    refine wp_region_held_drew (S := (fun W => Below w3.heap.size w3 W)) (by kernel_rfl) (by exact (Below.refl w3.heap.size w3).drew) (fun hHeld => ?_)
    refine wpAnyH_take (i := 0) (oi := { dst := some 59, op := Go.Op.move (Go.Operand.tmp 0), type := 22, pos := "law.go:55", after := #[], guard := none }) (v := ?_) rfl (by kernel_rfl) (by kernel_rfl) (by kernel_rfl) (fun _ _ _ h => h) (Or.inl ⟨by rfl, ?_⟩) (by assumption) ?_
    rotate_left
    · (intro w hSw; (try dsimp only at hSw); go_simp; (try with_reducible rfl))
    try simp only [Act.put, List.setIfInBounds_toArray, List.set_cons_zero, List.set_cons_succ]
    refine wpAnyH_take (i := 1) (oi := { dst := some 60, op := Go.Op.move (Go.Operand.tmp 7), type := 3, pos := "law.go:55", after := #[], guard := none }) (v := ?_) rfl (by kernel_rfl) (by kernel_rfl) (by kernel_rfl) (fun _ _ _ h => h) (Or.inl ⟨by rfl, ?_⟩) (by assumption) ?_
    rotate_left
    · (intro w hSw; (try dsimp only at hSw); go_simp; (try with_reducible rfl))
    try simp only [Act.put, List.setIfInBounds_toArray, List.set_cons_zero, List.set_cons_succ]
    refine wpAnyH_take (i := 3) (oi := { dst := some 62, op := Go.Op.move (Go.Operand.tmp 7), type := 3, pos := "law.go:55", after := #[], guard := none }) (v := ?_) rfl (by kernel_rfl) (by kernel_rfl) (by kernel_rfl) (fun _ _ _ h => h) (Or.inl ⟨by rfl, ?_⟩) (by assumption) ?_
    rotate_left
    · (intro w hSw; (try dsimp only at hSw); go_simp; (try with_reducible rfl))
    try simp only [Act.put, List.setIfInBounds_toArray, List.set_cons_zero, List.set_cons_succ]
    refine wpAnyH_take (i := 4) (oi := { dst := some 63, op := Go.Op.move (Go.Operand.tmp 1), type := 23, pos := "law.go:55", after := #[], guard := none }) (v := ?_) rfl (by kernel_rfl) (by kernel_rfl) (by kernel_rfl) (fun _ _ _ h => h) (Or.inl ⟨by rfl, ?_⟩) (by assumption) ?_
    rotate_left
    · (intro w hSw; (try dsimp only at hSw); go_simp; (try with_reducible rfl))
    try simp only [Act.put, List.setIfInBounds_toArray, List.set_cons_zero, List.set_cons_succ]
    refine wpAnyH_take (i := 5) (oi := { dst := some 64, op := Go.Op.indexAddr 40 (Go.Operand.tmp 5) (Go.Operand.const (Go.Value.int Go.IntKind.i64 1)), type := 0, pos := "law.go:55", after := #[], guard := none }) (v := ?_) rfl (by kernel_rfl) (by kernel_rfl) (by kernel_rfl) (fun _ _ _ h => h) (Or.inl ⟨by rfl, ?_⟩) (by assumption) ?_
    rotate_left
    · (intro w hSw; (try dsimp only at hSw); go_simp; (try with_reducible rfl))
    try simp only [Act.put, List.setIfInBounds_toArray, List.set_cons_zero, List.set_cons_succ]
    refine wpAnyH_take (i := 6) (oi := { dst := some 65, op := Go.Op.load 3 (Go.Operand.tmp 64), type := 3, pos := "law.go:55", after := #[{ on := 5, ground := Go.Ground.data }], guard := none }) (v := ?_) rfl (by kernel_rfl) (by kernel_rfl) (by kernel_rfl) (fun _ _ _ h => h) (Or.inl ⟨by rfl, ?_⟩) (by assumption) ?_
    rotate_left
    · (intro w hSw; (try dsimp only at hSw); go_simp; (try with_reducible rfl))
    try simp only [Act.put, List.setIfInBounds_toArray, List.set_cons_zero, List.set_cons_succ]
    refine wpAnyH_ready (rs := [2]) (by kernel_rfl) (by simp) ?_
    refine AllReadyH.cons (o := { dst := some 61, op := Go.Op.call { callee := Go.Callee.value (Go.Operand.func 10), args := #[Go.Operand.tmp 59, Go.Operand.tmp 60], argTypes := #[22, 3] }, type := 31, pos := "law.go:55", after := #[{ on := 0, ground := Go.Ground.data }, { on := 1, ground := Go.Ground.data }], guard := none }) rfl (fun K hK => ?_) AllReadyH.nil
    go_simp
    (go_at_call 10; refine (H3.out _ (Hb3.out.trans ((Below.refl w3.heap.size w3).drew.mono Hb3.out.size))).mono ?_; rintro e wA ⟨gA, rfl, hrA, hbA⟩; have HrA := Lib.hid hrA; have HwA := Lib.hid ((Below.refl w3.heap.size w3).drew.trans hbA); clear hrA hbA)
    go_simp
    refine hK.out _ _ (by exact HwA.out) (fun hHeld => ?_)
    clear hK K
    try simp only [Act.put, List.setIfInBounds_toArray, List.set_cons_zero, List.set_cons_succ]
    refine wpAnyH_ready (rs := [7]) (by kernel_rfl) (by simp) ?_
    refine AllReadyH.cons (o := { dst := some 66, op := Go.Op.call { callee := Go.Callee.value (Go.Operand.func 15), args := #[Go.Operand.tmp 61, Go.Operand.tmp 62, Go.Operand.tmp 63, Go.Operand.tmp 65], argTypes := #[31, 3, 23, 3] }, type := 33, pos := "law.go:55", after := #[{ on := 2, ground := Go.Ground.data }, { on := 3, ground := Go.Ground.data }, { on := 4, ground := Go.Ground.data }, { on := 6, ground := Go.Ground.data }, { on := 2, ground := Go.Ground.chain }], guard := none }) rfl (fun K hK => ?_) AllReadyH.nil
    go_simp
    (go_at_call 15; refine (H6.out _ gA (Hb3.out.trans (HwA.out.mono Hb3.out.size)) HrA.out).mono ?_; rintro e wB ⟨AB, cB, rfl, hrB, hbB⟩; have HrB := Lib.hid hrB; have HwB := Lib.hid (HwA.out.trans (hbB.mono HwA.out.size)); clear hrB hbB)
    go_simp
    refine hK.out _ _ (by exact HwB.out) (fun hHeld => ?_)
    clear hK K
    try simp only [Act.put, List.setIfInBounds_toArray, List.set_cons_zero, List.set_cons_succ]
    refine wpAnyH_take (i := 8) (oi := { dst := some 58, op := Go.Op.move (Go.Operand.tmp 66), type := 33, pos := "law.go:55", after := #[{ on := 7, ground := Go.Ground.data }], guard := none }) (v := ?_) rfl (by kernel_rfl) (by kernel_rfl) (by kernel_rfl) (fun _ _ _ h => h) (Or.inl ⟨by rfl, ?_⟩) (by assumption) ?_
    rotate_left
    · (intro w hSw; (try dsimp only at hSw); go_simp; (try with_reducible rfl))
    try simp only [Act.put, List.setIfInBounds_toArray, List.set_cons_zero, List.set_cons_succ]
    refine wpAnyH_take (i := 9) (oi := { dst := some 67, op := Go.Op.extract (Go.Operand.tmp 58) 0, type := 23, pos := "law.go:55", after := #[{ on := 8, ground := Go.Ground.data }], guard := none }) (v := ?_) rfl (by kernel_rfl) (by kernel_rfl) (by kernel_rfl) (fun _ _ _ h => h) (Or.inl ⟨by rfl, ?_⟩) (by assumption) ?_
    rotate_left
    · (intro w hSw; (try dsimp only at hSw); go_simp; (try with_reducible rfl))
    try simp only [Act.put, List.setIfInBounds_toArray, List.set_cons_zero, List.set_cons_succ]
    refine wpAnyH_take (i := 10) (oi := { dst := some 68, op := Go.Op.extract (Go.Operand.tmp 58) 1, type := 4, pos := "law.go:55", after := #[{ on := 8, ground := Go.Ground.data }, { on := 11, ground := Go.Ground.gcOnly Go.Departure.lateStores }], guard := none }) (v := ?_) rfl (by kernel_rfl) (by kernel_rfl) (by kernel_rfl) (fun _ _ _ h => h) (Or.inl ⟨by rfl, ?_⟩) (by assumption) ?_
    rotate_left
    · (intro w hSw; (try dsimp only at hSw); go_simp; (try with_reducible rfl))
    try simp only [Act.put, List.setIfInBounds_toArray, List.set_cons_zero, List.set_cons_succ]
    refine wpAnyH_take (i := 11) (oi := { dst := some 12, op := Go.Op.assign (Go.Operand.tmp 67), type := 23, pos := "law.go:55", after := #[{ on := 9, ground := Go.Ground.data }, { on := 7, ground := Go.Ground.chain }, { on := 0, ground := Go.Ground.phase }, { on := 1, ground := Go.Ground.phase }, { on := 2, ground := Go.Ground.phase }, { on := 3, ground := Go.Ground.phase }, { on := 4, ground := Go.Ground.phase }, { on := 5, ground := Go.Ground.phase }, { on := 6, ground := Go.Ground.phase }, { on := 7, ground := Go.Ground.phase }, { on := 8, ground := Go.Ground.phase }, { on := 9, ground := Go.Ground.phase }, { on := 10, ground := Go.Ground.textOnly Go.Departure.lateStores }], guard := none }) (v := ?_) rfl (by kernel_rfl) (by kernel_rfl) (by kernel_rfl) (fun _ _ _ h => h) (Or.inl ⟨by rfl, ?_⟩) (by assumption) ?_
    rotate_left
    · (intro w hSw; (try dsimp only at hSw); go_simp; (try with_reducible rfl))
    try simp only [Act.put, List.setIfInBounds_toArray, List.set_cons_zero, List.set_cons_succ]
    refine wpAnyH_take (i := 12) (oi := { dst := some 13, op := Go.Op.assign (Go.Operand.tmp 68), type := 4, pos := "law.go:55", after := #[{ on := 10, ground := Go.Ground.data }, { on := 11, ground := Go.Ground.chain }, { on := 0, ground := Go.Ground.phase }, { on := 1, ground := Go.Ground.phase }, { on := 2, ground := Go.Ground.phase }, { on := 3, ground := Go.Ground.phase }, { on := 4, ground := Go.Ground.phase }, { on := 5, ground := Go.Ground.phase }, { on := 6, ground := Go.Ground.phase }, { on := 7, ground := Go.Ground.phase }, { on := 8, ground := Go.Ground.phase }, { on := 9, ground := Go.Ground.phase }, { on := 10, ground := Go.Ground.phase }, { on := 11, ground := Go.Ground.phase }], guard := none }) (v := ?_) rfl (by kernel_rfl) (by kernel_rfl) (by kernel_rfl) (fun _ _ _ h => h) (Or.inl ⟨by rfl, ?_⟩) (by assumption) ?_
    rotate_left
    · (intro w hSw; (try dsimp only at hSw); go_simp; (try with_reducible rfl))
    try simp only [Act.put, List.setIfInBounds_toArray, List.set_cons_zero, List.set_cons_succ]
    refine wpAnyH_done (by kernel_rfl) ?_ _
    have Hb4 := Lib.hid (Hb3.out.trans (HwB.out.mono Hb3.out.size))
    have Ht4 := Lib.hid (hkeep.out _ _ _ Ht3.out HwB.out)
    have Hr4 := Lib.hid (reads_on Hr3.out HwB.out)
    have hcv1 := H10.out wB A3 c3 Hr4.out
    have hcv2 := H10.out wB AB cB HrB.out
    clear hbox Hb3 Ht3 Hr3 HwA HrA
    go_wp2_with fail
    refine (H7.out wB p A3 c3 Ht4.out Hr4.out).mono ?_
    rintro e w5 ⟨A5, c5, rfl, hr5, hb5⟩
    have Hb5 := Lib.hid (Hb4.out.trans (hb5.mono Hb4.out.size))
    have hcv3 := H9.out w5 A5 c5 hr5
    have hcv4 := H9.out w5 B d (reads_on Hs.out Hb5.out)
    clear hb5 hr5 hcv1 hcv2 Hb4
    go_wp2
    go_ret
    exact ⟨rfl, Hb5.out⟩
end Go.Proofs.Ytjlfgfoalfiajaa
