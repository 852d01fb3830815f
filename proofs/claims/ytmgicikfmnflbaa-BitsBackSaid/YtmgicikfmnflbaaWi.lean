/-
  BitsTake (layer 1), the statement's own walk: it returns true and changes nothing that was there. No condition beyond that the arguments are a slice of bytes and a slice of ints.
-/
import Derived.Test.YtmgicikfmnflbaaWk
import Derived.Test.YtmgicikfmnflbaaAr
import Derived.BigQuiet
import Derived.Deep.QuietTactic
namespace Go.Proofs.Ytmgicikfmnflbaa
open Go.RowKit

set_option maxHeartbeats 400000 in
theorem take_long (A B : Option Addr) (n c m d : Nat) (w : World) (h : 60 < n ∨ 100 < m) (hn : n ≤ 9223372036854775807) (hm : m ≤ 9223372036854775807) :
    Calls Try.prog 4 #[.slice A n c, .slice B m d] w fun e w' => e = .returned (.bool true) ∧ Below w.heap.size w w' := by
  by_cases h1 : 60 < n
  · go_enter Try.func4, Try.ntmps4
    go_wp2_with fail
    refine (awake_any _).mono ?_
    rintro e w1 ⟨rfl, hb⟩
    go_wp2
    go_ret
    exact ⟨rfl, hb⟩
  · have h2 : 100 < m := by omega
    go_enter Try.func4, Try.ntmps4
    go_wp2_with fail
    refine (awake_any _).mono ?_
    rintro e w1 ⟨rfl, hb⟩
    go_wp2
    go_ret
    exact ⟨rfl, hb⟩

/-- What is left behind the first pos bits, as the statement keeps it: a slice of L ints, the bits of X. -/
def Rest (w : World) (B : Nat) (A : Option Addr) (X L : Nat) : Prop :=
  L = 0 ∨ ∃ g off, A = some ⟨g, off, none⟩ ∧ B ≤ g ∧ g < w.heap.size ∧ ∀ j, j < L → w.cell? ⟨g, off + j, none⟩ = some (.int .i64 ((X / 2 ^ j % 2 : Nat) : Int))
theorem Rest.keep {w w' : World} {B : Nat} {A : Option Addr} {X L : Nat} {row : Option Nat} (h : Rest w B A X L) (hg : w.grownBy w' row) (hr : ∀ g, row = some g → g < B) : Rest w' B A X L := by
  rcases h with h | ⟨g, off, e, hB, hl, hc⟩
  · exact .inl h
  · refine .inr ⟨g, off, e, hB, Nat.lt_of_lt_of_le hl hg.size, fun j hj => ?_⟩
    have hne : some g ≠ row := fun e => by
      have := hr g e.symm
      omega
    exact (World.cell?_of_block (a := ⟨g, off + j, none⟩) (hg.block g hl hne)).trans (hc j hj)
theorem slice_to (A : Option Addr) (L c q : Nat) (W : World) (h : q ≤ L) (hc : L ≤ c) : (Instr.slice 28 (.slice A L c) none (some (.int .i64 (q : Int))) none).run Try.prog W = .ok (.slice A q c) W := by
  have h1 : q ≤ c := by omega
  rcases A with _ | a
  · go_simp
  · go_simp
/-- Where a slice goes on behind q of its elements. -/
def onA (A : Option Addr) (c q : Nat) : Option Addr := if c = q then A else A.map (·.add q)
theorem slice_on (A : Option Addr) (L c q : Nat) (W : World) (h : q ≤ L) (hc : L ≤ c) : (Instr.slice 28 (.slice A L c) (some (.int .i64 (q : Int))) none none).run Try.prog W = .ok (.slice (onA A c q) (L - q) (c - q)) W := by
  have h1 : q ≤ c := by omega
  unfold onA
  by_cases hcq : c = q
  · subst hcq
    rcases A with _ | a
    · go_simp
    · go_simp
  · rcases A with _ | a
    · go_simp
    · go_simp
theorem Rest.on {w : World} {B : Nat} {A : Option Addr} {X L c q : Nat} (h : Rest w B A X L) (hq : q ≤ L) (hc : L ≤ c) : Rest w B (onA A c q) (X / 2 ^ q) (L - q) := by
  rcases h with h | ⟨g, off, e, hB, hl, hcell⟩
  · exact .inl (by omega)
  · by_cases hz : L - q = 0
    · exact .inl hz
    · refine .inr ⟨g, off + q, ?_, hB, hl, fun j hj => ?_⟩
      · unfold onA
        rw [if_neg (by omega), e]
        show some _ = _
        congr 1
        unfold Addr.add
        split <;> simp_all
      · rw [Nat.add_assoc, hcell (q + j) (by omega), Nat.div_div_eq_div_mul, ← Nat.pow_add]
theorem own_rest {w : World} {B : Nat} {v : Value} {X L : Nat} (h : w.ownsRow B 3 1 v L (i64s (Bm.bitsOf X L))) : ∃ A c, v = .slice A L c ∧ L ≤ c ∧ c ≤ maxLen ∧ Rest w B A X L := by
  rcases h.2 with ⟨hv, h0⟩ | ⟨g, cap, cur, hv, hb, hh, h1, h2, _⟩
  · exact ⟨none, 0, by rw [hv, h0], by omega, by unfold maxLen; omega, .inl h0⟩
  · refine ⟨some ⟨g, 0, none⟩, cap, hv, h1, h2, .inr ⟨g, 0, rfl, hb, ?_, fun j hj => ?_⟩⟩
    · rcases Nat.lt_or_ge g w.heap.size with h3 | h3
      · exact h3
      · rw [Array.getElem?_eq_none h3] at hh; cases hh
    · have hc := h.cells (g := g) (by rw [hv]; rfl) j _ (i64s_get? _ j (by rw [Bm.bitsOf_length]; exact hj))
      rw [add_zero_off, Bm.bitsOf_get] at hc
      rw [Nat.zero_add]
      exact hc
/-- Number of the first q of them. -/
theorem rnum_rest {w : World} {B : Nat} {A : Option Addr} {X L q c : Nat} (h : Rest w B A X L) (hq : q ≤ L) (h32 : q ≤ 32) :
    Calls Try.prog 14 #[.slice A q c] w fun e w' => e = .returned (.int .u32 ((X % 2 ^ q : Nat) : Int)) ∧ w = w' := by
  rcases Nat.eq_zero_or_pos q with h0 | h0
  · subst h0
    have h1 := rnum_nil A c w
    rw [Nat.pow_zero, Nat.mod_one]
    exact h1
  · rcases h with h | ⟨g, off, e, _, _, hcell⟩
    · omega
    · subst e
      exact rnum_some g off q c X w h32 h0 (fun j hj => hcell j (by omega))

set_option maxHeartbeats 2000000 in
theorem take_short (A B : Option Addr) (n c m d : Nat) (bs : List Nat) (l : List Int) (w : World) (h1 : n ≤ 60) (h2 : m ≤ 100) (ha : ArgB w A n c bs) (hi : ArgI w B m d l) :
    Calls Try.prog 4 #[.slice A n c, .slice B m d] w fun e w' => e = .returned (.bool true) ∧ Below w.heap.size w w' := by
  obtain ⟨hl, hbs, hrd, hA, hc, hcm⟩ := ha
  obtain ⟨hl2, hwf, hcells, hd, hdm⟩ := hi
  have Hl := Lib.hid hl
  have Hbs := Lib.hid hbs
  have Hrd := Lib.hid hrd
  have HA := Lib.hid hA
  have Hl2 := Lib.hid hl2
  have Hwf := Lib.hid hwf
  have Hcells := Lib.hid hcells
  clear hl hbs hrd hA hc hcm hl2 hwf hcells hd hdm
  go_enter Try.func4, Try.ntmps4
  go_wp2_with fail
  refine (awake_any _).mono ?_
  rintro e w1 ⟨rfl, hb1⟩
  have hA0 : ∀ {W : World}, u8s bs ≠ [] → Reads W A (u8s bs) → 0 < n := fun hne _ => by
    have h3 := Hl.out
    rcases Nat.eq_zero_or_pos n with h4 | h4
    · rw [h4] at h3
      rw [List.eq_nil_of_length_eq_zero h3] at hne
      exact absurd rfl hne
    · exact h4
  have hr1 : Reads w1 A (u8s bs) := fun hne => by
    obtain ⟨g, off, e, hc⟩ := Hrd.out hne
    have hg : g < w.heap.size := HA.out _ e (hA0 hne Hrd.out)
    exact ⟨g, off, e, fun j hj => (hb1.cell (p := ⟨g, off + j, none⟩) hg).trans (hc j hj)⟩
  have hAw1 : ∀ a, A = some a → 0 < n → a.block < w1.heap.size := fun a e h0 => Nat.lt_of_lt_of_le (HA.out a e h0) hb1.size
  have Hr1 := Lib.hid hr1
  have Hb1 := Lib.hid hb1
  have HA1 := Lib.hid hAw1
  clear hr1 hb1 hAw1 hA0
  go_wp2_with fail
  refine (newr_n A n c bs w1 Hl.out Hbs.out Hr1.out).mono ?_
  rintro e w2 ⟨rfl, hrs, hb2⟩
  have hr2 : Reads w2 A (u8s bs) := fun hne => by
    obtain ⟨g, off, e, hc⟩ := Hr1.out hne
    have hg : g < w1.heap.size := HA1.out _ e (by
      have h3 := Hl.out
      rcases Nat.eq_zero_or_pos n with h4 | h4
      · rw [h4] at h3
        rw [List.eq_nil_of_length_eq_zero h3] at hne
        exact absurd rfl hne
      · exact h4)
    exact ⟨g, off, e, fun j hj => (hb2.cell (p := ⟨g, off + j, none⟩) hg).trans (hc j hj)⟩
  have hA2 : ∀ a, A = some a → 0 < n → a.block < w2.heap.size := fun a e h0 => Nat.lt_of_lt_of_le (HA1.out a e h0) hb2.size
  have hrl := hrs.2.2.2
  have Hr2 := Lib.hid hr2
  have HA2 := Lib.hid hA2
  have Hb2 := Lib.hid (Hb1.out.trans (hb2.mono Hb1.out.size))
  have Hrs := Lib.hid hrs
  have hw1 : w.heap.size ≤ w1.heap.size := Hb1.out.size
  clear hr2 hA2 hb2 hrs Hr1 HA1 Hb1 Hrd HA
  go_wp2_with fail
  refine (rbits_n A n c bs w2 Hl.out (by omega) Hbs.out Hr2.out HA2.out).mono ?_
  rintro e w3 ⟨u, rfl, hu, hb3⟩
  obtain ⟨A3, c3, hform, hc3, hcm3, hrest⟩ := own_rest hu
  rw [hform]
  have Hrs3 := Lib.hid (Hrs.out.keep (grown_below hb3 none) (by simp))
  have Hb3 := Lib.hid (Hb2.out.trans (hb3.mono Hb2.out.size))
  have Hrest := Lib.hid hrest
  have Hc3 := Lib.hid hc3
  have Hcm3 := Lib.hid hcm3
  clear hu hb3 hform hrest hc3 hcm3 Hrs Hb2 Hr2 HA2
  go_wp2
  go_loopw [6, 27] (fun v i wr => ∃ (k pos L c' : Nat) (A' : Option Addr), k ≤ m ∧ i = .int .i64 (k : Int) ∧ v = .slice A' L c' ∧ Hid (pos + L = 8 * n) ∧ L ≤ c' ∧ c' ≤ maxLen ∧ Hid (Rest wr w2.heap.size A' (Bm.valB bs / 2 ^ pos) L) ∧
    Hid (RS wr w1.heap.size 0 bs pos) ∧ Hid (Below w.heap.size w wr)) (fun _ i _ => m - (intOf i).toNat)
  case atStart =>
    refine ⟨0, 0, 8 * n, c3, A3, Nat.zero_le _, rfl, rfl, ?_, Hc3.out, Hcm3.out, ?_, Hrs3, Hb3⟩
    · show 0 + 8 * n = 8 * n; omega
    · show Rest _ _ _ _ _; rw [Nat.pow_zero, Nat.div_one]; exact Hrest.out
  case round =>
    obtain ⟨k, pos, L, c', A', hk, rfl, rfl, hpL, hLc, hcm, hrest, hrs, hbel⟩ := hrel
    clear Hrs3 Hb3 Hrest Hc3 Hcm3
    unfold maxLen at hcm
    have hL480 : L ≤ 480 := by have := hpL.out; omega
    by_cases hlt : k < m
    · obtain ⟨gl, ol, rfl, hgl, hcl⟩ := Hcells.out (by omega)
      have hcz : wr.cell? ⟨gl, ol + k, none⟩ = some (.int .i64 (l[k]'(by rw [Hl2.out]; exact hlt))) := (hbel.out.cell (p := ⟨gl, ol + k, none⟩) hgl).trans (hcl k (by rw [Hl2.out]; exact hlt))
      have hwz := Hwf.out (l[k]'(by rw [Hl2.out]; exact hlt)) (List.getElem_mem _)
      generalize l[k]'(by rw [Hl2.out]; exact hlt) = z at hcz hwz
      obtain ⟨hz1, hz2⟩ := hwz
      clear hcl
      by_cases hbad : z < 0 ∨ 32 < z
      · have hbad' : z < 0 ∨ (0 ≤ z ∧ 32 < z) := by omega
        clear hbad
        rcases hbad' with hb | ⟨hb0, hb⟩
        all_goals
          have Hbad : Hid (z < 0 ∨ 32 < z) := by unfold Hid; omega
          go_wp2_with fail
          refine (take_bad _ z _ Hbad.out).mono ?_
          rintro e w4 ⟨rfl, rfl⟩
          go_wp2
          go_roundw
          case rel => exact ⟨k + 1, pos, L, c', A', by omega, by go_num, rfl, hpL, hLc, by unfold maxLen; exact hcm, hrest, hrs, hbel⟩
          case measure => simp [intOf]; omega
      · obtain ⟨q, rfl⟩ := Int.eq_ofNat_of_zero_le (show 0 ≤ z by omega)
        have hq : q ≤ 32 := by omega
        clear hbad hz1 hz2
        by_cases hfew : L < q
        · have hfewZ : (L : Int) < (q : Int) := by omega
          have hcall := take_few w1.heap.size 0 bs pos q wr (by rw [Hl.out]; omega) (by rw [Hl.out]; have := hpL.out; omega) hq (by rw [Hl.out]; have := hpL.out; omega) hrs.out
          have Hcall := Lib.hid hcall
          clear hcall
          go_wp2_with fail
          refine Hcall.out.mono ?_
          rintro e w4 ⟨rfl, kk, rfl⟩
          have Hrest4 := Lib.hid (hrest.out.keep (row := none) (grown_drewN (grown_refl _ _) kk) (by simp))
          have Hrs4 := Lib.hid (hrs.out.drewN kk)
          have Hbel4 := Lib.hid (below_drewN hbel.out kk)
          clear hrest hrs hbel Hcall
          go_wp2
          go_roundw
          case rel => exact ⟨k + 1, pos, L, c', A', by omega, by go_num, rfl, hpL, hLc, by unfold maxLen; exact hcm, Hrest4, Hrs4, Hbel4⟩
          case measure => simp [intOf]; omega
        · have hqL : q ≤ L := by omega
          clear hfew
          have hcall := take_ok w1.heap.size 0 bs pos q wr (by rw [Hl.out]; omega) Hbs.out hq (by rw [Hl.out]; have := hpL.out; omega) hrs.out
          have Hcall := Lib.hid hcall
          have hto := fun W => slice_to A' L c' q W hqL hLc
          have hon := fun W => slice_on A' L c' q W hqL hLc
          have Hon := Lib.hid hon
          clear hcall hon
          go_wp2_with fail
          refine Hcall.out.mono ?_
          rintro e w4 ⟨rfl, hrs4, hg4⟩
          have Hrest4 := Lib.hid (hrest.out.keep hg4 (fun g e => by injection e with e; omega))
          have Hbel4 := Lib.hid (hbel.out.trans (below_grown hg4 hw1 hbel.out.size))
          have Hrs4 := Lib.hid hrs4
          clear hrest hrs hbel Hcall hrs4 hg4
          have hleft := left_any w1.heap.size 0 bs (pos + q) w4 (by rw [Hl.out]; omega) (by rw [Hl.out]; have := hpL.out; omega) Hrs4.out
          rw [Hl.out, show 8 * n - (pos + q) = L - q by have := hpL.out; omega] at hleft
          have Hleft := Lib.hid hleft
          clear hleft
          generalize hX : Bm.valB bs / 2 ^ pos = X at Hrest4 ⊢
          have HX := Lib.hid hX
          clear hX
          have hnum := rnum_rest (c := c') Hrest4.out hqL hq
          generalize X % 2 ^ q = y at hnum ⊢
          have Hnum := Lib.hid hnum
          clear hnum
          go_wp2_with fail
          refine Hnum.out.mono ?_
          rintro e w5 ⟨rfl, rfl⟩
          have hon := Hon.out
          have hrest5 := Hrest4.out.on hqL hLc
          have eX : X / 2 ^ q = Bm.valB bs / 2 ^ (pos + q) := by rw [← HX.out, Nat.div_div_eq_div_mul, ← Nat.pow_add]
          rw [eX] at hrest5
          have Hrest5 := Lib.hid hrest5
          clear hto eX hrest5 Hnum Hrest4
          go_wp2_with fail
          refine Hleft.out.mono ?_
          rintro e w5 ⟨rfl, kk, rfl⟩
          clear hon
          have Hrest6 := Lib.hid (Hrest5.out.keep (row := none) (grown_drewN (grown_refl _ _) kk) (by simp))
          have Hrs6 := Lib.hid (Hrs4.out.drewN kk)
          have Hbel6 := Lib.hid (below_drewN Hbel4.out kk)
          clear Hrest5 Hrs4 Hbel4 Hleft Hon
          go_wp2
          go_roundw
          case rel => exact ⟨k + 1, pos + q, L - q, c' - q, onA A' c' q, by omega, by go_num, rfl, (by have := hpL.out; unfold Hid; omega), by omega, by unfold maxLen; omega, Hrest6, Hrs6, Hbel6⟩
          case measure => simp [intOf]; omega
    · obtain rfl : k = m := by omega
      have hleft := left_any w1.heap.size 0 bs pos wr (by rw [Hl.out]; omega) (by rw [Hl.out]; have := hpL.out; omega) hrs.out
      rw [Hl.out, show 8 * n - pos = L by have := hpL.out; omega] at hleft
      have Hleft := Lib.hid hleft
      clear hleft
      go_wp2_with fail
      refine Hleft.out.mono ?_
      rintro e w4 ⟨rfl, kk, rfl⟩
      go_wp2
      go_ret
      exact ⟨by simp, below_drewN hbel.out kk⟩
end Go.Proofs.Ytmgicikfmnflbaa
