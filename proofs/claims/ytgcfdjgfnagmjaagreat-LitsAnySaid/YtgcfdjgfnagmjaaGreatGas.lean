/-
  The program's layer 10 (litcode), by its walk: withoutNoughts, ended. Conditions: as each theorem's premises say.
-/
import Derived.Test.YtgcfdjgfnagmjaaGreatGah
import Derived.Test.YtgcfdjgfnagmjaaGreatGad
namespace Go.Proofs.YtgcfdjgfnagmjaaGreat
open Go.RowKit
set_option maxHeartbeats 1000000 in
set_option maxRecDepth 100000 in
theorem litno_int (A : Option Addr) (c : Nat) (l : List Int) (w : World) (hl : l.length ≤ 1000000000) (hc : l.length ≤ c) (hr : Reads w A (i64z l)) :
    Calls Tryz.prog 58 #[.slice A l.length c] w fun e w' => ∃ k, e = .returned (.slice A k c) ∧ EndsAt l k ∧ w = w' := by
  have Hr := Lib.hid hr
  have Hcut := Lib.hid (fun q (hq : q ≤ l.length) W => cut_ints A l.length c q W hq hc)
  clear hr
  go_enter Tryz.func58, Tryz.ntmps58
  go_wp2
  go_loop [3] (fun n => ∃ k : Nat, k ≤ l.length ∧ n = .int .i64 (k : Int) ∧ Hid (∀ j (h : j < l.length), k ≤ j → l[j] = 0)) (fun n => (intOf n).toNat)
  case atStart => exact ⟨l.length, Nat.le_refl _, rfl, Lib.hid (fun j h hk => by omega)⟩
  case round =>
    obtain ⟨k, hk, rfl, hz⟩ := hrel
    have hcut := Hcut.out k hk
    rcases Nat.eq_zero_or_pos k with h0 | h0
    · subst h0
      clear Hr Hcut
      go_wp2
      go_ret
      exact ⟨0, rfl, ⟨by omega, hz.out, .inl rfl⟩, rfl⟩
    · obtain ⟨q, rfl⟩ : ∃ q, k = q + 1 := ⟨k - 1, by omega⟩
      obtain ⟨g, off, rfl, hcell⟩ := reads_iz Hr.out (by omega)
      have c0 := hcell q (by omega)
      have hnz : l[q] ≠ 0 → EndsAt l (q + 1) := fun h => ⟨hk, hz.out, .inr ⟨by omega, h⟩⟩
      have hnx : l[q] = 0 → ∀ j (h : j < l.length), q ≤ j → l[j] = 0 := fun h j hj hq => by
        by_cases e : j = q
        · subst e; exact h
        · exact hz.out j hj (by omega)
      have Hnz := Lib.hid hnz
      have Hnx := Lib.hid hnx
      have hqi : ((q + 1 : Nat) : Int) - 1 = (q : Int) := by omega
      clear hcell hnz hnx Hr Hcut
      generalize l[q] = z at c0 Hnz Hnx
      by_cases hzz : z = 0
      · subst hzz
        have Hn := Lib.hid (Hnx.out rfl)
        clear Hnz Hnx hcut
        go_wp2
        go_round
        case rel => exact ⟨q, by omega, by go_num, Hn⟩
        case measure => simp [intOf]
      · have hd : (z == 0) = false := by simpa using hzz
        have He := Lib.hid (Hnz.out hzz)
        clear Hnz Hnx
        go_wp2
        go_ret
        exact ⟨q + 1, rfl, He.out, rfl⟩
theorem litno_any (A : Option Addr) (c : Nat) (ls : List Nat) (w : World) (hl : ls.length ≤ 256) (hc : ls.length ≤ c) (hr : Reads w A (i64s ls)) :
    Calls Tryz.prog 58 #[.slice A ls.length c] w fun e w' => e = .returned (.slice A (Bm.shortL ls).length c) ∧ w = w' := by
  have h := litno_int A c (ls.map fun n : Nat => (n : Int)) w (by simp; omega) (by simpa using hc) (by rw [i64z_nat]; exact hr)
  rw [List.length_map] at h
  exact h.mono fun e w' ⟨k, he, hk, hw⟩ => by
    obtain ⟨_, e2, _⟩ := short_ends ls k hk
    exact ⟨by rw [← e2]; exact he, hw⟩
namespace Bm
theorem drop_bits (V n p : Nat) : (bitsOf V n).drop p = bitsOf (V / 2 ^ p) (n - p) := by
  apply List.ext_getElem
  · simp [bitsOf_length]
  · intro i h1 h2
    rw [List.getElem_drop, bitsOf_get, bitsOf_get, Nat.div_div_eq_div_mul, ← Nat.pow_add]
theorem bits_zero (V n : Nat) (h : V < 2 ^ n) : (∀ x ∈ bitsOf V n, x = 0) ↔ V = 0 := by
  constructor
  · intro h1
    rw [← bitsV_bits V n h, bitsV_zero _ h1]
  · intro e x hx
    subst e
    unfold bitsOf at hx
    obtain ⟨i, _, rfl⟩ := List.mem_map.1 hx
    simp
/-- Nothing is left but noughts that fill the last byte. -/
def endB (s : List Nat) (pos : Nat) : Prop := ((bitsOf (valB s) (8 * s.length)).drop pos).length ≤ 7 ∧ ∀ x ∈ (bitsOf (valB s) (8 * s.length)).drop pos, x = 0
instance (s : List Nat) (pos : Nat) : Decidable (endB s pos) := by unfold endB; exact inferInstance
theorem left_end (s : List Nat) (hs : ∀ x ∈ s, x < 256) (pos : Nat) (hp : pos ≤ 8 * s.length) : endB s pos ↔ (8 * s.length - pos ≤ 7 ∧ valB s / 2 ^ pos % 2 ^ (8 * s.length - pos) = 0) := by
  have hv := valB_lt s hs
  rw [p256] at hv
  have h1 : valB s / 2 ^ pos < 2 ^ (8 * s.length - pos) := by
    rw [Nat.div_lt_iff_lt_mul (Nat.two_pow_pos _), ← Nat.pow_add, Nat.sub_add_cancel hp]
    exact hv
  unfold endB
  rw [drop_bits _ _ _, bitsOf_length, bits_zero _ _ h1, Nat.mod_eq_of_lt h1]
end Bm
set_option maxHeartbeats 1000000 in
set_option maxRecDepth 100000 in
theorem litend_any (b : Nat) (bs : List Nat) (pos : Nat) (w : World) (hs : bs.length ≤ 10000) (hbs : ∀ x ∈ bs, x < 256) (hp : pos ≤ 8 * bs.length) (h : RS w b 0 bs pos) :
    Calls Tryz.prog 76 #[.pointer (some ⟨b, 0, none⟩)] w fun e w' => e = .returned (.bool (decide (Bm.endB bs pos))) ∧ w.grownBy w' (some b) := by
  have hl := left_any b 0 bs pos w (by omega) hp h
  obtain ⟨lf, hlf⟩ : ∃ lf, lf = 8 * bs.length - pos := ⟨_, rfl⟩
  have hd : Bm.endB bs pos ↔ (lf ≤ 7 ∧ Bm.valB bs / 2 ^ pos % 2 ^ lf = 0) := by rw [hlf]; exact Bm.left_end bs hbs pos hp
  have hdd : decide (Bm.endB bs pos) = decide (lf ≤ 7 ∧ Bm.valB bs / 2 ^ pos % 2 ^ lf = 0) := decide_eq_decide.2 hd
  rw [hdd]
  have Htk : Hid (lf ≤ 32 → ∀ k, Calls Tryz.prog 75 #[.pointer (some ⟨b, 0, none⟩), .int .i64 (lf : Int)] (w.drewN k) fun e w' => e = .returned (.tuple #[.int .u32 ((Bm.valB bs / 2 ^ pos % 2 ^ lf : Nat) : Int), .bool true]) ∧ RS w' b 0 bs (pos + lf) ∧ (w.drewN k).grownBy w' (some b)) := Lib.hid (fun h1 k => take_ok b 0 bs pos lf _ (by omega) hbs h1 (by omega) (h.drewN k))
  have Hbad : Hid (32 < lf → ∀ k, Calls Tryz.prog 75 #[.pointer (some ⟨b, 0, none⟩), .int .i64 (lf : Int)] (w.drewN k) fun e w' => e = .returned (.tuple #[.int .u32 0, .bool false]) ∧ w.drewN k = w') := Lib.hid (fun h1 k => take_bad ⟨b, 0, none⟩ (lf : Int) _ (.inr (by omega)))
  rw [← hlf] at hl
  have Hl := Lib.hid hl
  have hlfb : lf ≤ 80000 := by omega
  clear hl h hdd hd hlf
  generalize hX : Bm.valB bs / 2 ^ pos % 2 ^ lf = X at *
  clear hX
  by_cases h7 : lf ≤ 7
  · have hd : decide (lf ≤ 7 ∧ X = 0) = ((X : Int) == 0) := by
      by_cases h0 : X = 0
      · subst h0; simp [h7]
      · rw [decide_eq_false (fun h => h0 h.2)]
        symm
        rw [beq_eq_false_iff_ne]
        omega
    rw [hd]
    clear hd
    go_enter Tryz.func76, Tryz.ntmps76
    go_wp2_with fail
    refine Hl.out.mono ?_
    rintro e w' ⟨rfl, kk, rfl⟩
    clear Hl
    have Ht := Lib.hid (Htk.out (by omega) kk)
    clear Hbad Htk
    go_wp2_with fail
    refine Ht.out.mono ?_
    rintro e w2 ⟨rfl, _, hg⟩
    have Hg : Hid (w.grownBy w2 (some b)) := Lib.hid ⟨hg.os, hg.tape, hg.output, hg.size, hg.block⟩
    clear hg Ht
    go_wp2
    go_ret
    exact ⟨rfl, Hg.out⟩
  · have hd : decide (lf ≤ 7 ∧ X = 0) = false := decide_eq_false (fun h => h7 h.1)
    rw [hd]
    clear hd
    go_enter Tryz.func76, Tryz.ntmps76
    go_wp2_with fail
    refine Hl.out.mono ?_
    rintro e w' ⟨rfl, kk, rfl⟩
    clear Hl
    by_cases h32 : lf ≤ 32
    · have Ht := Lib.hid (Htk.out h32 kk)
      clear Hbad Htk
      go_wp2_with fail
      refine Ht.out.mono ?_
      rintro e w2 ⟨rfl, _, hg⟩
      have Hg : Hid (w.grownBy w2 (some b)) := Lib.hid ⟨hg.os, hg.tape, hg.output, hg.size, hg.block⟩
      clear hg Ht
      go_wp2
      go_ret
      exact ⟨rfl, Hg.out⟩
    · have Ht := Lib.hid (Hbad.out (by omega) kk)
      clear Hbad Htk
      go_wp2_with fail
      refine Ht.out.mono ?_
      rintro e w2 ⟨rfl, rfl⟩
      clear Ht
      go_wp2
      go_ret
      exact ⟨rfl, grown_drewN (grown_refl _ _) _⟩
end Go.Proofs.YtgcfdjgfnagmjaaGreat
