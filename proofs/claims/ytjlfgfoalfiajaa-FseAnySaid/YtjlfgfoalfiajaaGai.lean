/-
  The reference of layer 2 (back): Seal, Open, each by its walk. Conditions: as each theorem's premises say (up to a hundred thousand bits).
  The reference of layer 2 (back): Open, by its walk. Conditions: as each theorem's premises say (up to ten thousand bytes).
-/
import Derived.Test.YtjlfgfoalfiajaaGah
import Derived.Test.YtjlfgfoalfiajaaGad
import Derived.Laws.AppendOwnNone
namespace Go.Proofs.Ytjlfgfoalfiajaa
open Go.RowKit

theorem i64s_snoc (l : List Nat) : i64s l ++ [Value.int .i64 1] = i64s (l ++ [1]) := by simp [i64s]
set_option maxHeartbeats 1000000 in
set_option maxRecDepth 100000 in
theorem rseal_nil (w : World) :
    Calls Try.prog 14 #[.slice none 0 0] w fun e w' => ∃ u, e = .returned u ∧ w'.ownsRow w.heap.size 5 1 u 1 (u8s (Bm.bytesOf (0 + 2 ^ 0) 1)) ∧ Below w.heap.size w w' := by
  obtain ⟨i0, hi, hz0, hz1, hz2⟩ := info_parts info_int
  have hown0 : (w.alloc (.cells #[] 3)).ownsRow w.heap.size 3 1 (.slice (some ⟨w.heap.size, 0, none⟩) 0 0) 0 [] := World.ownsRow_lit w #[] 0 (Nat.le_refl _) (by unfold maxLen; omega) rfl
  have Hown0 := Lib.hid hown0
  clear hown0
  go_enter Try.func14, Try.ntmps14
  go_wp2_with (at_builtin; first | (refine wpList_append_own_none rfl _ _ 22 rfl w.heap.size 3 i0 1 Try.underlying22 hi _ _ _ rfl Hown0.out rfl ?_) | (refine wpList_append_own _ rfl _ _ 22 rfl w.heap.size 3 i0 (.int .i64 0) 1 8 Try.underlying22 hi hz0 hz1 hz2 rfl (by decide) _ _ _ rfl (Hown0.out.alloc _) ⟨w.heap.size + 1, 0, none⟩ 1 1 [.int .i64 1] rfl rfl ?c1 ?c2 ?c3 ?c4 ?c5 ?_))
  case c1 =>
    intro j u hj
    match j, hj with
    | 0, hj => simp at hj; subst hj; simp [Addr.add]
  case c2 => intro u hu; simp at hu; subst hu; rfl
  case c3 => unfold maxLen; omega
  case c4 => omega
  case c5 => simp; omega
  intro u' w2 hown2 hgr2 _
  have hb2 : Below w.heap.size w w2 := (((Below.refl w.heap.size w).alloc (Nat.le_refl _) _).alloc (by simp) _).grown hgr2 (by simp; omega) (fun k e => by
    have : k = w.heap.size := by simpa [Value.ownBlock] using e.symm
    rw [this]; exact Nat.le_refl _)
  obtain ⟨A, c, hu, hrd, hA⟩ := own_reads hown2
  rw [hu]
  have hrb := rbytes_any A 1 c 1 w2 (by omega) (by omega) hrd (fun a e _ => (hA a e).2.1)
  have Hrb := Lib.hid hrb
  have Hb2 := Lib.hid hb2
  clear hrb hb2 hrd hA hu hown2 hgr2
  go_wp2_with fail
  refine Hrb.out.mono ?_
  rintro e w3 ⟨u3, rfl, hu3, hb3⟩
  have Hu3 := Lib.hid (own_low hu3 Hb2.out.size)
  have Hb3 := Lib.hid (Hb2.out.trans (hb3.mono Hb2.out.size))
  clear hu3 hb3
  go_wp2
  go_ret
  exact ⟨_, rfl, Hu3.out, Hb3.out⟩

set_option maxHeartbeats 1000000 in
set_option maxRecDepth 100000 in
theorem rseal_some (g off n c N : Nat) (w : World) (hn : n ≤ 100000) (hN : N < 2 ^ n) (hr : Reads w (some ⟨g, off, none⟩) (i64s (Bm.bitsOf N n))) (hg : g < w.heap.size) :
    Calls Try.prog 14 #[.slice (some ⟨g, off, none⟩) n c] w fun e w' =>
      ∃ u, e = .returned u ∧ w'.ownsRow w.heap.size 5 1 u (n / 8 + 1) (u8s (Bm.bytesOf (N + 2 ^ n) (n / 8 + 1))) ∧ Below w.heap.size w w' := by
  obtain ⟨i0, hi, hz0, hz1, hz2⟩ := info_parts info_int
  have hown0 : (w.alloc (.cells #[] 3)).ownsRow w.heap.size 3 1 (.slice (some ⟨w.heap.size, 0, none⟩) 0 0) 0 [] := World.ownsRow_lit w #[] 0 (Nat.le_refl _) (by unfold maxLen; omega) rfl
  have hnews : ∀ j u, (i64s (Bm.bitsOf N n))[j]? = some u → (w.alloc (.cells #[] 3)).cell? ((⟨g, off, none⟩ : Addr).add j) = some u := fun j u hj => by
    rw [World.cell?_alloc_lt _ _ _ (by unfold Addr.add; split <;> exact hg)]
    exact reads_news hr j u hj
  have hseal := Bm.bitsOf_seal N n hN
  have hlt : N + 2 ^ n < 2 ^ (n + 1) := by rw [Nat.pow_succ]; omega
  have Hseal := Lib.hid hseal
  have Hlt := Lib.hid hlt
  have Hnews := Lib.hid hnews
  have Hown0 := Lib.hid hown0
  clear hown0 hnews hr hseal hlt hN
  go_enter Try.func14, Try.ntmps14
  go_wp2_with (at_builtin; refine wpList_append_own _ rfl _ _ 22 rfl w.heap.size 3 i0 (.int .i64 0) 1 8 Try.underlying22 hi hz0 hz1 hz2 rfl (by decide) _ _ _ rfl Hown0.out ⟨g, off, none⟩ n c (i64s (Bm.bitsOf N n)) rfl ?c0 Hnews.out ?c2 ?c3 ?c4 ?c5 ?_)
  case c0 => rw [i64s_length, Bm.bitsOf_length, Nat.mul_one]
  case c2 => intro u hu; simp [i64s] at hu; obtain ⟨a, _, rfl⟩ := hu; rfl
  case c3 => unfold maxLen; omega
  case c4 => omega
  case c5 => simp
  intro v1 w1 hown1 hgr1 _
  have hb1 : Below w.heap.size w w1 := ((Below.refl w.heap.size w).alloc (Nat.le_refl _) _).grown hgr1 (by simp) (fun k e => by
    have : k = w.heap.size := by simpa [Value.ownBlock] using e.symm
    rw [this]; exact Nat.le_refl _)
  have Hown1 := Lib.hid hown1
  have Hb1 := Lib.hid hb1
  clear hown1 hb1 hgr1 Hown0 Hnews
  go_wp2_with (at_builtin; refine wpList_append_own _ rfl _ _ 22 rfl w.heap.size 3 i0 (.int .i64 0) 1 8 Try.underlying22 hi hz0 hz1 hz2 rfl (by decide) _ _ _ rfl (Hown1.out.alloc _) ⟨w1.heap.size, 0, none⟩ 1 1 [.int .i64 1] rfl rfl ?d1 ?d2 ?d3 ?d4 ?d5 ?_)
  case d1 =>
    intro j u hj
    match j, hj with
    | 0, hj => simp at hj; subst hj; simp [Addr.add]
  case d2 => intro u hu; simp at hu; subst hu; rfl
  case d3 => unfold maxLen; omega
  case d4 => omega
  case d5 => have := Hb1.out.size; simp; omega
  intro v2 w2 hown2 hgr2 _
  have hb2 : Below w.heap.size w w2 := (Hb1.out.alloc Hb1.out.size _).grown hgr2 (by have := Hb1.out.size; simp; omega) (fun k e => (Hown1.out.lt k e).1)
  rw [i64s_snoc, Hseal.out] at hown2
  obtain ⟨A, c2, hu, hrd, hA⟩ := own_reads hown2
  rw [hu]
  have hrb := rbytes_any A (n + 1) c2 (N + 2 ^ n) w2 (by omega) Hlt.out hrd (fun a e _ => (hA a e).2.1)
  rw [show (n + 1 + 7) / 8 = n / 8 + 1 by omega] at hrb
  have Hrb := Lib.hid hrb
  have Hb2 := Lib.hid hb2
  clear hrb hb2 hrd hA hu hown2 hgr2 Hown1 Hb1
  go_wp2_with fail
  refine Hrb.out.mono ?_
  rintro e w3 ⟨u3, rfl, hu3, hb3⟩
  have Hu3 := Lib.hid (own_low hu3 Hb2.out.size)
  have Hb3 := Lib.hid (Hb2.out.trans (hb3.mono Hb2.out.size))
  clear hu3 hb3
  go_wp2
  go_ret
  exact ⟨_, rfl, Hu3.out, Hb3.out⟩
end Go.Proofs.Ytjlfgfoalfiajaa

namespace Go.Proofs.Ytjlfgfoalfiajaa
open Go.RowKit

set_option maxRecDepth 100000 in
theorem ropen_empty (A : Option Addr) (c : Nat) (w : World) :
    Calls Try.prog 38 #[.slice A 0 c] w fun e w' => e = .returned (.tuple #[.slice none 0 0, .bool false]) ∧ w = w' := by
  go_enter Try.func38, Try.ntmps38
  go_wp2
  go_ret2
  exact ⟨rfl, rfl⟩
set_option maxHeartbeats 400000 in
set_option maxRecDepth 100000 in
theorem ropen_zero (g off q c : Nat) (w : World) (hq : q ≤ 100000000) (hc : w.cell? ⟨g, off + q, none⟩ = some (.int .u8 0)) :
    Calls Try.prog 38 #[.slice (some ⟨g, off, none⟩) (q + 1) c] w fun e w' => e = .returned (.tuple #[.slice none 0 0, .bool false]) ∧ w = w' := by
  go_enter Try.func38, Try.ntmps38
  go_wp2
  go_ret2
  exact ⟨rfl, rfl⟩

set_option maxHeartbeats 1000000 in
set_option maxRecDepth 100000 in
theorem ropen_some (g off q c top : Nat) (bs : List Nat) (x : Nat) (w : World) (hq : q ≤ 10000) (hbs : ∀ b ∈ bs, b < 256) (hx0 : x ≠ 0) (hl : bs.length = q + 1) (hlast : bs[q]'(by omega) = x)
    (hrd : Reads w (some ⟨g, off, none⟩) (u8s bs)) (hg : g < w.heap.size) (htop : Bm.Top (Bm.valB bs) top) (htl : top < 8 * (q + 1)) :
    Calls Try.prog 38 #[.slice (some ⟨g, off, none⟩) (q + 1) c] w fun e w' => ∃ A c', e = .returned (.tuple #[.slice A top c', .bool true]) ∧ top ≤ c' ∧ c' ≤ maxLen ∧
      Rest w' w.heap.size A (Bm.valB bs) top ∧ Below w.heap.size w w' := by
  have hc : w.cell? ⟨g, off + q, none⟩ = some (.int .u8 (x : Int)) := by
    obtain ⟨g', off', e, hc⟩ := reads_u8 hrd (by intro e; rw [e] at hl; simp at hl)
    injection e with e
    injection e with e1 e2
    subst e1 e2
    rw [hc q (by omega), hlast]
  have hrb := rbits_n (some ⟨g, off, none⟩) (q + 1) c bs w hl (by omega) hbs hrd (fun a e _ => by injection e with e; subst e; exact hg)
  have hlt := Bm.valB_lt bs hbs
  rw [hl, Bm.p256] at hlt
  have hxz : ((x : Int) == 0) = false := by simp; omega
  obtain ⟨n, hn⟩ : ∃ n, n = 8 * (q + 1) := ⟨_, rfl⟩
  rw [← hn] at hrb hlt htl
  have hn1 : (n : Int) - 1 = ((n - 1 : Nat) : Int) := by omega
  have hnb : n ≤ 80008 := by omega
  have hn0 : 0 < n := by omega
  generalize Bm.valB bs = V at hrb hlt htop ⊢
  have Hrb := Lib.hid hrb
  have Hlt := Lib.hid hlt
  have Htop := Lib.hid htop
  have Hn1 := Lib.hid hn1
  clear hrb hlt htop hrd hl hlast hn hn1 hbs
  go_enter Try.func38, Try.ntmps38
  go_wp2_with fail
  refine Hrb.out.mono ?_
  rintro e w1 ⟨u, rfl, hu, hb1⟩
  obtain ⟨A, c', hform, hc', hcm', hrest⟩ := own_rest hu
  rw [hform]
  obtain ⟨g1, off1, rfl, hg1, hg1l, hcells⟩ : ∃ g off, A = some ⟨g, off, none⟩ ∧ w.heap.size ≤ g ∧ g < w1.heap.size ∧ ∀ j, j < n → w1.cell? ⟨g, off + j, none⟩ = some (.int .i64 ((V / 2 ^ j % 2 : Nat) : Int)) := by
    rcases hrest with h | ⟨g, off, e, h1, h2, h3⟩
    · omega
    · exact ⟨g, off, e, h1, h2, h3⟩
  have Hcells := Lib.hid hcells
  have Hb1 := Lib.hid hb1
  have hto : ∀ k, k ≤ n → ∀ W, (Instr.slice 22 (.slice (some ⟨g1, off1, none⟩) n c') none (some (.int .i64 (k : Int))) none).run Try.prog W = .ok (.slice (some ⟨g1, off1, none⟩) k c') W := fun k hk W => slice_to _ n c' k W hk hc'
  have Hto := Lib.hid hto
  have Hcm := Lib.hid hcm'
  clear hu hform hrest hcells hb1 hto hcm' Hrb
  go_wp2
  rw [Hn1.out]
  go_loop [5] (fun i => ∃ k : Nat, k < n ∧ i = .int .i64 (k : Int) ∧ Hid (V < 2 ^ (k + 1))) (fun i => (intOf i).toNat)
  case atStart => exact ⟨n - 1, by omega, rfl, by rw [show n - 1 + 1 = n by omega]; exact Hlt⟩
  case round =>
    obtain ⟨k, hk, rfl, hV⟩ := hrel
    have hcell := Hcells.out k hk
    by_cases h0 : V / 2 ^ k % 2 = 0
    · have hV' := Bm.top_step V k hV.out h0
      have hk0 : 0 < k := by
        rcases Nat.eq_zero_or_pos k with hz | hz
        · rw [hz] at hV'
          have := (Bm.top_iff.1 Htop.out).1
          have := Nat.two_pow_pos top
          omega
        · exact hz
      obtain ⟨j, rfl⟩ : ∃ j, k = j + 1 := ⟨k - 1, by omega⟩
      rw [h0] at hcell
      have HV' := Lib.hid hV'
      clear hV hV' h0
      go_wp2
      go_round
      case rel => exact ⟨j, by omega, by go_num, HV'⟩
      case measure => simp [intOf]
    · have hkt : k = top := (Bm.top_here V k hV.out h0).uniq Htop.out
      have h1 : V / 2 ^ k % 2 = 1 := by omega
      rw [h1] at hcell
      have hto := Hto.out k (by omega)
      have Hkt := Lib.hid hkt
      clear hV h0 h1 hkt
      go_wp2
      go_ret2
      rw [Hkt.out]
      refine ⟨_, c', rfl, by omega, Hcm.out, .inr ⟨g1, off1, rfl, hg1, hg1l, fun j hj => Hcells.out j (by omega)⟩, Hb1.out⟩
end Go.Proofs.Ytjlfgfoalfiajaa
