/-
  The reference of layer 2 (back): Open, by its walk. Conditions: as each theorem's premises say (up to ten thousand bytes).
-/
import Derived.Test.YtbdciiiimdbmkaaGreatGax
namespace Go.Proofs.YtbdciiiimdbmkaaGreat
open Go.RowKit

set_option maxRecDepth 100000 in
theorem ropen_empty (A : Option Addr) (c : Nat) (w : World) :
    Calls Tryz.prog 91 #[.slice A 0 c] w fun e w' => e = .returned (.tuple #[.slice none 0 0, .bool false]) ∧ w = w' := by
  go_enter Tryz.func91, Tryz.ntmps91
  go_wp2
  go_ret2
  exact ⟨rfl, rfl⟩
set_option maxHeartbeats 400000 in
set_option maxRecDepth 100000 in
theorem ropen_zero (g off q c : Nat) (w : World) (hq : q ≤ 100000000) (hc : w.cell? ⟨g, off + q, none⟩ = some (.int .u8 0)) :
    Calls Tryz.prog 91 #[.slice (some ⟨g, off, none⟩) (q + 1) c] w fun e w' => e = .returned (.tuple #[.slice none 0 0, .bool false]) ∧ w = w' := by
  go_enter Tryz.func91, Tryz.ntmps91
  go_wp2
  go_ret2
  exact ⟨rfl, rfl⟩

set_option maxHeartbeats 1000000 in
set_option maxRecDepth 100000 in
theorem ropen_some (g off q c top : Nat) (bs : List Nat) (x : Nat) (w : World) (hq : q ≤ 10000) (hbs : ∀ b ∈ bs, b < 256) (hx0 : x ≠ 0) (hl : bs.length = q + 1) (hlast : bs[q]'(by omega) = x)
    (hrd : Reads w (some ⟨g, off, none⟩) (u8s bs)) (hg : g < w.heap.size) (htop : Bm.Top (Bm.valB bs) top) (htl : top < 8 * (q + 1)) :
    Calls Tryz.prog 91 #[.slice (some ⟨g, off, none⟩) (q + 1) c] w fun e w' => ∃ A c', e = .returned (.tuple #[.slice A top c', .bool true]) ∧ top ≤ c' ∧ c' ≤ maxLen ∧
      Rest w' w.heap.size A (Bm.valB bs) top ∧ Below w.heap.size w w' := by
  have hc : w.cell? ⟨g, off + q, none⟩ = some (.int .u8 (x : Int)) := by
    obtain ⟨g', off', e, hc⟩ := reads_u8 hrd (by intro e; rw [e] at hl; simp at hl)
    injection e with e
    injection e with e1 e2
    subst e1 e2
    rw [hc q (by omega), hlast]
  have hrb := rbits_n (some ⟨g, off, none⟩) (q + 1) c bs w hl (by omega) hbs hrd (fun a e _ => by injection e with e; subst e; exact hg)
  have hlt := Bm.valB_lt bs hbs
  rw [hl, Bm.p256] at hlt
  have hxz : ((x : Int) == 0) = false := by simp; omega
  obtain ⟨n, hn⟩ : ∃ n, n = 8 * (q + 1) := ⟨_, rfl⟩
  rw [← hn] at hrb hlt htl
  have hn1 : (n : Int) - 1 = ((n - 1 : Nat) : Int) := by omega
  have hnb : n ≤ 80008 := by omega
  have hn0 : 0 < n := by omega
  generalize Bm.valB bs = V at hrb hlt htop ⊢
  have Hrb := Lib.hid hrb
  have Hlt := Lib.hid hlt
  have Htop := Lib.hid htop
  have Hn1 := Lib.hid hn1
  clear hrb hlt htop hrd hl hlast hn hn1 hbs
  go_enter Tryz.func91, Tryz.ntmps91
  go_wp2_with fail
  refine Hrb.out.mono ?_
  rintro e w1 ⟨u, rfl, hu, hb1⟩
  obtain ⟨A, c', hform, hc', hcm', hrest⟩ := own_rest hu
  rw [hform]
  obtain ⟨g1, off1, rfl, hg1, hg1l, hcells⟩ : ∃ g off, A = some ⟨g, off, none⟩ ∧ w.heap.size ≤ g ∧ g < w1.heap.size ∧ ∀ j, j < n → w1.cell? ⟨g, off + j, none⟩ = some (.int .i64 ((V / 2 ^ j % 2 : Nat) : Int)) := by
    rcases hrest with h | ⟨g, off, e, h1, h2, h3⟩
    · omega
    · exact ⟨g, off, e, h1, h2, h3⟩
  have Hcells := Lib.hid hcells
  have Hb1 := Lib.hid hb1
  have hto : ∀ k, k ≤ n → ∀ W, (Instr.slice 57 (.slice (some ⟨g1, off1, none⟩) n c') none (some (.int .i64 (k : Int))) none).run Tryz.prog W = .ok (.slice (some ⟨g1, off1, none⟩) k c') W := fun k hk W => slice_to _ n c' k W hk hc'
  have Hto := Lib.hid hto
  have Hcm := Lib.hid hcm'
  clear hu hform hrest hcells hb1 hto hcm' Hrb
  go_wp2
  rw [Hn1.out]
  go_loop [5] (fun i => ∃ k : Nat, k < n ∧ i = .int .i64 (k : Int) ∧ Hid (V < 2 ^ (k + 1))) (fun i => (intOf i).toNat)
  case atStart => exact ⟨n - 1, by omega, rfl, by rw [show n - 1 + 1 = n by omega]; exact Hlt⟩
  case round =>
    obtain ⟨k, hk, rfl, hV⟩ := hrel
    have hcell := Hcells.out k hk
    by_cases h0 : V / 2 ^ k % 2 = 0
    · have hV' := Bm.top_step V k hV.out h0
      have hk0 : 0 < k := by
        rcases Nat.eq_zero_or_pos k with hz | hz
        · rw [hz] at hV'
          have := (Bm.top_iff.1 Htop.out).1
          have := Nat.two_pow_pos top
          omega
        · exact hz
      obtain ⟨j, rfl⟩ : ∃ j, k = j + 1 := ⟨k - 1, by omega⟩
      rw [h0] at hcell
      have HV' := Lib.hid hV'
      clear hV hV' h0
      go_wp2
      go_round
      case rel => exact ⟨j, by omega, by go_num, HV'⟩
      case measure => simp [intOf]
    · have hkt : k = top := (Bm.top_here V k hV.out h0).uniq Htop.out
      have h1 : V / 2 ^ k % 2 = 1 := by omega
      rw [h1] at hcell
      have hto := Hto.out k (by omega)
      have Hkt := Lib.hid hkt
      clear hV h0 h1 hkt
      go_wp2
      go_ret2
      rw [Hkt.out]
      refine ⟨_, c', rfl, by omega, Hcm.out, .inr ⟨g1, off1, rfl, hg1, hg1l, fun j hj => Hcells.out j (by omega)⟩, Hb1.out⟩
end Go.Proofs.YtbdciiiimdbmkaaGreat
