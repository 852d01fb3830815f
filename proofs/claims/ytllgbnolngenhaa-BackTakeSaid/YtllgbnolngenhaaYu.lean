/-
  BackTake (layer 2), whatever its arguments: bytes that are sealed, and bytes that aren't. No condition beyond that the arguments are a slice of bytes and a slice of ints.
-/
import Derived.Test.YtllgbnolngenhaaYt
namespace Go.Proofs.Ytllgbnolngenhaa
open Go.RowKit

theorem last_split (bs : List Nat) (q : Nat) (h : bs.length = q + 1) : bs = bs.take q ++ [bs[q]'(by omega)] ∧ (bs.take q).length = q := by
  refine ⟨?_, by simp; omega⟩
  have h1 := List.take_succ_eq_append_getElem (l := bs) (i := q) (by omega)
  rw [List.take_of_length_le (by omega)] at h1
  exact h1

theorem ktake_any (A B : Option Addr) (n c m d : Nat) (bs : List Nat) (l : List Int) (w : World) (ha : ArgB w A n c bs) (hi : ArgI w B m d l) :
    Calls Try.prog 4 #[.slice A n c, .slice B m d] w fun e w' => e = .returned (.bool true) ∧ Below w.heap.size w w' := by
  by_cases hlong : 60 < n ∨ 100 < m
  · exact ktake_long A B n c m d w hlong (by have h1 := ha.2.2.2.2.1; have h2 := ha.2.2.2.2.2; unfold maxLen at h2; omega) (by have h1 := hi.2.2.2.1; have h2 := hi.2.2.2.2; unfold maxLen at h2; omega)
  obtain ⟨hl, hbs, hrd, hA, hc, hcm⟩ := ha
  rcases Nat.eq_zero_or_pos n with h0 | h0
  · subst h0
    exact ktake_none A B 0 c m d l w (by omega) (by omega) hi (fun w1 _ => ropen_empty A c w1) (fun w1 _ => open_empty A c w1)
  obtain ⟨q, rfl⟩ : ∃ q, n = q + 1 := ⟨n - 1, by omega⟩
  obtain ⟨g, off, rfl, hcell⟩ := reads_u8 hrd (by intro h; rw [h] at hl; simp at hl)
  have hg : g < w.heap.size := hA _ rfl h0
  have hx := hbs (bs[q]'(by omega)) (List.getElem_mem _)
  have hxc := hcell q (by omega)
  have hrd1 : ∀ w1, Below w.heap.size w w1 → Reads w1 (some ⟨g, off, none⟩) (u8s bs) := fun w1 hb => reads_below hrd hb (fun a e => by injection e with e; subst e; exact hg)
  obtain ⟨hsp, hsl⟩ := last_split bs q hl
  by_cases hx0 : bs[q]'(by omega) = 0
  · rw [hx0] at hxc
    exact ktake_none _ B (q + 1) c m d l w (by omega) (by omega) hi (fun w1 hb => ropen_zero g off q c w1 (by omega) ((hb.cell (p := ⟨g, off + q, none⟩) hg).trans hxc)) (fun w1 hb => open_zero g off q c w1 (by omega) ((hb.cell (p := ⟨g, off + q, none⟩) hg).trans hxc))
  · obtain ⟨h1, h8, htop⟩ := Bm.top_last (bs.take q) (bs[q]'(by omega)) (fun x hx => hbs x (List.mem_of_mem_take hx)) hx hx0
    rw [← hsp, hsl] at htop
    have htl : 8 * q + (Lib.bitLen (bs[q]'(by omega)) - 1) < 8 * (q + 1) := by omega
    exact ktake_some g off B q c m d _ bs l w (by omega) (by omega) hbs hl hi htl (fun w1 hb => ropen_some g off q c _ bs _ w1 (by omega) hbs hx0 hl rfl (hrd1 w1 hb) (Nat.lt_of_lt_of_le hg hb.size) htop htl)
      (fun w1 hb => open_some g off q c bs _ w1 (by omega) hx hx0 hl rfl (hrd1 w1 hb) (Nat.lt_of_lt_of_le hg hb.size))
end Go.Proofs.Ytllgbnolngenhaa
