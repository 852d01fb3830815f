/-
  The reference of layer 2 (back): Seal, Open, each by its walk. Conditions: as each theorem's premises say (up to a hundred thousand bits).
-/
import Derived.Test.YtllgbnolngenhaaYe
import Derived.Test.YtllgbnolngenhaaWu
import Derived.Laws.AppendOwnNone
namespace Go.Proofs.Ytllgbnolngenhaa
open Go.RowKit

theorem i64s_snoc (l : List Nat) : i64s l ++ [Value.int .i64 1] = i64s (l ++ [1]) := by simp [i64s]
theorem reads_news {w : World} {g off : Nat} {xs : List Value} (h : Reads w (some ⟨g, off, none⟩) xs) : ∀ j u, xs[j]? = some u → w.cell? ((⟨g, off, none⟩ : Addr).add j) = some u := by
  intro j u hj
  have hjl : j < xs.length := by
    rcases Nat.lt_or_ge j xs.length with h1 | h1
    · exact h1
    · rw [List.getElem?_eq_none h1] at hj; cases hj
  obtain ⟨g', off', e, hc⟩ := h (by intro e; rw [e] at hjl; simp at hjl)
  injection e with e
  injection e with e1 e2
  subst e1 e2
  have e : ((⟨g, off, none⟩ : Addr).add j) = ⟨g, off + j, none⟩ := by unfold Addr.add; split <;> simp_all
  rw [e, hc j hjl, hj]

set_option maxHeartbeats 1000000 in
theorem rseal_nil (w : World) :
    Calls Try.prog 11 #[.slice none 0 0] w fun e w' => ∃ u, e = .returned u ∧ w'.ownsRow w.heap.size 5 1 u 1 (u8s (Bm.bytesOf (0 + 2 ^ 0) 1)) ∧ Below w.heap.size w w' := by
  obtain ⟨i0, hi, hz0, hz1, hz2⟩ := info_parts info_int
  have hown0 : (w.alloc (.cells #[] 3)).ownsRow w.heap.size 3 1 (.slice (some ⟨w.heap.size, 0, none⟩) 0 0) 0 [] := World.ownsRow_lit w #[] 0 (Nat.le_refl _) (by unfold maxLen; omega) rfl
  have Hown0 := Lib.hid hown0
  clear hown0
  go_enter Try.func11, Try.ntmps11
  go_wp2_with (at_builtin; first | (refine wpList_append_own_none rfl _ _ 28 rfl w.heap.size 3 i0 1 Try.underlying28 hi _ _ _ rfl Hown0.out rfl ?_) | (refine wpList_append_own _ rfl _ _ 28 rfl w.heap.size 3 i0 (.int .i64 0) 1 8 Try.underlying28 hi hz0 hz1 hz2 rfl (by decide) _ _ _ rfl (Hown0.out.alloc _) ⟨w.heap.size + 1, 0, none⟩ 1 1 [.int .i64 1] rfl rfl ?c1 ?c2 ?c3 ?c4 ?c5 ?_))
  case c1 =>
    intro j u hj
    match j, hj with
    | 0, hj => simp at hj; subst hj; simp [Addr.add]
  case c2 => intro u hu; simp at hu; subst hu; rfl
  case c3 => unfold maxLen; omega
  case c4 => omega
  case c5 => simp; omega
  intro u' w2 hown2 hgr2 _
  have hb2 : Below w.heap.size w w2 := (((Below.refl w.heap.size w).alloc (Nat.le_refl _) _).alloc (by simp) _).grown hgr2 (by simp; omega) (fun k e => by
    have : k = w.heap.size := by simpa [Value.ownBlock] using e.symm
    rw [this]; exact Nat.le_refl _)
  obtain ⟨A, c, hu, hrd, hA⟩ := own_reads hown2
  rw [hu]
  have hrb := rbytes_any A 1 c 1 w2 (by omega) (by omega) hrd (fun a e _ => (hA a e).2.1)
  have Hrb := Lib.hid hrb
  have Hb2 := Lib.hid hb2
  clear hrb hb2 hrd hA hu hown2 hgr2
  go_wp2_with fail
  refine Hrb.out.mono ?_
  rintro e w3 ⟨u3, rfl, hu3, hb3⟩
  have Hu3 := Lib.hid (own_low hu3 Hb2.out.size)
  have Hb3 := Lib.hid (Hb2.out.trans (hb3.mono Hb2.out.size))
  clear hu3 hb3
  go_wp2
  go_ret
  exact ⟨_, rfl, Hu3.out, Hb3.out⟩

set_option maxHeartbeats 1000000 in
theorem rseal_some (g off n c N : Nat) (w : World) (hn : n ≤ 100000) (hN : N < 2 ^ n) (hr : Reads w (some ⟨g, off, none⟩) (i64s (Bm.bitsOf N n))) (hg : g < w.heap.size) :
    Calls Try.prog 11 #[.slice (some ⟨g, off, none⟩) n c] w fun e w' =>
      ∃ u, e = .returned u ∧ w'.ownsRow w.heap.size 5 1 u (n / 8 + 1) (u8s (Bm.bytesOf (N + 2 ^ n) (n / 8 + 1))) ∧ Below w.heap.size w w' := by
  obtain ⟨i0, hi, hz0, hz1, hz2⟩ := info_parts info_int
  have hown0 : (w.alloc (.cells #[] 3)).ownsRow w.heap.size 3 1 (.slice (some ⟨w.heap.size, 0, none⟩) 0 0) 0 [] := World.ownsRow_lit w #[] 0 (Nat.le_refl _) (by unfold maxLen; omega) rfl
  have hnews : ∀ j u, (i64s (Bm.bitsOf N n))[j]? = some u → (w.alloc (.cells #[] 3)).cell? ((⟨g, off, none⟩ : Addr).add j) = some u := fun j u hj => by
    rw [World.cell?_alloc_lt _ _ _ (by unfold Addr.add; split <;> exact hg)]
    exact reads_news hr j u hj
  have hseal := Bm.bitsOf_seal N n hN
  have hlt : N + 2 ^ n < 2 ^ (n + 1) := by rw [Nat.pow_succ]; omega
  have Hseal := Lib.hid hseal
  have Hlt := Lib.hid hlt
  have Hnews := Lib.hid hnews
  have Hown0 := Lib.hid hown0
  clear hown0 hnews hr hseal hlt hN
  go_enter Try.func11, Try.ntmps11
  go_wp2_with (at_builtin; refine wpList_append_own _ rfl _ _ 28 rfl w.heap.size 3 i0 (.int .i64 0) 1 8 Try.underlying28 hi hz0 hz1 hz2 rfl (by decide) _ _ _ rfl Hown0.out ⟨g, off, none⟩ n c (i64s (Bm.bitsOf N n)) rfl ?c0 Hnews.out ?c2 ?c3 ?c4 ?c5 ?_)
  case c0 => rw [i64s_length, Bm.bitsOf_length, Nat.mul_one]
  case c2 => intro u hu; simp [i64s] at hu; obtain ⟨a, _, rfl⟩ := hu; rfl
  case c3 => unfold maxLen; omega
  case c4 => omega
  case c5 => simp
  intro v1 w1 hown1 hgr1 _
  have hb1 : Below w.heap.size w w1 := ((Below.refl w.heap.size w).alloc (Nat.le_refl _) _).grown hgr1 (by simp) (fun k e => by
    have : k = w.heap.size := by simpa [Value.ownBlock] using e.symm
    rw [this]; exact Nat.le_refl _)
  have Hown1 := Lib.hid hown1
  have Hb1 := Lib.hid hb1
  clear hown1 hb1 hgr1 Hown0 Hnews
  go_wp2_with (at_builtin; refine wpList_append_own _ rfl _ _ 28 rfl w.heap.size 3 i0 (.int .i64 0) 1 8 Try.underlying28 hi hz0 hz1 hz2 rfl (by decide) _ _ _ rfl (Hown1.out.alloc _) ⟨w1.heap.size, 0, none⟩ 1 1 [.int .i64 1] rfl rfl ?d1 ?d2 ?d3 ?d4 ?d5 ?_)
  case d1 =>
    intro j u hj
    match j, hj with
    | 0, hj => simp at hj; subst hj; simp [Addr.add]
  case d2 => intro u hu; simp at hu; subst hu; rfl
  case d3 => unfold maxLen; omega
  case d4 => omega
  case d5 => have := Hb1.out.size; simp; omega
  intro v2 w2 hown2 hgr2 _
  have hb2 : Below w.heap.size w w2 := (Hb1.out.alloc Hb1.out.size _).grown hgr2 (by have := Hb1.out.size; simp; omega) (fun k e => (Hown1.out.lt k e).1)
  rw [i64s_snoc, Hseal.out] at hown2
  obtain ⟨A, c2, hu, hrd, hA⟩ := own_reads hown2
  rw [hu]
  have hrb := rbytes_any A (n + 1) c2 (N + 2 ^ n) w2 (by omega) Hlt.out hrd (fun a e _ => (hA a e).2.1)
  rw [show (n + 1 + 7) / 8 = n / 8 + 1 by omega] at hrb
  have Hrb := Lib.hid hrb
  have Hb2 := Lib.hid hb2
  clear hrb hb2 hrd hA hu hown2 hgr2 Hown1 Hb1
  go_wp2_with fail
  refine Hrb.out.mono ?_
  rintro e w3 ⟨u3, rfl, hu3, hb3⟩
  have Hu3 := Lib.hid (own_low hu3 Hb2.out.size)
  have Hb3 := Lib.hid (Hb2.out.trans (hb3.mono Hb2.out.size))
  clear hu3 hb3
  go_wp2
  go_ret
  exact ⟨_, rfl, Hu3.out, Hb3.out⟩
end Go.Proofs.Ytllgbnolngenhaa
