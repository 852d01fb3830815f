/-
  The program's layer 9 (huff), by its walk: Best, Lengths over what bounded is to answer; what the calls answer, together, of counts whose lengths are within 11. Conditions: as each theorem's premises say.
-/
import Derived.Test.YtmcobnbahkoopaaVl
import Derived.Test.YtmcobnbahkoopaaUh
namespace Go.Proofs.Ytmcobnbahkoopaa
open Go.RowKit
set_option maxHeartbeats 1000000 in
set_option maxRecDepth 100000 in
theorem ubest_any (A : Option Addr) (c : Nat) (l : List Int) (w : World) (hl : l.length ≤ maxLen) (hr : Reads w A (i64z l)) :
    Calls Try.prog 10 #[.slice A l.length c] w fun e w' => e = .returned (.int .i64 ((if Bm.Right l then Bm.bestN (l.map Int.toNat) else 0 : Nat) : Int)) ∧ Below w.heap.size w w' := by
  have hri := nright_b A c l w hl hr
  by_cases hR : Bm.Right l
  · rw [show Bm.rightB l = true from decide_eq_true hR] at hri
    rw [if_pos hR]
    obtain ⟨e1, k1, n1⟩ := Bm.right_nat l hR
    have h256 := hR.1
    have hex : ∃ x ∈ l.map Int.toNat, 0 < x := by
      obtain ⟨x, hx, h0⟩ := hR.2.2
      exact ⟨x.toNat, List.mem_map.2 ⟨x, hx, rfl⟩, by omega⟩
    have hr2 : Reads w A (i64s (l.map Int.toNat)) := by rw [← i64z_nat, ← e1]; exact hr
    rw [← n1] at hri ⊢
    have h256' : (l.map Int.toNat).length ≤ 256 := by omega
    generalize l.map Int.toNat = cs at *
    have Hri := Lib.hid hri
    have Hun := Lib.hid (uunb_any A c cs w h256' k1 hex hr2)
    have Hr := Lib.hid hr2
    have K1 := Lib.hid k1
    clear hri hex hr2 k1 e1 n1 h256 hR hr hl
    go_enter Try.func10, Try.ntmps10
    go_wp2_with fail
    refine Hri.out.mono ?_
    rintro e w' ⟨rfl, rfl⟩
    clear Hri
    go_wp2_with fail
    refine Hun.out.mono ?_
    rintro e w1 ⟨g, ls, rfl, hrd, hun, hb⟩
    have hll := hun.len
    have hcs := ucsum_any A (some ⟨g, 0, none⟩) c cs.length cs ls w1 (by omega) h256' (by omega) K1.out hun.most (reads_on Hr.out hb) hrd
    rw [hll, hun.cost] at hcs
    have Hcs := Lib.hid hcs
    have Hb := Lib.hid hb
    clear hrd hun hb hll hcs Hun
    go_wp2_with fail
    refine Hcs.out.mono ?_
    rintro e w' ⟨rfl, rfl⟩
    clear Hcs
    go_wp2
    go_ret
    exact ⟨rfl, Hb.out⟩
  · rw [show Bm.rightB l = false from decide_eq_false hR] at hri
    rw [if_neg hR]
    have Hri := Lib.hid hri
    clear hri hR hr
    go_enter Try.func10, Try.ntmps10
    go_wp2_with fail
    refine Hri.out.mono ?_
    rintro e w' ⟨rfl, rfl⟩
    go_wp2
    go_ret
    exact ⟨rfl, Below.refl _ _⟩
set_option maxHeartbeats 1000000 in
set_option maxRecDepth 100000 in
theorem ulen_no (A : Option Addr) (c : Nat) (l : List Int) (w : World) (hl : l.length ≤ maxLen) (hr : Reads w A (i64z l)) (hR : ¬ Bm.Right l) :
    Calls Try.prog 8 #[.slice A l.length c] w fun e w' => e = .returned (.tuple #[.slice none 0 0, .bool false]) ∧ w = w' := by
  have hri := nright_b A c l w hl hr
  rw [show Bm.rightB l = false from decide_eq_false hR] at hri
  have Hri := Lib.hid hri
  clear hri hR hr
  go_enter Try.func8, Try.ntmps8
  go_wp2_with fail
  refine Hri.out.mono ?_
  rintro e w' ⟨rfl, rfl⟩
  go_wp2
  go_ret2
  exact ⟨rfl, rfl⟩
/-- What Lengths, bounded answer: a slice with room for them. -/
def LensP (w w' : World) (cs : List Nat) (v : Value) : Prop := ∃ B d ls, v = .slice B cs.length d ∧ cs.length ≤ d ∧ Reads w' B (i64s ls) ∧ Bm.GoodN cs ls ∧ Below w.heap.size w w'
theorem unb_good {cs ls : List Nat} (h : Bm.UnbN cs ls) (h11 : ∀ x ∈ ls, x ≤ 11) : Bm.GoodN cs ls := ⟨h.len, h.whole h11, h.just, by rw [h.cost]; exact Nat.le_max_right _ _⟩
set_option maxHeartbeats 1000000 in
set_option maxRecDepth 100000 in
theorem ulen_yes (A : Option Addr) (c : Nat) (cs : List Nat) (w : World) (hl : cs.length ≤ 256) (hm : ∀ x ∈ cs, x ≤ 1048576) (hs : ∃ x ∈ cs, 0 < x) (hr : Reads w A (i64s cs)) (hri : Calls Try.prog 21 #[.slice A cs.length c] w fun e w' => e = .returned (.bool true) ∧ w = w')
    (hB : ∀ ls, Bm.UnbN cs ls → (∀ x ∈ ls, x ≤ 11) ∨ (∀ W, Below w.heap.size w W → Calls Try.prog 24 #[.slice A cs.length c] W fun e w' => ∃ v, e = .returned v ∧ LensP W w' cs v)) :
    Calls Try.prog 8 #[.slice A cs.length c] w fun e w' => ∃ v, e = .returned (.tuple #[v, .bool true]) ∧ LensP w w' cs v := by
  have Hri := Lib.hid hri
  have Hun := Lib.hid (uunb_any A c cs w hl hm hs hr)
  have HB := Lib.hid hB
  clear hri hm hs hr hB
  go_enter Try.func8, Try.ntmps8
  go_wp2_with fail
  refine Hri.out.mono ?_
  rintro e w' ⟨rfl, rfl⟩
  clear Hri
  go_wp2_with fail
  refine Hun.out.mono ?_
  rintro e w1 ⟨g, ls, rfl, hrd, hun, hb⟩
  have hll := hun.len
  have hmay := umay_any (some ⟨g, 0, none⟩) cs.length (ls.map fun n : Nat => (n : Int)) w1 (by rw [List.length_map]; omega) (by rw [i64z_nat]; exact hrd)
  rw [List.length_map, hll] at hmay
  have hiff : Bm.LenR (ls.map fun n : Nat => (n : Int)) ↔ ∀ x ∈ ls, x ≤ 11 := by
    unfold Bm.LenR
    constructor
    · intro h x hx
      have := h.2 (x : Int) (List.mem_map.2 ⟨x, hx, rfl⟩)
      omega
    · intro h
      refine ⟨by rw [List.length_map]; omega, fun z hz => ?_⟩
      obtain ⟨x, hx, rfl⟩ := List.mem_map.1 hz
      have := h x hx
      omega
  by_cases h11 : ∀ x ∈ ls, x ≤ 11
  · rw [decide_eq_true (hiff.2 h11)] at hmay
    have Hmay := Lib.hid hmay
    have hfin : LensP w w1 cs (.slice (some ⟨g, 0, none⟩) cs.length cs.length) := ⟨_, _, ls, rfl, Nat.le_refl _, hrd, unb_good hun h11, hb⟩
    have Hf := Lib.hid hfin
    clear hmay hiff h11 hrd hun hb hll Hun HB hfin
    go_wp2_with fail
    refine Hmay.out.mono ?_
    rintro e w' ⟨rfl, rfl⟩
    clear Hmay
    go_wp2
    go_ret2
    exact ⟨_, rfl, Hf.out⟩
  · rw [decide_eq_false (fun h => h11 (hiff.1 h))] at hmay
    have Hmay := Lib.hid hmay
    have Hbn := Lib.hid ((HB.out ls hun).resolve_left h11 w1 hb)
    have Hb := Lib.hid hb
    clear hmay hiff h11 hrd hun hb hll Hun HB
    go_wp2_with fail
    refine Hmay.out.mono ?_
    rintro e w' ⟨rfl, rfl⟩
    clear Hmay
    go_wp2_with fail
    refine Hbn.out.mono ?_
    rintro e w2 ⟨v, rfl, hlp⟩
    have hfin : LensP w w2 cs v := by
      obtain ⟨B, d, ls', h1, h2, h3, h4, h5⟩ := hlp
      exact ⟨B, d, ls', h1, h2, h3, h4, Hb.out.trans (h5.mono Hb.out.size)⟩
    have Hf := Lib.hid hfin
    clear hfin hlp Hbn
    go_wp2
    go_ret2
    exact ⟨_, rfl, Hf.out⟩
/-- Lengths, of counts that may be. -/
theorem ulen_any (D : List Nat → Prop) (A : Option Addr) (c : Nat) (l : List Int) (w : World) (hl : l.length ≤ maxLen) (hr : Reads w A (i64z l)) (hR : Bm.Right l) (hD : D (l.map Int.toNat))
    (hB : ∀ (cs ls : List Nat) (W : World), D cs → cs.length ≤ 256 → (∀ x ∈ cs, x ≤ 1048576) → (∃ x ∈ cs, 0 < x) → Reads W A (i64s cs) → Bm.UnbN cs ls → (∀ x ∈ ls, x ≤ 11) ∨ (Calls Try.prog 24 #[.slice A cs.length c] W fun e w' => ∃ v, e = .returned v ∧ LensP W w' cs v)) :
    Calls Try.prog 8 #[.slice A l.length c] w fun e w' => ∃ v, e = .returned (.tuple #[v, .bool true]) ∧ LensP w w' (l.map Int.toNat) v := by
  have hri := nright_b A c l w hl hr
  rw [show Bm.rightB l = true from decide_eq_true hR] at hri
  obtain ⟨e1, k1, n1⟩ := Bm.right_nat l hR
  have h256 := hR.1
  have hex : ∃ x ∈ l.map Int.toNat, 0 < x := by
    obtain ⟨x, hx, h0⟩ := hR.2.2
    exact ⟨x.toNat, List.mem_map.2 ⟨x, hx, rfl⟩, by omega⟩
  have hr2 : Reads w A (i64s (l.map Int.toNat)) := by rw [← i64z_nat, ← e1]; exact hr
  have h := ulen_yes A c (l.map Int.toNat) w (by omega) k1 hex hr2 (by rw [n1]; exact hri) (fun ls hu => by
    by_cases h11 : ∀ x ∈ ls, x ≤ 11
    · exact .inl h11
    · exact .inr (fun W hW => ((hB (l.map Int.toNat) ls W hD (by omega) k1 hex (reads_on hr2 hW) hu).resolve_left h11)))
  rw [n1] at h
  exact h
/-- All calls of the layer, with Lengths for counts of which D is held. -/
theorem huff_all (D : List Nat → Prop) (hB : ∀ (A : Option Addr) (c : Nat) (cs ls : List Nat) (W : World), D cs → cs.length ≤ 256 → (∀ x ∈ cs, x ≤ 1048576) → (∃ x ∈ cs, 0 < x) → Reads W A (i64s cs) → Bm.UnbN cs ls → (∀ x ∈ ls, x ≤ 11) ∨ (Calls Try.prog 24 #[.slice A cs.length c] W fun e w' => ∃ v, e = .returned v ∧ LensP W w' cs v)) :
    HuffOk (fun l => D (l.map Int.toNat)) where
  lens := fun w A c l hl _ hr hR hD => (ulen_any D A c l w hl hr hR hD (hB A c)).mono fun e w' ⟨v, he, B, d, ls, hv, hd, h1, h2, h3⟩ => ⟨B, d, ls, by rw [he, hv, List.length_map], h1, h2, h3⟩
  noLens := fun w A c l hl _ hr hR => (ulen_no A c l w hl hr hR).mono fun e w' ⟨he, hw⟩ => ⟨none, 0, he, by subst hw; exact Below.refl _ _⟩
  whole := fun w A c l hl _ hr => (uwhole_any A c l w (by unfold maxLen at hl; omega) hr).mono fun e w' ⟨he, hw⟩ => ⟨he, by subst hw; exact Below.refl _ _⟩
  codes := fun w A c l hl _ hr hW => by
    have hw := uwhole_any A c l w (by unfold maxLen at hl; omega) hr
    rw [decide_eq_true hW] at hw
    obtain ⟨e1, h11, elen⟩ := Bm.lenR_nat l hW.1
    have h := ucodes_yes A c (l.map Int.toNat) w (by rw [elen]; exact hW.1.1) h11 (by have := hW.2.2.2; omega) (by rw [← i64z_nat, ← e1]; exact hr) (by rw [elen]; exact hw)
    rw [elen] at h
    refine h.mono ?_
    rintro e w' ⟨g, he, hrow, hg, hb⟩
    exact ⟨some ⟨g, 0, none⟩, _, he, fun _ => ⟨g, 0, rfl, fun j _ => by rw [Nat.zero_add]; exact hrow.cell j⟩, hb⟩
  noCodes := fun w A c l hl _ hr hW => (ucodes_no A c l w (by unfold maxLen at hl; omega) hr hW).mono fun e w' ⟨he, hw⟩ => ⟨none, 0, he, by subst hw; exact Below.refl _ _⟩
  cost := fun w A B c d cs ls hl hl2 _ _ hr hs => (ucost_any A B c d cs ls w hl hl2 hr hs).mono fun e w' ⟨he, hw⟩ => ⟨he, by subst hw; exact Below.refl _ _⟩
  best := fun w A c l hl _ hr => ubest_any A c l w hl hr
theorem unb_521 (ls : List Nat) (h : Bm.UnbN [5, 2, 1] ls) : ∀ x ∈ ls, x ≤ 11 := by
  have hl := h.len
  match ls, hl with
  | [a, b, c], _ =>
    have hc := h.cost
    have h0 := h.just 0 (by simp)
    have h1 := h.just 1 (by simp)
    have h2 := h.just 2 (by simp)
    have hb : Bm.bestN [5, 2, 1] = 11 := by decide +kernel
    rw [hb] at hc
    simp [Bm.costN, List.range_succ] at hc
    intro x hx
    simp at hx
    omega
theorem huff_low : HuffOk (fun l => l.map Int.toNat = [5, 2, 1]) := huff_all (fun cs => cs = [5, 2, 1]) (fun _ _ cs ls _ hD _ _ _ _ hu => .inl (by subst hD; exact unb_521 ls hu))
end Go.Proofs.Ytmcobnbahkoopaa
