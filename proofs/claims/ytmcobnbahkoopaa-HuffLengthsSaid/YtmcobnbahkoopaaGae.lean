/-
  The reference of layer 9 (huff), by its walk: Flat. Conditions: as the theorem's premises say.
  The reference of layer 9 (huff), by its walk: Best. Conditions: as the theorem's premises say.
  Layer 9 (huff): what the reference's Best, Flat answer: no premise is left. No condition.
  The program's layer 5 (count), by its walk: Symbols, Right, total, greatest. Conditions: as each theorem's premises say.
  The program's layer 9 (huff), by its walk: may, cost, Whole, Cost. Conditions: as each theorem's premises say.
  The program's layer 9 (huff), by its walk: Codes. Conditions: as each theorem's premises say.
-/
import Derived.Test.YtmcobnbahkoopaaGad
import Derived.Test.YtmcobnbahkoopaaGac
import Derived.BigQuiet
import Derived.WalkSmall
import Derived.Deep.QuietTactic
import Derived.ArgAppend
namespace Go.Proofs.Ytmcobnbahkoopaa
open Go.RowKit
namespace Bm
theorem isort_id : ∀ (l : List Nat), l.Pairwise (· ≤ ·) → isort l = l
  | [], _ => rfl
  | x :: l, h => by
    rw [List.pairwise_cons] at h
    rw [isort, isort_id l h.2, ins_least x l h.1]
theorem desc_eq (D p : List Nat) (h : D.Perm p) (hs : D.Pairwise (· ≥ ·)) : D = (isort p).reverse := by
  have h1 : isort D.reverse = D.reverse := isort_id _ (by rw [List.pairwise_reverse]; exact hs)
  rw [← isort_perm_eq h, ← isort_perm_eq (List.reverse_perm D), h1, List.reverse_reverse]
theorem desc_ins (x : Nat) (A B : List Nat) (h : (A ++ B).Pairwise (· ≥ ·)) (hB : ∀ b ∈ B, b < x) (hA : ∀ a ∈ A, x ≤ a) : (A ++ x :: B).Pairwise (· ≥ ·) := by
  rw [List.pairwise_append] at h ⊢
  refine ⟨h.1, ?_, ?_⟩
  · rw [List.pairwise_cons]
    exact ⟨fun b hb => by have := hB b hb; omega, h.2.1⟩
  · intro a ha b hb
    rcases List.mem_cons.1 hb with rfl | hb
    · exact hA a ha
    · exact h.2.2 a ha b hb
theorem sum_take_le9 (l : List Nat) (a b : Nat) (h : a ≤ b) : (l.take a).sum ≤ (l.take b).sum := by
  have e : l.take a = (l.take b).take a := by rw [List.take_take, Nat.min_eq_left h]
  have h2 : (l.take b).sum = ((l.take b).take a).sum + ((l.take b).drop a).sum := by rw [← List.sum_append_nat, List.take_append_drop]
  rw [e]
  omega
theorem sum_le_len9 (l : List Nat) (M : Nat) (h : ∀ x ∈ l, x ≤ M) : l.sum ≤ M * l.length := by
  induction l with
  | nil => simp
  | cons a l ih =>
    have h1 := h a List.mem_cons_self
    have h2 := ih (fun x hx => h x (List.mem_cons_of_mem _ hx))
    rw [List.sum_cons, List.length_cons, Nat.mul_succ]
    omega
theorem sum_take_next (l : List Nat) (k : Nat) (h : k < l.length) : (l.take (k + 1)).sum = (l.take k).sum + l[k] := by
  rw [List.take_succ_eq_append_getElem h, List.sum_append_nat]
  simp
theorem swap_at (x y : Nat) (R : List Nat) : ∀ A : List Nat, ((A ++ y :: x :: R).set (A.length + 1) y).set A.length x = A ++ x :: y :: R
  | [] => rfl
  | a :: A => by
    have h := swap_at x y R A
    simp only [List.cons_append, List.length_cons, List.set_cons_succ]
    rw [h]
theorem get_at0 (x y : Nat) (R : List Nat) (A : List Nat) : (A ++ y :: x :: R)[A.length]? = some y := by simp
theorem get_at1 (x y : Nat) (R : List Nat) (A : List Nat) : (A ++ y :: x :: R)[A.length + 1]? = some x := by
  rw [List.getElem?_append_right (by omega), show A.length + 1 - A.length = 1 by omega]
  rfl
end Bm
/-- Two neighbours changed round. -/
theorem Seg.swap {w : World} {base g cap x y : Nat} {A R : List Nat} (h : Seg w base g 0 cap (A ++ y :: x :: R)) : Seg ((w.setCell ⟨g, A.length + 1, none⟩ (.int .i64 (y : Int))).setCell ⟨g, A.length, none⟩ (.int .i64 (x : Int))) base g 0 cap (A ++ x :: y :: R) := by
  have h1 := h.set (A.length + 1) (by simp) y
  have h2 := h1.set A.length (by simp) x
  rw [Bm.swap_at, Nat.zero_add, Nat.zero_add] at h2
  exact h2
theorem Seg.cell0 {w : World} {base g off cap : Nat} {l : List Nat} (h : Seg w base g off cap l) (j z : Nat) (hj : l[j]? = some z) : w.cell? ⟨g, off + j, none⟩ = some (.int .i64 (z : Int)) := by
  obtain ⟨h1, h2⟩ := List.getElem?_eq_some_iff.1 hj
  rw [h.cell j h1, h2]

set_option maxHeartbeats 4000000 in
set_option maxRecDepth 100000 in
theorem vflat_any (w : World) (A : Option Addr) (c : Nat) (cs : List Nat) (hl : cs.length ≤ 256) (h20 : ∀ x ∈ cs, x ≤ 1048576) (hex : ∃ x ∈ cs, 0 < x) (hr : Reads w A (i64s cs)) :
    Calls Try.prog 15 #[.slice A cs.length c] w fun e w' => e = .returned (.int .i64 (Bm.flatN cs : Int)) ∧ Below w.heap.size w w' := by
  obtain ⟨i0, hi, hz0, hz1, hz2⟩ := info_parts info_in
  have hn0 : 0 < cs.length := by
    obtain ⟨x, hx, _⟩ := hex
    exact List.length_pos_of_mem hx
  obtain ⟨g, off, hA, hc⟩ := reads_i9 hr hn0
  have hcW : ∀ W, Below w.heap.size w W → ∀ j (hj : j < cs.length), W.cell? ⟨g, off + j, none⟩ = some (.int .i64 (cs[j] : Int)) := fun W hb j hj => by
    obtain ⟨g', off', e, hc'⟩ := reads_i9 (reads_on hr hb) hn0
    rw [hA] at e
    injection e with e
    injection e with e1 e2
    subst e1 e2
    exact hc' j hj
  subst hA
  have Hc := Lib.hid hcW
  have H20 := Lib.hid h20
  have Hp0 := Lib.hid (Bm.posC_some cs hex)
  obtain ⟨r, hres⟩ : ∃ r, r = Bm.flatN cs := ⟨_, rfl⟩
  rw [← hres]
  unfold Bm.flatN at hres
  have Hres := Lib.hid hres
  clear hc hcW h20 hex hr hres
  go_enter Try.func15, Try.ntmps15
  go_wp2
  go_loopw [3, 4] (fun u i wr => ∃ k : Nat, k ≤ cs.length ∧ i = .int .i64 (k : Int) ∧ Hid (wr.ownsRow w.heap.size 3 1 u (Bm.posC (cs.take k)).length (i64s (Bm.posC (cs.take k)))) ∧ Hid (Below w.heap.size w wr)) (fun _ i _ => cs.length - (intOf i).toNat)
  case atStart => exact ⟨0, by omega, rfl, Lib.hid (World.ownsRow_nil _ _ _ _), Lib.hid (Below.refl _ _)⟩
  case round =>
    obtain ⟨k, hk, rfl, hown, hbel⟩ := hrel
    by_cases hkl : k < cs.length
    · have c0 := Hc.out wr hbel.out k hkl
      have Hn := Lib.hid (Bm.posC_take cs k hkl)
      have hpl : (Bm.posC (cs.take k)).length ≤ 256 := by
        have h1 := Bm.posC_le (cs.take k)
        rw [List.length_take] at h1
        omega
      generalize Bm.posC (cs.take k) = p at *
      generalize cs[k] = x at *
      by_cases hx : 0 < x
      · have d1 : decide (0 < x) = true := decide_eq_true hx
        have hcd : (wr.alloc (.cells #[.int .i64 (x : Int)] 3)).cell? ⟨wr.heap.size, 0, none⟩ = some (.int .i64 (x : Int)) := by simp
        rw [if_pos hx] at Hn
        go_wp2_with (at_builtin; refine wpList_append_own _ rfl _ _ 22 rfl w.heap.size 3 i0 (.int .i64 0) 1 8 Try.underlying22 hi hz0 hz1 hz2 rfl (by decide) _ _ _ rfl (hown.out.alloc _) ⟨wr.heap.size, 0, none⟩ 1 1 [.int .i64 (x : Int)] rfl rfl ?c1 ?c2 ?c3 ?c4 ?c5 ?_)
        case c1 =>
          intro j u hj
          match j, hj with
          | 0, hj => simp at hj; subst hj; simp [Addr.add]
        case c2 => intro u hu; simp at hu; subst hu; rfl
        case c3 => unfold maxLen; omega
        case c4 => omega
        case c5 => have := hbel.out.size; simp; omega
        intro u' w1 hown' hgrow _
        have hb' : Below w.heap.size w w1 := (hbel.out.alloc hbel.out.size _).grown hgrow (by have := hbel.out.size; simp; omega) (fun q hq => (hown.out.lt q hq).1)
        have Hown : Hid (w1.ownsRow w.heap.size 3 1 u' (Bm.posC (cs.take (k + 1))).length (i64s (Bm.posC (cs.take (k + 1))))) := Lib.hid (by
          rw [Hn.out, List.length_append]
          have e : i64s p ++ [Value.int .i64 (x : Int)] = i64s (p ++ [x]) := by simp [i64s]
          rw [← e]
          exact hown')
        have Hb := Lib.hid hb'
        clear hown' hb' hgrow hown hbel
        go_wp2
        go_roundw
        case rel => exact ⟨k + 1, by omega, by go_num, Hown, Hb⟩
        case measure => simp [intOf]; omega
      · have d1 : decide (0 < x) = false := decide_eq_false hx
        rw [if_neg hx, List.append_nil] at Hn
        go_wp2
        go_roundw
        case rel => exact ⟨k + 1, by omega, by go_num, Lib.hid (by rw [Hn.out]; exact hown.out), hbel⟩
        case measure => simp [intOf]; omega
    · obtain rfl : k = cs.length := by omega
      rw [List.take_length] at hown
      have hpl := Bm.posC_le cs
      have hp20 : ∀ x ∈ Bm.posC cs, x ≤ 1048576 := fun x hx => H20.out x (Bm.posC_mem cs x hx).1
      obtain ⟨_, gs, cap, rfl, hseg⟩ := seg_of_own hown.out Hp0.out
      have hp0 := Hp0.out
      clear hown hi hz0 hz1 hz2 Hc H20 Hp0
      have hres := Hres.out
      clear Hres
      generalize Bm.posC cs = p at *
      have Hseg := Lib.hid hseg
      have Hp20 := Lib.hid hp20
      clear hseg hp20
      by_cases h1 : p.length = 1
      · have c0 := Hseg.out.cell 0 (by omega)
        rw [if_pos h1] at hres
        obtain ⟨x, rfl⟩ := List.length_eq_one_iff.1 h1
        simp only [List.getElem_cons_zero, Nat.add_zero] at c0
        have hx : r = x := by rw [hres]; simp
        subst hx
        clear hres
        go_wp2
        go_ret
        exact ⟨rfl, hbel.out⟩
      · rw [if_neg h1] at hres
        have hcu : IntKind.u32.wrap ((p.length : Int) - 1) = ((p.length - 1 : Nat) : Int) := by simp [IntKind.wrap, IntKind.bits, IntKind.signed]; omega
        have d1 : ((p.length : Int) == 1) = false := by rw [beq_eq_false_iff_ne]; omega
        have Hwd := Lib.hid (fun W => rwidth_wid (p.length - 1) W (by omega))
        have hw1 := Bm.wid_one (p.length - 1) (by omega)
        have hw2 := Bm.wid_le_of (p.length - 1) 8 (by omega)
        have hS := Bm.wid_lt (p.length - 1)
        generalize Bm.wid (p.length - 1) = L at *
        have Hsz := Lib.hid (fun W => hsize_any (L : Int) W (by omega))
        rw [Int.toNat_natCast] at Hsz
        have hS8 : 2 ^ L ≤ 2 ^ 8 := Nat.pow_le_pow_right (by omega) hw2
        generalize 2 ^ L = S at *
        have Hres := Lib.hid hres
        clear hres
        obtain ⟨w2, hw2e⟩ : ∃ w2 : World, w2 = wr := ⟨_, rfl⟩
        rw [← hw2e] at Hseg hbel
        subst hw2e
        go_wp2_with fail
        refine (Hwd.out _).mono ?_
        rintro e w' ⟨rfl, rfl⟩
        clear hcu d1 Hwd
        go_wp2
        go_loopw [6] (fun i wr => ∃ (q : Nat) (D : List Nat), q ≤ p.length ∧ i = .int .i64 (q : Int) ∧ Hid (Seg wr w.heap.size gs 0 cap (D ++ p.drop q)) ∧ Hid (D.Perm (p.take q)) ∧ Hid (D.Pairwise (· ≥ ·)) ∧ Hid (Below w.heap.size w wr)) (fun i _ => p.length - (intOf i).toNat)
        case atStart => exact ⟨0, [], by omega, rfl, Hseg, Lib.hid (by simp), Lib.hid (by simp), hbel⟩
        case round =>
          obtain ⟨q, D, hq, rfl, hsg, hpm, hso, hbel⟩ := hrel
          by_cases hql : q < p.length
          · have hd := List.drop_eq_getElem_cons hql
            have ht := List.take_succ_eq_append_getElem hql
            have hDl : D.length = q := by have := hpm.out.length_eq; rw [List.length_take] at this; omega
            have hRl : (p.drop (q + 1)).length = p.length - (q + 1) := List.length_drop
            rw [hd] at hsg
            obtain ⟨R, hR⟩ : ∃ R, R = p.drop (q + 1) := ⟨_, rfl⟩
            rw [← hR] at hsg hRl
            have HR := Lib.hid hR
            clear hR
            generalize p[q] = x at *
            have hpm2 : Hid ((D ++ [x]).Perm (p.take (q + 1))) := Lib.hid (by rw [ht]; exact hpm.out.append_right [x])
            have HRl := Lib.hid hRl
            have HDl := Lib.hid hDl
            clear hd ht hpm hRl hDl
            go_wp2
            go_loopw [7] (fun k wr => ∃ A B : List Nat, k = .int .i64 (A.length : Int) ∧ Hid (A ++ B = D) ∧ Hid (∀ b ∈ B, b < x) ∧ Hid (Seg wr w.heap.size gs 0 cap (A ++ x :: (B ++ R))) ∧ Hid (Below w.heap.size w wr)) (fun k _ => (intOf k).toNat)
            case atStart => exact ⟨D, [], by rw [HDl.out], Lib.hid (by simp), Lib.hid (by simp), Lib.hid hsg.out, hbel⟩
            case round =>
              obtain ⟨A, B, rfl, hAB, hBx, hsg, hbel⟩ := hrel
              rcases List.eq_nil_or_concat A with rfl | ⟨A, y, rfl⟩
              · have Hso : Hid ((x :: B).Pairwise (· ≥ ·)) := Lib.hid (Bm.desc_ins x [] B (by rw [hAB.out]; exact hso.out) hBx.out (by simp))
                have Hpm : Hid ((x :: B).Perm (p.take (q + 1))) := Lib.hid (((List.perm_append_comm (l₁ := [x]) (l₂ := B)).trans (by rw [show B = D from hAB.out])).trans hpm2.out)
                have Hsg : Hid (Seg wr w.heap.size gs 0 cap (x :: B ++ R)) := hsg
                clear hpm2 hso hAB hBx hsg
                go_wp2_with fail
                go_quiet (fail)
                go_wp2
                go_roundw
                case rel => exact ⟨q + 1, x :: B, by omega, by go_num, Lib.hid (by rw [← HR.out]; exact Hsg.out), Hpm, Hso, Lib.hid (below_drewN hbel.out _)⟩
                case measure => simp [intOf]; omega
              · rw [List.concat_eq_append] at hAB hsg ⊢
                rw [List.append_assoc, List.singleton_append] at hAB hsg
                have hkl : A.length + 1 < p.length := by
                  have h2 := congrArg List.length hAB.out
                  have h3 := HDl.out
                  rw [List.length_append, List.length_cons] at h2
                  omega
                have c0 := hsg.out.cell0 _ y (Bm.get_at0 x y (B ++ R) A)
                have c1 := hsg.out.cell0 _ x (Bm.get_at1 x y (B ++ R) A)
                have f0 := hsg.out.free A.length
                have f1 := hsg.out.free (A.length + 1)
                rw [Nat.zero_add] at c0 c1
                rw [List.length_append, List.length_singleton]
                have hya : y = (A ++ y :: B)[A.length]?.getD 0 := by rw [show (A ++ y :: B)[A.length]? = some y by simp]; rfl
                have hp1 : (A ++ y :: B).Pairwise (· ≥ ·) := by rw [hAB.out]; exact hso.out
                by_cases hxy : y < x
                · have d1 : decide (y < x) = true := decide_eq_true hxy
                  have Hsw : Hid (∀ W : World, Seg W w.heap.size gs 0 cap (A ++ y :: x :: (B ++ R)) → Seg ((W.setCell ⟨gs, A.length + 1, none⟩ (.int .i64 (y : Int))).setCell ⟨gs, A.length, none⟩ (.int .i64 (x : Int))) w.heap.size gs 0 cap (A ++ x :: y :: (B ++ R))) := Lib.hid (fun W h => h.swap)
                  have HB : Hid (∀ b ∈ y :: B, b < x) := Lib.hid (by
                    intro b hb
                    rcases List.mem_cons.1 hb with rfl | hb
                    · exact hxy
                    · exact hBx.out b hb)
                  have Hge : Hid (w.heap.size ≤ gs) := Lib.hid hsg.out.1
                  clear hya hp1 hpm2 hso hBx
                  have hsg0 := hsg.out
                  have Hsg := Lib.hid hsg0
                  clear hsg hsg0
                  obtain ⟨K, hK⟩ : ∃ K, K = A.length := ⟨_, rfl⟩
                  rw [← hK] at c0 c1 f0 f1 hkl Hsw ⊢
                  have HK := Lib.hid hK
                  clear hK
                  go_wp2_with fail
                  go_quiet (fail)
                  go_wp2
                  go_roundw
                  case rel => exact ⟨A, y :: B, by rw [← HK.out], hAB, HB, Lib.hid (Hsw.out (wr.drewN _) Hsg.out), Lib.hid (((below_drewN hbel.out _).setCell Hge.out _).setCell Hge.out _)⟩
                  case measure => simp [intOf]
                · have d1 : decide (y < x) = false := decide_eq_false hxy
                  have hAx : ∀ a ∈ A ++ [y], x ≤ a := by
                    intro a ha
                    rcases List.mem_append.1 ha with ha | ha
                    · rw [List.pairwise_append] at hp1
                      have := hp1.2.2 a ha y List.mem_cons_self
                      omega
                    · rw [List.mem_singleton.1 ha]; omega
                  have e1 : A ++ y :: B = (A ++ [y]) ++ B := by simp
                  have Hso : Hid (((A ++ [y]) ++ x :: B).Pairwise (· ≥ ·)) := Lib.hid (Bm.desc_ins x (A ++ [y]) B (by rw [← e1]; exact hp1) hBx.out hAx)
                  have Hpm : Hid (((A ++ [y]) ++ x :: B).Perm (p.take (q + 1))) := Lib.hid (by
                    refine List.Perm.trans ?_ hpm2.out
                    refine List.perm_middle.trans ?_
                    rw [← e1, hAB.out]
                    exact List.perm_append_comm (l₁ := [x]) (l₂ := D))
                  have Hsg : Hid (∀ m, Seg (wr.drewN m) w.heap.size gs 0 cap ((A ++ [y]) ++ x :: B ++ p.drop (q + 1))) := Lib.hid (fun m => by
                    have h0 : Seg (wr.drewN m) w.heap.size gs 0 cap (A ++ y :: x :: (B ++ R)) := hsg.out
                    rw [← HR.out, show (A ++ [y]) ++ x :: B ++ R = A ++ y :: x :: (B ++ R) by simp]
                    exact h0)
                  clear hya hp1 hpm2 hso hBx hAx e1 hsg hAB
                  generalize A.length = K at *
                  go_wp2_with fail
                  go_quiet (fail)
                  go_wp2
                  go_roundw
                  case rel => exact ⟨q + 1, _, by omega, by go_num, Lib.hid (Hsg.out _), Hpm, Hso, Lib.hid (below_drewN hbel.out _)⟩
                  case measure => simp [intOf]; omega
          · obtain rfl : q = p.length := by omega
            rw [List.take_length] at hpm
            rw [List.drop_length, List.append_nil] at hsg
            have hD := Bm.desc_eq D p hpm.out hso.out
            have hDl := hpm.out.length_eq
            have hDs : D.sum = p.sum := hpm.out.sum_nat
            have hD20 : ∀ x ∈ D, x ≤ 1048576 := fun x hx => Hp20.out x (hpm.out.mem_iff.1 hx)
            have hres := Hres.out
            rw [← hD, ← hDs] at hres
            have hsum := Bm.sum_le_len9 D 1048576 hD20
            have hSl : p.length ≤ S := by omega
            obtain ⟨lim, hlim⟩ : ∃ lim, lim = S - p.length := ⟨_, rfl⟩
            rw [← hlim] at hres
            have HsA := Lib.hid hsg.out
            clear Hres hD hDs hpm hso Hp20 hsg Hseg
            have hD256 : D.length ≤ 256 := by omega
            have hU := fun k => Bm.sum_take_le9 D (min k lim) k (Nat.min_le_left _ _)
            have hT := fun k (h : k ≤ D.length) => Bm.sum_take_le9 D k D.length h
            rw [List.take_length] at hT
            have HU := Lib.hid hU
            have HT := Lib.hid hT
            have Hres := Lib.hid hres
            have Hsum := Lib.hid hsum
            have H20 := Lib.hid hD20
            clear hU hT hres hsum hD20
            go_wp2
            go_loop [9, 10] (fun n i => ∃ (k : Nat) (N : Int), k ≤ D.length ∧ i = .int .i64 (k : Int) ∧ n = .int .i64 N ∧ Hid (N = (((D.take k).sum * L : Nat) : Int) - ((D.take (min k lim)).sum : Int))) (fun _ i => D.length - (intOf i).toNat)
            case atStart => exact ⟨0, 0, by omega, rfl, rfl, Lib.hid (by simp)⟩
            case round =>
              obtain ⟨k, N, hk, rfl, rfl, hN⟩ := hrel
              by_cases hkl : k < D.length
              · have c0 := HsA.out.cell k hkl
                rw [Nat.zero_add] at c0
                have hx := H20.out D[k] (List.getElem_mem hkl)
                have ht := Bm.sum_take_next D k hkl
                have hu := HU.out k
                have htt := HT.out k hk
                have hsum := Hsum.out
                have hnn := hN.out
                have hTL : (D.take k).sum * L ≤ 268435456 * 8 := Nat.mul_le_mul (by omega) hw2
                have hTl : (D.take k).sum ≤ (D.take k).sum * L := Nat.le_mul_of_pos_right _ hw1
                have hxL : D[k] * L ≤ 1048576 * 8 := Nat.mul_le_mul hx hw2
                have hxl : (D[k] : Int) * (L : Int) = ((D[k] * L : Nat) : Int) := by simp
                have hm0 : 0 ≤ (D[k] : Int) * (L : Int) := by rw [hxl]; omega
                have hm1 : (D[k] : Int) * (L : Int) ≤ 8388608 := by rw [hxl]; omega
                have hN0 : 0 ≤ N := by omega
                have hN1 : N ≤ 2147483648 := by omega
                have hnext : (((D.take (k + 1)).sum * L : Nat) : Int) - ((D.take (min (k + 1) lim)).sum : Int) = N + (D[k] : Int) * (L : Int) - (if k < lim then (D[k] : Int) else 0) := by
                  rw [ht, Nat.add_mul]
                  by_cases hlt : k < lim
                  · rw [if_pos hlt, Nat.min_eq_left (by omega : k + 1 ≤ lim), ht]
                    rw [Nat.min_eq_left (by omega : k ≤ lim)] at hnn
                    omega
                  · rw [if_neg hlt, Nat.min_eq_right (by omega : lim ≤ k + 1)]
                    rw [Nat.min_eq_right (by omega : lim ≤ k)] at hnn
                    omega
                have Hnext := Lib.hid hnext
                clear hnext hxl hxL hTl hTL hnn htt hu ht hsum hN
                generalize D[k] = x at *
                by_cases hlt : k < lim
                · rw [if_pos hlt] at Hnext
                  have d1 : decide ((k : Int) < (S : Int) - (p.length : Int)) = true := decide_eq_true (by omega)
                  go_wp2_with fail
                  refine (Hsz.out _).mono ?_
                  rintro e w' ⟨rfl, rfl⟩
                  go_wp2
                  go_round
                  case rel => exact ⟨k + 1, _, by omega, by go_num, rfl, Lib.hid Hnext.out.symm⟩
                  case measure => simp [intOf]; omega
                · rw [if_neg hlt] at Hnext
                  have d1 : decide ((k : Int) < (S : Int) - (p.length : Int)) = false := decide_eq_false (by omega)
                  go_wp2_with fail
                  refine (Hsz.out _).mono ?_
                  rintro e w' ⟨rfl, rfl⟩
                  go_wp2
                  go_round
                  case rel => exact ⟨k + 1, _, by omega, by go_num, rfl, Lib.hid (by rw [Hnext.out]; omega)⟩
                  case measure => simp [intOf]; omega
              · obtain rfl : k = D.length := by omega
                have hfin : N = (r : Int) := by
                  have h2 := hN.out
                  have h3 := Hres.out
                  have h4 := HU.out D.length
                  rw [List.take_length] at h2 h4
                  have h5 : D.take (min D.length lim) = D.take lim := by
                    by_cases h6 : D.length ≤ lim
                    · rw [Nat.min_eq_left h6, List.take_length, List.take_of_length_le h6]
                    · rw [Nat.min_eq_right (by omega)]
                  rw [h5] at h2 h4
                  have h7 : D.sum ≤ D.sum * L := Nat.le_mul_of_pos_right _ hw1
                  omega
                subst hfin
                go_wp2
                go_ret
                exact ⟨rfl, hbel.out⟩
end Go.Proofs.Ytmcobnbahkoopaa

namespace Go.Proofs.Ytmcobnbahkoopaa
open Go.RowKit
namespace Bm
theorem ins_sum (x : Nat) (l : List Nat) : (ins x l).sum = x + l.sum := by rw [(ins_perm x l).sum_nat, List.sum_cons]
theorem hcost_le : ∀ (f : Nat) (l : List Nat), hcost f l ≤ f * l.sum
  | 0, _ => by simp [hcost]
  | f + 1, [] => by simp [hcost]
  | f + 1, [_] => by simp [hcost]
  | f + 1, a :: b :: l => by
    have h := hcost_le f (ins (a + b) l)
    rw [ins_sum] at h
    rw [hcost, List.sum_cons, List.sum_cons, Nat.succ_mul, ← Nat.add_assoc a b]
    omega
theorem hbest_le (l : List Nat) : hbest l ≤ l.length * l.sum := by
  have h := hcost_le l.length (isort l)
  rw [(isort_perm l).sum_nat] at h
  exact h
end Bm
def lenV : Value → Nat
  | .slice _ n _ => n
  | _ => 0
theorem Seg.olds {w : World} {base g off cap : Nat} {l : List Nat} (h : Seg w base g off cap l) (j : Nat) (u : Value) (hj : (i64s l)[j]? = some u) : w.cell? ⟨g, off + j, none⟩ = some u := by
  have h1 := (List.getElem?_eq_some_iff.1 hj).1
  rw [i64s_length] at h1
  rw [i64s_get? l j h1] at hj
  rw [h.cell j h1, hj]
theorem Seg.mono {w : World} {base base' g off cap : Nat} {l : List Nat} (h : Seg w base g off cap l) (hb : base' ≤ base) : Seg w base' g off cap l := ⟨Nat.le_trans hb h.1, h.2⟩
/-- Two neighbours changed round, wherever the slice begins. -/
theorem Seg.swapO {w : World} {base g off cap x y : Nat} {A R : List Nat} (h : Seg w base g off cap (A ++ y :: x :: R)) : Seg ((w.setCell ⟨g, off + (A.length + 1), none⟩ (.int .i64 (y : Int))).setCell ⟨g, off + A.length, none⟩ (.int .i64 (x : Int))) base g off cap (A ++ x :: y :: R) := by
  have h1 := h.set (A.length + 1) (by simp) y
  have h2 := h1.set A.length (by simp) x
  rw [Bm.swap_at] at h2
  exact h2

set_option maxHeartbeats 40000000 in
set_option maxRecDepth 100000 in
theorem vbest_any (w : World) (A : Option Addr) (c : Nat) (cs : List Nat) (hl : cs.length ≤ 256) (h20 : ∀ x ∈ cs, x ≤ 1048576) (hex : ∃ x ∈ cs, 0 < x) (hr : Reads w A (i64s cs)) :
    Calls Try.prog 13 #[.slice A cs.length c] w fun e w' => e = .returned (.int .i64 (Bm.bestN cs : Int)) ∧ Below w.heap.size w w' := by
  obtain ⟨i0, hi, hz0, hz1, hz2⟩ := info_parts info_in
  have hn0 : 0 < cs.length := by
    obtain ⟨x, hx, _⟩ := hex
    exact List.length_pos_of_mem hx
  obtain ⟨g, off, hA, hc⟩ := reads_i9 hr hn0
  have hcW : ∀ W, Below w.heap.size w W → ∀ j (hj : j < cs.length), W.cell? ⟨g, off + j, none⟩ = some (.int .i64 (cs[j] : Int)) := fun W hb j hj => by
    obtain ⟨g', off', e, hc'⟩ := reads_i9 (reads_on hr hb) hn0
    rw [hA] at e
    injection e with e
    injection e with e1 e2
    subst e1 e2
    exact hc' j hj
  subst hA
  have Hc := Lib.hid hcW
  have H20 := Lib.hid h20
  have Hp0 := Lib.hid (Bm.posC_some cs hex)
  obtain ⟨r, hres⟩ : ∃ r, r = Bm.bestN cs := ⟨_, rfl⟩
  rw [← hres]
  unfold Bm.bestN at hres
  have Hres := Lib.hid hres
  clear hc hcW h20 hex hr hres
  go_enter Try.func13, Try.ntmps13
  go_wp2
  go_loopw [3, 4] (fun u i wr => ∃ k : Nat, k ≤ cs.length ∧ i = .int .i64 (k : Int) ∧ Hid (wr.ownsRow w.heap.size 3 1 u (Bm.posC (cs.take k)).length (i64s (Bm.posC (cs.take k)))) ∧ Hid (Below w.heap.size w wr)) (fun _ i _ => cs.length - (intOf i).toNat)
  case atStart => exact ⟨0, by omega, rfl, Lib.hid (World.ownsRow_nil _ _ _ _), Lib.hid (Below.refl _ _)⟩
  case round =>
    obtain ⟨k, hk, rfl, hown, hbel⟩ := hrel
    by_cases hkl : k < cs.length
    · have c0 := Hc.out wr hbel.out k hkl
      have Hn := Lib.hid (Bm.posC_take cs k hkl)
      have hpl : (Bm.posC (cs.take k)).length ≤ 256 := by
        have h1 := Bm.posC_le (cs.take k)
        rw [List.length_take] at h1
        omega
      generalize Bm.posC (cs.take k) = p at *
      generalize cs[k] = x at *
      by_cases hx : 0 < x
      · have d1 : decide (0 < x) = true := decide_eq_true hx
        have hcd : (wr.alloc (.cells #[.int .i64 (x : Int)] 3)).cell? ⟨wr.heap.size, 0, none⟩ = some (.int .i64 (x : Int)) := by simp
        rw [if_pos hx] at Hn
        go_wp2_with (at_builtin; refine wpList_append_own _ rfl _ _ 22 rfl w.heap.size 3 i0 (.int .i64 0) 1 8 Try.underlying22 hi hz0 hz1 hz2 rfl (by decide) _ _ _ rfl (hown.out.alloc _) ⟨wr.heap.size, 0, none⟩ 1 1 [.int .i64 (x : Int)] rfl rfl ?c1 ?c2 ?c3 ?c4 ?c5 ?_)
        case c1 =>
          intro j u hj
          match j, hj with
          | 0, hj => simp at hj; subst hj; simp [Addr.add]
        case c2 => intro u hu; simp at hu; subst hu; rfl
        case c3 => unfold maxLen; omega
        case c4 => omega
        case c5 => have := hbel.out.size; simp; omega
        intro u' w1 hown' hgrow _
        have hb' : Below w.heap.size w w1 := (hbel.out.alloc hbel.out.size _).grown hgrow (by have := hbel.out.size; simp; omega) (fun q hq => (hown.out.lt q hq).1)
        have Hown : Hid (w1.ownsRow w.heap.size 3 1 u' (Bm.posC (cs.take (k + 1))).length (i64s (Bm.posC (cs.take (k + 1))))) := Lib.hid (by
          rw [Hn.out, List.length_append]
          have e : i64s p ++ [Value.int .i64 (x : Int)] = i64s (p ++ [x]) := by simp [i64s]
          rw [← e]
          exact hown')
        have Hb := Lib.hid hb'
        clear hown' hb' hgrow hown hbel
        go_wp2
        go_roundw
        case rel => exact ⟨k + 1, by omega, by go_num, Hown, Hb⟩
        case measure => simp [intOf]; omega
      · have d1 : decide (0 < x) = false := decide_eq_false hx
        rw [if_neg hx, List.append_nil] at Hn
        go_wp2
        go_roundw
        case rel => exact ⟨k + 1, by omega, by go_num, Lib.hid (by rw [Hn.out]; exact hown.out), hbel⟩
        case measure => simp [intOf]; omega
    · obtain rfl : k = cs.length := by omega
      rw [List.take_length] at hown
      have hpl := Bm.posC_le cs
      have hp20 : ∀ x ∈ Bm.posC cs, x ≤ 1048576 := fun x hx => H20.out x (Bm.posC_mem cs x hx).1
      obtain ⟨_, gs, cap, rfl, hseg⟩ := seg_of_own hown.out Hp0.out
      have hp0 := Hp0.out
      clear hown Hc H20 Hp0
      have hres := Hres.out
      clear Hres
      generalize Bm.posC cs = p at *
      have Hseg := Lib.hid hseg
      have hQ := Bm.sum_le_len9 p 1048576 hp20
      clear hseg hp20
      by_cases h1 : p.length = 1
      · have c0 := Hseg.out.cell 0 (by omega)
        rw [if_pos h1] at hres
        obtain ⟨x, rfl⟩ := List.length_eq_one_iff.1 h1
        simp only [List.getElem_cons_zero, Nat.add_zero] at c0
        have hx : r = x := by rw [hres]; simp
        subst hx
        clear hres
        go_wp2
        go_ret
        exact ⟨rfl, hbel.out⟩
      · rw [if_neg h1] at hres
        have d1 : ((p.length : Int) == 1) = false := by rw [beq_eq_false_iff_ne]; omega
        have hrb : r ≤ 68719476736 := by
          rw [hres]
          refine Nat.le_trans (Bm.hbest_le p) ?_
          refine Nat.le_trans (Nat.mul_le_mul (by omega : p.length ≤ 256) (by omega : p.sum ≤ 268435456)) ?_
          omega
        have hQ2 : p.sum ≤ 268435456 := by omega
        have Hres := Lib.hid hres.symm
        obtain ⟨Q, hQe⟩ : ∃ Q, Q = p.sum := ⟨_, rfl⟩
        rw [← hQe] at hQ2
        have HQ := Lib.hid hQe.symm
        clear hres hQ hQe
        go_wp2
        clear d1
        go_loopw [3, 5, 6, 9] (fun u C _ _ wr => ∃ (g' off' cap' n : Nat) (l : List Nat), u = .slice (some ⟨g', off', none⟩) l.length cap' ∧ C = .int .i64 (n : Int) ∧ 0 < l.length ∧ l.length ≤ 256 ∧ Hid (n + Bm.hbest l = r) ∧ Hid (l.sum = Q) ∧ Hid (Seg wr w.heap.size g' off' cap' l) ∧ Hid (Below w.heap.size w wr)) (fun u _ _ _ _ => lenV u)
        case atStart => exact ⟨gs, 0, cap, 0, p, rfl, rfl, hp0, by omega, Lib.hid (by rw [Nat.zero_add]; exact Hres.out), HQ, Hseg, hbel⟩
        case round =>
          obtain ⟨g1, o1, cap1, n, l, rfl, rfl, hl0, hl256, hcost, hsum, hsg, hbel⟩ := hrel
          clear Hseg Hres HQ
          by_cases hl1 : 1 < l.length
          · have d1 : decide ((1 : Int) < (l.length : Int)) = true := decide_eq_true (by omega)
            go_wp2
            clear d1
            go_loopw [6, 7, 8] (fun k _ _ wr => ∃ F T : List Nat, k = .int .i64 (F.length : Int) ∧ F.length ≤ 2 ∧ Hid ((F ++ T).Perm l) ∧ Hid (F.Pairwise (· ≤ ·)) ∧ Hid (∀ f ∈ F, ∀ t ∈ T, f ≤ t) ∧ Hid (Seg wr w.heap.size g1 o1 cap1 (F ++ T)) ∧ Hid (Below w.heap.size w wr)) (fun k _ _ _ => 2 - (intOf k).toNat)
            case atStart => exact ⟨[], l, rfl, by simp, Lib.hid (by simp), Lib.hid (by simp), Lib.hid (by simp), Lib.hid hsg.out, hbel⟩
            case round =>
              obtain ⟨F, T, rfl, hF2, hpm, hso, hft, hsg, hbel⟩ := hrel
              have hFT := hpm.out.length_eq
              rw [List.length_append] at hFT
              by_cases hF : F.length < 2
              · have d1 : decide ((F.length : Int) < 2) = true := decide_eq_true (by omega)
                rcases List.eq_nil_or_concat T with rfl | ⟨M0, x0, hT0⟩
                · simp at hFT; omega
                have hM0 : (l.length : Int) - 1 = (F.length : Int) + (M0.length : Int) := by
                  have := congrArg List.length hT0
                  rw [List.length_concat] at this
                  omega
                have HM0 := Lib.hid hM0
                have HT0 : Hid (T = M0 ++ [x0]) := Lib.hid (by rw [hT0, List.concat_eq_append])
                clear hM0 hT0
                go_wp2
                clear d1
                go_loopw [7, 8] (fun i _ wr => ∃ (M : List Nat) (x : Nat) (R : List Nat), i = .int .i64 ((F.length : Int) + (M.length : Int)) ∧ Hid ((M ++ x :: R).Perm T) ∧ Hid (∀ z ∈ R, x ≤ z) ∧ Hid (Seg wr w.heap.size g1 o1 cap1 (F ++ (M ++ x :: R))) ∧ Hid (Below w.heap.size w wr)) (fun i _ _ => (intOf i).toNat)
                case atStart => exact ⟨M0, x0, [], by rw [← HM0.out], Lib.hid (by rw [HT0.out]), Lib.hid (by simp), Lib.hid (by rw [← HT0.out]; exact hsg.out), hbel⟩
                case round =>
                  obtain ⟨M, x, R, rfl, hMT, hxR, hsg, hbel⟩ := hrel
                  clear HM0 HT0
                  rcases List.eq_nil_or_concat M with rfl | ⟨M, y, rfl⟩
                  · have Hpm : Hid ((F ++ [x] ++ R).Perm l) := Lib.hid (by
                      rw [List.append_assoc, List.singleton_append]
                      exact (List.Perm.append_left F hMT.out).trans hpm.out)
                    have hxT : x ∈ T := hMT.out.mem_iff.1 (by simp)
                    have Hso : Hid ((F ++ [x]).Pairwise (· ≤ ·)) := Lib.hid (by
                      rw [List.pairwise_append]
                      exact ⟨hso.out, by simp, fun f hf t ht => by rw [List.mem_singleton.1 ht]; exact hft.out f hf x hxT⟩)
                    have Hft : Hid (∀ f ∈ F ++ [x], ∀ t ∈ R, f ≤ t) := Lib.hid (fun f hf t ht => by
                      rcases List.mem_append.1 hf with hf | hf
                      · exact hft.out f hf t (hMT.out.mem_iff.1 (by simp [ht]))
                      · rw [List.mem_singleton.1 hf]; exact hxR.out t ht)
                    have Hsg : Hid (Seg wr w.heap.size g1 o1 cap1 (F ++ [x] ++ R)) := Lib.hid (by
                      rw [List.append_assoc, List.singleton_append]; exact hsg.out)
                    have hFl : ((F ++ [x]).length : Int) = (F.length : Int) + 1 := by simp
                    have HFl := Lib.hid hFl
                    clear hpm hMT hso hft hsg hxR hxT hFl
                    go_wp2
                    go_roundw
                    case rel => exact ⟨F ++ [x], R, by rw [HFl.out], by simp; omega, Hpm, Hso, Hft, Hsg, hbel⟩
                    case measure => simp [intOf]; omega
                  · rw [List.concat_eq_append] at hMT hsg ⊢
                    rw [List.append_assoc, List.singleton_append] at hMT hsg
                    have hkl : F.length + M.length + 1 < l.length := by
                      have h2 := hMT.out.length_eq
                      rw [List.length_append, List.length_cons, List.length_cons] at h2
                      omega
                    have e1 : F ++ (M ++ y :: x :: R) = (F ++ M) ++ y :: x :: R := by simp
                    have hsg0 := hsg.out
                    rw [e1] at hsg0
                    obtain ⟨K, hK⟩ : ∃ K, K = F.length + M.length := ⟨_, rfl⟩
                    have hKF : (F ++ M).length = K := by rw [List.length_append, hK]
                    have c0 := hsg0.cell0 _ y (Bm.get_at0 x y R (F ++ M))
                    have c1 := hsg0.cell0 _ x (Bm.get_at1 x y R (F ++ M))
                    have f0 := hsg0.free (o1 + K)
                    have f1 := hsg0.free (o1 + (K + 1))
                    rw [hKF] at c0 c1
                    have eK : (F.length : Int) + ((M ++ [y]).length : Int) = (K : Int) + 1 := by simp; omega
                    rw [eK]
                    rw [← hK] at hkl
                    have d1 : decide ((F.length : Int) < (K : Int) + 1) = true := decide_eq_true (by omega)
                    have HK : Hid ((F.length : Int) + (M.length : Int) = (K : Int)) := Lib.hid (by omega)
                    have Hge : Hid (w.heap.size ≤ g1) := Lib.hid hsg0.1
                    by_cases hxy : x < y
                    · have d2 : decide (x < y) = true := decide_eq_true hxy
                      have Hsw : Hid (∀ W : World, Seg W w.heap.size g1 o1 cap1 (F ++ (M ++ y :: x :: R)) → Seg ((W.setCell ⟨g1, o1 + (K + 1), none⟩ (.int .i64 (y : Int))).setCell ⟨g1, o1 + K, none⟩ (.int .i64 (x : Int))) w.heap.size g1 o1 cap1 (F ++ (M ++ x :: y :: R))) := Lib.hid (fun W h => by
                        rw [e1] at h
                        have h1 := h.swapO
                        rw [hKF] at h1
                        rw [← List.append_assoc]
                        exact h1)
                      have HMT : Hid ((M ++ x :: y :: R).Perm T) := Lib.hid ((List.Perm.append_left M (List.Perm.swap y x R)).trans hMT.out)
                      have HxR : Hid (∀ z ∈ y :: R, x ≤ z) := Lib.hid (fun z hz => by
                        rcases List.mem_cons.1 hz with rfl | hz
                        · omega
                        · exact hxR.out z hz)
                      clear hMT hxR hsg0 hKF hK e1 eK
                      go_wp2_with fail
                      go_quiet (fail)
                      go_wp2
                      go_roundw
                      case rel => exact ⟨M, x, y :: R, by rw [HK.out], HMT, HxR, Lib.hid (Hsw.out (wr.drewN _) hsg.out), Lib.hid (((below_drewN hbel.out _).setCell Hge.out _).setCell Hge.out _)⟩
                      case measure => simp [intOf]
                    · have d2 : decide (x < y) = false := decide_eq_false hxy
                      have HyR : Hid (∀ z ∈ x :: R, y ≤ z) := Lib.hid (fun z hz => by
                        rcases List.mem_cons.1 hz with rfl | hz
                        · omega
                        · have := hxR.out z hz; omega)
                      have Hsg : Hid (∀ m, Seg (wr.drewN m) w.heap.size g1 o1 cap1 (F ++ (M ++ y :: x :: R))) := Lib.hid (fun m => hsg.out)
                      clear hsg0 hKF hK e1 eK hsg hxR
                      go_wp2_with fail
                      go_quiet (fail)
                      go_wp2
                      go_roundw
                      case rel => exact ⟨M, y, x :: R, by rw [HK.out], hMT, HyR, Lib.hid (Hsg.out _), Lib.hid (below_drewN hbel.out _)⟩
                      case measure => simp [intOf]
              · obtain ⟨a, b, rfl⟩ : ∃ a b, F = [a, b] := by
                  match F, hF, hF2 with
                  | [a, b], _, _ => exact ⟨a, b, rfl⟩
                  | [], h, _ => simp at h
                  | [_], h, _ => simp at h
                  | _ :: _ :: _ :: _, _, h => simp at h
                have hll : l.length = T.length + 2 := by simp at hFT; omega
                have hab : a ≤ b := by have := hso.out; simp at this; exact this
                have hstep : Bm.hbest l = (a + b) + Bm.hbest (T ++ [a + b]) := by
                  rw [← Bm.hbest_perm hpm.out]
                  exact Bm.hbest_step a b T hab (fun x hx => hft.out b (by simp) x hx)
                have hsm : l.sum = a + b + T.sum := by
                  rw [← hpm.out.sum_nat]
                  simp
                  omega
                have hc2 := hcost.out
                rw [hstep] at hc2
                have hs2 := hsum.out
                rw [hsm] at hs2
                have hab28 : a + b ≤ 268435456 := by omega
                have hnb : n + (a + b) ≤ 68719476736 := by omega
                have hsg0 : Seg wr w.heap.size g1 o1 cap1 (a :: b :: T) := hsg.out
                have c0 := hsg0.cell0 0 a rfl
                have c1 := hsg0.cell0 1 b rfl
                rw [Nat.add_zero] at c0
                obtain ⟨hcap2, hcut⟩ := hsg0.cut
                have hfit := hcut.fits
                have hcm := hsg0.fits.2
                have Hge : Hid (w.heap.size ≤ g1) := Lib.hid hsg0.1
                have HT2 : Hid (∀ m, Seg ((wr.drewN m).alloc (.cells #[.int .i64 ((a : Int) + (b : Int))] 3)) w.heap.size g1 (o1 + 2) (cap1 - 2) T) := Lib.hid (fun m => (show Seg (wr.drewN m) w.heap.size g1 (o1 + 2) (cap1 - 2) T from hcut).alloc _)
                have HC : Hid (n + (a + b) + Bm.hbest (T ++ [a + b]) = r) := Lib.hid (by omega)
                have HS : Hid ((T ++ [a + b]).sum = Q) := Lib.hid (by rw [List.sum_append_nat]; simp; omega)
                have hw1 : IntKind.i64.wrap ((a : Int) + (b : Int)) = (a : Int) + (b : Int) := IntWalk.i64_in _ (by omega)
                clear hcost hsum hpm hso hft hsg hsg0 hstep hsm hc2 hs2 hab hFT hcut
                rw [hll]
                go_wp2_with fail
                go_quiet (fail)
                clear hw1
                by_cases hcap : cap1 = 2
                · subst hcap
                  have hT0 : T = [] := List.eq_nil_of_length_eq_zero (by omega)
                  subst hT0
                  go_wp2_with (at_builtin; refine wpList_append_arg _ rfl _ _ 22 rfl 3 i0 (.int .i64 0) 1 8 Try.underlying22 hi hz0 hz1 hz2 rfl (by decide) g1 o1 0 0 [] rfl ?lo ?olds ⟨wr.heap.size, 0, none⟩ 1 1 [.int .i64 ((a : Int) + (b : Int))] rfl rfl ?c1 ?c2 ?spare ?mx ?bytes ?room ?grow)
                  case lo => rfl
                  case olds => intro j u hj; simp at hj
                  case c1 =>
                    intro j u hj
                    match j, hj with
                    | 0, hj => simp at hj; subst hj; exact (Row.new (wr.drewN nq) 3 [.int .i64 ((a : Int) + (b : Int))]).cell 0
                  case c2 => intro u hu; simp at hu; subst hu; rfl
                  case spare => intro hr; omega
                  case mx => unfold maxLen; omega
                  case bytes => omega
                  case grow =>
                    intro u' w4 hown hgr
                    have e : [Value.int .i64 ((a : Int) + (b : Int))] = i64s ([] ++ [a + b]) := by simp [i64s]
                    rw [e] at hown
                    have hsz := (below_drewN hbel.out nq).size
                    have hb3 : Below w.heap.size w w4 := ((below_drewN hbel.out nq).alloc hsz _).grown hgr (by simp; exact Nat.le_succ_of_le hsz) (fun q e => by cases e)
                    obtain ⟨_, g3, cap3, rfl, hsg3⟩ := seg_of_own hown (by omega)
                    have Hsg3 := Lib.hid (hsg3.mono (Nat.le_succ_of_le hsz))
                    have Hb3 := Lib.hid hb3
                    clear hsg3 hb3 HT2 hbel hown hgr e
                    go_wp2
                    go_roundw
                    case rel => exact ⟨g3, 0, cap3, n + (a + b), [] ++ [a + b], by simp, by go_num, by simp, by simp, HC, HS, Hsg3, Hb3⟩
                    case measure => simp [lenV]; omega
                · have eT : l.length - 2 = T.length := by omega
                  go_wp2_with (at_builtin; refine wpList_append_arg _ rfl _ _ 22 rfl 3 i0 (.int .i64 0) 1 8 Try.underlying22 hi hz0 hz1 hz2 rfl (by decide) g1 (o1 + 2) T.length (cap1 - 2) (i64s T) rfl ?lo2 ?olds2 ⟨wr.heap.size, 0, none⟩ 1 1 [.int .i64 ((a : Int) + (b : Int))] rfl rfl ?e1 ?e2 ?spare2 ?mx2 ?bytes2 ?room2 ?grow2)
                  case lo2 => rw [i64s_length, Nat.mul_one]
                  case olds2 => intro j u hj; exact (HT2.out _).olds j u hj
                  case e1 =>
                    intro j u hj
                    match j, hj with
                    | 0, hj => simp at hj; subst hj; exact (Row.new (wr.drewN nq) 3 [.int .i64 ((a : Int) + (b : Int))]).cell 0
                  case e2 => intro u hu; simp at hu; subst hu; rfl
                  case spare2 =>
                    intro hr j hj
                    obtain rfl : j = 0 := by simpa using hj
                    rw [Nat.mul_one, Nat.add_zero]
                    exact ⟨(HT2.out _).spare hr, (HT2.out _).free _⟩
                  case mx2 => unfold maxLen; omega
                  case bytes2 => omega
                  case room2 =>
                    intro hr
                    have hsg3 := (HT2.out nq).room (a + b) hr
                    have hb3 : Below w.heap.size w (((wr.drewN nq).alloc (.cells #[.int .i64 ((a : Int) + (b : Int))] 3)).setCells g1 (o1 + 2 + T.length) [.int .i64 ((a : Int) + (b : Int))]) := by
                      simp only [World.setCells]
                      exact ((below_drewN hbel.out nq).alloc (below_drewN hbel.out nq).size _).setCell Hge.out _
                    have Hsg3 : Hid (Seg (((wr.drewN nq).alloc (.cells #[.int .i64 ((a : Int) + (b : Int))] 3)).setCells g1 (o1 + 2 + T.length) [.int .i64 ((a : Int) + (b : Int))]) w.heap.size g1 (o1 + 2) (cap1 - 2) (T ++ [a + b])) := Lib.hid hsg3
                    have Hb3 := Lib.hid hb3
                    clear hsg3 hb3 HT2 hbel
                    generalize ((wr.drewN nq).alloc (.cells #[.int .i64 ((a : Int) + (b : Int))] 3)).setCells g1 (o1 + 2 + T.length) [.int .i64 ((a : Int) + (b : Int))] = w4 at *
                    go_wp2
                    go_roundw
                    case rel => exact ⟨g1, o1 + 2, cap1 - 2, n + (a + b), T ++ [a + b], by simp, by go_num, by simp, by simp; omega, HC, HS, Hsg3, Hb3⟩
                    case measure => simp [lenV]; omega
                  case grow2 =>
                    intro hr u' w4 hown hgr
                    have e : i64s T ++ [Value.int .i64 ((a : Int) + (b : Int))] = i64s (T ++ [a + b]) := by simp [i64s]
                    rw [e] at hown
                    have hsz := (below_drewN hbel.out nq).size
                    have hb3 : Below w.heap.size w w4 := ((below_drewN hbel.out nq).alloc hsz _).grown hgr (by simp; exact Nat.le_succ_of_le hsz) (fun q e => by cases e)
                    obtain ⟨_, g3, cap3, rfl, hsg3⟩ := seg_of_own hown (by omega)
                    have Hsg3 := Lib.hid (hsg3.mono (Nat.le_succ_of_le hsz))
                    have Hb3 := Lib.hid hb3
                    clear hsg3 hb3 HT2 hbel hown hgr e
                    go_wp2
                    go_roundw
                    case rel => exact ⟨g3, 0, cap3, n + (a + b), T ++ [a + b], by simp, by go_num, by simp, by simp; omega, HC, HS, Hsg3, Hb3⟩
                    case measure => simp [lenV]; omega
          · have hfin : n = r := by
              have h2 := hcost.out
              rw [Bm.hbest_few l (by omega), Nat.add_zero] at h2
              exact h2
            have d1 : decide ((1 : Int) < (l.length : Int)) = false := decide_eq_false (by omega)
            subst hfin
            go_wp2
            go_ret
            exact ⟨rfl, hbel.out⟩
end Go.Proofs.Ytmcobnbahkoopaa

namespace Go.Proofs.Ytmcobnbahkoopaa
theorem huffref_is : HuffRef := ⟨vbest_any, vflat_any⟩
end Go.Proofs.Ytmcobnbahkoopaa

namespace Go.Proofs.Ytmcobnbahkoopaa
open Go.RowKit

theorem reads_in {w : World} {A : Option Addr} {l : List Nat} (h : Reads w A (i64s l)) (hne : 0 < l.length) : ∃ g off, A = some ⟨g, off, none⟩ ∧ ∀ j (hj : j < l.length), w.cell? ⟨g, off + j, none⟩ = some (.int .i64 (l[j] : Int)) := by
  have hne' : i64s l ≠ [] := fun e => by
    have h1 := congrArg List.length e
    rw [i64s_length, List.length_nil] at h1
    omega
  obtain ⟨g, off, e, hc⟩ := h hne'
  exact ⟨g, off, e, fun j hj => by rw [hc j (by rw [i64s_length]; exact hj), i64s_get? l j hj]⟩

set_option maxHeartbeats 400000 in
set_option maxRecDepth 100000 in
theorem nsymbols_any (A : Option Addr) (c : Nat) (l : List Int) (w : World) (hl : l.length ≤ 1000000000) (hr : Reads w A (i64z l)) :
    Calls Try.prog 28 #[.slice A l.length c] w fun e w' => e = .returned (.int .i64 (Bm.symN l : Int)) ∧ w = w' := by
  have Hr := Lib.hid hr
  obtain ⟨r, hres⟩ : ∃ r, r = Bm.symN l := ⟨_, rfl⟩
  rw [← hres]
  have Hres := Lib.hid hres
  clear hr hres
  go_enter Try.func28, Try.ntmps28
  go_wp2
  go_loop [3, 8] (fun n i => ∃ k : Nat, k ≤ l.length ∧ i = .int .i64 (k : Int) ∧ n = .int .i64 (Bm.symN (l.take k) : Int)) (fun _ i => l.length - (intOf i).toNat)
  case atStart => exact ⟨0, by omega, rfl, rfl⟩
  case round =>
    obtain ⟨k, hk, rfl, rfl⟩ := hrel
    by_cases hkl : k < l.length
    · obtain ⟨g, off, rfl, hc⟩ := reads_iz Hr.out (by omega)
      have c0 := hc k hkl
      have hs := Bm.symN_take l k hkl
      have hle := Bm.symN_le (l.take k)
      rw [List.length_take, Nat.min_eq_left (by omega)] at hle
      have Hs := Lib.hid hs
      clear hc hs
      generalize Bm.symN (l.take k) = m at hle Hs ⊢
      generalize l[k] = z at c0 Hs
      by_cases hz : 0 < z
      · go_wp2
        go_round
        case rel => exact ⟨k + 1, by omega, by go_num, by rw [Hs.out, if_pos hz]; go_num⟩
        case measure => simp [intOf]; omega
      · go_wp2
        go_round
        case rel => exact ⟨k + 1, by omega, by go_num, by rw [Hs.out, if_neg hz]; go_num⟩
        case measure => simp [intOf]; omega
    · obtain rfl : k = l.length := by omega
      rw [List.take_length, ← Hres.out]
      clear Hr
      go_wp2
      go_ret
      exact ⟨rfl, rfl⟩
theorem nsymbols_is : CSymbols := fun A c l w hl hr => (nsymbols_any A c l w (by omega) hr).mono fun _ w' ⟨he, hw⟩ => ⟨he, by subst hw; exact Below.refl _ _⟩

namespace Bm
theorem right_iff (l : List Int) : Right l ↔ l.length ≤ 256 ∧ (∀ x ∈ l, 0 ≤ x ∧ x ≤ 1048576) ∧ 0 < symN l := by
  unfold Right symN
  rw [List.countP_pos_iff]
  simp
def rightB (l : List Int) : Bool := decide (Right l)
end Bm
set_option maxHeartbeats 1000000 in
set_option maxRecDepth 100000 in
theorem nright_any (A : Option Addr) (c : Nat) (l : List Int) (w : World) (hl : l.length ≤ 1000000000) (hr : Reads w A (i64z l)) :
    Calls Try.prog 21 #[.slice A l.length c] w fun e w' => e = .returned (.bool (Bm.rightB l)) ∧ w = w' := by
  have Hr := Lib.hid hr
  have Hsy := Lib.hid (nsymbols_any A c l w hl hr)
  obtain ⟨r, hres⟩ : ∃ r, r = Bm.rightB l := ⟨_, rfl⟩
  rw [← hres]
  have hno : ∀ P : Prop, (Bm.Right l → P) → ¬ P → false = r := fun P h hp => by
    rw [hres]; symm; unfold Bm.rightB; exact decide_eq_false (fun h1 => hp (h h1))
  have Hno := Lib.hid hno
  have Hres := Lib.hid hres
  clear hr hres hno
  by_cases h3 : 256 < l.length
  · have hf : false = r := Hno.out (l.length ≤ 256) (fun h => h.1) (by omega)
    rw [← hf]
    go_enter Try.func21, Try.ntmps21
    go_wp2
    go_ret
    exact ⟨rfl, rfl⟩
  go_enter Try.func21, Try.ntmps21
  go_wp2
  go_loop [10] (fun i => ∃ k : Nat, k ≤ l.length ∧ i = .int .i64 (k : Int) ∧ ∀ x ∈ l.take k, 0 ≤ x ∧ x ≤ 1048576) (fun i => l.length - (intOf i).toNat)
  case atStart => exact ⟨0, by omega, rfl, by simp⟩
  case round =>
    obtain ⟨k, hk, rfl, hall⟩ := hrel
    by_cases hkl : k < l.length
    · obtain ⟨g, off, rfl, hc⟩ := reads_iz Hr.out (by omega)
      have c0 := hc k hkl
      have Ha := Lib.hid (Bm.all_take (fun x => 0 ≤ x ∧ x ≤ 1048576) l k hkl hall)
      have Hm := Lib.hid (List.getElem_mem hkl)
      clear hc hall Hres Hsy
      generalize l[k] = z at c0 Ha Hm
      by_cases hz : z < 0
      · have hf : false = r := Hno.out (0 ≤ z) (fun h => (h.2.1 z Hm.out).1) (by omega)
        have Hf := Lib.hid hf
        clear hf
        go_wp2
        go_ret
        exact ⟨congrArg (fun x => Ending.returned (Value.bool x)) Hf.out, rfl⟩
      by_cases hz2 : 1048576 < z
      · have hf : false = r := Hno.out (z ≤ 1048576) (fun h => (h.2.1 z Hm.out).2) (by omega)
        have Hf := Lib.hid hf
        clear hf
        go_wp2
        go_ret
        exact ⟨congrArg (fun x => Ending.returned (Value.bool x)) Hf.out, rfl⟩
      go_wp2
      go_round
      case rel => exact ⟨k + 1, by omega, by go_num, Ha.out (by omega)⟩
      case measure => simp [intOf]; omega
    · obtain rfl : k = l.length := by omega
      rw [List.take_length] at hall
      have hres : decide (0 < Bm.symN l) = r := by
        rw [Hres.out]
        unfold Bm.rightB
        rw [decide_eq_decide, Bm.right_iff]
        exact ⟨fun h => ⟨by omega, hall, h⟩, fun h => h.2.2⟩
      clear Hr Hno Hres hall
      generalize Bm.symN l = q at hres Hsy
      have Hsy2 := Lib.hid Hsy.out
      clear Hsy
      go_wp2_with fail
      refine Hsy2.out.mono ?_
      rintro e w' ⟨rfl, rfl⟩
      go_wp2
      go_ret
      exact ⟨congrArg (fun x => Ending.returned (Value.bool x)) (by simp), rfl⟩

end Go.Proofs.Ytmcobnbahkoopaa

namespace Go.Proofs.Ytmcobnbahkoopaa
open Go.RowKit
set_option maxHeartbeats 1000000 in
set_option maxRecDepth 100000 in
theorem umay_any (A : Option Addr) (c : Nat) (l : List Int) (w : World) (hl : l.length ≤ 9223372036854775807) (hr : Reads w A (i64z l)) :
    Calls Try.prog 23 #[.slice A l.length c] w fun e w' => e = .returned (.bool (decide (Bm.LenR l))) ∧ w = w' := by
  have Hr := Lib.hid hr
  obtain ⟨r, hres⟩ : ∃ r, r = decide (Bm.LenR l) := ⟨_, rfl⟩
  rw [← hres]
  have hno : ∀ P : Prop, (Bm.LenR l → P) → ¬ P → false = r := fun P h hp => by
    rw [hres]; symm; exact decide_eq_false (fun h1 => hp (h h1))
  have Hno := Lib.hid hno
  have Hres := Lib.hid hres
  clear hr hres hno
  by_cases h3 : 256 < l.length
  · have hf : false = r := Hno.out (l.length ≤ 256) (fun h => h.1) (by omega)
    rw [← hf]
    go_enter Try.func23, Try.ntmps23
    go_wp2
    go_ret
    exact ⟨rfl, rfl⟩
  go_enter Try.func23, Try.ntmps23
  go_wp2
  go_loop [10] (fun i => ∃ k : Nat, k ≤ l.length ∧ i = .int .i64 (k : Int) ∧ ∀ x ∈ l.take k, 0 ≤ x ∧ x ≤ 11) (fun i => l.length - (intOf i).toNat)
  case atStart => exact ⟨0, by omega, rfl, by simp⟩
  case round =>
    obtain ⟨k, hk, rfl, hall⟩ := hrel
    by_cases hkl : k < l.length
    · obtain ⟨g, off, rfl, hc⟩ := reads_iz Hr.out (by omega)
      have c0 := hc k hkl
      have Ha := Lib.hid (Bm.all_take9 (fun x => 0 ≤ x ∧ x ≤ 11) l k hkl hall)
      have Hm := Lib.hid (List.getElem_mem hkl)
      clear hc hall Hres
      generalize l[k] = z at c0 Ha Hm
      by_cases hz : z < 0
      · have hf : false = r := Hno.out (0 ≤ z) (fun h => (h.2 z Hm.out).1) (by omega)
        have Hf := Lib.hid hf
        clear hf
        go_wp2
        go_ret
        exact ⟨congrArg (fun x => Ending.returned (Value.bool x)) Hf.out, rfl⟩
      by_cases hz2 : 11 < z
      · have hf : false = r := Hno.out (z ≤ 11) (fun h => (h.2 z Hm.out).2) (by omega)
        have Hf := Lib.hid hf
        clear hf
        go_wp2
        go_ret
        exact ⟨congrArg (fun x => Ending.returned (Value.bool x)) Hf.out, rfl⟩
      go_wp2
      go_round
      case rel => exact ⟨k + 1, by omega, by go_num, Ha.out (by omega)⟩
      case measure => simp [intOf]; omega
    · obtain rfl : k = l.length := by omega
      rw [List.take_length] at hall
      have hres : true = r := by
        rw [Hres.out]
        symm
        exact decide_eq_true ⟨by omega, hall⟩
      clear Hr Hno Hres hall
      have Hf := Lib.hid hres
      clear hres
      go_wp2
      go_ret
      exact ⟨congrArg (fun x => Ending.returned (Value.bool x)) Hf.out, rfl⟩
namespace Bm
theorem costTo_le2 (cs ls : List Nat) (hc : ∀ x ∈ cs, x ≤ 1048576) (hl : ∀ x ∈ ls, x ≤ 512) : ∀ k, costTo cs ls k ≤ 536870912 * k
  | 0 => by simp [costTo]
  | k + 1 => by
    have h1 : cs[k]?.getD 0 ≤ 1048576 := by
      rcases h : cs[k]? with _ | x
      · simp
      · exact hc x (List.mem_of_getElem? h)
    have h2 : ls[k]?.getD 0 ≤ 512 := by
      rcases h : ls[k]? with _ | x
      · simp
      · exact hl x (List.mem_of_getElem? h)
    have h3 := Nat.mul_le_mul h1 h2
    have ih := costTo_le2 cs ls hc hl k
    rw [costTo_succ]
    omega
end Bm
set_option maxHeartbeats 1000000 in
set_option maxRecDepth 100000 in
theorem ucsum_any (A B : Option Addr) (c d : Nat) (cs ls : List Nat) (w : World) (hl : cs.length ≤ ls.length) (hc2 : cs.length ≤ 256) (hl2 : ls.length ≤ 1000000) (hc20 : ∀ x ∈ cs, x ≤ 1048576) (h11 : ∀ x ∈ ls, x ≤ 512) (hr : Reads w A (i64s cs)) (hs : Reads w B (i64s ls)) :
    Calls Try.prog 25 #[.slice A cs.length c, .slice B ls.length d] w fun e w' => e = .returned (.int .i64 (Bm.costN cs ls : Int)) ∧ w = w' := by
  have Hr := Lib.hid hr
  have Hs := Lib.hid hs
  have Hle := Lib.hid (Bm.costTo_le2 cs ls hc20 h11)
  have H20 := Lib.hid hc20
  have H11 := Lib.hid h11
  clear hr hs hc20 h11
  go_enter Try.func25, Try.ntmps25
  go_wp2
  go_loop [5, 10] (fun s i => ∃ k : Nat, k ≤ cs.length ∧ i = .int .i64 (k : Int) ∧ s = .int .i64 (Bm.costTo cs ls k : Int)) (fun _ i => cs.length - (intOf i).toNat)
  case atStart => exact ⟨0, by omega, rfl, rfl⟩
  case round =>
    obtain ⟨k, hk, rfl, rfl⟩ := hrel
    have hle := Hle.out k
    by_cases hkl : k < cs.length
    · obtain ⟨g, off, rfl, hc⟩ := reads_i9 Hr.out (by omega)
      obtain ⟨g', off', rfl, hc'⟩ := reads_i9 Hs.out (by omega)
      have c0 := hc k hkl
      have c1 := hc' k (by omega)
      have hst := Bm.costTo_succ cs ls k
      rw [List.getElem?_eq_getElem hkl, List.getElem?_eq_getElem (show k < ls.length by omega), Option.getD_some, Option.getD_some] at hst
      have b0 := H20.out cs[k] (List.getElem_mem hkl)
      have b1 := H11.out ls[k] (List.getElem_mem (by omega))
      clear hc hc' Hle
      generalize cs[k] = x at *
      generalize ls[k]'(by omega) = y at *
      have hkl2 : k < ls.length := by omega
      generalize Bm.costTo cs ls k = S at *
      have hxy : (x : Int) * (y : Int) = ((x * y : Nat) : Int) := by simp
      have hxyb : x * y ≤ 1048576 * 512 := Nat.mul_le_mul b0 b1
      have hm0 : 0 ≤ (x : Int) * (y : Int) := by rw [hxy]; omega
      have hm1 : (x : Int) * (y : Int) ≤ 536870912 := by rw [hxy]; omega
      have Hst2 : Hid (((Bm.costTo cs ls (k + 1) : Nat) : Int) = (S : Int) + (x : Int) * (y : Int)) := Lib.hid (by rw [hst, hxy]; omega)
      clear hxy hxyb hst
      go_wp2
      go_round
      case rel => exact ⟨k + 1, by omega, by go_num, by rw [Hst2.out]⟩
      case measure => simp [intOf]; omega
    · obtain rfl : k = cs.length := by omega
      rw [Bm.costTo_all]
      go_wp2
      go_ret
      exact ⟨rfl, rfl⟩
namespace Bm
/-- The last length above 0. -/
theorem last_step (ls : List Nat) (k L : Nat) (h : k < ls.length) (h0 : someN (ls.take k) = 0 → krN (ls.take k) = 0) (h1 : someN (ls.take k) = 1 → krN (ls.take k) = partL L) :
    (someN (ls.take (k + 1)) = 0 → krN (ls.take (k + 1)) = 0) ∧ (someN (ls.take (k + 1)) = 1 → krN (ls.take (k + 1)) = partL (if 0 < ls[k] then ls[k] else L)) := by
  obtain ⟨e1, e2⟩ := kr_take ls k h
  rw [e1, e2]
  by_cases hp : 0 < ls[k]
  · rw [if_pos hp, if_pos hp]
    exact ⟨fun h => by omega, fun h => by rw [h0 (by omega)]; omega⟩
  · have hz : ls[k] = 0 := by omega
    have hpz : partL ls[k] = 0 := by unfold partL; rw [if_pos hz]
    rw [if_neg hp, if_neg hp, hpz]
    exact ⟨fun h => by rw [h0 (by omega)], fun h => by rw [h1 (by omega)]; rfl⟩
theorem part_one (L : Nat) (h : L ≤ 11) : partL L = 1024 ↔ L = 1 := by
  have : ∀ n : Fin 12, (partL n.1 = 1024) ↔ n.1 = 1 := by decide
  exact this ⟨L, by omega⟩
theorem part_shr (n : Nat) (h : n ≤ 11) (h0 : 0 < n) : 2048 / 2 ^ n = partL n := by
  have : ∀ n : Fin 12, 0 < n.1 → 2048 / 2 ^ n.1 = partL n.1 := by decide
  exact this ⟨n, by omega⟩ h0
end Bm
set_option maxHeartbeats 1000000 in
set_option maxRecDepth 100000 in
theorem uwhole_no (A : Option Addr) (c : Nat) (l : List Int) (w : World) (hl : l.length ≤ 9223372036854775807) (hr : Reads w A (i64z l)) (hR : ¬ Bm.LenR l) :
    Calls Try.prog 17 #[.slice A l.length c] w fun e w' => e = .returned (.bool false) ∧ w = w' := by
  have Hri := Lib.hid (umay_any A c l w hl hr)
  rw [decide_eq_false hR] at Hri
  clear hr hR
  go_enter Try.func17, Try.ntmps17
  go_wp2_with fail
  refine Hri.out.mono ?_
  rintro e w' ⟨rfl, rfl⟩
  go_wp2
  go_ret
  exact ⟨rfl, rfl⟩
set_option maxHeartbeats 2000000 in
set_option maxRecDepth 100000 in
theorem uwhole_may (A : Option Addr) (c : Nat) (ls : List Nat) (w : World) (hl : ls.length ≤ 256) (h11 : ∀ x ∈ ls, x ≤ 11) (hr : Reads w A (i64s ls)) (hmay : Calls Try.prog 23 #[.slice A ls.length c] w fun e w' => e = .returned (.bool true) ∧ w = w') :
    Calls Try.prog 17 #[.slice A ls.length c] w fun e w' => e = .returned (.bool (decide (Bm.krN ls = 2048 ∨ (Bm.someN ls = 1 ∧ Bm.krN ls = 1024)))) ∧ w = w' := by
  have Hri := Lib.hid hmay
  have Hr := Lib.hid hr
  have H11 := Lib.hid h11
  clear hr h11 hmay
  obtain ⟨r, hres⟩ : ∃ r, r = decide (Bm.krN ls = 2048 ∨ (Bm.someN ls = 1 ∧ Bm.krN ls = 1024)) := ⟨_, rfl⟩
  rw [← hres]
  have Hres := Lib.hid hres
  clear hres
  go_enter Try.func17, Try.ntmps17
  go_wp2_with fail
  refine Hri.out.mono ?_
  rintro e w' ⟨rfl, rfl⟩
  clear Hri
  go_wp2
  go_loop [3, 4, 5, 13] (fun t s z i => ∃ (k L : Nat), k ≤ ls.length ∧ L ≤ 11 ∧ i = .int .i64 (k : Int) ∧ s = .int .i64 (Bm.krN (ls.take k) : Int) ∧ t = .int .i64 (Bm.someN (ls.take k) : Int) ∧ z = .int .i64 (L : Int) ∧ Hid ((Bm.someN (ls.take k) = 0 → Bm.krN (ls.take k) = 0) ∧ (Bm.someN (ls.take k) = 1 → Bm.krN (ls.take k) = Bm.partL L))) (fun _ _ _ i => ls.length - (intOf i).toNat)
  case atStart => exact ⟨0, 0, by omega, by omega, rfl, rfl, rfl, rfl, Lib.hid ⟨fun _ => rfl, fun h => by simp [Bm.someN] at h⟩⟩
  case round =>
    obtain ⟨k, L, hk, hL, rfl, rfl, rfl, rfl, hlast⟩ := hrel
    by_cases hkl : k < ls.length
    · obtain ⟨g, off, rfl, hc⟩ := reads_i9 Hr.out (by omega)
      have c0 := hc k hkl
      have Hst := Lib.hid (Bm.kr_take ls k hkl)
      have Hls := Lib.hid (Bm.last_step ls k L hkl hlast.out.1 hlast.out.2)
      have hkr := Bm.kr_le (ls.take k)
      have hso := Bm.some_le (ls.take k)
      rw [List.length_take, Nat.min_eq_left (by omega)] at hkr hso
      have h11 := H11.out ls[k] (List.getElem_mem hkl)
      have hpl := Bm.part_le ls[k]
      have Hsh := Lib.hid (Bm.part_shr ls[k] h11)
      have Hp0 : Hid (ls[k] = 0 → Bm.partL ls[k] = 0) := Lib.hid (fun h => by unfold Bm.partL; rw [if_pos h])
      clear hc hlast
      generalize Bm.krN (ls.take k) = K at *
      generalize Bm.someN (ls.take k) = M at *
      generalize hP : Bm.partL ls[k] = P at hpl Hsh Hp0 Hst
      clear hP
      generalize ls[k] = x at *
      by_cases hx : 0 < x
      · have hsh := Hsh.out hx
        have hls := Hls.out
        simp only [if_pos hx] at hls
        have Hls2 := Lib.hid hls
        clear Hsh Hp0 Hls hls
        have hsh2 : (2048 : Int) / 2 ^ x = (P : Int) := by rw [← hsh]; simp
        clear hsh
        go_wp2
        go_round
        case rel => exact ⟨k + 1, x, by omega, by omega, by go_num, by rw [Hst.out.1]; go_num, by rw [Hst.out.2, if_pos hx]; go_num, rfl, Hls2⟩
        case measure => simp [intOf]; omega
      · have hP0 := Hp0.out (by omega)
        have hls := Hls.out
        simp only [if_neg hx] at hls
        have Hls2 := Lib.hid hls
        subst hP0
        clear Hsh Hp0 Hls hls
        go_wp2
        go_round
        case rel => exact ⟨k + 1, L, by omega, by omega, by go_num, by rw [Hst.out.1]; go_num, by rw [Hst.out.2, if_neg hx]; go_num, rfl, Hls2⟩
        case measure => simp [intOf]; omega
    · obtain rfl : k = ls.length := by omega
      rw [List.take_length] at hlast
      rw [List.take_length]
      clear Hr H11
      have hp1 := Bm.part_one L hL
      generalize Bm.partL L = P at *
      generalize Bm.krN ls = K at *
      generalize Bm.someN ls = M at *
      by_cases h1 : K = 2048
      · have d1 : ((K : Int) == 2048) = true := by rw [h1]; rfl
        have Hf : Hid (true = r) := Lib.hid (by rw [Hres.out, decide_eq_true (.inl h1)])
        clear h1 Hres hp1
        go_wp2
        go_ret
        exact ⟨congrArg (fun x => Ending.returned (Value.bool x)) Hf.out, rfl⟩
      · have d1 : ((K : Int) == 2048) = false := by rw [beq_eq_false_iff_ne]; omega
        by_cases h2 : M = 1
        · have d2 : ((M : Int) == 1) = true := by rw [h2]; rfl
          have hK := hlast.out.2 h2
          have Hf : Hid (((L : Int) == 1) = r) := Lib.hid (by
            rw [Hres.out, Bool.eq_iff_iff, beq_iff_eq, decide_eq_true_iff]
            omega)
          clear h1 h2 Hres hp1 hK hlast
          go_wp2
          go_ret
          exact ⟨congrArg (fun x => Ending.returned (Value.bool x)) Hf.out, rfl⟩
        · have d2 : ((M : Int) == 1) = false := by rw [beq_eq_false_iff_ne]; omega
          have Hf : Hid (false = r) := Lib.hid (by rw [Hres.out, decide_eq_false (by omega)])
          clear h1 h2 Hres hp1 hlast
          go_wp2
          go_ret
          exact ⟨congrArg (fun x => Ending.returned (Value.bool x)) Hf.out, rfl⟩
theorem uwhole_any (A : Option Addr) (c : Nat) (l : List Int) (w : World) (hl : l.length ≤ 9223372036854775807) (hr : Reads w A (i64z l)) :
    Calls Try.prog 17 #[.slice A l.length c] w fun e w' => e = .returned (.bool (decide (Bm.WholeI l))) ∧ w = w' := by
  by_cases hR : Bm.LenR l
  · have hm := umay_any A c l w hl hr
    rw [decide_eq_true hR] at hm
    obtain ⟨e1, h11, elen⟩ := Bm.lenR_nat l hR
    have h256 := hR.1
    have hW : Bm.WholeI l ↔ (Bm.krN (l.map Int.toNat) = 2048 ∨ (Bm.someN (l.map Int.toNat) = 1 ∧ Bm.krN (l.map Int.toNat) = 1024)) := by
      unfold Bm.WholeI Bm.WholeN
      exact ⟨fun h => h.2.2.2, fun h => ⟨hR, by omega, h11, h⟩⟩
    have hd : decide (Bm.WholeI l) = decide (Bm.krN (l.map Int.toNat) = 2048 ∨ (Bm.someN (l.map Int.toNat) = 1 ∧ Bm.krN (l.map Int.toNat) = 1024)) := decide_eq_decide.2 hW
    rw [hd]
    have hr2 : Reads w A (i64s (l.map Int.toNat)) := by rw [← i64z_nat, ← e1]; exact hr
    have h := uwhole_may A c (l.map Int.toNat) w (by omega) h11 hr2 (by rw [elen]; exact hm)
    rw [elen] at h
    exact h
  · have hf : decide (Bm.WholeI l) = false := decide_eq_false (fun h => hR h.1)
    rw [hf]
    exact uwhole_no A c l w hl hr hR
set_option maxHeartbeats 2000000 in
set_option maxRecDepth 100000 in
theorem ucost_no (A B : Option Addr) (c d : Nat) (cs ls : List Int) (w : World) (hl2 : ls.length ≤ maxLen) (hs : Reads w B (i64z ls)) (hno : ¬ (Bm.Right cs ∧ cs.length ≤ ls.length ∧ Bm.LenR ls))
    (hri : Calls Try.prog 21 #[.slice A cs.length c] w fun e w' => e = .returned (.bool (Bm.rightB cs)) ∧ w = w') :
    Calls Try.prog 14 #[.slice A cs.length c, .slice B ls.length d] w fun e w' => e = .returned (.tuple #[.int .i64 0, .bool false]) ∧ w = w' := by
  unfold maxLen at hl2
  have Hri := Lib.hid hri
  have Hm := Lib.hid (umay_any B d ls w (by omega) hs)
  clear hri hs
  by_cases h1 : Bm.Right cs
  · rw [show Bm.rightB cs = true from decide_eq_true h1] at Hri
    by_cases h2 : cs.length ≤ ls.length
    · have h3 : ¬ Bm.LenR ls := fun h => hno ⟨h1, h2, h⟩
      rw [decide_eq_false h3] at Hm
      clear hno h1 h3
      go_enter Try.func14, Try.ntmps14
      go_wp2_with fail
      refine Hri.out.mono ?_
      rintro e w' ⟨rfl, rfl⟩
      have d1 : decide ((ls.length : Int) < (cs.length : Int)) = false := decide_eq_false (by omega)
      go_wp2_with fail
      refine Hm.out.mono ?_
      rintro e w' ⟨rfl, rfl⟩
      go_wp2
      go_ret2
      exact ⟨rfl, rfl⟩
    · clear hno h1
      go_enter Try.func14, Try.ntmps14
      go_wp2_with fail
      refine Hri.out.mono ?_
      rintro e w' ⟨rfl, rfl⟩
      have d1 : decide ((ls.length : Int) < (cs.length : Int)) = true := decide_eq_true (by omega)
      go_wp2
      go_ret2
      exact ⟨rfl, rfl⟩
  · rw [show Bm.rightB cs = false from decide_eq_false h1] at Hri
    clear hno h1
    go_enter Try.func14, Try.ntmps14
    go_wp2_with fail
    refine Hri.out.mono ?_
    rintro e w' ⟨rfl, rfl⟩
    go_wp2
    go_ret2
    exact ⟨rfl, rfl⟩
set_option maxHeartbeats 2000000 in
set_option maxRecDepth 100000 in
theorem ucost_yes (A B : Option Addr) (c d : Nat) (cs ls : List Nat) (w : World) (hl : cs.length ≤ ls.length) (hl2 : ls.length ≤ 256) (hc20 : ∀ x ∈ cs, x ≤ 1048576) (h11 : ∀ x ∈ ls, x ≤ 11) (hr : Reads w A (i64s cs)) (hs : Reads w B (i64s ls))
    (hri : Calls Try.prog 21 #[.slice A cs.length c] w fun e w' => e = .returned (.bool true) ∧ w = w') (hmay : Calls Try.prog 23 #[.slice B ls.length d] w fun e w' => e = .returned (.bool true) ∧ w = w') :
    Calls Try.prog 14 #[.slice A cs.length c, .slice B ls.length d] w fun e w' => e = .returned (costV cs ls) ∧ w = w' := by
  have Hsum := Lib.hid (ucsum_any A B c d cs ls w hl (by omega) (by omega) hc20 (fun x hx => by have := h11 x hx; omega) hr hs)
  have Hr := Lib.hid hr
  have Hs := Lib.hid hs
  have Hri := Lib.hid hri
  have Hm := Lib.hid hmay
  have Hno : Hid (∀ i, i < cs.length → 0 < cs[i]?.getD 0 → ls[i]?.getD 0 = 0 → Value.tuple #[.int .i64 0, .bool false] = costV cs ls) := Lib.hid (fun i h1 h2 h3 => by
    have hn : ¬ Bm.FitN cs ls := fun h => by have := h i h1 h2; omega
    unfold costV
    rw [if_neg hn, decide_eq_false hn]
    rfl)
  have Hyes : Hid (Bm.FitN cs ls → Value.tuple #[.int .i64 (Bm.costN cs ls : Int), .bool true] = costV cs ls) := Lib.hid (fun h => by
    unfold costV
    rw [if_pos h, decide_eq_true h])
  clear hr hs hri hmay hc20 h11
  go_enter Try.func14, Try.ntmps14
  go_wp2_with fail
  refine Hri.out.mono ?_
  rintro e w' ⟨rfl, rfl⟩
  have d1 : decide ((ls.length : Int) < (cs.length : Int)) = false := decide_eq_false (by omega)
  go_wp2_with fail
  refine Hm.out.mono ?_
  rintro e w' ⟨rfl, rfl⟩
  clear d1 Hm Hri
  go_wp2
  go_loop [25] (fun i => ∃ k : Nat, k ≤ cs.length ∧ i = .int .i64 (k : Int) ∧ Hid (∀ i, i < k → 0 < cs[i]?.getD 0 → 0 < ls[i]?.getD 0)) (fun i => cs.length - (intOf i).toNat)
  case atStart => exact ⟨0, by omega, rfl, Lib.hid (fun i h => by omega)⟩
  case round =>
    obtain ⟨k, hk, rfl, hfit⟩ := hrel
    by_cases hkl : k < cs.length
    · obtain ⟨g, off, rfl, hc⟩ := reads_i9 Hr.out (by omega)
      obtain ⟨g2, off2, rfl, hc2⟩ := reads_i9 Hs.out (by omega)
      have hkl2 : k < ls.length := by omega
      have c0 := hc k hkl
      have c1 := hc2 k hkl2
      have gx : cs[k]?.getD 0 = cs[k] := by rw [List.getElem?_eq_getElem hkl, Option.getD_some]
      have gy : ls[k]?.getD 0 = ls[k] := by rw [List.getElem?_eq_getElem hkl2, Option.getD_some]
      have hno := Hno.out k hkl
      have hfit2 : (0 < cs[k] → 0 < ls[k]) → ∀ i, i < k + 1 → 0 < cs[i]?.getD 0 → 0 < ls[i]?.getD 0 := fun h i hi h1 => by
        by_cases e : i = k
        · subst e; rw [gx] at h1; rw [gy]; exact h h1
        · exact hfit.out i (by omega) h1
      rw [gx, gy] at hno
      have Hn := Lib.hid hno
      have Hf2 := Lib.hid hfit2
      clear hc hc2 hno hfit2 gx gy hfit
      generalize cs[k] = x at *
      generalize ls[k] = y at *
      by_cases h0 : 0 < x ∧ y = 0
      · obtain ⟨h1, rfl⟩ := h0
        have d1 : decide ((0 : Int) < (x : Int)) = true := decide_eq_true (by omega)
        have Hv := Lib.hid (Hn.out h1 rfl)
        clear Hn Hf2 Hno Hyes Hsum
        go_wp2
        go_ret2
        exact ⟨congrArg Ending.returned Hv.out, rfl⟩
      · have Hf3 := Lib.hid (Hf2.out (fun h => by omega))
        clear Hn Hf2 Hno Hyes Hsum
        by_cases h1 : 0 < x
        · have d1 : decide ((0 : Int) < (x : Int)) = true := decide_eq_true (by omega)
          have d2 : ((y : Int) == 0) = false := by rw [beq_eq_false_iff_ne]; omega
          clear h0
          go_wp2
          go_round
          case rel => exact ⟨k + 1, by omega, by go_num, Hf3⟩
          case measure => simp [intOf]; omega
        · have d1 : decide ((0 : Int) < (x : Int)) = false := decide_eq_false (by omega)
          clear h0
          go_wp2
          go_round
          case rel => exact ⟨k + 1, by omega, by go_num, Hf3⟩
          case measure => simp [intOf]; omega
    · obtain rfl : k = cs.length := by omega
      have Hv := Lib.hid (Hyes.out hfit.out)
      clear Hyes Hno hfit Hr Hs
      go_wp2_with fail
      refine Hsum.out.mono ?_
      rintro e w' ⟨rfl, rfl⟩
      go_wp2
      go_ret2
      exact ⟨congrArg Ending.returned Hv.out, rfl⟩
namespace Bm
theorem right_nat (l : List Int) (h : Right l) : l = (l.map Int.toNat).map (fun n : Nat => (n : Int)) ∧ (∀ x ∈ l.map Int.toNat, x ≤ 1048576) ∧ (l.map Int.toNat).length = l.length := by
  refine ⟨?_, ?_, by simp⟩
  · rw [List.map_map]
    conv => lhs; rw [← List.map_id l]
    apply List.map_congr_left
    intro x hx
    have := h.2.1 x hx
    simp only [Function.comp_apply, id]
    omega
  · intro x hx
    obtain ⟨y, hy, rfl⟩ := List.mem_map.1 hx
    have := h.2.1 y hy
    omega
end Bm
theorem nright_b (A : Option Addr) (c : Nat) (l : List Int) (w : World) (hl : l.length ≤ maxLen) (hr : Reads w A (i64z l)) :
    Calls Try.prog 21 #[.slice A l.length c] w fun e w' => e = .returned (.bool (Bm.rightB l)) ∧ w = w' := by
  by_cases h : l.length ≤ 1000000000
  · exact nright_any A c l w h hr
  · unfold maxLen at hl
    have hf : Bm.rightB l = false := decide_eq_false (fun h1 => by have := h1.1; omega)
    rw [hf]
    clear hr hf
    go_enter Try.func21, Try.ntmps21
    go_wp2
    go_ret
    exact ⟨rfl, rfl⟩
theorem ucost_any (A B : Option Addr) (c d : Nat) (cs ls : List Int) (w : World) (hl : cs.length ≤ maxLen) (hl2 : ls.length ≤ maxLen) (hr : Reads w A (i64z cs)) (hs : Reads w B (i64z ls)) :
    Calls Try.prog 14 #[.slice A cs.length c, .slice B ls.length d] w fun e w' => e = .returned (if Bm.Right cs ∧ cs.length ≤ ls.length ∧ Bm.LenR ls then costV (cs.map Int.toNat) (ls.map Int.toNat) else .tuple #[.int .i64 0, .bool false]) ∧ w = w' := by
  have hri := nright_b A c cs w hl hr
  by_cases h : Bm.Right cs ∧ cs.length ≤ ls.length ∧ Bm.LenR ls
  · rw [if_pos h]
    obtain ⟨h1, h2, h3⟩ := h
    rw [show Bm.rightB cs = true from decide_eq_true h1] at hri
    have hm := umay_any B d ls w (by unfold maxLen at hl2; omega) hs
    rw [decide_eq_true h3] at hm
    obtain ⟨e1, k1, n1⟩ := Bm.right_nat cs h1
    obtain ⟨e2, k2, n2⟩ := Bm.lenR_nat ls h3
    have h256 := h3.1
    have h := ucost_yes A B c d (cs.map Int.toNat) (ls.map Int.toNat) w (by omega) (by omega) k1 k2 (by rw [← i64z_nat, ← e1]; exact hr) (by rw [← i64z_nat, ← e2]; exact hs) (by rw [n1]; exact hri) (by rw [n2]; exact hm)
    rw [n1, n2] at h
    exact h
  · rw [if_neg h]
    exact ucost_no A B c d cs ls w hl2 hs h hri
end Go.Proofs.Ytmcobnbahkoopaa

namespace Go.Proofs.Ytmcobnbahkoopaa
open Go.RowKit
namespace Bm
theorem ite_iff9 {p q : Prop} [Decidable p] [Decidable q] (h : p ↔ q) (a b : Nat) : (if p then a else b) = if q then a else b := by
  by_cases hq : q
  · rw [if_pos hq, if_pos (h.2 hq)]
  · rw [if_neg hq, if_neg (fun hp => hq (h.1 hp))]
/-- Is k's code done, behind the lengths ahead of m, and the first q of length m? -/
def doneC (ls : List Nat) (m q k : Nat) : Prop := 0 < ls[k]?.getD 0 ∧ (ls[k]?.getD 0 < m ∨ (ls[k]?.getD 0 = m ∧ k < q))
instance (ls : List Nat) (m q k : Nat) : Decidable (doneC ls m q k) := by unfold doneC; exact inferInstance
def preQ (ls : List Nat) (m q : Nat) : Nat := ((List.range ls.length).map fun k => if doneC ls m q k then partL (ls[k]?.getD 0) else 0).sum
def codesD (ls : List Nat) (m q : Nat) : List Nat := (List.range ls.length).map fun k => if doneC ls m q k then codeN9 ls k else 0
theorem codesD_length (ls : List Nat) (m q : Nat) : (codesD ls m q).length = ls.length := by simp [codesD]
theorem preQ_next (ls : List Nat) (m q : Nat) (h : q < ls.length) (h0 : 0 < m) (he : ls[q]?.getD 0 = m) : preQ ls m (q + 1) = preQ ls m q + partL m := by
  have e : partL m = ((List.range ls.length).map fun k => if k = q then partL m else 0).sum := by rw [sum_single, if_pos h]
  conv => rhs; rw [e]
  unfold preQ
  rw [← sum_map_add]
  congr 1
  apply List.map_congr_left
  intro k _
  by_cases hk : k = q
  · subst hk
    rw [if_pos (show doneC ls m (k + 1) k by unfold doneC; omega), if_neg (show ¬ doneC ls m k k by unfold doneC; omega), if_pos rfl, he, Nat.zero_add]
  · rw [if_neg hk, Nat.add_zero]
    exact ite_iff9 (by unfold doneC; omega) _ _
theorem done_same (ls : List Nat) (m q : Nat) (he : ls[q]?.getD 0 ≠ m) (k : Nat) : doneC ls m (q + 1) k ↔ doneC ls m q k := by
  unfold doneC
  by_cases hk : k = q
  · subst hk; omega
  · omega
theorem preQ_same (ls : List Nat) (m q : Nat) (he : ls[q]?.getD 0 ≠ m) : preQ ls m (q + 1) = preQ ls m q := by
  unfold preQ
  congr 1
  apply List.map_congr_left
  intro k _
  exact ite_iff9 (done_same ls m q he k) _ _
theorem codesD_same (ls : List Nat) (m q : Nat) (he : ls[q]?.getD 0 ≠ m) : codesD ls m (q + 1) = codesD ls m q := by
  unfold codesD
  apply List.map_congr_left
  intro k _
  exact ite_iff9 (done_same ls m q he k) _ _
theorem done_row (ls : List Nat) (m : Nat) (k : Nat) (hk : k < ls.length) : doneC ls m ls.length k ↔ doneC ls (m + 1) 0 k := by unfold doneC; omega
theorem preQ_row (ls : List Nat) (m : Nat) : preQ ls m ls.length = preQ ls (m + 1) 0 := by
  unfold preQ
  congr 1
  apply List.map_congr_left
  intro k hk
  exact ite_iff9 (done_row ls m k (List.mem_range.1 hk)) _ _
theorem codesD_row (ls : List Nat) (m : Nat) : codesD ls m ls.length = codesD ls (m + 1) 0 := by
  unfold codesD
  apply List.map_congr_left
  intro k hk
  exact ite_iff9 (done_row ls m k (List.mem_range.1 hk)) _ _
theorem preQ_zero (ls : List Nat) : preQ ls 1 0 = 0 := by
  unfold preQ
  have : ∀ L : List Nat, (L.map fun k => if doneC ls 1 0 k then partL (ls[k]?.getD 0) else 0).sum = 0 := fun L => by
    induction L with
    | nil => rfl
    | cons k L ih =>
      rw [List.map_cons, List.sum_cons, ih, if_neg (by unfold doneC; omega)]
  exact this _
theorem codesD_zero (ls : List Nat) : codesD ls 1 0 = List.replicate ls.length 0 := by
  unfold codesD
  rw [List.map_congr_left (g := fun _ => 0) (fun k _ => if_neg (by unfold doneC; omega)), List.map_const', List.length_range]
theorem codesD_all (ls : List Nat) (h : ∀ x ∈ ls, x ≤ 11) : codesD ls 12 0 = codesN ls := by
  unfold codesD codesN
  apply List.map_congr_left
  intro k hk
  have hk := List.mem_range.1 hk
  have h1 : ls[k]?.getD 0 ≤ 11 := by rw [List.getElem?_eq_getElem hk, Option.getD_some]; exact h _ (List.getElem_mem hk)
  by_cases h0 : ls[k]?.getD 0 = 0
  · rw [if_neg (by unfold doneC; omega)]
    unfold codeN9
    rw [if_pos h0]
  · rw [if_pos (by unfold doneC; omega)]
theorem preQ_ahead (ls : List Nat) (m q : Nat) (he : ls[q]?.getD 0 = m) : aheadN ls q = preQ ls m q := by
  unfold aheadN aheadQ preQ
  congr 1
  apply List.map_congr_left
  intro k _
  refine ite_iff9 ?_ _ _
  unfold beforeB doneC
  rw [he]
  simp only [Bool.and_eq_true, Bool.or_eq_true, decide_eq_true_eq]
theorem preQ_le (ls : List Nat) (m q : Nat) : preQ ls m q ≤ krN ls := by
  rw [krN_range]
  unfold preQ
  apply sum_map_le
  intro k _
  split
  · exact Nat.le_refl _
  · exact Nat.zero_le _
theorem codesD_next (ls : List Nat) (m q : Nat) (h0 : 0 < m) (he : ls[q]?.getD 0 = m) : codesD ls m (q + 1) = (codesD ls m q).set q (codeN9 ls q) := by
  apply List.ext_getElem
  · simp [codesD_length]
  · intro k h1 h2
    rw [List.getElem_set]
    simp only [codesD, List.getElem_map, List.getElem_range]
    by_cases hk : q = k
    · subst hk
      rw [if_pos rfl, if_pos (by unfold doneC; omega)]
    · rw [if_neg hk]
      exact ite_iff9 (by unfold doneC; omega) _ _
theorem code_is (ls : List Nat) (m q N : Nat) (h0 : 0 < m) (he : ls[q]?.getD 0 = m) (hN : N * 2 ^ (11 - m) = preQ ls m q) : codeN9 ls q = N := by
  unfold codeN9
  rw [he, if_neg (by omega), preQ_ahead ls m q he, ← hN, Nat.mul_div_cancel _ (Nat.two_pow_pos _)]
theorem step_up (N m X : Nat) (h0 : 0 < m) (h : m ≤ 11) (hN : N * 2 ^ (12 - m) = X) : 2 * N * 2 ^ (11 - m) = X := by
  rw [← hN, show 12 - m = (11 - m) + 1 by omega, Nat.pow_succ, Nat.mul_comm 2 N, Nat.mul_assoc, Nat.mul_comm 2]
theorem step_one (N m X : Nat) (h : m ≤ 11) (h0 : 0 < m) (hN : N * 2 ^ (11 - m) = X) : (N + 1) * 2 ^ (11 - m) = X + partL m := by
  unfold partL
  rw [if_neg (by omega), Nat.add_mul, hN, Nat.one_mul]
theorem code_bound (N e X : Nat) (h : N * 2 ^ e = X) (hX : X ≤ 2048) : N ≤ 2048 := Nat.le_trans (by rw [← h]; exact Nat.le_mul_of_pos_right _ (Nat.two_pow_pos _)) hX
end Bm
set_option maxHeartbeats 4000000 in
set_option maxRecDepth 100000 in
theorem ucodes_yes (A : Option Addr) (c : Nat) (ls : List Nat) (w : World) (hl : ls.length ≤ 256) (h11 : ∀ x ∈ ls, x ≤ 11) (hkr : Bm.krN ls ≤ 2048) (hr : Reads w A (i64s ls)) (hwh : Calls Try.prog 17 #[.slice A ls.length c] w fun e w' => e = .returned (.bool true) ∧ w = w') :
    Calls Try.prog 16 #[.slice A ls.length c] w fun e w' => ∃ g, e = .returned (.tuple #[.slice (some ⟨g, 0, none⟩) ls.length ls.length, .bool true]) ∧ Row w' g 3 (i64s (Bm.codesN ls)) ∧ w.heap.size ≤ g ∧ Below w.heap.size w w' := by
  obtain ⟨i0, hi, hz0, hz1, hz2⟩ := info_parts info_in
  have Hr := Lib.hid hr
  have H11 := Lib.hid h11
  have Hwh := Lib.hid hwh
  have Hle := Lib.hid (fun m q => Nat.le_trans (Bm.preQ_le ls m q) hkr)
  clear hr h11 hwh hkr
  obtain ⟨g0, hg0⟩ : ∃ g, g = w.heap.size := ⟨_, rfl⟩
  have Hg0 := Lib.hid hg0
  clear hg0
  go_enter Try.func16, Try.ntmps16
  go_wp2_with fail
  refine Hwh.out.mono ?_
  rintro e w' ⟨rfl, rfl⟩
  clear Hwh
  go_wp2_with (at_make; refine wpList_make_full _ rfl _ _ 22 rfl w.heap.size 3 i0 (.int .i64 0) 1 Try.underlying22 hi hz0 hz1 .i64 .i64 _ _ ls.length rfl rfl ?c1 ?c1 ?c2 ?c3 ?c4 ?_)
  case c1 => omega
  case c2 => first | omega | (rw [hz2]; omega)
  case c3 => unfold maxLen; omega
  try case c4 => exact Nat.le_refl _
  intro w1 hown1 hg1
  have hb1 := below_of_grown hg1
  have hr1 := row_of_ownI hown1
  rw [← Hg0.out] at hr1 ⊢
  have Hb1 := Lib.hid hb1
  rw [← Bm.codesD_zero ls] at hr1
  have Hr1 := Lib.hid hr1
  clear hown1 hg1 hb1 hr1 hi hz0 hz1 hz2
  go_wp2
  go_loopw [5, 6] (fun nx ln wr => ∃ (N m : Nat), nx = .int .i64 (N : Int) ∧ ln = .int .i64 (m : Int) ∧ 0 < m ∧ m ≤ 12 ∧ N ≤ 2048 ∧ Hid (N * 2 ^ (12 - m) = Bm.preQ ls m 0) ∧ Hid (Row wr g0 3 (i64s (Bm.codesD ls m 0))) ∧ Hid (Below w.heap.size w wr)) (fun _ ln _ => 12 - (intOf ln).toNat)
  case atStart => exact ⟨0, 1, rfl, rfl, by omega, by omega, by omega, Lib.hid (by rw [Bm.preQ_zero, Nat.zero_mul]), Hr1, Hb1⟩
  case round =>
    obtain ⟨N, m, rfl, rfl, hm0, hm12, hN, hpre, hrow, hbel⟩ := hrel
    clear Hr1 Hb1
    by_cases hm : m ≤ 11
    · have Hp1 := Lib.hid (Bm.step_up N m _ hm0 hm hpre.out)
      have hN2 := Bm.code_bound _ _ _ Hp1.out (Hle.out m 0)
      clear hpre
      go_wp2
      rename World => wx
      go_loopw [5, 23] (fun nx iv wr => ∃ (N2 q : Nat), q ≤ ls.length ∧ nx = .int .i64 (N2 : Int) ∧ iv = .int .i64 (q : Int) ∧ N2 ≤ 2048 ∧ Hid (N2 * 2 ^ (11 - m) = Bm.preQ ls m q) ∧ Hid (Row wr g0 3 (i64s (Bm.codesD ls m q))) ∧ Hid (Below w.heap.size w wr)) (fun _ iv _ => ls.length - (intOf iv).toNat)
      case atStart => exact ⟨2 * N, 0, by omega, by go_num, rfl, hN2, Hp1, hrow, hbel⟩
      case round =>
        obtain ⟨N2, q, hq, rfl, rfl, hN3, hpre2, hrow2, hbel2⟩ := hrel
        clear hrow hbel Hp1
        by_cases hql : q < ls.length
        · obtain ⟨g, off, rfl, hc⟩ := reads_i9 (reads_on Hr.out hbel2.out) (by omega)
          have c0 := hc q hql
          have hx11 := H11.out ls[q] (List.getElem_mem hql)
          have hgq : ls[q]?.getD 0 = ls[q] := by rw [List.getElem?_eq_getElem hql, Option.getD_some]
          have Hgq := Lib.hid hgq
          clear hc hgq
          obtain ⟨x, hx⟩ : ∃ x, x = ls[q] := ⟨_, rfl⟩
          rw [← hx] at c0 hx11 Hgq
          clear hx
          by_cases hxm : x = m
          · subst hxm
            have Hp2 := Lib.hid (Bm.step_one N2 x _ hm hm0 hpre2.out)
            rw [← Bm.preQ_next ls x q hql hm0 Hgq.out] at Hp2
            have hN4 := Bm.code_bound _ _ _ Hp2.out (Hle.out x (q + 1))
            have Hcd := Lib.hid (Bm.codesD_next ls x q hm0 Hgq.out)
            rw [Bm.code_is ls x q N2 hm0 Hgq.out hpre2.out] at Hcd
            have hlen : (i64s (Bm.codesD ls x q)).length = ls.length := by rw [i64s_length, Bm.codesD_length]
            have hcell : ∃ v, wr.cell? ⟨g0, q, none⟩ = some v := ⟨_, (hrow2.out.cell q).trans (List.getElem?_eq_getElem (by omega))⟩
            obtain ⟨v0, hcd⟩ := hcell
            have hfd : wr.frozen? ⟨g0, q, none⟩ = false := hrow2.out.free q
            have hrow3 : Row (wr.setCell ⟨g0, q, none⟩ (.int .i64 (N2 : Int))) g0 3 (i64s (Bm.codesD ls x (q + 1))) := by
              have h1 := hrow2.out.set_ q (.int .i64 (N2 : Int))
              rw [Hcd.out, show i64s ((Bm.codesD ls x q).set q N2) = (i64s (Bm.codesD ls x q)).set q (.int .i64 (N2 : Int)) by simp [i64s, List.map_set]]
              exact h1
            have Hrow3 := Lib.hid hrow3
            have Hbel3 := Lib.hid (hbel2.out.setCell (p := ⟨g0, q, none⟩) (by rw [Hg0.out]; exact Nat.le_refl _) (.int .i64 (N2 : Int)))
            clear hrow3 hlen hrow2 hbel2 hpre2 Hcd
            go_wp2
            go_roundw
            case rel => exact ⟨N2 + 1, q + 1, by omega, by go_num, by go_num, hN4, Hp2, Hrow3, Hbel3⟩
            case measure => simp [intOf]; omega
          · have Hp2 : Hid (N2 * 2 ^ (11 - m) = Bm.preQ ls m (q + 1)) := Lib.hid (by rw [Bm.preQ_same ls m q (by rw [Hgq.out]; exact hxm)]; exact hpre2.out)
            have Hrow3 : Hid (Row wr g0 3 (i64s (Bm.codesD ls m (q + 1)))) := Lib.hid (by rw [Bm.codesD_same ls m q (by rw [Hgq.out]; exact hxm)]; exact hrow2.out)
            have hne : ((x : Int) == (m : Int)) = false := by rw [beq_eq_false_iff_ne]; omega
            clear hrow2 hpre2
            go_wp2
            go_roundw
            case rel => exact ⟨N2, q + 1, by omega, rfl, by go_num, hN3, Hp2, Hrow3, hbel2⟩
            case measure => simp [intOf]; omega
        · obtain rfl : q = ls.length := by omega
          have Hp3 : Hid (N2 * 2 ^ (12 - (m + 1)) = Bm.preQ ls (m + 1) 0) := Lib.hid (by rw [← Bm.preQ_row, show 12 - (m + 1) = 11 - m by omega]; exact hpre2.out)
          have Hrow3 : Hid (Row wr g0 3 (i64s (Bm.codesD ls (m + 1) 0))) := Lib.hid (by rw [← Bm.codesD_row]; exact hrow2.out)
          clear hrow2 hpre2
          go_wp2
          go_roundw
          case rel => exact ⟨N2, m + 1, rfl, by go_num, by omega, by omega, hN3, Hp3, Hrow3, hbel2⟩
          case measure => simp [intOf]; omega
    · obtain rfl : m = 12 := by omega
      have Hrow2 : Hid (Row wr g0 3 (i64s (Bm.codesN ls))) := Lib.hid (by rw [← Bm.codesD_all ls H11.out]; exact hrow.out)
      clear hrow hpre
      go_wp2
      go_ret2
      exact ⟨g0, rfl, Hrow2.out, by rw [Hg0.out]; exact Nat.le_refl _, hbel.out⟩
theorem ucodes_no (A : Option Addr) (c : Nat) (l : List Int) (w : World) (hl : l.length ≤ 9223372036854775807) (hr : Reads w A (i64z l)) (hno : ¬ Bm.WholeI l) :
    Calls Try.prog 16 #[.slice A l.length c] w fun e w' => e = .returned (.tuple #[.slice none 0 0, .bool false]) ∧ w = w' := by
  have h := uwhole_any A c l w hl hr
  rw [decide_eq_false hno] at h
  have H := Lib.hid h
  clear h hr hno
  go_enter Try.func16, Try.ntmps16
  go_wp2_with fail
  refine H.out.mono ?_
  rintro e w' ⟨rfl, rfl⟩
  go_wp2
  go_ret2
  exact ⟨rfl, rfl⟩
end Go.Proofs.Ytmcobnbahkoopaa
