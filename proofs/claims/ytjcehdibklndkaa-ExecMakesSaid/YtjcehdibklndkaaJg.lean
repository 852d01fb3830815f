/-
  The program's layer 14 (exec), by its walk: text (of steps without an error). Conditions: as the theorem's premises say.
-/
import Derived.Test.YtjcehdibklndkaaJc
import Derived.Test.YtjcehdibklndkaaJf
import Derived.RegionTactic
import Derived.BigQuiet
namespace Go.Proofs.Ytjcehdibklndkaa
open Go.RowKit

/-- Where a slice goes on behind q of its elements. -/
def behindB (A : Option Addr) (c q : Nat) : Option Addr := if c = q then A else A.map (·.add q)
set_option maxRecDepth 100000 in
theorem bcut_from (A : Option Addr) (L c q : Nat) (W : World) (h : q ≤ L) (hc : L ≤ c) : (Instr.slice 47 (.slice A L c) (some (.int .i64 (q : Int))) none none).run Try.prog W = .ok (.slice (behindB A c q) (L - q) (c - q)) W := by
  have h1 : q ≤ c := by omega
  unfold behindB
  by_cases hcq : c = q
  · subst hcq
    rcases A with _ | a
    · go_simp
    · go_simp
  · rcases A with _ | a
    · go_simp
    · go_simp
theorem breads_behind {w : World} {A : Option Addr} {l : List Nat} {c q : Nat} (h : Reads w A (u8s l)) (hc : l.length ≤ c) : Reads w (behindB A c q) (u8s (l.drop q)) := fun hne => by
  have h0 : q < l.length := by
    rcases Nat.lt_or_ge q l.length with e | e
    · exact e
    · rw [List.drop_of_length_le e] at hne; simp [u8s] at hne
  obtain ⟨g, off, e, hcell⟩ := h (by intro e; have := congrArg List.length e; rw [u8s_length, List.length_nil] at this; omega)
  refine ⟨g, off + q, ?_, fun j hj => ?_⟩
  · unfold behindB
    rw [if_neg (by omega), e]
    show some _ = _
    congr 1
    unfold Addr.add
    split <;> simp_all
  · rw [u8s_length, List.length_drop] at hj
    rw [Nat.add_assoc, hcell (q + j) (by rw [u8s_length]; omega), u8s_get? _ _ (by omega), u8s_get? _ _ (by rw [List.length_drop]; omega), List.getElem_drop]
theorem bown_capA {w : World} {base n c : Nat} {A : Option Addr} {e : TypeId} {xs : List Value} (h : w.ownsRow base e 1 (.slice A n c) n xs) : n ≤ c ∧ c ≤ maxLen := by
  rcases h.2 with ⟨hv, h0⟩ | ⟨g', cap', cur, hv, hb, hh, h1, h2, _⟩
  · injection hv with _ _ e3
    subst h0 e3
    exact ⟨Nat.le_refl _, by unfold maxLen; omega⟩
  · injection hv with _ _ e3
    subst e3
    exact ⟨h1, h2⟩
theorem own_ne {w : World} {base n m k : Nat} {v : Value} {e : TypeId} {xs : List Value} (h : w.ownsRow base e m v n xs) (hk : k < base ∨ w.heap.size ≤ k) : some k ≠ v.ownBlock := fun e => by
  have := h.lt k e.symm
  omega
theorem own_row_ne {w : World} {base n m q : Nat} {v : Value} {e t : TypeId} {xs cs : List Value} (h : w.ownsRow base e m v n xs) (hr : Row w q t cs) (hne : e ≠ t) : some q ≠ v.ownBlock := fun he => by
  rcases h.2 with ⟨rfl, _⟩ | ⟨g, cap, cur, rfl, _, hh, _⟩
  · cases he
  · injection he with he
    subst he
    unfold Row at hr
    rw [hr] at hh
    injection hh with hh
    injection hh with _ h2
    exact hne h2.symm
set_option maxHeartbeats 4000000 in
set_option maxRecDepth 100000 in
theorem jtext_any (D L0 : List Nat) (A : Option Addr) (c : Nat) (l : List Bm.StZ) (lim N : Nat) (w : World) (hD : D.length ≤ 1000000000) (hL : L0.length ≤ 1000000000) (hl : l.length ≤ 1000000000) (hlim : lim ≤ 1000000000) (hDlt : ∀ x ∈ D, x < 256) (hLlt : ∀ x ∈ L0, x < 256)
    (hok : Bm.lenZ D.length lim 0 L0.length l = (N, 0)) (hr : StzR w A l) :
    Calls Try.prog 15 #[.string (strOf D), .string (strOf L0), .slice A l.length c, .int .i64 (N : Int)] w fun e w' => e = .returned (.string (strOf ((Bm.textZ D L0 l).drop D.length))) ∧ Below w.heap.size w w' := by
  obtain ⟨i0, hi, hz0, hz1, hz2⟩ := info_parts info_u8
  have hsD := strOf_size D
  have hNl := (Bm.lenZ_le hok).2
  obtain ⟨d, hd⟩ : ∃ d, d = D.length := ⟨_, rfl⟩
  have Hr := Lib.hid hr
  have Hok := Lib.hid hok
  rw [← hd] at Hok hsD hD
  obtain ⟨R, hR⟩ : ∃ R, R = Bm.textZ D L0 l := ⟨_, rfl⟩
  have hRl : R.length = d + N := by rw [hR, Bm.textZ_length hok rfl, hd]
  have HRlt := Lib.hid (show ∀ x ∈ R, x < 256 from by rw [hR]; exact Bm.textZ_lt l D L0 hDlt hLlt)
  rw [← hR, ← hd]
  have HR := Lib.hid hR
  have Hd := Lib.hid hd
  have HDlt := Lib.hid hDlt
  have HLlt := Lib.hid hLlt
  have Hhd := Lib.hid (fun n L k (hk : k < l.length) (h : Bm.lenZ d lim n L (l.drop k) = (N, 0)) => Bm.okZ_head ((Bm.lenZ_map hk).symm.trans h))
  have Htx := Lib.hid (fun A L k (hk : k < l.length) => congrArg (Bm.textZ A L) (List.drop_eq_getElem_cons hk))
  clear hr hok hR hd hDlt hLlt
  go_enter Try.func15, Try.ntmps15
  go_wp2_with (at_make; refine wpList_make_own _ rfl _ _ 47 rfl w.heap.size 5 i0 (.int .u8 0) 1 Try.underlying47 hi hz0 hz1 .i64 .i64 _ (d + N) rfl rfl ?c1 ?c2 ?c3 ?c4 ?_)
  case c1 => go_num
  case c2 => rw [hz2]; omega
  case c3 => unfold maxLen; omega
  case c4 => exact Nat.le_refl _
  intro w1 hown1 hg1
  have hb1 := below_of_grown hg1
  go_wp2_with (at_builtin; refine wpList_append_str rfl _ _ rfl w.heap.size i0 hi hz0 hz1 hz2 _ 0 d [] D Hd.out.symm HDlt.out rfl rfl hown1 (by omega) (by omega) hb1.size ?_)
  intro v2 w2 hown2 hg2
  have Hb2 := Lib.hid (hb1.grown hg2 hb1.size (fun q hq => (hown1.lt q hq).1))
  have Hown2 := Lib.hid hown2
  clear hown1 hg1 hb1 hg2 hown2
  go_wp2
  go_loopw [1, 9, 22] (fun Lv bv kv wr => ∃ (B L : List Nat) (n k : Nat), k ≤ l.length ∧ L.length ≤ 1000000000 ∧ n ≤ N ∧ B.length = d + n ∧ Lv = .string (strOf L) ∧ kv = .int .i64 (k : Int) ∧ Hid (∀ x ∈ L, x < 256) ∧ Hid (Bm.lenZ d lim n L.length (l.drop k) = (N, 0)) ∧ Hid (R = Bm.textZ B L (l.drop k)) ∧ Hid (wr.ownsRow w.heap.size 5 1 bv (d + n) (u8s B)) ∧ Hid (Below w.heap.size w wr)) (fun _ _ kv _ => l.length - (intOf kv).toNat)
  case atStart => exact ⟨D, L0, 0, 0, Nat.zero_le _, hL, Nat.zero_le _, Hd.out.symm, rfl, rfl, HLlt, Hok, HR, Hown2, Hb2⟩
  case round =>
    obtain ⟨B, L, n, k, hk, hLL, hn, hB, rfl, rfl, hLlt, hq, ht, hown, hbel⟩ := hrel
    clear HR Hok Hown2 Hb2 HLlt HDlt
    have hws := hbel.out.size
    by_cases hkl : k < l.length
    · obtain ⟨g, off, rfl, hg, hc⟩ := (Hr.out.below hbel.out) (by omega)
      obtain ⟨c0, c1, c2⟩ := hc k hkl
      obtain ⟨x, m, o, hs, e1, e2, e3, e4, e5, e6⟩ := Hhd.out n L.length k hkl hq.out
      have ht2 := ht.out.trans (Htx.out B L k hkl)
      rw [hs] at c0 c1 c2 ht2
      rw [Bm.textZ_cons] at ht2
      simp only [Int.toNat_natCast] at c0 c1 c2 ht2
      have dd : decide ((k : Int) < (l.length : Int)) = true := decide_eq_true (by omega)
      have hxl : (L.take x).length = x := by rw [List.length_take]; omega
      have Hl2 : Hid (Bm.lenZ d lim (n + x + m) (L.drop x).length (l.drop (k + 1)) = (N, 0)) := Lib.hid (by rw [List.length_drop]; exact e6)
      have hnm := (Bm.lenZ_le e6).1
      have Hlt1 := Lib.hid (take_lt hLlt.out x)
      have Hlt2 := Lib.hid (drop_lt hLlt.out x)
      have s1 := fun W => str_to L x e1 W
      have s2 := fun W => str_from L x e1 W
      have hL2 : (L.drop x).length ≤ 1000000000 := by rw [List.length_drop]; omega
      have Ht2 := Lib.hid ht2
      clear hs hc ht ht2 Hhd Htx hq e6 hLlt hLL hg
      obtain ⟨P, hP⟩ : ∃ P, P = L.take x := ⟨_, rfl⟩
      obtain ⟨Q, hQ⟩ : ∃ Q, Q = L.drop x := ⟨_, rfl⟩
      rw [← hP] at hxl Hlt1 Ht2 s1
      rw [← hQ] at hL2 Hl2 Hlt2 Ht2 s2
      clear hP hQ
      have hbA := (Below.refl wr.heap.size wr).alloc (Nat.le_refl _) (.cells #[.int .i64 (x : Int), .int .i64 (m : Int), .int .i64 (o : Int)] 37)
      have HbA := Lib.hid (hbel.out.trans (hbA.mono hbel.out.size))
      have HownA := Lib.hid (hown.out.alloc (.cells #[.int .i64 (x : Int), .int .i64 (m : Int), .int .i64 (o : Int)] 37))
      have HrowA := Lib.hid (Row.new wr 37 [.int .i64 (x : Int), .int .i64 (m : Int), .int .i64 (o : Int)])
      have Hne := Lib.hid (own_ne (k := wr.heap.size) hown.out (.inr (Nat.le_refl _)))
      clear hbA hbel hown
      go_wp2_with (at_builtin; refine wpList_append_str rfl _ _ rfl w.heap.size i0 hi hz0 hz1 hz2 _ (d + n) x B P hxl Hlt1.out rfl rfl HownA.out (by omega) (by omega) HbA.out.size ?_)
      intro v3 w3 hown3 hg3
      have hrow3 : Row w3 wr.heap.size 37 [.int .i64 (x : Int), .int .i64 (m : Int), .int .i64 (o : Int)] := HrowA.out.keep (hg3.block _ HrowA.out.lt Hne.out)
      have Hb3 := Lib.hid (HbA.out.grown hg3 HbA.out.size (fun q hq => (HownA.out.lt q hq).1))
      have Hown3 := Lib.hid hown3
      have Hrow3 := Lib.hid hrow3
      have k0 := hrow3.cell 0
      have k1 := hrow3.cell 1
      have k2 := hrow3.cell 2
      simp only [List.getElem?_cons_succ, List.getElem?_cons_zero] at k0 k1 k2
      obtain ⟨q, hq⟩ : ∃ q, q = wr.heap.size := ⟨_, rfl⟩
      have Hqs : Hid (w.heap.size ≤ q) := Lib.hid (by omega)
      rw [← hq] at Hrow3 k0 k1 k2
      rw [← hq]
      have hBP : (B ++ P).length = d + n + x := by rw [List.length_append, hB, hxl]
      obtain ⟨C, hC⟩ : ∃ C, C = Bm.copyN o m (B ++ P) := ⟨_, rfl⟩
      rw [← hC] at Ht2
      have HC := Lib.hid hC
      clear hown3 hg3 hrow3 HrowA HbA HownA Hne c0 c1 c2 s1 hq hC
      go_wp2
      go_loopw [9, 38] (fun bv jv wr2 => ∃ (E : List Nat) (j : Nat), j ≤ m ∧ jv = .int .i64 (j : Int) ∧ E.length = d + n + x + j ∧ Hid (C = Bm.copyN o (m - j) E) ∧ Hid (wr2.ownsRow w.heap.size 5 1 bv (d + n + x + j) (u8s E)) ∧ Hid (Row wr2 q 37 [.int .i64 (x : Int), .int .i64 (m : Int), .int .i64 (o : Int)]) ∧ Hid (Below w.heap.size w wr2)) (fun _ jv _ => m - (intOf jv).toNat)
      case atStart => exact ⟨B ++ P, 0, Nat.zero_le _, rfl, hBP, by rw [Nat.sub_zero]; exact HC, Hown3, Hrow3, Hb3⟩
      case round =>
        obtain ⟨E, j, hj, rfl, hE, hcn, hown, hrow, hbel⟩ := hrel
        clear Hown3 Hrow3 Hb3 HC k0 k1 k2
        have k0 := hrow.out.cell 0
        have k1 := hrow.out.cell 1
        have k2 := hrow.out.cell 2
        simp only [List.getElem?_cons_succ, List.getElem?_cons_zero] at k0 k1 k2
        by_cases hjm : j < m
        · have dj : decide ((j : Int) < (m : Int)) = true := decide_eq_true (by omega)
          obtain ⟨gb, cb, rfl, hgb, hgs⟩ := own_form hown.out (by omega)
          have hcb := own_cap hown.out
          have hcell := hown.out.cells (g := gb) rfl (d + n + x + j - o) _ (u8s_get? E _ (by omega))
          rw [add_zero_off, ← Bm.getD_at (by omega : d + n + x + j - o < E.length)] at hcell
          have hc2 : C = Bm.copyN o (m - (j + 1)) (E ++ [E.getD (d + n + x + j - o) 0]) := by rw [hcn.out, show m - j = (m - (j + 1)) + 1 by omega, Bm.copyN, hE]
          obtain ⟨y, hy⟩ : ∃ y, y = d + n + x + j - o := ⟨_, rfl⟩
          obtain ⟨z, hz⟩ : ∃ z, z = d + n + x + j := ⟨_, rfl⟩
          have ey : (z : Int) - (o : Int) = (y : Int) := by omega
          have hyz : y < z := by omega
          have hz9 : z ≤ 2000000000 := by omega
          have hE2 : (E ++ [E.getD y 0]).length = z + 1 := by rw [List.length_append, hE, hz]; rfl
          rw [← hy] at hcell hc2
          rw [← hz] at hcb hown
          rw [← hz]
          have HC2 := Lib.hid hc2
          have Hz := Lib.hid hz
          have Hown := Lib.hid (hown.out.alloc (.cells #[.int .u8 ((E.getD y 0 : Nat) : Int)] 5))
          have hbA := (Below.refl wr.heap.size wr).alloc (Nat.le_refl _) (.cells #[.int .u8 ((E.getD y 0 : Nat) : Int)] 5)
          have HbA := Lib.hid (hbel.out.trans (hbA.mono hbel.out.size))
          have HrowA := Lib.hid (hrow.out.alloc (.cells #[.int .u8 ((E.getD y 0 : Nat) : Int)] 5))
          have Hne := Lib.hid (own_row_ne Hown.out HrowA.out (by decide))
          have HE2 := Lib.hid hE2
          clear hc2 hcn hy hz hbA hbel hrow hown hE hE2
          generalize E.getD y 0 = b at *
          go_wp2_with (at_builtin; refine wpList_append_own _ rfl _ _ 47 rfl w.heap.size 5 i0 (.int .u8 0) 1 1 Try.underlying47 hi hz0 hz1 hz2 rfl (by decide) _ _ _ rfl Hown.out ⟨wr.heap.size, 0, none⟩ 1 1 [.int .u8 (b : Int)] rfl rfl ?d1 ?d2 ?d3 ?d4 ?d5 ?_)
          case d1 =>
            intro j u hj
            match j, hj with
            | 0, hj => simp at hj; subst hj; simp [Addr.add]
          case d2 => intro u hu; simp at hu; subst hu; rfl
          case d3 => unfold maxLen; omega
          case d4 => omega
          case d5 => exact HbA.out.size
          intro u' w4 hown4 hg4 _
          rw [show [Value.int .u8 (b : Int)] = u8s [b] from rfl, u8s_append] at hown4
          have Hrow4 := Lib.hid (HrowA.out.keep (hg4.block _ HrowA.out.lt Hne.out))
          have Hb4 := Lib.hid (HbA.out.grown hg4 HbA.out.size (fun q hq => (Hown.out.lt q hq).1))
          have Hown4 := Lib.hid hown4
          clear hown4 hg4 HrowA Hne Hown HbA hcell ey
          go_wp2
          go_roundw
          case rel => exact ⟨E ++ [b], j + 1, by omega, by go_num, by rw [HE2.out, Hz.out]; rfl, HC2, by rw [← Nat.add_assoc, ← Hz.out]; exact Hown4, Hrow4, Hb4⟩
          case measure => simp [intOf]; omega
        · obtain rfl : j = m := by omega
          have dj : decide ((j : Int) < (j : Int)) = false := decide_eq_false (by omega)
          have ec : C = E := by rw [hcn.out, Nat.sub_self]; rfl
          rw [ec] at Ht2
          have Hown5 := Lib.hid hown.out
          clear hcn hown hrow k0 k1 k2 ec
          go_wp2
          go_roundw
          case rel => exact ⟨E, Q, n + x + j, k + 1, by omega, hL2, by omega, by omega, rfl, by go_num, Hlt2, Hl2, Ht2, by rw [← Nat.add_assoc, ← Nat.add_assoc]; exact Hown5, hbel⟩
          case measure => simp [intOf]; omega
    · obtain rfl : k = l.length := by omega
      have dd : decide ((l.length : Int) < (l.length : Int)) = false := decide_eq_false (by omega)
      have eN : N = n + L.length := by
        have e := hq.out
        rw [List.drop_length, Bm.lenZ] at e
        split at e
        · simp at e
        · injection e with e; exact e.symm
      have eR : R = B ++ L := by rw [ht.out, List.drop_length]; rfl
      have HeR := Lib.hid eR
      have HeN := Lib.hid eN
      obtain ⟨t, ht2⟩ : ∃ t, t = L.length := ⟨_, rfl⟩
      have htl : t ≤ 1000000000 := by omega
      have Ht2 := Lib.hid ht2
      clear hq ht Hhd Htx eN eR ht2 hLL
      go_wp2_with (at_builtin; refine wpList_append_str rfl _ _ rfl w.heap.size i0 hi hz0 hz1 hz2 _ (d + n) t B L Ht2.out.symm hLlt.out rfl rfl hown.out (by omega) (by omega) hws ?_)
      intro v3 w3 hown3 hg3
      rw [← HeR.out] at hown3
      have Hb3 := Lib.hid (hbel.out.grown hg3 hws (fun q hq => (hown.out.lt q hq).1))
      rw [show d + n + t = d + N by rw [HeN.out, Ht2.out]; omega] at hown3
      obtain ⟨A3, c3, rfl, hrd3, _⟩ := own_reads hown3
      have hc3 := bown_capA hown3
      have s1 : ∀ W : World, (Instr.slice 47 (.slice A3 (d + N) c3) (some (.int .i64 (d : Int))) none none).run Try.prog W = .ok (.slice (behindB A3 c3 d) N (c3 - d)) W := fun W => by
        have h := bcut_from A3 (d + N) c3 d W (by omega) hc3.1
        rwa [Nat.add_sub_cancel_left] at h
      have s2 : (convert 47 9 (.slice (behindB A3 c3 d) N (c3 - d))).run Try.prog w3 = .ok (.string (strOf (R.drop d))) w3 := by
        have h := conv_bytes w3 (behindB A3 c3 d) (c3 - d) (R.drop d) (drop_lt HRlt.out d) (breads_behind hrd3 (by omega))
        rwa [List.length_drop, hRl, Nat.add_sub_cancel_left] at h
      clear hown3 hg3 hrd3 hown hbel
      generalize behindB A3 c3 d = A4 at *
      go_wp2
      go_ret
      exact ⟨rfl, Hb3.out⟩
end Go.Proofs.Ytjcehdibklndkaa
