/-
  HuffPrefix (layer 9): the law's function by its walk: true for any lengths. Premises: what the calls of layer 9 answer.
-/
import Derived.Test.YtmcobnbahkoopaaUk
import Derived.BigQuiet
import Derived.WalkSmall
import Derived.Deep.QuietTactic
namespace Go.Proofs.Ytmcobnbahkoopaa
open Go.RowKit

set_option maxHeartbeats 400000 in
set_option maxRecDepth 100000 in
theorem uprefix_not {D : List Int → Prop} (hH : HuffOk D) (hD : D [5, 2, 1]) (A : Option Addr) (c : Nat) (l : List Int) (w : World) (hmx : l.length ≤ maxLen) (hok : ∀ x ∈ l, Bm.IntOk x) (hr : Reads w A (i64z l)) (hw : ¬ Bm.WholeI l) :
    Calls Try.prog 5 #[.slice A l.length c] w fun e w' => e = .returned (.bool true) ∧ Below w.heap.size w w' := by
  have Haw := Lib.hid (uawake_of hH hD)
  have H2 : Hid (∀ W, Below w.heap.size w W → Calls Try.prog 16 #[.slice A l.length c] W fun e w' => ∃ B d, e = .returned (.tuple #[.slice B 0 d, .bool false]) ∧ Below W.heap.size W w') := Lib.hid (fun W hb => hH.noCodes W A c l hmx hok (reads_on hr hb) hw)
  clear hH hD hw hok hr
  generalize l.length = n at *
  go_enter Try.func5, Try.ntmps5
  go_wp2_with fail
  refine (Haw.out w).mono ?_
  rintro e w1 ⟨rfl, hb1⟩
  have Hb1 := Lib.hid hb1
  clear hb1
  go_wp2_with fail
  refine (H2.out w1 Hb1.out).mono ?_
  rintro e w2 ⟨B, d, rfl, hb2⟩
  have Hb2 := Lib.hid (Hb1.out.trans (hb2.mono Hb1.out.size))
  clear hb2 Hb1
  go_wp2
  go_ret
  exact ⟨rfl, Hb2.out⟩

theorem cells9 {w : World} {A : Option Addr} {ls : List Nat} (h : Reads w A (i64s ls)) (hne : 0 < ls.length) : ∃ g off, A = some ⟨g, off, none⟩ ∧ ∀ W, Below w.heap.size w W → ∀ j, j < ls.length → W.cell? ⟨g, off + j, none⟩ = some (.int .i64 (ls[j]?.getD 0 : Nat)) := by
  obtain ⟨g, off, e, _⟩ := reads_i9 h hne
  subst e
  exact ⟨g, off, rfl, fun W hb j hj => by
    obtain ⟨g', off', e, hc⟩ := reads_i9 (reads_on h hb) hne
    injection e with e
    injection e with e1 e2
    subst e1 e2
    rw [hc j hj, List.getElem?_eq_getElem hj, Option.getD_some]⟩

set_option maxHeartbeats 2000000 in
set_option maxRecDepth 100000 in
theorem uprefix_whole {D : List Int → Prop} (hH : HuffOk D) (hD : D [5, 2, 1]) (A : Option Addr) (c : Nat) (l : List Int) (w : World) (hmx : l.length ≤ maxLen) (hok : ∀ x ∈ l, Bm.IntOk x) (hr : Reads w A (i64z l)) (hw : Bm.WholeI l) :
    Calls Try.prog 5 #[.slice A l.length c] w fun e w' => e = .returned (.bool true) ∧ Below w.heap.size w w' := by
  have Haw := Lib.hid (uawake_of hH hD)
  have H2 : Hid (∀ W, Below w.heap.size w W → Calls Try.prog 16 #[.slice A l.length c] W fun e w' => ∃ B d, e = .returned (.tuple #[.slice B l.length d, .bool true]) ∧ Reads w' B (i64s (Bm.codesN (l.map Int.toNat))) ∧ Below W.heap.size W w') := Lib.hid (fun W hb => hH.codes W A c l hmx hok (reads_on hr hb) hw)
  obtain ⟨e1, h11, elen⟩ := Bm.lenR_nat l hw.1
  have hlen := hw.1.1
  have hrs : Reads w A (i64s (l.map Int.toNat)) := by rw [e1, i64z_nat] at hr; exact hr
  have hwn := hw.2
  clear hr hw hok hmx hH hD e1
  rw [← elen] at H2 hlen ⊢
  clear elen
  generalize l.map Int.toNat = ls at *
  clear l
  have Hr := Lib.hid hrs
  have H11 := Lib.hid h11
  have Hwn := Lib.hid hwn
  clear hrs h11 hwn
  go_enter Try.func5, Try.ntmps5
  go_wp2_with fail
  refine (Haw.out w).mono ?_
  rintro e w1 ⟨rfl, hb1⟩
  have Hb1 := Lib.hid hb1
  clear hb1
  go_wp2_with fail
  refine (H2.out w1 Hb1.out).mono ?_
  rintro e w2 ⟨B, d, rfl, hr2, hb2⟩
  have Hb2 := Lib.hid (Hb1.out.trans (hb2.mono Hb1.out.size))
  have Hr2 := Lib.hid hr2
  have HrA := Lib.hid (reads_on Hr.out Hb2.out)
  clear hb2 hr2 Hb1 H2 Haw Hr
  have hcl : (Bm.codesN ls).length = ls.length := by simp [Bm.codesN]
  have hcg : ∀ j, j < ls.length → (Bm.codesN ls)[j]?.getD 0 = Bm.codeN9 ls j := fun j hj => by simp [Bm.codesN, hj]
  have Hcl := Lib.hid hcl
  have Hcg := Lib.hid hcg
  clear hcl hcg
  go_wp2
  go_loopw [5, 6, 7, 8, 20] (fun _ _ _ _ i wr => ∃ q : Nat, q ≤ ls.length ∧ i = .int .i64 (q : Int) ∧ Hid (Below w2.heap.size w2 wr)) (fun _ _ _ _ i _ => ls.length - (intOf i).toNat)
  case atStart => exact ⟨0, by omega, rfl, Lib.hid (Below.refl _ _)⟩
  case round =>
    obtain ⟨q, hq, rfl, hbel⟩ := hrel
    by_cases hql : q < ls.length
    · obtain ⟨g, off, hA, hc⟩ := cells9 HrA.out (by omega)
      obtain ⟨g2, off2, hB, hc2⟩ := cells9 Hr2.out (by rw [Hcl.out]; omega)
      subst hA hB
      have Hc : Hid (∀ W, Below w2.heap.size w2 W → ∀ j, j < ls.length → W.cell? ⟨g, off + j, none⟩ = some (.int .i64 (ls[j]?.getD 0 : Nat))) := Lib.hid hc
      have Hc2 : Hid (∀ W, Below w2.heap.size w2 W → ∀ j, j < ls.length → W.cell? ⟨g2, off2 + j, none⟩ = some (.int .i64 (Bm.codeN9 ls j : Nat))) := Lib.hid (fun W hb j hj => by
        rw [hc2 W hb j (by rw [Hcl.out]; exact hj), Hcg.out j hj])
      clear hc hc2
      have c0 := Hc.out wr hbel.out q hql
      have c1 := Hc2.out wr hbel.out q hql
      have ha11 : ls[q]?.getD 0 ≤ 11 := by rw [List.getElem?_eq_getElem hql, Option.getD_some]; exact H11.out _ (List.getElem_mem hql)
      have Hpre := Lib.hid (fun k hk hne h0 h1 => Bm.code_prefix ls q k hql hk Hwn.out hne h0 h1)
      have Hlt := Lib.hid (Bm.code_lt9 ls q hql Hwn.out)
      obtain ⟨a, ha⟩ : ∃ a, a = ls[q]?.getD 0 := ⟨_, rfl⟩
      obtain ⟨C, hC⟩ : ∃ C, C = Bm.codeN9 ls q := ⟨_, rfl⟩
      rw [← ha] at c0 ha11 Hpre Hlt
      rw [← hC] at c1 Hpre Hlt
      clear ha hC
      obtain ⟨wo, rfl⟩ : ∃ wo : World, wo = wr := ⟨_, rfl⟩
      go_wp2
      go_loopw [7, 8, 27] (fun _ _ k wr => ∃ t : Nat, t ≤ ls.length ∧ k = .int .i64 (t : Int) ∧ ∃ m, wr = wo.drewN m) (fun _ _ k _ => ls.length - (intOf k).toNat)
      case atStart => exact ⟨0, by omega, rfl, 0, rfl⟩
      case round =>
        obtain ⟨t, ht, rfl, m, rfl⟩ := hrel
        by_cases htl : t < ls.length
        · have c2 := Hc.out _ (below_drewN hbel.out m) t htl
          have c3 := Hc2.out wo hbel.out t htl
          have hb11 : ls[t]?.getD 0 ≤ 11 := by rw [List.getElem?_eq_getElem htl, Option.getD_some]; exact H11.out _ (List.getElem_mem htl)
          have hp := Hpre.out t htl
          generalize ls[t]?.getD 0 = b at *
          generalize Bm.codeN9 ls t = D at *
          by_cases k1 : a = 0
          · subst k1
            clear hp
            go_wp2
            go_roundw
            case rel => exact ⟨t + 1, by omega, by go_num, _, rfl⟩
            case measure => simp [intOf]; omega
          · have d1 : ((a : Int) == 0) = false := by rw [beq_eq_false_iff_ne]; omega
            by_cases k2 : b = 0
            · subst k2
              clear hp
              go_wp2
              go_roundw
              case rel => exact ⟨t + 1, by omega, by go_num, _, rfl⟩
              case measure => simp [intOf]; omega
            · have d2 : ((b : Int) == 0) = false := by rw [beq_eq_false_iff_ne]; omega
              by_cases k3 : b < a
              · clear hp
                have d3 : decide ((b : Int) < (a : Int)) = true := decide_eq_true (by omega)
                go_wp2
                go_roundw
                case rel => exact ⟨t + 1, by omega, by go_num, _, rfl⟩
                case measure => simp [intOf]; omega
              · have d3 : decide ((b : Int) < (a : Int)) = false := decide_eq_false (by omega)
                by_cases k4 : q = t
                · clear hp
                  have d4 : ((q : Int) == (t : Int)) = true := by simp [k4]
                  go_wp2
                  go_roundw
                  case rel => exact ⟨t + 1, by omega, by go_num, _, rfl⟩
                  case measure => simp [intOf]; omega
                · have d4 : ((q : Int) == (t : Int)) = false := by rw [beq_eq_false_iff_ne]; omega
                  have hne := hp k4 (by omega) (by omega)
                  have d5 : ((D : Int) / 2 ^ (b - a) == (C : Int)) = false := by
                    rw [beq_eq_false_iff_ne]
                    intro h
                    exact hne (by exact_mod_cast h)
                  clear hp hne
                  go_wp2_with fail
                  go_quiet (fail)
                  go_wp2
                  go_roundw
                  case rel => exact ⟨t + 1, by omega, by go_num, _, rfl⟩
                  case measure => simp [intOf]; omega
        · obtain rfl : t = ls.length := by omega
          clear Hc Hc2 Hpre c0
          by_cases k1 : 0 < a
          · have d1 : decide ((0 : Int) < (a : Int)) = true := decide_eq_true (by omega)
            have hP := Hlt.out k1
            have hPe : (2 : Int) ^ a = ((2 ^ a : Nat) : Int) := by norm_cast
            have hPb : 2 ^ a ≤ 2 ^ 11 := Nat.pow_le_pow_right (by omega) ha11
            generalize 2 ^ a = P at *
            have d2 : decide ((C : Int) < 0) = false := decide_eq_false (by omega)
            have d3 : decide ((P : Int) ≤ (C : Int)) = false := decide_eq_false (by omega)
            go_wp2_with fail
            go_quiet (fail)
            go_wp2
            go_roundw
            case rel => exact ⟨q + 1, by omega, by go_num, Lib.hid (below_drewN hbel.out _)⟩
            case measure => simp [intOf]; omega
          · have d1 : decide ((0 : Int) < (a : Int)) = false := decide_eq_false (by omega)
            clear c1
            go_wp2_with fail
            go_quiet (fail)
            go_wp2
            go_roundw
            case rel => exact ⟨q + 1, by omega, by go_num, Lib.hid (below_drewN hbel.out _)⟩
            case measure => simp [intOf]; omega
    · obtain rfl : q = ls.length := by omega
      go_wp2
      go_ret
      exact ⟨rfl, Hb2.out.trans (hbel.out.mono Hb2.out.size)⟩
end Go.Proofs.Ytmcobnbahkoopaa
