/-
  The reference of layer 11 (chain), by its walk: Find. Conditions: as the theorem's premises say (up to a million bytes, ten thousand places).
-/
import Derived.Test.YtjoohdeeihjilaaEn
import Derived.BigQuiet
import Derived.WalkSmall
import Derived.Deep.QuietTactic
namespace Go.Proofs.Ytjoohdeeihjilaa
open Go.RowKit

theorem str_mid (l : List Nat) (i j : Nat) (h : i ≤ j) (h2 : j ≤ l.length) (W : World) : (Instr.slice 9 (.string (strOf l)) (some (.int .i64 (i : Int))) (some (.int .i64 (j : Int))) none).run Try.prog W = .ok (.string (strOf ((l.take j).drop i))) W := by
  rw [run_slice_string W 9 _ .i64 .i64 i j Try.underlying9 (by omega) (by omega) (by rw [strOf_size]; omega), Int.toNat_natCast, Int.toNat_natCast, strOf_extract]

set_option maxHeartbeats 2000000 in
set_option maxRecDepth 100000 in
theorem zrfind_any (q : Nat) (T P : List Nat) (S : Nat → Prop) (a depth : Int) (w : World) (hT : T.length ≤ 1000000) (hlt : ∀ x ∈ T, x < 256) (hP : P.length ≤ 10000) (hPl : Bm.Places T P) (ha : Bm.IntOk a) (hd : Bm.IntOk depth) (h : RF w q T P S) :
    Calls Try.prog 11 #[.pointer (some ⟨q, 0, none⟩), .int .i64 a, .int .i64 depth] w fun e w' => e = .returned (.tuple #[.int .i64 ((Bm.findI T P a depth).1 : Int), .int .i64 ((Bm.findI T P a depth).2 : Int)]) ∧ ∃ m, w' = w.drewN m := by
  obtain ⟨v, hrow, hown, hS⟩ := h
  have c0 := hrow.cell 0
  have c1 := hrow.cell 1
  simp only [List.getElem?_cons_zero, List.getElem?_cons_succ] at c0 c1
  have Hright := Lib.hid (zright_any q T a w hT ha c0)
  obtain ⟨A, c, rfl, hrd, _⟩ := own_reads hown
  obtain ⟨hd0, hd1⟩ := hd
  by_cases hri : Bm.rightI T a = true
  · rw [hri] at Hright
    have hrb : 0 ≤ a ∧ a + 3 ≤ T.length := by unfold Bm.rightI at hri; simpa using hri
    obtain ⟨n, rfl⟩ := Int.eq_ofNat_of_zero_le hrb.1
    have hn3 : n + 3 ≤ T.length := by omega
    obtain ⟨r, hr⟩ : ∃ r, r = Bm.findI T P (n : Int) depth := ⟨_, rfl⟩
    have hr2 : r = Bm.findL T n depth P.reverse 0 0 0 := by rw [hr, Bm.findI, hri, if_pos rfl, Int.toNat_natCast]
    rw [← hr]
    have Hr := Lib.hid hr2
    have Hrd := Lib.hid hrd
    have Hmid := Lib.hid (fun W i (h : i + 3 ≤ T.length) => str_mid T i (i + 3) (by omega) h W)
    have Hsame := Lib.hid (fun W p (h : p + 3 ≤ T.length) => zrsame_any T (p : Int) (n : Int) W hT hlt (by constructor <;> omega) (by constructor <;> omega))
    have Hpl := Lib.hid hPl
    have Heq := Lib.hid (fun p => strOf_beq (Bm.three T p) (Bm.three T n) (drop_lt (take_lt hlt _) _) (drop_lt (take_lt hlt _) _))
    clear hr hr2 hri hrb hown hrow hS hrd hlt ha
    go_enter Try.func11, Try.ntmps11
    go_wp2_with fail
    refine Hright.out.mono ?_
    rintro e w' ⟨rfl, rfl⟩
    go_wp2
    go_loopw [8, 9, 10, 11, 12, 13] (fun ov nv sv iv _ _ wr => ∃ q' o l s m : Nat, q' ≤ P.length ∧ iv = .int .i64 ((q' : Int) - 1) ∧ ov = .int .i64 (o : Int) ∧ nv = .int .i64 (l : Int) ∧ sv = .int .i64 (s : Int) ∧ o ≤ 1000000 ∧ l ≤ 1000000 ∧ s ≤ 1000 ∧ Hid (r = Bm.findL T n depth (P.take q').reverse o l s) ∧ Hid (wr = w.drewN m)) (fun _ _ _ iv _ _ _ => (intOf iv + 1).toNat)
    case atStart => exact ⟨P.length, 0, 0, 0, 0, Nat.le_refl _, rfl, rfl, rfl, rfl, by omega, by omega, by omega, Lib.hid (by rw [Hr.out, List.take_of_length_le (Nat.le_refl _)]), Lib.hid rfl⟩
    case round =>
      obtain ⟨q', o, l, s, m, hq, rfl, rfl, rfl, rfl, ho, hl, hs, hres, hw⟩ := hrel
      have hwr := hw.out
      subst hwr
      clear hw Hr
      rcases Nat.eq_zero_or_pos q' with h0 | h0
      · subst h0
        have hx := hres.out
        rw [List.take_zero, List.reverse_nil, Bm.findL] at hx
        have Hx := Lib.hid hx
        have e1 : ((0 : Nat) : Int) - 1 = -1 := by omega
        rw [e1]
        clear hx hres
        go_wp2
        go_ret2
        rw [Hx.out]
        exact ⟨rfl, m, rfl⟩
      · obtain ⟨k, rfl⟩ : ∃ k, q' = k + 1 := ⟨q' - 1, by omega⟩
        have hkP : k < P.length := by omega
        have e1 : ((k + 1 : Nat) : Int) - 1 = (k : Int) := by omega
        rw [e1]
        have hres2 := hres.out
        rw [List.take_succ_eq_append_getElem hkP, List.reverse_append, List.reverse_singleton, List.singleton_append, Bm.findL] at hres2
        obtain ⟨g1, off1, rfl, hc1⟩ := reads_ie Hrd.out (by omega)
        have k1 := hc1 k hkP
        have hp3 := Hpl.out _ (List.getElem_mem hkP)
        have Hres := Lib.hid hres2
        clear hres hres2 hc1 e1
        generalize P[k] = p at *
        have km : ∀ W : World, (Instr.slice 9 (.string (strOf T)) (some (.int .i64 (p : Int))) (some (.int .i64 ((p : Int) + 3))) none).run Try.prog W = .ok (.string (strOf (Bm.three T p))) W := fun W => by
          have h := Hmid.out W p hp3
          rwa [Int.natCast_add] at h
        have kn : ∀ W : World, (Instr.slice 9 (.string (strOf T)) (some (.int .i64 (n : Int))) (some (.int .i64 ((n : Int) + 3))) none).run Try.prog W = .ok (.string (strOf (Bm.three T n))) W := fun W => by
          have h := Hmid.out W n hn3
          rwa [Int.natCast_add] at h
        have heq := Heq.out p
        by_cases h3 : Bm.three T p = Bm.three T n
        · rw [decide_eq_true h3] at heq
          rw [if_neg (fun hne => hne h3)] at Hres
          have hsI : Bm.sameI T (p : Int) (n : Int) = Bm.sameN T p n := by rw [Bm.sameI, if_pos ⟨by omega, by omega, by omega, by omega⟩, Int.toNat_natCast, Int.toNat_natCast]
          have hsm := fun W => Hsame.out W p hp3
          rw [hsI] at hsm
          have Hsm := Lib.hid hsm
          have hsle := (Bm.sameN_le T p n).1
          clear Hsame Heq hsI hsm
          generalize strOf (Bm.three T p) = sp at *
          generalize strOf (Bm.three T n) = sn at *
          generalize Bm.sameN T p n = y at *
          by_cases hA : depth < ((s + 1 : Nat) : Int) ∨ 1000 < s + 1
          · rw [if_pos hA] at Hres
            clear Hsm
            by_cases hA1 : depth < (s : Int) + 1
            · go_wp2_with fail
              go_quiet (fail)
              go_wp2
              go_ret2
              rw [Hres.out]
              exact ⟨rfl, _, rfl⟩
            · have hA2 : (1000 : Int) < (s : Int) + 1 := by omega
              have hA3 : (s : Int) + 1 ≤ depth := by omega
              go_wp2_with fail
              go_quiet (fail)
              go_wp2
              go_ret2
              rw [Hres.out]
              exact ⟨rfl, _, rfl⟩
          · rw [if_neg hA] at Hres
            have hA1 : decide (depth < (s : Int) + 1) = false := decide_eq_false (by omega)
            have hA2 : decide ((1000 : Int) < (s : Int) + 1) = false := decide_eq_false (by omega)
            have hs2 : s + 1 ≤ 1000 := by omega
            by_cases hB : n ≤ p
            · rw [if_pos hB] at Hres
              have dB : decide ((n : Int) ≤ (p : Int)) = true := decide_eq_true (by omega)
              clear Hsm hA
              go_wp2_with fail
              go_quiet (fail)
              go_wp2
              go_roundw
              case rel => exact ⟨k, o, l, s + 1, _, by omega, by go_num, rfl, rfl, by go_num, ho, hl, hs2, Hres, Lib.hid rfl⟩
              case measure => simp [intOf]
            · rw [if_neg hB] at Hres
              have dB : decide ((n : Int) ≤ (p : Int)) = false := decide_eq_false (by omega)
              clear hA
              go_wp2_with fail
              go_quiet (fail)
              go_wp2_with fail
              refine (Hsm.out _).mono ?_
              rintro e w' ⟨rfl, m2, rfl⟩
              obtain ⟨d, hdn⟩ : ∃ d, d = n - p := ⟨_, rfl⟩
              have hdi : (n : Int) - (p : Int) = (d : Int) := by omega
              have hd6 : d ≤ 1000000 := by omega
              have hy6 : y ≤ 1000000 := by omega
              rw [← hdn] at Hres
              have Hdn := Lib.hid hdn
              clear Hsm hdn
              by_cases hC : l < y
              · rw [if_pos (.inl hC)] at Hres
                have dC : decide ((l : Int) < (y : Int)) = true := decide_eq_true (by omega)
                go_wp2
                go_roundw
                case rel => exact ⟨k, d, y, s + 1, _, by omega, by go_num, rfl, rfl, by go_num, hd6, hy6, hs2, Hres, Lib.hid rfl⟩
                case measure => simp [intOf]
              · have dC : decide ((l : Int) < (y : Int)) = false := decide_eq_false (by omega)
                by_cases hE : y = l
                · subst hE
                  by_cases hO : d < o
                  · rw [if_pos (.inr ⟨rfl, hO⟩)] at Hres
                    have dO : decide ((d : Int) < (o : Int)) = true := decide_eq_true (by omega)
                    go_wp2
                    go_roundw
                    case rel => exact ⟨k, d, y, s + 1, _, by omega, by go_num, rfl, rfl, by go_num, hd6, hy6, hs2, Hres, Lib.hid rfl⟩
                    case measure => simp [intOf]
                  · rw [if_neg (fun h => h.elim hC (fun h => hO h.2))] at Hres
                    have dO : decide ((d : Int) < (o : Int)) = false := decide_eq_false (by omega)
                    go_wp2
                    go_roundw
                    case rel => exact ⟨k, o, y, s + 1, _, by omega, by go_num, rfl, rfl, by go_num, ho, hl, hs2, Hres, Lib.hid rfl⟩
                    case measure => simp [intOf]
                · rw [if_neg (fun h => h.elim hC (fun h => hE h.1))] at Hres
                  have dE : ((y : Int) == (l : Int)) = false := by rw [beq_eq_false_iff_ne]; omega
                  go_wp2
                  go_roundw
                  case rel => exact ⟨k, o, l, s + 1, _, by omega, by go_num, rfl, rfl, by go_num, ho, hl, hs2, Hres, Lib.hid rfl⟩
                  case measure => simp [intOf]
        · rw [decide_eq_false h3] at heq
          rw [if_pos h3] at Hres
          clear Hsame Heq
          generalize strOf (Bm.three T p) = sp at *
          generalize strOf (Bm.three T n) = sn at *
          go_wp2_with fail
          go_quiet (fail)
          go_wp2
          go_roundw
          case rel => exact ⟨k, o, l, s, _, by omega, by go_num, rfl, rfl, rfl, ho, hl, hs, Hres, Lib.hid rfl⟩
          case measure => simp [intOf]
  · have hrif : Bm.rightI T a = false := by simpa using hri
    rw [hrif] at Hright
    have hf : Bm.findI T P a depth = (0, 0) := by rw [Bm.findI, hrif, if_neg Bool.false_ne_true]
    rw [hf]
    clear hrow hown hS hlt hri hrif hf
    go_enter Try.func11, Try.ntmps11
    go_wp2_with fail
    refine Hright.out.mono ?_
    rintro e w' ⟨rfl, rfl⟩
    go_wp2
    go_ret2
    exact ⟨rfl, 0, rfl⟩
end Go.Proofs.Ytjoohdeeihjilaa
