/-
  The program's calls of layer 11 (chain), by their walks: Same, Len, has; nobody's Finder. Conditions: as each theorem's premises say (up to a million bytes).
-/
import Derived.Test.YtjcehdibklndkaaEh
import Derived.Test.YtjcehdibklndkaaEb
namespace Go.Proofs.Ytjcehdibklndkaa
open Go.RowKit

set_option maxHeartbeats 1000000 in
set_option maxRecDepth 100000 in
theorem zpsame_any (T : List Nat) (a b : Int) (w : World) (hT : T.length ≤ 1000000) (hlt : ∀ x ∈ T, x < 256) (ha : Bm.IntOk a) (hb : Bm.IntOk b) :
    Calls Try.prog 31 #[.string (strOf T), .int .i64 a, .int .i64 b] w fun e w' => e = .returned (.int .i64 (Bm.sameI T a b : Int)) ∧ ∃ m, w' = w.drewN m := by
  have hsz := strOf_size T
  obtain ⟨ha0, ha1⟩ := ha
  obtain ⟨hb0, hb1⟩ := hb
  obtain ⟨r, hr⟩ : ∃ r, r = Bm.sameI T a b := ⟨_, rfl⟩
  rw [← hr]
  by_cases h : 0 ≤ a ∧ 0 ≤ b
  · obtain ⟨i, rfl⟩ := Int.eq_ofNat_of_zero_le h.1
    obtain ⟨j, rfl⟩ := Int.eq_ofNat_of_zero_le h.2
    have hr2 : r = Bm.sameN T i j := by
      rw [hr, Bm.sameI]
      split
      · rw [Int.toNat_natCast, Int.toNat_natCast]
      · rw [Bm.sameN_end T i j (by omega)]
    have Hr := Lib.hid hr2
    have Hidx := Lib.hid (fun W k (h : k < T.length) => index_at T k W h (hlt _ (List.getElem_mem h)))
    obtain ⟨x, hx⟩ : ∃ x, x = max i j := ⟨_, rfl⟩
    have hmx : max (i : Int) (j : Int) = (x : Int) := by omega
    have hmn : decide (min (i : Int) (j : Int) < 0) = false := decide_eq_false (by omega)
    have hxi : i ≤ x := by omega
    have hxj : j ≤ x := by omega
    have hxe : x = i ∨ x = j := by omega
    clear h hr hr2 hlt hx
    go_enter Try.func31, Try.ntmps31
    go_wp2
    clear hmx hmn
    go_loopw [8] (fun nv wr => ∃ n m : Nat, nv = .int .i64 (n : Int) ∧ n ≤ T.length ∧ Hid (r = n + Bm.sameN T (i + n) (j + n)) ∧ Hid (wr = w.drewN m)) (fun nv _ => T.length - (intOf nv).toNat)
    case atStart => exact ⟨0, 0, rfl, by omega, Lib.hid (by rw [Hr.out]; simp), Lib.hid rfl⟩
    case round =>
      obtain ⟨n, m, rfl, hin, hrn, hw⟩ := hrel
      have hwr := hw.out
      subst hwr
      clear hw
      by_cases hA : x + n < T.length
      · have hAi : i + n < T.length := by omega
        have hAj : j + n < T.length := by omega
        have hstep := Bm.sameN_step T (i + n) (j + n) hAi hAj
        have k1 : ∀ W : World, (Instr.index 9 (.string (strOf T)) (.int .i64 ((i : Int) + (n : Int)))).run Try.prog W = .ok (.int .u8 ((T[i + n] : Nat) : Int)) W := fun W => by
          have h := Hidx.out W (i + n) hAi
          rwa [Int.natCast_add] at h
        have k2 : ∀ W : World, (Instr.index 9 (.string (strOf T)) (.int .i64 ((j : Int) + (n : Int)))).run Try.prog W = .ok (.int .u8 ((T[j + n] : Nat) : Int)) W := fun W => by
          have h := Hidx.out W (j + n) hAj
          rwa [Int.natCast_add] at h
        rw [hstep] at hrn
        clear hstep
        have dA : decide ((n : Int) < (T.length : Int) - (x : Int)) = true := decide_eq_true (by omega)
        generalize T[i + n]'hAi = y at *
        generalize T[j + n]'hAj = z at *
        by_cases hxy : y = z
        · subst hxy
          rw [if_pos rfl] at hrn
          have Hrn := Lib.hid (show r = (n + 1) + Bm.sameN T (i + (n + 1)) (j + (n + 1)) by rw [hrn.out, Nat.add_assoc i, Nat.add_assoc j]; omega)
          clear hrn Hidx Hr
          go_wp2_with fail
          go_quiet (fail)
          go_wp2
          go_roundw
          case rel => exact ⟨n + 1, _, by go_num, by omega, Hrn, Lib.hid rfl⟩
          case measure => simp [intOf]; omega
        · rw [if_neg hxy, Nat.add_zero] at hrn
          have dq : ((y : Int) == (z : Int)) = false := by rw [beq_eq_false_iff_ne]; omega
          have Hrn := Lib.hid (show (n : Int) = (r : Int) by rw [hrn.out])
          clear hrn Hidx Hr
          go_wp2_with fail
          go_quiet (fail)
          go_wp2
          go_ret
          rw [← Hrn.out]
          exact ⟨rfl, _, World.drewN_drewN _ _ _⟩
      · have dA : decide ((n : Int) < (T.length : Int) - (x : Int)) = false := decide_eq_false (by omega)
        have Hrn := Lib.hid (show (n : Int) = (r : Int) by rw [hrn.out, Bm.sameN_end T _ _ (by omega)]; omega)
        clear hrn Hidx Hr
        go_wp2_with fail
        go_quiet (fail)
        go_wp2
        go_ret
        rw [← Hrn.out]
        exact ⟨rfl, _, World.drewN_drewN _ _ _⟩
  · have hr2 : r = 0 := by rw [hr, Bm.sameI, if_neg (fun h2 => h ⟨h2.1, h2.2.1⟩)]
    subst hr2
    have hmn : decide (min a b < 0) = true := decide_eq_true (by omega)
    clear hr hlt
    go_enter Try.func31, Try.ntmps31
    go_wp2
    go_ret
    exact ⟨rfl, 0, rfl⟩
theorem zsame_is : ZSame := fun w T a b hT hlt ha hb =>
  (zpsame_any T a b w (by omega) hlt ha hb).mono fun _ w' ⟨he, m, hm⟩ => ⟨he, by rw [hm]; exact below_drewN (Below.refl _ _) m⟩

set_option maxHeartbeats 400000 in
set_option maxRecDepth 100000 in
theorem zplen_at (b : Nat) (T : List Nat) (w : World) (hc : w.cell? ⟨b, 0, none⟩ = some (.string (strOf T))) :
    Calls Try.prog 25 #[.pointer (some ⟨b, 0, none⟩)] w fun e w' => e = .returned (.int .i64 (T.length : Int)) ∧ w' = w := by
  have hsz := strOf_size T
  generalize strOf T = ss at *
  go_enter Try.func25, Try.ntmps25
  go_wp2
  go_ret
  exact ⟨rfl, rfl⟩
set_option maxHeartbeats 400000 in
set_option maxRecDepth 100000 in
theorem zplen_nil (w : World) : Calls Try.prog 25 #[.pointer none] w fun e w' => e = .returned (.int .i64 0) ∧ w' = w := by
  go_enter Try.func25, Try.ntmps25
  go_wp2
  go_ret
  exact ⟨rfl, rfl⟩
set_option maxHeartbeats 400000 in
set_option maxRecDepth 100000 in
theorem zhas_of (p : Option Addr) (n : Nat) (a : Int) (w : World) (hn : n ≤ 1000000) (hlen : Calls Try.prog 25 #[.pointer p] w fun e w' => e = .returned (.int .i64 (n : Int)) ∧ w' = w) :
    Calls Try.prog 29 #[.pointer p, .int .i64 a] w fun e w' => e = .returned (.bool (decide (0 ≤ a ∧ a + 3 ≤ n))) ∧ ∃ m, w' = w.drewN m := by
  have Hlen := Lib.hid hlen
  clear hlen
  by_cases h : 0 ≤ a
  · by_cases h2 : a + 3 ≤ n
    · have d : decide (0 ≤ a ∧ a + 3 ≤ n) = true := decide_eq_true ⟨h, h2⟩
      rw [d]
      clear d
      have d1 : decide (0 ≤ a) = true := decide_eq_true h
      have d2 : decide (a ≤ (n : Int) - 3) = true := decide_eq_true (by omega)
      go_enter Try.func29, Try.ntmps29
      go_wp2_with fail
      refine Hlen.out.mono ?_
      rintro e w' ⟨rfl, rfl⟩
      go_wp2
      go_ret
      exact ⟨rfl, 0, rfl⟩
    · have d : decide (0 ≤ a ∧ a + 3 ≤ n) = false := decide_eq_false (fun h3 => h2 h3.2)
      rw [d]
      clear d
      have d1 : decide (0 ≤ a) = true := decide_eq_true h
      have d2 : decide (a ≤ (n : Int) - 3) = false := decide_eq_false (by omega)
      go_enter Try.func29, Try.ntmps29
      go_wp2_with fail
      refine Hlen.out.mono ?_
      rintro e w' ⟨rfl, rfl⟩
      go_wp2
      go_ret
      exact ⟨rfl, 0, rfl⟩
  · have d : decide (0 ≤ a ∧ a + 3 ≤ n) = false := decide_eq_false (fun h3 => h h3.1)
    rw [d]
    clear d
    have d1 : decide (0 ≤ a) = false := decide_eq_false h
    clear Hlen
    go_enter Try.func29, Try.ntmps29
    go_wp2
    go_ret
    exact ⟨rfl, 0, rfl⟩
end Go.Proofs.Ytjcehdibklndkaa
