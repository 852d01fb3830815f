/-
  The reference of layer 11 (chain), by its walk: Same, right. Conditions: as each theorem's premises say (up to a million bytes).
-/
import Derived.Test.YtjoohdeeihjilaaEm
import Derived.Test.YtjoohdeeihjilaaIn
import Derived.Test.YtjoohdeeihjilaaSt
import Derived.BigQuiet
import Derived.WalkSmall
import Derived.Deep.QuietTactic
namespace Go.Proofs.Ytjoohdeeihjilaa
open Go.RowKit

set_option maxHeartbeats 1000000 in
set_option maxRecDepth 100000 in
theorem zrsame_any (T : List Nat) (a b : Int) (w : World) (hT : T.length ≤ 1000000) (hlt : ∀ x ∈ T, x < 256) (ha : Bm.IntOk a) (hb : Bm.IntOk b) :
    Calls Try.prog 13 #[.string (strOf T), .int .i64 a, .int .i64 b] w fun e w' => e = .returned (.int .i64 (Bm.sameI T a b : Int)) ∧ ∃ m, w' = w.drewN m := by
  have hsz := strOf_size T
  obtain ⟨ha0, ha1⟩ := ha
  obtain ⟨hb0, hb1⟩ := hb
  obtain ⟨r, hr⟩ : ∃ r, r = Bm.sameI T a b := ⟨_, rfl⟩
  rw [← hr]
  by_cases h : 0 ≤ a ∧ 0 ≤ b ∧ a ≤ T.length ∧ b ≤ T.length
  · obtain ⟨i, rfl⟩ := Int.eq_ofNat_of_zero_le h.1
    obtain ⟨j, rfl⟩ := Int.eq_ofNat_of_zero_le h.2.1
    have hi : i ≤ T.length := by omega
    have hj : j ≤ T.length := by omega
    have hr2 : r = Bm.sameN T i j := by rw [hr, Bm.sameI, if_pos h, Int.toNat_natCast, Int.toNat_natCast]
    have Hr := Lib.hid hr2
    have Hidx := Lib.hid (fun W k (h : k < T.length) => index_at T k W h (hlt _ (List.getElem_mem h)))
    clear h hr hr2 hlt
    go_enter Try.func13, Try.ntmps13
    go_wp2
    go_loopw [7] (fun nv wr => ∃ n m : Nat, nv = .int .i64 (n : Int) ∧ i + n ≤ T.length ∧ Hid (r = n + Bm.sameN T (i + n) (j + n)) ∧ Hid (wr = w.drewN m)) (fun nv _ => T.length - (intOf nv).toNat)
    case atStart => exact ⟨0, 0, rfl, hi, Lib.hid (by rw [Hr.out]; simp), Lib.hid rfl⟩
    case round =>
      obtain ⟨n, m, rfl, hin, hrn, hw⟩ := hrel
      have hwr := hw.out
      subst hwr
      clear hw
      by_cases hA : i + n < T.length
      · by_cases hB : j + n < T.length
        · have hstep := Bm.sameN_step T (i + n) (j + n) hA hB
          have k1 : ∀ W : World, (Instr.index 9 (.string (strOf T)) (.int .i64 ((i : Int) + (n : Int)))).run Try.prog W = .ok (.int .u8 ((T[i + n] : Nat) : Int)) W := fun W => by
            have h := Hidx.out W (i + n) hA
            rwa [Int.natCast_add] at h
          have k2 : ∀ W : World, (Instr.index 9 (.string (strOf T)) (.int .i64 ((j : Int) + (n : Int)))).run Try.prog W = .ok (.int .u8 ((T[j + n] : Nat) : Int)) W := fun W => by
            have h := Hidx.out W (j + n) hB
            rwa [Int.natCast_add] at h
          rw [hstep] at hrn
          clear hstep
          have dA : decide ((i : Int) + (n : Int) < (T.length : Int)) = true := decide_eq_true (by omega)
          have dB : decide ((j : Int) + (n : Int) < (T.length : Int)) = true := decide_eq_true (by omega)
          generalize T[i + n]'hA = x at *
          generalize T[j + n]'hB = y at *
          by_cases hxy : x = y
          · subst hxy
            rw [if_pos rfl] at hrn
            have Hrn := Lib.hid (show r = (n + 1) + Bm.sameN T (i + (n + 1)) (j + (n + 1)) by rw [hrn.out, Nat.add_assoc i, Nat.add_assoc j]; omega)
            clear hrn Hidx Hr
            go_wp2_with fail
            go_quiet (fail)
            go_wp2
            go_roundw
            case rel => exact ⟨n + 1, _, by go_num, by omega, Hrn, Lib.hid rfl⟩
            case measure => simp [intOf]; omega
          · rw [if_neg hxy, Nat.add_zero] at hrn
            have dq : ((x : Int) == (y : Int)) = false := by rw [beq_eq_false_iff_ne]; omega
            have Hrn := Lib.hid (show (n : Int) = (r : Int) by rw [hrn.out])
            clear hrn Hidx Hr
            go_wp2_with fail
            go_quiet (fail)
            go_wp2
            go_ret
            rw [← Hrn.out]
            exact ⟨rfl, _, World.drewN_drewN _ _ _⟩
        · have dA : decide ((i : Int) + (n : Int) < (T.length : Int)) = true := decide_eq_true (by omega)
          have dB : decide ((j : Int) + (n : Int) < (T.length : Int)) = false := decide_eq_false (by omega)
          have Hrn := Lib.hid (show (n : Int) = (r : Int) by rw [hrn.out, Bm.sameN_end T _ _ (.inr (by omega))]; omega)
          clear hrn Hidx Hr
          go_wp2_with fail
          go_quiet (fail)
          go_wp2
          go_ret
          rw [← Hrn.out]
          exact ⟨rfl, _, World.drewN_drewN _ _ _⟩
      · have dA : decide ((i : Int) + (n : Int) < (T.length : Int)) = false := decide_eq_false (by omega)
        have Hrn := Lib.hid (show (n : Int) = (r : Int) by rw [hrn.out, Bm.sameN_end T _ _ (.inl (by omega))]; omega)
        clear hrn Hidx Hr
        go_wp2_with fail
        go_quiet (fail)
        go_wp2
        go_ret
        rw [← Hrn.out]
        exact ⟨rfl, _, World.drewN_drewN _ _ _⟩
  · have hr2 : r = 0 := by rw [hr, Bm.sameI, if_neg h]
    subst hr2
    clear hr hlt
    by_cases h1 : a < 0
    · go_enter Try.func13, Try.ntmps13
      go_wp2
      go_ret
      exact ⟨rfl, 0, rfl⟩
    by_cases h2 : b < 0
    · go_enter Try.func13, Try.ntmps13
      go_wp2
      go_ret
      exact ⟨rfl, 0, rfl⟩
    by_cases h3 : (T.length : Int) < a
    · go_enter Try.func13, Try.ntmps13
      go_wp2
      go_ret
      exact ⟨rfl, 0, rfl⟩
    have h4 : (T.length : Int) < b := by omega
    clear h
    go_enter Try.func13, Try.ntmps13
    go_wp2
    go_ret
    exact ⟨rfl, 0, rfl⟩

/-- Only blocks of S, and new ones, have changed. -/
structure Sep (S : Nat → Prop) (w w' : World) : Prop where
  os : w'.os = w.os
  tape : w'.tape = w.tape
  output : w'.output = w.output
  size : w.heap.size ≤ w'.heap.size
  block : ∀ k, k < w.heap.size → ¬ S k → w'.heap[k]? = w.heap[k]?
theorem Sep.below {S : Nat → Prop} {w w' : World} {B : Nat} (h : Sep S w w') (hS : ∀ k, S k → B ≤ k) (hB : B ≤ w.heap.size) : Below B w w' :=
  ⟨h.os, h.tape, h.output, h.size, fun k hk => h.block k (by omega) (fun hs => by have := hS k hs; omega)⟩
theorem Sep.of_below {w w' : World} (S : Nat → Prop) (h : Below w.heap.size w w') : Sep S w w' := ⟨h.os, h.tape, h.output, h.size, fun k hk _ => h.block k hk⟩
/-- The reference's Finder at block q: the text, the places; it lies in the blocks S. -/
def RF (w : World) (q : Nat) (T P : List Nat) (S : Nat → Prop) : Prop := ∃ v : Value, Row w q 29 [.string (strOf T), v] ∧ w.ownsRow 0 3 1 v P.length (i64s P) ∧ S = fun k => k = q ∨ v.ownBlock = some k
theorem RF.keep {w w' : World} {q : Nat} {T P : List Nat} {S : Nat → Prop} (h : RF w q T P S) (hk : ∀ k, S k → w'.heap[k]? = w.heap[k]?) : RF w' q T P S := by
  obtain ⟨v, h1, h2, rfl⟩ := h
  refine ⟨v, h1.keep (hk q (.inl rfl)), ⟨h2.1, ?_⟩, rfl⟩
  rcases h2.2 with h3 | ⟨g, cap, cur, hv, hb, hg, h4⟩
  · exact .inl h3
  · exact .inr ⟨g, cap, cur, hv, hb, (hk g (.inr (by rw [hv]; rfl))).trans hg, h4⟩
theorem RF.lt {w : World} {q : Nat} {T P : List Nat} {S : Nat → Prop} (h : RF w q T P S) : ∀ k, S k → k < w.heap.size := by
  obtain ⟨v, h1, h2, rfl⟩ := h
  rintro k (rfl | hk)
  · exact h1.lt
  · exact (h2.lt k hk).2
theorem RF.new (w : World) (T : List Nat) : RF (w.alloc (.cells #[.string (strOf T), .slice none 0 0] 29)) w.heap.size T [] (fun k => k = w.heap.size) :=
  ⟨.slice none 0 0, Row.new w _ [.string (strOf T), .slice none 0 0], World.ownsRow_nil _ _ _ _, by funext k; simp [Value.ownBlock]⟩
theorem RF.drewN {w : World} {q : Nat} {T P : List Nat} {S : Nat → Prop} (h : RF w q T P S) (n : Nat) : RF (w.drewN n) q T P S := h.keep (fun _ _ => rfl)

set_option maxHeartbeats 400000 in
set_option maxRecDepth 100000 in
theorem zright_any (q : Nat) (T : List Nat) (a : Int) (w : World) (hT : T.length ≤ 1000000) (ha : Bm.IntOk a) (hc : w.cell? ⟨q, 0, none⟩ = some (.string (strOf T))) :
    Calls Try.prog 18 #[.pointer (some ⟨q, 0, none⟩), .int .i64 a] w fun e w' => e = .returned (.bool (Bm.rightI T a)) ∧ w = w' := by
  have hsz := strOf_size T
  obtain ⟨ha0, ha1⟩ := ha
  obtain ⟨r, hr⟩ : ∃ r, r = Bm.rightI T a := ⟨_, rfl⟩
  rw [← hr]
  unfold Bm.rightI at hr
  by_cases h1 : a < 0
  · rw [decide_eq_false (by omega)] at hr
    subst hr
    generalize strOf T = ss at *
    go_enter Try.func18, Try.ntmps18
    go_wp2
    go_ret
    exact ⟨rfl, rfl⟩
  by_cases h2 : (T.length : Int) ≤ a
  · rw [decide_eq_false (by omega)] at hr
    subst hr
    generalize strOf T = ss at *
    go_enter Try.func18, Try.ntmps18
    go_wp2
    go_ret
    exact ⟨rfl, rfl⟩
  by_cases h3 : (T.length : Int) - a < 3
  · rw [decide_eq_false (by omega)] at hr
    subst hr
    have d3 : decide ((3 : Int) ≤ (T.length : Int) - a) = false := decide_eq_false (by omega)
    generalize strOf T = ss at *
    go_enter Try.func18, Try.ntmps18
    go_wp2
    go_ret
    exact ⟨rfl, rfl⟩
  · rw [decide_eq_true ⟨by omega, by omega⟩] at hr
    subst hr
    have d3 : decide ((3 : Int) ≤ (T.length : Int) - a) = true := decide_eq_true (by omega)
    generalize strOf T = ss at *
    go_enter Try.func18, Try.ntmps18
    go_wp2
    go_ret
    exact ⟨rfl, rfl⟩
end Go.Proofs.Ytjoohdeeihjilaa
