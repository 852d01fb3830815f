/-
  The reference of layer 5 (counts), by its walk: Right. Conditions: as each theorem's premises say.
-/
import Derived.Test.YtmcobnbahkoopaaUr
namespace Go.Proofs.Ytmcobnbahkoopaa
open Go.RowKit
set_option maxHeartbeats 1000000 in
set_option maxRecDepth 100000 in
theorem hright_any (A : Option Addr) (c : Nat) (l : List Int) (r : Bool) (w : World) (hl : l.length ≤ 1000000000) (hres : r = true ↔ Bm.Right l) (hr : Reads w A (i64z l)) :
    Calls Try.prog 9 #[.slice A l.length c] w fun e w' => e = .returned (.bool r) ∧ w = w' := by
  have Hr := Lib.hid hr
  have Hres := Lib.hid hres
  have Hno : Hid (¬ Bm.Right l → false = r) := Lib.hid (fun h => by cases r with | false => rfl | true => exact absurd (hres.1 rfl) h)
  clear hr hres
  go_enter Try.func9, Try.ntmps9
  go_wp2
  go_loop [3, 4] (fun b i => ∃ (k : Nat) (q : Bool), k ≤ l.length ∧ i = .int .i64 (k : Int) ∧ b = .bool q ∧ Hid (q = true ↔ ∃ x ∈ l.take k, 0 < x) ∧ Hid (∀ x ∈ l.take k, 0 ≤ x ∧ x ≤ 1048576)) (fun _ i => l.length - (intOf i).toNat)
  case atStart => exact ⟨0, false, by omega, rfl, rfl, Lib.hid (by simp), Lib.hid (by simp)⟩
  case round =>
    obtain ⟨k, q, hk, rfl, rfl, hq, hall⟩ := hrel
    by_cases hkl : k < l.length
    · obtain ⟨g, off, rfl, hc⟩ := reads_iz Hr.out (by omega)
      have c0 := hc k hkl
      have Ha := Lib.hid (Bm.all_take9 (fun x => 0 ≤ x ∧ x ≤ 1048576) l k hkl hall.out)
      have He := Lib.hid (Bm.ex_take9 (fun x => 0 < x) l k hkl)
      have Hm := Lib.hid (List.getElem_mem hkl)
      clear hc hall
      generalize l[k] = z at c0 Ha He Hm
      by_cases hz : z < 0
      · have Hf := Lib.hid (Hno.out (fun h => by have := (h.2.1 z Hm.out).1; omega))
        clear hq
        go_wp2
        go_ret
        exact ⟨congrArg (fun x => Ending.returned (Value.bool x)) Hf.out, rfl⟩
      by_cases hz2 : 1048576 < z
      · have Hf := Lib.hid (Hno.out (fun h => by have := (h.2.1 z Hm.out).2; omega))
        clear hq
        go_wp2
        go_ret
        exact ⟨congrArg (fun x => Ending.returned (Value.bool x)) Hf.out, rfl⟩
      have Hq2 : Hid ((q || decide (0 < z)) = true ↔ ∃ x ∈ l.take (k + 1), 0 < x) := Lib.hid (by
        rw [He.out, ← hq.out]
        simp)
      have Hall2 := Lib.hid (Ha.out (by omega))
      clear Ha He hq
      cases q with
      | true =>
        go_wp2
        go_round
        case rel => exact ⟨k + 1, true, by omega, by go_num, rfl, Lib.hid (by have := Hq2.out; simpa using this), Hall2⟩
        case measure => simp [intOf]; omega
      | false =>
        by_cases hz3 : 0 < z
        · have hd : decide (0 < z) = true := decide_eq_true hz3
          go_wp2
          go_round
          case rel => exact ⟨k + 1, true, by omega, by go_num, rfl, Lib.hid (by have := Hq2.out; simpa [hz3] using this), Hall2⟩
          case measure => simp [intOf]; omega
        · have hd : decide (0 < z) = false := decide_eq_false hz3
          go_wp2
          go_round
          case rel => exact ⟨k + 1, false, by omega, by go_num, rfl, Lib.hid (by have := Hq2.out; simpa [hz3] using this), Hall2⟩
          case measure => simp [intOf]; omega
    · obtain rfl : k = l.length := by omega
      have hfin : (q && decide (l.length ≤ 256)) = r := by
        have h1 := hq.out
        have h2 := hall.out
        rw [List.take_length] at h1 h2
        rw [Bool.eq_iff_iff, Hres.out, Bool.and_eq_true, h1, decide_eq_true_eq]
        exact ⟨fun ⟨a, b⟩ => ⟨b, h2, a⟩, fun h => ⟨h.2.2, h.1⟩⟩
      have Hfin := Lib.hid hfin
      clear hfin hq hall Hres Hno Hr
      generalize l.length = n at *
      cases q with
      | true =>
        go_wp2
        go_ret
        exact ⟨congrArg (fun x => Ending.returned (Value.bool x)) (dec256 n r (by have := Hfin.out; rwa [Bool.true_and] at this)), rfl⟩
      | false =>
        go_wp2
        go_ret
        exact ⟨congrArg (fun x => Ending.returned (Value.bool x)) (by have := Hfin.out; simpa using this), rfl⟩
end Go.Proofs.Ytmcobnbahkoopaa
