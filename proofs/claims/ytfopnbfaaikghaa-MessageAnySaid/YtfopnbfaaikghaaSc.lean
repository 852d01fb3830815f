/-
  Layer 4 (sum): the reference's Of; Of; each by its walk. Conditions: as each theorem's premises say.
-/
import Derived.Test.YtfopnbfaaikghaaSb
namespace Go.Proofs.Ytfopnbfaaikghaa
open Go.RowKit

theorem step_3 (m : Nat) (h : m < 18446744073709551616) : IntKind.u64.wrap ((m : Int) / 536870912) = (m : Int) / 536870912 := by
  rw [IntKind.wrap_u64]; omega
theorem sum_3 (m : Nat) (h : m < 18446744073709551616) : IntKind.u64.wrap ((m : Int) / 4294967296) = (m : Int) / 4294967296 := by
  rw [IntKind.wrap_u64]; omega

set_option maxHeartbeats 400000 in
set_option maxRecDepth 100000 in
theorem gof_any (l : List Nat) (w : World) (hl : l.length ≤ 1000000000) (hlt : ∀ x ∈ l, x < 256) :
    Calls Try.prog 32 #[.string (strOf l)] w fun e w' => e = .returned (.int .u64 (Bm.sumOf l : Int)) ∧ w = w' := by
  have hsz := strOf_size l
  have Hidx : Hid (∀ (i : Nat) (W : World) (hi : i < l.length), (Instr.index 9 (.string (strOf l)) (.int .i64 (i : Int))).run Try.prog W = .ok (.int .u8 ((l[i] : Nat) : Int)) W) := Lib.hid (fun i W hi => index_at l i W hi (hlt _ (List.getElem_mem hi)))
  have Hlt := Lib.hid hlt
  have Hhk := Lib.hid (fun k => Bm.fromH_lt Bm.H0 (l.take k) Bm.H0_lt)
  obtain ⟨r, hr⟩ : ∃ r, r = Bm.sumOf l := ⟨_, rfl⟩
  rw [← hr]
  have Hr := Lib.hid hr
  clear hlt hr
  generalize strOf l = s at hsz Hidx ⊢
  go_enter Try.func32, Try.ntmps32
  go_wp2
  go_loop [3, 4] (fun x i => ∃ k : Nat, k ≤ l.length ∧ i = .int .i64 (k : Int) ∧ x = .int .u64 (Bm.fromH Bm.H0 (l.take k) : Int)) (fun _ i => l.length - (intOf i).toNat)
  case atStart => exact ⟨0, by omega, rfl, rfl⟩
  case round =>
    obtain ⟨k, hk, rfl, rfl⟩ := hrel
    by_cases hkl : k < l.length
    · have hx := fun W => Hidx.out k W hkl
      have hb := Hlt.out l[k] (List.getElem_mem hkl)
      have hh := Hhk.out k
      have hs := (Bm.fromH_take Bm.H0 l k hkl).symm
      have Hs := Lib.hid hs
      clear hs
      generalize Bm.fromH Bm.H0 (l.take k) = y at hh Hs ⊢
      generalize l[k] = b at hx hb Hs
      have e0 := xor_walk y b hh (by omega)
      have e1 := step_1 y b hh hb
      rw [e0] at e1
      have e2 := step_2 y b
      have e3 := step_3 (Bm.mulH y b) (Bm.mulH_lt y b)
      have hm := Bm.mulH_lt y b
      generalize Bm.mulH y b = m at e1 e2 e3 hm
      generalize Bm.stepH y b = y' at e2 Hs
      generalize y ^^^ b = x at e0 e1
      clear Hhk Hidx Hlt
      go_wp2
      go_round
      case rel => exact ⟨k + 1, by omega, by go_num, by rw [Hs.out]⟩
      case measure => simp [intOf]; omega
    · obtain rfl : k = l.length := by omega
      rw [List.take_length]
      have hhl := Hhk.out l.length
      rw [List.take_length] at hhl
      have hs : Bm.sumH (Bm.fromH Bm.H0 l) l.length = r := by rw [Hr.out]; rfl
      generalize Bm.fromH Bm.H0 l = y at hs hhl ⊢
      have e1 := sum_1 y l.length
      have e2 := sum_2 y l.length
      have e3 := sum_3 (Bm.mulS y l.length) (Bm.mulS_lt y l.length)
      rw [hs] at e2
      have hm := Bm.mulS_lt y l.length
      clear hs
      generalize Bm.mulS y l.length = m at e1 e2 e3 hm
      clear Hhk Hidx Hlt Hr
      go_wp2
      go_ret
      exact ⟨rfl, rfl⟩

set_option maxHeartbeats 400000 in
set_option maxRecDepth 100000 in
theorem sof_any (l : List Nat) (w : World) (hl : l.length ≤ 1000000000) (hlt : ∀ x ∈ l, x < 256) :
    Calls Try.prog 39 #[.string (strOf l)] w fun e w' => e = .returned (.int .u64 (Bm.sumOf l : Int)) ∧ Below w.heap.size w w' := by
  have hadd := fun W => sadd_any 7640891576956012808 0 l W (by decide) (by decide) hl hlt
  have hsum := fun W => ssum_any (Bm.fromH 7640891576956012808 l) l.length W
  have hr : Bm.sumH (Bm.fromH 7640891576956012808 l) l.length = Bm.sumOf l := rfl
  rw [show (0 + l.length) % 18446744073709551616 = l.length by omega] at hadd
  rw [hr] at hsum
  have Hadd := Lib.hid hadd
  have Hsum := Lib.hid hsum
  clear hadd hsum hr hlt
  generalize Bm.sumOf l = r at Hsum ⊢
  generalize Bm.fromH 7640891576956012808 l = y at Hadd Hsum
  generalize l.length = n at Hadd Hsum
  generalize strOf l = s at Hadd ⊢
  go_enter Try.func39, Try.ntmps39
  go_wp2_with fail
  refine (snew_any w).mono ?_
  rintro e w1 ⟨rfl, hb1⟩
  have Hb1 := Lib.hid hb1
  clear hb1
  go_wp2_with fail
  refine (Hadd.out w1).mono ?_
  rintro e w2 ⟨rfl, hb2⟩
  have Hb2 := Lib.hid (Hb1.out.trans (hb2.mono Hb1.out.size))
  clear hb2 Hb1
  go_wp2_with fail
  refine (Hsum.out w2).mono ?_
  rintro e w3 ⟨rfl, hb3⟩
  have Hb3 := Lib.hid (Hb2.out.trans (hb3.mono Hb2.out.size))
  clear hb3 Hb2
  go_wp2
  go_ret
  exact ⟨rfl, Hb3.out⟩
end Go.Proofs.Ytfopnbfaaikghaa
