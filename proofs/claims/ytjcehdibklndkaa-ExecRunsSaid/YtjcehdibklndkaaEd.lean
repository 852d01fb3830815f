/-
  Which chain a place is in (layer 11's method chain), by its walk. Conditions: as the theorem's premises say (up to 2000 bytes, three bytes from the place on).
-/
import Derived.Test.YtjcehdibklndkaaEc
import Derived.Test.YtjcehdibklndkaaSg
namespace Go.Proofs.Ytjcehdibklndkaa
open Go.RowKit

namespace Bm
/-- Bytes as one number, the first one highest. -/
def numB (l : List Nat) : Nat := l.foldl (fun a c => a * 256 + c) 0
theorem numB_snoc (l : List Nat) (c : Nat) : numB (l ++ [c]) = numB l * 256 + c := by simp [numB]
theorem numB_lt : ∀ (k : Nat) (l : List Nat), l.length = k → (∀ x ∈ l, x < 256) → numB l < 256 ^ k
  | 0, l, hl, _ => by rw [List.eq_nil_of_length_eq_zero hl]; simp [numB]
  | k + 1, l, hl, h => by
    have hne : l ≠ [] := fun e => by rw [e] at hl; simp at hl
    have e := List.dropLast_concat_getLast hne
    have h1 := numB_lt k l.dropLast (by simp [hl]) (fun x hx => h x (List.dropLast_subset _ hx))
    have h2 := h _ (List.getLast_mem hne)
    rw [← e, numB_snoc, Nat.pow_succ]
    omega
theorem hshN_num (T : List Nat) (p : Nat) : hshN T p = numB (three T p) % 2003 := rfl
end Bm
theorem or_i64 (x c : Nat) (hx : x < 16777216) (hc : c < 256) : bits .or .i64 ((x : Int) * 256) (c : Int) = ((x * 256 + c : Nat) : Int) := by
  have e : (x : Int) * 256 = ((x * 256 : Nat) : Int) := by simp
  have ho : x * 256 ||| c = x * 256 + c := by
    have := Bm.or_sum 8 c x hc
    rw [Nat.or_comm, this, Nat.add_comm]
  rw [e]
  show IntKind.i64.wrap (((BitVec.ofInt 64 ((x * 256 : Nat) : Int)) ||| (BitVec.ofInt 64 (c : Int))).toNat : Int) = _
  rw [BitVec.ofInt_natCast, BitVec.ofInt_natCast, BitVec.toNat_or, BitVec.toNat_ofNat, BitVec.toNat_ofNat, Nat.mod_eq_of_lt (by omega), Nat.mod_eq_of_lt (by omega), ho]
  exact IntWalk.i64_in _ (by omega)

set_option maxHeartbeats 1000000 in
set_option maxRecDepth 100000 in
theorem zchain_any (b n : Nat) (T : List Nat) (w : World) (hlt : ∀ x ∈ T, x < 256) (hT : T.length ≤ 2000) (hn : n + 3 ≤ T.length) (hc : w.cell? ⟨b, 0, none⟩ = some (.string (strOf T))) :
    Calls Try.prog 30 #[.pointer (some ⟨b, 0, none⟩), .int .i64 (n : Int)] w fun e w' => e = .returned (.int .i64 (Bm.hshN T n : Int)) ∧ Below w.heap.size w w' := by
  obtain ⟨l, hl⟩ : ∃ l, l = Bm.three T n := ⟨_, rfl⟩
  have hl3 : l.length = 3 := by rw [hl, Bm.three_eq T n hn]; rfl
  have hl256 : ∀ x ∈ l, x < 256 := by rw [hl]; exact drop_lt (take_lt hlt _) _
  have km : ∀ W : World, (Instr.slice 9 (.string (strOf T)) (some (.int .i64 (n : Int))) (some (.int .i64 ((n : Int) + 3))) none).run Try.prog W = .ok (.string (strOf l)) W := fun W => by
    have h := str_mid T n (n + 3) (by omega) hn W
    rw [Int.natCast_add] at h
    rw [hl]
    exact h
  obtain ⟨w2, cap, hconv, hcells, hb2⟩ := conv_back w l hl256
  have Hcells := Lib.hid hcells
  have Hb2 := Lib.hid hb2
  have Hlt := Lib.hid hl256
  have Hres : Hid (Bm.hshN T n = Bm.numB l % 2003) := Lib.hid (by rw [hl]; rfl)
  have HL3 := Lib.hid hl3
  rw [hl3] at hconv
  generalize strOf T = ss at *
  clear hl hl3 hl256 hlt hcells hb2
  obtain ⟨g, hg⟩ : ∃ g, g = w.heap.size := ⟨_, rfl⟩
  rw [← hg] at hconv Hcells
  clear hg
  go_enter Try.func30, Try.ntmps30
  go_wp2
  go_loopw [5, 18] (fun tv kv wr => ∃ k : Nat, k ≤ 3 ∧ kv = .int .i64 (k : Int) ∧ tv = .int .i64 (Bm.numB (l.take k) : Int) ∧ Hid (wr = w2)) (fun _ kv _ => 3 - (intOf kv).toNat)
  case atStart => exact ⟨0, by omega, rfl, rfl, Lib.hid rfl⟩
  case round =>
    obtain ⟨k, hk, rfl, rfl, hw⟩ := hrel
    have hwr := hw.out
    subst hwr
    clear hw
    by_cases hk3 : k < 3
    · have hkl : k < l.length := by rw [HL3.out]; exact hk3
      have c1 := Hcells.out k hkl
      have hs := Bm.numB_snoc (l.take k) l[k]
      rw [← List.take_succ_eq_append_getElem hkl] at hs
      have hv := Bm.numB_lt k (l.take k) (by rw [List.length_take]; omega) (fun x hx => Hlt.out x (List.mem_of_mem_take hx))
      have hv2 : (256 : Nat) ^ k ≤ 256 ^ 2 := Nat.pow_le_pow_right (by omega) (by omega)
      have hx := Hlt.out l[k] (List.getElem_mem hkl)
      have Hs := Lib.hid hs
      clear hs
      have hv3 : Bm.numB (l.take k) < 65536 := by omega
      clear hv hv2
      generalize Bm.numB (l.take k) = v at *
      generalize l[k]'hkl = x at *
      have ho := or_i64 v x (by omega) hx
      clear Hcells Hlt
      go_wp2
      go_roundw
      case rel => exact ⟨k + 1, by omega, by go_num, by rw [Hs.out]; simp, Lib.hid (by first | rfl | trivial)⟩
      case measure => simp [intOf]; omega
    · obtain rfl : k = 3 := by omega
      have e3 : l.take 3 = l := List.take_of_length_le (by rw [HL3.out]; exact Nat.le_refl _)
      rw [e3]
      have Hr2 := Lib.hid (show (Bm.hshN T n : Int) = (Bm.numB l : Int) % 2003 by rw [Hres.out]; simp)
      have hv := Bm.numB_lt 3 l HL3.out Hlt.out
      clear Hres e3
      generalize Bm.numB l = v at *
      go_wp2
      go_ret
      rw [Hr2.out]
      exact ⟨rfl, Hb2.out⟩
end Go.Proofs.Ytjcehdibklndkaa
