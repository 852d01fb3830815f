/-
  The reference of layer 12 (parse), by its walk: Literals of steps that end within the text. Conditions: as the theorem's premises say.
-/
import Derived.Test.YtjcehdibklndkaaPc
import Derived.Test.YtjcehdibklndkaaEf
import Derived.RegionTactic
import Derived.Deep.QuietTactic
namespace Go.Proofs.Ytjcehdibklndkaa
open Go.RowKit

theorem lit_next {T : List Nat} {l : List Bm.Stp} {a k : Nat} (hk : k < l.length) (h : Bm.endS a (l.drop k) ≤ T.length) : a + l[k].1 + l[k].2.1 ≤ T.length ∧ Bm.endS (a + l[k].1 + l[k].2.1) (l.drop (k + 1)) ≤ T.length ∧
    Bm.litS T a (l.drop k) = (T.take (a + l[k].1)).drop a ++ Bm.litS T (a + l[k].1 + l[k].2.1) (l.drop (k + 1)) := by
  rw [List.drop_eq_getElem_cons hk, Bm.endS] at h
  have h1 := Bm.endS_ge (l.drop (k + 1)) (a + l[k].1 + l[k].2.1)
  refine ⟨by omega, h, ?_⟩
  rw [List.drop_eq_getElem_cons hk, Bm.litS]
set_option maxHeartbeats 2000000 in
set_option maxRecDepth 100000 in
theorem prlits_any (X : List Nat) (A : Option Addr) (c : Nat) (l : List Bm.Stp) (w : World) (hX : X.length ≤ 100000000) (hl : l.length ≤ 100000000) (hend : Bm.endS 0 l ≤ X.length) (hr : StpR w A l) :
    Calls Try.prog 13 #[.string (strOf X), .slice A l.length c] w fun e w' => e = .returned (.string (strOf (Bm.litS X 0 l))) ∧ Below w.heap.size w w' := by
  have hsX := strOf_size X
  have Hr := Lib.hid hr
  obtain ⟨R, hR⟩ : ∃ R, R = Bm.litS X 0 l := ⟨_, rfl⟩
  rw [← hR]
  have HR := Lib.hid hR
  have Hhd := Lib.hid (fun (a k : Nat) (hk : k < l.length) (h : Bm.endS a (l.drop k) ≤ X.length) => lit_next hk h)
  have Hend := Lib.hid hend
  have Hmid := Lib.hid (fun i j (h : i ≤ j) (h2 : j ≤ X.length) W => str_mid X i j h h2 W)
  have Hfrom := Lib.hid (fun i (h : i ≤ X.length) W => str_from X i h W)
  clear hr hR hend
  go_enter Try.func13, Try.ntmps13
  go_wp2
  go_loopw [5, 6, 7] (fun tv av iv wr => ∃ (acc : List Nat) (a k : Nat), k ≤ l.length ∧ a ≤ X.length ∧ acc.length ≤ a ∧ tv = .string (strOf acc) ∧ av = .int .i64 (a : Int) ∧ iv = .int .i64 (k : Int) ∧ Hid (Bm.endS a (l.drop k) ≤ X.length) ∧ Hid (R = acc ++ Bm.litS X a (l.drop k)) ∧ Hid (∃ z, wr = w.drewN z)) (fun _ _ iv _ => l.length - (intOf iv).toNat)
  case atStart => exact ⟨[], 0, 0, Nat.zero_le _, Nat.zero_le _, Nat.zero_le _, rfl, rfl, rfl, Hend, Lib.hid (by rw [HR.out]; rfl), Lib.hid ⟨0, rfl⟩⟩
  case round =>
    obtain ⟨acc, a, k, hk, ha, hacc, rfl, rfl, rfl, hen, hq, hz⟩ := hrel
    obtain ⟨z, rfl⟩ := hz.out
    clear HR Hend hz
    by_cases hkl : k < l.length
    · obtain ⟨g, off, rfl, hg, hc⟩ := Hr.out (by omega)
      obtain ⟨c0, c1, c2⟩ := hc k hkl
      obtain ⟨e1, e2, e3⟩ := Hhd.out a k hkl hen.out
      have Hq2 := hq.out
      rw [e3, ← List.append_assoc] at Hq2
      have HQ := Lib.hid Hq2
      have HE := Lib.hid e2
      clear hc e3 Hq2 hq hen Hhd e2 c2
      have dd : decide ((k : Int) < (l.length : Int)) = true := decide_eq_true (by omega)
      generalize l[k].1 = n at *
      generalize l[k].2.1 = m at *
      have hml : ((X.take (a + n)).drop a).length = n := by rw [List.length_drop, List.length_take]; omega
      have s1 : ∀ W : World, (Instr.slice 9 (.string (strOf X)) (some (.int .i64 (a : Int))) (some (.int .i64 ((a : Int) + (n : Int)))) none).run Try.prog W = .ok (.string (strOf ((X.take (a + n)).drop a))) W := fun W => by
        have h := Hmid.out a (a + n) (by omega) (by omega) W
        rw [Int.natCast_add] at h
        exact h
      have hadd := fun W => str_add acc ((X.take (a + n)).drop a) (by omega) W
      clear Hmid Hfrom
      generalize (X.take (a + n)).drop a = T1 at *
      go_wp2_with fail
      go_quiet (fail)
      go_wp2
      go_roundw
      case rel => exact ⟨acc ++ T1, a + n + m, k + 1, by omega, by omega, by rw [List.length_append]; omega, rfl, by go_num, by go_num, HE, HQ, Lib.hid ⟨_, rfl⟩⟩
      case measure => simp [intOf]; omega
    · obtain rfl : k = l.length := by omega
      have dd : decide ((l.length : Int) < (l.length : Int)) = false := decide_eq_false (by omega)
      have e : acc ++ X.drop a = R := by rw [hq.out, List.drop_length]; rfl
      have s1 := fun W => Hfrom.out a ha W
      have hadd := fun W => str_add acc (X.drop a) (by rw [List.length_drop]; omega) W
      rw [e] at hadd
      have Hb := Lib.hid (below_drewN (Below.refl w.heap.size w) z)
      clear hq hen e Hfrom Hmid Hhd
      go_wp2
      go_ret
      exact ⟨rfl, Hb.out⟩
end Go.Proofs.Ytjcehdibklndkaa
