/-
  The reference of layer 12 (parse), by its walk: Right, Literals of steps that make the text. Conditions: as each theorem's premises say.
-/
import Derived.Test.YtjcehdibklndkaaPr
import Derived.Deep.QuietTactic
namespace Go.Proofs.Ytjcehdibklndkaa
open Go.RowKit

theorem cut_get {T : List Nat} {a b m : Nat} (h : (T.take (b + m)).drop b = (T.take (a + m)).drop a) (j : Nat) (hj : j < m) : T[a + j]? = T[b + j]? := by
  have e := congrArg (fun l : List Nat => l[j]?) h
  simp only [List.getElem?_drop] at e
  rw [List.getElem?_take_of_lt (by omega), List.getElem?_take_of_lt (by omega)] at e
  exact e.symm
set_option maxHeartbeats 4000000 in
set_option maxRecDepth 100000 in
theorem prright_any (D X : List Nat) (A : Option Addr) (c : Nat) (l : List Bm.Stp) (w : World) (hD : D.length ≤ 100000000) (hX : X.length ≤ 100000000) (hl : l.length ≤ 100000000) (hTlt : ∀ z ∈ D ++ X, z < 256) (hok : Bm.OkS (D ++ X) D.length l) (hr : StpR w A l) :
    Calls Try.prog 12 #[.string (strOf D), .string (strOf X), .slice A l.length c] w fun e w' => e = .returned (.bool true) ∧ Below w.heap.size w w' := by
  have hsD := strOf_size D
  have hadd := fun W => str_add D X (by omega) W
  have hTl : (D ++ X).length ≤ 1000000000 := by rw [List.length_append]; omega
  have hDT : D.length ≤ (D ++ X).length := by rw [List.length_append]; omega
  have hsT := strOf_size (D ++ X)
  have Hidx := Lib.hid (fun W k (h : k < (D ++ X).length) => index_at (D ++ X) k W h (hTlt _ (List.getElem_mem h)))
  have Hcut := Lib.hid (fun (a b m : Nat) (h1 : ((D ++ X).take (b + m)).drop b = ((D ++ X).take (a + m)).drop a) (j : Nat) (hj : j < m) => cut_get (T := D ++ X) h1 j hj)
  have Hr := Lib.hid hr
  have Hok := Lib.hid hok
  have Hhd := Lib.hid (fun (a k : Nat) (hk : k < l.length) (h : Bm.OkS (D ++ X) a (l.drop k)) => ok_head hk h)
  clear hr hok hTlt
  generalize D ++ X = T at *
  generalize strOf D = sD at *
  generalize strOf X = sX at *
  generalize strOf T = sT at *
  go_enter Try.func12, Try.ntmps12
  go_wp2
  go_loopw [8, 9] (fun av iv wr => ∃ a k : Nat, k ≤ l.length ∧ a ≤ T.length ∧ av = .int .i64 (a : Int) ∧ iv = .int .i64 (k : Int) ∧ Hid (Bm.OkS T a (l.drop k)) ∧ Hid (Below w.heap.size w wr)) (fun _ iv _ => l.length - (intOf iv).toNat)
  case atStart => exact ⟨D.length, 0, Nat.zero_le _, hDT, rfl, rfl, Hok, Lib.hid (Below.refl _ _)⟩
  case round =>
    obtain ⟨a, k, hk, ha, rfl, rfl, hok, hbel⟩ := hrel
    clear Hok
    by_cases hkl : k < l.length
    · obtain ⟨g, off, rfl, hg, hc⟩ := (Hr.out.below hbel.out) (by omega)
      obtain ⟨c0, c1, c2⟩ := hc k hkl
      obtain ⟨e1, e2, e3, e4, e5, e6⟩ := Hhd.out a k hkl hok.out
      have Hcu := Lib.hid (fun (j : Nat) (hj : j < l[k].2.1) => Hcut.out (a + l[k].1) (a + l[k].1 - l[k].2.2) l[k].2.1 e5 j hj)
      have Hok2 := Lib.hid e6
      clear hc e5 e6 hok Hhd Hcut
      have dd : decide ((k : Int) < (l.length : Int)) = true := decide_eq_true (by omega)
      generalize l[k].1 = n at *
      generalize l[k].2.1 = m at *
      generalize l[k].2.2 = o at *
      have d1 : decide ((n : Int) < 0) = false := decide_eq_false (by omega)
      have d2 : decide ((n : Int) > (T.length : Int)) = false := decide_eq_false (by omega)
      have d3 : decide ((T.length : Int) < (n : Int)) = false := decide_eq_false (by omega)
      have d4 : decide ((m : Int) < 3) = false := decide_eq_false (by omega)
      have d5 : decide ((m : Int) > (T.length : Int)) = false := decide_eq_false (by omega)
      have d6 : decide ((T.length : Int) < (m : Int)) = false := decide_eq_false (by omega)
      have d7 : decide ((o : Int) < 1) = false := decide_eq_false (by omega)
      have d8 : decide ((o : Int) > (T.length : Int)) = false := decide_eq_false (by omega)
      have d9 : decide ((T.length : Int) < (o : Int)) = false := decide_eq_false (by omega)
      have f1 : decide ((a : Int) + (n : Int) + (m : Int) > (T.length : Int)) = false := decide_eq_false (by omega)
      have f2 : decide ((T.length : Int) < (a : Int) + (n : Int) + (m : Int)) = false := decide_eq_false (by omega)
      have f3 : decide ((o : Int) > (a : Int) + (n : Int)) = false := decide_eq_false (by omega)
      have f4 : decide ((a : Int) + (n : Int) < (o : Int)) = false := decide_eq_false (by omega)
      go_wp2_with fail
      have hrow := (Row.new wr 37 [.int .i64 (n : Int), .int .i64 (m : Int), .int .i64 (o : Int)])
      have hbA := (Below.refl wr.heap.size wr).alloc (Nat.le_refl _) (.cells #[.int .i64 (n : Int), .int .i64 (m : Int), .int .i64 (o : Int)] 37)
      have HbA := Lib.hid (hbel.out.trans (hbA.mono hbel.out.size))
      obtain ⟨q, hq⟩ : ∃ q, q = wr.heap.size := ⟨_, rfl⟩
      rw [← hq] at hrow ⊢
      have Hrow := Lib.hid hrow
      clear hrow hbA hbel c0 c1 c2 hq hg
      generalize wr.alloc (.cells #[.int .i64 (n : Int), .int .i64 (m : Int), .int .i64 (o : Int)] 37) = wA at *
      go_loopw [8, 11] (fun av jv wr2 => ∃ j : Nat, j ≤ m ∧ av = .int .i64 ((a : Int) + (n : Int) + (j : Int)) ∧ jv = .int .i64 (j : Int) ∧ Hid (∃ z, wr2 = wA.drewN z)) (fun _ jv _ => m - (intOf jv).toNat)
      case atStart => exact ⟨0, Nat.zero_le _, by go_num, rfl, Lib.hid ⟨0, rfl⟩⟩
      case round =>
        obtain ⟨j, hj, rfl, rfl, hz⟩ := hrel
        obtain ⟨z, rfl⟩ := hz.out
        have k1 := Hrow.out.cell 1
        have k2 := Hrow.out.cell 2
        simp only [List.getElem?_cons_succ, List.getElem?_cons_zero] at k1 k2
        by_cases hjm : j < m
        · have dj : decide ((j : Int) < (m : Int)) = true := decide_eq_true (by omega)
          have hcu := Hcu.out j hjm
          rw [List.getElem?_eq_getElem (by omega), List.getElem?_eq_getElem (by omega)] at hcu
          injection hcu with hcu
          have x1 : ∀ W : World, (Instr.index 9 (.string sT) (.int .i64 ((a : Int) + (n : Int) + (j : Int)))).run Try.prog W = .ok (.int .u8 ((T[a + n + j]'(by omega) : Nat) : Int)) W := fun W => by
            have h := Hidx.out W (a + n + j) (by omega)
            rw [Int.natCast_add, Int.natCast_add] at h
            exact h
          have x2 : ∀ W : World, (Instr.index 9 (.string sT) (.int .i64 ((a : Int) + (n : Int) + (j : Int) - (o : Int)))).run Try.prog W = .ok (.int .u8 ((T[a + n - o + j]'(by omega) : Nat) : Int)) W := fun W => by
            have h := Hidx.out W (a + n - o + j) (by omega)
            rw [show ((a + n - o + j : Nat) : Int) = (a : Int) + (n : Int) + (j : Int) - (o : Int) by omega] at h
            exact h
          rw [← hcu] at x2
          clear hcu
          generalize T[a + n + j]'(by omega) = x at *
          have dx : ((x : Int) != (x : Int)) = false := by simp
          go_wp2_with fail
          go_quiet (fail)
          go_wp2
          go_roundw
          case rel => exact ⟨j + 1, by omega, by go_num, by go_num, Lib.hid ⟨_, rfl⟩⟩
          case measure => simp [intOf]; omega
        · obtain rfl : j = m := by omega
          have dj : decide ((j : Int) < (j : Int)) = false := decide_eq_false (by omega)
          have Hb2 := Lib.hid (below_drewN HbA.out z)
          go_wp2
          go_roundw
          case rel => exact ⟨a + n + j, k + 1, by omega, by omega, by go_num, by go_num, Hok2, Hb2⟩
          case measure => simp [intOf]; omega
    · obtain rfl : k = l.length := by omega
      have dd : decide ((l.length : Int) < (l.length : Int)) = false := decide_eq_false (by omega)
      go_wp2
      go_ret
      exact ⟨rfl, hbel.out⟩
end Go.Proofs.Ytjcehdibklndkaa
