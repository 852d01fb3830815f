/-
  The program's layer 12 (parse), by its walk: matches, Right of steps that make the text. Conditions: as each theorem's premises say.
-/
import Derived.Test.YtemniimodfobnaaPc
import Derived.Test.YtemniimodfobnaaEf
import Derived.RegionTactic
import Derived.BigQuiet
namespace Go.Proofs.Ytemniimodfobnaa
open Go.RowKit

theorem strOf_same (s : ByteArray) : (s.toList == s.toList) = true := by simp
set_option maxHeartbeats 1000000 in
set_option maxRecDepth 100000 in
theorem parmatch_any (T : List Nat) (a : Nat) (s : Bm.Stp) (w : World) (hT : T.length ≤ 1000000000) (h3 : 3 ≤ s.2.1) (h1 : 1 ≤ s.2.2) (h2 : s.2.2 ≤ a) (ham : a + s.2.1 ≤ T.length) (he : (T.take (a - s.2.2 + s.2.1)).drop (a - s.2.2) = (T.take (a + s.2.1)).drop a) :
    Calls Try.prog 14 #[.string (strOf T), .int .i64 (a : Int), .agg #[.int .i64 (s.1 : Int), .int .i64 (s.2.1 : Int), .int .i64 (s.2.2 : Int)]] w fun e w' => e = .returned (.bool true) ∧ Below w.heap.size w w' := by
  have hsz := strOf_size T
  obtain ⟨l, m, o⟩ := s
  simp only at h3 h1 h2 ham he ⊢
  have d1 : decide ((m : Int) < 3) = false := decide_eq_false (by omega)
  have d2 : decide ((m : Int) > (T.length : Int) - (a : Int)) = false := decide_eq_false (by omega)
  have d3 : decide ((T.length : Int) - (a : Int) < (m : Int)) = false := decide_eq_false (by omega)
  have d4 : decide ((o : Int) < 1) = false := decide_eq_false (by omega)
  have d5 : decide ((o : Int) > (a : Int)) = false := decide_eq_false (by omega)
  have d6 : decide ((a : Int) < (o : Int)) = false := decide_eq_false (by omega)
  have ce : (a : Int) - (o : Int) = ((a - o : Nat) : Int) := by omega
  have c1 : ∀ W : World, (Instr.slice 9 (.string (strOf T)) (some (.int .i64 ((a : Int) - (o : Int)))) (some (.int .i64 ((a : Int) - (o : Int) + (m : Int)))) none).run Try.prog W = .ok (.string (strOf ((T.take (a + m)).drop a))) W := fun W => by
    have h := str_mid T (a - o) (a - o + m) (by omega) (by omega) W
    rw [Int.natCast_add, ← ce, he] at h
    exact h
  have c2 : ∀ W : World, (Instr.slice 9 (.string (strOf T)) (some (.int .i64 (a : Int))) (some (.int .i64 ((a : Int) + (m : Int)))) none).run Try.prog W = .ok (.string (strOf ((T.take (a + m)).drop a))) W := fun W => by
    have h := str_mid T a (a + m) (by omega) (by omega) W
    rw [Int.natCast_add] at h
    exact h
  have hs := strOf_same (strOf ((T.take (a + m)).drop a))
  clear he ce
  generalize strOf ((T.take (a + m)).drop a) = sM at *
  generalize strOf T = sT at *
  go_enter Try.func14, Try.ntmps14
  go_wp2_with fail
  go_quiet (fail)
  go_wp2
  go_ret
  exact ⟨rfl, below_drewN ((Below.refl w.heap.size w).alloc (Nat.le_refl _) _) _⟩

/-- The steps from the k-th on make the text from there on. -/
theorem ok_head {T : List Nat} {a : Nat} {l : List Bm.Stp} {k : Nat} (hk : k < l.length) (h : Bm.OkS T a (l.drop k)) : 3 ≤ l[k].2.1 ∧ 1 ≤ l[k].2.2 ∧ l[k].2.2 ≤ a + l[k].1 ∧ a + l[k].1 + l[k].2.1 ≤ T.length ∧
    (T.take (a + l[k].1 - l[k].2.2 + l[k].2.1)).drop (a + l[k].1 - l[k].2.2) = (T.take (a + l[k].1 + l[k].2.1)).drop (a + l[k].1) ∧ Bm.OkS T (a + l[k].1 + l[k].2.1) (l.drop (k + 1)) := by
  rw [List.drop_eq_getElem_cons hk] at h
  exact h

set_option maxHeartbeats 2000000 in
set_option maxRecDepth 100000 in
theorem parright_any (D X : List Nat) (A : Option Addr) (c : Nat) (l : List Bm.Stp) (w : World) (hD : D.length ≤ 100000000) (hX : X.length ≤ 100000000) (hl : l.length ≤ 100000000) (hok : Bm.OkS (D ++ X) D.length l) (hr : StpR w A l) :
    Calls Try.prog 7 #[.string (strOf D), .string (strOf X), .slice A l.length c] w fun e w' => e = .returned (.bool true) ∧ Below w.heap.size w w' := by
  have hsD := strOf_size D
  have hadd := fun W => str_add D X (by omega) W
  have hTl : (D ++ X).length ≤ 1000000000 := by rw [List.length_append]; omega
  have hDT : D.length ≤ (D ++ X).length := by rw [List.length_append]; omega
  have hsT := strOf_size (D ++ X)
  have Hm := Lib.hid (fun a s w h3 h1 h2 ham he => parmatch_any (D ++ X) a s w hTl h3 h1 h2 ham he)
  have Hr := Lib.hid hr
  have Hok := Lib.hid hok
  have Hhd := Lib.hid (fun (a k : Nat) (hk : k < l.length) (h : Bm.OkS (D ++ X) a (l.drop k)) => ok_head hk h)
  clear hr hok
  generalize D ++ X = T at *
  generalize strOf D = sD at *
  generalize strOf X = sX at *
  generalize strOf T = sT at *
  go_enter Try.func7, Try.ntmps7
  go_wp2
  go_loopw [8, 18] (fun av iv wr => ∃ a k : Nat, k ≤ l.length ∧ a ≤ T.length ∧ av = .int .i64 (a : Int) ∧ iv = .int .i64 (k : Int) ∧ Hid (Bm.OkS T a (l.drop k)) ∧ Hid (Below w.heap.size w wr)) (fun _ iv _ => l.length - (intOf iv).toNat)
  case atStart => exact ⟨D.length, 0, Nat.zero_le _, hDT, rfl, rfl, Hok, Lib.hid (Below.refl _ _)⟩
  case round =>
    obtain ⟨a, k, hk, ha, rfl, rfl, hok, hbel⟩ := hrel
    clear Hok
    by_cases hkl : k < l.length
    · obtain ⟨g, off, rfl, hg, hc⟩ := (Hr.out.below hbel.out) (by omega)
      obtain ⟨c0, c1, c2⟩ := hc k hkl
      obtain ⟨e1, e2, e3, e4, e5, e6⟩ := Hhd.out a k hkl hok.out
      have Hm2 := Lib.hid (fun w => Hm.out (a + l[k].1) l[k] w e1 e2 e3 e4 e5)
      rw [Int.natCast_add] at Hm2
      have Hok2 := Lib.hid e6
      clear hc e5 e6 hok Hm Hhd
      have dd : decide ((k : Int) < (l.length : Int)) = true := decide_eq_true (by omega)
      generalize l[k].1 = n at *
      generalize l[k].2.1 = m at *
      generalize l[k].2.2 = o at *
      have d1 : decide ((n : Int) < 0) = false := decide_eq_false (by omega)
      have d2 : decide ((n : Int) > (T.length : Int) - (a : Int)) = false := decide_eq_false (by omega)
      have d3 : decide ((T.length : Int) - (a : Int) < (n : Int)) = false := decide_eq_false (by omega)
      go_wp2_with fail
      refine (Hm2.out _).mono ?_
      rintro e w2 ⟨rfl, hb2⟩
      have hrow := (Row.new wr 27 [.int .i64 (n : Int), .int .i64 (m : Int), .int .i64 (o : Int)])
      have hrow2 := hrow.keep (hb2.block _ hrow.lt)
      have k1 := hrow2.cell 1
      simp only [List.getElem?_cons_succ, List.getElem?_cons_zero] at k1
      have hbA := (Below.refl wr.heap.size wr).alloc (Nat.le_refl _) (.cells #[.int .i64 (n : Int), .int .i64 (m : Int), .int .i64 (o : Int)] 27)
      have Hb2 := Lib.hid ((hbel.out.trans (hbA.mono hbel.out.size)).trans (hb2.mono (Nat.le_trans hbel.out.size hbA.size)))
      clear hrow hrow2 hbA hb2 Hm2 hbel c0 c1 c2
      go_wp2
      go_roundw
      case rel => exact ⟨a + n + m, k + 1, by omega, by omega, by go_num, by go_num, Hok2, Hb2⟩
      case measure => simp [intOf]; omega
    · obtain rfl : k = l.length := by omega
      have dd : decide ((l.length : Int) < (l.length : Int)) = false := decide_eq_false (by omega)
      go_wp2
      go_ret
      exact ⟨rfl, hbel.out⟩
end Go.Proofs.Ytemniimodfobnaa
