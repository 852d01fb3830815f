/-
  The program's layer 12 (parse), by its walk: Literals of steps that end within the text. Conditions: as the theorem's premises say.
-/
import Derived.Test.YtjcehdibklndkaaPb
import Derived.Test.YtjcehdibklndkaaPc
import Derived.RegionTactic
import Derived.BigQuiet
namespace Go.Proofs.Ytjcehdibklndkaa
open Go.RowKit

theorem lit_head {T : List Nat} {l : List Bm.Stp} {k : Nat} (hk : k < l.length) (h : Bm.endS 0 (l.drop k) ≤ T.length) : l[k].1 + l[k].2.1 ≤ T.length ∧ Bm.endS 0 (l.drop (k + 1)) ≤ ((T.drop l[k].1).drop l[k].2.1).length ∧
    Bm.litS T 0 (l.drop k) = T.take l[k].1 ++ Bm.litS ((T.drop l[k].1).drop l[k].2.1) 0 (l.drop (k + 1)) := by
  rw [List.drop_eq_getElem_cons hk, Bm.endS] at h
  have h1 := Bm.endS_ge (l.drop (k + 1)) (0 + l[k].1 + l[k].2.1)
  have h2 := Bm.endS_add (l.drop (k + 1)) (l[k].1 + l[k].2.1) 0
  rw [Nat.add_zero] at h2
  rw [Nat.zero_add] at h h1
  refine ⟨by omega, by rw [List.length_drop, List.length_drop]; omega, ?_⟩
  have h3 := Bm.litS_cut T (l.drop (k + 1)) 0 (l[k].1 + l[k].2.1)
  rw [Nat.add_zero] at h3
  rw [List.drop_eq_getElem_cons hk, Bm.litS, Nat.zero_add, List.drop_zero, List.drop_drop, h3]
set_option maxHeartbeats 2000000 in
set_option maxRecDepth 100000 in
theorem parlits_any (X : List Nat) (A : Option Addr) (c : Nat) (l : List Bm.Stp) (w : World) (hX : X.length ≤ 100000000) (hl : l.length ≤ 100000000) (hlt : ∀ z ∈ X, z < 256) (hend : Bm.endS 0 l ≤ X.length) (hr : StpR w A l) :
    Calls Try.prog 11 #[.string (strOf X), .slice A l.length c] w fun e w' => e = .returned (.string (strOf (Bm.litS X 0 l))) ∧ Below w.heap.size w w' := by
  have Hr := Lib.hid hr
  obtain ⟨b, hb⟩ : ∃ b, b = w.heap.size := ⟨_, rfl⟩
  obtain ⟨R, hR⟩ : ∃ R, R = Bm.litS X 0 l := ⟨_, rfl⟩
  rw [← hR]
  have HRl := Lib.hid (show ∀ z ∈ R, z < 256 from by rw [hR]; exact Bm.litS_lt hlt l 0)
  have HR := Lib.hid hR
  have Hlt := Lib.hid hlt
  have Hb := Lib.hid hb
  have Hhd := Lib.hid (fun (T : List Nat) (k : Nat) (hk : k < l.length) (h : Bm.endS 0 (l.drop k) ≤ T.length) => lit_head hk h)
  have Hw := Lib.hid (fun n T w h => parwithin_any n T w h)
  have Hend := Lib.hid hend
  clear hr hR hlt hb hend
  go_enter Try.func11, Try.ntmps11
  go_wp2
  rw [← Hb.out]
  have hb0 := (Below.refl w.heap.size w).alloc (Nat.le_refl _) (.cells #[.pointer none, .slice none 0 0] 49)
  have hbd0 : BD (w.alloc (.cells #[.pointer none, .slice none 0 0] 49)) w.heap.size b [] := by rw [Hb.out]; exact BD.new w _ (Nat.le_refl _)
  have Hb0 := Lib.hid hb0
  have Hbd0 := Lib.hid hbd0
  clear hb0 hbd0
  generalize w.alloc (.cells #[.pointer none, .slice none 0 0] 49) = w0 at *
  go_loopw [0, 11] (fun tv iv wr => ∃ (T acc : List Nat) (k : Nat), k ≤ l.length ∧ tv = .string (strOf T) ∧ iv = .int .i64 (k : Int) ∧ T.length ≤ 100000000 ∧ acc.length + T.length ≤ 100000000 ∧ Hid (∀ z ∈ T, z < 256) ∧ Hid (Bm.endS 0 (l.drop k) ≤ T.length) ∧ Hid (R = acc ++ Bm.litS T 0 (l.drop k)) ∧ Hid (BD wr w.heap.size b acc) ∧ Hid (Below w.heap.size w wr)) (fun _ iv _ => l.length - (intOf iv).toNat)
  case atStart => exact ⟨X, [], 0, Nat.zero_le _, rfl, rfl, hX, by simp; omega, Hlt, Hend, Lib.hid (by rw [HR.out]; rfl), Hbd0, Hb0⟩
  case round =>
    obtain ⟨T, acc, k, hk, rfl, rfl, hT, hacc, htl, hen, hq, hbd, hbel⟩ := hrel
    clear HR Hlt Hend Hb0 Hbd0
    have hws := hbel.out.size
    by_cases hkl : k < l.length
    · obtain ⟨g, off, rfl, hg, hc⟩ := (Hr.out.below hbel.out) (by omega)
      obtain ⟨c0, c1, c2⟩ := hc k hkl
      obtain ⟨e1, e2, e3⟩ := Hhd.out T k hkl hen.out
      have Hq2 := hq.out
      rw [e3, ← List.append_assoc] at Hq2
      have HQ := Lib.hid Hq2
      have HE := Lib.hid e2
      have Hpc := Lib.hid hc
      clear hc e3 Hq2 hq hen Hhd e2
      have dd : decide ((k : Int) < (l.length : Int)) = true := decide_eq_true (by omega)
      generalize l[k].1 = n at *
      generalize l[k].2.1 = m at *
      generalize l[k].2.2 = o at *
      have s1 := fun W => str_to T n (by omega) W
      have s2 := fun W => str_from T n (by omega) W
      have s3 := fun W => str_from (T.drop n) m (by rw [List.length_drop]; omega) W
      have W1 := Lib.hid (fun W => Hw.out n T W (by omega))
      have W2 := Lib.hid (fun W => Hw.out m (T.drop n) W (by rw [List.length_drop]; omega))
      have htk := List.length_take_le n T
      have htl1 := Lib.hid (take_lt htl.out n)
      have htl2 := Lib.hid (show ∀ z ∈ (T.drop n).drop m, z < 256 from drop_lt (drop_lt htl.out n) m)
      have hl1 : (T.take n).length = n := by rw [List.length_take]; omega
      have hl2 : ((T.drop n).drop m).length = T.length - n - m := by rw [List.length_drop, List.length_drop]
      have Hbd := Lib.hid (hbd.out.below ((Below.refl wr.heap.size wr).alloc (Nat.le_refl _) (.cells #[.int .i64 (n : Int), .int .i64 (m : Int), .int .i64 (o : Int)] 37)))
      have HrowA := Lib.hid (Row.new wr 37 [.int .i64 (n : Int), .int .i64 (m : Int), .int .i64 (o : Int)])
      have HbA := Lib.hid (hbel.out.trans (((Below.refl wr.heap.size wr).alloc (Nat.le_refl _) (.cells #[.int .i64 (n : Int), .int .i64 (m : Int), .int .i64 (o : Int)] 37)).mono hws))
      have hqb : wr.heap.size ≠ b := by have := hbd.out.lt.2; omega
      have Hwr := Lib.hid (bwrite_any w.heap.size b acc (T.take n) _ (by omega) htl1.out HbA.out.size Hbd.out)
      clear hbd hbel htl hg
      generalize T.take n = T1 at *
      generalize (T.drop n).drop m = T3 at *
      generalize T.drop n = T2 at *
      go_wp2_with fail
      refine (W1.out _).mono ?_
      rintro e w1 ⟨rfl, rfl⟩
      go_wp2_with fail
      refine Hwr.out.mono ?_
      rintro e w2 ⟨rfl, hbd2, hb2, hk2⟩
      have hrow2 := row_others HrowA.out (by decide) hqb hk2
      have k1 := hrow2.cell 1
      simp only [List.getElem?_cons_succ, List.getElem?_cons_zero] at k1
      have Hbd2 := Lib.hid hbd2
      have Hb2 := Lib.hid (HbA.out.trans hb2)
      clear hrow2 hbd2 hb2 hk2 HrowA HbA Hbd Hwr W1 s1 c0 c1 c2
      go_wp2_with fail
      refine (W2.out _).mono ?_
      rintro e w3 ⟨rfl, rfl⟩
      go_wp2
      go_roundw
      case rel => exact ⟨T3, acc ++ T1, k + 1, by omega, rfl, by go_num, by omega, by rw [List.length_append]; omega, htl2, HE, HQ, Hbd2, Hb2⟩
      case measure => simp [intOf]; omega
    · obtain rfl : k = l.length := by omega
      have dd : decide ((l.length : Int) < (l.length : Int)) = false := decide_eq_false (by omega)
      have e : acc ++ T = R := by rw [hq.out, List.drop_length]; rfl
      have Hwr := Lib.hid (bwrite_any w.heap.size b acc T wr (by omega) htl.out hws hbd.out)
      rw [e] at Hwr
      have Hst := Lib.hid (fun w' h1 h => bstring_any w.heap.size b R w' HRl.out h1 h)
      clear hq htl hen hbd e
      go_wp2_with fail
      refine Hwr.out.mono ?_
      rintro e w2 ⟨rfl, hbd2, hb2, _⟩
      have Hb2 := Lib.hid (hbel.out.trans hb2)
      have Hs2 := Lib.hid (Hst.out w2 Hb2.out.size hbd2)
      clear hbd2 hb2 Hst Hwr hbel
      go_wp2_with fail
      refine Hs2.out.mono ?_
      rintro e w3 ⟨rfl, hb3⟩
      have Hb3 := Lib.hid (Hb2.out.trans hb3)
      clear hb3 Hb2 Hs2
      go_wp2
      go_ret
      exact ⟨rfl, Hb3.out⟩
end Go.Proofs.Ytjcehdibklndkaa
