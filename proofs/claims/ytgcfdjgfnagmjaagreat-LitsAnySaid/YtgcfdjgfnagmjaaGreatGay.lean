/-
  The program's layer 15 (lits), by its walk: section, Raw. Conditions: as each theorem's premises say (up to ten million bytes).
-/
import Derived.Test.YtgcfdjgfnagmjaaGreatGah
import Derived.Test.YtgcfdjgfnagmjaaGreatGac
import Derived.Test.YtgcfdjgfnagmjaaGreatGaf
import Derived.Deep.DeepCutAuto
namespace Go.Proofs.YtgcfdjgfnagmjaaGreat
open Go.RowKit

theorem fix_one (k : Nat) (hk : k < 256) : ([] : List Nat) ++ Bm.bytesOf k (fx 1) = [k] := by
  rw [show fx 1 = 1 by decide, List.nil_append]
  simp [Bm.bytesOf]
  omega
set_option maxHeartbeats 1000000 in
set_option maxRecDepth 100000 in
theorem lsec_any (k : Nat) (s : List Nat) (w : World) (hk : k < 256) (hs : s.length ≤ 10000000) :
    Calls Tryz.prog 15 #[.int .u64 (k : Int), .string (strOf s)] w fun e w' => e = .returned (.pointer (some ⟨w.heap.size, 0, none⟩)) ∧ CW w' w.heap.size (k :: Bm.grp s.length) ∧ Below w.heap.size w w' := by
  have hsz := strOf_size s
  have Hnew := Lib.hid (CW.new w)
  have HbA := Lib.hid ((Below.refl w.heap.size w).alloc (Nat.le_refl _) (.cells #[.pointer none, .int .i64 0] 58))
  have hf := fun W b h => wfixed_any b k 1 [] W (by omega) (by omega) (by omega) (by simp) h
  rw [fix_one k hk] at hf
  have Hf := Lib.hid hf
  have Hg := Lib.hid (fun W b h => wgroup_any b s.length [k] W (by omega) (by simp) h)
  clear hf
  have hle : (s.length : Int) ≤ 10000000 := by omega
  generalize strOf s = str at *
  go_enter Tryz.func15, Tryz.ntmps15
  go_wp2_with fail
  refine (Hf.out _ _ Hnew.out).mono ?_
  rintro e w1 ⟨rfl, hc1, hg1⟩
  have Hb1 := Lib.hid (HbA.out.trans (below_grown hg1 (Nat.le_refl _) HbA.out.size))
  have Hg1 := Lib.hid (Hg.out w1 _ hc1)
  clear hc1 hg1 HbA Hf Hg
  go_wp2_with fail
  refine Hg1.out.mono ?_
  rintro e w2 ⟨rfl, hc2, hg2⟩
  go_wp2
  go_ret
  exact ⟨rfl, hc2, Hb1.out.trans (below_grown hg2 (Nat.le_refl _) Hb1.out.size)⟩
set_option maxHeartbeats 1000000 in
set_option maxRecDepth 100000 in
theorem lraw_any (s : List Nat) (w : World) (hs : s.length ≤ 10000000) (hlt : ∀ x ∈ s, x < 256) :
    Calls Tryz.prog 10 #[.string (strOf s)] w fun e w' => e = .returned (.string (strOf (Bm.rawL s))) ∧ Below w.heap.size w w' := by
  have H0 : Calls Tryz.prog 15 #[.int .u64 0, .string (strOf s)] w _ := lsec_any 0 s w (by decide) hs
  have Hs := Lib.hid H0
  have hten := Bm.grp_ten s.length (by omega)
  have Hr := Lib.hid (fun W b h => wraw_any b (0 :: Bm.grp s.length) s W (by rw [List.length_cons]; omega) h)
  have Ht := Lib.hid (fun W b h => wstr_any b ((0 :: Bm.grp s.length) ++ s) W (by rw [List.length_append, List.length_cons]; omega) (Bm.sec_lt 0 s.length s (by decide) (by omega) hlt) h)
  clear hlt hs hten H0
  have e0 : (0 :: Bm.grp s.length) ++ s = Bm.rawL s := rfl
  rw [e0] at Hr Ht
  generalize Bm.rawL s = R at *
  generalize strOf R = strR at *
  generalize strOf s = str at *
  go_enter Tryz.func10, Tryz.ntmps10
  go_wp2_with fail
  refine Hs.out.mono ?_
  rintro e w1 ⟨rfl, hc1, hb1⟩
  have Hb1 := Lib.hid hb1
  have Hr1 := Lib.hid (Hr.out w1 _ hc1)
  clear hc1 hb1 Hs Hr
  go_wp2_with fail
  refine Hr1.out.mono ?_
  rintro e w2 ⟨rfl, hc2, hg2⟩
  have Hb2 := Lib.hid (Hb1.out.trans (below_grown hg2 (Nat.le_refl _) Hb1.out.size))
  have Ht2 := Lib.hid (Ht.out w2 _ hc2)
  clear hc2 hg2 Hb1 Hr1 Ht
  go_wp2_with fail
  refine Ht2.out.mono ?_
  rintro e w3 ⟨rfl, hb3⟩
  have Hb3 := Lib.hid (Hb2.out.trans (hb3.mono Hb2.out.size))
  clear hb3 Hb2 Ht2
  go_wp2
  go_ret
  exact ⟨rfl, Hb3.out⟩
end Go.Proofs.YtgcfdjgfnagmjaaGreat
