/-
  The program's layer 19 (train): Train, Worth, by their walks: the dictionary, and what a text is worth. Conditions: as each theorem's premises say.
-/
import Derived.Test.YtaebnkeddcbmkaaGz
import Derived.Test.YtaebnkeddcbmkaaGj
namespace Go.Proofs.Ytaebnkeddcbmkaa
open Go.RowKit Go.Maps Go.Proofs.Ytaebnkeddcbmkaa.Bm
/-- The size that is asked for, brought to 0 up to 256. -/
def szN (sz : Int) : Nat := (min (max sz 0) 256).toNat
/-- The dictionary of records. -/
def trainD (R : List ByteArray) (sz : Int) : ByteArray := catR (chosen (brt R) (szN sz))
theorem trainD_size (R : List ByteArray) (sz : Int) : (trainD R sz).size ≤ szN sz := by
  unfold trainD
  rw [catR_size]
  exact chosen_size _ _
theorem szN_le (sz : Int) : szN sz ≤ 256 := by unfold szN; omega
theorem chosen_length (B : List ByteArray) (n : Nat) : (chosen B n).length ≤ n := by
  have h1 := chosen_size B n
  have h2 := chosen_good B n
  have key : ∀ l : List ByteArray, (∀ t ∈ l, 6 ≤ t.size) → l.length ≤ sizeT l := by
    intro l
    induction l with
    | nil => intro _; simp
    | cons x l ih =>
      intro h
      rw [sizeT_cons, List.length_cons]
      have := ih (fun t ht => h t (List.mem_cons_of_mem _ ht))
      have := h x List.mem_cons_self
      omega
  have h3 := key (chosen B n) (fun t ht => by
    obtain ⟨i, hi, rfl⟩ := List.mem_iff_getElem.1 ht
    exact (cnd_size B _ (h2 i hi).1).1)
  omega
set_option maxHeartbeats 1000000 in
set_option maxRecDepth 100000 in
theorem ttrain_any (A : Option Addr) (c : Nat) (R : List ByteArray) (sz : Int) (w : World) (hR : R.length ≤ 9223372036854775807) (hc : R.length ≤ c) (hs : ∀ s ∈ R, s.size ≤ 140737488351232) (hrd : Reads w A (strC R)) (hmax : MaxB w.heap.size w) :
    Calls Try.prog 11 #[.slice A R.length c, .int .i64 sz] w fun e w' => e = .returned (.string (trainD R sz)) ∧ Below w.heap.size w w' := by
  have Hpc := Lib.hid (tpieces_any A c R sz w hR hc hs hrd hmax)
  obtain ⟨d, hd⟩ : ∃ d, d = trainD R sz := ⟨_, rfl⟩
  obtain ⟨P, hP⟩ : ∃ P, P = chosen (brt R) (szN sz) := ⟨_, rfl⟩
  have hPl : P.length ≤ 256 := by rw [hP]; exact Nat.le_trans (chosen_length _ _) (szN_le sz)
  have hPs : sizeT P ≤ 256 := by rw [hP]; exact Nat.le_trans (chosen_size _ _) (szN_le sz)
  have hdP : d = catR P := by rw [hd, hP]; rfl
  rw [show (min (max sz 0) 256).toNat = szN sz from rfl, ← hP] at Hpc
  rw [← hd]
  have HdP := Lib.hid hdP
  have HPl := Lib.hid hPl
  have HPs := Lib.hid hPs
  clear hR hc hs hrd hmax hd hP hdP hPl hPs
  go_enter Try.func11, Try.ntmps11
  go_wp2_with fail
  refine Hpc.out.mono ?_
  rintro e w1 ⟨v, rfl, ho, hb1⟩
  have Hrv := Lib.hid (srevs_any w.heap.size v P w1 (Nat.le_trans HPl.out (by decide)) ho hb1.size)
  have Hb1 := Lib.hid hb1
  clear ho hb1 Hpc
  go_wp2_with fail
  refine Hrv.out.mono ?_
  rintro e w2 ⟨rfl, ⟨A2, c2, rfl, hc2, hr2⟩, hb2⟩
  have Hb2 := Lib.hid (Hb1.out.trans hb2)
  have Hjn : Hid (Calls Try.prog 22 #[.slice A2 P.length c2, .string ⟨#[]⟩] w2 fun e w' => e = .returned (.string d) ∧ Below w2.heap.size w2 w') := Lib.hid (by
    have h1 := sjoin_any A2 c2 P.reverse w2 (by rw [List.length_reverse]; exact Nat.le_trans HPl.out (by decide)) (by rw [List.length_reverse]; exact hc2) (by
      have : sizeT P.reverse = sizeT P := by
        unfold sizeT
        rw [List.map_reverse, List.sum_reverse]
      rw [this]
      exact Nat.le_trans HPs.out (by decide)) hr2
    rw [List.reverse_reverse, List.length_reverse, ← HdP.out] at h1
    exact h1)
  clear hc2 hr2 hb2 Hrv Hb1
  go_wp2_with fail
  refine Hjn.out.mono ?_
  rintro e w3 ⟨rfl, hb3⟩
  have Hb3 := Lib.hid (Hb2.out.trans (hb3.mono Hb2.out.size))
  clear hb3 Hjn
  go_wp2
  go_ret
  exact ⟨rfl, Hb3.out⟩
set_option maxHeartbeats 1000000 in
set_option maxRecDepth 100000 in
theorem tworth_any (A : Option Addr) (c : Nat) (R : List ByteArray) (s : ByteArray) (w : World) (hs1 : s.size ≤ 100000) (hR : R.length ≤ 9223372036854775807) (hc : R.length ≤ c) (hs : ∀ s ∈ R, s.size ≤ 140737488351232) (hrd : Reads w A (strC R)) :
    Calls Try.prog 12 #[.slice A R.length c, .string s] w fun e w' => e = .returned (.int .i64 ((worthL (brt R) [] s : Nat) : Int)) ∧ Below w.heap.size w w' := by
  obtain ⟨B, hB⟩ : ∃ B, B = brt R := ⟨_, rfl⟩
  have hBl : B.length ≤ 64 := by rw [hB, brt_length]; omega
  have hBs : ∀ s ∈ B, s.size ≤ 512 := fun s h => brt_size R s (by rw [← hB]; exact h)
  have Hcnt := Lib.hid (tcounted_any A c R w hR hc hs hrd)
  rw [← hB] at Hcnt ⊢
  have HBs := Lib.hid hBs
  have HBl := Lib.hid hBl
  have HF : Hid (∀ g, val (wg0 B) g ≤ 1000) := Lib.hid (fun g => by
    rw [← wT_nil, val_wT]
    have := fvl_le B [] g
    omega)
  obtain ⟨v, hv⟩ : ∃ v, v = worthL B [] s := ⟨_, rfl⟩
  have hv2 : gsum (val (wg0 B)) [] (gms s) = v := by rw [hv, ← wor_wT, wT_nil]; rfl
  rw [← hv]
  have Hv2 := Lib.hid hv2
  clear hR hc hs hrd hB hBs hBl hv hv2
  go_enter Try.func12, Try.ntmps12
  go_wp2_with fail
  refine Hcnt.out.mono ?_
  rintro e w1 ⟨u, rfl, hu, hb1⟩
  obtain ⟨A1, c1, rfl, hc1, hc12, hr1⟩ := hu.reads
  have Hwg := Lib.hid (tweigh_any A1 c1 B w1 HBl.out HBs.out hr1)
  have Hb1 := Lib.hid hb1
  clear hu hb1 hr1 Hcnt
  go_wp2_with fail
  refine Hwg.out.mono ?_
  rintro e w2 ⟨rfl, hm2, hb2⟩
  have Hb2 : Hid (Below w.heap.size w w2) := Lib.hid (Hb1.out.trans (hb2.mono Hb1.out.size))
  have Htk := Lib.hid (ttake_any w1.heap.size 100000 (wg0 B) s w2 hs1 HF.out hm2)
  rw [Hv2.out] at Htk
  clear hm2 hb2 Hwg
  go_wp2_with fail
  refine Htk.out.mono ?_
  rintro e w3 ⟨rfl, _, hg3⟩
  have Hb3 : Hid (Below w.heap.size w w3) := Lib.hid (Hb2.out.trans (below_grown hg3 Hb1.out.size Hb2.out.size))
  clear hg3 Htk
  go_wp2
  go_ret
  exact ⟨rfl, Hb3.out⟩
end Go.Proofs.Ytaebnkeddcbmkaa
