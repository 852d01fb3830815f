/-
  The program's layer 19 (train): weigh, by its walk: what the weights are. Conditions: as each theorem's premises say.
-/
import Derived.Test.YtaebnkeddcbmkaaGt
import Derived.Test.YtaebnkeddcbmkaaQs
namespace Go.Proofs.Ytaebnkeddcbmkaa
open Go.RowKit Go.Maps Go.Proofs.Ytaebnkeddcbmkaa.Bm
namespace Bm
/-- The weights behind the records A, and the grams X of the next one. -/
def wgX (A X : List ByteArray) : ByteArray → Option Nat := fun g => if cntG A g + (if g ∈ X then 1 else 0) = 0 then none else some (cntG A g + (if g ∈ X then 1 else 0) - 1)
/-- The weights of records. -/
def wg0 (R : List ByteArray) : ByteArray → Option Nat := wgX R []
theorem val_wg0 (R : List ByteArray) (g : ByteArray) : val (wg0 R) g = wtG R g := by
  unfold val wg0 wgX wtG
  simp only [List.not_mem_nil, if_false, Nat.add_zero]
  split
  · rename_i h; rw [h]; rfl
  · rfl
theorem wgX_end (A : List ByteArray) (s : ByteArray) : wgX A (gms s) = wgX (A ++ [s]) [] := by
  funext g
  unfold wgX
  rw [cntG_snoc]
  simp only [List.not_mem_nil, if_false, Nat.add_zero]
/-- What is held of the last record that had a gram. -/
def LaOk (A X : List ByteArray) (i : Nat) (La : ByteArray → Option Nat) : Prop := ∀ g, (g ∈ X → La g = some i) ∧ (¬ g ∈ X → (cntG A g = 0 → La g = none) ∧ (0 < cntG A g → ∃ b, b < i ∧ La g = some b))
theorem la_end {A : List ByteArray} {s : ByteArray} {i : Nat} {La : ByteArray → Option Nat} (h : LaOk A (gms s) i La) : LaOk (A ++ [s]) [] (i + 1) La := fun g => by
  obtain ⟨h1, h2⟩ := h g
  refine ⟨fun hg => by simp at hg, fun _ => ⟨fun hc => ?_, fun hc => ?_⟩⟩
  · rw [cntG_snoc] at hc
    by_cases hg : g ∈ gms s
    · rw [if_pos hg] at hc; omega
    · exact (h2 hg).1 (by omega)
  · rw [cntG_snoc] at hc
    by_cases hg : g ∈ gms s
    · exact ⟨i, by omega, h1 hg⟩
    · rw [if_neg hg] at hc
      obtain ⟨b, hb, e⟩ := (h2 hg).2 (by omega)
      exact ⟨b, by omega, e⟩
theorem la_step {A X : List ByteArray} {i : Nat} {La : ByteArray → Option Nat} (h : LaOk A X i La) (g : ByteArray) : LaOk A (X ++ [g]) i (updM La g (some i)) := fun u => by
  obtain ⟨h1, h2⟩ := h u
  by_cases e : u = g
  · subst e
    rw [updM_same]
    exact ⟨fun _ => rfl, fun hn => absurd (by simp) hn⟩
  · rw [updM_other La _ e]
    refine ⟨fun hu => h1 (by simpa [e] using hu), fun hu => h2 (fun hx => hu (by simp [hx]))⟩
theorem wgX_old (A X : List ByteArray) (g : ByteArray) (h : g ∈ X) : wgX A (X ++ [g]) = wgX A X := by
  funext u
  unfold wgX
  have e : (u ∈ X ++ [g]) ↔ u ∈ X := by
    simp only [List.mem_append, List.mem_singleton]
    exact ⟨fun hx => hx.elim id (fun e => e ▸ h), Or.inl⟩
  by_cases hu : u ∈ X
  · rw [if_pos hu, if_pos (e.2 hu)]
  · rw [if_neg hu, if_neg (fun hx => hu (e.1 hx))]
theorem wgX_new (A X : List ByteArray) (g : ByteArray) (h : ¬ g ∈ X) : wgX A (X ++ [g]) = updM (wgX A X) g (some (cntG A g)) := by
  funext u
  by_cases e : u = g
  · subst e
    rw [updM_same]
    unfold wgX
    rw [if_pos (show u ∈ X ++ [u] by simp), if_neg (by omega)]
    rfl
  · rw [updM_other _ _ e]
    unfold wgX
    have e2 : (u ∈ X ++ [g]) ↔ u ∈ X := by simp [e]
    by_cases hu : u ∈ X
    · rw [if_pos hu, if_pos (e2.2 hu)]
    · rw [if_neg hu, if_neg (fun hx => hu (e2.1 hx))]
theorem wgX_val (A X : List ByteArray) (g : ByteArray) (h : ¬ g ∈ X) : (wgX A X g).getD 0 = cntG A g - 1 := by
  unfold wgX
  rw [if_neg h, Nat.add_zero]
  split
  · rename_i h1; rw [h1]; rfl
  · rfl
end Bm
set_option maxHeartbeats 1000000 in
set_option maxRecDepth 100000 in
theorem tweigh_any (A : Option Addr) (c : Nat) (R : List ByteArray) (w : World) (hR : R.length ≤ 64) (hs : ∀ s ∈ R, s.size ≤ 512) (hr : Reads w A (strC R)) :
    Calls Try.prog 16 #[.slice A R.length c] w fun e w' => e = .returned (.map (some w.heap.size)) ∧ MapP w' w.heap.size 100000 (wg0 R) ∧ Below w.heap.size w w' := by
  have hmm := @run_makeMap Try.prog
  have Hr := Lib.hid hr
  have Hs := Lib.hid hs
  clear hr hs
  have HL0 : Hid (LaOk (R.take 0) [] 0 (fun _ => none)) := Lib.hid (fun g => ⟨fun h => by simp at h, fun _ => ⟨fun _ => rfl, fun h => by simp [cntG] at h⟩⟩)
  have HF0 : Hid (wgX (R.take 0) [] = fun _ => none) := Lib.hid (by funext g; simp [wgX, cntG])
  go_enter Try.func16, Try.ntmps16
  go_wp2
  clear hmm
  go_loopw [15] (fun iv wr => ∃ (i : Nat) (La : ByteArray → Option Nat), iv = .int .i64 (i : Int) ∧ i ≤ R.length ∧ Hid (MapP wr w.heap.size (600 * i) (wgX (R.take i) [])) ∧ Hid (MapP wr (w.heap.size + 1) (600 * i) La) ∧ Hid (LaOk (R.take i) [] i La) ∧ Hid (Below w.heap.size w wr)) (fun iv _ => R.length - (intOf iv).toNat)
  case atStart =>
    refine ⟨0, fun _ => none, rfl, Nat.zero_le _, ?_, ?_, HL0, ?_⟩
    · rw [HF0.out]
      exact Lib.hid ((mapP_made w).below ((Below.refl _ _).alloc (Nat.le_refl _) _))
    · have h1 := mapP_made (w.alloc (.map #[] 0))
      rw [show (w.alloc (.map #[] 0)).heap.size = w.heap.size + 1 by simp] at h1
      exact Lib.hid h1
    · exact Lib.hid (((Below.refl _ _).alloc (Nat.le_refl _) _).alloc (by simp) _)
  case round =>
    obtain ⟨i, La, rfl, hi, Hw, Hl, HLa, Hb⟩ := hrel
    clear HL0 HF0
    by_cases hil : i < R.length
    · have hrd := reads_on Hr.out Hb.out
      obtain ⟨gA, oA, eA, hcA⟩ := reads_str hrd (by omega)
      subst eA
      have hcell := hcA i hil
      obtain ⟨s, hsd⟩ : ∃ s, s = R[i] := ⟨_, rfl⟩
      rw [← hsd] at hcell
      have hss : s.size ≤ 512 := by rw [hsd]; exact Hs.out _ (List.getElem_mem hil)
      have Hsd := Lib.hid hsd
      have Htk : Hid (R.take (i + 1) = R.take i ++ [s]) := Lib.hid (by rw [hsd]; exact List.take_succ_eq_append_getElem hil)
      clear hrd hcA hsd
      go_wp2
      clear hcell
      obtain ⟨N, hN⟩ : ∃ N, N = (gms s).length := ⟨_, rfl⟩
      have hNs : (s.size : Int) - 6 + 1 ≤ (N : Int) ∧ (N : Int) ≤ s.size ∧ (0 < N → (s.size : Int) - 6 + 1 = (N : Int)) := by rw [hN, gms_length]; omega
      obtain ⟨hN1, hN2, hN3⟩ := hNs
      have hN5 : N ≤ 512 := by omega
      have Hlen := Lib.hid hN
      clear hN
      rename World => wo
      go_loopw [24] (fun kv wr => ∃ (k : Nat) (La : ByteArray → Option Nat), kv = .int .i64 (k : Int) ∧ k ≤ N ∧ Hid (MapP wr w.heap.size (600 * i + k) (wgX (R.take i) ((gms s).take k))) ∧ Hid (MapP wr (w.heap.size + 1) (600 * i + k) La) ∧ Hid (LaOk (R.take i) ((gms s).take k) i La) ∧ Hid (Below w.heap.size w wr)) (fun kv _ => N - (intOf kv).toNat)
      case atStart => exact ⟨0, La, rfl, Nat.zero_le _, Hw, Hl, HLa, Hb⟩
      case round =>
        obtain ⟨k, La, rfl, hk, Hw, Hl, HLa, Hb⟩ := hrel
        by_cases hkN : k < N
        · have hlt : (k : Int) < (s.size : Int) - 6 + 1 := by rw [hN3 (by omega)]; omega
          have hkl : k < (gms s).length := by rw [← Hlen.out]; exact hkN
          have hk6 : k + 6 ≤ s.size := by rw [gms_length] at hkl; omega
          have hsz : (gr s k).size ≤ maxLen := by rw [gr_size s k hk6]; unfold maxLen; omega
          have hcut := gcut s k hk6
          obtain ⟨g, hg⟩ : ∃ g, g = gr s k := ⟨_, rfl⟩
          have Hts : Hid ((gms s).take (k + 1) = (gms s).take k ++ [g]) := Lib.hid (by rw [gms_take_succ s k hkl, hg])
          rw [← hg] at hcut hsz
          obtain ⟨X, hX⟩ : ∃ X, X = (gms s).take k := ⟨_, rfl⟩
          rw [← hX] at Hw HLa Hts
          obtain ⟨Ar, hAr⟩ : ∃ Ar, Ar = R.take i := ⟨_, rfl⟩
          rw [← hAr] at Hw HLa
          have HAr := Lib.hid hAr
          have HX := Lib.hid hX
          have hcl : cntG Ar g ≤ 64 := by
            have h1 := cntG_le Ar g
            have h2 : Ar.length ≤ R.length := by rw [hAr, List.length_take]; omega
            omega
          obtain ⟨cc, hcc⟩ : ∃ cc, cc = cntG Ar g := ⟨_, rfl⟩
          rw [← hcc] at hcl
          have hbn : w.heap.size + 1 ≠ w.heap.size := by omega
          have Hbn := Lib.hid hbn
          have hlo := HLa.out g
          have Hst : Hid (LaOk Ar (X ++ [g]) i (updM La g (some i))) := Lib.hid (la_step HLa.out g)
          clear hX hAr hkl hg hbn
          by_cases hgX : g ∈ X
          · have hv := hlo.1 hgX
            have Hv : Hid ((La g).getD 0 = i) := Lib.hid (by rw [hv]; rfl)
            have Hok : Hid ((La g).isSome = true) := Lib.hid (by rw [hv]; rfl)
            have Hold := Lib.hid (wgX_old Ar X g hgX)
            clear hlo hgX hv hcc
            go_wp2_with (first
              | (at_lookup; refine wpM_look_ok _ rfl _ _ 33 rfl Try.underlying33 (w.heap.size + 1) _ _ rfl Hl.out g i true Hv.out Hok.out rfl hsz ?_)
              | (at_mapUpdate; refine wpM_store _ rfl _ _ _ 33 rfl Try.underlying33 (w.heap.size + 1) _ _ rfl Hl.out (by omega) g _ i rfl rfl rfl (by omega) hsz ?_; intro w2 hm2 hg2; have Hm2 := Lib.hid hm2; have Hg2 := Lib.hid hg2; clear hm2 hg2)
              | go_in)
            go_roundw
            case rel => exact ⟨k + 1, _, by go_num, by omega, Lib.hid (by rw [Hts.out, ← HAr.out, Hold.out]; exact (Hw.out.kept Hg2.out (by intro e; injection e with e; exact Hbn.out e.symm)).mono (by omega)), Hm2, Lib.hid (by rw [Hts.out, ← HAr.out]; exact Hst.out), Lib.hid (Hb.out.trans (below_grown Hg2.out (by omega) (Hb.out.size)))⟩
            case measure => simp [intOf]; omega
          · by_cases hc0 : cc = 0
            · have hv := (hlo.2 hgX).1 (by rw [← hcc]; exact hc0)
              have Hv : Hid ((La g).getD 0 = 0) := Lib.hid (by rw [hv]; rfl)
              have Hok : Hid ((La g).isSome = false) := Lib.hid (by rw [hv]; rfl)
              have Hnew : Hid (wgX Ar (X ++ [g]) = updM (wgX Ar X) g (some 0)) := Lib.hid (by rw [wgX_new Ar X g hgX, ← hcc, hc0])
              clear hlo hgX hv hcc hc0
              go_wp2_with (first
                | (at_lookup; refine wpM_look_ok _ rfl _ _ 33 rfl Try.underlying33 (w.heap.size + 1) _ _ rfl Hl.out g 0 false Hv.out Hok.out rfl hsz ?_)
                | (at_mapUpdate; refine wpM_store _ rfl _ _ _ 34 rfl Try.underlying34 w.heap.size _ _ rfl Hw.out (by omega) g _ 0 rfl rfl rfl (by omega) hsz ?_; intro w2 hm2 hg2; have Hm2 := Lib.hid hm2; have Hg2 := Lib.hid hg2; have Hl2 := Lib.hid (Hl.out.kept hg2 (by intro e; injection e with e; exact Hbn.out e)); clear hm2 hg2)
                | (at_mapUpdate; refine wpM_store _ rfl _ _ _ 33 rfl Try.underlying33 (w.heap.size + 1) _ _ rfl Hl2.out (by omega) g _ i rfl rfl rfl (by omega) hsz ?_; intro w3 hm3 hg3; have Hm3 := Lib.hid hm3; have Hg3 := Lib.hid hg3; clear hm3 hg3)
                | go_in)
              go_roundw
              case rel => exact ⟨k + 1, _, by go_num, by omega, Lib.hid (by rw [Hts.out, ← HAr.out, Hnew.out]; exact (Hm2.out.kept Hg3.out (by intro e; injection e with e; exact Hbn.out e.symm))), Hm3, Lib.hid (by rw [Hts.out, ← HAr.out]; exact Hst.out), Lib.hid ((Hb.out.trans (below_grown Hg2.out (by omega) (Hb.out.size))).trans (below_grown Hg3.out (by omega) (Nat.le_trans Hb.out.size Hg2.out.size)))⟩
              case measure => simp [intOf]; omega
            · obtain ⟨b, hbi, hv⟩ := (hlo.2 hgX).2 (by rw [← hcc]; omega)
              have Hv : Hid ((La g).getD 0 = b) := Lib.hid (by rw [hv]; rfl)
              have Hok : Hid ((La g).isSome = true) := Lib.hid (by rw [hv]; rfl)
              have Hnew : Hid (wgX Ar (X ++ [g]) = updM (wgX Ar X) g (some cc)) := Lib.hid (by rw [wgX_new Ar X g hgX, ← hcc])
              obtain ⟨cd, hcd⟩ : ∃ cd, cc = cd + 1 := ⟨cc - 1, by omega⟩
              have Hw2 : Hid ((wgX Ar X g).getD 0 = cd) := Lib.hid (by rw [wgX_val Ar X g hgX, ← hcc, hcd]; rfl)
              have hcd1 : cd ≤ 64 := by omega
              have Hcc : Hid ((cd : Int) + 1 = ((cc : Nat) : Int)) := Lib.hid (by omega)
              clear hlo hgX hv hcc hc0 hcd
              go_wp2_with (first
                | (at_lookup; refine wpM_look_ok _ rfl _ _ 33 rfl Try.underlying33 (w.heap.size + 1) _ _ rfl Hl.out g b true Hv.out Hok.out rfl hsz ?_)
                | (at_lookup; refine wpM_look _ rfl _ _ 34 rfl Try.underlying34 w.heap.size _ _ rfl Hw.out g cd Hw2.out rfl hsz ?_)
                | (at_mapUpdate; refine wpM_store _ rfl _ _ _ 34 rfl Try.underlying34 w.heap.size _ _ rfl Hw.out (by omega) g _ cc rfl rfl Hcc.out (by omega) hsz ?_; intro w2 hm2 hg2; have Hm2 := Lib.hid hm2; have Hg2 := Lib.hid hg2; have Hl2 := Lib.hid (Hl.out.kept hg2 (by intro e; injection e with e; exact Hbn.out e)); clear hm2 hg2)
                | (at_mapUpdate; refine wpM_store _ rfl _ _ _ 33 rfl Try.underlying33 (w.heap.size + 1) _ _ rfl Hl2.out (by omega) g _ i rfl rfl rfl (by omega) hsz ?_; intro w3 hm3 hg3; have Hm3 := Lib.hid hm3; have Hg3 := Lib.hid hg3; clear hm3 hg3)
                | go_in)
              go_roundw
              case rel => exact ⟨k + 1, _, by go_num, by omega, Lib.hid (by rw [Hts.out, ← HAr.out, Hnew.out]; exact (Hm2.out.kept Hg3.out (by intro e; injection e with e; exact Hbn.out e.symm))), Hm3, Lib.hid (by rw [Hts.out, ← HAr.out]; exact Hst.out), Lib.hid ((Hb.out.trans (below_grown Hg2.out (by omega) (Hb.out.size))).trans (below_grown Hg3.out (by omega) (Nat.le_trans Hb.out.size Hg2.out.size)))⟩
              case measure => simp [intOf]; omega
        · have hge : ¬ (k : Int) < (s.size : Int) - 6 + 1 := by
            by_cases h0 : 0 < N
            · rw [hN3 h0]; omega
            · omega
          have hkN2 : k = N := by omega
          have Hfin : Hid ((gms s).take k = gms s) := Lib.hid (by rw [hkN2, Hlen.out, List.take_length])
          rw [Hfin.out] at Hw HLa
          have Hw2 : Hid (MapP wr w.heap.size (600 * (i + 1)) (wgX (R.take (i + 1)) [])) := Lib.hid (by rw [Htk.out, ← wgX_end]; exact Hw.out.mono (by omega))
          have HLa2 : Hid (LaOk (R.take (i + 1)) [] (i + 1) La) := Lib.hid (by rw [Htk.out]; exact la_end HLa.out)
          have Hl2 : Hid (MapP wr (w.heap.size + 1) (600 * (i + 1)) La) := Lib.hid (Hl.out.mono (by omega))
          clear hN3 hkN2 Hfin
          go_wp2
          go_roundw
          case rel => exact ⟨i + 1, La, by go_num, by omega, Hw2, Hl2, HLa2, Hb⟩
          case measure => simp [intOf]; omega
    · have hiR : i = R.length := by omega
      have Hfin : Hid (MapP wr w.heap.size 100000 (wg0 R)) := Lib.hid (by
        have h1 := Hw.out
        rw [hiR, List.take_length] at h1
        exact h1.mono (by omega))
      clear hiR
      go_wp2
      go_ret
      exact ⟨rfl, Hfin.out, Hb.out⟩
end Go.Proofs.Ytaebnkeddcbmkaa
