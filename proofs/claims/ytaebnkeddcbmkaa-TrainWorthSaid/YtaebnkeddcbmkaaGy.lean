/-
  The program's layer 19 (train): worthy: the heap of all pieces that are worth more than nothing, by its walk. Conditions: as the theorem's premises say.
-/
import Derived.Test.YtaebnkeddcbmkaaGv
import Derived.Test.YtaebnkeddcbmkaaGx
namespace Go.Proofs.Ytaebnkeddcbmkaa
open Go.RowKit Go.Maps Go.Proofs.Ytaebnkeddcbmkaa.Bm
theorem pilq_start (w : World) : PilQ ((w.alloc (.cells #[] 39)).alloc (.cells #[.slice (some ⟨w.heap.size, 0, none⟩) 0 0] 49)) w.heap.size (w.heap.size + 1) w.heap.size 0 [] := by
  have h1 := Row.new (w.alloc (.cells #[] 39)) 49 [.slice (some ⟨w.heap.size, 0, none⟩) 0 0]
  rw [show (w.alloc (.cells #[] 39)).heap.size = w.heap.size + 1 by simp] at h1
  exact ⟨by omega, Nat.le_refl _, Nat.le_refl _, Nat.zero_le _, h1, [], rfl, (Row.new w 39 []).alloc _⟩
theorem cnd_snoc (A : List ByteArray) (s : ByteArray) : cnd (A ++ [s]) = cnd A ++ pcs s := by simp [cnd]
set_option maxHeartbeats 1000000 in
set_option maxRecDepth 100000 in
theorem tworthy_any (A : Option Addr) (c bw n : Nat) (F : ByteArray → Option Nat) (R : List ByteArray) (w : World) (hR : R.length ≤ 64) (hs : ∀ s ∈ R, s.size ≤ 512) (hr : Reads w A (strC R)) (hF : ∀ g, val F g ≤ 1000) (hmap : MapP w bw n F) (hmax : MaxB w.heap.size w) :
    Calls Try.prog 17 #[.slice A R.length c, .map (some bw)] w fun e w' => e = .returned (.pointer (some ⟨w.heap.size + 1, 0, none⟩)) ∧ (∃ (L : List Pce) (g cap : Nat), Bm.HeapQ L L.length ∧ PilQ w' w.heap.size (w.heap.size + 1) g cap L ∧ HInv (cnd R) (wor F) L ∧ L.length ≤ 100000) ∧ Below w.heap.size w w' := by
  obtain ⟨i0, hi, hz0, hz1, hz2⟩ := info_parts info_piece
  have Hr := Lib.hid hr
  have Hs := Lib.hid hs
  have HF := Lib.hid hF
  have Hmap := Lib.hid hmap
  have Hmax := Lib.hid hmax
  have HI0 : Hid (HInv (cnd (R.take 0)) (wor F) []) := Lib.hid (hinv_start _)
  have Hp0 := Lib.hid (pilq_start w)
  have Hb0 : Hid (Below w.heap.size w ((w.alloc (.cells #[] 39)).alloc (.cells #[.slice (some ⟨w.heap.size, 0, none⟩) 0 0] 49))) := Lib.hid (((Below.refl _ _).alloc (Nat.le_refl _) _).alloc (by simp) _)
  have Hcl : Hid (∀ i, i ≤ R.length → (cnd (R.take i)).length ≤ 32768) := Lib.hid (fun i hi => by
    have h1 := cnd_length 512 (R.take i) (fun x hx => hs x (List.mem_of_mem_take hx))
    rw [List.length_take] at h1
    have h2 : min i R.length * 512 ≤ 64 * 512 := Nat.mul_le_mul_right _ (by omega)
    omega)
  clear hr hs hF hmap hmax
  go_enter Try.func17, Try.ntmps17
  go_wp2
  go_loopw [6, 17] (fun ov iv wr => ∃ (i : Nat) (L : List Pce) (g cap : Nat), iv = .int .i64 (i : Int) ∧ i ≤ R.length ∧ ov = .int .i64 (((cnd (R.take i)).length : Nat) : Int) ∧ Hid (L.length ≤ (cnd (R.take i)).length) ∧ Hid (HInv (cnd (R.take i)) (wor F) L) ∧ Hid (PilQ wr w.heap.size (w.heap.size + 1) g cap L) ∧ Hid (Below w.heap.size w wr)) (fun _ iv _ => R.length - (intOf iv).toNat)
  case atStart => exact ⟨0, [], w.heap.size, 0, rfl, Nat.zero_le _, rfl, Lib.hid (Nat.zero_le _), HI0, Hp0, Hb0⟩
  case round =>
    obtain ⟨i, L, g, cap, rfl, hiR, rfl, HLl, HI, Hp, Hb⟩ := hrel
    clear HI0 Hp0 Hb0
    by_cases hil : i < R.length
    · have hrd := reads_on Hr.out Hb.out
      obtain ⟨gA, oA, eA, hcA⟩ := reads_str hrd (by omega)
      subst eA
      have hcell := hcA i hil
      obtain ⟨s, hsd⟩ : ∃ s, s = R[i] := ⟨_, rfl⟩
      rw [← hsd] at hcell
      have hss : s.size ≤ 512 := by rw [hsd]; exact Hs.out _ (List.getElem_mem hil)
      have Htk : Hid (cnd (R.take (i + 1)) = cnd (R.take i) ++ pcs s) := Lib.hid (by rw [List.take_succ_eq_append_getElem hil, ← hsd, cnd_snoc])
      have hz := psz_in s
      obtain ⟨z, hzs⟩ : ∃ z, z = psz s := ⟨_, rfl⟩
      have hmm : min (max (s.size : Int) 6) 16 = (z : Int) := by rw [hzs]; unfold psz; omega
      rw [← hzs] at hz
      obtain ⟨N, hN⟩ : ∃ N, N = (pcs s).length := ⟨_, rfl⟩
      have hNs : (s.size : Int) - (z : Int) + 1 ≤ (N : Int) ∧ (N : Int) ≤ s.size ∧ (0 < N → (s.size : Int) - (z : Int) + 1 = (N : Int)) := by
        rw [hN, pcs_length, ← hzs]
        omega
      obtain ⟨hN1, hN2, hN3⟩ := hNs
      obtain ⟨D, hD⟩ : ∃ D, D = cnd (R.take i) := ⟨_, rfl⟩
      rw [← hD] at HLl HI Htk ⊢
      have hDl : D.length + N ≤ 32768 := by
        have h1 := Hcl.out (i + 1) (by omega)
        rw [Htk.out, List.length_append] at h1
        omega
      have Hlen := Lib.hid hN
      have Hzs := Lib.hid hzs
      have HD := Lib.hid hD
      have Hi0 : Hid (D ++ (pcs s).take 0 = D) := Lib.hid (by simp)
      clear hrd hcA hsd hN hzs hD
      go_wp2
      clear hcell hmm
      rename World => wo
      go_loopw [6, 30] (fun ov kv wr => ∃ (k : Nat) (L : List Pce) (g cap : Nat), kv = .int .i64 (k : Int) ∧ k ≤ N ∧ ov = .int .i64 ((D.length + k : Nat) : Int) ∧ Hid (L.length ≤ D.length + k) ∧ Hid (HInv (D ++ (pcs s).take k) (wor F) L) ∧ Hid (PilQ wr w.heap.size (w.heap.size + 1) g cap L) ∧ Hid (Below w.heap.size w wr)) (fun _ kv _ => N - (intOf kv).toNat)
      case atStart => exact ⟨0, L, g, cap, rfl, Nat.zero_le _, rfl, HLl, by rw [Hi0.out]; exact HI, Hp, Hb⟩
      case round =>
        obtain ⟨k, L, g, cap, rfl, hk, rfl, HLl, HI, Hp, Hb⟩ := hrel
        by_cases hkN : k < N
        · have hlt : (k : Int) < (s.size : Int) - (z : Int) + 1 := by rw [hN3 (by omega)]; omega
          have hkz : k + z ≤ s.size := by omega
          have hkl : k < (pcs s).length := by rw [← Hlen.out]; exact hkN
          obtain ⟨t, ht⟩ : ∃ t, t = s.extract k (k + z) := ⟨_, rfl⟩
          have hcut : ∀ W, (Instr.slice 9 (.string s) (some (.int .i64 (k : Int))) (some (.int .i64 ((k : Int) + (z : Int)))) none).run Try.prog W = .ok (.string t) W := fun W => by
            have h1 := scut_any s k (k + z) (by omega) hkz W
            rw [show ((k + z : Nat) : Int) = (k : Int) + (z : Int) by omega, ← ht] at h1
            exact h1
          have hts : t.size ≤ 16 := by rw [ht, ByteArray.size_extract]; omega
          have Hts : Hid ((pcs s).take (k + 1) = (pcs s).take k ++ [t]) := Lib.hid (by rw [List.take_succ_eq_append_getElem hkl, pcs_get, ht, Hzs.out])
          have Hdl : Hid ((D ++ (pcs s).take k).length = D.length + k) := Lib.hid (by rw [List.length_append, List.length_take]; omega)
          obtain ⟨v, hv⟩ : ∃ v, v = wor F t := ⟨_, rfl⟩
          have hvb : v ≤ 100000 := by
            have h1 := wsum_le (val F) 1000 (gms t) [] (fun g _ => HF.out g)
            rw [gms_length] at h1
            have h2 : v = gsum (val F) [] (gms t) := hv
            omega
          have Hwor : Hid (Calls Try.prog 27 #[.map (some bw), .string t] wr fun e w' => e = .returned (.int .i64 (v : Int)) ∧ w' = wr) := Lib.hid (by
            rw [hv]
            exact twworth_any w.heap.size bw n F t wr (by omega) HF.out (Hmap.out.below Hb.out) (Hmax.out.below Hb.out))
          have Hv := Lib.hid hv
          obtain ⟨o, ho⟩ : ∃ o, o = D.length + k := ⟨_, rfl⟩
          have hob : o ≤ 32768 := by omega
          have Ho1 : Hid ((o : Int) + 1 = ((D.length + (k + 1) : Nat) : Int)) := Lib.hid (by omega)
          rw [← ho] at HLl Hdl ⊢
          have hLo := HLl.out
          clear ht hkl hv ho
          by_cases hv0 : v = 0
          · have hv1 : decide ((0 : Int) < (v : Int)) = false := decide_eq_false (by omega)
            have HI2 : Hid (HInv (D ++ (pcs s).take (k + 1)) (wor F) L) := Lib.hid (by
              rw [Hts.out, ← List.append_assoc]
              exact hinv_same HI.out t (by rw [← Hv.out]; exact hv0))
            have HL2 : Hid (L.length ≤ D.length + (k + 1)) := Lib.hid (by have := Ho1.out; omega)
            clear Hv
            subst hv0
            go_wp2_with fail
            refine Hwor.out.mono ?_
            rintro e w2 ⟨rfl, rfl⟩
            clear Hwor
            go_wp2
            go_roundw
            case rel => exact ⟨k + 1, L, g, cap, by go_num, by omega, by rw [← Ho1.out], HL2, HI2, Hp, Hb⟩
            case measure => simp [intOf]; omega
          · have hv1 : decide ((0 : Int) < (v : Int)) = true := decide_eq_true (by omega)
            have HI2 : Hid (HInv (D ++ (pcs s).take (k + 1)) (wor F) (L ++ [(t, v, o)])) := Lib.hid (by
              have h1 := hinv_snoc HI.out t (by rw [← Hv.out]; omega)
              rw [← Hv.out, Hdl.out] at h1
              rw [Hts.out, ← List.append_assoc]
              exact h1)
            have HL2 : Hid ((L ++ [(t, v, o)]).length ≤ D.length + (k + 1)) := Lib.hid (by have := Ho1.out; rw [List.length_append, List.length_singleton]; omega)
            have c0 := Hp.out.cell
            obtain ⟨w1, hw1⟩ : ∃ w1, w1 = wr.alloc (.cells #[.string t, .int .i64 (v : Int), .int .i64 (o : Int)] 39) := ⟨_, rfl⟩
            have hbl : Below wr.heap.size wr w1 := by rw [hw1]; exact (Below.refl _ _).alloc (Nat.le_refl _) _
            have hp1 := Hp.out.below hbl
            have hcp : ∀ W, w1.grownBy W (some g) → W.cell? ⟨w.heap.size + 1, 0, none⟩ = some (.slice (some ⟨g, 0, none⟩) L.length cap) ∧ W.frozen? ⟨w.heap.size + 1, 0, none⟩ = false := fun W hW => by
              rw [hW.cell_far _ (by exact hp1.var.lt) (fun e => hp1.ne (by injection e)), hp1.cell, hW.frozen_far _ (by exact hp1.var.lt) (fun e => hp1.ne (by injection e)), hp1.var.free]
              exact ⟨rfl, rfl⟩
            have Hcp := Lib.hid hcp
            have Hbl := Lib.hid hbl
            have Hp1 := Lib.hid hp1
            have Hw1 := Lib.hid hw1
            have Hbs : Hid (w.heap.size ≤ wr.heap.size) := Lib.hid Hb.out.size
            have Hown : Hid (wr.ownsRow w.heap.size 39 3 (.slice (some ⟨g, 0, none⟩) L.length cap) L.length (p3 L)) := Lib.hid Hp.out.own
            clear hw1 hbl hp1 hcp Hv
            go_wp2_with fail
            refine Hwor.out.mono ?_
            rintro e w2 ⟨rfl, rfl⟩
            clear Hwor
            go_wp2_with (at_builtin; refine wpList_append_lies _ rfl _ _ 49 rfl w.heap.size 39 i0 (.agg #[.string ⟨#[]⟩, .int .i64 0, .int .i64 0]) 3 32 Try.underlying49 hi hz0 hz1 hz2 rfl (by decide) _ _ _ rfl (Hown.out.alloc _) ⟨w2.heap.size, 0, none⟩ 1 1 [.string t, .int .i64 (v : Int), .int .i64 (o : Int)] rfl rfl ?d1 ?d2 (by decide) ?d3 ?d4 ?d5 _ rfl ?_)
            case d1 =>
              intro j u hj
              match j, hj with
              | 0, hj => simp at hj; subst hj; simp [Addr.add]
              | 1, hj => simp at hj; subst hj; simp [Addr.add]
              | 2, hj => simp at hj; subst hj; simp [Addr.add]
            case d2 => intro u hu; simp at hu; rcases hu with rfl | rfl | rfl <;> rfl
            case d3 => unfold maxLen; omega
            case d4 => omega
            case d5 => simpa using Nat.le_trans Hbs.out (Nat.le_succ _)
            intro g7 cap7 w7 hown7 hgr7 hat7 hlt7
            rw [← Hw1.out] at hgr7
            have hgr7 : w1.grownBy w7 (some g) := hgr7
            obtain ⟨c7, f7⟩ := Hcp.out w7 hgr7
            have Hend := Lib.hid (pushq_end Hp1.out Hbl.out Hbs.out hown7 hgr7)
            clear hown7 hgr7 hat7 hlt7 Hcp Hown
            go_wp2
            go_roundw
            case rel => exact ⟨k + 1, L ++ [(t, v, o)], g7, cap7, by go_num, by omega, by rw [← Ho1.out], HL2, HI2, Lib.hid Hend.out.1, Lib.hid (Hb.out.trans Hend.out.2.bel)⟩
            case measure => simp [intOf]; omega
        · have hge : ¬ (k : Int) < (s.size : Int) - (z : Int) + 1 := by
            by_cases h0 : 0 < N
            · rw [hN3 h0]; omega
            · omega
          have hkN2 : k = N := by omega
          have Hfin : Hid (D ++ (pcs s).take k = cnd (R.take (i + 1))) := Lib.hid (by rw [hkN2, Hlen.out, List.take_length, Htk.out])
          rw [Hfin.out] at HI
          have Hln : Hid ((cnd (R.take (i + 1))).length = D.length + k) := Lib.hid (by rw [Htk.out, List.length_append, ← Hlen.out, hkN2])
          have HL2 : Hid (L.length ≤ (cnd (R.take (i + 1))).length) := Lib.hid (by rw [Hln.out]; exact HLl.out)
          clear hN3 hkN2 Hfin
          go_wp2
          go_roundw
          case rel => exact ⟨i + 1, L, g, cap, by go_num, by omega, by rw [Hln.out], HL2, HI, Hp, Hb⟩
          case measure => simp [intOf]; omega
    · have hiR2 : i = R.length := by omega
      have hLb : L.length ≤ 100000 := Nat.le_trans HLl.out (Nat.le_trans (Hcl.out i hiR) (by omega))
      have HI2 : Hid (HInv (cnd R) (wor F) L) := Lib.hid (by have h1 := HI.out; rw [hiR2, List.take_length] at h1; exact h1)
      have Hini := Lib.hid (hqinit_any w.heap.size (w.heap.size + 1) g cap L wr Hb.out.size hLb Hp.out)
      clear hiR2
      go_wp2_with fail
      refine Hini.out.mono ?_
      rintro e w3 ⟨rfl, L2, hpm, hh2, hpl2, hk2⟩
      have Hend : Hid (∃ (L : List Pce) (g cap : Nat), Bm.HeapQ L L.length ∧ PilQ w3 w.heap.size (w.heap.size + 1) g cap L ∧ HInv (cnd R) (wor F) L ∧ L.length ≤ 100000) := Lib.hid ⟨L2, g, cap, hh2, hpl2, hinv_perm hpm HI2.out, by rw [hpm.length_eq]; exact hLb⟩
      have Hbe := Lib.hid (Hb.out.trans hk2.bel)
      clear hpm hh2 hpl2 hk2 Hini
      go_wp2
      go_ret
      exact ⟨rfl, Hend.out, Hbe.out⟩
end Go.Proofs.Ytaebnkeddcbmkaa
