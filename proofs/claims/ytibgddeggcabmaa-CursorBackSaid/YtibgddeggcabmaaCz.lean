/-
  CursorBack (layer 3): the law's function by its walk: true for any slice of items. No condition.
-/
import Derived.Test.YtibgddeggcabmaaCy
import Derived.Deep.DeepCutAuto
import Derived.Deep.LoopGhost
import Derived.Deep.RegionHeld3
namespace Go.Proofs.Ytibgddeggcabmaa
open Go.RowKit

set_option maxHeartbeats 400000 in
theorem cback_long (A : Option Addr) (n c : Nat) (w : World) (h : 40 < n) (hn : n ≤ 9223372036854775807) :
    Calls Try.prog 3 #[.slice A n c] w fun e w' => e = .returned (.bool true) ∧ Below w.heap.size w w' := by
  go_enter Try.func3, Try.ntmps3
  go_wp2_with fail
  refine (cawake_any w).mono ?_
  rintro e w1 ⟨rfl, hb1⟩
  go_wp2
  go_ret
  exact ⟨rfl, hb1⟩

theorem rbad_some (r : Nat) (l : List Nat) (w : World) (h : CR w r (some l)) : Calls Try.prog 21 #[.pointer (some ⟨r, 0, none⟩)] w fun e w' => e = .returned (.bool false) ∧ w = w' := rbad_any r _ w h
theorem rrest_nil (r : Nat) (w : World) (h : CR w r (some [])) : Calls Try.prog 23 #[.pointer (some ⟨r, 0, none⟩)] w fun e w' => e = .returned (.string ⟨#[]⟩) ∧ CR w' r (some []) ∧ w.grownBy w' (some r) := rrest_any r _ w h
set_option maxHeartbeats 4000000 in
set_option maxRecDepth 100000 in
theorem cback_short (A : Option Addr) (n c : Nat) (xs : List Itm) (w : World) (hn : n ≤ 40) (ha : ArgT w A n c xs) :
    Calls Try.prog 3 #[.slice A n c] w fun e w' => e = .returned (.bool true) ∧ Below w.heap.size w w' := by
  obtain ⟨hlen, hok, hcell, hnc, hcm⟩ := ha
  have Hlen := Lib.hid hlen
  have Hok := Lib.hid hok
  have Hcell := Lib.hid hcell
  clear hlen hok hcell hnc hcm
  go_enter Try.func3, Try.ntmps3
  go_wp2_with fail
  refine (cawake_any w).mono ?_
  rintro e w1 ⟨rfl, hb1⟩
  have hnew := CW.new w1
  have hbn := hb1.alloc hb1.size (.cells #[.pointer none, .int .i64 0] 26)
  obtain ⟨b, hb⟩ : ∃ b, b = w1.heap.size := ⟨_, rfl⟩
  have hwb : w.heap.size ≤ b := by rw [hb]; exact hb1.size
  rw [← hb] at hnew
  have Hnew := Lib.hid hnew
  have Hbn := Lib.hid hbn
  have Hwb := Lib.hid hwb
  have Hb := Lib.hid hb
  clear hnew hbn hwb hb hb1
  go_wp2
  rw [← Hb.out]
  clear Hb
  go_loopw [4, 18] (fun s i wr => ∃ k : Nat, k ≤ n ∧ s = .string (strOf (encL (xs.take k))) ∧ i = .int .i64 (k : Int) ∧ Hid (CW wr b (encL (xs.take k))) ∧ Hid (Below w.heap.size w wr) ∧ Hid (∀ x ∈ xs.take k, x.2.2.2.length ≤ 300)) (fun _ i _ => n - (intOf i).toNat)
  case atStart => exact ⟨0, by omega, rfl, rfl, Hnew, Hbn, by simp [Hid]⟩
  case round =>
    obtain ⟨k, hk, rfl, rfl, hcw, hbel, h300⟩ := hrel
    by_cases hlt : k < n
    · obtain ⟨g, off, rfl, hg, hcs⟩ := Hcell.out (by omega)
      have hkl : k < xs.length := by rw [Hlen.out]; exact hlt
      obtain ⟨c0, c1, c2, c3⟩ := (hcs k hkl).below hbel.out hg
      have hoki := Hok.out xs[k] (List.getElem_mem hkl)
      have hsnoc := encL_snoc xs k hkl
      have Hsnoc := Lib.hid hsnoc
      have hal := encL_len (xs.take k) (fun x hx => Hok.out x (List.mem_of_mem_take hx)) h300.out
      have h300' : ∀ h : xs[k].2.2.2.length ≤ 300, ∀ x ∈ xs.take (k + 1), x.2.2.2.length ≤ 300 := by
        intro h x hx
        rw [List.take_succ_eq_append_getElem hkl] at hx
        rcases List.mem_append.1 hx with hx | hx
        · exact h300.out x hx
        · simp at hx; subst hx; exact h
      have H300' := Lib.hid h300'
      have hpp := PP.new xs[k] hcw.out hbel.out Hwb.out
      have Hpp := Lib.hid hpp
      have Hoki := Lib.hid hoki
      rw [List.length_take, Nat.min_eq_left (by omega)] at hal
      have hal2 : (encL (xs.take k)).length ≤ 1000000 := by omega
      have Hal := Lib.hid hal2
      have Hcs := Lib.hid hcs
      clear hsnoc hal hal2 h300' hpp hoki hcs
      generalize xs[k] = it at c0 c1 c2 c3 Hsnoc H300' Hpp Hoki
      obtain ⟨kd, v, z, s⟩ := it
      dsimp only at c0 c1 c2 c3 H300' Hpp
      have hkd : kd < 256 := Hoki.out.1
      have hv : v < 2 ^ 64 := Hoki.out.2.1
      have hz : -9223372036854775808 ≤ z ∧ z ≤ 9223372036854775807 := Hoki.out.2.2.1
      have hsm : s.length ≤ maxLen := Hoki.out.2.2.2.2
      obtain ⟨hz0, hz1⟩ := hz
      have hsz := strOf_size s
      have Hv := Lib.hid hv
      unfold maxLen at hsm
      clear hv
      by_cases hlong : 300 < s.length
      · generalize strOf s = str at c3 hsz
        generalize strOf (encL (xs.take k)) = s0
        go_wp2
        go_ret
        exact ⟨rfl, hbel.out.alloc hbel.out.size _⟩
      · have hs300 : s.length ≤ 300 := by omega
        clear hlong hsm
        have Hsz := Lib.hid hsz
        have hx := Hpp.out.2.2.2.2.2
        rcases (show kd % 4 = 0 ∨ kd % 4 = 1 ∨ kd % 4 = 2 ∨ kd % 4 = 3 by omega) with h4 | h4 | h4 | h4
        · have h4i : (kd : Int) % 4 = 0 := by omega
          have henc : encI (kd, v, z, s) = Bm.bytesOf v (fx z) := by simp [encI, h4]
          rw [henc] at Hsnoc
          have hadd := fun W => str_add (encL (xs.take k)) (Bm.bytesOf v (fx z)) (by have := Hal.out; rw [Bm.bytesOf_length]; have := fx_le z; omega) W
          rw [← Hsnoc.out] at hadd
          have Hp1 := Lib.hid (pp_fixed v z Hv.out ⟨hz0, hz1⟩ Hal.out Hpp.out)
          have Hadd := Lib.hid hadd
          clear h4 henc hadd
          go_wp2_with fail
          refine Hp1.out.mono ?_
          rintro e w2 ⟨rfl, hp2⟩
          obtain ⟨_, i1, i2, i3⟩ := hp2.2.1
          dsimp only [Nat.zero_add] at i1 i2 i3
          have Hp2 := Lib.hid hp2
          clear hp2 Hp1
          go_wp2_with fail
          refine (ffixed_any v z w2 Hv.out).mono ?_
          rintro e w3 ⟨rfl, hb3⟩
          have Hp3 := Lib.hid (Hp2.out.below hb3)
          clear hb3 Hp2
          clear i1 i2 i3
          have hadd := Hadd.out
          clear Hadd
          go_wp2
          go_roundw
          case rel => exact ⟨k + 1, by omega, rfl, by go_num, by unfold Hid; rw [Hsnoc.out]; exact Hp3.out.1, Hp3.out.2.2.1, H300'.out hs300⟩
          case measure => simp [intOf]; omega
        · have h4i : (kd : Int) % 4 = 1 := by omega
          have henc : encI (kd, v, z, s) = Bm.grp v := by simp [encI, h4]
          rw [henc] at Hsnoc
          have hadd := fun W => str_add (encL (xs.take k)) (Bm.grp v) (by have := Hal.out; have := Bm.grp_ten v Hv.out; omega) W
          rw [← Hsnoc.out] at hadd
          have Hp1 := Lib.hid (pp_group v Hv.out Hal.out Hpp.out)
          have Hadd := Lib.hid hadd
          clear h4 henc hadd
          go_wp2_with fail
          refine Hp1.out.mono ?_
          rintro e w2 ⟨rfl, hp2⟩
          obtain ⟨_, i1, i2, i3⟩ := hp2.2.1
          dsimp only [Nat.zero_add] at i1 i2 i3
          have Hp2 := Lib.hid hp2
          clear hp2 Hp1
          go_wp2_with fail
          refine (fgroup_any v w2 Hv.out).mono ?_
          rintro e w3 ⟨rfl, hb3⟩
          have Hp3 := Lib.hid (Hp2.out.below hb3)
          clear hb3 Hp2
          clear i1 i2 i3
          have hadd := Hadd.out
          clear Hadd
          go_wp2
          go_roundw
          case rel => exact ⟨k + 1, by omega, rfl, by go_num, by unfold Hid; rw [Hsnoc.out]; exact Hp3.out.1, Hp3.out.2.2.1, H300'.out hs300⟩
          case measure => simp [intOf]; omega
        · have h4i : (kd : Int) % 4 = 2 := by omega
          have henc : encI (kd, v, z, s) = s := by simp [encI, h4]
          rw [henc] at Hsnoc
          have hadd := fun W => str_add (encL (xs.take k)) (s) (by have := Hal.out; omega) W
          rw [← Hsnoc.out] at hadd
          have Hp1 := Lib.hid (pp_raw s hs300 Hal.out Hpp.out)
          have Hadd := Lib.hid hadd
          clear h4 henc hadd
          go_wp2_with fail
          refine Hp1.out.mono ?_
          rintro e w2 ⟨rfl, hp2⟩
          obtain ⟨_, i1, i2, i3⟩ := hp2.2.1
          dsimp only [Nat.zero_add] at i1 i2 i3
          have Hp2 := Lib.hid hp2
          clear hp2 Hp1
          have Hp3 := Hp2
          have hadd := Hadd.out
          clear Hadd
          go_wp2
          clear i1 i2 i3
          go_roundw
          case rel => exact ⟨k + 1, by omega, rfl, by go_num, by unfold Hid; rw [Hsnoc.out]; exact Hp3.out.1, Hp3.out.2.2.1, H300'.out hs300⟩
          case measure => simp [intOf]; omega
        · have h4i : (kd : Int) % 4 = 3 := by omega
          have henc : encI (kd, v, z, s) = Bm.grp s.length ++ s := by simp [encI, h4]
          rw [henc] at Hsnoc
          have hadd := fun W => str_add (encL (xs.take k)) (Bm.grp s.length ++ s) (by have := Hal.out; have := Bm.grp_ten s.length (by omega); rw [List.length_append]; omega) W
          rw [← Hsnoc.out] at hadd
          have Hp1 := Lib.hid (pp_text s hs300 Hal.out Hpp.out)
          have Hadd := Lib.hid hadd
          clear h4 henc hadd
          go_wp2_with fail
          refine Hp1.out.mono ?_
          rintro e w2 ⟨rfl, hp2⟩
          obtain ⟨_, i1, i2, i3⟩ := hp2.2.1
          dsimp only [Nat.zero_add] at i1 i2 i3
          have Hp2 := Lib.hid hp2
          clear hp2 Hp1
          go_wp2_with fail
          refine (ftext_any s w2 (by omega)).mono ?_
          rintro e w3 ⟨rfl, hb3⟩
          have Hp3 := Lib.hid (Hp2.out.below hb3)
          clear hb3 Hp2
          clear i1 i2 i3
          have hadd := Hadd.out
          clear Hadd
          go_wp2
          go_roundw
          case rel => exact ⟨k + 1, by omega, rfl, by go_num, by unfold Hid; rw [Hsnoc.out]; exact Hp3.out.1, Hp3.out.2.2.1, H300'.out hs300⟩
          case measure => simp [intOf]; omega
    · obtain rfl : k = n := by omega
      have htk : xs.take k = xs := by rw [← Hlen.out, List.take_length]
      have Htk := Lib.hid htk
      clear htk
      have h300 := h300.out
      have hcw := hcw.out
      rw [Htk.out] at h300 hcw ⊢
      have hel := encL_lt xs Hok.out h300
      have hll := encL_len xs Hok.out h300
      rw [Hlen.out] at hll
      have Hs := Lib.hid (wstr_any b (encL xs) wr (by omega) hel hcw)
      have Hn := Lib.hid (fun W => cnew_any (encL xs) W)
      have H300 := Lib.hid h300
      have Hel := Lib.hid hel
      have hll2 : (encL xs).length ≤ 100000000 := by omega
      have Hll := Lib.hid hll2
      clear h300 hcw hel hll hll2 Htk
      generalize strOf (encL xs) = sa at Hs Hn ⊢
      go_wp2_with fail
      refine Hs.out.mono ?_
      rintro e w2 ⟨rfl, hb2⟩
      have Hb2 := Lib.hid (hbel.out.trans (hb2.mono hbel.out.size))
      clear hb2 Hs hbel
      go_wp2_with fail
      refine (Hn.out w2).mono ?_
      obtain ⟨r, hr⟩ : ∃ r, r = w2.heap.size := ⟨_, rfl⟩
      rw [← hr]
      rintro e w3 ⟨rfl, hc3, hb3⟩
      have hwr : w.heap.size ≤ r := by rw [hr]; exact Hb2.out.size
      have Hwr := Lib.hid hwr
      have Hc3 := Lib.hid hc3
      have Hb3 := Lib.hid (Hb2.out.trans (hb3.mono hwr))
      clear hc3 hb3 hwr hr Hb2 Hn
      go_wp2
      go_loopw [80] (fun i wr => ∃ j : Nat, j ≤ k ∧ i = .int .i64 (j : Int) ∧ Hid (CR wr r (some (encL (xs.drop j)))) ∧ Hid (Below w.heap.size w wr)) (fun i _ => k - (intOf i).toNat)
      case atStart => exact ⟨0, by omega, rfl, Hc3, Hb3⟩
      case round =>
        obtain ⟨j, hj, rfl, hcr, hbel⟩ := hrel
        clear Hc3 Hb3
        by_cases hlt2 : j < k
        · obtain ⟨g, off, rfl, hg, hcs⟩ := Hcell.out (by omega)
          have hjl : j < xs.length := by rw [Hlen.out]; exact hlt2
          obtain ⟨c0, c1, c2, c3⟩ := (hcs j hjl).below hbel.out hg
          have hoki := Hok.out xs[j] (List.getElem_mem hjl)
          have hs300 := H300.out xs[j] (List.getElem_mem hjl)
          have hdrop := encL_drop xs j hjl
          have hq := QQ.new xs[j] hcr.out hbel.out Hwr.out
          have hokl : OkL (some (encL (xs.drop j))) := ⟨encL_lt _ (fun x hx => Hok.out x (List.mem_of_mem_drop hx)) (fun x hx => H300.out x (List.mem_of_mem_drop hx)), by
            have h1 := encL_len (xs.drop j) (fun x hx => Hok.out x (List.mem_of_mem_drop hx)) (fun x hx => H300.out x (List.mem_of_mem_drop hx))
            have h2 := Hlen.out
            rw [List.length_drop] at h1; omega⟩
          rw [hdrop] at hq hokl
          have Hq := Lib.hid hq
          have Hokl := Lib.hid hokl
          have Hoki := Lib.hid hoki
          clear hdrop hq hokl hoki hcs hcr
          obtain ⟨rest, hrest⟩ : ∃ R, R = encL (xs.drop (j + 1)) := ⟨_, rfl⟩
          rw [← hrest] at Hq Hokl
          have Hrest := Lib.hid hrest.symm
          clear hrest
          generalize xs[j] = it at c0 c1 c2 c3 hs300 Hq Hokl Hoki
          obtain ⟨kd, v, z, s⟩ := it
          dsimp only at c0 c1 c2 c3 hs300 Hq
          have hkd : kd < 256 := Hoki.out.1
          obtain ⟨hz0, hz1⟩ : -9223372036854775808 ≤ z ∧ z ≤ 9223372036854775807 := Hoki.out.2.2.1
          have Hv : Hid (v < 2 ^ 64) := Hoki.out.2.1
          have Hsl : Hid (∀ c ∈ s, c < 256) := Hoki.out.2.2.2.1
          have hsz := strOf_size s
          have Hsz := Lib.hid hsz
          clear hsz
          rcases (show kd % 4 = 0 ∨ kd % 4 = 1 ∨ kd % 4 = 2 ∨ kd % 4 = 3 by omega) with h4 | h4 | h4 | h4
          · have h4i : (kd : Int) % 4 = 0 := by omega
            have henc : encI (kd, v, z, s) = Bm.bytesOf v (fx z) := by simp [encI, h4]
            rw [henc] at Hq Hokl
            have Hrf := Lib.hid (fun W h => qq_fixed (w := w) (W := W) (r := r) (x := wr.heap.size) (it := (kd, v, z, s)) v z rest ⟨hz0, hz1⟩ Hokl.out h)
            have Hff := Lib.hid (fun W => ffixed_any v z W Hv.out)
            have Hfv := Lib.hid (fun W => fvalue_any (Bm.bytesOf v (fx z)) W (by rw [Bm.bytesOf_length]; exact fx_le z) (Bm.bytesOf_lt _ _))
            clear h4 henc
            go_upto_region 35 with fail
            obtain ⟨wy, hwy⟩ : ∃ W, W = wr.alloc (.cells #[.int .u8 (kd : Int), .int .u64 (v : Int), .int .i64 z, .string (strOf s)] 29) := ⟨_, rfl⟩
            rw [← hwy] at Hq ⊢
            clear hwy
            obtain ⟨_, i1, i2, i3⟩ := Hq.out.2.1
            dsimp only [Nat.zero_add] at i1 i2 i3
            have Hq0 := Lib.hid Hq.out.drew
            generalize strOf (Bm.bytesOf v (fx z)) = sb at Hff Hfv
            generalize Bm.valB (Bm.bytesOf v (fx z)) = V at Hrf Hfv
            go_region_held3 (fun W => W.cell? ⟨wr.heap.size, 1, none⟩ = some (.int .u64 (v : Int)) ∧ W.cell? ⟨wr.heap.size, 2, none⟩ = some (.int .i64 z) ∧ W.cell? ⟨wr.heap.size, 3, none⟩ = some (.string (strOf s))) (first | exact ⟨k1, k2, k3⟩ | exact ⟨j1, j2, j3⟩ | exact ⟨i1, i2, i3⟩) (first
              | (go_at_call 16; refine (Hrf.out _ Hq0.out).mono ?_; rintro e w3 ⟨rfl, hq3⟩; obtain ⟨_, j1, j2, j3⟩ := hq3.2.1; dsimp only [Nat.zero_add] at j1 j2 j3; have Hq3 := Lib.hid hq3; clear hq3)
              | (go_at_call 8; refine (Hff.out _).mono ?_; rintro e w4 ⟨rfl, hb4⟩; have hq4 := Hq3.out.below hb4; obtain ⟨_, k1, k2, k3⟩ := hq4.2.1; dsimp only [Nat.zero_add] at k1 k2 k3; have Hq4 := Lib.hid hq4; clear hq4 hb4)
              | (go_at_call 17; refine (Hfv.out _).mono ?_; rintro e w' ⟨rfl, rfl⟩))
            have Hqc := Hq4
            have Hbd := Lib.hid (rbad_some r rest _ Hqc.out.1)
            clear i1 i2 i3 Hq Hq0
            go_wp2_with fail
            refine Hbd.out.mono ?_
            rintro e w' ⟨rfl, rfl⟩
            go_wp2
            go_roundw
            case rel => exact ⟨j + 1, by omega, by go_num, by rw [Hrest.out]; exact Lib.hid Hqc.out.1, Hqc.out.2.2.1⟩
            case measure => simp [intOf]; omega
          · have h4i : (kd : Int) % 4 = 1 := by omega
            have henc : encI (kd, v, z, s) = Bm.grp v := by simp [encI, h4]
            rw [henc] at Hq Hokl
            have Hrf := Lib.hid (fun W h => qq_group (w := w) (W := W) (r := r) (x := wr.heap.size) (it := (kd, v, z, s)) v rest Hv.out Hokl.out h)
            clear h4 henc
            go_upto_region 37 with fail
            obtain ⟨wy, hwy⟩ : ∃ W, W = wr.alloc (.cells #[.int .u8 (kd : Int), .int .u64 (v : Int), .int .i64 z, .string (strOf s)] 29) := ⟨_, rfl⟩
            rw [← hwy] at Hq ⊢
            clear hwy
            obtain ⟨_, i1, i2, i3⟩ := Hq.out.2.1
            dsimp only [Nat.zero_add] at i1 i2 i3
            have Hq0 := Lib.hid Hq.out.drew
            go_region_held3 (fun W => W.cell? ⟨wr.heap.size, 1, none⟩ = some (.int .u64 (v : Int)) ∧ W.cell? ⟨wr.heap.size, 2, none⟩ = some (.int .i64 z) ∧ W.cell? ⟨wr.heap.size, 3, none⟩ = some (.string (strOf s))) (first | exact ⟨k1, k2, k3⟩ | exact ⟨j1, j2, j3⟩ | exact ⟨i1, i2, i3⟩) (((go_at_call 18; refine (Hrf.out _ Hq0.out).mono ?_; rintro e w3 ⟨rfl, hq3⟩; obtain ⟨_, j1, j2, j3⟩ := hq3.2.1; dsimp only [Nat.zero_add] at j1 j2 j3; have Hq3 := Lib.hid hq3; clear hq3)))
            have Hqc := Hq3
            have Hbd := Lib.hid (rbad_some r rest _ Hqc.out.1)
            clear i1 i2 i3 Hq Hq0
            go_wp2_with fail
            refine Hbd.out.mono ?_
            rintro e w' ⟨rfl, rfl⟩
            go_wp2
            go_roundw
            case rel => exact ⟨j + 1, by omega, by go_num, by rw [Hrest.out]; exact Lib.hid Hqc.out.1, Hqc.out.2.2.1⟩
            case measure => simp [intOf]; omega
          · have h4i : (kd : Int) % 4 = 2 := by omega
            have henc : encI (kd, v, z, s) = s := by simp [encI, h4]
            rw [henc] at Hq Hokl
            have Hrf := Lib.hid (fun W h => qq_raw (w := w) (W := W) (r := r) (x := wr.heap.size) (it := (kd, v, z, s)) s rest h)
            clear h4 henc
            go_upto_region 39 with fail
            obtain ⟨wy, hwy⟩ : ∃ W, W = wr.alloc (.cells #[.int .u8 (kd : Int), .int .u64 (v : Int), .int .i64 z, .string (strOf s)] 29) := ⟨_, rfl⟩
            rw [← hwy] at Hq ⊢
            clear hwy
            obtain ⟨_, i1, i2, i3⟩ := Hq.out.2.1
            dsimp only [Nat.zero_add] at i1 i2 i3
            have Hq0 := Lib.hid Hq.out.drew
            have hsz := Hsz.out
            go_region_held3 (fun W => W.cell? ⟨wr.heap.size, 1, none⟩ = some (.int .u64 (v : Int)) ∧ W.cell? ⟨wr.heap.size, 2, none⟩ = some (.int .i64 z) ∧ W.cell? ⟨wr.heap.size, 3, none⟩ = some (.string (strOf s))) (first | exact ⟨k1, k2, k3⟩ | exact ⟨j1, j2, j3⟩ | exact ⟨i1, i2, i3⟩) (((go_at_call 19; refine (Hrf.out _ Hq0.out).mono ?_; rintro e w3 ⟨rfl, hq3⟩; obtain ⟨_, j1, j2, j3⟩ := hq3.2.1; dsimp only [Nat.zero_add] at j1 j2 j3; have Hq3 := Lib.hid hq3; clear hq3)))
            have Hqc := Hq3
            have Hbd := Lib.hid (rbad_some r rest _ Hqc.out.1)
            clear i1 i2 i3 Hq Hq0
            go_wp2_with fail
            refine Hbd.out.mono ?_
            rintro e w' ⟨rfl, rfl⟩
            go_wp2
            go_roundw
            case rel => exact ⟨j + 1, by omega, by go_num, by rw [Hrest.out]; exact Lib.hid Hqc.out.1, Hqc.out.2.2.1⟩
            case measure => simp [intOf]; omega
          · have h4i : (kd : Int) % 4 = 3 := by omega
            have henc : encI (kd, v, z, s) = Bm.grp s.length ++ s := by simp [encI, h4]
            rw [henc] at Hq Hokl
            have Hrf := Lib.hid (fun W h => qq_text (w := w) (W := W) (r := r) (x := wr.heap.size) (it := (kd, v, z, s)) s rest hs300 Hokl.out h)
            clear h4 henc
            go_upto_region 41 with fail
            obtain ⟨wy, hwy⟩ : ∃ W, W = wr.alloc (.cells #[.int .u8 (kd : Int), .int .u64 (v : Int), .int .i64 z, .string (strOf s)] 29) := ⟨_, rfl⟩
            rw [← hwy] at Hq ⊢
            clear hwy
            obtain ⟨_, i1, i2, i3⟩ := Hq.out.2.1
            dsimp only [Nat.zero_add] at i1 i2 i3
            have Hq0 := Lib.hid Hq.out.drew
            have hsz := Hsz.out
            go_region_held3 (fun W => W.cell? ⟨wr.heap.size, 1, none⟩ = some (.int .u64 (v : Int)) ∧ W.cell? ⟨wr.heap.size, 2, none⟩ = some (.int .i64 z) ∧ W.cell? ⟨wr.heap.size, 3, none⟩ = some (.string (strOf s))) (first | exact ⟨k1, k2, k3⟩ | exact ⟨j1, j2, j3⟩ | exact ⟨i1, i2, i3⟩) (((go_at_call 20; refine (Hrf.out _ Hq0.out).mono ?_; rintro e w3 ⟨rfl, hq3⟩; obtain ⟨_, j1, j2, j3⟩ := hq3.2.1; dsimp only [Nat.zero_add] at j1 j2 j3; have Hq3 := Lib.hid hq3; clear hq3)))
            have Hqc := Hq3
            have Hbd := Lib.hid (rbad_some r rest _ Hqc.out.1)
            clear i1 i2 i3 Hq Hq0
            go_wp2_with fail
            refine Hbd.out.mono ?_
            rintro e w' ⟨rfl, rfl⟩
            go_wp2
            go_roundw
            case rel => exact ⟨j + 1, by omega, by go_num, by rw [Hrest.out]; exact Lib.hid Hqc.out.1, Hqc.out.2.2.1⟩
            case measure => simp [intOf]; omega
        · obtain rfl : j = k := by omega
          have hnil : encL (xs.drop j) = [] := by rw [List.drop_of_length_le (by rw [Hlen.out]; exact Nat.le_refl _)]; rfl
          have hcr := hcr.out
          rw [hnil] at hcr
          have Hd := Lib.hid (rdone_a r wr hcr)
          have Hr := Lib.hid (rrest_nil r wr hcr)
          clear hcr hnil
          go_wp2_with fail
          refine Hd.out.mono ?_
          rintro e w' ⟨rfl, rfl⟩
          go_wp2_with fail
          refine Hr.out.mono ?_
          rintro e w4 ⟨rfl, hcr4, hg4⟩
          have Hb4 := Lib.hid (hbel.out.grown hg4 hbel.out.size (fun q e => by injection e with e; have := Hwr.out; omega))
          have Hbd := Lib.hid (rbad_some r [] w4 hcr4)
          clear hcr4 hg4
          go_wp2_with fail
          refine Hbd.out.mono ?_
          rintro e w' ⟨rfl, rfl⟩
          go_wp2
          go_ret
          exact ⟨rfl, Hb4.out⟩
end Go.Proofs.Ytibgddeggcabmaa
