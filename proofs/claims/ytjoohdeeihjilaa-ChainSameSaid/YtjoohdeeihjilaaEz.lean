/-
  ChainFinds (layer 11): the law's function by its walk: true for any string, any slice of pairs of ints and any int. Premises: what the calls of layer 11 answer.
-/
import Derived.Test.YtjoohdeeihjilaaEk
import Derived.Test.YtjoohdeeihjilaaAp
import Derived.Deep.DeepCutAuto
import Derived.Deep.RegionHeld3
namespace Go.Proofs.Ytjoohdeeihjilaa
open Go.RowKit

theorem Bm.noteP_len (T P : List Nat) (a : Int) : (Bm.noteP T P a).length ≤ P.length + 1 := by
  unfold Bm.noteP
  split
  · simp
  · omega
theorem RF.below {w w' : World} {q : Nat} {T P : List Nat} {S : Nat → Prop} (h : RF w q T P S) (hb : Below w.heap.size w w') : RF w' q T P S := h.keep fun k hk => hb.block k (h.lt k hk)
theorem FindOk.below {FI : World → Addr → List Nat → List Nat → (Nat → Prop) → Prop} (hF : FindOk FI) {w w' : World} {p : Addr} {T P : List Nat} {S : Nat → Prop} (h : FI w p T P S) (hb : Below w.heap.size w w') : FI w' p T P S := hF.keep w w' p T P S h hb.size fun k hk => hb.block k (hF.lt w p T P S h k hk)

set_option maxHeartbeats 400000 in
set_option maxRecDepth 100000 in
theorem zfinds_out {FI : World → Addr → List Nat → List Nat → (Nat → Prop) → Prop} (hF : FindOk FI) (hL : ZLen FI) (T : List Nat) (A : Option Addr) (n c : Nat) (depth : Int) (w : World) (hT : T.length ≤ 9223372036854775807) (hn : n ≤ 9223372036854775807) (h : 200 < T.length ∨ 100 < n) :
    Calls Try.prog 3 #[.string (strOf T), .slice A n c, .int .i64 depth] w fun e w' => e = .returned (.bool true) ∧ Below w.heap.size w w' := by
  have Haw := Lib.hid (zawake_of hF hL w)
  have hsz := strOf_size T
  clear hF hL
  generalize strOf T = ss at *
  go_enter Try.func3, Try.ntmps3
  go_wp2_with fail
  refine Haw.out.mono ?_
  rintro e w1 ⟨rfl, hb1⟩
  have Hb1 := Lib.hid hb1
  clear hb1
  by_cases h2 : 200 < T.length
  · have d2 : decide (200 < T.length) = true := decide_eq_true h2
    have d3 : decide ((200 : Int) < (T.length : Int)) = true := decide_eq_true (by omega)
    go_wp2
    go_ret
    exact ⟨rfl, Hb1.out⟩
  · have h3 : 100 < n := by omega
    have d2 : decide (200 < T.length) = false := decide_eq_false h2
    have d3 : decide ((200 : Int) < (T.length : Int)) = false := decide_eq_false (by omega)
    go_wp2
    go_ret
    exact ⟨rfl, Hb1.out⟩

theorem row_first {w : World} {b : Nat} {t : TypeId} {x y : Value} (h : Row w b t [x, y]) : w.cell? ⟨b, 0, none⟩ = some x := by
  have h := h.cell 0
  simpa only [List.getElem?_cons_zero] using h
theorem row_second {w : World} {b : Nat} {t : TypeId} {x y : Value} (h : Row w b t [x, y]) : w.cell? ⟨b, 1, none⟩ = some y := by
  have h := h.cell 1
  simpa only [List.getElem?_cons_succ, List.getElem?_cons_zero] using h

set_option maxHeartbeats 2000000 in
set_option maxRecDepth 100000 in
theorem zfinds_in {FI : World → Addr → List Nat → List Nat → (Nat → Prop) → Prop} (hF : FindOk FI) (hL : ZLen FI) (T : List Nat) (A : Option Addr) (n c : Nat) (ps : List (Int × Int)) (depth : Int) (w : World) (hT : T.length ≤ 200) (hn : n ≤ 100) (hlt : ∀ x ∈ T, x < 256) (hd : Bm.IntOk depth) (ha : ArgQ w A n c ps) :
    Calls Try.prog 3 #[.string (strOf T), .slice A n c, .int .i64 depth] w fun e w' => e = .returned (.bool true) ∧ Below w.heap.size w w' := by
  have Haw := Lib.hid (zawake_of hF hL w)
  have hsz := strOf_size T
  obtain ⟨hl, hps, hcells, hc, hcm⟩ := ha
  have d2 : decide (200 < (T.length : Int)) = false := decide_eq_false (by omega)
  have d3 : decide (100 < (n : Int)) = false := decide_eq_false (by omega)
  have Hl := Lib.hid hl
  have Hps := Lib.hid hps
  have Hcells := Lib.hid hcells
  have Hnew := Lib.hid (fun w => hF.new w T (by omega) hlt)
  have Hnote := Lib.hid (fun w p P S (a : Int) h (ha : Bm.IntOk a) => hF.note w p T P S a (by omega) hlt h ha)
  have Hfind := Lib.hid (fun w p P S (a : Int) h (ha : Bm.IntOk a) => hF.find w p T P S a depth (by omega) hlt h ha hd)
  have Hrn := Lib.hid (fun w q P S (a : Int) (hP : P.length ≤ 10000) (ha : Bm.IntOk a) h => zrnote_any q T P S a w (by omega) hP ha h)
  have Hrf := Lib.hid (fun w q P S (a : Int) (hP : P.length ≤ 10000) (hPl : Bm.Places T P) (ha : Bm.IntOk a) h => zrfind_any q T P S a depth w (by omega) hlt hP hPl ha hd h)
  have Hlen := Lib.hid (fun w p P S h => hL w p T P S (by omega) h)
  have Hlt := Lib.hid hF.lt
  have Hkeep := Lib.hid hF.keep
  have Hbel := Lib.hid (fun w w' p P S (h : FI w p T P S) (hb : Below w.heap.size w w') => FindOk.below hF h hb)
  have HplN := Lib.hid (fun P a h => Bm.places_note T P a h)
  clear hF hL hl hps hcells hc hcm hlt hd
  go_enter Try.func3, Try.ntmps3
  go_wp2_with fail
  refine Haw.out.mono ?_
  rintro e w1 ⟨rfl, hb1⟩
  have Hb1 := Lib.hid hb1
  clear hb1 Haw
  go_wp2_with fail
  refine (Hnew.out w1).mono ?_
  rintro e w2 ⟨p, S, rfl, hf2, hS2, hb2⟩
  obtain ⟨q, hq⟩ : ∃ q, q = w2.heap.size := ⟨_, rfl⟩
  have hbq := (Below.refl w2.heap.size w2).alloc (Nat.le_refl _) (.cells #[.string (strOf T), .slice none 0 0] 29)
  have HR3 := Lib.hid (show RF (w2.alloc (.cells #[.string (strOf T), .slice none 0 0] 29)) q T [] (fun k => k = q) by rw [hq]; exact RF.new w2 T)
  have HF3 := Lib.hid (Hbel.out _ _ _ _ _ hf2 hbq)
  have HS3 := Lib.hid (fun k hk => Nat.le_trans Hb1.out.size (hS2 k hk))
  have HD3 := Lib.hid (show ∀ k, S k → ¬ k = q from fun k hk e => by have := Hlt.out _ _ _ _ _ hf2 k hk; omega)
  have hb2' := Hb1.out.trans (hb2.mono Hb1.out.size)
  have HQ3 := Lib.hid (show w.heap.size ≤ q by have := hb2'.size; omega)
  have Hb3 := Lib.hid (hb2'.trans (hbq.mono hb2'.size))
  have Hq := Lib.hid hq
  clear hf2 hS2 hb2 hbq hb2' Hnew Hb1 hq
  go_wp2
  rw [← Hq.out]
  generalize w2.alloc (.cells #[.string (strOf T), .slice none 0 0] 29) = w3 at *
  go_loopw [32] (fun iv wr => ∃ (i : Nat) (P : List Nat) (S S' : Nat → Prop), i ≤ n ∧ iv = .int .i64 (i : Int) ∧ P.length ≤ i ∧ Hid (Bm.Places T P) ∧ Hid (FI wr p T P S) ∧ Hid (RF wr q T P S') ∧ Hid (∀ k, S k → ¬ S' k) ∧ Hid (∀ k, S k → w.heap.size ≤ k) ∧ Hid (∀ k, S' k → w.heap.size ≤ k) ∧ Hid (Below w.heap.size w wr)) (fun iv _ => n - (intOf iv).toNat)
  case atStart => exact ⟨0, [], S, _, by omega, rfl, by simp, (fun p hp => by simp at hp), HF3, HR3, HD3, HS3, (fun k hk => by rw [show k = q from hk]; exact HQ3.out), Hb3⟩
  case round =>
    obtain ⟨i, P, S1, S', hi, rfl, hPl, hPp, hf, hr, hdis, hS, hS', hb⟩ := hrel
    clear HF3 HR3 HD3 HS3 HQ3 Hb3
    by_cases hin : i < n
    · obtain ⟨g, off, rfl, hg, hcl⟩ := Hcells.out (by omega)
      have hil : i < ps.length := by rw [Hl.out]; exact hin
      have hc0 := (hb.out.cell (p := ⟨g, off + i * 2, none⟩) hg).trans (hcl i hil).1
      have hc1 := (hb.out.cell (p := ⟨g, off + i * 2 + 1, none⟩) hg).trans (hcl i hil).2
      have hok := Hps.out ps[i] (List.getElem_mem hil)
      clear hcl
      generalize ps[i].1 = a at hc0 hok
      generalize ps[i].2 = z at hc1 hok
      obtain ⟨hoka, hokz⟩ := hok
      obtain ⟨b, hbn⟩ : ∃ b, b = wr.heap.size := ⟨_, rfl⟩
      have Hbn := Lib.hid hbn
      clear hbn
      go_upto_region 9 with fail
      rw [← Hbn.out]
      have hbA := (Below.refl wr.heap.size wr).alloc (Nat.le_refl _) (.cells #[.int .i64 a, .int .i64 z] 30)
      have hrow : Row (wr.alloc (.cells #[.int .i64 a, .int .i64 z] 30)) b 30 [.int .i64 a, .int .i64 z] := by rw [Hbn.out]; exact Row.new wr _ _
      have hfA := Hbel.out _ _ _ _ _ hf.out hbA
      have hrA := hr.out.below hbA
      have hSb : ∀ k, S1 k → k ≠ b := fun k hk e => by have := Hlt.out _ _ _ _ _ hf.out k hk; have := Hbn.out; omega
      have hSb' : ∀ k, S' k → k ≠ b := fun k hk e => by have := hr.out.lt k hk; have := Hbn.out; omega
      have Hbb := Lib.hid (show w.heap.size ≤ b by have := hb.out.size; have := Hbn.out; omega)
      have HbA := Lib.hid (hb.out.trans (hbA.mono hb.out.size))
      clear hf hr hb hbA hc0 hc1 hg
      generalize wr.alloc (.cells #[.int .i64 a, .int .i64 z] 30) = wb at *
      have hfD : FI wb.drew p T P S1 := Hbel.out _ _ _ _ _ hfA (Below.refl _ wb).drew
      have hrD : RF wb.drew q T P S' := hrA.below (Below.refl _ wb).drew
      have hrowD : Row wb.drew b 30 [.int .i64 a, .int .i64 z] := hrow.keep rfl
      have cD := hrowD.cell 0
      simp only [List.getElem?_cons_zero] at cD
      have Hn := Lib.hid (Hnote.out wb.drew p P S1 a hfD hoka)
      have HR := Lib.hid (fun W h => Hrn.out W q P S' a (by omega) hoka h)
      have Hcl := Lib.hid (show b < wb.drew.heap.size from hrowD.lt)
      have HfD := Lib.hid hfD
      have HrD := Lib.hid hrD
      have HrowD := Lib.hid hrowD
      have HSb := Lib.hid hSb
      have HSb' := Lib.hid hSb'
      have HltF := Lib.hid (Hlt.out _ _ _ _ _ hfD)
      have HltR := Lib.hid hrD.lt
      have HbD := Lib.hid (show Below w.heap.size w wb.drew from HbA.out.drew)
      have hl1 := Bm.noteP_len T P a
      have HplA := Lib.hid (HplN.out P a hPp.out)
      clear hfD hrD hrowD hfA hrA hrow hSb hSb' HbA
      generalize Bm.noteB T P a = nb at *
      generalize Bm.noteP T P a = P2 at *
      go_region_held3 (fun W => W.cell? ⟨b, 0, none⟩ = some (.int .i64 a)) (first | with_reducible assumption | exact cD) (first
        | (go_at_call 8; (with_reducible refine Hn.out.mono ?_); rintro e wX ⟨rfl, ⟨S4, hf4, hS4⟩, hsep4⟩; have hrX : RF wX q T P S' := HrD.out.keep (fun k hk => hsep4.block k (HltR.out k hk) (fun h => hdis.out k h hk)); have hcX : wX.cell? ⟨b, 0, none⟩ = some (.int .i64 a) := row_first (HrowD.out.keep (hsep4.block b Hcl.out (fun h => HSb.out b h rfl))); have HF4 := Lib.hid hf4; have HS4 := Lib.hid hS4; have Hsep4 := Lib.hid hsep4; clear hf4 hS4 hsep4)
        | (go_at_call 9; (with_reducible refine (HR.out _ (by with_reducible assumption)).mono ?_); rintro e wY ⟨rfl, ⟨S5, hr5, hS5⟩, hsep5⟩; have hcY : wY.cell? ⟨b, 0, none⟩ = some (.int .i64 a) := row_first ((HrowD.out.keep (Hsep4.out.block b Hcl.out (fun h => HSb.out b h rfl))).keep (hsep5.block b (Nat.lt_of_lt_of_le Hcl.out Hsep4.out.size) (fun h => HSb'.out b h rfl))); have HR5 := Lib.hid hr5; have HS5 := Lib.hid hS5; have Hsep5 := Lib.hid hsep5; clear hr5 hS5 hsep5))
      have HfY := Lib.hid (Hkeep.out wX wY p T P2 S4 HF4.out Hsep5.out.size (fun k hk => Hsep5.out.block k (Hlt.out _ _ _ _ _ HF4.out k hk) (fun h => (HS4.out k hk).elim (fun h1 => hdis.out k h1 h) (fun h2 => by have := HltR.out k h; omega))))
      have Hdis2 := Lib.hid (show ∀ k, S4 k → ¬ S5 k from fun k h4 h5 => by
        have hk := Hlt.out _ _ _ _ _ HF4.out k h4
        rcases HS5.out k h5 with h5 | h5
        · rcases HS4.out k h4 with h4 | h4
          · exact hdis.out k h4 h5
          · have := HltR.out k h5; omega
        · omega)
      have hbX := HbD.out.trans (Hsep4.out.below hS.out HbD.out.size)
      have HbY := Lib.hid (hbX.trans (Hsep5.out.below hS'.out hbX.size))
      have HS4' := Lib.hid (show ∀ k, S4 k → w.heap.size ≤ k from fun k h => (HS4.out k h).elim (hS.out k) (Nat.le_trans HbD.out.size))
      have HS5' := Lib.hid (show ∀ k, S5 k → w.heap.size ≤ k from fun k h => (HS5.out k h).elim (hS'.out k) (Nat.le_trans hbX.size))
      have hrowY := (HrowD.out.keep (Hsep4.out.block b Hcl.out (fun h => HSb.out b h rfl))).keep (Hsep5.out.block b (Nat.lt_of_lt_of_le Hcl.out Hsep4.out.size) (fun h => HSb'.out b h rfl))
      have hcz := row_second hrowY
      have HrowY := Lib.hid hrowY
      have dnn : (nb != nb) = false := by simp
      have Hfi := Lib.hid (Hfind.out wY p P2 S4 z HfY.out hokz)
      have Hrr := Lib.hid (fun W h => Hrf.out W q P2 S5 z (by omega) HplA.out hokz h)
      generalize Bm.findI T P2 z depth = r at *
      clear HF4 HS4 Hsep4 HS5 Hsep5 hrX hcX hcY hbX hrowY HfD HrD HrowD HSb HSb' HltF HltR HbD cD Hn HR Hcl hS hS' hdis hPp
      go_wp2_with fail
      refine Hfi.out.mono ?_
      rintro e wZ ⟨rfl, hbZ⟩
      have hczZ := row_second (HrowY.out.keep (hbZ.block b HrowY.out.lt))
      have HfZ := Lib.hid (Hbel.out _ _ _ _ _ HfY.out hbZ)
      have HRZ := Lib.hid (HR5.out.below hbZ)
      have HbZ := Lib.hid (HbY.out.trans (hbZ.mono HbY.out.size))
      clear hbZ HbY HfY HR5 hcz HrowY Hfi
      go_wp2_with fail
      refine (Hrr.out _ HRZ.out).mono ?_
      rintro e wU ⟨rfl, m, rfl⟩
      have HfU := Lib.hid (Hbel.out _ _ _ _ _ HfZ.out (below_drewN (Below.refl _ wZ) m))
      have HRU := Lib.hid (HRZ.out.drewN m)
      have HbU := Lib.hid (below_drewN HbZ.out m)
      clear HfZ HRZ HbZ Hrr hczZ
      go_wp2
      go_roundw
      case rel => exact ⟨i + 1, P2, S4, S5, by omega, by go_num, by omega, HplA, HfU, HRU, Hdis2, HS4', HS5', HbU⟩
      case measure => simp [intOf]; omega
    · obtain rfl : i = n := by omega
      clear hin
      have Hle := Lib.hid (Hlen.out wr p P S1 hf.out)
      go_wp2_with fail
      refine Hle.out.mono ?_
      rintro e wL ⟨rfl, hbL⟩
      have HbL := Lib.hid (hb.out.trans (hbL.mono hb.out.size))
      clear hbL hb Hle
      go_wp2
      go_ret
      exact ⟨rfl, HbL.out⟩
end Go.Proofs.Ytjoohdeeihjilaa
