/-
  The laws' awake of layer 24 (frame), by its walk: true. No condition.
-/
import Derived.Test.YtckmdeiahpijcaaRk
namespace Go.Proofs.Ytckmdeiahpijcaa
open Go.RowKit

theorem frx_ok : Bm.FrOk (10, [120]) := ⟨by decide, by decide, by decide, by decide⟩
set_option maxHeartbeats 2000000 in
set_option maxRecDepth 100000 in
theorem frawake_any (w : World) : Calls Try.prog 7 #[] w fun e w' => e = .returned (.bool true) ∧ Below w.heap.size w w' := by
  have Henc := Lib.hid (frenc_yes (10, [120]) w frx_ok)
  have Hnew := Lib.hid (fun W => ppnew_any 99 W)
  rw [show Bm.mostN 99 = 99 by decide] at Hnew
  have hlen : (Bm.bytesF (10, [120])).length = 12 := Bm.bytesF_length _
  have hlt := Bm.bytesF_lt frx_ok
  have Hsnd := Lib.hid (fun p W (h : PI W p [] [] 99 Bm.H0 0) => ppsend_yes p [] [] 99 Bm.H0 0 (Bm.bytesF (10, [120])) W (by rw [hlen]; decide) hlt h)
  have hil : (Bm.itms true (Bm.bytesF (10, [120]))).length = 12 := by simp [Bm.itms, hlen]
  have Hdel := Lib.hid (fun p W (h : PI W p [] (Bm.itms true (Bm.bytesF (10, [120]))) 99 Bm.H0 0) => ppdel_any p [] (Bm.itms true (Bm.bytesF (10, [120]))) 99 Bm.H0 0 99 12 W (by rw [hil]; decide) h)
  have hcutF : Bm.Cutting [(10, [120])] [] (Bm.bytesF (10, [120]) ++ []) := by
    have h1 := Bm.Cutting.new [(10, [120])] (fun f hf => by rw [List.mem_singleton.1 hf]; exact frx_ok)
    rw [show Bm.flatF [(10, [120])] = Bm.bytesF (10, [120]) ++ [] from rfl] at h1
    exact h1
  have Htk := Lib.hid (fun p c W (hpc : p ≠ c) (hp : PI W p (Bm.itms true (Bm.bytesF (10, [120]))) [] 99 Bm.H0 0) (hc : CuI W c [] []) => frtake_any p c 99 [] [] [] (Bm.bytesF (10, [120])) [] [(10, [120])] W hpc hlt (by rw [hlen]; decide) (by decide) hp hc hcutF)
  have hsz : (strOf (Bm.bytesF (10, [120]))).size = 12 := by rw [strOf_size, hlen]
  have htake : (Bm.itms true (Bm.bytesF (10, [120]))).take 12 = Bm.itms true (Bm.bytesF (10, [120])) := List.take_of_length_le (by rw [hil]; decide)
  have hdrop : (Bm.itms true (Bm.bytesF (10, [120]))).drop 12 = [] := List.drop_of_length_le (by rw [hil]; decide)
  rw [htake, hdrop] at Hdel
  simp only [List.nil_append] at Hsnd Hdel
  have hguard := fr_guard
  have heq : ∀ W, (binOp .eql 30 (.agg #[.int .i64 10, .string ⟨#[120]⟩]) (.agg #[.int .i64 10, .string ⟨#[120]⟩])).run Try.prog W = .ok (.bool true) W := fun W => by
    have h1 := fr_eql (10, [120]) (10, [120]) W (by decide) (by decide)
    rw [show decide (((10, [120]) : Bm.Frm) = (10, [120])) = true from decide_eq_true rfl] at h1
    exact h1
  have Hfl : Hid ((Bm.bytesF (10, [120])).length = 12) := Lib.hid hlen
  clear hlen hlt hil hcutF htake hdrop
  unfold frV at Henc
  rw [show strOf [120] = ⟨#[120]⟩ from rfl] at Henc
  dsimp only at Henc
  generalize Bm.bytesF (10, [120]) = bs at *
  generalize strOf bs = ts at *
  go_enter Try.func7, Try.ntmps7
  go_wp2_with fail
  refine Henc.out.mono ?_
  rintro e w1 ⟨rfl, hb1⟩
  have HB1 := Lib.hid hb1
  clear hb1 Henc
  go_wp2_with fail
  refine (Hnew.out w1).mono ?_
  rintro e w2 ⟨p, rfl, hp2, hpl, hb2⟩
  have HB2 := Lib.hid (HB1.out.trans (hb2.mono HB1.out.size))
  have Hpl : Hid (w.heap.size ≤ p) := Lib.hid (Nat.le_trans HB1.out.size hpl)
  have Hs2 := Lib.hid (Hsnd.out p w2 hp2)
  clear hp2 hpl hb2 HB1 Hnew Hsnd
  go_wp2_with fail
  refine Hs2.out.mono ?_
  rintro e w3 ⟨rfl, hp3, hg3⟩
  have HB3 := Lib.hid (HB2.out.trans (below_grown hg3 Hpl.out HB2.out.size))
  have Hd3 := Lib.hid (Hdel.out p w3 hp3)
  clear hp3 hg3 HB2 Hs2 Hdel
  go_wp2_with fail
  refine Hd3.out.mono ?_
  rintro e w4 ⟨rfl, hp4, hg4⟩
  have HB4 := Lib.hid (HB3.out.trans (below_grown hg4 Hpl.out HB3.out.size))
  have Hp4 := Lib.hid hp4
  clear hp4 hg4 HB3 Hd3
  go_wp2_with fail
  refine (frnew_any w4).mono ?_
  rintro e w5 ⟨c, rfl, hc5, hcl, hb5⟩
  have HB5 := Lib.hid (HB4.out.trans (hb5.mono HB4.out.size))
  have Hcl : Hid (w.heap.size ≤ c) := Lib.hid (Nat.le_trans HB4.out.size hcl)
  have hpc : p ≠ c := by have := Hp4.out.lt; omega
  have Ht5 := Lib.hid (Htk.out p c w5 hpc (Hp4.out.keep (hb5.block p Hp4.out.lt)) hc5)
  clear hc5 hcl hb5 HB4 Hp4 hpc Htk
  go_wp2_with fail
  refine Ht5.out.mono ?_
  rintro e w6 ⟨v, rfl, ⟨F1, F2, rest, hFe, hfo, hci, hcut⟩, hpi, htw⟩
  have hF2 : F2 = [] := by
    rw [List.drop_length, List.append_nil] at hcut
    exact hcut.done
  rw [hF2, List.append_nil] at hFe
  subst hFe
  have HB6 := Lib.hid (htw.toBelow HB5.out Hpl.out Hcl.out HB5.out.size)
  obtain ⟨A, cp, hv, h1, h2, hr, _⟩ := hfo.reads
  subst hv
  obtain ⟨g, off, rfl, hg, hce⟩ := hr (by decide)
  have c0 : w6.cell? ⟨g, off, none⟩ = some (.int .i64 10) := (hce 0 (by decide)).1
  have c1 : w6.cell? ⟨g, off + 1, none⟩ = some (.string ⟨#[120]⟩) := by
    have h3 := (hce 0 (by decide)).2
    rw [Nat.zero_mul, Nat.add_zero] at h3
    exact h3
  clear hfo hci hcut hpi htw hr hce HB5 Ht5 hF2
  go_wp2
  go_ret
  exact ⟨rfl, HB6.out⟩
end Go.Proofs.Ytckmdeiahpijcaa
