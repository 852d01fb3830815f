/-
  Layer 8 (header): a Writer where a Reader is written; the laws' awake, by its walk: true. Premises: what the calls of layer 8 answer.
-/
import Derived.Test.YtefcahmhfjblpaaHh
import Derived.Test.YtefcahmhfjblpaaWj
import Derived.Deep.DeepCutAuto
namespace Go.Proofs.Ytefcahmhfjblpaa
open Go.RowKit

theorem Chain.keepR {w w' : World} {br : Nat} {s : ByteArray} (hr : w.cell? ⟨br, 0, none⟩ = some (.string s)) (hg : w.grownBy w' (some br)) : ∀ (us : List Nat) (p : Option Addr), Chain w p us → Chain w' p us
  | [], _, h => h
  | u :: us, _, ⟨g, q, hp, hrow, hc⟩ => by
    have hne : g ≠ br := by
      rintro rfl
      have h1 := hrow.cell 0
      rw [hr] at h1
      simp at h1
    exact ⟨g, q, hp, hrow.keep (hg.block g hrow.lt (fun e => hne (by injection e))), Chain.keepR hr hg us q hc⟩
/-- A Writer stays as it is where a Reader is written. -/
theorem WS.keepR {w w' : World} {b N n br pos : Nat} {bs : List Nat} (h : WS w b 0 N n) (hr : RS w br 0 bs pos) (hg : w.grownBy w' (some br)) : WS w' b 0 N n := by
  obtain ⟨p, rest, us, h0, h1, h2, f0, f1, f2, hn, hc, hw⟩ := h
  have hne : b ≠ br := by
    rintro rfl
    rw [hr.1] at h0
    cases h0
  have hl := hg.block b hn.lt (fun e => hne (by injection e))
  exact ⟨p, rest, us, (World.cell?_of_block hl).trans h0, (World.cell?_of_block hl).trans h1, (World.cell?_of_block hl).trans h2, (World.frozen?_of_block hl).trans f0, (World.frozen?_of_block hl).trans f1,
    (World.frozen?_of_block hl).trans f2, hn.keep hl, Chain.keepR hr.1 hg us p hc, hw⟩
theorem WS.below {w w' : World} {b off N n : Nat} (h : WS w b off N n) (hb : Below w.heap.size w w') : WS w' b off N n := h.keep (row := none) (grown_below hb none) (by simp) (by simp)
theorem RS.below {w w' : World} {b off pos : Nat} {bs : List Nat} (h : RS w b off bs pos) (hb : Below w.heap.size w w') : RS w' b off bs pos := h.keep (row := none) (grown_below hb none) (by simp)

/-- A new Writer. -/
theorem new_writer (w : World) : ∃ w0 b, w0 = w.alloc (.cells #[.pointer none, .int .u64 0, .int .i64 0] 27) ∧ b = w.heap.size ∧ WS w0 b 0 0 0 ∧ Below w.heap.size w w0 ∧ b < w0.heap.size :=
  ⟨_, _, rfl, rfl, WS.new w 27 notW, (Below.refl _ _).alloc (Nat.le_refl _) _, by simp⟩

theorem hdr_248 : Bm.hdrA [24, 8] 5 = (4288, 13) := by decide +kernel
theorem take_248 : Bm.takeA (Bm.valB (Bm.bytesOf 4288 2) / 2 ^ 0) (8 * 2 - 0) = some ([24, 8], 5, 3) := by decide +kernel
theorem fair_h248 : Bm.Fair [24, 8] 5 := by decide
set_option maxHeartbeats 1000000 in
set_option maxRecDepth 100000 in
theorem hawake_of (hH : HdrOk) (w : World) : Calls Try.prog 6 #[] w fun e w' => e = .returned (.bool true) ∧ Below w.heap.size w w' := by
  have h1 : Hid (∀ w b, WS w b 0 0 0 → b < w.heap.size → Calls Try.prog 8 #[.pointer (some ⟨b, 0, none⟩), .slice (some ⟨w.heap.size, 0, none⟩) 2 2, .int .i64 5] (w.alloc (.cells #[.int .i64 24, .int .i64 8] 3)) fun e w' => e = .returned (.bool true) ∧ WS w' b 0 4288 13 ∧ w.grownBy w' (some b)) := Lib.hid (fun w b hws hlt => by
    have hal := (Below.refl w.heap.size w).alloc (Nat.le_refl _) (.cells #[.int .i64 24, .int .i64 8] 3)
    have h := hH.put _ b 0 0 0 (some ⟨w.heap.size, 0, none⟩) 2 [24, 8] 5 (by decide) (hws.below hal) (by decide) (by simp [Bm.IntOk]) (by simp [Bm.IntOk]) (reads_new w [24, 8]) (fun a e _ => by injection e with e; rw [← e]; exact Nat.ne_of_gt hlt) fair_h248
    have e : Bm.hdrA ([24, 8].map Int.toNat) (5 : Int).toNat = (4288, 13) := hdr_248
    rw [e] at h
    exact h.mono fun e w' ⟨he, hw', hg⟩ => ⟨he, by simpa using hw', ⟨hg.os.trans hal.os, hg.tape.trans hal.tape, hg.output.trans hal.output, Nat.le_trans hal.size hg.size, fun i hi hne => (hg.block i (Nat.lt_of_lt_of_le hi hal.size) hne).trans (hal.block i hi)⟩⟩)
  have h2 : Hid (∀ w b, WS w b 0 4288 13 → Calls Try.prog 13 #[.pointer (some ⟨b, 0, none⟩)] w fun e w' => ∃ g, e = .returned (.slice (some ⟨g, 0, none⟩) 2 2) ∧ Reads w' (some ⟨g, 0, none⟩) (u8s (Bm.bytesOf 4288 2)) ∧ Below w.heap.size w w') := Lib.hid (fun w b hws => (bytes_any b 0 4288 13 w (by decide) hws).mono fun e w' ⟨g, he, _, hrow, hb⟩ => ⟨g, he, row_reads hrow, hb⟩)
  have h3 : Hid (∀ w g, Reads w (some ⟨g, 0, none⟩) (u8s (Bm.bytesOf 4288 2)) → Calls Try.prog 16 #[.slice (some ⟨g, 0, none⟩) 2 2] w fun e w' => e = .returned (.pointer (some ⟨w.heap.size, 0, none⟩)) ∧ RS w' w.heap.size 0 (Bm.bytesOf 4288 2) 0 ∧ Below w.heap.size w w') := Lib.hid (fun w g hr => newr_n (some ⟨g, 0, none⟩) 2 2 (Bm.bytesOf 4288 2) w (by simp [Bm.bytesOf_length]) (Bm.bytesOf_lt _ _) hr)
  have h4 : Hid (∀ w b, RS w b 0 (Bm.bytesOf 4288 2) 0 → Calls Try.prog 18 #[.pointer (some ⟨b, 0, none⟩)] w fun e w' => ∃ g off c, e = .returned (.tuple #[.slice (some ⟨g, off, none⟩) 2 c, .int .i64 5, .bool true]) ∧ w'.cell? ⟨g, off, none⟩ = some (.int .i64 24) ∧ w.grownBy w' (some b)) := Lib.hid (fun w b hrs => by
    have h := hH.take w b 0 0 (Bm.bytesOf 4288 2) (by simp [Bm.bytesOf_length]) (Bm.bytesOf_lt _ _) (by omega) hrs
    rw [show (Bm.bytesOf 4288 2).length = 2 by simp [Bm.bytesOf_length], take_248] at h
    refine h.mono ?_
    rintro e w' ⟨⟨A, c, rfl, hr⟩, hg, _⟩
    obtain ⟨g, off, rfl, hc⟩ := hr (by simp [i64s])
    exact ⟨g, off, c, rfl, hc 0 (by simp [i64s]), hg⟩)
  have h5 : Hid (∀ w b, WS w b 0 4288 13 → Calls Try.prog 10 #[.pointer (some ⟨b, 0, none⟩)] w fun e w' => e = .returned (.int .i64 13) ∧ w = w') := Lib.hid (fun w b hws => len_any b 0 13 w hws.len_cell)
  clear hH
  obtain ⟨b, hb⟩ : ∃ b, b = w.heap.size := ⟨_, rfl⟩
  obtain ⟨w0, hw0⟩ : ∃ w0, w0 = w.alloc (.cells #[.pointer none, .int .u64 0, .int .i64 0] 27) := ⟨_, rfl⟩
  have Hws0 : Hid (WS w0 b 0 0 0) := Lib.hid (by rw [hw0, hb]; exact WS.new w 27 notW)
  have Hb0 : Hid (Below w.heap.size w w0) := Lib.hid (by rw [hw0]; exact (Below.refl _ _).alloc (Nat.le_refl _) _)
  have Hbl : Hid (b < w0.heap.size) := Lib.hid (by rw [hw0, hb]; simp)
  have Hb := Lib.hid hb
  have Hw0 := Lib.hid hw0
  clear hb hw0
  go_enter Try.func6, Try.ntmps6
  go_upto_region 2 with fail
  rw [← Hw0.out, ← Hb.out]
  go_wp2_with fail
  refine (h1.out w0 b Hws0.out Hbl.out).mono ?_
  rintro e w1 ⟨rfl, hws1, hg1⟩
  have Hws1 := Lib.hid hws1
  have Hb1 : Hid (Below w.heap.size w w1) := Lib.hid (Hb0.out.grown hg1 Hb0.out.size (fun k e => by injection e with e; rw [← e, Hb.out]; exact Nat.le_refl _))
  clear hws1 hg1 Hws0
  go_wp2_with fail
  refine (h2.out w1 b Hws1.out).mono ?_
  rintro e w2 ⟨g2, rfl, hr2, hb2⟩
  have Hb2 := Lib.hid (Hb1.out.trans (hb2.mono Hb1.out.size))
  have Hws2 := Lib.hid (Hws1.out.below hb2)
  have Hr2 := Lib.hid hr2
  clear hb2 hr2 Hb1 Hws1
  go_wp2_with fail
  refine (h3.out w2 g2 Hr2.out).mono ?_
  rintro e w3 ⟨rfl, hrs3, hb3⟩
  have Hb3 := Lib.hid (Hb2.out.trans (hb3.mono Hb2.out.size))
  have Hws3 := Lib.hid (Hws2.out.below hb3)
  have Hrs3 := Lib.hid hrs3
  have Hsz := Lib.hid Hb2.out.size
  clear hb3 hrs3 Hb2 Hws2 Hr2
  generalize w2.heap.size = br at *
  go_wp2_with fail
  refine (h4.out w3 br Hrs3.out).mono ?_
  rintro e w4 ⟨g4, off4, c4, rfl, hc4, hg4⟩
  have Hb4 : Hid (Below w.heap.size w w4) := Lib.hid (Hb3.out.grown hg4 Hb3.out.size (fun k e => by injection e with e; rw [← e]; exact Hsz.out))
  have Hws4 := Lib.hid (Hws3.out.keepR Hrs3.out hg4)
  clear hg4 Hb3 Hws3 Hrs3
  go_wp2_with fail
  refine (h5.out w4 b Hws4.out).mono ?_
  rintro e w' ⟨rfl, rfl⟩
  go_wp2
  go_ret
  exact ⟨rfl, Hb4.out⟩
end Go.Proofs.Ytefcahmhfjblpaa
