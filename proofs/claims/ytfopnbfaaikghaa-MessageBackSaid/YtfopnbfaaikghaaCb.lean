/-
  Layer 3 (cursor), the Writer, each by its walk: Raw, Fixed, Group, Text. Conditions: as each theorem's premises say (up to a hundred million bytes).
-/
import Derived.Test.YtfopnbfaaikghaaCa
namespace Go.Proofs.Ytfopnbfaaikghaa
open Go.RowKit

set_option maxHeartbeats 400000 in
set_option maxRecDepth 100000 in
theorem wraw_nil (s : ByteArray) (w : World) : Calls Try.prog 36 #[.pointer none, .string s] w fun e w' => e = .returned (.pointer none) ∧ w = w' := by
  go_enter Try.func36, Try.ntmps36
  go_wp2
  go_ret
  exact ⟨rfl, rfl⟩
set_option maxHeartbeats 400000 in
set_option maxRecDepth 100000 in
theorem wraw_empty (a : Addr) (w : World) : Calls Try.prog 36 #[.pointer (some a), .string (strOf [])] w fun e w' => e = .returned (.pointer (some a)) ∧ w = w' := by
  have he : (strOf []).toList.isEmpty = true := by rw [emptyB]; rfl
  generalize strOf [] = s at he ⊢
  go_enter Try.func36, Try.ntmps36
  go_wp2
  go_ret
  exact ⟨rfl, rfl⟩
/-- The world behind one piece more. -/
def more (w : World) (b : Nat) (p : Option Addr) (n : Int) (s : ByteArray) : World :=
  ((w.setCell ⟨b, 0, none⟩ (.pointer (some ⟨w.heap.size, 0, none⟩))).setCell ⟨b, 1, none⟩ (.int .i64 n)).alloc (.cells #[.pointer p, .string s] 72)
theorem cw_more {w : World} {b : Nat} {p : Option Addr} {ts : List (List Nat)} {n : Int} (s : List Nat) (hs : s ≠ []) (h0 : Row w b 49 [.pointer p, .int .i64 n]) (hc : PC w p ts) :
    CW (more w b p ((ts.reverse.flatten.length : Int) + (s.length : Int)) (strOf s)) b (ts.reverse.flatten ++ s) ∧ w.grownBy (more w b p ((ts.reverse.flatten.length : Int) + (s.length : Int)) (strOf s)) (some b) := by
  have hb := h0.lt
  have hg : w.grownBy (more w b p ((ts.reverse.flatten.length : Int) + (s.length : Int)) (strOf s)) (some b) :=
    grown_alloc (grown_set (grown_set (grown_refl _ _) _ _) _ _) _
  refine ⟨⟨some ⟨w.heap.size, 0, none⟩, s :: ts, ?_, ⟨w.heap.size, p, rfl, ?_, hs, hc.keep (pieces_grown hg (fun g e => ?_))⟩, by simp⟩, hg⟩
  · have h1 := ((h0.set_ 0 (.pointer (some ⟨w.heap.size, 0, none⟩))).set_ 1 (.int .i64 ((ts.reverse.flatten.length : Int) + (s.length : Int)))).alloc (.cells #[.pointer p, .string (strOf s)] 72)
    rw [List.length_append, Int.natCast_add]
    exact h1
  · have h1 := Row.new ((w.setCell ⟨b, 0, none⟩ (.pointer (some ⟨w.heap.size, 0, none⟩))).setCell ⟨b, 1, none⟩ (.int .i64 ((ts.reverse.flatten.length : Int) + (s.length : Int)))) 72 [.pointer p, .string (strOf s)]
    simpa [more] using h1
  · injection e with e
    subst e
    exact h0.notT (by decide)
set_option maxHeartbeats 400000 in
set_option maxRecDepth 100000 in
theorem wraw_some (b : Nat) (bs s : List Nat) (w : World) (hs : s ≠ []) (hl : bs.length + s.length ≤ 1000000000) (h : CW w b bs) :
    Calls Try.prog 36 #[.pointer (some ⟨b, 0, none⟩), .string (strOf s)] w fun e w' => e = .returned (.pointer (some ⟨b, 0, none⟩)) ∧ CW w' b (bs ++ s) ∧ w.grownBy w' (some b) := by
  obtain ⟨p, ts, h0, hc, e⟩ := h
  have hend := cw_more s hs h0 hc
  have c0 := h0.cell 0
  have c1 := h0.cell 1
  have f0 := h0.free 0
  have f1 := h0.free 1
  have hbl := h0.lt
  simp only [List.getElem?_cons_zero, List.getElem?_cons_succ] at c0 c1
  rw [← e] at hend
  have he : (strOf s).toList.isEmpty = false := by rw [emptyB]; simp [hs]
  have hsz := strOf_size s
  have Hend := Lib.hid hend
  clear hend h0 hc e hs
  generalize strOf s = str at he hsz Hend ⊢
  go_enter Try.func36, Try.ntmps36
  go_wp2
  go_ret
  exact ⟨rfl, Hend.out.1, Hend.out.2⟩
theorem wraw_any (b : Nat) (bs s : List Nat) (w : World) (hl : bs.length + s.length ≤ 1000000000) (h : CW w b bs) :
    Calls Try.prog 36 #[.pointer (some ⟨b, 0, none⟩), .string (strOf s)] w fun e w' => e = .returned (.pointer (some ⟨b, 0, none⟩)) ∧ CW w' b (bs ++ s) ∧ w.grownBy w' (some b) := by
  by_cases hs : s = []
  · subst hs
    exact (wraw_empty _ w).mono fun e w' ⟨he, hw⟩ => by subst hw; exact ⟨he, by rw [List.append_nil]; exact h, grown_refl _ _⟩
  · exact wraw_some b bs s w hs hl h

theorem fill_all (v m : Nat) (h : m ≤ 8) : (Bm.fillB (List.replicate 8 0) 0 8 v).take m = Bm.bytesOf v m := by
  have e : Bm.fillB (List.replicate 8 0) 0 8 v = Bm.bytesOf v 8 := by simp [Bm.fillB]
  rw [e, Bm.bytesOf_take _ _ _ h]
theorem row_fill8 {w : World} {g k v : Nat} {cs : List Nat} {t : TypeId} (hl : k < cs.length) (h : Row w g t (u8s (Bm.fillB cs 0 k v))) :
    Row (w.setCell ⟨g, k, none⟩ (.int .u8 ((v / 256 ^ k % 256 : Nat) : Int))) g t (u8s (Bm.fillB cs 0 (k + 1) v)) := by
  have h1 := h.set_ k (.int .u8 ((v / 256 ^ k % 256 : Nat) : Int))
  have h2 := Bm.fillB_step cs 0 k v (by omega)
  rw [Nat.zero_add] at h2
  rw [u8s_set, h2] at h1
  exact h1
/-- The first m cells of a row, as a string. -/
theorem conv_row {w : World} {g m c : Nat} {t : TypeId} {cs : List Nat} (h : Row w g t (u8s cs)) (hm : m ≤ cs.length) (hlt : ∀ x ∈ cs, x < 256) :
    (convert 64 9 (.slice (some ⟨g, 0, none⟩) m c)).run Try.prog w = .ok (.string (strOf (cs.take m))) w := by
  have h1 := conv_bytes w (some ⟨g, 0, none⟩) c (cs.take m) (take_lt hlt m) (fun _ => ⟨g, 0, rfl, fun j hj => by
    have hj' : j < m := by simp [u8s] at hj; omega
    rw [Nat.zero_add, h.cell j]
    simp [u8s, hj']⟩)
  rw [List.length_take, Nat.min_eq_left hm] at h1
  exact h1

set_option maxRecDepth 100000 in
theorem slice_a8 (g m : Nat) (W : World) (h : m ≤ 8) : (Instr.sliceAt 69 (.pointer (some ⟨g, 0, none⟩)) none (some (.int .i64 (m : Int))) none).run Try.prog W = .ok (.slice (some ⟨g, 0, none⟩) m 8) W := by
  have hl : Try.prog.arrayLen 69 = 8 := by kernel_rfl
  have he : Try.prog.elem 69 = 5 := by kernel_rfl
  rw [run_sliceAt_array_h W 69 ⟨g, 0, none⟩ (by kernel_rfl) .i64 m (by omega) (by rw [hl]; omega), hl, he]
  go_simp
theorem grown_trans {w w1 w2 : World} {row : Option Nat} (h : w.grownBy w1 row) (h2 : w1.grownBy w2 row) : w.grownBy w2 row :=
  ⟨h2.os.trans h.os, h2.tape.trans h.tape, h2.output.trans h.output, Nat.le_trans h.size h2.size, fun i hi hn => (h2.block i (Nat.lt_of_lt_of_le hi h.size) hn).trans (h.block i hi hn)⟩

set_option maxHeartbeats 1000000 in
set_option maxRecDepth 100000 in
theorem wfixed_any (b v : Nat) (n : Int) (bs : List Nat) (w : World) (hn0 : -9223372036854775808 ≤ n) (hn1 : n ≤ 9223372036854775807) (hv : v < 2 ^ 64) (hl : bs.length ≤ 100000000) (h : CW w b bs) :
    Calls Try.prog 17 #[.pointer (some ⟨b, 0, none⟩), .int .u64 (v : Int), .int .i64 n] w fun e w' => e = .returned (.pointer (some ⟨b, 0, none⟩)) ∧ CW w' b (bs ++ Bm.bytesOf v (fx n)) ∧ w.grownBy w' (some b) := by
  have hfx := fx_le n
  have Hf := Lib.hid (fun w => cfixed_any n w hn0 hn1)
  have Hcw := Lib.hid h
  have Hl := Lib.hid hl
  have hg : Row (w.alloc (.cells (u8s (List.replicate 8 0)).toArray 69)) w.heap.size 69 (u8s (List.replicate 8 0)) := Row.new w _ _
  have Hg := Lib.hid hg
  have h64 : v ≤ 18446744073709551615 := by omega
  clear h hl hg hv
  generalize fx n = m at hfx Hf ⊢
  go_enter Try.func17, Try.ntmps17
  go_wp2
  go_loopw [9] (fun i wr => ∃ k : Nat, k ≤ 8 ∧ i = .int .i64 (k : Int) ∧ Hid (Row wr w.heap.size 69 (u8s (Bm.fillB (List.replicate 8 0) 0 k v))) ∧ Hid (Below w.heap.size w wr)) (fun i _ => 8 - (intOf i).toNat)
  case atStart => exact ⟨0, by omega, rfl, Hg.out, (Below.refl _ _).alloc (Nat.le_refl _) _⟩
  case round =>
    obtain ⟨k, hk, rfl, hrow, hbel⟩ := hrel
    have hlen : (Bm.fillB (List.replicate 8 0) 0 k v).length = 8 := by rw [Bm.fillB_length _ _ _ _ (by simp; omega)]; simp
    by_cases hlt : k < 8
    · have hcell := hrow.out.cell k
      have hfree := hrow.out.free k
      rw [u8s_get? _ _ (by omega)] at hcell
      generalize (Bm.fillB (List.replicate 8 0) 0 k v)[k] = old at hcell
      clear hlen
      go_wp2
      rw [byte_val]
      go_roundw
      case rel => exact ⟨k + 1, by omega, by go_num, row_fill8 (by simp; omega) hrow.out, hbel.out.setCell (Nat.le_refl _) _⟩
      case measure => simp [intOf]; omega
    · obtain rfl : k = 8 := by omega
      have hconv := conv_row (m := m) (c := 8) hrow.out (by omega) (fun x hx => by
        simp [Bm.fillB] at hx
        exact Bm.bytesOf_lt _ _ x hx)
      rw [fill_all _ _ hfx] at hconv
      have hcw := Hcw.out.below hbel.out
      have hlen2 : bs.length + (Bm.bytesOf v m).length ≤ 1000000000 := by rw [Bm.bytesOf_length]; have := Hl.out; omega
      have Hraw := Lib.hid (wraw_any b bs _ wr hlen2 hcw)
      have hsl := slice_a8 w.heap.size m wr hfx
      have Hgr := Lib.hid (grown_below hbel.out (some b))
      clear hlen hlen2 hcw hlt
      generalize strOf (Bm.bytesOf v m) = str at hconv Hraw
      go_wp2_with fail
      refine (Hf.out _).mono ?_
      rintro e w' ⟨rfl, rfl⟩
      go_wp2_with fail
      refine Hraw.out.mono ?_
      rintro e w' ⟨rfl, hcw', hgr'⟩
      go_wp2
      go_ret
      exact ⟨rfl, hcw', grown_trans Hgr.out hgr'⟩
end Go.Proofs.Ytfopnbfaaikghaa
