/-
  The program's layer 19 (train): best: the piece that is worth most, taken off the heap and looked at again, by its walk. Conditions: as the theorem's premises say.
-/
import Derived.Test.YtaebnkeddcbmkaaGf
import Derived.Test.YtaebnkeddcbmkaaGq
import Derived.Test.YtaebnkeddcbmkaaGt
namespace Go.Proofs.Ytaebnkeddcbmkaa
open Go.RowKit Go.Maps Go.Proofs.Ytaebnkeddcbmkaa.Bm
/-- What a text is worth by weights. -/
def wor (F : ByteArray → Option Nat) (t : ByteArray) : Nat := gsum (val F) [] (gms t)
/-- A heap in memory, wherever its pieces lie. -/
def PilO (w : World) (base p : Nat) (L : List Pce) : Prop := Bm.HeapQ L L.length ∧ ∃ g cap, PilQ w base p g cap L
/-- What best answers, and leaves. -/
def BestP (base p : Nat) (F : ByteArray → Option Nat) (C : List ByteArray) (w : World) (e : Ending) (w' : World) : Prop :=
  ((∃ (x : Pce) (L' : List Pce), e = .returned (.tuple #[pcV x, .bool true]) ∧ 0 < x.2.1 ∧ scan (wor F) C (⟨#[]⟩, 0) = (x.1, x.2.1) ∧ HInv C (wor F) (x :: L') ∧ L'.length ≤ 100000 ∧ PilO w' base p L') ∨
    (e = .returned (.tuple #[pcV pce0, .bool false]) ∧ scan (wor F) C (⟨#[]⟩, 0) = (⟨#[]⟩, 0))) ∧ KeptQ base w w'
/-- What is held in best's rounds. -/
def BestI (base p g0 : Nat) (C : List ByteArray) (v : ByteArray → Nat) (w1 wr : World) (L : List Pce) (g cap : Nat) : Prop :=
  L.length ≤ 100000 ∧ Bm.HeapQ L L.length ∧ PilQ wr base p g cap L ∧ HInv C v L ∧ KeptW base p g0 w1 wr ∧ (g = g0 ∨ w1.heap.size ≤ g)
theorem KeptQ.after {base B : Nat} {w w2 w3 : World} (h : KeptQ base w w2) (hB : Below B w2 w3) (hb : base ≤ B) (hw : w.heap.size ≤ B) : KeptQ base w w3 :=
  ⟨h.bel.trans (hB.mono hb), fun b h1 h2 => (hB.block b (Nat.lt_of_lt_of_le h1 hw)).trans (h.blk b h1 h2)⟩
theorem best_found {base p : Nat} {F : ByteArray → Option Nat} {C : List ByteArray} {w w2 w3 : World} {L' : List Pce} {g cap : Nat} {x : Pce} (hb : base ≤ w.heap.size) (hi : HInv C (wor F) (x :: L')) (hl : L'.length ≤ 100000) (hle : ∀ y ∈ L', ¬ Bm.lt3 y x) (hh : Bm.HeapQ L' L'.length)
    (he : wor F x.1 = x.2.1) (hpl : PilQ w3 base p g cap L') (hk : KeptQ base w w2) (hB : Below w.heap.size w2 w3) :
    BestP base p F C w (.returned (.tuple #[pcV x, .bool true])) w3 :=
  ⟨.inl ⟨x, L', rfl, (hi.1 x List.mem_cons_self).2.1, by rw [hinv_first hi hle he, he], hi, hl, ⟨hh, g, cap, hpl⟩⟩, hk.after hB hb (Nat.le_refl _)⟩
/-- Three cells of one block, and one block more. -/
theorem set_three {w : World} {b B : Nat} (u v y : Value) (o : Obj) (hb : B ≤ b) (hB : B ≤ w.heap.size) : Below B w ((((w.setCell ⟨b, 0, none⟩ u).setCell ⟨b, 1, none⟩ v).setCell ⟨b, 2, none⟩ y).alloc o) :=
  below_grown (grown_alloc (grown_set (grown_set (grown_set (grown_refl w (some b)) 0 u) 1 v) 2 y) o) hb hB
theorem pil_three {w : World} {base p g cap b : Nat} {L : List Pce} (h : PilQ w base p g cap L) (hp : p ≠ b) (hg : g ≠ b) (u v y : Value) (o : Obj) : PilQ ((((w.setCell ⟨b, 0, none⟩ u).setCell ⟨b, 1, none⟩ v).setCell ⟨b, 2, none⟩ y).alloc o) base p g cap L := by
  have hgr := grown_alloc (grown_set (grown_set (grown_set (grown_refl w (some b)) 0 u) 1 v) 2 y) o
  obtain ⟨_, _, hr⟩ := h.row
  exact h.keepb (hgr.block p h.var.lt (by intro e; injection e with e; exact hp e)) (hgr.block g hr.lt (by intro e; injection e with e; exact hg e))
set_option maxHeartbeats 1000000 in
set_option maxRecDepth 100000 in
theorem tbest_any (base p bw n g0 cap0 : Nat) (F : ByteArray → Option Nat) (C : List ByteArray) (L0 : List Pce) (w : World) (hb : base ≤ w.heap.size) (hL : L0.length ≤ 100000) (hC : ∀ t ∈ C, t.size ≤ 16) (hF : ∀ g, val F g ≤ 1000)
    (hh : Bm.HeapQ L0 L0.length) (hpl : PilQ w base p g0 cap0 L0) (hi : HInv C (wor F) L0) (hmap : MapP w bw n F) (hmax : MaxB base w) :
    Calls Try.prog 18 #[.pointer (some ⟨p, 0, none⟩), .map (some bw)] w fun e w' => BestP base p F C w e w' := by
  obtain ⟨w1, hw1⟩ : ∃ w1, w1 = w.alloc (.cells #[.string ⟨#[]⟩, .int .i64 0, .int .i64 0] 39) := ⟨_, rfl⟩
  have hbl : Below w.heap.size w w1 := by rw [hw1]; exact (Below.refl _ _).alloc (Nat.le_refl _) _
  have hra : Row w1 w.heap.size 39 [.string ⟨#[]⟩, .int .i64 0, .int .i64 0] := by rw [hw1]; exact Row.new w 39 [.string ⟨#[]⟩, .int .i64 0, .int .i64 0]
  have hplt := hpl.var.lt
  have hglt : g0 < w.heap.size := by obtain ⟨_, _, hr⟩ := hpl.row; exact hr.lt
  have hp1 := hpl.below hbl
  have Hw1 := Lib.hid hw1
  have Hbl := Lib.hid hbl
  have Hra := Lib.hid hra
  have Hb := Lib.hid hb
  have HC := Lib.hid hC
  have HF := Lib.hid hF
  have Hp1 : Hid (∃ L0 cap0, PilQ w1 base p g0 cap0 L0) := Lib.hid ⟨L0, cap0, hp1⟩
  have Hb1 : Hid (base ≤ w1.heap.size) := Lib.hid (Nat.le_trans hb hbl.size)
  have HI0 : Hid (BestI base p g0 C (wor F) w1 w1 L0 g0 cap0) := Lib.hid ⟨hL, hh, hp1, hi, KeptW.refl _ _ _ _, .inl rfl⟩
  have Hm1 := Lib.hid (hmap.below hbl)
  have Hx1 := Lib.hid (hmax.below (hbl.mono hb))
  have Hplt := Lib.hid hplt
  have Hglt := Lib.hid hglt
  clear hbl hra hb hC hF hh hpl hi hmap hmax hL hp1 hplt hglt
  go_enter Try.func18, Try.ntmps18
  go_wp2
  rw [← hw1]
  clear hw1
  go_loopw [13] (fun _ wr => ∃ (L : List Pce) (g cap : Nat), Hid (BestI base p g0 C (wor F) w1 wr L g cap)) (fun _ wr => hmsW wr p)
  case atStart => exact ⟨L0, g0, cap0, HI0⟩
  case round =>
    obtain ⟨L, g, cap, HI⟩ := hrel
    clear HI0
    have c0 := HI.out.2.2.1.cell
    have Hwr : Hid (KeptW base p g0 w1 wr) := Lib.hid HI.out.2.2.2.2.1
    have hrr : Row wr w.heap.size 39 [.string ⟨#[]⟩, .int .i64 0, .int .i64 0] := Hra.out.keep (Hwr.out.blk _ Hra.out.lt (by have := Hplt.out; omega) (by have := Hglt.out; omega))
    have Hrr := Lib.hid hrr
    have Hlen : Hid (∀ W, Calls Try.prog 29 #[.slice (some ⟨g, 0, none⟩) L.length cap] W fun e w' => e = .returned (.int .i64 (L.length : Int)) ∧ W = w') := Lib.hid (fun W => pclen_any (some ⟨g, 0, none⟩) L.length cap W)
    have hl1 := HI.out.1
    by_cases hl0 : L.length = 0
    · have hL0 : L = [] := List.eq_nil_of_length_eq_zero hl0
      have t0 := hrr.cell 0
      have t1 := hrr.cell 1
      have t2 := hrr.cell 2
      have f0 := hrr.free 0
      have f1 := hrr.free 1
      have f2 := hrr.free 2
      simp only [List.getElem?_cons_zero, List.getElem?_cons_succ] at t0 t1 t2
      have s0 := ((hrr.set_ 0 (.string ⟨#[]⟩)).cell 0)
      have s1 := (((hrr.set_ 0 (.string ⟨#[]⟩)).set_ 1 (.int .i64 0)).cell 1)
      have s2 := ((((hrr.set_ 0 (.string ⟨#[]⟩)).set_ 1 (.int .i64 0)).set_ 2 (.int .i64 0)).cell 2)
      simp only [List.set_cons_zero, List.set_cons_succ, List.getElem?_cons_zero, List.getElem?_cons_succ] at s0 s1 s2
      have hkend : KeptQ base w (((wr.setCell ⟨w.heap.size, 0, none⟩ (.string ⟨#[]⟩)).setCell ⟨w.heap.size, 1, none⟩ (.int .i64 0)).setCell ⟨w.heap.size, 2, none⟩ (.int .i64 0)) := by
        obtain ⟨_, _, hq⟩ := Hp1.out
        have hk1 := (KeptQ.below Hbl.out Hb.out).trans (Hwr.out.kept hq)
        refine ⟨hk1.bel.trans (below_grown (grown_set (grown_set (grown_set (grown_refl wr (some w.heap.size)) 0 _) 1 _) 2 _) Hb.out (Nat.le_trans Hb1.out Hwr.out.bel.size)), fun b h1 h2 => ?_⟩
        exact ((grown_set (grown_set (grown_set (grown_refl wr (some w.heap.size)) 0 (.string ⟨#[]⟩)) 1 (.int .i64 0)) 2 (.int .i64 0)).block b (Nat.lt_of_lt_of_le (Nat.lt_of_lt_of_le h1 Hbl.out.size) Hwr.out.bel.size) (by intro e; injection e with e; omega)).trans (hk1.blk b h1 h2)
      have Hend : Hid (BestP base p F C w (.returned (.tuple #[.agg #[.string ⟨#[]⟩, .int .i64 0, .int .i64 0], .bool false])) (((wr.setCell ⟨w.heap.size, 0, none⟩ (.string ⟨#[]⟩)).setCell ⟨w.heap.size, 1, none⟩ (.int .i64 0)).setCell ⟨w.heap.size, 2, none⟩ (.int .i64 0))) := Lib.hid ⟨.inr ⟨rfl, hinv_none (by have := HI.out.2.2.2.1; rw [hL0] at this; exact this)⟩, hkend⟩
      rw [hl0] at c0 Hlen
      clear hrr hkend hL0 hl0
      go_wp2_with fail
      refine (Hlen.out _).mono ?_
      rintro e w2 ⟨rfl, rfl⟩
      clear Hlen
      go_wp2
      exact bodyPost_ret (v := .tuple #[.agg #[.string ⟨#[]⟩, .int .i64 0, .int .i64 0], .bool false]) (by simp [results, Try.results18, go_sem, s0, s1, s2]) rfl Hend.out
    · obtain ⟨m, hm⟩ : ∃ m, L.length = m + 1 := ⟨L.length - 1, by omega⟩
      have Hm := Lib.hid hm
      obtain ⟨⟨tx, a, q⟩, hx⟩ : ∃ x, x = Bm.at3 L 0 := ⟨_, rfl⟩
      have Hpop : Hid (Calls Try.prog 30 #[.iface 36 (.pointer (some ⟨p, 0, none⟩))] wr fun e w' => e = .returned (.iface 39 (.agg #[.string tx, .int .i64 (a : Int), .int .i64 (q : Int)])) ∧ PopW wr w' base p g cap L (tx, a, q)) := by
        have h1 := hqpop_any base p g cap m L wr (Nat.le_trans Hb1.out Hwr.out.bel.size) hl1 hm HI.out.2.1 HI.out.2.2.1
        rw [← hx] at h1
        exact Lib.hid h1
      have hta := fun W => ta_piece (.agg #[.string tx, .int .i64 (a : Int), .int .i64 (q : Int)]) W
      rw [hm] at c0 Hlen hl1
      clear hx hrr hm hl0
      go_wp2_with fail
      refine (Hlen.out _).mono ?_
      rintro e w2 ⟨rfl, rfl⟩
      clear Hlen
      go_wp2_with fail
      refine Hpop.out.mono ?_
      rintro e w2 ⟨rfl, L', hpm, hle, hhp, hpl2, hk2⟩
      have hxi := (hinv_perm hpm.symm HI.out.2.2.2.1)
      obtain ⟨hx1, hx2, hx3⟩ := hxi.1 _ List.mem_cons_self
      obtain ⟨nw, hnw⟩ : ∃ nw, nw = wor F tx := ⟨_, rfl⟩
      have hnw2 : nw ≤ a := by rw [hnw]; exact hx3
      have htx : tx.size ≤ 16 := HC.out tx (List.mem_of_getElem? (show C[q]? = some tx from hx1))
      have hk12 : KeptW base p g0 w1 w2 := HI.out.2.2.2.2.1.trans2 HI.out.2.2.2.2.2 hk2
      have hq1 := Hp1.out
      obtain ⟨L1, cap1, hq1⟩ := hq1
      have hk2q : KeptQ base w w2 := (KeptQ.below Hbl.out Hb.out).trans (hk12.kept hq1)
      have hm2 : MapP w2 bw n F := Hm1.out.keep (hk12.blk bw Hm1.out.lt (Hm1.out.ne hq1.var) (by obtain ⟨_, _, hr⟩ := hq1.row; exact Hm1.out.ne hr))
      have hx2m : MaxB base w2 := Hx1.out.below hk12.bel
      have hal : ∀ o : Obj, Below w2.heap.size w2 (w2.alloc o) := fun o => (Below.refl _ _).alloc (Nat.le_refl _) o
      have Hwor : Hid (Calls Try.prog 27 #[.map (some bw), .string tx] (w2.alloc (.cells #[.string tx, .int .i64 (a : Int), .int .i64 (q : Int)] 39)) fun e w' => e = .returned (.int .i64 (nw : Int)) ∧ w' = w2.alloc (.cells #[.string tx, .int .i64 (a : Int), .int .i64 (q : Int)] 39)) := Lib.hid (by
        rw [hnw]
        exact twworth_any base bw n F tx _ (by omega) HF.out (hm2.below (hal _)) (hx2m.below ((hal _).mono (Nat.le_trans Hb1.out hk12.bel.size))))
      have hl' : L'.length = m := by
        have := hpm.length_eq
        rw [Hm.out, List.length_cons] at this
        omega
      have hrr2 : Row w2 w.heap.size 39 [.string ⟨#[]⟩, .int .i64 0, .int .i64 0] := Hra.out.keep (hk12.blk _ Hra.out.lt (by have := Hplt.out; omega) (by have := Hglt.out; omega))
      have hgr : g ≠ w.heap.size := by
        have h1 := HI.out.2.2.2.2.2
        have h2 := Hra.out.lt
        have h3 := Hglt.out
        rcases h1 with h1 | h1 <;> omega
      have hms : hmsW wr p = a + q + 3 + hmsL (p3 L') := by
        rw [hmsW_pil HI.out.2.2.1, hms_perm hpm, hms_cons]
      have ha3 : a ≤ 100000 * 1000 ∨ True := .inr trivial
      have Hms := Lib.hid hms
      have Hle := Lib.hid hle
      have Hhp := Lib.hid hhp
      have Hpl2 := Lib.hid hpl2
      have Hxi := Lib.hid hxi
      have Hk12 := Lib.hid hk12
      have Hk2q := Lib.hid hk2q
      have Hrr2 := Lib.hid hrr2
      have Hgr := Lib.hid hgr
      have Hnw := Lib.hid hnw
      have Hl' := Lib.hid hl'
      have Hhl := Lib.hid hl1
      have hwb : nw ≤ 100000 := by
        have h1 := wsum_le (val F) 1000 (gms tx) [] (fun g _ => HF.out g)
        rw [gms_length] at h1
        have h2 : nw = gsum (val F) [] (gms tx) := hnw
        omega
      clear ha3 hms hle hhp hpl2 hxi hk12 hk2q hrr2 hgr hnw hl' hq1 hm2 hx2m hal hpm hk2 hx1 hx3 htx Hpop c0
      by_cases hc1 : nw = a
      · have hd : ((nw : Int) == (a : Int)) = true := by rw [hc1]; simp
        have t0 := Hrr2.out.cell 0
        have t1 := Hrr2.out.cell 1
        have t2 := Hrr2.out.cell 2
        have f0 := Hrr2.out.free 0
        have f1 := Hrr2.out.free 1
        have f2 := Hrr2.out.free 2
        have hr3 := ((((Hrr2.out.set_ 0 (.string tx)).set_ 1 (.int .i64 (a : Int))).set_ 2 (.int .i64 (q : Int))).alloc (.cells #[.string tx, .int .i64 (a : Int), .int .i64 (q : Int)] 39))
        have s0 := hr3.cell 0
        have s1 := hr3.cell 1
        have s2 := hr3.cell 2
        simp only [List.set_cons_zero, List.set_cons_succ, List.getElem?_cons_zero, List.getElem?_cons_succ] at t0 t1 t2 s0 s1 s2
        have hsz2 : w.heap.size < w2.heap.size := Hrr2.out.lt
        have Hend : Hid (BestP base p F C w (.returned (.tuple #[.agg #[.string tx, .int .i64 (a : Int), .int .i64 (q : Int)], .bool true])) ((((w2.setCell ⟨w.heap.size, 0, none⟩ (.string tx)).setCell ⟨w.heap.size, 1, none⟩ (.int .i64 (a : Int))).setCell ⟨w.heap.size, 2, none⟩ (.int .i64 (q : Int))).alloc (.cells #[.string tx, .int .i64 (a : Int), .int .i64 (q : Int)] 39))) := Lib.hid
          (best_found (x := (tx, a, q)) Hb.out Hxi.out (by have := Hl'.out; omega) Hle.out Hhp.out (by rw [← Hnw.out]; exact hc1) (pil_three Hpl2.out (by have := Hplt.out; omega) Hgr.out _ _ _ _) Hk2q.out (set_three _ _ _ _ (Nat.le_refl _) (Nat.le_of_lt hsz2)))
        clear hr3
        subst hc1
        go_wp2_with fail
        refine Hwor.out.mono ?_
        rintro e w3 ⟨rfl, rfl⟩
        clear Hwor
        go_wp2
        exact bodyPost_ret (v := .tuple #[.agg #[.string tx, .int .i64 (nw : Int), .int .i64 (q : Int)], .bool true]) (by simp [results, Try.results18, go_sem, s0, s1, s2]) rfl Hend.out
      · have hd : ((nw : Int) == (a : Int)) = false := by rw [beq_eq_false_iff_ne]; omega
        have hna : nw < a := by omega
        by_cases hc0 : nw = 0
        · subst hc0
          have Hnext : Hid (∀ W, W = w2.alloc (.cells #[.string tx, .int .i64 (a : Int), .int .i64 (q : Int)] 39) → BestI base p g0 C (wor F) w1 W L' g cap) := Lib.hid (fun W hW => by
            have hal : Below w2.heap.size w2 W := by rw [hW]; exact (Below.refl _ _).alloc (Nat.le_refl _) _
            exact ⟨by have := Hl'.out; omega, Hhp.out, Hpl2.out.below hal, hinv_drop Hxi.out Hnw.out.symm, Hk12.out.trans (KeptW.below hal (Nat.le_trans Hb1.out Hk12.out.bel.size)), HI.out.2.2.2.2.2⟩)
          go_wp2_with fail
          refine Hwor.out.mono ?_
          rintro e w3 ⟨rfl, rfl⟩
          clear Hwor
          go_wp2
          go_roundw
          case rel => exact ⟨L', g, cap, Lib.hid (Hnext.out _ rfl)⟩
          case measure =>
            rw [hmsW_pil (Hnext.out _ rfl).2.2.1, Hms.out]
            omega
        · have hnp : 0 < nw := by omega
          have hdp : decide ((0 : Int) < (nw : Int)) = true := decide_eq_true (by omega)
          have hal : Below w2.heap.size w2 (w2.alloc (.cells #[.string tx, .int .i64 (nw : Int), .int .i64 (q : Int)] 39)) := (Below.refl _ _).alloc (Nat.le_refl _) _
          have Hpush := Lib.hid (hqpush_any base p g cap nw q tx L' (w2.alloc (.cells #[.string tx, .int .i64 (nw : Int), .int .i64 (q : Int)] 39)) (Nat.le_trans (Nat.le_trans Hb1.out Hk12.out.bel.size) hal.size) (by have := Hl'.out; omega) Hhp.out (Hpl2.out.below hal))
          have Hal := Lib.hid hal
          clear hal
          go_wp2_with fail
          refine Hwor.out.mono ?_
          rintro e w3 ⟨rfl, rfl⟩
          clear Hwor
          go_wp2_with fail
          refine Hpush.out.mono ?_
          rintro e w4 ⟨rfl, L2, g2, cap2, hpm2, hh2, hpl4, hk4, hat4⟩
          have hnext : BestI base p g0 C (wor F) w1 w4 L2 g2 cap2 := by
            have hlow := hinv_low Hxi.out (show 0 < wor F tx by rw [← Hnw.out]; exact hnp)
            rw [show wor F (tx, a, q).1 = nw from Hnw.out.symm] at hlow
            have hk3 : KeptW base p g w2 w4 := (KeptW.below Hal.out (Nat.le_trans Hb1.out Hk12.out.bel.size)).trans hk4
            have hlen := hpm2.length_eq
            rw [List.length_cons] at hlen
            have hsz1 : w1.heap.size ≤ w2.heap.size := Hk12.out.bel.size
            have hsz2 := Hal.out.size
            refine ⟨by have := Hl'.out; omega, hh2, hpl4, hinv_perm hpm2 hlow, Hk12.out.trans2 HI.out.2.2.2.2.2 hk3, ?_⟩
            have h7 := HI.out.2.2.2.2.2
            rcases hat4 with e | e
            · rw [e]; exact h7
            · exact .inr (by omega)
          have Hnext := Lib.hid hnext
          have Hms2 : Hid (hmsW w4 p < hmsW wr p) := Lib.hid (by
            rw [hmsW_pil hpl4, hms_perm hpm2, hms_cons, Hms.out]
            show nw + q + 3 + _ < _
            omega)
          clear hnext hpm2 hh2 hpl4 hk4 hat4 Hpush
          go_wp2
          go_roundw
          case rel => exact ⟨L2, g2, cap2, Hnext⟩
          case measure => exact Hms2.out
end Go.Proofs.Ytaebnkeddcbmkaa
