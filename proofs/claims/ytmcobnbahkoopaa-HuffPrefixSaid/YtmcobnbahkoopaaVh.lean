/-
  The program's layer 9 (huff): container/heap's Push and Pop over a pile; lightest: by their walks. Conditions: as each theorem's premises say.
-/
import Derived.Test.YtmcobnbahkoopaaVg
import Derived.Laws.Rows
namespace Go.Proofs.Ytmcobnbahkoopaa
open Go.RowKit
/-- A pile that is a heap, wherever its nodes lie. -/
def PileH (w : World) (base p : Nat) (L : List Nod) : Prop := Bm.HeapN L L.length ∧ ∃ g cap, Pile w base p g cap L
set_option maxHeartbeats 1000000 in
set_option maxRecDepth 100000 in
theorem hppush_any (base p a q : Nat) (L : List Nod) (w : World) (hb : base ≤ w.heap.size) (hL : L.length < 100000) (hp : PileH w base p L) :
    Calls Try.prog 38 #[.iface 37 (.pointer (some ⟨p, 0, none⟩)), .iface 41 (.agg #[.int .i64 (a : Int), .int .i64 (q : Int)])] w fun e w' => e = .returned (.tuple #[]) ∧ ∃ L', L'.Perm ((a, q) :: L) ∧ PileH w' base p L' ∧ KeptP base w w' := by
  obtain ⟨hh, g, cap, hpl⟩ := hp
  have Hpush := Lib.hid (uppush_any base p g cap a q L w hb (by omega) hpl)
  have Hh := Lib.hid hh
  clear hh hpl
  have mP := pm_push p w
  have eP := ent_push
  go_enter Try.func38, Try.ntmps38
  go_wp2_with fail
  refine Hpush.out.mono ?_
  rintro e w1 ⟨rfl, g1, cap1, hpl1, hk1⟩
  have hlen : (L ++ [(a, q)]).length = L.length + 1 := by simp
  have c1 := hpl1.cell
  rw [hlen] at c1
  have hup := hpup_any base p g1 cap1 L.length (L ++ [(a, q)]) w1 (Nat.le_trans hb hk1.bel.size) (by omega) (by omega) hpl1 (by rw [hlen]; exact Bm.heap_push L (a, q) Hh.out)
  have Hup := Lib.hid hup
  have Hk1 := Lib.hid hk1
  have Hpl1 := Lib.hid hpl1
  have mN := pm_len p (L.length + 1) cap1 (some ⟨g1, 0, none⟩) w1 c1
  have eN := ent_len
  have Hlen : Hid (∀ W, Calls Try.prog 30 #[.slice (some ⟨g1, 0, none⟩) (L.length + 1) cap1] W fun e w' => e = .returned (.int .i64 ((L.length : Int) + 1)) ∧ W = w') := Lib.hid (fun W => by
    have h1 := uplen_any (some ⟨g1, 0, none⟩) (L.length + 1) cap1 W
    rw [Int.natCast_add] at h1
    exact h1)
  clear hup hk1 hpl1 hlen mP eP Hpush Hh
  go_wp2_with fail
  refine (Hlen.out _).mono ?_
  rintro e w2 ⟨rfl, rfl⟩
  clear mN eN c1 Hlen
  go_wp2_with fail
  refine Hup.out.mono ?_
  rintro e w2 ⟨rfl, L', hpm, hhp, hpl2, hk2⟩
  have hfin : ∃ L', L'.Perm ((a, q) :: L) ∧ PileH w2 base p L' ∧ KeptP base w w2 := ⟨L', hpm.trans (List.perm_append_singleton _ _), ⟨hhp, _, _, hpl2⟩, Hk1.out.trans (hk2.kept Hpl1.out)⟩
  have Hf := Lib.hid hfin
  clear hfin hpm hhp hpl2 hk2 Hup
  go_wp2
  go_end0
  exact ⟨rfl, Hf.out⟩
/-- What Pop answers, and leaves. -/
def PopG (w w' : World) (base p g cap : Nat) (L : List Nod) (a q : Nat) : Prop := ∃ L', L.Perm ((a, q) :: L') ∧ (∀ y ∈ L', ¬ Bm.lt2 y (a, q)) ∧ Bm.HeapN L' L'.length ∧ Pile w' base p g cap L' ∧ KeptG base p g w w'
def PopP (w w' : World) (base p : Nat) (L : List Nod) (a q : Nat) : Prop := ∃ L', L.Perm ((a, q) :: L') ∧ (∀ y ∈ L', ¬ Bm.lt2 y (a, q)) ∧ PileH w' base p L' ∧ KeptP base w w'
theorem popP_fin {w w' : World} {base p g cap n : Nat} {L L2 : List Nod} (hn : L.length = n + 1) (hh : Bm.HeapN L L.length) (hpm : L2.Perm (swp (0, 0) L 0 n)) (hh2 : Bm.HeapN L2 n) (hat : ∀ k, n ≤ k → Bm.at2 L2 k = Bm.at2 (swp (0, 0) L 0 n) k) (hpl : Pile w' base p g cap (L2.take n)) (hk : KeptG base p g w w') :
    L2[n]?.getD (0, 0) = Bm.at2 L 0 ∧ PopG w w' base p g cap L (Bm.at2 L 0).1 (Bm.at2 L 0).2 := by
  have hpm2 := hpm.trans (Bm.swp_perm L 0 n (by omega) (by omega))
  have hl2 : L2.length = n + 1 := by rw [hpm2.length_eq, hn]
  have he : Bm.at2 L2 n = Bm.at2 L 0 := by
    rw [hat n (Nat.le_refl _), Bm.swp_at L 0 n n (by omega) (by omega), if_pos rfl]
  have hL2 : L2 = L2.take n ++ [Bm.at2 L 0] := by
    rw [← he]
    unfold Bm.at2
    rw [List.getElem?_eq_getElem (by omega), Option.getD_some, ← List.take_succ_eq_append_getElem (by omega), List.take_of_length_le (by omega)]
  have hperm : L.Perm (Bm.at2 L 0 :: L2.take n) := hpm2.symm.trans (by
    conv => lhs; rw [hL2]
    exact List.perm_append_singleton _ _)
  refine ⟨he, L2.take n, hperm, fun y hy => ?_, ?_, hpl, hk⟩
  · have hy2 : y ∈ L := hperm.mem_iff.2 (List.mem_cons_of_mem _ hy)
    obtain ⟨k, hk, rfl⟩ := List.mem_iff_getElem.1 hy2
    have h1 := Bm.heap_least L L.length hh k hk
    unfold Bm.at2 at h1
    rw [List.getElem?_eq_getElem hk, Option.getD_some] at h1
    exact h1
  · rw [List.length_take, Nat.min_eq_left (by omega)]
    exact Bm.heap_take L2 n hh2
set_option maxHeartbeats 1000000 in
set_option maxRecDepth 100000 in
theorem hppop_any (base p g cap n : Nat) (L : List Nod) (w : World) (hb : base ≤ w.heap.size) (hL : L.length ≤ 100000) (hn : L.length = n + 1) (hh : Bm.HeapN L L.length) (hpl : Pile w base p g cap L) :
    Calls Try.prog 39 #[.iface 37 (.pointer (some ⟨p, 0, none⟩))] w fun e w' => e = .returned (.iface 41 (.agg #[.int .i64 ((Bm.at2 L 0).1 : Int), .int .i64 ((Bm.at2 L 0).2 : Int)])) ∧ PopG w w' base p g cap L (Bm.at2 L 0).1 (Bm.at2 L 0).2 := by
  have hn1 : n ≤ 100000 := by omega
  have Hh := Lib.hid hh
  have c0 := hpl.cell
  rw [hn] at c0
  have Hsw := pl_swap hpl 0 n (by omega) (by omega)
  rw [hn] at Hsw
  have Hs := Lib.hid Hsw
  have Hlen : Hid (∀ W, Calls Try.prog 30 #[.slice (some ⟨g, 0, none⟩) (n + 1) cap] W fun e w' => e = .returned (.int .i64 ((n : Int) + 1)) ∧ W = w') := Lib.hid (fun W => by
    have h1 := uplen_any (some ⟨g, 0, none⟩) (n + 1) cap W
    rw [Int.natCast_add] at h1
    exact h1)
  have HL := Lib.hid hL
  have Hn := Lib.hid hn
  have mN := pm_len p (n + 1) cap (some ⟨g, 0, none⟩) w c0
  have eN := ent_len
  have mS := pm_swap p (n + 1) cap (some ⟨g, 0, none⟩) w c0
  have eS := ent_swap
  obtain ⟨a, ha⟩ : ∃ a, a = (Bm.at2 L 0).1 := ⟨_, rfl⟩
  obtain ⟨q, hq⟩ : ∃ q, q = (Bm.at2 L 0).2 := ⟨_, rfl⟩
  rw [← ha, ← hq]
  have Ha := Lib.hid ha
  have Hq := Lib.hid hq
  clear hh hpl Hsw hn hL ha hq c0
  go_enter Try.func39, Try.ntmps39
  go_wp2_with fail
  refine (Hlen.out _).mono ?_
  rintro e w2 ⟨rfl, rfl⟩
  clear mN eN Hlen
  go_wp2_with fail
  refine Hs.out.mono ?_
  rintro e w1 ⟨rfl, hpl1, hk1⟩
  have hb1 := Nat.le_trans hb hk1.bel.size
  have Hdn := Lib.hid (hpdown_any base p g cap n (swp (0, 0) L 0 n) w1 hb1 (by rw [swp_length]; exact HL.out) (by rw [swp_length, Hn.out]; omega) hpl1 (Bm.heap_pop L n Hn.out (by have h1 := Hh.out; rw [Hn.out] at h1; exact h1)))
  have Hk1 := Lib.hid hk1
  clear hpl1 hk1 mS eS Hs
  go_wp2_with fail
  refine Hdn.out.mono ?_
  rintro e w2 ⟨hbe, L2, hpm, hh2, hat, hpl2, hk2⟩
  obtain ⟨b0, rfl⟩ := hbe
  have hl2 : L2.length = n + 1 := by rw [hpm.length_eq, swp_length, Hn.out]
  have Hpop := Lib.hid (uppop_any base p g cap n L2 w2 (Nat.le_trans hb1 hk2.bel.size) (by have := HL.out; have := Hn.out; omega) hl2 hpl2)
  have Hk2 := Lib.hid (Hk1.out.trans hk2)
  have Hpm := Lib.hid hpm
  have Hh2 := Lib.hid hh2
  have Hat := Lib.hid hat
  clear hpm hh2 hat hpl2 hk2 hl2 Hdn Hk1 hb1
  have mP := pm_pop p w2
  have eP := ent_pop
  go_wp2_with fail
  refine Hpop.out.mono ?_
  rintro e w3 ⟨rfl, hpl3, hk3⟩
  obtain ⟨he, hfin⟩ := popP_fin Hn.out Hh.out Hpm.out Hh2.out Hat.out hpl3 (Hk2.out.trans hk3)
  have Hf : Hid (PopG w w3 base p g cap L a q) := Lib.hid (by rw [Ha.out, Hq.out]; exact hfin)
  have Hv : Hid (Value.iface 41 (.agg #[nodW (L2[n]?.getD (0, 0)), nodP (L2[n]?.getD (0, 0))]) = .iface 41 (.agg #[.int .i64 (a : Int), .int .i64 (q : Int)])) := Lib.hid (by rw [he, Ha.out, Hq.out]; rfl)
  rw [Hv.out]
  clear he hfin hpl3 hk3 Hpop Hv mP eP
  go_wp2
  go_ret
  exact ⟨rfl, Hf.out⟩
theorem Pile.keepb {w w' : World} {base p g cap : Nat} {L : List Nod} (h : Pile w base p g cap L) (hp : w'.heap[p]? = w.heap[p]?) (hg : w'.heap[g]? = w.heap[g]?) : Pile w' base p g cap L := by
  obtain ⟨post, h1, hr⟩ := h.row
  exact ⟨h.lowp, h.lowg, h.fits, h.most, h.var.keep hp, post, h1, hr.keep hg⟩
theorem light_end {w w1 w2 : World} {base : Nat} (hk : KeptP base w w1) (hB : Below w.heap.size w1 w2) (hb : base ≤ w.heap.size) : KeptP base w w2 :=
  ⟨hk.bel.trans (hB.mono hb), fun b t cs h1 h2 hr => (hk.rows b t cs h1 h2 hr).keep (hB.block b hr.lt)⟩
set_option maxHeartbeats 1000000 in
set_option maxRecDepth 100000 in
theorem ulight_any (base p n : Nat) (L : List Nod) (w : World) (hb : base ≤ w.heap.size) (hL : L.length ≤ 100000) (hn : L.length = n + 1) (hp : PileH w base p L) :
    Calls Try.prog 31 #[.pointer (some ⟨p, 0, none⟩)] w fun e w' => e = .returned (.agg #[.int .i64 ((Bm.at2 L 0).1 : Int), .int .i64 ((Bm.at2 L 0).2 : Int)]) ∧ PopP w w' base p L (Bm.at2 L 0).1 (Bm.at2 L 0).2 := by
  obtain ⟨hh, g, cap, hpl⟩ := hp
  have hal := (Below.refl w.heap.size w).alloc (Nat.le_refl _) (.cells #[.int .i64 0, .int .i64 0] 41)
  have hp1 := hpl.below hal
  have Hpop := Lib.hid (hppop_any base p g cap n L _ (Nat.le_trans hb hal.size) hL hn hh hp1)
  have Hal := Lib.hid hal
  have Hb := Lib.hid hb
  obtain ⟨a, ha⟩ : ∃ a, a = (Bm.at2 L 0).1 := ⟨_, rfl⟩
  obtain ⟨q, hq⟩ : ∃ q, q = (Bm.at2 L 0).2 := ⟨_, rfl⟩
  rw [← ha, ← hq] at Hpop ⊢
  have hta := fun W => ta_node (.agg #[.int .i64 (a : Int), .int .i64 (q : Int)]) W
  have Hplt := Lib.hid hpl.var.lt
  have Hglt : Hid (g < w.heap.size) := Lib.hid (by obtain ⟨_, _, hr⟩ := hpl.row; exact hr.lt)
  have Hpl0 := Lib.hid hpl
  clear hh hpl hal hp1 hL hn ha hq
  go_enter Try.func31, Try.ntmps31
  go_wp2_with fail
  refine Hpop.out.mono ?_
  rintro e w1 ⟨rfl, hpp⟩
  obtain ⟨L', hpm, hle, hhp, hpl1, hk1⟩ := hpp
  have hrow : Row w1 w.heap.size 41 [.int .i64 0, .int .i64 0] := (Row.new w 41 [.int .i64 0, .int .i64 0]).keep (hk1.blk _ (by simp) (by have := Hplt.out; omega) (by have := Hglt.out; omega))
  have k0 := hrow.cell 0
  have k1 := hrow.cell 1
  have f0 := hrow.free 0
  have f1 := hrow.free 1
  simp only [List.getElem?_cons_zero, List.getElem?_cons_succ] at k0 k1
  have hlt := hrow.lt
  have Hrow := Lib.hid hrow
  have Hfin : Hid (∃ L', L.Perm ((a, q) :: L') ∧ (∀ y ∈ L', ¬ Bm.lt2 y (a, q)) ∧ Bm.HeapN L' L'.length ∧ Pile w1 base p g cap L' ∧ KeptG base p g w w1) := Lib.hid ⟨L', hpm, hle, hhp, hpl1, (KeptG.below Hal.out Hb.out).trans hk1⟩
  clear hpm hle hhp hpl1 hk1 hrow Hpop
  go_wp2_with fail
  have hres : Row (((w1.setCell ⟨w.heap.size, 0, none⟩ (.int .i64 (a : Int))).setCell ⟨w.heap.size, 1, none⟩ (.int .i64 (q : Int))).alloc (.cells #[.int .i64 (a : Int), .int .i64 (q : Int)] 41)) w.heap.size 41 [.int .i64 (a : Int), .int .i64 (q : Int)] := ((Hrow.out.set_ 0 _).set_ 1 _).alloc _
  refine bodyPost_ret (results_cell_row rfl _ _ w.heap.size 41 #[.int .i64 (a : Int), .int .i64 (q : Int)] (0, 0) _ rfl hres Try.underlying41 rfl (by kernel_rfl)) rfl ?_
  refine ⟨rfl, ?_⟩
  obtain ⟨L', hpm, hle, hhp, hpl1, hk1⟩ := Hfin.out
  have hB : Below w.heap.size w1 (((w1.setCell ⟨w.heap.size, 0, none⟩ (.int .i64 (a : Int))).setCell ⟨w.heap.size, 1, none⟩ (.int .i64 (q : Int))).alloc (.cells #[.int .i64 (a : Int), .int .i64 (q : Int)] 41)) :=
    (((Below.refl _ _).setCell (by exact Nat.le_refl _) _).setCell (by exact Nat.le_refl _) _).alloc (by simpa [World.setCell] using Nat.le_of_lt hlt) _
  exact ⟨L', hpm, hle, ⟨hhp, g, cap, hpl1.keepb (hB.block p Hplt.out) (hB.block g Hglt.out)⟩, light_end (hk1.kept Hpl0.out) hB Hb.out⟩
end Go.Proofs.Ytmcobnbahkoopaa
