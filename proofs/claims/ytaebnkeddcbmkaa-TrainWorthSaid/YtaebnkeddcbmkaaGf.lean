/-
  The program's layer 19 (train): container/heap's Push, Pop and Init over a heap of pieces: by their walks. Conditions: as each theorem's premises say.
-/
import Derived.Test.YtaebnkeddcbmkaaGe
import Derived.Laws.Rows
namespace Go.Proofs.Ytaebnkeddcbmkaa
open Go.RowKit
/-- What is kept, over two steps, the pieces' block another one behind the first. -/
theorem KeptW.trans2 {base p g g1 : Nat} {w w1 w2 : World} (h : KeptW base p g w w1) (hg : g1 = g ∨ w.heap.size ≤ g1) (h2 : KeptW base p g1 w1 w2) : KeptW base p g w w2 :=
  ⟨h.bel.trans h2.bel, fun b hb hp hne => (h2.blk b (Nat.lt_of_lt_of_le hb h.bel.size) hp (fun e => by rcases hg with hg | hg <;> omega)).trans (h.blk b hb hp hne)⟩
set_option maxHeartbeats 1000000 in
set_option maxRecDepth 100000 in
theorem hqpush_any (base p g cap a q : Nat) (tx : ByteArray) (L : List Pce) (w : World) (hb : base ≤ w.heap.size) (hL : L.length < 100000) (hh : Bm.HeapQ L L.length) (hpl : PilQ w base p g cap L) :
    Calls Try.prog 31 #[.iface 36 (.pointer (some ⟨p, 0, none⟩)), .iface 39 (.agg #[.string tx, .int .i64 (a : Int), .int .i64 (q : Int)])] w fun e w' => e = .returned (.tuple #[]) ∧ ∃ L' g' cap', L'.Perm ((tx, a, q) :: L) ∧ Bm.HeapQ L' L'.length ∧ PilQ w' base p g' cap' L' ∧ KeptW base p g w w' ∧ (g' = g ∨ w.heap.size ≤ g') := by
  have Hpush := Lib.hid (pcpush_any base p g cap a q tx L w hb (by omega) hpl)
  have Hh := Lib.hid hh
  clear hh hpl
  have mP := pq_push p w
  have eP := enq_push
  go_enter Try.func31, Try.ntmps31
  go_wp2_with fail
  refine Hpush.out.mono ?_
  rintro e w1 ⟨rfl, g1, cap1, hat1, hpl1, hk1⟩
  have Hat1 := Lib.hid hat1
  clear hat1
  have hlen : (L ++ [(tx, a, q)]).length = L.length + 1 := by simp
  have c1 := hpl1.cell
  rw [hlen] at c1
  have hup := hqup_any base p g1 cap1 L.length (L ++ [(tx, a, q)]) w1 (Nat.le_trans hb hk1.bel.size) (by omega) (by omega) hpl1 (by rw [hlen]; exact Bm.heapq_push L (tx, a, q) Hh.out)
  have Hup := Lib.hid hup
  have Hk1 := Lib.hid hk1
  have Hpl1 := Lib.hid hpl1
  have mN := pq_len p (L.length + 1) cap1 (some ⟨g1, 0, none⟩) w1 c1
  have eN := enq_len
  have Hlen : Hid (∀ W, Calls Try.prog 29 #[.slice (some ⟨g1, 0, none⟩) (L.length + 1) cap1] W fun e w' => e = .returned (.int .i64 ((L.length : Int) + 1)) ∧ W = w') := Lib.hid (fun W => by
    have h1 := pclen_any (some ⟨g1, 0, none⟩) (L.length + 1) cap1 W
    rw [Int.natCast_add] at h1
    exact h1)
  clear hup hk1 hpl1 hlen mP eP Hpush Hh
  go_wp2_with fail
  refine (Hlen.out _).mono ?_
  rintro e w2 ⟨rfl, rfl⟩
  clear mN eN c1 Hlen
  go_wp2_with fail
  refine Hup.out.mono ?_
  rintro e w2 ⟨rfl, L', hpm, hhp, hpl2, hk2⟩
  have hfin : ∃ L' g' cap', L'.Perm ((tx, a, q) :: L) ∧ Bm.HeapQ L' L'.length ∧ PilQ w2 base p g' cap' L' ∧ KeptW base p g w w2 ∧ (g' = g ∨ w.heap.size ≤ g') := ⟨L', g1, cap1, hpm.trans (List.perm_append_singleton _ _), hhp, hpl2, Hk1.out.trans2 Hat1.out hk2, Hat1.out⟩
  have Hf := Lib.hid hfin
  clear hfin hpm hhp hpl2 hk2 Hup
  go_wp2
  go_end0
  exact ⟨rfl, Hf.out⟩
/-- What Pop answers, and leaves. -/
def PopW (w w' : World) (base p g cap : Nat) (L : List Pce) (x : Pce) : Prop := ∃ L', L.Perm (x :: L') ∧ (∀ y ∈ L', ¬ Bm.lt3 y x) ∧ Bm.HeapQ L' L'.length ∧ PilQ w' base p g cap L' ∧ KeptW base p g w w'
/-- A piece as a value. -/
def pcV (x : Pce) : Value := .agg #[.string x.1, .int .i64 (x.2.1 : Int), .int .i64 (x.2.2 : Int)]
theorem popQ_fin {w w' : World} {base p g cap n : Nat} {L L2 : List Pce} (hn : L.length = n + 1) (hh : Bm.HeapQ L L.length) (hpm : L2.Perm (swq pce0 L 0 n)) (hh2 : Bm.HeapQ L2 n) (hat : ∀ k, n ≤ k → Bm.at3 L2 k = Bm.at3 (swq pce0 L 0 n) k) (hpl : PilQ w' base p g cap (L2.take n)) (hk : KeptW base p g w w') :
    L2[n]?.getD pce0 = Bm.at3 L 0 ∧ PopW w w' base p g cap L (Bm.at3 L 0) := by
  have hpm2 := hpm.trans (Bm.swq_perm L 0 n (by omega) (by omega))
  have hl2 : L2.length = n + 1 := by rw [hpm2.length_eq, hn]
  have he : Bm.at3 L2 n = Bm.at3 L 0 := by
    rw [hat n (Nat.le_refl _), Bm.swq_at L 0 n n (by omega) (by omega), if_pos rfl]
  have hL2 : L2 = L2.take n ++ [Bm.at3 L 0] := by
    rw [← he]
    unfold Bm.at3
    rw [List.getElem?_eq_getElem (by omega), Option.getD_some, ← List.take_succ_eq_append_getElem (by omega), List.take_of_length_le (by omega)]
  have hperm : L.Perm (Bm.at3 L 0 :: L2.take n) := hpm2.symm.trans (by
    conv => lhs; rw [hL2]
    exact List.perm_append_singleton _ _)
  refine ⟨he, L2.take n, hperm, fun y hy => ?_, ?_, hpl, hk⟩
  · have hy2 : y ∈ L := hperm.mem_iff.2 (List.mem_cons_of_mem _ hy)
    obtain ⟨k, hk, rfl⟩ := List.mem_iff_getElem.1 hy2
    have h1 := Bm.heapq_least L L.length hh k hk
    unfold Bm.at3 at h1
    rw [List.getElem?_eq_getElem hk, Option.getD_some] at h1
    exact h1
  · rw [List.length_take, Nat.min_eq_left (by omega)]
    exact Bm.heapq_take L2 n hh2
set_option maxHeartbeats 1000000 in
set_option maxRecDepth 100000 in
theorem hqpop_any (base p g cap n : Nat) (L : List Pce) (w : World) (hb : base ≤ w.heap.size) (hL : L.length ≤ 100000) (hn : L.length = n + 1) (hh : Bm.HeapQ L L.length) (hpl : PilQ w base p g cap L) :
    Calls Try.prog 30 #[.iface 36 (.pointer (some ⟨p, 0, none⟩))] w fun e w' => e = .returned (.iface 39 (pcV (Bm.at3 L 0))) ∧ PopW w w' base p g cap L (Bm.at3 L 0) := by
  have hn1 : n ≤ 100000 := by omega
  have Hh := Lib.hid hh
  have c0 := hpl.cell
  rw [hn] at c0
  have Hsw := pq_swapC hpl 0 n (by omega) (by omega)
  rw [hn] at Hsw
  have Hs := Lib.hid Hsw
  have Hlen : Hid (∀ W, Calls Try.prog 29 #[.slice (some ⟨g, 0, none⟩) (n + 1) cap] W fun e w' => e = .returned (.int .i64 ((n : Int) + 1)) ∧ W = w') := Lib.hid (fun W => by
    have h1 := pclen_any (some ⟨g, 0, none⟩) (n + 1) cap W
    rw [Int.natCast_add] at h1
    exact h1)
  have HL := Lib.hid hL
  have Hn := Lib.hid hn
  have mN := pq_len p (n + 1) cap (some ⟨g, 0, none⟩) w c0
  have eN := enq_len
  have mS := pq_swap p (n + 1) cap (some ⟨g, 0, none⟩) w c0
  have eS := enq_swap
  obtain ⟨x, hx⟩ : ∃ x, x = Bm.at3 L 0 := ⟨_, rfl⟩
  obtain ⟨v, hv⟩ : ∃ v, v = pcV x := ⟨_, rfl⟩
  rw [← hx, ← hv]
  have Hx := Lib.hid hx
  have Hv := Lib.hid hv
  clear hh hpl Hsw hn hL hx hv c0
  go_enter Try.func30, Try.ntmps30
  go_wp2_with fail
  refine (Hlen.out _).mono ?_
  rintro e w2 ⟨rfl, rfl⟩
  clear mN eN Hlen
  go_wp2_with fail
  refine Hs.out.mono ?_
  rintro e w1 ⟨rfl, hpl1, hk1⟩
  have hb1 := Nat.le_trans hb hk1.bel.size
  have hdn := (hqdown_any base p g cap n 0 (swq pce0 L 0 n) w1 hb1 (by rw [swq_length]; exact HL.out) (by rw [swq_length, Hn.out]; omega) (Nat.zero_le _) hpl1 (Bm.heapq_pop L n Hn.out (by have h1 := Hh.out; rw [Hn.out] at h1; exact h1)))
  rw [show ((0 : Nat) : Int) = 0 from rfl] at hdn
  have Hdn := Lib.hid hdn
  clear hdn
  have Hk1 := Lib.hid hk1
  clear hpl1 hk1 mS eS Hs
  go_wp2_with fail
  refine Hdn.out.mono ?_
  rintro e w2 ⟨hbe, L2, hpm, hh2, hat, hpl2, hk2⟩
  obtain ⟨b0, rfl⟩ := hbe
  have hl2 : L2.length = n + 1 := by rw [hpm.length_eq, swq_length, Hn.out]
  have Hpop := Lib.hid (pcpop_any base p g cap n L2 w2 (Nat.le_trans hb1 hk2.bel.size) (by have := HL.out; have := Hn.out; omega) hl2 hpl2)
  have Hk2 := Lib.hid (Hk1.out.trans hk2)
  have Hpm := Lib.hid hpm
  have Hh2 := Lib.hid (Bm.heapf_zero hh2)
  have Hat := Lib.hid hat
  clear hpm hh2 hat hpl2 hk2 hl2 Hdn Hk1 hb1
  have mP := pq_pop p w2
  have eP := enq_pop
  go_wp2_with fail
  refine Hpop.out.mono ?_
  rintro e w3 ⟨rfl, hpl3, hk3⟩
  obtain ⟨he, hfin⟩ := popQ_fin Hn.out Hh.out Hpm.out Hh2.out Hat.out hpl3 (Hk2.out.trans hk3)
  have Hf : Hid (PopW w w3 base p g cap L x) := Lib.hid (by rw [Hx.out]; exact hfin)
  have Hr : Hid (Value.iface 39 (.agg #[pcT (L2[n]?.getD pce0), pcW (L2[n]?.getD pce0), pcO (L2[n]?.getD pce0)]) = .iface 39 v) := Lib.hid (by rw [he, Hv.out, Hx.out]; rfl)
  rw [Hr.out]
  clear he hfin hpl3 hk3 Hpop Hr mP eP
  go_wp2
  go_ret
  exact ⟨rfl, Hf.out⟩
theorem PilQ.keepb {w w' : World} {base p g cap : Nat} {L : List Pce} (h : PilQ w base p g cap L) (hp : w'.heap[p]? = w.heap[p]?) (hg : w'.heap[g]? = w.heap[g]?) : PilQ w' base p g cap L := by
  obtain ⟨post, h1, hr⟩ := h.row
  exact ⟨h.lowp, h.lowg, h.fits, h.most, h.var.keep hp, post, h1, hr.keep hg⟩
set_option maxHeartbeats 1000000 in
set_option maxRecDepth 100000 in
theorem hqinit_any (base p g cap : Nat) (L : List Pce) (w : World) (hb : base ≤ w.heap.size) (hL : L.length ≤ 100000) (hpl : PilQ w base p g cap L) :
    Calls Try.prog 28 #[.iface 36 (.pointer (some ⟨p, 0, none⟩))] w fun e w' => e = .returned (.tuple #[]) ∧ ∃ L', L'.Perm L ∧ Bm.HeapQ L' L'.length ∧ PilQ w' base p g cap L' ∧ KeptW base p g w w' := by
  obtain ⟨n, hn⟩ : ∃ n, n = L.length := ⟨_, rfl⟩
  have c0 := hpl.cell
  rw [← hn] at c0 hL
  obtain ⟨m, hm⟩ : ∃ m, m = n / 2 := ⟨_, rfl⟩
  have hq : (n : Int) / 2 = (m : Int) := by omega
  have hml : m ≤ 100000 := by omega
  have hmn : m ≤ n := by omega
  have Hn := Lib.hid hn
  have Hm := Lib.hid hm
  have Hpl := Lib.hid hpl
  have HL := Lib.hid hL
  have mN := pq_len p n cap (some ⟨g, 0, none⟩) w c0
  have eN := enq_len
  have Hlen : Hid (∀ W, Calls Try.prog 29 #[.slice (some ⟨g, 0, none⟩) n cap] W fun e w' => e = .returned (.int .i64 (n : Int)) ∧ W = w') := Lib.hid (fun W => pclen_any (some ⟨g, 0, none⟩) n cap W)
  clear hn hm hpl c0
  go_enter Try.func28, Try.ntmps28
  go_wp2_with fail
  refine (Hlen.out _).mono ?_
  rintro e w2 ⟨rfl, rfl⟩
  clear mN eN Hlen
  go_wp2
  clear hq
  go_loopw [3] (fun jv wr => ∃ (j : Nat) (L' : List Pce), jv = .int .i64 ((j : Int) - 1) ∧ j ≤ m ∧ Hid (L'.Perm L) ∧ Hid (Bm.HeapF L' n j) ∧ Hid (PilQ wr base p g cap L') ∧ Hid (KeptW base p g w wr)) (fun jv _ => (intOf jv + 1).toNat)
  case atStart => exact ⟨m, L, rfl, Nat.le_refl _, Lib.hid (List.Perm.refl _), Lib.hid (by rw [Hm.out]; exact Bm.heapf_start _ _), Hpl, Lib.hid (KeptW.refl _ _ _ _)⟩
  case round =>
    obtain ⟨j, L', rfl, hj, hperm, hup, hpl, hk⟩ := hrel
    clear Hpl
    by_cases h0 : j = 0
    · subst h0
      have hfin : ∃ L', L'.Perm L ∧ Bm.HeapQ L' L'.length ∧ PilQ wr base p g cap L' ∧ KeptW base p g w wr := ⟨L', hperm.out, by rw [hperm.out.length_eq, ← Hn.out]; exact Bm.heapf_zero hup.out, hpl.out, hk.out⟩
      have Hf := Lib.hid hfin
      clear hfin
      go_wp2
      go_end0
      exact ⟨rfl, Hf.out⟩
    · obtain ⟨k, rfl⟩ : ∃ k, j = k + 1 := ⟨j - 1, by omega⟩
      have hkm : k < m := by omega
      have hkk : ((k + 1 : Nat) : Int) - 1 = (k : Int) := by omega
      rw [hkk]
      clear hkk
      have Hdn := Lib.hid (hqdown_any base p g cap n k L' wr (Nat.le_trans hb hk.out.bel.size) (by rw [hperm.out.length_eq, ← Hn.out]; exact HL.out) (by rw [hperm.out.length_eq, ← Hn.out]; exact Nat.le_refl _) (by omega) hpl.out (Bm.heapf_down hup.out))
      go_wp2_with fail
      refine Hdn.out.mono ?_
      rintro e w3 ⟨hbe, L2, hpm, hh2, hat, hpl2, hk2⟩
      obtain ⟨b0, rfl⟩ := hbe
      have Hpm := Lib.hid (hpm.trans hperm.out)
      have Hh2 := Lib.hid hh2
      have Hpl2 := Lib.hid hpl2
      have Hk2 := Lib.hid (hk.out.trans hk2)
      clear hpm hh2 hat hpl2 hk2 Hdn
      go_wp2
      go_roundw
      case rel => exact ⟨k, L2, rfl, by omega, Hpm, Hh2, Hpl2, Hk2⟩
      case measure => simp [intOf]
end Go.Proofs.Ytaebnkeddcbmkaa
