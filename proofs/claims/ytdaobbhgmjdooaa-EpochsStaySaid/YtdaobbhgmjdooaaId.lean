/-
  Layer 21 (epochs), by their walks: drop (room by the first one that may go), Add. Conditions: as each theorem's premises say.
-/
import Derived.Test.YtdaobbhgmjdooaaIc
import Derived.Deep.RegionHeld3
namespace Go.Proofs.Ytdaobbhgmjdooaa
open Go.RowKit

theorem run_copy_rowN {P : Program} (w : World) (dT sT ty elem : TypeId) (g o dLen dCap : Nat) (a : Addr) (sLen sCap q : Nat) (cur : Array Value) (t : TypeId) (cs : List Value)
    (hu : P.underlying dT = some (.slice elem)) (hs : (P.info? elem).map (·.size) = some q)
    (hg : w.heap[g]? = some (.cells cur t (0, 0))) (hn : cs.length = Nat.min sLen dLen * q)
    (hsrc : ∀ j v, cs[j]? = some v → w.cell? (a.add j) = some v) (hfit : o + cs.length ≤ cur.size) (h1 : ∀ v ∈ cs, v.oneCell' = true) :
    (Builtin.copy_ #[dT, sT] ty #[.slice (some ⟨g, o, none⟩) dLen dCap, .slice (some a) sLen sCap]).run P w =
      .ok (goInt (Nat.min sLen dLen)) (w.setRow g (cur.toList.take o ++ cs ++ cur.toList.drop (o + cs.length)).toArray) := by
  have hl := run_loadCells_list (P := P) w a cs hsrc
  have hst := run_storeCells_at P g o t cs 0 cur w hg (by simpa using hfit) h1
  cases hq : P.info? elem with
  | none => simp [hq] at hs
  | some i =>
    have hi : i.size = q := by simpa [hq] using hs
    simp [Builtin.copy_, run_underlying hu, Builtin.lenOf, Builtin.firstCells, sizeOf, typeInfo, hq, hi, ← hn, hl, hst]
/-- 'copy(dst, src)' within or into a row that is known whole, elements of q cells, as one step of a region that draws its order: the row behind it, and no other block turned. -/
theorem step_copy_rowN {P : Program} {ops : Array Oper} {o : Oper} {a : Act} {w : World} {K : Act → World → Prop} {Q : Exit → Act → World → Prop} {E : Prop} (hgd : o.guard = none) (d s : Operand) (dT sT : TypeId)
    (ho : o.op = .call { callee := .builtin .copy, args := #[d, s], argTypes := #[dT, sT] }) (elem : TypeId) (q : Nat) (hu : P.underlying dT = some (.slice elem)) (hsz : (P.info? elem).map (·.size) = some q)
    (ad : Addr) (dLen dCap sLen sCap : Nat) (g off : Nat) (hd : a.eval d = .slice (some ⟨g, off, none⟩) dLen dCap) (hs : a.eval s = .slice (some ad) sLen sCap)
    (cur : List Value) (t : TypeId) (hg : Row w g t cur) (cs : List Value) (hn : cs.length = Nat.min sLen dLen * q)
    (hsrc : ∀ j v, cs[j]? = some v → w.cell? (ad.add j) = some v)
    (hfit : off + cs.length ≤ cur.length) (h1 : ∀ v ∈ cs, v.oneCell' = true)
    (h : ∀ w', Hid (Row w' g t (splice cur off cs)) → Hid (w.grownBy w' (some g)) → K (a.put o.dst (goInt (Nat.min sLen dLen))) w') :
    if Region.wanted o (yielded ops a.tmps) = true then Oper.wp P o a w K Q else E := by
  have hw : Region.wanted o (yielded ops a.tmps) = true := by simp [Region.wanted, hgd]
  rw [if_pos hw]
  have hrun := run_copy_rowN (P := P) w dT sT o.type elem g off dLen dCap ad sLen sCap q cur.toArray t cs hu hsz hg hn hsrc (by simpa using hfit) h1
  unfold Oper.wp
  simp [execOp, ho, resolve, invoke, builtin, hd, hs, hrun, Result.andThen]
  refine h _ (Lib.hid (show _ = _ by simpa [splice] using setRow_heap w g _ _ t _ hg)) (Lib.hid ⟨rfl, rfl, rfl, by simp [World.setRow], fun k hk hne => setRow_other w g k _ (fun e => hne (by rw [e]))⟩)
theorem cc3_one (l : List Bm.Dic) : ∀ v ∈ d3 l, v.oneCell' = true := by
  induction l with
  | nil => intro v hv; cases hv
  | cons d l ih =>
    intro v hv
    rcases List.mem_cons.1 hv with rfl | hv
    · rfl
    rcases List.mem_cons.1 hv with rfl | hv
    · rfl
    rcases List.mem_cons.1 hv with rfl | hv
    · rfl
    · exact ih v hv
/-- What the copy that strikes dictionary i asks, and leaves. -/
theorem SG.erase {w : World} {b m : Nat} {l : List Bm.Dic} (h : SG w b m l) (i : Nat) (hi : i + 1 < l.length) :
    ∃ C, Row w b 54 C ∧ (∀ j v, (d3 (l.drop (i + 1)))[j]? = some v → w.cell? ((⟨b, (i + 1) * 3, none⟩ : Addr).add j) = some v) ∧ (d3 (l.drop (i + 1))).length = (l.length - (i + 1)) * 3 ∧ i * 3 + (d3 (l.drop (i + 1))).length ≤ C.length ∧
      ∀ w4, Row w4 b 54 (splice C (i * 3) (d3 (l.drop (i + 1)))) → w4.cell? ⟨b, 24, none⟩ = some (.int .i64 (l.length : Int)) ∧ w4.frozen? ⟨b, 24, none⟩ = false ∧ SG (w4.setCell ⟨b, 24, none⟩ (.int .i64 ((l.length : Int) - 1))) b m (l.eraseIdx i) := by
  obtain ⟨R, h1, h2, h3⟩ := h
  have hl : (d3 l).length = l.length * 3 := cc3_length l
  have hl2 : (d3 (l.drop (i + 1))).length = (l.length - (i + 1)) * 3 := by
    have := cc3_length (f := dcE) (h := dcT) (k := dcH) (l.drop (i + 1))
    rw [List.length_drop] at this
    exact this
  have hap : d3 l = d3 (l.take (i + 1)) ++ d3 (l.drop (i + 1)) := by
    show cc3 _ _ _ _ = cc3 _ _ _ _ ++ cc3 _ _ _ _
    rw [← cc3_append, List.take_append_drop]
  have hlt : (d3 (l.take (i + 1))).length = (i + 1) * 3 := by
    have := cc3_length (f := dcE) (h := dcT) (k := dcH) (l.take (i + 1))
    rw [List.length_take, Nat.min_eq_left (by omega)] at this
    exact this
  refine ⟨_, h1, fun j v hj => ?_, hl2, by simp only [List.length_append, List.length_singleton]; omega, fun w4 h4 => ?_⟩
  · have e : ((⟨b, (i + 1) * 3, none⟩ : Addr).add j) = ⟨b, (i + 1) * 3 + j, none⟩ := by unfold Addr.add; split <;> simp_all
    have hjl : j < (d3 (l.drop (i + 1))).length := by
      rcases Nat.lt_or_ge j (d3 (l.drop (i + 1))).length with h5 | h5
      · exact h5
      · rw [List.getElem?_eq_none h5] at hj; cases hj
    rw [e, h1.cell, List.getElem?_append_left (by omega), hap, List.getElem?_append_right (by omega), hlt, Nat.add_sub_cancel_left, hj]
  · have hs : splice (d3 l ++ (R ++ [Value.int .i64 (l.length : Int)])) (i * 3) (d3 (l.drop (i + 1))) = d3 (l.eraseIdx i) ++ (((d3 l).drop ((l.length - 1) * 3) ++ R) ++ [Value.int .i64 (l.length : Int)]) := by
      unfold splice
      rw [List.take_append_of_le_length (by omega), List.drop_append_of_le_length (by omega), hl2, show i * 3 + (l.length - (i + 1)) * 3 = (l.length - 1) * 3 by omega]
      have e1 : (d3 l).take (i * 3) = d3 (l.take i) := (cc3_take l i).symm
      have e2 : d3 (l.eraseIdx i) = d3 (l.take i) ++ d3 (l.drop (i + 1)) := by
        show cc3 _ _ _ _ = cc3 _ _ _ _ ++ cc3 _ _ _ _
        rw [← cc3_append, List.eraseIdx_eq_take_drop_succ]
      rw [e1, e2]
      simp only [List.append_assoc]
    rw [hs] at h4
    have hle : (l.eraseIdx i).length = l.length - 1 := by rw [List.length_eraseIdx]; split <;> omega
    have hd3 : (d3 (l.eraseIdx i)).length = (l.length - 1) * 3 := by
      have := cc3_length (f := dcE) (h := dcT) (k := dcH) (l.eraseIdx i)
      rw [hle] at this
      exact this
    have hR2 : ((d3 l).drop ((l.length - 1) * 3) ++ R).length = 3 + R.length := by rw [List.length_append, List.length_drop]; omega
    refine ⟨?_, h4.free 24, (d3 l).drop ((l.length - 1) * 3) ++ R, ?_, by rw [hle, hR2]; omega, fun d hd => h3 d (List.mem_of_mem_eraseIdx hd)⟩
    · rw [h4.cell, List.getElem?_append_right (by omega), List.getElem?_append_right (by omega), hd3, hR2, show 24 - (l.length - 1) * 3 - (3 + R.length) = 0 by omega]
      rfl
    · have h5 := h4.set_ 24 (.int .i64 ((l.length : Int) - 1))
      rw [List.set_append_right _ _ (by omega), List.set_append_right _ _ (by omega), hd3, hR2, show 24 - (l.length - 1) * 3 - (3 + R.length) = 0 by omega, List.set_cons_zero, show (l.length : Int) - 1 = ((l.length - 1 : Nat) : Int) by omega, ← hle] at h5
      rw [show (l.length : Int) - 1 = ((l.length - 1 : Nat) : Int) by omega, ← hle]
      exact h5
set_option maxRecDepth 100000 in
theorem dcut_to (b L c q : Nat) (W : World) (z : Int) (hz : z = (q : Int)) (h : q ≤ L) (hc : L ≤ c) : (Instr.slice 58 (.slice (some ⟨b, 0, none⟩) L c) none (some (.int .i64 z)) none).run Try.prog W = .ok (.slice (some ⟨b, 0, none⟩) q c) W := by
  subst hz
  have h1 : q ≤ c := by omega
  go_simp
set_option maxRecDepth 100000 in
theorem dcut_from (b L c q : Nat) (W : World) (z : Int) (hz : z = (q : Int)) (h : q ≤ L) (_ : L ≤ c) (hq : q < c) : (Instr.slice 58 (.slice (some ⟨b, 0, none⟩) L c) (some (.int .i64 z)) none none).run Try.prog W = .ok (.slice (some ⟨b, q * 3, none⟩) (L - q) (c - q)) W := by
  subst hz
  have h1 : q ≤ c := by omega
  have h2 : ¬ c = q := by omega
  go_simp
set_option maxHeartbeats 1000000 in
set_option maxRecDepth 100000 in
theorem edrop_any (b m : Nat) (l : List Bm.Dic) (w : World) (h0 : 0 < l.length) (h : SG w b m l) :
    Calls Try.prog 19 #[.pointer (some ⟨b, 0, none⟩)] w fun e w' => e = .returned (.bool (Bm.dropD l).isSome) ∧ SG w' b m ((Bm.dropD l).getD l) ∧ w.grownBy w' (some b) := by
  have h8 := h.small.1
  have Hth := Lib.hid (ethere_any _ m l w h.toP)
  have H := Lib.hid h
  clear h
  obtain ⟨k, hk⟩ : ∃ k, k + 1 = l.length := ⟨l.length - 1, by omega⟩
  have hcut := fun W => dcut_to b l.length 8 k W ((l.length : Int) - 1) (by omega) (by omega) h8
  have Hix := Lib.hid (fun W hW => eindexf_any b m k 8 l W (by omega) hW)
  have Hk := Lib.hid hk
  clear hk
  change Hid (Calls Try.prog 23 _ w fun e w' => e = .returned (.slice (some ⟨b, 0, none⟩) l.length 8) ∧ ∃ q, w' = w.drewN q) at Hth
  go_enter Try.func19, Try.ntmps19
  go_wp2_with fail
  refine Hth.out.mono ?_
  rintro e w1 ⟨rfl, q, rfl⟩
  clear Hth
  go_wp2_with fail
  refine (Hix.out (w.drewN q) (H.out.keep rfl)).mono ?_
  rintro e w2 ⟨r, rfl, hix, hb2⟩
  have HB2 := Lib.hid (show Below w.heap.size w w2 from ⟨hb2.os, hb2.tape, hb2.output, hb2.size, hb2.block⟩)
  clear hb2 Hix hcut
  rcases hix with ⟨i, hil, hik, rfl, hi0, hif⟩ | ⟨rfl, hall⟩
  · have Hd := Lib.hid (Bm.dropD_at l i (by have := Hk.out; omega) hi0 hif)
    have HS2 := Lib.hid (H.out.keep (HB2.out.block b H.out.lt))
    obtain ⟨C, hC1, hC2, hC3, hC4, hC5⟩ := HS2.out.erase i (by have := Hk.out; omega)
    have s1 := fun W => dcut_from b l.length 8 i W (i : Int) rfl (by omega) h8 (by have := Hk.out; omega)
    have s2 := fun W => dcut_from b l.length 8 (i + 1) W ((i : Int) + 1) (by omega) (by have := Hk.out; omega) h8 (by have := Hk.out; omega)
    have hmin : Nat.min (l.length - (i + 1)) (l.length - i) = l.length - (i + 1) := Nat.min_eq_left (by omega)
    have H1 := Lib.hid hC1
    have H2 := Lib.hid hC2
    have H3 := Lib.hid hC3
    have H4 := Lib.hid hC4
    have H5 := Lib.hid hC5
    have Hone := Lib.hid (cc3_one (l.drop (i + 1)))
    have Hmin := Lib.hid hmin
    clear hC1 hC2 hC3 hC4 hC5 hmin hi0 hif H HS2
    have ht1 : ((i : Int) + 1).toNat = i + 1 := by omega
    have hw1 : IntKind.i64.wrap ((i : Int) + 1) = (i : Int) + 1 := IntWalk.i64_in _ (by omega)
    generalize hcs : d3 (l.drop (i + 1)) = cs at *
    clear hcs
    generalize l.eraseIdx i = l2 at *
    go_wp2_with fail
    refine wp_region_held_drew (S := (fun _ : World => True)) (by kernel_rfl) (by trivial) (fun hHeld => ?_)
    refine wpAnyH_take (i := 0) (oi := { dst := some 15, op := Go.Op.move (Go.Operand.tmp 3), type := 58, pos := "epochs.go:129", after := #[], guard := none }) (v := ?_) rfl (by kernel_rfl) (by kernel_rfl) (by kernel_rfl) (fun _ _ _ h => h) (Or.inl ⟨by rfl, ?_⟩) (by assumption) ?_
    rotate_left
    · (intro w hSw; (try dsimp only at hSw); go_simp; (try with_reducible rfl))
    try simp only [Act.put, List.setIfInBounds_toArray, List.set_cons_zero, List.set_cons_succ]
    refine wpAnyH_take (i := 1) (oi := { dst := some 16, op := Go.Op.move (Go.Operand.tmp 4), type := 3, pos := "epochs.go:129", after := #[], guard := none }) (v := ?_) rfl (by kernel_rfl) (by kernel_rfl) (by kernel_rfl) (fun _ _ _ h => h) (Or.inl ⟨by rfl, ?_⟩) (by assumption) ?_
    rotate_left
    · (intro w hSw; (try dsimp only at hSw); go_simp; (try with_reducible rfl))
    try simp only [Act.put, List.setIfInBounds_toArray, List.set_cons_zero, List.set_cons_succ]
    refine wpAnyH_take (i := 2) (oi := { dst := some 17, op := Go.Op.slice 58 (Go.Operand.tmp 15) (some (Go.Operand.tmp 16)) none none, type := 58, pos := "epochs.go:129", after := #[{ on := 0, ground := Go.Ground.data }, { on := 1, ground := Go.Ground.data }], guard := none }) (v := ?_) rfl (by kernel_rfl) (by kernel_rfl) (by kernel_rfl) (fun _ _ _ h => h) (Or.inl ⟨by rfl, ?_⟩) (by assumption) ?_
    rotate_left
    · (intro w hSw; (try dsimp only at hSw); go_simp; (try with_reducible rfl))
    try simp only [Act.put, List.setIfInBounds_toArray, List.set_cons_zero, List.set_cons_succ]
    refine wpAnyH_take (i := 3) (oi := { dst := some 18, op := Go.Op.move (Go.Operand.tmp 3), type := 58, pos := "epochs.go:129", after := #[], guard := none }) (v := ?_) rfl (by kernel_rfl) (by kernel_rfl) (by kernel_rfl) (fun _ _ _ h => h) (Or.inl ⟨by rfl, ?_⟩) (by assumption) ?_
    rotate_left
    · (intro w hSw; (try dsimp only at hSw); go_simp; (try with_reducible rfl))
    try simp only [Act.put, List.setIfInBounds_toArray, List.set_cons_zero, List.set_cons_succ]
    refine wpAnyH_take (i := 4) (oi := { dst := some 19, op := Go.Op.move (Go.Operand.tmp 4), type := 3, pos := "epochs.go:129", after := #[], guard := none }) (v := ?_) rfl (by kernel_rfl) (by kernel_rfl) (by kernel_rfl) (fun _ _ _ h => h) (Or.inl ⟨by rfl, ?_⟩) (by assumption) ?_
    rotate_left
    · (intro w hSw; (try dsimp only at hSw); go_simp; (try with_reducible rfl))
    try simp only [Act.put, List.setIfInBounds_toArray, List.set_cons_zero, List.set_cons_succ]
    refine wpAnyH_take (i := 5) (oi := { dst := some 20, op := Go.Op.binOp Go.BinOp.add 3 (Go.Operand.tmp 19) (Go.Operand.const (Go.Value.int Go.IntKind.i64 1)) 3, type := 3, pos := "epochs.go:129", after := #[{ on := 4, ground := Go.Ground.data }], guard := none }) (v := ?_) rfl (by kernel_rfl) (by kernel_rfl) (by kernel_rfl) (fun _ _ _ h => h) (Or.inl ⟨by rfl, ?_⟩) (by assumption) ?_
    rotate_left
    · (intro w hSw; (try dsimp only at hSw); go_simp; (try with_reducible rfl))
    try simp only [Act.put, List.setIfInBounds_toArray, List.set_cons_zero, List.set_cons_succ]
    refine wpAnyH_take (i := 6) (oi := { dst := some 21, op := Go.Op.slice 58 (Go.Operand.tmp 18) (some (Go.Operand.tmp 20)) none none, type := 58, pos := "epochs.go:129", after := #[{ on := 3, ground := Go.Ground.data }, { on := 5, ground := Go.Ground.data }], guard := none }) (v := ?_) rfl (by kernel_rfl) (by kernel_rfl) (by kernel_rfl) (fun _ _ _ h => h) (Or.inl ⟨by rfl, ?_⟩) (by assumption) ?_
    rotate_left
    · (intro w hSw; (try dsimp only at hSw); go_simp; (try with_reducible rfl))
    try simp only [Act.put, List.setIfInBounds_toArray, List.set_cons_zero, List.set_cons_succ]
    refine wpAnyH_ready (rs := [7]) (by kernel_rfl) (by simp) ?_
    refine AllReadyH.cons (o := { dst := some 22, op := Go.Op.call { callee := Go.Callee.builtin Go.Builtin.copy, args := #[Go.Operand.tmp 17, Go.Operand.tmp 21], argTypes := #[58, 58] }, type := 3, pos := "epochs.go:129", after := #[{ on := 2, ground := Go.Ground.data }, { on := 6, ground := Go.Ground.data }], guard := none }) rfl (fun K hK => ?_) AllReadyH.nil
    (refine step_copy_rowN rfl (.tmp 17) (.tmp 21) 58 58 rfl 51 3 Try.underlying58 (by kernel_rfl) ⟨b, (i + 1) * 3, none⟩ (l.length - i) (8 - i) (l.length - (i + 1)) (7 - i) b (i * 3) rfl rfl C 54 H1.out cs (by rw [H3.out, Hmin.out]) H2.out H4.out Hone.out ?_; intro w4 hg4 hb4)
    refine hK.out _ _ (by trivial) (fun hHeld => ?_)
    clear hK K
    try simp only [Act.put, List.setIfInBounds_toArray, List.set_cons_zero, List.set_cons_succ]
    refine wpAnyH_done (by kernel_rfl) ?_ _
    obtain ⟨k24, f24, hS4⟩ := H5.out w4 hg4.out
    have HS4 := Lib.hid hS4
    have HG4 := Lib.hid (show w.grownBy w4 (some b) from (grown_below HB2.out (some b)).trans ⟨hb4.out.os, hb4.out.tape, hb4.out.output, hb4.out.size, hb4.out.block⟩)
    clear hg4 hb4 hS4 H1 H2 H3 H4 H5 Hone Hmin s1 s2 HB2
    go_wp2
    go_ret
    rw [Hd.out]
    exact ⟨rfl, HS4.out, grown_set HG4.out 24 _⟩
  · have Hd := Lib.hid (Bm.dropD_no l (fun j hj hj2 => hall j hj (by have := Hk.out; omega)))
    have HS2 := Lib.hid (H.out.keep (HB2.out.block b H.out.lt))
    clear hall H
    go_wp2
    go_ret
    rw [Hd.out]
    exact ⟨rfl, HS2.out, grown_below HB2.out _⟩
/-- One more at the end, where there is room. -/
theorem SG.grow {w : World} {b m : Nat} {l : List Bm.Dic} (h : SG w b m l) (hl : l.length < 8) :
    ∃ v0 v1 v2, w.cell? ⟨b, l.length * 3, none⟩ = some v0 ∧ w.cell? ⟨b, l.length * 3 + 1, none⟩ = some v1 ∧ w.cell? ⟨b, l.length * 3 + 2, none⟩ = some v2 ∧ ∀ (e : Nat) (t : ByteArray) (q : Nat),
      (((w.setCell ⟨b, l.length * 3, none⟩ (.int .i64 (e : Int))).setCell ⟨b, l.length * 3 + 1, none⟩ (.string t)).setCell ⟨b, l.length * 3 + 2, none⟩ (.int .i64 (q : Int))).cell? ⟨b, 24, none⟩ = some (.int .i64 (l.length : Int)) ∧
      (((w.setCell ⟨b, l.length * 3, none⟩ (.int .i64 (e : Int))).setCell ⟨b, l.length * 3 + 1, none⟩ (.string t)).setCell ⟨b, l.length * 3 + 2, none⟩ (.int .i64 (q : Int))).frozen? ⟨b, 24, none⟩ = false ∧
      (e ≤ m + 1 → q ≤ m + 1 → t.size ≤ 256 → SG ((((w.setCell ⟨b, l.length * 3, none⟩ (.int .i64 (e : Int))).setCell ⟨b, l.length * 3 + 1, none⟩ (.string t)).setCell ⟨b, l.length * 3 + 2, none⟩ (.int .i64 (q : Int))).setCell ⟨b, 24, none⟩ (.int .i64 ((l.length : Int) + 1))) b (m + 1) (l ++ [⟨e, t, q⟩])) := by
  obtain ⟨R, h1, h2, h3⟩ := h
  have hd : (d3 l).length = l.length * 3 := cc3_length l
  match R, h2 with
  | [], h2 => simp at h2; omega
  | [_], h2 => simp at h2; omega
  | [_, _], h2 => simp at h2; omega
  | r0 :: r1 :: r2 :: R2, h2 =>
    simp only [List.length_cons] at h2
    refine ⟨r0, r1, r2, ?_, ?_, ?_, fun e t q => ?_⟩
    · rw [h1.cell, List.getElem?_append_right (by omega), hd, Nat.sub_self]; rfl
    · rw [h1.cell, List.getElem?_append_right (by omega), hd, Nat.add_sub_cancel_left]; rfl
    · rw [h1.cell, List.getElem?_append_right (by omega), hd, Nat.add_sub_cancel_left]; rfl
    · have h4 := ((h1.set_ (l.length * 3) (.int .i64 (e : Int))).set_ (l.length * 3 + 1) (.string t)).set_ (l.length * 3 + 2) (.int .i64 (q : Int))
      have e5 : (((d3 l ++ (r0 :: r1 :: r2 :: R2 ++ [Value.int .i64 (l.length : Int)])).set (l.length * 3) (.int .i64 (e : Int))).set (l.length * 3 + 1) (.string t)).set (l.length * 3 + 2) (.int .i64 (q : Int)) = d3 (l ++ [⟨e, t, q⟩]) ++ (R2 ++ [Value.int .i64 (l.length : Int)]) := by
        rw [List.set_append_right _ _ (by omega), hd, Nat.sub_self, List.set_append_right _ _ (by omega), hd, Nat.add_sub_cancel_left, List.set_append_right _ _ (by omega), hd, Nat.add_sub_cancel_left]
        show _ = cc3 dcE dcT dcH (l ++ [⟨e, t, q⟩]) ++ _
        rw [cc3_append, List.append_assoc]
        rfl
      rw [e5] at h4
      have hd2 : (d3 (l ++ [⟨e, t, q⟩])).length = (l.length + 1) * 3 := by
        have := cc3_length (f := dcE) (h := dcT) (k := dcH) (l ++ [⟨e, t, q⟩])
        rw [List.length_append, List.length_singleton] at this
        exact this
      refine ⟨?_, h4.free 24, fun he hq ht => ⟨R2, ?_, by rw [List.length_append, List.length_singleton]; omega, fun d hd => ?_⟩⟩
      · rw [h4.cell, List.getElem?_append_right (by omega), List.getElem?_append_right (by omega), hd2, show 24 - (l.length + 1) * 3 - R2.length = 0 by omega]
        rfl
      · have h5 := h4.set_ 24 (.int .i64 ((l.length : Int) + 1))
        rw [List.set_append_right _ _ (by omega), List.set_append_right _ _ (by omega), hd2, show 24 - (l.length + 1) * 3 - R2.length = 0 by omega, List.set_cons_zero] at h5
        rw [List.length_append, List.length_singleton]
        exact h5
      · rcases List.mem_append.1 hd with h6 | h6
        · have := h3 d h6; omega
        · rw [List.mem_singleton.1 h6]; exact ⟨he, hq, ht⟩
set_option maxHeartbeats 2000000 in
set_option maxRecDepth 100000 in
theorem eadd_any (b m : Nat) (l : List Bm.Dic) (t : ByteArray) (w : World) (hm : m ≤ 1000000000) (h : SG w b m l) :
    Calls Try.prog 9 #[.pointer (some ⟨b, 0, none⟩), .string t] w fun e w' => e = .returned (.tuple #[.int .i64 ((Bm.addD t l).1 : Int), .int .i64 ((Bm.addD t l).2.1 : Int)]) ∧ SG w' b (m + 1) (Bm.addD t l).2.2 ∧ w.grownBy w' (some b) := by
  have h8 := h.small.1
  have H := Lib.hid h
  have cn := h.cn
  by_cases ht : 256 < t.size
  · have Hadd : Hid (Bm.addD t l = (0, 5, l)) := Lib.hid (by unfold Bm.addD; rw [if_pos ht])
    have hd : decide (256 < (t.size : Int)) = true := decide_eq_true (by omega)
    clear h cn
    go_enter Try.func9, Try.ntmps9
    go_wp2
    go_ret2
    rw [Hadd.out]
    exact ⟨rfl, H.out.mono (Nat.le_succ m), grown_refl _ _⟩
  have Ht : Hid (t.size ≤ 256) := Lib.hid (by omega)
  have hd : decide (256 < (t.size : Int)) = false := decide_eq_false (by omega)
  have Hcl := Lib.hid (fun W => sclone_any t W (by have := Ht.out; omega))
  by_cases hl8 : l.length = 8
  · have Hdr := Lib.hid (edrop_any b m l w (by omega) h)
    have hd8 : ((l.length : Int) == 8) = true := by rw [beq_iff_eq]; omega
    have hd9 : (l.length == 8) = true := by rw [beq_iff_eq]; omega
    cases hdr : Bm.dropD l with
    | none =>
      have Hadd : Hid (Bm.addD t l = (0, 2, l)) := Lib.hid (by unfold Bm.addD; rw [if_neg ht, if_pos hl8, hdr])
      rw [hdr] at Hdr
      clear h ht hdr hl8
      go_enter Try.func9, Try.ntmps9
      go_wp2_with fail
      refine Hdr.out.mono ?_
      rintro e w2 ⟨rfl, hS, hg⟩
      have HS := Lib.hid hS
      have HG := Lib.hid hg
      clear hS hg Hdr cn
      go_wp2
      go_ret2
      rw [Hadd.out]
      exact ⟨rfl, HS.out.mono (Nat.le_succ m), HG.out⟩
    | some l2 =>
      have hl2 := (Bm.dropD_last hdr).2.1
      have hn7 : l2.length < 8 := by omega
      have Hadd : Hid (Bm.addD t l = (Bm.lastD l2 + 1, 0, l2 ++ [⟨Bm.lastD l2 + 1, t, 0⟩])) := Lib.hid (by unfold Bm.addD; rw [if_neg ht, if_pos hl8, hdr])
      rw [hdr] at Hdr
      clear h ht hdr hl8 hl2
      go_enter Try.func9, Try.ntmps9
      go_wp2_with fail
      refine Hdr.out.mono ?_
      rintro e w2 ⟨rfl, hS, hg⟩
      have HS : Hid (SG w2 b m l2) := Lib.hid hS
      have HG := Lib.hid hg
      clear hS hg Hdr cn hd8 hd9 H h8
      have Hla := Lib.hid (elast_any _ m l2 w2 HS.out.toP)
      have hle : Bm.lastD l2 ≤ 1000000000 := Nat.le_trans (Bm.lastD_le l2 m fun d hd => (HS.out.small.2 d hd).1) hm
      have Hlm := Lib.hid (Bm.lastD_le l2 m fun d hd => (HS.out.small.2 d hd).1)
      generalize Bm.lastD l2 = z at *
      go_wp2_with fail
      refine Hla.out.mono ?_
      rintro e w' ⟨rfl, q, rfl⟩
      clear Hla
      have HSq := Lib.hid (show SG (w2.drewN q) b m l2 from HS.out.keep rfl)
      have HGq := Lib.hid (show w.grownBy (w2.drewN q) (some b) from grown_drewN HG.out q)
      clear HS HG
      generalize w2.drewN q = w3 at *
      have c24 := HSq.out.cn
      have Hc24 := Lib.hid c24
      have hnI : (l2.length : Int) < 8 := by omega
      go_wp2_with fail
      refine wp_region_held_drew (S := (fun W : World => W.cell? ⟨b, 24, none⟩ = some (.int .i64 (l2.length : Int)))) (by kernel_rfl) (by exact Hc24.out) (fun hHeld => ?_)
      refine wpAnyH_take (i := 0) (oi := { dst := some 25, op := Go.Op.move (Go.Operand.tmp 0), type := 24, pos := "epochs.go:42", after := #[], guard := none }) (v := ?_) rfl (by kernel_rfl) (by kernel_rfl) (by kernel_rfl) (fun _ _ _ h => h) (Or.inl ⟨by rfl, ?_⟩) (by assumption) ?_
      rotate_left
      · (intro w hSw; (try dsimp only at hSw); go_simp; (try with_reducible rfl))
      try simp only [Act.put, List.setIfInBounds_toArray, List.set_cons_zero, List.set_cons_succ]
      refine wpAnyH_take (i := 1) (oi := { dst := some 26, op := Go.Op.move (Go.Operand.tmp 0), type := 24, pos := "epochs.go:42", after := #[], guard := none }) (v := ?_) rfl (by kernel_rfl) (by kernel_rfl) (by kernel_rfl) (fun _ _ _ h => h) (Or.inl ⟨by rfl, ?_⟩) (by assumption) ?_
      rotate_left
      · (intro w hSw; (try dsimp only at hSw); go_simp; (try with_reducible rfl))
      try simp only [Act.put, List.setIfInBounds_toArray, List.set_cons_zero, List.set_cons_succ]
      refine wpAnyH_take (i := 2) (oi := { dst := some 27, op := Go.Op.nilCheck (Go.Operand.tmp 26), type := 0, pos := "epochs.go:42", after := #[{ on := 1, ground := Go.Ground.data }], guard := none }) (v := ?_) rfl (by kernel_rfl) (by kernel_rfl) (by kernel_rfl) (fun _ _ _ h => h) (Or.inl ⟨by rfl, ?_⟩) (by assumption) ?_
      rotate_left
      · (intro w hSw; (try dsimp only at hSw); go_simp; (try with_reducible rfl))
      try simp only [Act.put, List.setIfInBounds_toArray, List.set_cons_zero, List.set_cons_succ]
      refine wpAnyH_take (i := 3) (oi := { dst := some 28, op := Go.Op.fieldAddr 54 (Go.Operand.tmp 27) 1, type := 0, pos := "epochs.go:42", after := #[{ on := 2, ground := Go.Ground.data }], guard := none }) (v := ?_) rfl (by kernel_rfl) (by kernel_rfl) (by kernel_rfl) (fun _ _ _ h => h) (Or.inl ⟨by rfl, ?_⟩) (by assumption) ?_
      rotate_left
      · (intro w hSw; (try dsimp only at hSw); go_simp; (try with_reducible rfl))
      try simp only [Act.put, List.setIfInBounds_toArray, List.set_cons_zero, List.set_cons_succ]
      refine wpAnyH_take (i := 4) (oi := { dst := some 29, op := Go.Op.load 3 (Go.Operand.tmp 28), type := 3, pos := "epochs.go:42", after := #[{ on := 3, ground := Go.Ground.data }], guard := none }) (v := ?_) rfl (by kernel_rfl) (by kernel_rfl) (by kernel_rfl) (fun _ _ _ h => h) (Or.inl ⟨by rfl, ?_⟩) (by assumption) ?_
      rotate_left
      · (intro w hSw; (try dsimp only at hSw); go_simp; (try with_reducible rfl))
      try simp only [Act.put, List.setIfInBounds_toArray, List.set_cons_zero, List.set_cons_succ]
      refine wpAnyH_take (i := 5) (oi := { dst := some 30, op := Go.Op.move (Go.Operand.tmp 6), type := 3, pos := "epochs.go:42", after := #[], guard := none }) (v := ?_) rfl (by kernel_rfl) (by kernel_rfl) (by kernel_rfl) (fun _ _ _ h => h) (Or.inl ⟨by rfl, ?_⟩) (by assumption) ?_
      rotate_left
      · (intro w hSw; (try dsimp only at hSw); go_simp; (try with_reducible rfl))
      try simp only [Act.put, List.setIfInBounds_toArray, List.set_cons_zero, List.set_cons_succ]
      refine wpAnyH_take (i := 6) (oi := { dst := some 31, op := Go.Op.move (Go.Operand.tmp 1), type := 9, pos := "epochs.go:42", after := #[], guard := none }) (v := ?_) rfl (by kernel_rfl) (by kernel_rfl) (by kernel_rfl) (fun _ _ _ h => h) (Or.inl ⟨by rfl, ?_⟩) (by assumption) ?_
      rotate_left
      · (intro w hSw; (try dsimp only at hSw); go_simp; (try with_reducible rfl))
      try simp only [Act.put, List.setIfInBounds_toArray, List.set_cons_zero, List.set_cons_succ]
      refine wpAnyH_take (i := 9) (oi := { dst := some 34, op := Go.Op.nilCheck (Go.Operand.tmp 25), type := 0, pos := "epochs.go:42", after := #[{ on := 0, ground := Go.Ground.data }], guard := none }) (v := ?_) rfl (by kernel_rfl) (by kernel_rfl) (by kernel_rfl) (fun _ _ _ h => h) (Or.inl ⟨by rfl, ?_⟩) (by assumption) ?_
      rotate_left
      · (intro w hSw; (try dsimp only at hSw); go_simp; (try with_reducible rfl))
      try simp only [Act.put, List.setIfInBounds_toArray, List.set_cons_zero, List.set_cons_succ]
      refine wpAnyH_take (i := 10) (oi := { dst := some 35, op := Go.Op.fieldAddr 54 (Go.Operand.tmp 34) 0, type := 0, pos := "epochs.go:42", after := #[{ on := 9, ground := Go.Ground.data }], guard := none }) (v := ?_) rfl (by kernel_rfl) (by kernel_rfl) (by kernel_rfl) (fun _ _ _ h => h) (Or.inl ⟨by rfl, ?_⟩) (by assumption) ?_
      rotate_left
      · (intro w hSw; (try dsimp only at hSw); go_simp; (try with_reducible rfl))
      try simp only [Act.put, List.setIfInBounds_toArray, List.set_cons_zero, List.set_cons_succ]
      refine wpAnyH_ready (rs := [7]) (by kernel_rfl) (by simp) ?_
      refine AllReadyH.cons (o := { dst := some 32, op := Go.Op.call { callee := Go.Callee.value (Go.Operand.func 20), args := #[Go.Operand.tmp 31], argTypes := #[9] }, type := 9, pos := "epochs.go:42", after := #[{ on := 6, ground := Go.Ground.data }], guard := none }) rfl (fun K hK => ?_) AllReadyH.nil
      go_simp
      (go_at_call 20; refine (Hcl.out _).mono ?_; rintro e w4 ⟨rfl, hb4⟩; have HB4 := Lib.hid (show Below w3.heap.size w3 w4 from ⟨hb4.os, hb4.tape, hb4.output, hb4.size, hb4.block⟩); have HS4 := Lib.hid (HSq.out.keep (HB4.out.block b HSq.out.lt)); obtain ⟨v0, v1, v2, k0, k1, k2, hgr⟩ := HS4.out.grow hn7; have f0 := HS4.out.fr (l2.length * 3); have f1 := HS4.out.fr (l2.length * 3 + 1); have f2 := HS4.out.fr (l2.length * 3 + 2); have Hgr := Lib.hid hgr; clear hgr hb4)
      go_simp
      refine hK.out _ _ (by exact HS4.out.cn) (fun hHeld => ?_)
      clear hK K
      try simp only [Act.put, List.setIfInBounds_toArray, List.set_cons_zero, List.set_cons_succ]
      refine wpAnyH_take (i := 8) (oi := { dst := some 33, op := Go.Op.build 51 #[(0, Go.Operand.tmp 30), (1, Go.Operand.tmp 32)], type := 51, pos := "epochs.go:42", after := #[{ on := 5, ground := Go.Ground.data }, { on := 7, ground := Go.Ground.data }], guard := none }) (v := ?_) rfl (by kernel_rfl) (by kernel_rfl) (by kernel_rfl) (fun _ _ _ h => h) (Or.inl ⟨by rfl, ?_⟩) (by assumption) ?_
      rotate_left
      · (intro w hSw; (try dsimp only at hSw); go_simp; (try with_reducible rfl))
      try simp only [Act.put, List.setIfInBounds_toArray, List.set_cons_zero, List.set_cons_succ]
      refine wpAnyH_take (i := 11) (oi := { dst := some 36, op := Go.Op.indexAddr 52 (Go.Operand.tmp 35) (Go.Operand.tmp 29), type := 0, pos := "epochs.go:42", after := #[{ on := 10, ground := Go.Ground.data }, { on := 4, ground := Go.Ground.data }, { on := 0, ground := Go.Ground.phase }, { on := 1, ground := Go.Ground.phase }, { on := 2, ground := Go.Ground.phase }, { on := 3, ground := Go.Ground.phase }, { on := 4, ground := Go.Ground.phase }, { on := 5, ground := Go.Ground.phase }, { on := 6, ground := Go.Ground.phase }, { on := 7, ground := Go.Ground.phase }, { on := 8, ground := Go.Ground.phase }], guard := none }) (v := ?_) rfl (by kernel_rfl) (by kernel_rfl) (by kernel_rfl) (fun _ _ _ h => h) (Or.inl ⟨by rfl, ?_⟩) (by assumption) ?_
      rotate_left
      · (intro w hSw; (try dsimp only at hSw); go_simp; (try with_reducible rfl))
      try simp only [Act.put, List.setIfInBounds_toArray, List.set_cons_zero, List.set_cons_succ]
      refine wpAnyH_ready (rs := [12]) (by kernel_rfl) (by simp) ?_
      refine AllReadyH.cons (o := { dst := none, op := Go.Op.store 51 (Go.Operand.tmp 36) (Go.Operand.tmp 33), type := 0, pos := "epochs.go:42", after := #[{ on := 11, ground := Go.Ground.data }, { on := 8, ground := Go.Ground.data }, { on := 7, ground := Go.Ground.chain }, { on := 0, ground := Go.Ground.phase }, { on := 1, ground := Go.Ground.phase }, { on := 2, ground := Go.Ground.phase }, { on := 3, ground := Go.Ground.phase }, { on := 4, ground := Go.Ground.phase }, { on := 5, ground := Go.Ground.phase }, { on := 6, ground := Go.Ground.phase }, { on := 7, ground := Go.Ground.phase }, { on := 8, ground := Go.Ground.phase }], guard := none }) rfl (fun K hK => ?_) AllReadyH.nil
      go_simp
      refine hK.out _ _ (by exact (Hgr.out (z + 1) t 0).1) (fun hHeld => ?_)
      clear hK K
      try simp only [Act.put, List.setIfInBounds_toArray, List.set_cons_zero, List.set_cons_succ]
      refine wpAnyH_done (by kernel_rfl) ?_ _
      obtain ⟨e24, f24, hfin⟩ := Hgr.out (z + 1) t 0
      simp only [Int.natCast_add, Int.cast_ofNat_Int] at e24 f24 hfin
      have Hfin := Lib.hid (hfin (by have := Hlm.out; omega) (by omega) Ht.out)
      have HG4 := Lib.hid (HGq.out.trans (grown_below HB4.out (some b)))
      clear hfin Hgr HB4 HS4 HSq HGq k0 k1 k2 f0 f1 f2 c24 Hc24
      go_wp2
      go_ret2
      rw [Hadd.out]
      exact ⟨rfl, Hfin.out, grown_set (grown_set (grown_set (grown_set HG4.out _ _) _ _) _ _) _ _⟩
  · have hn7 : l.length < 8 := by omega
    have hd8 : ((l.length : Int) == 8) = false := by rw [beq_eq_false_iff_ne]; omega
    have hd9 : (l.length == 8) = false := by rw [beq_eq_false_iff_ne]; exact hl8
    have Hadd : Hid (Bm.addD t l = (Bm.lastD l + 1, 0, l ++ [⟨Bm.lastD l + 1, t, 0⟩])) := Lib.hid (by unfold Bm.addD; rw [if_neg ht, if_neg hl8])
    have HG : Hid (w.grownBy w (some b)) := Lib.hid (grown_refl _ _)
    have HS : Hid (SG w b m l) := H
    clear h ht hl8 h8
    go_enter Try.func9, Try.ntmps9
    have Hla := Lib.hid (elast_any _ m l w H.out.toP)
    have hle : Bm.lastD l ≤ 1000000000 := Nat.le_trans (Bm.lastD_le l m fun d hd => (HS.out.small.2 d hd).1) hm
    have Hlm := Lib.hid (Bm.lastD_le l m fun d hd => (HS.out.small.2 d hd).1)
    generalize Bm.lastD l = z at *
    go_wp2_with fail
    refine Hla.out.mono ?_
    rintro e w' ⟨rfl, q, rfl⟩
    clear Hla
    have HSq := Lib.hid (show SG (w.drewN q) b m l from HS.out.keep rfl)
    have HGq := Lib.hid (show w.grownBy (w.drewN q) (some b) from grown_drewN HG.out q)
    clear HS HG
    generalize w.drewN q = w3 at *
    have c24 := HSq.out.cn
    have Hc24 := Lib.hid c24
    have hnI : (l.length : Int) < 8 := by omega
    go_wp2_with fail
    refine wp_region_held_drew (S := (fun W : World => W.cell? ⟨b, 24, none⟩ = some (.int .i64 (l.length : Int)))) (by kernel_rfl) (by exact Hc24.out) (fun hHeld => ?_)
    refine wpAnyH_take (i := 0) (oi := { dst := some 25, op := Go.Op.move (Go.Operand.tmp 0), type := 24, pos := "epochs.go:42", after := #[], guard := none }) (v := ?_) rfl (by kernel_rfl) (by kernel_rfl) (by kernel_rfl) (fun _ _ _ h => h) (Or.inl ⟨by rfl, ?_⟩) (by assumption) ?_
    rotate_left
    · (intro w hSw; (try dsimp only at hSw); go_simp; (try with_reducible rfl))
    try simp only [Act.put, List.setIfInBounds_toArray, List.set_cons_zero, List.set_cons_succ]
    refine wpAnyH_take (i := 1) (oi := { dst := some 26, op := Go.Op.move (Go.Operand.tmp 0), type := 24, pos := "epochs.go:42", after := #[], guard := none }) (v := ?_) rfl (by kernel_rfl) (by kernel_rfl) (by kernel_rfl) (fun _ _ _ h => h) (Or.inl ⟨by rfl, ?_⟩) (by assumption) ?_
    rotate_left
    · (intro w hSw; (try dsimp only at hSw); go_simp; (try with_reducible rfl))
    try simp only [Act.put, List.setIfInBounds_toArray, List.set_cons_zero, List.set_cons_succ]
    refine wpAnyH_take (i := 2) (oi := { dst := some 27, op := Go.Op.nilCheck (Go.Operand.tmp 26), type := 0, pos := "epochs.go:42", after := #[{ on := 1, ground := Go.Ground.data }], guard := none }) (v := ?_) rfl (by kernel_rfl) (by kernel_rfl) (by kernel_rfl) (fun _ _ _ h => h) (Or.inl ⟨by rfl, ?_⟩) (by assumption) ?_
    rotate_left
    · (intro w hSw; (try dsimp only at hSw); go_simp; (try with_reducible rfl))
    try simp only [Act.put, List.setIfInBounds_toArray, List.set_cons_zero, List.set_cons_succ]
    refine wpAnyH_take (i := 3) (oi := { dst := some 28, op := Go.Op.fieldAddr 54 (Go.Operand.tmp 27) 1, type := 0, pos := "epochs.go:42", after := #[{ on := 2, ground := Go.Ground.data }], guard := none }) (v := ?_) rfl (by kernel_rfl) (by kernel_rfl) (by kernel_rfl) (fun _ _ _ h => h) (Or.inl ⟨by rfl, ?_⟩) (by assumption) ?_
    rotate_left
    · (intro w hSw; (try dsimp only at hSw); go_simp; (try with_reducible rfl))
    try simp only [Act.put, List.setIfInBounds_toArray, List.set_cons_zero, List.set_cons_succ]
    refine wpAnyH_take (i := 4) (oi := { dst := some 29, op := Go.Op.load 3 (Go.Operand.tmp 28), type := 3, pos := "epochs.go:42", after := #[{ on := 3, ground := Go.Ground.data }], guard := none }) (v := ?_) rfl (by kernel_rfl) (by kernel_rfl) (by kernel_rfl) (fun _ _ _ h => h) (Or.inl ⟨by rfl, ?_⟩) (by assumption) ?_
    rotate_left
    · (intro w hSw; (try dsimp only at hSw); go_simp; (try with_reducible rfl))
    try simp only [Act.put, List.setIfInBounds_toArray, List.set_cons_zero, List.set_cons_succ]
    refine wpAnyH_take (i := 5) (oi := { dst := some 30, op := Go.Op.move (Go.Operand.tmp 6), type := 3, pos := "epochs.go:42", after := #[], guard := none }) (v := ?_) rfl (by kernel_rfl) (by kernel_rfl) (by kernel_rfl) (fun _ _ _ h => h) (Or.inl ⟨by rfl, ?_⟩) (by assumption) ?_
    rotate_left
    · (intro w hSw; (try dsimp only at hSw); go_simp; (try with_reducible rfl))
    try simp only [Act.put, List.setIfInBounds_toArray, List.set_cons_zero, List.set_cons_succ]
    refine wpAnyH_take (i := 6) (oi := { dst := some 31, op := Go.Op.move (Go.Operand.tmp 1), type := 9, pos := "epochs.go:42", after := #[], guard := none }) (v := ?_) rfl (by kernel_rfl) (by kernel_rfl) (by kernel_rfl) (fun _ _ _ h => h) (Or.inl ⟨by rfl, ?_⟩) (by assumption) ?_
    rotate_left
    · (intro w hSw; (try dsimp only at hSw); go_simp; (try with_reducible rfl))
    try simp only [Act.put, List.setIfInBounds_toArray, List.set_cons_zero, List.set_cons_succ]
    refine wpAnyH_take (i := 9) (oi := { dst := some 34, op := Go.Op.nilCheck (Go.Operand.tmp 25), type := 0, pos := "epochs.go:42", after := #[{ on := 0, ground := Go.Ground.data }], guard := none }) (v := ?_) rfl (by kernel_rfl) (by kernel_rfl) (by kernel_rfl) (fun _ _ _ h => h) (Or.inl ⟨by rfl, ?_⟩) (by assumption) ?_
    rotate_left
    · (intro w hSw; (try dsimp only at hSw); go_simp; (try with_reducible rfl))
    try simp only [Act.put, List.setIfInBounds_toArray, List.set_cons_zero, List.set_cons_succ]
    refine wpAnyH_take (i := 10) (oi := { dst := some 35, op := Go.Op.fieldAddr 54 (Go.Operand.tmp 34) 0, type := 0, pos := "epochs.go:42", after := #[{ on := 9, ground := Go.Ground.data }], guard := none }) (v := ?_) rfl (by kernel_rfl) (by kernel_rfl) (by kernel_rfl) (fun _ _ _ h => h) (Or.inl ⟨by rfl, ?_⟩) (by assumption) ?_
    rotate_left
    · (intro w hSw; (try dsimp only at hSw); go_simp; (try with_reducible rfl))
    try simp only [Act.put, List.setIfInBounds_toArray, List.set_cons_zero, List.set_cons_succ]
    refine wpAnyH_ready (rs := [7]) (by kernel_rfl) (by simp) ?_
    refine AllReadyH.cons (o := { dst := some 32, op := Go.Op.call { callee := Go.Callee.value (Go.Operand.func 20), args := #[Go.Operand.tmp 31], argTypes := #[9] }, type := 9, pos := "epochs.go:42", after := #[{ on := 6, ground := Go.Ground.data }], guard := none }) rfl (fun K hK => ?_) AllReadyH.nil
    go_simp
    (go_at_call 20; refine (Hcl.out _).mono ?_; rintro e w4 ⟨rfl, hb4⟩; have HB4 := Lib.hid (show Below w3.heap.size w3 w4 from ⟨hb4.os, hb4.tape, hb4.output, hb4.size, hb4.block⟩); have HS4 := Lib.hid (HSq.out.keep (HB4.out.block b HSq.out.lt)); obtain ⟨v0, v1, v2, k0, k1, k2, hgr⟩ := HS4.out.grow hn7; have f0 := HS4.out.fr (l.length * 3); have f1 := HS4.out.fr (l.length * 3 + 1); have f2 := HS4.out.fr (l.length * 3 + 2); have Hgr := Lib.hid hgr; clear hgr hb4)
    go_simp
    refine hK.out _ _ (by exact HS4.out.cn) (fun hHeld => ?_)
    clear hK K
    try simp only [Act.put, List.setIfInBounds_toArray, List.set_cons_zero, List.set_cons_succ]
    refine wpAnyH_take (i := 8) (oi := { dst := some 33, op := Go.Op.build 51 #[(0, Go.Operand.tmp 30), (1, Go.Operand.tmp 32)], type := 51, pos := "epochs.go:42", after := #[{ on := 5, ground := Go.Ground.data }, { on := 7, ground := Go.Ground.data }], guard := none }) (v := ?_) rfl (by kernel_rfl) (by kernel_rfl) (by kernel_rfl) (fun _ _ _ h => h) (Or.inl ⟨by rfl, ?_⟩) (by assumption) ?_
    rotate_left
    · (intro w hSw; (try dsimp only at hSw); go_simp; (try with_reducible rfl))
    try simp only [Act.put, List.setIfInBounds_toArray, List.set_cons_zero, List.set_cons_succ]
    refine wpAnyH_take (i := 11) (oi := { dst := some 36, op := Go.Op.indexAddr 52 (Go.Operand.tmp 35) (Go.Operand.tmp 29), type := 0, pos := "epochs.go:42", after := #[{ on := 10, ground := Go.Ground.data }, { on := 4, ground := Go.Ground.data }, { on := 0, ground := Go.Ground.phase }, { on := 1, ground := Go.Ground.phase }, { on := 2, ground := Go.Ground.phase }, { on := 3, ground := Go.Ground.phase }, { on := 4, ground := Go.Ground.phase }, { on := 5, ground := Go.Ground.phase }, { on := 6, ground := Go.Ground.phase }, { on := 7, ground := Go.Ground.phase }, { on := 8, ground := Go.Ground.phase }], guard := none }) (v := ?_) rfl (by kernel_rfl) (by kernel_rfl) (by kernel_rfl) (fun _ _ _ h => h) (Or.inl ⟨by rfl, ?_⟩) (by assumption) ?_
    rotate_left
    · (intro w hSw; (try dsimp only at hSw); go_simp; (try with_reducible rfl))
    try simp only [Act.put, List.setIfInBounds_toArray, List.set_cons_zero, List.set_cons_succ]
    refine wpAnyH_ready (rs := [12]) (by kernel_rfl) (by simp) ?_
    refine AllReadyH.cons (o := { dst := none, op := Go.Op.store 51 (Go.Operand.tmp 36) (Go.Operand.tmp 33), type := 0, pos := "epochs.go:42", after := #[{ on := 11, ground := Go.Ground.data }, { on := 8, ground := Go.Ground.data }, { on := 7, ground := Go.Ground.chain }, { on := 0, ground := Go.Ground.phase }, { on := 1, ground := Go.Ground.phase }, { on := 2, ground := Go.Ground.phase }, { on := 3, ground := Go.Ground.phase }, { on := 4, ground := Go.Ground.phase }, { on := 5, ground := Go.Ground.phase }, { on := 6, ground := Go.Ground.phase }, { on := 7, ground := Go.Ground.phase }, { on := 8, ground := Go.Ground.phase }], guard := none }) rfl (fun K hK => ?_) AllReadyH.nil
    go_simp
    refine hK.out _ _ (by exact (Hgr.out (z + 1) t 0).1) (fun hHeld => ?_)
    clear hK K
    try simp only [Act.put, List.setIfInBounds_toArray, List.set_cons_zero, List.set_cons_succ]
    refine wpAnyH_done (by kernel_rfl) ?_ _
    obtain ⟨e24, f24, hfin⟩ := Hgr.out (z + 1) t 0
    simp only [Int.natCast_add, Int.cast_ofNat_Int] at e24 f24 hfin
    have Hfin := Lib.hid (hfin (by have := Hlm.out; omega) (by omega) Ht.out)
    have HG4 := Lib.hid (HGq.out.trans (grown_below HB4.out (some b)))
    clear hfin Hgr HB4 HS4 HSq HGq k0 k1 k2 f0 f1 f2 c24 Hc24
    go_wp2
    go_ret2
    rw [Hadd.out]
    exact ⟨rfl, Hfin.out, grown_set (grown_set (grown_set (grown_set HG4.out _ _) _ _) _ _) _ _⟩
end Go.Proofs.Ytdaobbhgmjdooaa
