/-
  MessageBack (layer 25): the law's function by its walk: true for any message. Condition: the message's data are bytes.
-/
import Derived.Test.YtfopnbfaaikghaaMq
import Derived.Test.YtfopnbfaaikghaaMn
import Derived.Test.YtfopnbfaaikghaaMk
import Derived.Test.YtfopnbfaaikghaaXz
import Derived.RegionTactic
import Derived.Deep.RegionHeld3
namespace Go.Proofs.Ytfopnbfaaikghaa
open Go.RowKit

/-- What the law has come to behind a call: its message in memory. -/
structure LwS (w : World) (m : Msg) (W : World) : Prop where
  ms : Row W w.heap.size 24 (msL m)
  below : Below w.heap.size w W
theorem LwS.quiet {w W W' : World} {m : Msg} (H : LwS w m W) (hb : Below W.heap.size W W') : LwS w m W' := ⟨kept H.ms hb, H.below.trans (hb.mono H.below.size)⟩
theorem LwS.start (w : World) (m : Msg) : LwS w m (w.alloc (.cells (msL m).toArray 24)) := ⟨Row.new w _ _, (Below.refl _ _).alloc (Nat.le_refl _) _⟩
theorem LwS.alloc {w W : World} {m : Msg} (H : LwS w m W) (o : Obj) : LwS w m (W.alloc o) := ⟨H.ms.alloc o, H.below.alloc H.below.size o⟩

set_option maxHeartbeats 1000000 in
set_option maxRecDepth 100000 in
theorem mgback_long (m : Msg) (w : World) (h : 800 < m.data.length) : Calls Try.prog 3 #[msV m] w fun e w' => e = .returned (.bool true) ∧ Below w.heap.size w w' := by
  obtain ⟨W0, hW0⟩ : ∃ W0, W0 = w.alloc (.cells (msL m).toArray 24) := ⟨_, rfl⟩
  have H0 : Hid (LwS w m W0) := Lib.hid (by rw [hW0]; exact LwS.start w m)
  have hsz := strOf_size m.data
  have hz8 : (800 : Int) < (m.data.length : Int) := by omega
  generalize m.data.length = L at *
  unfold msV
  dsimp only [msL] at hW0 ⊢
  go_enter Try.func3, Try.ntmps3
  go_wp2_with fail
  rw [← hW0]
  refine (mgawake_any W0).mono ?_
  rintro e w1 ⟨rfl, g1⟩
  have H1 := Lib.hid (H0.out.quiet g1)
  clear g1 hW0
  obtain ⟨c0, c1, c2, c3, c4, c5⟩ := MsRow.cells H1.out.ms
  go_wp2_with fail
  go_ret
  exact ⟨rfl, H1.out.below⟩
set_option maxHeartbeats 2000000 in
set_option maxRecDepth 100000 in
theorem mgback_no (m : Msg) (w : World) (h : m.data.length ≤ 800) (hr : rightM m = false) : Calls Try.prog 3 #[msV m] w fun e w' => e = .returned (.bool true) ∧ Below w.heap.size w w' := by
  have HR := Lib.hid (fun W => rmright_any m W)
  rw [right_same, hr] at HR
  have HE := Lib.hid (fun W => mgenc_no m W hr)
  have HB := Lib.hid (fun W => mgbytes_no m W hr)
  have HP := Lib.hid (fun W => mgright_any m W)
  rw [hr] at HP
  have hguard := fr_guard
  have hself : ∀ W, (binOp .eql 28 (.agg #[.int .i64 0, .string ⟨#[]⟩]) (.agg #[.int .i64 0, .string ⟨#[]⟩])).run Try.prog W = .ok (.bool true) W := fun W => by
    have h1 := fr_eql (0, []) (0, []) W (by decide) (by decide)
    rw [show decide (((0, []) : Bm.Frm) = (0, [])) = true from decide_eq_true rfl] at h1
    exact h1
  unfold frV Bm.zfr at HE
  rw [show strOf [] = ⟨#[]⟩ from rfl] at HE
  obtain ⟨W0, hW0⟩ : ∃ W0, W0 = w.alloc (.cells (msL m).toArray 24) := ⟨_, rfl⟩
  have H0 : Hid (LwS w m W0) := Lib.hid (by rw [hW0]; exact LwS.start w m)
  have hsz := strOf_size m.data
  have hz8 : ¬ (800 : Int) < (m.data.length : Int) := by omega
  generalize m.data.length = L at *
  unfold msV at *
  dsimp only [msL] at hW0 HR HE HB HP ⊢
  clear h hr
  go_enter Try.func3, Try.ntmps3
  go_wp2_with fail
  rw [← hW0]
  refine (mgawake_any W0).mono ?_
  rintro e w1 ⟨rfl, g1⟩
  have H1 := Lib.hid (H0.out.quiet g1)
  clear g1 hW0 H0
  obtain ⟨c0, c1, c2, c3, c4, c5⟩ := MsRow.cells H1.out.ms
  go_wp2_with fail
  clear c0 c1 c2 c3 c4 c5
  refine (HR.out w1).mono ?_
  rintro e w2 ⟨rfl, g2⟩
  have H2 := Lib.hid (H1.out.quiet g2)
  clear g2 H1 hsz hz8
  obtain ⟨c0, c1, c2, c3, c4, c5⟩ := MsRow.cells H2.out.ms
  go_wp2_with fail
  clear c0 c1 c2 c3 c4 c5
  refine (HE.out w2).mono ?_
  rintro e w3 ⟨rfl, g3⟩
  have H3 := Lib.hid (H2.out.quiet g3)
  clear g3 H2
  have H4 := Lib.hid (H3.out.alloc (.cells #[.int .i64 0, .string ⟨#[]⟩] 28))
  have Hf4 : Hid (Row (w3.alloc (.cells #[.int .i64 0, .string ⟨#[]⟩] 28)) w3.heap.size 28 [.int .i64 0, .string ⟨#[]⟩]) := Lib.hid (Row.new w3 _ _)
  go_upto_region 7 with fail
  generalize w3.alloc (.cells #[.int .i64 0, .string ⟨#[]⟩] 28) = w4 at *
  obtain ⟨c0, c1, c2, c3, c4, c5⟩ := MsRow.cells H4.out.ms
  go_wp2_with fail
  clear c0 c1 c2 c3 c4 c5
  refine (HB.out w4).mono ?_
  rintro e w5 ⟨rfl, g5⟩
  have H5 := Lib.hid (H4.out.quiet g5)
  have Hf5 := Lib.hid (kept Hf4.out g5)
  clear g5 H4 Hf4
  obtain ⟨c0, c1, c2, c3, c4, c5⟩ := MsRow.cells H5.out.ms
  go_wp2_with fail
  clear c0 c1 c2 c3 c4 c5
  refine (HP.out w5).mono ?_
  rintro e w6 ⟨rfl, g6⟩
  have H6 := Lib.hid (H5.out.quiet g6)
  have Hf6 := Lib.hid (kept Hf5.out g6)
  clear g6 H5 Hf5
  have c0 := Hf6.out.cell 0
  have c1 := Hf6.out.cell 1
  simp only [List.getElem?_cons_zero, List.getElem?_cons_succ] at c0 c1
  go_wp2_with fail
  go_ret
  exact ⟨rfl, H6.out.below⟩

/-- And its frame twice: the program's, the document's. -/
structure LwF (w : World) (m : Msg) (g q : Nat) (fv : List Value) (W : World) : Prop where
  lw : LwS w m W
  f : Row W g 28 fv
  want : Row W q 28 fv
theorem LwF.quiet {w W W' : World} {m : Msg} {g q : Nat} {fv : List Value} (H : LwF w m g q fv W) (hb : Below W.heap.size W W') : LwF w m g q fv W' := ⟨H.lw.quiet hb, kept H.f hb, kept H.want hb⟩
theorem LwF.alloc {w W : World} {m : Msg} {g q : Nat} {fv : List Value} (H : LwF w m g q fv W) (o : Obj) : LwF w m g q fv (W.alloc o) := ⟨H.lw.alloc o, H.f.alloc o, H.want.alloc o⟩
/-- The document's frame lies in new memory, ahead of the call that makes its body .. -/
theorem LwF.made {w W : World} {m : Msg} {g q : Nat} {fv cs : List Value} (H : LwS w m W) (hf : Row W g 28 fv) (hq : Row W q 28 cs) (hl : cs.length = 2) (hw : w.heap.size < q) (hgq : g ≠ q) (k : Int) (s : ByteArray) (hfv : fv = [.int .i64 k, .string s]) :
    LwF w m g q fv ((W.setCell ⟨q, 0, none⟩ (.int .i64 k)).setCell ⟨q, 1, none⟩ (.string s)) := by
  have h1 := fr_row hq hl k s
  rw [← hfv] at h1
  exact ⟨⟨(H.ms.far (p := ⟨q, 0, none⟩) (by simp; omega) _).far (p := ⟨q, 1, none⟩) (by simp; omega) _, (H.below.setCell (p := ⟨q, 0, none⟩) (by simp; omega) _).setCell (p := ⟨q, 1, none⟩) (by simp; omega) _⟩, (hf.far (p := ⟨q, 0, none⟩) (by simpa using hgq) _).far (p := ⟨q, 1, none⟩) (by simpa using hgq) _, h1⟩
/-- .. or behind it. -/
theorem LwF.built {w W : World} {m : Msg} {g : Nat} {fv : List Value} (H : LwS w m W) (hf : Row W g 28 fv) : LwF w m g W.heap.size fv (W.alloc (.cells fv.toArray 28)) := ⟨H.alloc _, hf.alloc _, Row.new W _ _⟩

set_option maxHeartbeats 4000000 in
set_option maxRecDepth 100000 in
theorem mgback_yes (m : Msg) (w : World) (hm : m.Ok) (h : m.data.length ≤ 800) (hr : rightM m = true) : Calls Try.prog 3 #[msV m] w fun e w' => e = .returned (.bool true) ∧ Below w.heap.size w w' := by
  have HR := Lib.hid (fun W => rmright_any m W)
  rw [right_same, hr] at HR
  have HE := Lib.hid (fun W => mgenc_yes m W hm hr)
  have HB := Lib.hid (fun W => mgbytes_yes m W hm hr)
  have HP := Lib.hid (fun W => mgright_any m W)
  rw [hr] at HP
  have HY := Lib.hid (fun W => rmbody_any m W hm hr)
  have hfo := frame_ok hm hr
  have HF := Lib.hid (fun W => rfbytes_any (m.kind, bytesM m) W hfo)
  have HD := Lib.hid (fun W => mgdec_any m.kind (bytesM m) W hfo.2.2.2 (by have h1 : (bytesM m).length ≤ 900 := hfo.2.2.1; omega))
  rw [decP_of m hm hr, Option.getD_some, Option.isSome_some, if_pos rfl] at HD
  have hguard := fr_guard
  have hguard2 := ms_guard
  have hself := fun W => fr_eql (m.kind, bytesM m) (m.kind, bytesM m) W hfo.2.2.2 hfo.2.2.2
  rw [show decide (((m.kind, bytesM m) : Bm.Frm) = (m.kind, bytesM m)) = true from decide_eq_true rfl] at hself
  have hself2 := fun W => ms_eql m.kind m.next m.epoch m.size (m.sum : Int) (strOf m.data) W
  unfold frV at HE HF hself
  dsimp only at HE HF hself
  generalize strOf (Bm.bytesF (m.kind, bytesM m)) = fs at *
  generalize strOf (bytesM m) = bs at *
  obtain ⟨W0, hW0⟩ : ∃ W0, W0 = w.alloc (.cells (msL m).toArray 24) := ⟨_, rfl⟩
  have H0 : Hid (LwS w m W0) := Lib.hid (by rw [hW0]; exact LwS.start w m)
  have hsz := strOf_size m.data
  have hz8 : ¬ (800 : Int) < (m.data.length : Int) := by omega
  generalize m.data.length = L at *
  unfold msV at *
  dsimp only [msL] at hW0 HR HE HB HP HY HD ⊢
  clear h hr hm hfo
  go_enter Try.func3, Try.ntmps3
  go_wp2_with fail
  rw [← hW0]
  refine (mgawake_any W0).mono ?_
  rintro e w1 ⟨rfl, g1⟩
  have H1 := Lib.hid (H0.out.quiet g1)
  clear g1 hW0 H0
  obtain ⟨c0, c1, c2, c3, c4, c5⟩ := MsRow.cells H1.out.ms
  go_wp2_with fail
  clear c0 c1 c2 c3 c4 c5
  refine (HR.out w1).mono ?_
  rintro e w2 ⟨rfl, g2⟩
  have H2 := Lib.hid (H1.out.quiet g2)
  clear g2 H1 hsz hz8
  obtain ⟨c0, c1, c2, c3, c4, c5⟩ := MsRow.cells H2.out.ms
  go_wp2_with fail
  clear c0 c1 c2 c3 c4 c5
  refine (HE.out w2).mono ?_
  rintro e w3 ⟨rfl, g3⟩
  have H3 := Lib.hid (H2.out.quiet g3)
  clear g3 H2
  have hlt : w.heap.size < w3.heap.size := H3.out.ms.lt
  have H4 := Lib.hid (H3.out.alloc (.cells #[.int .i64 m.kind, .string bs] 28))
  have Hf4 : Hid (Row (w3.alloc (.cells #[.int .i64 m.kind, .string bs] 28)) w3.heap.size 28 [.int .i64 m.kind, .string bs]) := Lib.hid (Row.new w3 _ _)
  go_upto_region 7 with fail
  generalize w3.alloc (.cells #[.int .i64 m.kind, .string bs] 28) = w4 at *
  generalize w3.heap.size = g at *
  obtain ⟨c0, c1, c2, c3, c4, c5⟩ := MsRow.cells H4.out.ms
  go_wp2_with fail
  clear c0 c1 c2 c3 c4 c5
  refine (HB.out w4).mono ?_
  rintro e w5 ⟨rfl, g5⟩
  have H5 := Lib.hid (H4.out.quiet g5)
  have Hf5 := Lib.hid (kept Hf4.out g5)
  clear g5 H4 Hf4
  obtain ⟨c0, c1, c2, c3, c4, c5⟩ := MsRow.cells H5.out.ms
  go_wp2_with fail
  clear c0 c1 c2 c3 c4 c5
  refine (HP.out w5).mono ?_
  rintro e w6 ⟨rfl, g6⟩
  have H6 := Lib.hid (H5.out.quiet g6)
  have Hf6 := Lib.hid (kept Hf5.out g6)
  clear g6 H5 Hf5 HR HE HB HP
  have hg6 : g < w6.heap.size := Hf6.out.lt
  have hw6 : w.heap.size < w6.heap.size := H6.out.ms.lt
  go_upto_region 12 with fail
  refine wp_region_held_drew (S := (fun W : World => W.cell? ⟨w.heap.size, 0, none⟩ = some (.int .i64 m.kind) ∧ W.cell? ⟨w.heap.size, 1, none⟩ = some (.int .i64 m.next) ∧ W.cell? ⟨w.heap.size, 2, none⟩ = some (.int .i64 m.epoch) ∧ W.cell? ⟨w.heap.size, 3, none⟩ = some (.int .i64 m.size) ∧ W.cell? ⟨w.heap.size, 4, none⟩ = some (.int .u64 (m.sum : Int)) ∧ W.cell? ⟨w.heap.size, 5, none⟩ = some (.string (strOf m.data)))) (by kernel_rfl) (by exact MsRow.cells H6.out.ms) (fun hHeld => ?_)
  skip -- { dst := some 54, op := Go.Op.build 28 #[(0, Go.Operand.tmp 51), (1, Go.Operand.tmp 53)], type := 28, pos := "law.go:35", after := #[{ on := 1, ground := Go.Ground.data }, { on := 3, ground := Go.Ground.data }], guard := none } { dst := none, op := Go.Op.store 28 (Go.Operand.tmp 8) (Go.Operand.tmp 54), type := 0, pos := "law.go:35", after := #[{ on := 5, ground := Go.Ground.data }, { on := 4, ground := Go.Ground.data }, { on := 3, ground := Go.Ground.chain }, { on := 0, ground := Go.Ground.phase }, { on := 1, ground := Go.Ground.phase }, { on := 2, ground := Go.Ground.phase }, { on := 3, ground := Go.Ground.phase }, { on := 4, ground := Go.Ground.phase }, { on := 5, ground := Go.Ground.phase }], guard := none }
  refine wpAnyH_take (i := 0) (oi := { dst := some 50, op := Go.Op.fieldAddr 24 (Go.Operand.tmp 1) 0, type := 0, pos := "law.go:35", after := #[], guard := none }) (v := ?_) rfl (by kernel_rfl) (by kernel_rfl) (by kernel_rfl) (fun _ _ _ h => h) (Or.inl ⟨by rfl, ?_⟩) (by assumption) ?_
  rotate_left
  · (intro w hSw; (try dsimp only at hSw); go_simp; (try with_reducible rfl))
  try simp only [Act.put, List.setIfInBounds_toArray, List.set_cons_zero, List.set_cons_succ]
  refine wpAnyH_take (i := 1) (oi := { dst := some 51, op := Go.Op.load 3 (Go.Operand.tmp 50), type := 3, pos := "law.go:35", after := #[{ on := 0, ground := Go.Ground.data }], guard := none }) (v := ?_) rfl (by kernel_rfl) (by kernel_rfl) (by kernel_rfl) (fun _ _ _ h => h) (Or.inl ⟨by rfl, ?_⟩) (by assumption) ?_
  rotate_left
  · (intro w hSw; (try dsimp only at hSw); go_simp; (try with_reducible rfl))
  try simp only [Act.put, List.setIfInBounds_toArray, List.set_cons_zero, List.set_cons_succ]
  refine wpAnyH_take (i := 2) (oi := { dst := some 52, op := Go.Op.load 24 (Go.Operand.tmp 1), type := 24, pos := "law.go:35", after := #[], guard := none }) (v := ?_) rfl (by kernel_rfl) (by kernel_rfl) (by kernel_rfl) (fun _ _ _ h => h) (Or.inl ⟨by rfl, ?_⟩) (by assumption) ?_
  rotate_left
  · (intro w hSw; (try dsimp only at hSw); go_simp; (try with_reducible rfl))
  try simp only [Act.put, List.setIfInBounds_toArray, List.set_cons_zero, List.set_cons_succ]
  refine wpAnyH_ready (rs := [3, 5]) (by kernel_rfl) (by simp) ?_
  refine AllReadyH.cons (o := { dst := some 53, op := Go.Op.call { callee := Go.Callee.value (Go.Operand.func 11), args := #[Go.Operand.tmp 52], argTypes := #[24] }, type := 9, pos := "law.go:35", after := #[{ on := 2, ground := Go.Ground.data }], guard := none }) rfl (fun K hK => ?_) (AllReadyH.cons (o := { dst := some 8, op := Go.Op.alloc 28, type := 0, pos := "law.go:35", after := #[], guard := none }) rfl (fun K hK => ?_) AllReadyH.nil)
  rotate_left
  go_simp
  have HA := Lib.hid ((H6.out.alloc (.cells #[.int .i64 0, .string ⟨#[]⟩] 28)).quiet (Below.refl _ _).drew)
  have HAf := Lib.hid (kept (Hf6.out.alloc (.cells #[.int .i64 0, .string ⟨#[]⟩] 28)) (Below.refl _ _).drew)
  have HAq := Lib.hid (kept (Row.new w6 28 [.int .i64 0, .string ⟨#[]⟩]) (Below.refl _ _).drew)
  refine hK.out _ _ (by exact MsRow.cells HA.out.ms) (fun hHeld => ?_)
  clear hK K
  try simp only [Act.put, List.setIfInBounds_toArray, List.set_cons_zero, List.set_cons_succ]
  refine wpAnyH_ready (rs := [3]) (by kernel_rfl) (by simp) ?_
  refine AllReadyH.cons (o := { dst := some 53, op := Go.Op.call { callee := Go.Callee.value (Go.Operand.func 11), args := #[Go.Operand.tmp 52], argTypes := #[24] }, type := 9, pos := "law.go:35", after := #[{ on := 2, ground := Go.Ground.data }], guard := none }) rfl (fun K hK => ?_) AllReadyH.nil
  go_simp
  (go_at_call 11; refine (HY.out _).mono ?_; rintro e w7 ⟨rfl, g7⟩; have H7 := Lib.hid (HA.out.quiet g7); have Hf7 := Lib.hid (kept HAf.out g7); have Hq7 := Lib.hid (kept HAq.out g7); clear g7; have e0 := Hq7.out.cell 0; have e1 := Hq7.out.cell 1; simp only [List.getElem?_cons_zero, List.getElem?_cons_succ] at e0 e1; have f0 := Hq7.out.free 0; have f1 := Hq7.out.free 1)
  go_simp
  refine hK.out _ _ (by exact MsRow.cells H7.out.ms) (fun hHeld => ?_)
  clear hK K
  try simp only [Act.put, List.setIfInBounds_toArray, List.set_cons_zero, List.set_cons_succ]
  refine wpAnyH_take (i := 4) (oi := { dst := some 54, op := Go.Op.build 28 #[(0, Go.Operand.tmp 51), (1, Go.Operand.tmp 53)], type := 28, pos := "law.go:35", after := #[{ on := 1, ground := Go.Ground.data }, { on := 3, ground := Go.Ground.data }], guard := none }) (v := ?_) rfl (by kernel_rfl) (by kernel_rfl) (by kernel_rfl) (fun _ _ _ h => h) (Or.inl ⟨by rfl, ?_⟩) (by assumption) ?_
  rotate_left
  · (intro w hSw; (try dsimp only at hSw); go_simp; (try with_reducible rfl))
  try simp only [Act.put, List.setIfInBounds_toArray, List.set_cons_zero, List.set_cons_succ]
  have HX := Lib.hid (LwF.made H7.out Hf7.out Hq7.out rfl hw6 (by omega) m.kind bs rfl)
  refine wpAnyH_ready (rs := [6]) (by kernel_rfl) (by simp) ?_
  refine AllReadyH.cons (o := { dst := none, op := Go.Op.store 28 (Go.Operand.tmp 8) (Go.Operand.tmp 54), type := 0, pos := "law.go:35", after := #[{ on := 5, ground := Go.Ground.data }, { on := 4, ground := Go.Ground.data }, { on := 3, ground := Go.Ground.chain }, { on := 0, ground := Go.Ground.phase }, { on := 1, ground := Go.Ground.phase }, { on := 2, ground := Go.Ground.phase }, { on := 3, ground := Go.Ground.phase }, { on := 4, ground := Go.Ground.phase }, { on := 5, ground := Go.Ground.phase }], guard := none }) rfl (fun K hK => ?_) AllReadyH.nil
  go_simp
  refine hK.out _ _ (by exact MsRow.cells HX.out.lw.ms) (fun hHeld => ?_)
  clear hK K
  try simp only [Act.put, List.setIfInBounds_toArray, List.set_cons_zero, List.set_cons_succ]
  clear e0 e1 f0 f1 H7 Hf7 Hq7 HA HAf HAq
  generalize (w7.setCell ⟨w6.heap.size, 0, none⟩ (.int .i64 m.kind)).setCell ⟨w6.heap.size, 1, none⟩ (.string bs) = wx at *
  generalize w6.heap.size = q at *
  rotate_left
  go_simp
  (go_at_call 11; refine (HY.out _).mono ?_; rintro e w7 ⟨rfl, g7⟩; have H7 := Lib.hid (H6.out.quiet (far_below g7)); have Hf7 := Lib.hid (kept Hf6.out (far_below g7)); clear g7)
  go_simp
  refine hK.out _ _ (by exact MsRow.cells H7.out.ms) (fun hHeld => ?_)
  clear hK K
  try simp only [Act.put, List.setIfInBounds_toArray, List.set_cons_zero, List.set_cons_succ]
  refine wpAnyH_take (i := 4) (oi := { dst := some 54, op := Go.Op.build 28 #[(0, Go.Operand.tmp 51), (1, Go.Operand.tmp 53)], type := 28, pos := "law.go:35", after := #[{ on := 1, ground := Go.Ground.data }, { on := 3, ground := Go.Ground.data }], guard := none }) (v := ?_) rfl (by kernel_rfl) (by kernel_rfl) (by kernel_rfl) (fun _ _ _ h => h) (Or.inl ⟨by rfl, ?_⟩) (by assumption) ?_
  rotate_left
  · (intro w hSw; (try dsimp only at hSw); go_simp; (try with_reducible rfl))
  try simp only [Act.put, List.setIfInBounds_toArray, List.set_cons_zero, List.set_cons_succ]
  refine wpAnyH_ready (rs := [5]) (by kernel_rfl) (by simp) ?_
  refine AllReadyH.cons (o := { dst := some 8, op := Go.Op.alloc 28, type := 0, pos := "law.go:35", after := #[], guard := none }) rfl (fun K hK => ?_) AllReadyH.nil
  go_simp
  refine hK.out _ _ (by exact MsRow.cells (H7.out.alloc (.cells #[.int .i64 0, .string ⟨#[]⟩] 28)).ms) (fun hHeld => ?_)
  clear hK K
  try simp only [Act.put, List.setIfInBounds_toArray, List.set_cons_zero, List.set_cons_succ]
  have HX := Lib.hid (LwF.built H7.out Hf7.out)
  refine wpAnyH_ready (rs := [6]) (by kernel_rfl) (by simp) ?_
  refine AllReadyH.cons (o := { dst := none, op := Go.Op.store 28 (Go.Operand.tmp 8) (Go.Operand.tmp 54), type := 0, pos := "law.go:35", after := #[{ on := 5, ground := Go.Ground.data }, { on := 4, ground := Go.Ground.data }, { on := 3, ground := Go.Ground.chain }, { on := 0, ground := Go.Ground.phase }, { on := 1, ground := Go.Ground.phase }, { on := 2, ground := Go.Ground.phase }, { on := 3, ground := Go.Ground.phase }, { on := 4, ground := Go.Ground.phase }, { on := 5, ground := Go.Ground.phase }], guard := none }) rfl (fun K hK => ?_) AllReadyH.nil
  go_simp
  refine hK.out _ _ (by exact MsRow.cells HX.out.lw.ms) (fun hHeld => ?_)
  clear hK K
  try simp only [Act.put, List.setIfInBounds_toArray, List.set_cons_zero, List.set_cons_succ]
  clear H7 Hf7
  generalize w7.alloc (.cells #[.int .i64 m.kind, .string bs] 28) = wx at *
  generalize w7.heap.size = q at *
  skip
  all_goals
    refine wpAnyH_done (by kernel_rfl) ?_ _
    clear hHeld H6 Hf6
    have c0 := HX.out.f.cell 0
    have c1 := HX.out.f.cell 1
    simp only [List.getElem?_cons_zero, List.getElem?_cons_succ] at c0 c1
    go_wp2_with fail
    refine (HD.out wx).mono ?_
    rintro e w9 ⟨rfl, g9⟩
    have HX2 := Lib.hid (HX.out.quiet g9)
    clear g9 HX c0 c1
    have HX3 := Lib.hid (HX2.out.alloc (.cells #[.int .i64 m.kind, .int .i64 m.next, .int .i64 m.epoch, .int .i64 m.size, .int .u64 (m.sum : Int), .string (strOf m.data)] 24))
    have Hk3 : Hid (Row (w9.alloc (.cells #[.int .i64 m.kind, .int .i64 m.next, .int .i64 m.epoch, .int .i64 m.size, .int .u64 (m.sum : Int), .string (strOf m.data)] 24)) w9.heap.size 24 (msL m)) := Lib.hid (Row.new w9 _ (msL m))
    go_upto_region 14 with fail
    generalize w9.alloc (.cells #[.int .i64 m.kind, .int .i64 m.next, .int .i64 m.epoch, .int .i64 m.size, .int .u64 (m.sum : Int), .string (strOf m.data)] 24) = w10 at *
    have c0 := HX3.out.f.cell 0
    have c1 := HX3.out.f.cell 1
    have d0 := HX3.out.want.cell 0
    have d1 := HX3.out.want.cell 1
    simp only [List.getElem?_cons_zero, List.getElem?_cons_succ] at c0 c1 d0 d1
    go_wp2_with fail
    refine (HF.out w10).mono ?_
    rintro e w11 ⟨rfl, g11⟩
    have HX4 := Lib.hid (HX3.out.quiet g11)
    have Hk4 := Lib.hid (kept Hk3.out g11)
    clear g11 c0 c1 d0 d1 HX3 Hk3
    obtain ⟨c0, c1, c2, c3, c4, c5⟩ := MsRow.cells HX4.out.lw.ms
    obtain ⟨d0, d1, d2, d3, d4, d5⟩ := MsRow.cells Hk4.out
    go_wp2_with fail
    go_ret
    exact ⟨rfl, HX4.out.lw.below⟩
theorem mgback_any (m : Msg) (w : World) (hm : m.Ok) : Calls Try.prog 3 #[msV m] w fun e w' => e = .returned (.bool true) ∧ Below w.heap.size w w' := by
  by_cases h : 800 < m.data.length
  · exact mgback_long m w h
  · rcases hr : rightM m with _ | _
    · exact mgback_no m w (by omega) hr
    · exact mgback_yes m w hm (by omega) hr
end Go.Proofs.Ytfopnbfaaikghaa
