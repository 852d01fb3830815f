/-
  The program's layer 16 (seqs): stepsOf, by its walk. Conditions: as the theorem's premises say (up to 1000 steps, up to 4096 bytes behind).
  The program's layer 16 (seqs): codesOf, by its walk. Conditions: as the theorem's premises say (up to 700 steps of any ints).
-/
import Derived.Test.YtbdciiiimdbmkaaGreatGae
import Derived.Test.YtbdciiiimdbmkaaGreatGbb
import Derived.Test.YtbdciiiimdbmkaaGreatGbk
import Derived.Test.YtbdciiiimdbmkaaGreatGap
import Derived.Test.YtbdciiiimdbmkaaGreatGbh
import Derived.Test.YtbdciiiimdbmkaaGreatGah
import Derived.Test.YtbdciiiimdbmkaaGreatGaf
import Derived.Test.YtbdciiiimdbmkaaGreatGay
import Derived.Deep.AppendLies
import Derived.Deep.RegionHeld3
import Derived.Deep.DeepCutAuto
namespace Go.Proofs.YtbdciiiimdbmkaaGreat
open Go.RowKit

/-- Steps and true, or none and false. -/
def StepsP (w' : World) (e : Ending) : Option (List Bm.Stp) → Prop
  | none => ∃ A c, e = .returned (.tuple #[.slice A 0 c, .bool false])
  | some l => ∃ A c, e = .returned (.tuple #[.slice A l.length c, .bool true]) ∧ StpR w' A l
theorem made_sqs (n : Nat) : (madeCells #[Value.int .i64 0, .int .i64 0, .int .i64 0] (n * 3)).toList = sqs (List.replicate n (0, 0, 0)) := by
  apply List.ext_getElem
  · simp [madeCells, sqs_length]
  · intro i h1 h2
    have hi : i < n * 3 := by simpa [madeCells] using h1
    have hq : i / 3 < (List.replicate n ((0, 0, 0) : Bm.Stp)).length := by simp; omega
    obtain ⟨e0, e1, e2⟩ := sqs_get (List.replicate n (0, 0, 0)) (i / 3) hq
    rw [List.getElem_replicate] at e0 e1 e2
    have hl : (madeCells #[Value.int .i64 0, .int .i64 0, .int .i64 0] (n * 3)).toList[i] = (#[Value.int .i64 0, .int .i64 0, .int .i64 0] : Array Value)[i % 3]! := by simp [madeCells]
    have hr : i % 3 = 0 ∨ i % 3 = 1 ∨ i % 3 = 2 := by omega
    rw [hl, ← Option.some_inj, ← List.getElem?_eq_getElem h2]
    rcases hr with hr | hr | hr <;> rw [hr]
    · rw [show i = i / 3 * 3 by omega, e0]; rfl
    · rw [show i = i / 3 * 3 + 1 by omega, e1]; rfl
    · rw [show i = i / 3 * 3 + 2 by omega, e2]; rfl
theorem make_seqs (n : Nat) (h : n ≤ 1000000) (W : World) : (Instr.makeSlice 22 (.int .i64 (n : Int)) (.int .i64 (n : Int))).run Tryz.prog W = .ok (.slice (some ⟨W.heap.size, 0, none⟩) n n) (W.alloc (.cells (sqs (List.replicate n (0, 0, 0))).toArray 38)) := by
  obtain ⟨i0, hi, hz0, hz1, hz2⟩ := info_parts info_seq
  have h1 := run_make (P := Tryz.prog) W 22 38 i0 _ Tryz.underlying22 hi hz0 .i64 .i64 (n : Int) (n : Int) (by omega) (by omega) (by rw [hz2]; omega) (by omega)
  rw [Int.toNat_natCast, hz1, show (Value.agg #[.int .i64 0, .int .i64 0, .int .i64 0]).cells = #[.int .i64 0, .int .i64 0, .int .i64 0] from rfl] at h1
  rw [h1, ← made_sqs, Array.toArray_toList]
theorem sqs_set (l : List Bm.Stp) (i : Nat) (x y z : Nat) (h : i < l.length) : (((sqs l).set (i * 3) (.int .i64 (x : Int))).set (i * 3 + 1) (.int .i64 (y : Int))).set (i * 3 + 2) (.int .i64 (z : Int)) = sqs (l.set i (x, y, z)) := by
  induction l generalizing i with
  | nil => simp at h
  | cons t l ih =>
    cases i with
    | zero => rfl
    | succ i =>
      have h1 := ih i (by simpa using h)
      have e1 : (i + 1) * 3 = i * 3 + 3 := by omega
      rw [e1, List.set_cons_succ, sqs, sqs, ← h1]
      rfl

/-- What stepsOf holds in memory: the codes' slices, the steps, the recent offsets, the Reader of the bits. -/
structure StO (w W : World) (b0 br bl bc : Nat) (vs : List Value) (L : List Bm.Stp) (r : Int × Int × Int) (bd : List Nat) (pos : Nat) : Prop where
  all : Row W b0 46 vs
  rd : RS W br 0 bd pos
  row : Row W bl 38 (sqs L)
  rec_ : Row W bc 78 [.int .i64 r.1, .int .i64 r.2.1, .int .i64 r.2.2]
  bel : Below w.heap.size w W
  low : w.heap.size ≤ b0 ∧ b0 < br ∧ br < bl ∧ bl < bc ∧ bc < W.heap.size
section
variable {w W W' : World} {b0 br bl bc : Nat} {vs : List Value} {L : List Bm.Stp} {r : Int × Int × Int} {bd : List Nat} {pos : Nat}
theorem StO.below (h : StO w W b0 br bl bc vs L r bd pos) (hb : Below W.heap.size W W') : StO w W' b0 br bl bc vs L r bd pos := by
  obtain ⟨h1, h2, h3, h4, h5, h6⟩ := h
  exact ⟨h1.below hb, h2.below hb, h3.below hb, h4.below hb, h5.trans (hb.mono h5.size), by have := hb.size; omega⟩
theorem StO.read (h : StO w W b0 br bl bc vs L r bd pos) {p : Nat} (hg : W.grownBy W' (some br)) (h2 : RS W' br 0 bd p) : StO w W' b0 br bl bc vs L r bd p := by
  obtain ⟨h1, _, h3, h4, h5, h6⟩ := h
  refine ⟨h1.keep (hg.block _ (by omega) (by simp; omega)), h2, h3.keep (hg.block _ (by omega) (by simp; omega)), h4.keep (hg.block _ (by omega) (by simp; omega)), h5.grown hg h5.size (fun x e => by injection e with e; omega), by have := hg.size; omega⟩
theorem StO.far (h : StO w W b0 br bl bc vs L r bd pos) {p : Addr} (hp : bc < p.block) (u : Value) : StO w (W.setCell p u) b0 br bl bc vs L r bd pos := by
  obtain ⟨h1, h2, h3, h4, h5, h6⟩ := h
  refine ⟨h1.far (by omega) u, h2.keep (grown_one W p u) (by simp; omega), h3.far (by omega) u, h4.far (by omega) u, h5.setCell (by omega) u, by simpa using h6⟩
set_option maxHeartbeats 1000000 in
theorem StO.put (h : StO w W b0 br bl bc vs L r bd pos) {L' : List Bm.Stp} (i : Nat) (x y z ra rb rc : Int) (hr : Row (((W.setCell ⟨bl, i, none⟩ (.int .i64 x)).setCell ⟨bl, i + 1, none⟩ (.int .i64 y)).setCell ⟨bl, i + 2, none⟩ (.int .i64 z)) bl 38 (sqs L')) :
    StO w ((((((W.setCell ⟨bl, i, none⟩ (.int .i64 x)).setCell ⟨bl, i + 1, none⟩ (.int .i64 y)).setCell ⟨bl, i + 2, none⟩ (.int .i64 z)).setCell ⟨bc, 0, none⟩ (.int .i64 ra)).setCell ⟨bc, 1, none⟩ (.int .i64 rb)).setCell ⟨bc, 2, none⟩ (.int .i64 rc)).drew b0 br bl bc vs L' (ra, rb, rc) bd pos := by
  obtain ⟨h1, h2, h3, h4, h5, h6⟩ := h
  have e1 : ∀ (W : World) i u, Row W b0 46 vs → Row (W.setCell ⟨bl, i, none⟩ u) b0 46 vs := fun W i u h => h.far (by show b0 ≠ bl; omega) u
  have e2 : ∀ (W : World) i u, Row W b0 46 vs → Row (W.setCell ⟨bc, i, none⟩ u) b0 46 vs := fun W i u h => h.far (by show b0 ≠ bc; omega) u
  have e3 : ∀ (W : World) i u, RS W br 0 bd pos → RS (W.setCell ⟨bl, i, none⟩ u) br 0 bd pos := fun W i u h => h.keep (grown_one W ⟨bl, i, none⟩ u) (by simp; omega)
  have e4 : ∀ (W : World) i u, RS W br 0 bd pos → RS (W.setCell ⟨bc, i, none⟩ u) br 0 bd pos := fun W i u h => h.keep (grown_one W ⟨bc, i, none⟩ u) (by simp; omega)
  have e5 : ∀ (W : World) i u {cs}, Row W bl 38 cs → Row (W.setCell ⟨bc, i, none⟩ u) bl 38 cs := fun W i u cs h => h.far (by show bl ≠ bc; omega) u
  have e6 : ∀ (W : World) i u {cs}, Row W bc 78 cs → Row (W.setCell ⟨bl, i, none⟩ u) bc 78 cs := fun W i u cs h => h.far (by show bc ≠ bl; omega) u
  have e7 : ∀ (W : World) i u, Below w.heap.size w W → Below w.heap.size w (W.setCell ⟨bl, i, none⟩ u) := fun W i u h => h.setCell (by show w.heap.size ≤ bl; omega) u
  have e8 : ∀ (W : World) i u, Below w.heap.size w W → Below w.heap.size w (W.setCell ⟨bc, i, none⟩ u) := fun W i u h => h.setCell (by show w.heap.size ≤ bc; omega) u
  have r4 := ((e6 _ (i + 2) (.int .i64 z) (e6 _ (i + 1) (.int .i64 y) (e6 _ i (.int .i64 x) h4))).set_ 0 (.int .i64 ra))
  have r5 := (r4.set_ 1 (.int .i64 rb)).set_ 2 (.int .i64 rc)
  simp only [List.set_cons_zero, List.set_cons_succ] at r5
  have hs : ((((((W.setCell ⟨bl, i, none⟩ (.int .i64 x)).setCell ⟨bl, i + 1, none⟩ (.int .i64 y)).setCell ⟨bl, i + 2, none⟩ (.int .i64 z)).setCell ⟨bc, 0, none⟩ (.int .i64 ra)).setCell ⟨bc, 1, none⟩ (.int .i64 rb)).setCell ⟨bc, 2, none⟩ (.int .i64 rc)).heap.size = W.heap.size := by simp [World.setCell]
  have q1 := e2 _ 2 (.int .i64 rc) (e2 _ 1 (.int .i64 rb) (e2 _ 0 (.int .i64 ra) (e1 _ (i + 2) (.int .i64 z) (e1 _ (i + 1) (.int .i64 y) (e1 _ i (.int .i64 x) h1)))))
  have q2 := e4 _ 2 (.int .i64 rc) (e4 _ 1 (.int .i64 rb) (e4 _ 0 (.int .i64 ra) (e3 _ (i + 2) (.int .i64 z) (e3 _ (i + 1) (.int .i64 y) (e3 _ i (.int .i64 x) h2)))))
  have q3 := e5 _ 2 (.int .i64 rc) (e5 _ 1 (.int .i64 rb) (e5 _ 0 (.int .i64 ra) hr))
  have q5 := e8 _ 2 (.int .i64 rc) (e8 _ 1 (.int .i64 rb) (e8 _ 0 (.int .i64 ra) (e7 _ (i + 2) (.int .i64 z) (e7 _ (i + 1) (.int .i64 y) (e7 _ i (.int .i64 x) h5)))))
  clear e1 e2 e3 e4 e5 e6 e7 e8 hr h1 h2 h3 h4 h5 r4
  generalize (((((W.setCell ⟨bl, i, none⟩ (.int .i64 x)).setCell ⟨bl, i + 1, none⟩ (.int .i64 y)).setCell ⟨bl, i + 2, none⟩ (.int .i64 z)).setCell ⟨bc, 0, none⟩ (.int .i64 ra)).setCell ⟨bc, 1, none⟩ (.int .i64 rb)).setCell ⟨bc, 2, none⟩ (.int .i64 rc) = X at *
  exact StO.below ⟨q1, q2, q3, r5, q5, by rw [hs]; exact h6⟩ (Below.refl _ _).drew
theorem StO.drew (h : StO w W b0 br bl bc vs L r bd pos) : StO w W.drew b0 br bl bc vs L r bd pos := h.below (Below.refl _ _).drew
end

namespace Bm
theorem ex_le (c : Nat) (h : c < 28) : exK c ≤ 15 := by unfold exK; split <;> omega
theorem numK_le (c V : Nat) (h : c < 28) : numK c V ≤ 65535 := by
  unfold numK
  split
  · omega
  · have h1 := Nat.mod_lt V (Nat.two_pow_pos (c - 12))
    have h2 : 2 ^ (c - 12) ≤ 2 ^ 15 := Nat.pow_le_pow_right (by omega) (by omega)
    have h3 : (2 : Nat) ^ 15 = 32768 := by decide
    omega
theorem offI_in (a b c n x : Int) (h : offI a b c n = some x) : 1 ≤ x ∧ x ≤ 65533 := by
  obtain ⟨h1, h2, h3⟩ := off_some a b c n x h
  exact numI_range a b c x (by omega)
/-- Recent offsets that may be. -/
def RecIn (r : Int × Int × Int) : Prop := (1 ≤ r.1 ∧ r.1 ≤ 65533) ∧ (1 ≤ r.2.1 ∧ r.2.1 ≤ 65533) ∧ (1 ≤ r.2.2 ∧ r.2.2 ≤ 65533)
theorem rec_beh (r : Int × Int × Int) (x : Int) (h : RecIn r) (hx : 1 ≤ x ∧ x ≤ 65533) : RecIn (behI r.1 r.2.1 r.2.2 x) := by
  obtain ⟨h1, h2, h3⟩ := h
  unfold behI
  split
  · exact ⟨hx, h2, h3⟩
  · split
    · exact ⟨hx, h1, h3⟩
    · exact ⟨hx, h1, h2⟩
theorem rows_drop (cs : List (List Nat)) (n k : Nat) (h : k < n) : (rowsD cs n).drop k = atD cs k :: (rowsD cs n).drop (k + 1) := by
  have hl : k < (rowsD cs n).length := by simpa [rowsD] using h
  rw [List.drop_eq_getElem_cons hl]
  simp [rowsD]
end Bm
theorem rec_ok {r : Int × Int × Int} (h : Bm.RecIn r) : Ok64 r.1 ∧ Ok64 r.2.1 ∧ Ok64 r.2.2 := by
  obtain ⟨h1, h2, h3⟩ := h
  unfold Ok64
  omega
/-- The three numbers of a step, so far. -/
def numV (xs : List Nat) : List Value := [.int .i64 ((xs[0]?.getD 0 : Nat) : Int), .int .i64 ((xs[1]?.getD 0 : Nat) : Int), .int .i64 ((xs[2]?.getD 0 : Nat) : Int)]
theorem numV_snoc (xs : List Nat) (v : Nat) (h : xs.length < 3) : (numV xs).set xs.length (.int .i64 (v : Int)) = numV (xs ++ [v]) := by
  match xs, h with
  | [], _ => rfl
  | [a], _ => rfl
  | [a, b], _ => rfl
theorem sqs_at (D : List Bm.Stp) (m k : Nat) (h : D.length = k) : (sqs (D ++ List.replicate (m + 1) (0, 0, 0)))[k * 3]? = some (.int .i64 0) ∧ (sqs (D ++ List.replicate (m + 1) (0, 0, 0)))[k * 3 + 1]? = some (.int .i64 0) ∧ (sqs (D ++ List.replicate (m + 1) (0, 0, 0)))[k * 3 + 2]? = some (.int .i64 0) := by
  have hl : k < (D ++ List.replicate (m + 1) ((0, 0, 0) : Bm.Stp)).length := by rw [List.length_append, List.length_replicate]; omega
  have h1 := sqs_get _ k hl
  have e : (D ++ List.replicate (m + 1) ((0, 0, 0) : Bm.Stp))[k] = (0, 0, 0) := by
    rw [List.getElem_append_right (by omega), List.getElem_replicate]
  rw [e] at h1
  exact h1
theorem sqs_put (D : List Bm.Stp) (m k x y z : Nat) (h : D.length = k) : (((sqs (D ++ List.replicate (m + 1) (0, 0, 0))).set (k * 3) (.int .i64 (x : Int))).set (k * 3 + 1) (.int .i64 (y : Int))).set (k * 3 + 2) (.int .i64 (z : Int)) = sqs ((D ++ [(x, y, z)]) ++ List.replicate m (0, 0, 0)) := by
  rw [sqs_set _ k x y z (by rw [List.length_append, List.length_replicate]; omega)]
  congr 1
  rw [List.set_append_right _ _ (by omega), h, Nat.sub_self, List.replicate_succ, List.set_cons_zero, List.append_assoc]
  rfl
set_option maxHeartbeats 4000000 in
set_option maxRecDepth 100000 in
theorem qsteps_any (A0 A1 A2 B : Option Addr) (k0 k1 k2 cb n : Nat) (c0 c1 c2 bd : List Nat) (w : World) (hn : n ≤ 1000) (h0 : c0.length = n ∧ ∀ x ∈ c0, x < 28) (h1 : c1.length = n ∧ ∀ x ∈ c1, x < 28) (h2 : c2.length = n ∧ ∀ x ∈ c2, x < 28)
    (hr0 : Reads w A0 (u8s c0)) (hr1 : Reads w A1 (u8s c1)) (hr2 : Reads w A2 (u8s c2)) (hbl : bd.length ≤ 4096) (hblt : ∀ x ∈ bd, x < 256) (hrb : Reads w B (u8s bd)) :
    Calls Tryz.prog 33 #[.agg #[.slice A0 n k0, .slice A1 n k1, .slice A2 n k2], .slice B bd.length cb, .int .i64 (n : Int)] w fun e w' => StepsP w' e (Bm.stepsD [c0, c1, c2] n bd) ∧ Below w.heap.size w w' := by
  obtain ⟨res, hres⟩ : ∃ res, res = Bm.stepsD [c0, c1, c2] n bd := ⟨_, rfl⟩
  rw [← hres]
  have Hres := Lib.hid hres
  obtain ⟨W0, hW0⟩ : ∃ W0, w.alloc (.cells #[.slice A0 n k0, .slice A1 n k1, .slice A2 n k2] 46) = W0 := ⟨_, rfl⟩
  have ra := Row.new w 46 [.slice A0 n k0, .slice A1 n k1, .slice A2 n k2]
  have hb0 := (Below.refl w.heap.size w).alloc (Nat.le_refl _) (.cells #[.slice A0 n k0, .slice A1 n k1, .slice A2 n k2] 46)
  rw [show w.alloc (.cells [Value.slice A0 n k0, .slice A1 n k1, .slice A2 n k2].toArray 46) = W0 from hW0] at ra
  have hsz0 : W0.heap.size = w.heap.size + 1 := by rw [← hW0]; simp
  rw [hW0] at hb0
  have Hnew := Lib.hid (newr_any B cb bd W0 hblt (reads_on hrb hb0))
  have HW0 := Lib.hid hW0
  have Hmk := Lib.hid (fun W => make_seqs n (by omega) W)
  have Hfst := Lib.hid kfirst_is
  have Hra := Lib.hid ra
  have Hb0 := Lib.hid hb0
  have Hsz0 := Lib.hid hsz0
  have HR := Lib.hid (⟨hr0, hr1, hr2⟩ : _ ∧ _ ∧ _)
  have HC := Lib.hid (⟨h0, h1, h2⟩ : _ ∧ _ ∧ _)
  have Hblt := Lib.hid hblt
  clear hres hW0 ra hb0 hsz0 hr0 hr1 hr2 hrb h0 h1 h2 hblt
  go_enter Tryz.func33, Tryz.ntmps33
  go_wp2_with fail
  rw [HW0.out]
  refine Hnew.out.mono ?_
  rintro e w1 ⟨rfl, hrd1, hb1⟩
  obtain ⟨b0, hb0⟩ : ∃ b0, w.heap.size = b0 := ⟨_, rfl⟩
  obtain ⟨br, hbr⟩ : ∃ br, W0.heap.size = br := ⟨_, rfl⟩
  obtain ⟨bl, hbl'⟩ : ∃ bl, w1.heap.size = bl := ⟨_, rfl⟩
  have Hrd1 := Lib.hid hrd1
  have Hb1 := Lib.hid hb1
  have He := Lib.hid (⟨hb0, hbr, hbl'⟩ : _ ∧ _ ∧ _)
  have hmk := Hmk.out w1
  rw [hbl'] at hmk
  clear hrd1 hb1 Hnew HW0 hb0 hbr hbl' Hmk
  go_wp2_with fail
  refine (Hfst.out _).mono ?_
  rintro e w2 ⟨rfl, hb2⟩
  obtain ⟨bc, hbc⟩ : ∃ bc, w2.heap.size = bc := ⟨_, rfl⟩
  have hst : StO w (w2.alloc (.cells #[.int .i64 1, .int .i64 2, .int .i64 4] 78)) b0 br bl bc [.slice A0 n k0, .slice A1 n k1, .slice A2 n k2] (List.replicate n (0, 0, 0)) (1, 2, 4) bd 0 := by
    obtain ⟨e0, er, el⟩ := He.out
    have hs1 := Hb1.out.size
    have hs2 := hb2.size
    have hbx := (Below.refl w1.heap.size w1).alloc (Nat.le_refl _) (.cells (sqs (List.replicate n (0, 0, 0))).toArray 38)
    have hby : Below w1.heap.size w1 w2 := hbx.trans (hb2.mono hbx.size)
    have hbz := hby.alloc hby.size (.cells #[.int .i64 1, .int .i64 2, .int .i64 4] 78)
    have rl := Row.new w1 38 (sqs (List.replicate n (0, 0, 0)))
    have rc := Row.new w2 78 [.int .i64 1, .int .i64 2, .int .i64 4]
    rw [el] at rl
    rw [hbc] at rc
    have ra := (Hra.out.below Hb1.out).below hbz
    rw [e0] at ra
    have rr := Hrd1.out.below hbz
    rw [er] at rr
    have hz := Hsz0.out
    rw [World.size_alloc] at hs2
    refine ⟨ra, rr, (rl.below hb2).alloc _, rc, (Hb0.out.trans (Hb1.out.mono Hb0.out.size)).trans (hbz.mono (by omega)), ?_⟩
    rw [World.size_alloc]
    have hlt1 := Hrd1.out.2.2.2
    rw [er] at hlt1
    omega
  have Hst := Lib.hid hst
  have Hbc := Lib.hid hbc
  clear hb2 hst Hrd1 Hb1 Hra Hb0 hbc Hsz0 hmk Hfst
  go_wp2
  rw [He.out.1, He.out.2.1, Hbc.out]
  generalize w2.alloc (.cells #[.int .i64 1, .int .i64 2, .int .i64 4] 78) = wA at *
  clear He Hbc
  have Hno := Lib.hid (fun c q (W : World) (hc : c < 28) (hp : q ≤ 8 * bd.length) (hle : 8 * bd.length - q < Bm.exK c) (h : RS W br 0 bd q) => qnum_no c br q bd W hc (by omega) hp hle h)
  have Hyes := Lib.hid (fun c q (W : World) (hc : c < 28) (hle : q + Bm.exK c ≤ 8 * bd.length) (h : RS W br 0 bd q) => qnum_yes c br q bd W hc (by omega) Hblt.out hle h)
  have Hends := Lib.hid (fun q (W : World) (hp : q ≤ 8 * bd.length) (h : RS W br 0 bd q) => zends_any br q bd W (by omega) Hblt.out hp h)
  have Hres2 : Hid (res = Bm.finD (Bm.stpsD (Bm.rowsD [c0, c1, c2] n) (Bm.valB bd) (8 * bd.length) (1, 2, 4))) := Lib.hid Hres.out
  clear Hres
  have hV0 : Bm.valB bd = Bm.valB bd / 2 ^ 0 := by rw [Nat.pow_zero, Nat.div_one]
  have HV0 := Lib.hid hV0
  clear hV0 Hblt
  generalize Bm.valB bd = V at *
  generalize hL : 8 * bd.length = L at *
  clear hL
  go_loopw [11, 12, 13, 14, 15, 16, 17, 18, 19, 27] (fun _ _ _ _ _ _ _ _ _ i wr => ∃ (k pos : Nat) (D : List Bm.Stp) (r : Int × Int × Int), i = .int .i64 (k : Int) ∧ k ≤ n ∧ pos ≤ L ∧ Hid (D.length = k) ∧ Hid (Bm.RecIn r) ∧
    Hid (StO w wr b0 br bl bc [.slice A0 n k0, .slice A1 n k1, .slice A2 n k2] (D ++ List.replicate (n - k) (0, 0, 0)) r bd pos) ∧
    Hid (res = Bm.finD ((Bm.stpsD ((Bm.rowsD [c0, c1, c2] n).drop k) (V / 2 ^ pos) (L - pos) r).map fun q => (D ++ q.1, q.2)))) (fun _ _ _ _ _ _ _ _ _ i _ => n - (intOf i).toNat)
  case atStart =>
    refine ⟨0, 0, [], (1, 2, 4), rfl, Nat.zero_le _, Nat.zero_le _, Lib.hid rfl, Lib.hid ⟨by decide, by decide, by decide⟩, Hst, Lib.hid ?_⟩
    rw [Hres2.out, List.drop_zero, Nat.sub_zero, ← HV0.out]
    cases Bm.stpsD (Bm.rowsD [c0, c1, c2] n) V L (1, 2, 4) <;> rfl
  case round =>
    obtain ⟨k, pos, D, r, rfl, hk, hpos, hD, hr, hst, hres⟩ := hrel
    clear Hst HV0 Hres2
    by_cases hkn : k < n
    · have dk : decide ((k : Int) < (n : Int)) = true := decide_eq_true (by omega)
      have Hrows : Hid ((Bm.rowsD [c0, c1, c2] n).drop k = Bm.atD [c0, c1, c2] k :: (Bm.rowsD [c0, c1, c2] n).drop (k + 1)) := Lib.hid (Bm.rows_drop _ n k hkn)
      have hsW := hst.out.low
      have hb1 : wr.heap.size < wr.heap.size + 1 := by omega
      have hst1 := hst.out.below ((Below.refl wr.heap.size wr).alloc (Nat.le_refl _) (.cells #[.int .i64 0, .int .i64 0, .int .i64 0] 59))
      have hrn := Row.new wr 59 (numV [])
      obtain ⟨bn, hbn⟩ : ∃ bn, wr.heap.size = bn := ⟨_, rfl⟩
      rw [hbn] at hrn hsW
      have Hst1 := Lib.hid hst1
      have Hrn := Lib.hid hrn
      have Hbn := Lib.hid hbn
      have hbcn : bc < bn := by omega
      obtain ⟨a0, a1, a2⟩ := row3 hst1.all
      clear hst1 hrn hbn hb1 hst hsW
      go_wp2
      rw [Hbn.out]
      have e3 : wr.alloc (.cells (numV []).toArray 59) = wr.alloc (.cells #[.int .i64 0, .int .i64 0, .int .i64 0] 59) := rfl
      rw [e3] at Hrn
      clear e3
      generalize wr.alloc (.cells #[.int .i64 0, .int .i64 0, .int .i64 0] 59) = wB at *
      clear Hbn a0 a1 a2
      rename World => wo
      go_loopw [13, 14, 15, 16, 31] (fun _ _ _ _ i wr => ∃ (j q : Nat) (xs : List Nat), i = .int .i64 (j : Int) ∧ j ≤ 3 ∧ q ≤ L ∧ Hid (xs.length = j) ∧ Hid (∀ x ∈ xs, x ≤ 65535) ∧
        Hid (StO w wr b0 br bl bc [.slice A0 n k0, .slice A1 n k1, .slice A2 n k2] (D ++ List.replicate (n - k) (0, 0, 0)) r bd q) ∧ Hid (Row wr bn 59 (numV xs)) ∧
        Hid (Bm.numsD (Bm.atD [c0, c1, c2] k) (V / 2 ^ pos) (L - pos) = (Bm.numsD ((Bm.atD [c0, c1, c2] k).drop j) (V / 2 ^ q) (L - q)).map fun t => (xs ++ t.1, t.2))) (fun _ _ _ _ i _ => 3 - (intOf i).toNat)
      case atStart =>
        refine ⟨0, pos, [], rfl, by omega, hpos, Lib.hid rfl, Lib.hid (by simp), Hst1, Hrn, Lib.hid ?_⟩
        rw [List.drop_zero]
        cases Bm.numsD (Bm.atD [c0, c1, c2] k) (V / 2 ^ pos) (L - pos) <;> rfl
      case round =>
        obtain ⟨j, q, xs, rfl, hj, hq, hxs, hxle, hst, hrn, hnum⟩ := hrel
        clear Hst1 Hrn
        by_cases hj3 : j < 3
        · have key : ∃ (g off c : Nat) (kk : Nat) (A : Option Addr), Hid ([Value.slice A0 n k0, .slice A1 n k1, .slice A2 n k2][j]? = some (.slice A n kk)) ∧ A = some ⟨g, off, none⟩ ∧ wr.cell? ⟨g, off + k, none⟩ = some (.int .u8 (c : Int)) ∧ c < 28 ∧ Hid ((Bm.atD [c0, c1, c2] k).drop j = c :: (Bm.atD [c0, c1, c2] k).drop (j + 1)) := by
            obtain ⟨hc0, hc1, hc2⟩ := HC.out
            obtain ⟨r0, r1, r2⟩ := HR.out
            have one : ∀ (A : Option Addr) (cs : List Nat), (cs.length = n ∧ ∀ x ∈ cs, x < 28) → Reads w A (u8s cs) → ∃ g off, A = some ⟨g, off, none⟩ ∧ ∃ c : Nat, wr.cell? ⟨g, off + k, none⟩ = some (.int .u8 (c : Int)) ∧ c < 28 ∧ cs[k]?.getD 0 = c := fun A cs h hr => by
              have hkl : k < cs.length := by omega
              obtain ⟨g, off, e, hc⟩ := reads_u8 (reads_on hr hst.out.bel) (by intro e; rw [e] at hkl; simp at hkl)
              exact ⟨g, off, e, cs[k], hc k hkl, h.2 _ (List.getElem_mem hkl), by rw [List.getElem?_eq_getElem hkl]; rfl⟩
            rcases (by omega : j = 0 ∨ j = 1 ∨ j = 2) with rfl | rfl | rfl
            · obtain ⟨g, off, e, c, h1, h2, h3⟩ := one A0 c0 hc0 r0
              exact ⟨g, off, c, k0, A0, rfl, e, h1, h2, Lib.hid (by simp only [Bm.atD, List.map_cons, List.map_nil, List.drop_succ_cons, List.drop_zero, h3])⟩
            · obtain ⟨g, off, e, c, h1, h2, h3⟩ := one A1 c1 hc1 r1
              exact ⟨g, off, c, k1, A1, rfl, e, h1, h2, Lib.hid (by simp only [Bm.atD, List.map_cons, List.map_nil, List.drop_succ_cons, List.drop_zero, h3])⟩
            · obtain ⟨g, off, e, c, h1, h2, h3⟩ := one A2 c2 hc2 r2
              exact ⟨g, off, c, k2, A2, rfl, e, h1, h2, Lib.hid (by simp only [Bm.atD, List.map_cons, List.map_nil, List.drop_succ_cons, List.drop_zero, h3])⟩
          obtain ⟨g, off, c, kk, A, hidx, rfl, hcell, hc28, hdrop⟩ := key
          have Hnum := Lib.hid hnum.out
          rw [hdrop.out, Bm.numsD] at Hnum
          have hidx2 : ∀ W, (Instr.index 46 (.agg #[.slice A0 n k0, .slice A1 n k1, .slice A2 n k2]) (.int .i64 (j : Int))).run Tryz.prog W = .ok (.slice (some ⟨g, off, none⟩) n kk) W := fun W => by
            have h := hidx.out
            rcases (by omega : j = 0 ∨ j = 1 ∨ j = 2) with rfl | rfl | rfl
            all_goals
              simp only [List.getElem?_cons_zero, List.getElem?_cons_succ, Option.some.injEq] at h
              rw [h]
              simp [Instr.index, run_underlying Tryz.underlying46, asIntOf, go_sem]
          clear hidx hnum hdrop
          by_cases hfit : q + Bm.exK c ≤ L
          · rw [if_pos (by omega)] at Hnum
            have Hcall := Lib.hid (Hyes.out c q wr hc28 hfit hst.out.rd)
            have hv := Bm.numK_le c (V / 2 ^ q) hc28
            rw [Nat.div_div_eq_div_mul, ← Nat.pow_add, Nat.sub_sub] at Hnum
            obtain ⟨v, hvv⟩ : ∃ v, v = Bm.numK c (V / 2 ^ q) := ⟨_, rfl⟩
            obtain ⟨q2, hq2⟩ : ∃ q2, q2 = q + Bm.exK c := ⟨_, rfl⟩
            rw [← hvv] at Hcall Hnum hv
            rw [← hq2] at Hcall Hnum hfit
            have Hst2 := Lib.hid (hst.out)
            have Hrn2 := Lib.hid (hrn.out)
            clear hvv hq2 hst hrn Hno Hyes
            go_wp2_with fail
            refine Hcall.out.mono ?_
            rintro e w3 ⟨rfl, hrd3, hg3⟩
            have hst3 := Hst2.out.read hg3 hrd3
            have hlow := Hst2.out.low
            have hrn3 := Hrn2.out.keep (hg3.block bn Hrn2.out.lt (by simp; omega))
            have hst4 := hst3.far (p := ⟨bn, j, none⟩) hbcn (.int .i64 (v : Int))
            have hrn4 := hrn3.set_ j (.int .i64 (v : Int))
            rw [← hxs.out, numV_snoc xs v (by rw [hxs.out]; exact hj3), hxs.out] at hrn4
            have f0 := hrn3.free j
            have hsome : ∃ u, w3.cell? ⟨bn, j, none⟩ = some u := by
              rw [hrn3.cell]
              rcases (by omega : j = 0 ∨ j = 1 ∨ j = 2) with rfl | rfl | rfl <;> exact ⟨_, rfl⟩
            obtain ⟨u0, hu0⟩ := hsome
            have Hst4 := Lib.hid hst4
            have Hrn4 := Lib.hid hrn4
            have hj3' : (j : Int) < 3 := by omega
            clear hrd3 hg3 hst3 hrn3 hst4 hrn4 Hst2 Hrn2 hlow Hcall
            go_wp2
            go_roundw
            case rel =>
              refine ⟨j + 1, q2, xs ++ [v], by go_num, by omega, hfit, Lib.hid (by rw [List.length_append, hxs.out]; rfl), Lib.hid (fun x hx => ?_), Hst4, Hrn4, Lib.hid ?_⟩
              · rcases List.mem_append.1 hx with hx | hx
                · exact hxle.out x hx
                · rw [List.mem_singleton.1 hx]; exact hv
              · rw [Hnum.out]
                cases Bm.numsD ((Bm.atD [c0, c1, c2] k).drop (j + 1)) (V / 2 ^ q2) (L - q2) <;> simp
            case measure => simp [intOf]; omega
          · rw [if_neg (by omega)] at Hnum
            have Hcall := Lib.hid (Hno.out c q wr hc28 hq (by omega) hst.out.rd)
            have Hend : Hid (res = none) := Lib.hid (by rw [hres.out, Hrows.out, Bm.stpsD, Hnum.out]; rfl)
            have Hst2 := Lib.hid (⟨hst.out.bel, hst.out.low⟩ : _ ∧ _)
            clear Hnum Hno Hyes Hends hfit hst hrn hres Hrows HC HR
            go_wp2_with fail
            refine Hcall.out.mono ?_
            rintro e w3 ⟨⟨v, rfl⟩, hg3⟩
            have Hb3 := Lib.hid (Hst2.out.1.grown hg3 Hst2.out.1.size (fun x e => by injection e with e; have := Hst2.out.2; omega))
            clear hg3 Hcall
            go_wp2
            go_ret2
            rw [Hend.out]
            exact ⟨⟨_, _, rfl⟩, Hb3.out⟩
        · have hj3e : j = 3 := by omega
          subst hj3e
          have Hnum := Lib.hid hnum.out
          rw [show (Bm.atD [c0, c1, c2] k).drop 3 = [] from rfl, Bm.numsD, Option.map_some, List.append_nil] at Hnum
          obtain ⟨l, m, o, hxs3⟩ : ∃ l m o, xs = [l, m, o] := by
            match xs, hxs.out with
            | [l, m, o], _ => exact ⟨l, m, o, rfl⟩
          subst hxs3
          have hm : m ≤ 65535 := hxle.out m (by simp)
          have ho : o ≤ 65535 := hxle.out o (by simp)
          have hrn2 : Row wr bn 59 [.int .i64 (l : Int), .int .i64 (m : Int), .int .i64 (o : Int)] := hrn.out
          obtain ⟨x0, x1, x2⟩ := row3 hrn2
          obtain ⟨y0, y1, y2⟩ := row3 hst.out.rec_
          obtain ⟨hra, hrb, hrc⟩ := rec_ok hr.out
          have Hres3 := Lib.hid hres.out
          rw [Hrows.out, Bm.stpsD, Hnum.out] at Hres3
          simp only [List.getElem?_cons_zero, List.getElem?_cons_succ, Option.getD_some] at Hres3
          have Hst2 := Lib.hid hst.out
          clear hres Hnum hnum hrn hrn2 hst hxle hxs Hno Hyes Hrows
          cases hoff : Bm.offI r.1 r.2.1 r.2.2 (o : Int) with
          | none =>
            rw [hoff] at Hres3
            have Hcall := Lib.hid (fun W => qstep_no W r.1 r.2.1 r.2.2 l m o hra hrb hrc hm ho hoff)
            have Hend : Hid (res = none) := Lib.hid Hres3.out
            have Hst3 := Lib.hid (⟨Hst2.out.bel, Hst2.out.low⟩ : _ ∧ _)
            clear hoff Hres3 Hst2 Hends HC HR hra hrb hrc hr
            generalize r.1 = ra at *
            generalize r.2.1 = rb at *
            generalize r.2.2 = rc at *
            generalize m + 3 = m3 at *
            go_wp2_with fail
            refine (Hcall.out _).mono ?_
            rintro e w3 ⟨rfl, hb3⟩
            have Hb3 := Lib.hid ((((Hst3.out.1.trans (hb3.mono Hst3.out.1.size)).alloc (Hst3.out.1.trans (hb3.mono Hst3.out.1.size)).size (.cells #[.int .i64 (l : Int), .int .i64 (m3 : Int), .int .i64 0] 38)).alloc (by have := (Hst3.out.1.trans (hb3.mono Hst3.out.1.size)).size; simp; omega) (.cells #[.int .i64 ra, .int .i64 rb, .int .i64 rc] 78)))
            clear hb3 Hcall
            go_wp2
            go_ret2
            rw [Hend.out]
            exact ⟨⟨_, _, rfl⟩, Hb3.out⟩
          | some x =>
            rw [hoff] at Hres3
            dsimp only at Hres3
            have hx := Bm.offI_in _ _ _ _ _ hoff
            have Hcall := Lib.hid (fun W => qstep_yes W r.1 r.2.1 r.2.2 x l m o hra hrb hrc hm ho hoff)
            have Hrec2 := Lib.hid (Bm.rec_beh r x hr.out hx)
            obtain ⟨⟨ra, rb, rc⟩, hr2⟩ : ∃ r2, r2 = Bm.behI r.1 r.2.1 r.2.2 x := ⟨_, rfl⟩
            rw [← hr2] at Hcall Hrec2 Hres3
            dsimp only at Hcall
            clear hoff hr2 hra hrb hrc hr
            obtain ⟨x', rfl⟩ : ∃ x' : Nat, x = (x' : Int) := ⟨x.toNat, by omega⟩
            rw [Int.toNat_natCast] at Hres3
            have hlow := Hst2.out.low
            go_wp2_with fail
            refine (Hcall.out _).mono ?_
            rintro e w3 ⟨rfl, hb3⟩
            have hst3 := Hst2.out.below hb3
            obtain ⟨bs, hbs⟩ : ∃ bs, w3.heap.size = bs := ⟨_, rfl⟩
            obtain ⟨bt, hbt⟩ : ∃ bt, w3.heap.size + 1 = bt := ⟨_, rfl⟩
            have hlow3 := hst3.low
            have rs := (Row.new w3 38 [.int .i64 (l : Int), .int .i64 ((m + 3 : Nat) : Int), .int .i64 (x' : Int)]).alloc (.cells #[.int .i64 ra, .int .i64 rb, .int .i64 rc] 78)
            have rt := Row.new (w3.alloc (.cells #[.int .i64 (l : Int), .int .i64 ((m + 3 : Nat) : Int), .int .i64 (x' : Int)] 38)) 78 [.int .i64 ra, .int .i64 rb, .int .i64 rc]
            rw [World.size_alloc, hbt] at rt
            rw [hbs] at rs
            have hst4 := (hst3.below ((Below.refl w3.heap.size w3).alloc (Nat.le_refl _) (.cells #[.int .i64 (l : Int), .int .i64 ((m + 3 : Nat) : Int), .int .i64 (x' : Int)] 38))).below ((Below.refl _ (w3.alloc (.cells #[.int .i64 (l : Int), .int .i64 ((m + 3 : Nat) : Int), .int .i64 (x' : Int)] 38))).alloc (Nat.le_refl _) (.cells #[.int .i64 ra, .int .i64 rb, .int .i64 rc] 78))
            have Hst4 := Lib.hid hst4
            have Hrs := Lib.hid rs
            have Hrt := Lib.hid rt
            have Hbs := Lib.hid hbs
            have Hbt := Lib.hid hbt
            have hlt : bc < bs ∧ bc < bt := by omega
            clear hb3 hst3 hst4 rs rt hbs hbt hlow3 Hcall Hst2 x0 x1 x2 y0 y1 y2
            generalize m + 3 = m3 at *
            obtain ⟨d, hd⟩ : ∃ d, n - k = d + 1 := ⟨n - k - 1, by omega⟩
            rw [hd] at Hst4
            have Hd := Lib.hid (show n - (k + 1) = d by omega)
            clear hd
            go_wp2_with fail
            rw [Hbt.out, Hbs.out]
            obtain ⟨x0, x1, x2⟩ := row3 Hrs.out
            obtain ⟨x3, x4, x5⟩ := row3 Hrt.out
            obtain ⟨y0, y1, y2⟩ := row3 Hst4.out.rec_
            have g0 := Hst4.out.rec_.free 0
            have g1 := Hst4.out.rec_.free 1
            have g2 := Hst4.out.rec_.free 2
            obtain ⟨z0, z1, z2⟩ := sqs_at D d k hD.out
            have v0 := (Hst4.out.row.cell (k * 3)).trans z0
            have v1 := (Hst4.out.row.cell (k * 3 + 1)).trans z1
            have v2 := (Hst4.out.row.cell (k * 3 + 2)).trans z2
            have q0 := Hst4.out.row.free (k * 3)
            have q1 := Hst4.out.row.free (k * 3 + 1)
            have q2' := Hst4.out.row.free (k * 3 + 2)
            have hlow4 := Hst4.out.low
            have n1 : bs ≠ bl := by omega
            have n2 : bs ≠ bc := by omega
            have n3 : bt ≠ bl := by omega
            have n4 : bt ≠ bc := by omega
            have n5 : bl ≠ bc := by omega
            have n6 : bc ≠ bl := by omega
            generalize (w3.alloc (.cells #[.int .i64 (l : Int), .int .i64 (m3 : Int), .int .i64 (x' : Int)] 38)).alloc (.cells #[.int .i64 ra, .int .i64 rb, .int .i64 rc] 78) = wD at *
            have hput := sqs_put D d k l m3 x' hD.out
            have hrow2 := ((Hst4.out.row.set_ (k * 3) (.int .i64 (l : Int))).set_ (k * 3 + 1) (.int .i64 (m3 : Int))).set_ (k * 3 + 2) (.int .i64 (x' : Int))
            rw [hput] at hrow2
            have Hrow2 := Lib.hid hrow2
            clear z0 z1 z2 Hrs Hrt Hbs Hbt hput hrow2
            go_region
            have hst6 := Hst4.out.put (k * 3) l m3 x' ra rb rc Hrow2.out
            have Hst6 := Lib.hid hst6
            clear hst6 Hrow2 Hst4 x0 x1 x2 x3 x4 x5 y0 y1 y2 v0 v1 v2 q0 q1 q2' g0 g1 g2 hlow4
            generalize (((((wD.setCell ⟨bl, k * 3, none⟩ (.int .i64 (l : Int))).setCell ⟨bl, k * 3 + 1, none⟩ (.int .i64 (m3 : Int))).setCell ⟨bl, k * 3 + 2, none⟩ (.int .i64 (x' : Int))).setCell ⟨bc, 0, none⟩ (.int .i64 ra)).setCell ⟨bc, 1, none⟩ (.int .i64 rb)).setCell ⟨bc, 2, none⟩ (.int .i64 rc) = wE at *
            generalize wE.drew = wF at *
            go_wp2
            go_roundw
            case rel =>
              refine ⟨k + 1, q, D ++ [(l, m3, x')], (ra, rb, rc), by go_num, by omega, hq, Lib.hid (by rw [List.length_append, hD.out]; rfl), Hrec2, by rw [Hd.out]; exact Hst6, Lib.hid ?_⟩
              rw [Hres3.out]
              cases Bm.stpsD ((Bm.rowsD [c0, c1, c2] n).drop (k + 1)) (V / 2 ^ q) (L - q) (ra, rb, rc) <;> simp
            case measure => simp [intOf]; omega
    · have hkn' : k = n := by omega
      subst hkn'
      have dk : decide ((k : Int) < (k : Int)) = false := decide_eq_false (by omega)
      have Hr2 := Lib.hid hres.out
      rw [show (Bm.rowsD [c0, c1, c2] k).drop k = [] from List.drop_of_length_le (by simp [Bm.rowsD]), Bm.stpsD, Option.map_some, List.append_nil] at Hr2
      unfold Bm.finD at Hr2
      dsimp only at Hr2
      have Hcall := Lib.hid (Hends.out pos wr hpos hst.out.rd)
      have Hst2 := Lib.hid hst.out
      rw [Nat.sub_self, List.replicate_zero, List.append_nil] at Hst2
      clear hres hst Hno Hyes Hends HC HR hr
      by_cases hend : L - pos < 8 ∧ V / 2 ^ pos = 0
      · rw [if_pos hend] at Hr2
        rw [decide_eq_true hend] at Hcall
        clear hend
        go_wp2_with fail
        refine Hcall.out.mono ?_
        rintro e w3 ⟨rfl, hg3⟩
        have hlow := Hst2.out.low
        have hrow := Hst2.out.row.keep (hg3.block bl Hst2.out.row.lt (by simp; omega))
        have Hb3 := Lib.hid (Hst2.out.bel.grown hg3 Hst2.out.bel.size (fun x e => by injection e with e; omega))
        have Hrd : Hid (StpR w3 (some ⟨bl, 0, none⟩) D) := Lib.hid (fun _ => ⟨bl, 0, rfl, hrow.lt, fun j hj => by
          obtain ⟨s0, s1, s2⟩ := sqs_get D j hj
          rw [Nat.zero_add, hrow.cell, hrow.cell, hrow.cell]
          exact ⟨s0, s1, s2⟩⟩)
        clear hg3 hrow Hcall Hst2 hlow
        go_wp2
        go_ret2
        rw [Hr2.out]
        exact ⟨⟨some ⟨bl, 0, none⟩, k, by rw [hD.out]; rfl, Hrd.out⟩, Hb3.out⟩
      · rw [if_neg hend] at Hr2
        rw [decide_eq_false hend] at Hcall
        clear hend
        go_wp2_with fail
        refine Hcall.out.mono ?_
        rintro e w3 ⟨rfl, hg3⟩
        have hlow := Hst2.out.low
        have Hb3 := Lib.hid (Hst2.out.bel.grown hg3 Hst2.out.bel.size (fun x e => by injection e with e; omega))
        clear hg3 Hcall Hst2 hlow
        go_wp2
        go_ret2
        rw [Hr2.out]
        exact ⟨⟨_, _, rfl⟩, Hb3.out⟩
end Go.Proofs.YtbdciiiimdbmkaaGreat

namespace Go.Proofs.YtbdciiiimdbmkaaGreat
open Go.RowKit

namespace Bm
/-- The codes of one part, and those of a step so far. -/
def addP (N : List (List Nat)) (vs : List Nat) (j : Nat) : List Nat := partE j N ++ (vs[j]?).toList.map codeK
theorem addP_nil (N : List (List Nat)) (j : Nat) : addP N [] j = partE j N := by simp [addP]
theorem addP_here (N : List (List Nat)) (vs : List Nat) : addP N vs vs.length = partE vs.length N := by simp [addP]
theorem addP_next (N : List (List Nat)) (vs : List Nat) (v : Nat) : addP N (vs ++ [v]) vs.length = addP N vs vs.length ++ [codeK v] := by
  rw [addP_here]
  simp [addP]
theorem addP_other (N : List (List Nat)) (vs : List Nat) (v : Nat) (j : Nat) (h : j ≠ vs.length) : addP N (vs ++ [v]) j = addP N vs j := by
  unfold addP
  rcases Nat.lt_or_ge j vs.length with h1 | h1
  · rw [List.getElem?_append_left h1]
  · rw [List.getElem?_eq_none (by rw [List.length_append, List.length_singleton]; omega), List.getElem?_eq_none h1]
theorem addP_all (N : List (List Nat)) (vs : List Nat) (j : Nat) (h : j < vs.length) : addP N vs j = partE j (N ++ [vs]) := by
  unfold addP partE
  rw [List.getElem?_eq_getElem h, List.map_append]
  simp [h]
theorem addP_len (N : List (List Nat)) (vs : List Nat) (j : Nat) : (addP N vs j).length ≤ N.length + 1 := by
  unfold addP partE
  rw [List.length_append, List.length_map, List.length_map]
  cases vs[j]? <;> simp
theorem wrap3_in (m : Int) (h : -9223372036854775808 ≤ m ∧ m ≤ 9223372036854775807) : -9223372036854775808 ≤ IntKind.i64.wrap (m - 3) ∧ IntKind.i64.wrap (m - 3) ≤ 9223372036854775807 := by
  by_cases h1 : -9223372036854775808 ≤ m - 3
  · rw [IntWalk.i64_in _ (by omega)]
    omega
  · have : m = -9223372036854775808 ∨ m = -9223372036854775807 ∨ m = -9223372036854775806 := by omega
    rcases this with rfl | rfl | rfl <;> decide
theorem wrap3 (m : Int) (h : -9223372036854775808 ≤ m ∧ m ≤ 9223372036854775807) : (3 ≤ m ∧ m ≤ 65538 → IntKind.i64.wrap (m - 3) = m - 3) ∧ (0 ≤ IntKind.i64.wrap (m - 3) ∧ IntKind.i64.wrap (m - 3) ≤ 65535 → 3 ≤ m ∧ m ≤ 65538) := by
  refine ⟨fun hm => IntWalk.i64_in _ (by omega), fun hw => ?_⟩
  by_cases h1 : -9223372036854775808 ≤ m - 3
  · rw [IntWalk.i64_in _ (by omega)] at hw
    omega
  · exfalso
    have : m = -9223372036854775808 ∨ m = -9223372036854775807 ∨ m = -9223372036854775806 := by omega
    rcases this with rfl | rfl | rfl
    · have e : IntKind.i64.wrap (-9223372036854775808 - 3) = 9223372036854775805 := by decide
      rw [e] at hw; omega
    · have e : IntKind.i64.wrap (-9223372036854775807 - 3) = 9223372036854775806 := by decide
      rw [e] at hw; omega
    · have e : IntKind.i64.wrap (-9223372036854775806 - 3) = 9223372036854775807 := by decide
      rw [e] at hw; omega
end Bm
theorem FamB.congr {w : World} {base : Nat} {vs : List Value} {L L' : Nat → List Nat} (h : FamB w base vs L) (hL : ∀ s, s < vs.length → L' s = L s) : FamB w base vs L' :=
  ⟨fun s v hv => by rw [hL s (List.getElem?_eq_some_iff.1 hv).1]; exact h.own s v hv, h.apart⟩
/-- What codesOf holds in memory. -/
structure CoO (w W : World) (B b2 b5 b6 b7 : Nat) (us : List Value) (P : Nat → List Nat) (F : List Nat) (r : Int × Int × Int) : Prop where
  res : Row W b2 46 [.slice none 0 0, .slice none 0 0, .slice none 0 0]
  all : Row W b5 46 us
  len : us.length = 3
  fam : FamB W B us P
  wr : WS W b6 0 (Bm.bitsE F).1 (Bm.bitsE F).2
  rec_ : Row W b7 78 [.int .i64 r.1, .int .i64 r.2.1, .int .i64 r.2.2]
  bel : Below w.heap.size w W
  low : w.heap.size ≤ b2 ∧ b2 < b5 ∧ b5 < b6 ∧ b6 < b7 ∧ b7 < B ∧ B ≤ W.heap.size
section
variable {w W W' : World} {B b2 b5 b6 b7 : Nat} {us : List Value} {P : Nat → List Nat} {F : List Nat} {r : Int × Int × Int}
theorem CoO.below (h : CoO w W B b2 b5 b6 b7 us P F r) (hb : Below W.heap.size W W') : CoO w W' B b2 b5 b6 b7 us P F r := by
  obtain ⟨h1, h2, h3, h4, h5, h6, h7, h8⟩ := h
  exact ⟨h1.below hb, h2.below hb, h3, h4.below hb, h5.below hb, h6.below hb, h7.trans (hb.mono h7.size), by have := hb.size; omega⟩
theorem CoO.congr (h : CoO w W B b2 b5 b6 b7 us P F r) {P' : Nat → List Nat} (hP : ∀ s, s < 3 → P' s = P s) : CoO w W B b2 b5 b6 b7 us P' F r := by
  obtain ⟨h1, h2, h3, h4, h5, h6, h7, h8⟩ := h
  exact ⟨h1, h2, h3, h4.congr (fun s hs => hP s (by omega)), h5, h6, h7, h8⟩
theorem CoO.put (h : CoO w W B b2 b5 b6 b7 us P F r) {F' : List Nat} (hg : W.grownBy W' (some b6)) (hw : WS W' b6 0 (Bm.bitsE F').1 (Bm.bitsE F').2) : CoO w W' B b2 b5 b6 b7 us P F' r := by
  obtain ⟨h1, h2, h3, h4, _, h6, h7, h8⟩ := h
  refine ⟨h1.keep (hg.block _ (by omega) (by simp; omega)), h2.keep (hg.block _ (by omega) (by simp; omega)), h3, ⟨fun s v hv => (h4.own s v hv).kept hg ?_, h4.apart⟩, hw, h6.keep (hg.block _ (by omega) (by simp; omega)), h7.grown hg h7.size (fun x e => by injection e with e; omega), by have := hg.size; omega⟩
  rcases hq : v.ownBlock with _ | q
  · exact .inl rfl
  · have := ((h4.own s v hv).lt q hq).1
    exact .inr (by simp; omega)
theorem CoO.turn (h : CoO w W B b2 b5 b6 b7 us P F r) (a b c : Int) : CoO w (((W.setCell ⟨b7, 0, none⟩ (.int .i64 a)).setCell ⟨b7, 1, none⟩ (.int .i64 b)).setCell ⟨b7, 2, none⟩ (.int .i64 c)) B b2 b5 b6 b7 us P F (a, b, c) := by
  obtain ⟨h1, h2, h3, h4, h5, h6, h7, h8⟩ := h
  have e1 : ∀ (W : World) i u {t cs}, Row W b2 t cs → Row (W.setCell ⟨b7, i, none⟩ u) b2 t cs := fun W i u t cs h => h.far (by show b2 ≠ b7; omega) u
  have e2 : ∀ (W : World) i u {t cs}, Row W b5 t cs → Row (W.setCell ⟨b7, i, none⟩ u) b5 t cs := fun W i u t cs h => h.far (by show b5 ≠ b7; omega) u
  have e3 : ∀ (W : World) i u, NotT W b7 108 → WS W b6 0 (Bm.bitsE F).1 (Bm.bitsE F).2 → WS (W.setCell ⟨b7, i, none⟩ u) b6 0 (Bm.bitsE F).1 (Bm.bitsE F).2 := fun W i u hn h => h.keep (grown_one W ⟨b7, i, none⟩ u) (by simp; omega) (fun g e => by injection e with e; rw [← e]; exact hn)
  have hn0 := h6.notT (u := 108) (by decide)
  have hn1 := hn0.setCell ⟨b7, 0, none⟩ (.int .i64 a)
  have hn2 := hn1.setCell ⟨b7, 1, none⟩ (.int .i64 b)
  have e4 : ∀ (W : World) i u, FamB W B us P → FamB (W.setCell ⟨b7, i, none⟩ u) B us P := fun W i u h => h.far (fun s v hv e => by have := ((h.own s v hv).lt _ e).1; dsimp only at this; omega) u
  have r4 := ((h6.set_ 0 (.int .i64 a)).set_ 1 (.int .i64 b)).set_ 2 (.int .i64 c)
  simp only [List.set_cons_zero, List.set_cons_succ] at r4
  have q1 := e1 _ 2 (.int .i64 c) (e1 _ 1 (.int .i64 b) (e1 _ 0 (.int .i64 a) h1))
  have q2 := e2 _ 2 (.int .i64 c) (e2 _ 1 (.int .i64 b) (e2 _ 0 (.int .i64 a) h2))
  have q3 := e3 _ 2 (.int .i64 c) hn2 (e3 _ 1 (.int .i64 b) hn1 (e3 _ 0 (.int .i64 a) hn0 h5))
  have q4 := e4 _ 2 (.int .i64 c) (e4 _ 1 (.int .i64 b) (e4 _ 0 (.int .i64 a) h4))
  have q5 := ((h7.setCell (p := ⟨b7, 0, none⟩) (by show w.heap.size ≤ b7; omega) (.int .i64 a)).setCell (p := ⟨b7, 1, none⟩) (by show w.heap.size ≤ b7; omega) (.int .i64 b)).setCell (p := ⟨b7, 2, none⟩) (by show w.heap.size ≤ b7; omega) (.int .i64 c)
  exact ⟨q1, q2, h3, q4, q3, r4, q5, by simpa [World.setCell] using h8⟩
/-- A code is appended to the slice of its part. -/
theorem CoO.app (h : CoO w W B b2 b5 b6 b7 us P F r) {P' : Nat → List Nat} {j : Nat} {u : Value} (hu : us[j]? = some u) {g n cap : Nat} (hg : W.grownBy W' u.ownBlock) (hat : u.ownBlock = some g ∨ g = W.heap.size)
    (hown : W'.ownsRow B 5 1 (.slice (some ⟨g, 0, none⟩) n cap) n (u8s (P' j))) (hn : (P' j).length = n) (hL : ∀ t, t ≠ j → P' t = P t) :
    CoO w (W'.setCell ⟨b5, j, none⟩ (.slice (some ⟨g, 0, none⟩) n cap)) B b2 b5 b6 b7 (us.set j (.slice (some ⟨g, 0, none⟩) n cap)) P' F r := by
  obtain ⟨h1, h2, h3, h4, h5, h6, h7, h8⟩ := h
  have hlo : ∀ q, u.ownBlock = some q → B ≤ q ∧ q < W.heap.size := fun q e => (h4.own j u hu).lt q e
  have hne : ∀ b, b < B → u.ownBlock ≠ some b := fun b hb e => by have := (hlo b e).1; omega
  have k1 := (h1.keep (hg.block _ (by omega) (fun e => hne b2 (by omega) e.symm))).far (p := ⟨b5, j, none⟩) (by show b2 ≠ b5; omega) (.slice (some ⟨g, 0, none⟩) n cap)
  have k2 := (h2.keep (hg.block _ (by omega) (fun e => hne b5 (by omega) e.symm))).set_ j (.slice (some ⟨g, 0, none⟩) n cap)
  have k2' := (h2.keep (hg.block _ (by omega) (fun e => hne b5 (by omega) e.symm))).notT (u := 108) (by decide)
  have k4 := FamB.push (L' := P') h4 hu hg hat hown hn hL
  have k5 : WS W' b6 0 (Bm.bitsE F).1 (Bm.bitsE F).2 := h5.keep hg (hne b6 (by omega)) (fun q e => by
    obtain ⟨c, fz, hk⟩ := Lib.ownsRow_kind (h4.own j u hu) q e
    exact ⟨c, 5, fz, hk, by decide⟩)
  have k5' := k5.keep (grown_one W' ⟨b5, j, none⟩ (.slice (some ⟨g, 0, none⟩) n cap)) (by simp; omega) (fun q e => by injection e with e; rw [← e]; exact k2')
  have k6 := (h6.keep (hg.block _ (by omega) (fun e => hne b7 (by omega) e.symm))).far (p := ⟨b5, j, none⟩) (by show b7 ≠ b5; omega) (.slice (some ⟨g, 0, none⟩) n cap)
  have k7 := (h7.grown hg h7.size (fun q e => by have := (hlo q e).1; omega)).setCell (p := ⟨b5, j, none⟩) (by show w.heap.size ≤ b5; omega) (.slice (some ⟨g, 0, none⟩) n cap)
  have k4' := k4.far (p := ⟨b5, j, none⟩) (fun s v hv e => by have := ((k4.own s v hv).lt _ e).1; dsimp only at this; omega) (.slice (some ⟨g, 0, none⟩) n cap)
  exact ⟨k1, k2, by rw [List.length_set]; exact h3, k4', k5', k6, k7, by have := hg.size; simpa [World.setCell] using (by omega : w.heap.size ≤ b2 ∧ b2 < b5 ∧ b5 < b6 ∧ b6 < b7 ∧ b7 < B ∧ B ≤ W'.heap.size)⟩
end

namespace Bm
theorem rec_in : ∀ (l : List StZ) (r : Int × Int × Int), RecIn r → (∀ s ∈ l, MayZ s) → RecIn (recE r l)
  | [], _, h, _ => h
  | s :: l, r, h, hm => by
    have hs := hm s List.mem_cons_self
    rw [recE]
    exact rec_in l _ (rec_beh r s.2.2 h ⟨hs.2.2.2.2.1, hs.2.2.2.2.2⟩) (fun x hx => hm x (List.mem_cons_of_mem _ hx))
end Bm
theorem three_new (w : World) (t0 t1 t2 : TypeId) (l0 l1 l2 : List Value) : ∃ W b0 b1 b2, ((w.alloc (.cells l0.toArray t0)).alloc (.cells l1.toArray t1)).alloc (.cells l2.toArray t2) = W ∧
    w.heap.size = b0 ∧ w.heap.size + 1 = b1 ∧ w.heap.size + 1 + 1 = b2 ∧ W.heap.size = b2 + 1 ∧ Row W b0 t0 l0 ∧ Row W b1 t1 l1 ∧ Row W b2 t2 l2 ∧ Below w.heap.size w W := by
  have h0 := Row.new w t0 l0
  have h1 := Row.new (w.alloc (.cells l0.toArray t0)) t1 l1
  have h2 := Row.new ((w.alloc (.cells l0.toArray t0)).alloc (.cells l1.toArray t1)) t2 l2
  have k1 : (w.alloc (.cells l0.toArray t0)).heap.size = w.heap.size + 1 := by simp
  have k2 : ((w.alloc (.cells l0.toArray t0)).alloc (.cells l1.toArray t1)).heap.size = w.heap.size + 1 + 1 := by simp
  rw [k1] at h1
  rw [k2] at h2
  exact ⟨_, _, _, _, rfl, rfl, rfl, rfl, by simp, (h0.alloc _).alloc _, h1.alloc _, h2,
    (((Below.refl w.heap.size w).alloc (Nat.le_refl _) _).alloc (by simp) _).alloc (by simp; omega) _⟩
theorem index_a3i (x y z : Int) (W : World) : (Instr.index 59 (.agg #[.int .i64 x, .int .i64 y, .int .i64 z]) (.int .i64 0)).run Tryz.prog W = .ok (.int .i64 x) W ∧
    (Instr.index 59 (.agg #[.int .i64 x, .int .i64 y, .int .i64 z]) (.int .i64 1)).run Tryz.prog W = .ok (.int .i64 y) W ∧ (Instr.index 59 (.agg #[.int .i64 x, .int .i64 y, .int .i64 z]) (.int .i64 2)).run Tryz.prog W = .ok (.int .i64 z) W := by
  refine ⟨?_, ?_, ?_⟩
  all_goals
    simp [Instr.index, run_underlying Tryz.underlying59, asIntOf, go_sem]
theorem index_at3 (x y z u : Int) (j : Nat) (h : [x, y, z][j]? = some u) (W : World) : (Instr.index 59 (.agg #[.int .i64 x, .int .i64 y, .int .i64 z]) (.int .i64 (j : Int))).run Tryz.prog W = .ok (.int .i64 u) W := by
  obtain ⟨h0, h1, h2⟩ := index_a3i x y z W
  match j, h with
  | 0, h => simp at h; subst h; exact h0
  | 1, h => simp at h; subst h; exact h1
  | 2, h => simp at h; subst h; exact h2
/-- What Put answers of a number's bits. -/
theorem put_more (b v : Nat) (F : List Nat) (W : World) (hv : v ≤ 65535) (hF : ∀ x ∈ F, x ≤ 65535) (hl : F.length ≤ 10000) (h : WS W b 0 (Bm.bitsE F).1 (Bm.bitsE F).2) :
    Calls Tryz.prog 38 #[.pointer (some ⟨b, 0, none⟩), .int .u32 (Bm.moreN v : Int), .int .i64 (Bm.bitsK v : Int)] W fun e w' => e = .returned (.bool true) ∧ WS w' b 0 (Bm.bitsE (F ++ [v])).1 (Bm.bitsE (F ++ [v])).2 ∧ W.grownBy w' (some b) := by
  obtain ⟨_, h2, h3, _⟩ := Bm.code_spec v hv
  have h4 := Bm.bitsE_le F hF
  have h1 := put_true b 0 (Bm.bitsE F).1 (Bm.bitsE F).2 (Bm.moreN v) (Bm.bitsK v) W (by omega) (by omega) (by omega) h
  rw [Nat.mod_eq_of_lt (Bm.more_lt v)] at h1
  rw [Bm.bitsE_snoc]
  exact h1
/-- The codes of all steps, part by part, and the bits behind them; or none. -/
def CodesP (w' : World) (e : Ending) (l : List Bm.StZ) : Prop :=
  if ∀ s ∈ l, Bm.MayZ s then ∃ A0 k0 A1 k1 A2 k2 A k, e = .returned (.tuple #[.agg #[.slice A0 l.length k0, .slice A1 l.length k1, .slice A2 l.length k2], .slice A (Bm.bytesE (Bm.numsE (1, 2, 4) l)).length k, .bool true]) ∧
    l.length ≤ k0 ∧ l.length ≤ k1 ∧ l.length ≤ k2 ∧ Reads w' A0 (u8s (Bm.partE 0 (Bm.numsE (1, 2, 4) l))) ∧ Reads w' A1 (u8s (Bm.partE 1 (Bm.numsE (1, 2, 4) l))) ∧ Reads w' A2 (u8s (Bm.partE 2 (Bm.numsE (1, 2, 4) l))) ∧ Reads w' A (u8s (Bm.bytesE (Bm.numsE (1, 2, 4) l)))
  else e = .returned (.tuple #[.agg #[.slice none 0 0, .slice none 0 0, .slice none 0 0], .slice none 0 0, .bool false])
set_option maxHeartbeats 2000000 in
set_option maxRecDepth 100000 in
theorem qcodes_any (A : Option Addr) (c : Nat) (l : List Bm.StZ) (w : World) (hl : l.length ≤ 700) (hok : ZOk l) (hr : StzR w A l) :
    Calls Tryz.prog 15 #[.slice A l.length c] w fun e w' => CodesP w' e l ∧ Below w.heap.size w w' := by
  obtain ⟨i0, hi, hy0, hy1, hy2⟩ := info_parts info_u8
  obtain ⟨Pst, hPst⟩ : ∃ Pst : World → Ending → Prop, Pst = fun w' e => CodesP w' e l := ⟨_, rfl⟩
  have HPst := Lib.hid hPst
  have hgoal : (fun (e : Ending) (w' : World) => CodesP w' e l ∧ Below w.heap.size w w') = fun e w' => Pst w' e ∧ Below w.heap.size w w' := by rw [hPst]
  rw [hgoal]
  clear hgoal hPst
  have Hr := Lib.hid hr
  have Hok := Lib.hid hok
  have Hfst := Lib.hid kfirst_is
  have Hcy := Lib.hid (fun (v : Nat) (h : v ≤ 65535) (W : World) => kcode_is.1 W v h)
  have Hcn := Lib.hid (fun (z : Int) (h0 : Ok64 z) (h : z < 0 ∨ 65535 < z) (W : World) => kcode_is.2 W z h0 h)
  clear hr hok
  go_enter Tryz.func15, Tryz.ntmps15
  go_wp2_with fail
  obtain ⟨W3, b2, b5, b6, hW3, e2, e5, e6, es, r2, r5, r6, hbel3⟩ := three_new w 46 46 77 [.slice none 0 0, .slice none 0 0, .slice none 0 0] [.slice none 0 0, .slice none 0 0, .slice none 0 0] [.pointer none, .int .u64 0, .int .i64 0]
  have hws : WS W3 b6 0 0 0 := by
    have h := WS.new ((w.alloc (.cells #[.slice none 0 0, .slice none 0 0, .slice none 0 0] 46)).alloc (.cells #[.slice none 0 0, .slice none 0 0, .slice none 0 0] 46)) 77 (by decide)
    rw [hW3] at h
    rw [← e6]
    have hs : ((w.alloc (.cells #[.slice none 0 0, .slice none 0 0, .slice none 0 0] 46)).alloc (.cells #[.slice none 0 0, .slice none 0 0, .slice none 0 0] 46)).heap.size = w.heap.size + 1 + 1 := by simp
    rw [hs] at h
    exact h
  rw [hW3, e6, e5, e2]
  refine (Hfst.out _).mono ?_
  rintro e w2 ⟨rfl, hb2⟩
  obtain ⟨b7, hb7⟩ : ∃ b7, w2.heap.size = b7 := ⟨_, rfl⟩
  obtain ⟨B, hB⟩ : ∃ B, b7 + 1 = B := ⟨_, rfl⟩
  have hal := (Below.refl w2.heap.size w2).alloc (Nat.le_refl _) (.cells #[.int .i64 1, .int .i64 2, .int .i64 4] 78)
  have r7 := Row.new w2 78 [.int .i64 1, .int .i64 2, .int .i64 4]
  rw [hb7] at r7
  have hst : CoO w (w2.alloc (.cells #[.int .i64 1, .int .i64 2, .int .i64 4] 78)) B b2 b5 b6 b7 (List.replicate 3 (.slice none 0 0)) (fun j => Bm.partE j []) [] (1, 2, 4) := by
    have hs2 := hb2.size
    refine ⟨(r2.below hb2).below hal, (r5.below hb2).below hal, rfl, FamB.nils _ _ _ (fun s => by simp [Bm.partE]), (hws.below hb2).below hal, r7, ?_, ?_⟩
    · exact (hbel3.trans (hb2.mono (by omega))).trans (hal.mono (by omega))
    · rw [World.size_alloc]; omega
  have Hst := Lib.hid hst
  have Hb7 := Lib.hid hb7
  clear hb2 hal r7 hst hb7 r2 r5 r6 hws hbel3 hW3 e2 e5 e6 es Hfst hB
  go_wp2
  rw [Hb7.out]
  generalize w2.alloc (.cells #[.int .i64 1, .int .i64 2, .int .i64 4] 78) = wA at *
  clear Hb7
  obtain ⟨n, hn⟩ : ∃ n, n = l.length := ⟨_, rfl⟩
  have Hn := Lib.hid hn
  rw [← hn] at hl ⊢
  clear hn
  go_loopw [9, 10, 11, 12, 13, 14, 15, 16, 17, 18, 22] (fun _ _ _ _ _ _ _ _ _ _ i wr => ∃ (k : Nat) (us : List Value), i = .int .i64 (k : Int) ∧ k ≤ n ∧ Hid (∀ s ∈ l.take k, Bm.MayZ s) ∧
    Hid (CoO w wr B b2 b5 b6 b7 us (fun j => Bm.partE j (Bm.numsE (1, 2, 4) (l.take k))) (Bm.numsE (1, 2, 4) (l.take k)).flatten (Bm.recE (1, 2, 4) (l.take k)))) (fun _ _ _ _ _ _ _ _ _ _ i _ => n - (intOf i).toNat)
  case atStart => exact ⟨0, _, rfl, Nat.zero_le _, Lib.hid (by simp), Hst⟩
  case round =>
    obtain ⟨k, us, rfl, hk, hall, hst⟩ := hrel
    clear Hst
    by_cases hkn : k < n
    · have dk : decide ((k : Int) < (n : Int)) = true := decide_eq_true (by omega)
      have hkl : k < l.length := by rw [← Hn.out]; exact hkn
      obtain ⟨g, off, rfl, hg, hc⟩ := (Hr.out.below hst.out.bel) (by omega)
      obtain ⟨c0, c1, c2⟩ := hc k hkl
      obtain ⟨x, m, o, hs⟩ : ∃ x m o, l[k] = (x, m, o) := ⟨_, _, _, rfl⟩
      have Hs := Lib.hid hs
      obtain ⟨ox, om, oo⟩ := Hok.out l[k] (List.getElem_mem hkl)
      rw [hs] at c0 c1 c2 ox om oo
      simp only at c0 c1 c2 ox om oo
      have Htk : Hid (l.take (k + 1) = l.take k ++ [(x, m, o)]) := Lib.hid (by rw [List.take_add_one, List.getElem?_eq_getElem hkl, hs]; rfl)
      have hst1 := hst.out.below ((Below.refl wr.heap.size wr).alloc (Nat.le_refl _) (.cells #[.int .i64 x, .int .i64 m, .int .i64 o] 38))
      obtain ⟨y0, y1, y2⟩ := row3 hst1.rec_
      have hrin := Bm.rec_in (l.take k) (1, 2, 4) ⟨by decide, by decide, by decide⟩ hall.out
      obtain ⟨hra, hrb, hrc⟩ := rec_ok hrin
      obtain ⟨N, hN⟩ : ∃ N, N = Bm.numsE (1, 2, 4) (l.take k) := ⟨_, rfl⟩
      have HN := Lib.hid hN
      have HN2 : Hid (Bm.numsE (1, 2, 4) (l.take (k + 1)) = N ++ [Bm.threeE (Bm.recE (1, 2, 4) (l.take k)) (x, m, o)] ∧ Bm.recE (1, 2, 4) (l.take (k + 1)) = Bm.behI (Bm.recE (1, 2, 4) (l.take k)).1 (Bm.recE (1, 2, 4) (l.take k)).2.1 (Bm.recE (1, 2, 4) (l.take k)).2.2 o) := Lib.hid (by rw [Htk.out, Bm.numsE_snoc, Bm.recE_snoc, hN]; exact ⟨rfl, rfl⟩)
      rw [← hN] at hst1
      generalize Bm.recE (1, 2, 4) (l.take k) = r at *
      have Hst1 := Lib.hid hst1
      clear hc hs hst hst1 hN
      by_cases ho : 1 ≤ o ∧ o ≤ 65533
      · have Hcall := Lib.hid (fun W => qnums_yes W r.1 r.2.1 r.2.2 (x, m, o) hra hrb hrc ho)
        dsimp only at Hcall
        have hz2 := Bm.num_may r.1 r.2.1 r.2.2 o ho.1 ho.2
        obtain ⟨⟨ra, rb, rc⟩, hbeh⟩ : ∃ r', r' = Bm.behI r.1 r.2.1 r.2.2 o := ⟨_, rfl⟩
        rw [← hbeh] at Hcall HN2
        have hth : Bm.threeE r (x, m, o) = [x.toNat, (m - 3).toNat, (Bm.numI r.1 r.2.1 r.2.2 o).toNat] := rfl
        rw [hth] at HN2
        obtain ⟨z2, hz2e⟩ : ∃ z2, z2 = Bm.numI r.1 r.2.1 r.2.2 o := ⟨_, rfl⟩
        rw [← hz2e] at Hcall HN2 hz2
        have hw3 := Bm.wrap3 m om
        obtain ⟨z1, hz1e⟩ : ∃ z1, z1 = IntKind.i64.wrap (m - 3) := ⟨_, rfl⟩
        rw [← hz1e] at Hcall hw3
        have Hw3 := Lib.hid hw3
        have Hoz : Hid (Ok64 z1) := Lib.hid (by rw [hz1e]; exact Bm.wrap3_in m om)
        dsimp only at Hcall
        clear hbeh hth hz2e hz1e hw3 hra hrb hrc hrin
        go_wp2_with fail
        refine (Hcall.out _).mono ?_
        rintro e w3 ⟨rfl, hb3⟩
        have hst3 := Hst1.out.below hb3
        have hlow3 := hst3.low
        obtain ⟨bn, hbn⟩ : ∃ bn, w3.heap.size = bn := ⟨_, rfl⟩
        have rt := Row.new (w3.alloc (.cells #[.int .i64 x, .int .i64 z1, .int .i64 z2] 59)) 78 [.int .i64 ra, .int .i64 rb, .int .i64 rc]
        have rn := (Row.new w3 59 [.int .i64 x, .int .i64 z1, .int .i64 z2]).alloc (.cells #[.int .i64 ra, .int .i64 rb, .int .i64 rc] 78)
        rw [World.size_alloc, hbn] at rt
        rw [hbn] at rn
        have hst4 := (hst3.below ((Below.refl w3.heap.size w3).alloc (Nat.le_refl _) (.cells #[.int .i64 x, .int .i64 z1, .int .i64 z2] 59))).below ((Below.refl _ (w3.alloc (.cells #[.int .i64 x, .int .i64 z1, .int .i64 z2] 59))).alloc (Nat.le_refl _) (.cells #[.int .i64 ra, .int .i64 rb, .int .i64 rc] 78))
        have Hst4 := Lib.hid hst4
        have Hrt := Lib.hid rt
        have Hrn := Lib.hid rn
        have Hbn := Lib.hid hbn
        obtain ⟨t0, t1, t2⟩ := row3 hst4.rec_
        have f0 := hst4.rec_.free 0
        have f1 := hst4.rec_.free 1
        have f2 := hst4.rec_.free 2
        obtain ⟨q0, q1, q2⟩ := row3 rt
        obtain ⟨p0, p1, p2⟩ := row3 rn
        have n1 : bn + 1 ≠ b7 := by omega
        have n2 : bn ≠ b7 := by omega
        rw [← hbn] at q0 q1 q2 p0 p1 p2 n1 n2
        clear hb3 hst3 hst4 rt rn hbn hlow3 Hcall Hst1 y0 y1 y2 c0 c1 c2
        go_wp2
        rw [Hbn.out]
        have hst5 := Hst4.out.turn ra rb rc
        have Hst5 : Hid (CoO w (((((w3.alloc (.cells #[.int .i64 x, .int .i64 z1, .int .i64 z2] 59)).alloc (.cells #[.int .i64 ra, .int .i64 rb, .int .i64 rc] 78)).setCell ⟨b7, 0, none⟩ (.int .i64 ra)).setCell ⟨b7, 1, none⟩ (.int .i64 rb)).setCell ⟨b7, 2, none⟩ (.int .i64 rc)) B b2 b5 b6 b7 us (Bm.addP N []) (N.flatten ++ []) (ra, rb, rc)) := Lib.hid (by
          rw [List.append_nil]
          exact hst5.congr (fun s _ => Bm.addP_nil N s))
        clear hst5 Hst4 Hrt Hrn Hbn t0 t1 t2 f0 f1 f2 q0 q1 q2 p0 p1 p2 n1 n2
        generalize ((((w3.alloc (.cells #[.int .i64 x, .int .i64 z1, .int .i64 z2] 59)).alloc (.cells #[.int .i64 ra, .int .i64 rb, .int .i64 rc] 78)).setCell ⟨b7, 0, none⟩ (.int .i64 ra)).setCell ⟨b7, 1, none⟩ (.int .i64 rb)).setCell ⟨b7, 2, none⟩ (.int .i64 rc) = wB at *
        have HNf : Hid ((∀ v ∈ N.flatten, v ≤ 65535) ∧ N.flatten.length ≤ 3 * 700 ∧ N.length ≤ 700) := Lib.hid (by
          rw [HN.out, Bm.flat_length, Bm.numsE_length, List.length_take]
          exact ⟨Bm.nums_le _ _ hall.out, by omega, by omega⟩)
        rename World => wo
        go_loopw [13, 14, 15, 16, 17, 18, 38] (fun _ _ _ _ _ _ i wr => ∃ (j : Nat) (vs : List Nat) (us : List Value), i = .int .i64 (j : Int) ∧ j ≤ 3 ∧ Hid (vs.length = j) ∧ Hid (∀ v ∈ vs, v ≤ 65535) ∧ Hid ([x, z1, z2].take j = vs.map fun v : Nat => (v : Int)) ∧
          Hid (CoO w wr B b2 b5 b6 b7 us (Bm.addP N vs) (N.flatten ++ vs) (ra, rb, rc))) (fun _ _ _ _ _ _ i _ => 3 - (intOf i).toNat)
        case atStart => exact ⟨0, [], us, rfl, by omega, Lib.hid rfl, Lib.hid (by simp), Lib.hid rfl, Hst5⟩
        case round =>
          obtain ⟨j, vs, us, rfl, hj, hvs, hvle, hzs, hst⟩ := hrel
          clear Hst5
          by_cases hj3 : j < 3
          · have dj : (j : Int) < 3 := by omega
            obtain ⟨z, hz⟩ : ∃ z, [x, z1, z2][j]? = some z := ⟨_, List.getElem?_eq_getElem (by simpa using hj3)⟩
            have hidx := index_at3 x z1 z2 z j hz
            have Hz := Lib.hid hz
            have hzok : Ok64 z := by
              rcases (by omega : j = 0 ∨ j = 1 ∨ j = 2) with rfl | rfl | rfl
              · simp at hz; subst hz; exact ox
              · simp at hz; subst hz; exact Hoz.out
              · simp at hz; subst hz; unfold Ok64; omega
            have hu : ∃ u, us[j]? = some u := ⟨_, List.getElem?_eq_getElem (by rw [hst.out.len]; exact hj3)⟩
            obtain ⟨u, hu⟩ := hu
            have Hu := Lib.hid hu
            clear hz hu
            by_cases hz0 : 0 ≤ z ∧ z ≤ 65535
            · obtain ⟨v, rfl⟩ : ∃ v : Nat, z = (v : Int) := ⟨z.toNat, by omega⟩
              have hv : v ≤ 65535 := by omega
              have Hcall := Lib.hid (fun W => Hcy.out v hv W)
              have hm2 := (Bm.code_spec v hv).2.1
              have hcu : IntKind.u32.wrap ((Bm.moreN v : Nat) : Int) = ((Bm.moreN v : Nat) : Int) := by rw [IntKind.wrap_u32]; omega
              have Hput := Lib.hid (fun W h => put_more b6 v (N.flatten ++ vs) W hv (fun q hq => (List.mem_append.1 hq).elim (HNf.out.1 q) (hvle.out q)) (by rw [List.length_append, hvs.out]; have := HNf.out.2.1; omega) h)
              have Hst2 := Lib.hid hst.out
              have hP : (Bm.addP N vs j).length ≤ 701 := Nat.le_trans (Bm.addP_len N vs j) (by have := HNf.out.2.2; omega)
              clear hz0 hst hzok Hcy Hcn
              go_wp2_with fail
              refine (Hcall.out _).mono ?_
              rintro e w4 ⟨rfl, hb4⟩
              have hst4 := Hst2.out.below hb4
              have c5 := (hst4.all.cell j).trans Hu.out
              have Hown4 := Lib.hid (hst4.fam.own j u Hu.out)
              have hs4 := hst4.low
              have Hst4 := Lib.hid hst4
              clear hb4 hst4 Hst2 Hcall
              generalize hcd : Bm.codeK v = cd at *
              go_wp2_with (at_builtin; refine wpList_append_lies _ rfl _ _ 45 rfl B 5 i0 (.int .u8 0) 1 1 Tryz.underlying45 hi hy0 hy1 hy2 rfl (by decide) _ _ _ rfl (Hown4.out.alloc _) ⟨w4.heap.size, 0, none⟩ 1 1 [.int .u8 (cd : Int)] rfl rfl ?d1 ?d2 (by decide) ?d3 ?d4 ?d5 _ rfl ?_)
              case d1 =>
                intro j u hj
                match j, hj with
                | 0, hj => simp at hj; subst hj; simp [Addr.add]
              case d2 => intro u hu; simp at hu; subst hu; rfl
              case d3 => unfold maxLen; omega
              case d4 => omega
              case d5 => simp; omega
              intro g7 cap7 w7 hown7 hgr7 hat7 hlt7
              have hst5 := Hst4.out.below ((Below.refl w4.heap.size w4).alloc (Nat.le_refl _) (.cells #[.int .u8 (cd : Int)] 5))
              have happ := Bm.addP_next N vs v
              rw [hcd, hvs.out] at happ
              have e7 : u8s (Bm.addP N vs j) ++ [Value.int .u8 (cd : Int)] = u8s (Bm.addP N (vs ++ [v]) j) := by rw [happ]; simp [u8s]
              rw [e7] at hown7
              have hlen7 : (Bm.addP N (vs ++ [v]) j).length = (Bm.addP N vs j).length + 1 := by rw [happ]; simp
              have hst6 := hst5.app (P' := Bm.addP N (vs ++ [v])) Hu.out hgr7 (by rw [World.size_alloc]; exact hat7) hown7 hlen7 (fun t ht => Bm.addP_other N vs v t (by rw [hvs.out]; exact ht))
              have hlo5 := hst5.low
              have hno5 : ∀ q, q < B → u.ownBlock ≠ some q := fun q hq e => by have := (Hown4.out.lt q e).1; omega
              have r5' := hst5.all.keep (hgr7.block b5 (by omega) (fun e => hno5 b5 (by omega) e.symm))
              have c7 := (r5'.cell j).trans Hu.out
              have f7 := r5'.free j
              have Hst6 := Lib.hid hst6
              have Hp6 := Lib.hid (Hput.out _ hst6.wr)
              clear hown7 hgr7 hat7 hlt7 hst5 happ e7 hlen7 hst6 hlo5 hno5 r5' Hown4 Hst4 c5 Hput
              go_wp2_with fail
              refine Hp6.out.mono ?_
              rintro e w8 ⟨rfl, hws8, hg8⟩
              have Hst8 := Lib.hid (Hst6.out.put hg8 hws8)
              clear hws8 hg8 Hst6 Hp6 c7 f7
              go_wp2
              go_roundw
              case rel =>
                refine ⟨j + 1, vs ++ [v], _, by go_num, by omega, Lib.hid (by rw [List.length_append, hvs.out]; rfl), Lib.hid (fun q hq => ?_), Lib.hid ?_, by rw [← List.append_assoc]; exact Hst8⟩
                · rcases List.mem_append.1 hq with hq | hq
                  · exact hvle.out q hq
                  · rw [List.mem_singleton.1 hq]; exact hv
                · rw [List.take_add_one, Hz.out, hzs.out, List.map_append]
                  rfl
              case measure => simp [intOf]; omega
            · have hzb : z < 0 ∨ 65535 < z := by omega
              have Hcall := Lib.hid (fun W => Hcn.out z hzok hzb W)
              have Hbad : Hid (¬ ∀ s ∈ l, Bm.MayZ s) := Lib.hid (fun h => by
                have hm := h (x, m, o) (by rw [← Hs.out]; exact List.getElem_mem hkl)
                obtain ⟨m1, m2, m3, m4, m5, m6⟩ := hm
                dsimp only at m1 m2 m3 m4 m5 m6
                have hz := Hz.out
                have hw1 := Hw3.out.1 ⟨m3, m4⟩
                rcases (by omega : j = 0 ∨ j = 1 ∨ j = 2) with rfl | rfl | rfl
                · simp at hz; omega
                · simp at hz; omega
                · simp at hz; omega)
              have Hst2 := Lib.hid hst.out
              clear hz0 hst hzok Hcy Hcn hzb Hu
              go_wp2_with fail
              refine (Hcall.out _).mono ?_
              rintro e w4 ⟨rfl, hb4⟩
              have hst4 := Hst2.out.below hb4
              obtain ⟨d0, d1, d2⟩ := row3 hst4.res
              have f0 := hst4.res.free 0
              have f1 := hst4.res.free 1
              have f2 := hst4.res.free 2
              have hlo4 := hst4.low
              have r4 := ((hst4.res.set_ 0 (.slice none 0 0)).set_ 1 (.slice none 0 0)).set_ 2 (.slice none 0 0)
              simp only [List.set_cons_zero, List.set_cons_succ] at r4
              obtain ⟨s0, s1, s2⟩ := row3 r4
              have HS := Lib.hid (⟨s0, s1, s2⟩ : _ ∧ _ ∧ _)
              have HB4 := Lib.hid (((hst4.bel.setCell (p := ⟨b2, 0, none⟩) hlo4.1 (.slice none 0 0)).setCell (p := ⟨b2, 1, none⟩) hlo4.1 (.slice none 0 0)).setCell (p := ⟨b2, 2, none⟩) hlo4.1 (.slice none 0 0))
              clear hb4 hst4 r4 s0 s1 s2 Hcall Hst2
              go_wp2
              obtain ⟨s0, s1, s2⟩ := HS.out
              refine bodyPost_ret (v := .tuple #[.agg #[.slice none 0 0, .slice none 0 0, .slice none 0 0], .slice none 0 0, .bool false]) (by simp [results, Tryz.results15, go_sem, s0, s1, s2]) rfl ⟨?_, HB4.out⟩
              rw [HPst.out]
              show CodesP _ _ l
              unfold CodesP
              rw [if_neg Hbad.out]
          · have hj3e : j = 3 := by omega
            subst hj3e
            have hzs3 := hzs.out
            rw [show [x, z1, z2].take 3 = [x, z1, z2] from rfl] at hzs3
            obtain ⟨v0, v1, v2, hv3⟩ : ∃ v0 v1 v2, vs = [v0, v1, v2] := by
              match vs, hvs.out with
              | [a, b, c], _ => exact ⟨a, b, c, rfl⟩
            subst hv3
            simp only [List.map_cons, List.map_nil, List.cons.injEq, and_true] at hzs3
            obtain ⟨ex, e1, e2⟩ := hzs3
            have b0 := hvle.out v0 (by simp)
            have b1 := hvle.out v1 (by simp)
            have hm3 := Hw3.out.2 (by omega)
            have hw1 := Hw3.out.1 hm3
            have hall2 : Hid (∀ s ∈ l.take (k + 1), Bm.MayZ s) := Lib.hid (fun s hs => by
              rw [Htk.out] at hs
              rcases List.mem_append.1 hs with hs | hs
              · exact hall.out s hs
              · rw [List.mem_singleton.1 hs]
                unfold Bm.MayZ
                dsimp only
                omega)
            have hvec : [x.toNat, (m - 3).toNat, z2.toNat] = [v0, v1, v2] := by
              rw [← hw1, ex, e1, e2]
              simp
            have hHN2 := HN2.out
            rw [hvec] at hHN2
            have Hst9 : Hid (CoO w wr B b2 b5 b6 b7 us (fun j => Bm.partE j (Bm.numsE (1, 2, 4) (l.take (k + 1)))) (Bm.numsE (1, 2, 4) (l.take (k + 1))).flatten (Bm.recE (1, 2, 4) (l.take (k + 1)))) := Lib.hid (by
              rw [hHN2.1, hHN2.2, List.flatten_append, List.flatten_singleton]
              exact hst.out.congr (fun s hs => (Bm.addP_all N [v0, v1, v2] s (by simpa using hs)).symm))
            clear hst hvec hHN2 hw1 hm3 b0 b1 ex e1 e2 hzs hvs hvle HN2 HNf Hw3 Hoz HN Htk
            go_wp2
            go_roundw
            case rel => exact ⟨k + 1, us, by go_num, by omega, hall2, Hst9⟩
            case measure => simp [intOf]; omega
      · have Hcall := Lib.hid (fun W => qnums_no W r.1 r.2.1 r.2.2 (x, m, o) hra hrb hrc oo ho)
        dsimp only at Hcall
        have Hbad : Hid (¬ ∀ s ∈ l, Bm.MayZ s) := Lib.hid (fun h => by
          have hm := h (x, m, o) (by rw [← Hs.out]; exact List.getElem_mem hkl)
          exact ho ⟨hm.2.2.2.2.1, hm.2.2.2.2.2⟩)
        have Hst2 := Hst1
        clear Hst1 hra hrb hrc hrin ho HN2 HN Htk Hcy Hcn
        generalize IntKind.i64.wrap (m - 3) = z1 at *
        go_wp2_with fail
        refine (Hcall.out _).mono ?_
        rintro e w4 ⟨rfl, hb4⟩
        have hst4 := Hst2.out.below hb4
        have hst4 := (hst4.below ((Below.refl w4.heap.size w4).alloc (Nat.le_refl _) (.cells #[.int .i64 x, .int .i64 z1, .int .i64 0] 59))).below ((Below.refl _ (w4.alloc (.cells #[.int .i64 x, .int .i64 z1, .int .i64 0] 59))).alloc (Nat.le_refl _) (.cells #[.int .i64 r.1, .int .i64 r.2.1, .int .i64 r.2.2] 78))
        obtain ⟨d0, d1, d2⟩ := row3 hst4.res
        have f0 := hst4.res.free 0
        have f1 := hst4.res.free 1
        have f2 := hst4.res.free 2
        have hlo4 := hst4.low
        have r4 := ((hst4.res.set_ 0 (.slice none 0 0)).set_ 1 (.slice none 0 0)).set_ 2 (.slice none 0 0)
        simp only [List.set_cons_zero, List.set_cons_succ] at r4
        obtain ⟨s0, s1, s2⟩ := row3 r4
        have HS := Lib.hid (⟨s0, s1, s2⟩ : _ ∧ _ ∧ _)
        have HB4 := Lib.hid (((hst4.bel.setCell (p := ⟨b2, 0, none⟩) hlo4.1 (.slice none 0 0)).setCell (p := ⟨b2, 1, none⟩) hlo4.1 (.slice none 0 0)).setCell (p := ⟨b2, 2, none⟩) hlo4.1 (.slice none 0 0))
        clear hb4 hst4 r4 s0 s1 s2 Hcall Hst2
        go_wp2_with fail
        generalize (w4.alloc (.cells #[.int .i64 x, .int .i64 z1, .int .i64 0] 59)).alloc (.cells #[.int .i64 r.1, .int .i64 r.2.1, .int .i64 r.2.2] 78) = wC at *
        go_wp2
        obtain ⟨s0, s1, s2⟩ := HS.out
        refine bodyPost_ret (v := .tuple #[.agg #[.slice none 0 0, .slice none 0 0, .slice none 0 0], .slice none 0 0, .bool false]) (by simp [results, Tryz.results15, go_sem, s0, s1, s2]) rfl ⟨?_, HB4.out⟩
        rw [HPst.out]
        show CodesP _ _ l
        unfold CodesP
        rw [if_neg Hbad.out]
    · have hkn' : k = n := by omega
      subst hkn'
      have dk : decide ((k : Int) < (k : Int)) = false := decide_eq_false (by omega)
      have htl : l.take k = l := by rw [Hn.out, List.take_length]
      have hall2 := hall.out
      rw [htl] at hall2
      have hst2 := hst.out
      rw [htl] at hst2
      have Hall := Lib.hid hall2
      have Hst := Lib.hid hst2
      clear hall hst hall2 hst2 htl Hcy Hcn
      obtain ⟨u0, u1, u2, hus⟩ : ∃ u0 u1 u2, us = [u0, u1, u2] := by
        match us, Hst.out.len with
        | [a, b, c], _ => exact ⟨a, b, c, rfl⟩
      subst hus
      have hlo := Hst.out.low
      have o0 := Hst.out.fam.own 0 u0 rfl
      have o1 := Hst.out.fam.own 1 u1 rfl
      have o2 := Hst.out.fam.own 2 u2 rfl
      have hpl : ∀ j, (Bm.partE j (Bm.numsE (1, 2, 4) l)).length = k := fun j => by rw [Bm.partE, List.length_map, Bm.numsE_length, Hn.out]
      rw [hpl] at o0 o1 o2
      obtain ⟨A0, k0, rfl, hr0, hA0⟩ := own_reads o0
      obtain ⟨A1, k1, rfl, hr1, hA1⟩ := own_reads o1
      obtain ⟨A2, k2, rfl, hr2, hA2⟩ := own_reads o2
      have hk0 := (own_capA o0).1
      have hk1 := (own_capA o1).1
      have hk2 := (own_capA o2).1
      have hnl : (Bm.bitsE (Bm.numsE (1, 2, 4) l).flatten).2 ≤ 100000 := by
        have h1 := Bm.bitsE_le _ (Bm.nums_le l (1, 2, 4) Hall.out)
        rw [Bm.flat_length] at h1
        have := Hn.out
        omega
      have Hby := Lib.hid (bytes_any b6 0 _ _ wr.drew (by omega) Hst.out.wr.drew)
      have HR := Lib.hid (⟨hr0, hr1, hr2⟩ : _ ∧ _ ∧ _)
      have HA := Lib.hid (⟨fun a e => (hA0 a e).1, fun a e => (hA1 a e).1, fun a e => (hA2 a e).1⟩ : (∀ a, A0 = some a → B ≤ a.block) ∧ (∀ a, A1 = some a → B ≤ a.block) ∧ (∀ a, A2 = some a → B ≤ a.block))
      have HK := Lib.hid (⟨hk0, hk1, hk2⟩ : k ≤ k0 ∧ k ≤ k1 ∧ k ≤ k2)
      obtain ⟨a0, a1, a2⟩ := row3 Hst.out.all
      have hbl : (Bm.bytesE (Bm.numsE (1, 2, 4) l)).length = ((Bm.bitsE (Bm.numsE (1, 2, 4) l).flatten).2 + 7) / 8 := by rw [Bm.bytesE, Bm.bytesOf_length]
      have hbe : Bm.bytesOf (Bm.bitsE (Bm.numsE (1, 2, 4) l).flatten).1 (((Bm.bitsE (Bm.numsE (1, 2, 4) l).flatten).2 + 7) / 8) = Bm.bytesE (Bm.numsE (1, 2, 4) l) := rfl
      rw [hbe, ← hbl] at Hby
      clear o0 o1 o2 hpl hr0 hr1 hr2 hA0 hA1 hA2 hk0 hk1 hk2 hnl hbl hbe
      generalize hbE : Bm.bytesE (Bm.numsE (1, 2, 4) l) = bE at *
      have HbE := Lib.hid hbE
      clear hbE
      go_upto_region 21 with fail
      refine wp_region_held_drew (S := (fun W : World => W.cell? ⟨b5, 0, none⟩ = some (.slice A0 k k0) ∧ W.cell? ⟨b5, 1, none⟩ = some (.slice A1 k k1) ∧ W.cell? ⟨b5, 2, none⟩ = some (.slice A2 k k2))) (by kernel_rfl) (by exact ⟨a0, a1, a2⟩) (fun hHeld => ?_)
      refine wpAnyH_take (i := 0) (oi := { dst := some 66, op := Go.Op.load 46 (Go.Operand.tmp 5), type := 46, pos := "seqs.go:80", after := #[], guard := none }) (v := ?_) rfl (by kernel_rfl) (by kernel_rfl) (by kernel_rfl) (fun _ _ _ h => h) (Or.inl ⟨by rfl, ?_⟩) (by assumption) ?_
      rotate_left
      · (intro w hSw; (try dsimp only at hSw); go_simp; (try with_reducible rfl))
      try simp only [Act.put, List.setIfInBounds_toArray, List.set_cons_zero, List.set_cons_succ]
      refine wpAnyH_ready (rs := [1]) (by kernel_rfl) (by simp) ?_
      refine AllReadyH.cons (o := { dst := some 67, op := Go.Op.call { callee := Go.Callee.value (Go.Operand.func 39), args := #[Go.Operand.tmp 6], argTypes := #[77] }, type := 45, pos := "seqs.go:80", after := #[], guard := none }) rfl (fun K hK => ?_) AllReadyH.nil
      go_simp
      (go_at_call 39; refine Hby.out.mono ?_; rintro e w8 ⟨g, rfl, hge, hrow8, hb8⟩; have HX := Lib.hid ((Below.refl wr.heap.size wr).drew.trans (hb8.mono (Nat.le_refl _))); have HR8 := Lib.hid hrow8; have HG := Lib.hid hge; clear hge hrow8 hb8)
      go_simp
      refine hK.out _ _ (by exact row3 (Hst.out.below HX.out).all) (fun hHeld => ?_)
      clear hK K
      try simp only [Act.put, List.setIfInBounds_toArray, List.set_cons_zero, List.set_cons_succ]
      have hst8 := Hst.out.below HX.out
      obtain ⟨d0, d1, d2⟩ := row3 hst8.res
      have f0 := hst8.res.free 0
      have f1 := hst8.res.free 1
      have f2 := hst8.res.free 2
      have Hst8 := Lib.hid hst8
      clear hst8
      refine wpAnyH_ready (rs := [2]) (by kernel_rfl) (by simp) ?_
      refine AllReadyH.cons (o := { dst := none, op := Go.Op.store 46 (Go.Operand.tmp 2) (Go.Operand.tmp 66), type := 0, pos := "seqs.go:80", after := #[{ on := 0, ground := Go.Ground.data }, { on := 1, ground := Go.Ground.chain }, { on := 0, ground := Go.Ground.phase }, { on := 1, ground := Go.Ground.textOnly Go.Departure.lateStoresUnsure }], guard := none }) rfl (fun K hK => ?_) AllReadyH.nil
      go_simp
      refine hK.out _ _ (by exact row3 (((Hst8.out.all.far (p := ⟨b2, 0, none⟩) (by show b5 ≠ b2; omega) (.slice A0 k k0)).far (p := ⟨b2, 1, none⟩) (by show b5 ≠ b2; omega) (.slice A1 k k1)).far (p := ⟨b2, 2, none⟩) (by show b5 ≠ b2; omega) (.slice A2 k k2))) (fun hHeld => ?_)
      clear hK K
      try simp only [Act.put, List.setIfInBounds_toArray, List.set_cons_zero, List.set_cons_succ]
      refine wpAnyH_take (i := 3) (oi := { dst := some 3, op := Go.Op.assign (Go.Operand.tmp 67), type := 45, pos := "seqs.go:80", after := #[{ on := 1, ground := Go.Ground.data }, { on := 2, ground := Go.Ground.chain }, { on := 0, ground := Go.Ground.phase }, { on := 1, ground := Go.Ground.phase }, { on := 2, ground := Go.Ground.phase }], guard := none }) (v := ?_) rfl (by kernel_rfl) (by kernel_rfl) (by kernel_rfl) (fun _ _ _ h => h) (Or.inl ⟨by rfl, ?_⟩) (by assumption) ?_
      rotate_left
      · (intro w hSw; (try dsimp only at hSw); go_simp; (try with_reducible rfl))
      try simp only [Act.put, List.setIfInBounds_toArray, List.set_cons_zero, List.set_cons_succ]
      refine wpAnyH_take (i := 4) (oi := { dst := some 4, op := Go.Op.assign (Go.Operand.const (Go.Value.bool true)), type := 4, pos := "seqs.go:80", after := #[{ on := 3, ground := Go.Ground.chain }, { on := 0, ground := Go.Ground.phase }, { on := 1, ground := Go.Ground.phase }, { on := 2, ground := Go.Ground.phase }, { on := 3, ground := Go.Ground.phase }], guard := none }) (v := ?_) rfl (by kernel_rfl) (by kernel_rfl) (by kernel_rfl) (fun _ _ _ h => h) (Or.inl ⟨by rfl, ?_⟩) (by assumption) ?_
      rotate_left
      · (intro w hSw; (try dsimp only at hSw); go_simp; (try with_reducible rfl))
      try simp only [Act.put, List.setIfInBounds_toArray, List.set_cons_zero, List.set_cons_succ]
      refine wpAnyH_done (by kernel_rfl) ?_ _
      have rb2 := ((Hst8.out.res.set_ 0 (.slice A0 k k0)).set_ 1 (.slice A1 k k1)).set_ 2 (.slice A2 k k2)
      simp only [List.set_cons_zero, List.set_cons_succ] at rb2
      have HB9 := Lib.hid (((Hst8.out.bel.setCell (p := ⟨b2, 0, none⟩) hlo.1 (.slice A0 k k0)).setCell (p := ⟨b2, 1, none⟩) hlo.1 (.slice A1 k k1)).setCell (p := ⟨b2, 2, none⟩) hlo.1 (.slice A2 k k2))
      have rg : Row (((w8.setCell ⟨b2, 0, none⟩ (.slice A0 k k0)).setCell ⟨b2, 1, none⟩ (.slice A1 k k1)).setCell ⟨b2, 2, none⟩ (.slice A2 k k2)) g 5 (u8s bE) := by
        have hgb : g ≠ b2 := by have := HG.out; simp at this; omega
        exact ((HR8.out.far (p := ⟨b2, 0, none⟩) hgb (.slice A0 k k0)).far (p := ⟨b2, 1, none⟩) hgb (.slice A1 k k1)).far (p := ⟨b2, 2, none⟩) hgb (.slice A2 k k2)
      have rd : ∀ (A : Option Addr) (cs : List Nat), (∀ a, A = some a → B ≤ a.block) → Reads wr A (u8s cs) → Reads (((w8.setCell ⟨b2, 0, none⟩ (.slice A0 k k0)).setCell ⟨b2, 1, none⟩ (.slice A1 k k1)).setCell ⟨b2, 2, none⟩ (.slice A2 k k2)) A (u8s cs) := fun A cs hA h => by
        have hne : ∀ a, A = some a → a.block ≠ b2 := fun a e => by have := hA a e; omega
        exact reads_keep (reads_keep (reads_keep (reads_on h HX.out) hne (grown_one _ ⟨b2, 0, none⟩ _)) hne (grown_one _ ⟨b2, 1, none⟩ _)) hne (grown_one _ ⟨b2, 2, none⟩ _)
      have HRD := Lib.hid (⟨rd A0 _ HA.out.1 HR.out.1, rd A1 _ HA.out.2.1 HR.out.2.1, rd A2 _ HA.out.2.2 HR.out.2.2, row_reads rg⟩ : _ ∧ _ ∧ _ ∧ _)
      obtain ⟨s0, s1, s2⟩ := row3 rb2
      have HS := Lib.hid (⟨s0, s1, s2⟩ : _ ∧ _ ∧ _)
      clear rb2 rg rd s0 s1 s2 Hst8 Hst HX HR8 HG HR HA a0 a1 a2 d0 d1 d2 f0 f1 f2 hHeld Hby
      generalize ((w8.setCell ⟨b2, 0, none⟩ (.slice A0 k k0)).setCell ⟨b2, 1, none⟩ (.slice A1 k k1)).setCell ⟨b2, 2, none⟩ (.slice A2 k k2) = w9 at *
      go_wp2
      obtain ⟨s0, s1, s2⟩ := HS.out
      refine bodyPost_ret (v := .tuple #[.agg #[.slice A0 k k0, .slice A1 k k1, .slice A2 k k2], .slice (some ⟨g, 0, none⟩) bE.length bE.length, .bool true]) (by simp [results, Tryz.results15, go_sem, s0, s1, s2]) rfl ⟨?_, HB9.out⟩
      rw [HPst.out]
      show CodesP _ _ l
      unfold CodesP
      rw [if_pos Hall.out, ← Hn.out, HbE.out]
      exact ⟨A0, k0, A1, k1, A2, k2, some ⟨g, 0, none⟩, bE.length, rfl, HK.out.1, HK.out.2.1, HK.out.2.2, HRD.out.1, HRD.out.2.1, HRD.out.2.2.1, HRD.out.2.2.2⟩
end Go.Proofs.YtbdciiiimdbmkaaGreat
