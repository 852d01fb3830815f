/-
  Take of layer 22 (pipe), by its walk: where none came, where the first one was put in by others, where it was sent; on nobody's Pipe. Conditions: as each theorem's premises say.
-/
import Derived.Test.YtckmdeiahpijcaaXs
import Derived.OneCell
import Derived.Deep.DeepCutAuto
namespace Go.Proofs.Ytckmdeiahpijcaa
open Go.RowKit

/-- A byte that is taken. -/
def ppB (x h : Nat) (s : Bool) : Value := .agg #[.int .u8 (x : Int), .int .u64 (h : Int), .bool s]
set_option maxHeartbeats 400000 in
set_option maxRecDepth 100000 in
theorem pptake_nil (w : World) : Calls Try.prog 24 #[.pointer none] w fun e w' => e = .returned (.tuple #[ppB 0 0 false, .bool false]) ∧ Below w.heap.size w w' := by
  have H := Lib.hid (fun W => ppcame_nil W)
  go_enter Try.func24, Try.ntmps24
  go_wp2_with fail
  refine (H.out _).mono ?_
  rintro e w1 ⟨rfl, rfl⟩
  go_wp2
  refine bodyPost_ret (v := .tuple #[.agg #[.int .u8 0, .int .u64 0, .bool false], .bool false]) (by simp [results, Try.results24, go_sem]) rfl ⟨rfl, (Below.refl _ _).alloc (Nat.le_refl _) _⟩
set_option maxHeartbeats 400000 in
set_option maxRecDepth 100000 in
theorem pptake_none (b : Nat) (kf : List Bm.Itm) (m h n : Nat) (w : World) (k : PI w b [] kf m h n) :
    Calls Try.prog 24 #[.pointer (some ⟨b, 0, none⟩)] w fun e w' => e = .returned (.tuple #[ppB 0 0 false, .bool false]) ∧ Below w.heap.size w w' := by
  obtain ⟨f, G, hpw, hon, hle, h1, h2, hlt, hh, hn⟩ := k
  have H := Lib.hid (ppcame_at b 0 (w.alloc (.cells #[.int .u8 0, .int .u64 0, .bool false] 47)) ((World.cell?_alloc_lt _ _ _ hpw.lt).trans hpw.cells.2.1))
  clear hpw hon hle h1 h2 hlt hh hn
  go_enter Try.func24, Try.ntmps24
  go_wp2_with fail
  refine H.out.mono ?_
  rintro e w1 ⟨rfl, rfl⟩
  go_wp2
  refine bodyPost_ret (v := .tuple #[.agg #[.int .u8 0, .int .u64 0, .bool false], .bool false]) (by simp [results, Try.results24, go_sem]) rfl ⟨rfl, (Below.refl _ _).alloc (Nat.le_refl _) _⟩
theorem grown_setN {w w' : World} {row : Option Nat} (h : w.grownBy w' row) {g : Nat} (hg : w.heap.size ≤ g) (i : Nat) (v : Value) : w.grownBy (w'.setCell ⟨g, i, none⟩ v) row :=
  ⟨h.os, h.tape, h.output, by simpa [World.setCell] using h.size, fun k hk hn => (Below.heap_setCell w' ⟨g, i, none⟩ v k (by show k ≠ g; omega)).trans (h.block k hk hn)⟩
/-- The result's three cells, written. -/
theorem ppB_row {w : World} {g x h : Nat} {s : Bool} {cs : List Value} (hr : Row w g 47 cs) (hl : cs.length = 3) :
    Row (((w.setCell ⟨g, 0, none⟩ (.int .u8 (x : Int))).setCell ⟨g, 1, none⟩ (.int .u64 (h : Int))).setCell ⟨g, 2, none⟩ (.bool s)) g 47 [.int .u8 (x : Int), .int .u64 (h : Int), .bool s] := by
  have h1 := ((hr.set_ 0 (.int .u8 (x : Int))).set_ 1 (.int .u64 (h : Int))).set_ 2 (.bool s)
  match cs, hl with
  | [_, _, _], _ => exact h1
set_option maxHeartbeats 1000000 in
set_option maxRecDepth 100000 in
theorem pptake_put (b x : Nat) (kc kf : List Bm.Itm) (m h n : Nat) (w : World) (k : PI w b ((x, false) :: kc) kf m h n) :
    Calls Try.prog 24 #[.pointer (some ⟨b, 0, none⟩)] w fun e w' => e = .returned (.tuple #[ppB x 0 false, .bool true]) ∧ PI w' b kc kf m h n ∧ w.grownBy w' (some b) := by
  obtain ⟨f, G, hpw, hon, hle, h1, h2, hlt, hh, hn⟩ := k
  obtain ⟨k0, k1⟩ := hpw.at 0 (by omega)
  rw [hon 0 _ rfl] at k0 k1
  have hf := hpw.cells.2.2.2.2.2.2.2
  have hbw := hpw.lt
  have Hfin : Hid (∀ W, PW W b (Bm.posR f 2048 1) (fun i => if i < 2047 then G (i + 1) else G 0) kc.length kf.length m h n → PI W b kc kf m h n) := Lib.hid fun W hW => by
    rw [List.length_cons] at hle
    exact ⟨_, _, hW, hon.tail (fun i hi => by
      have hi2 : i < (kc ++ kf).length := hi
      rw [List.length_append] at hi2
      rw [if_pos (by omega)]), by omega, h1, h2, fun y hy => hlt y (List.mem_cons_of_mem _ hy), hh, hn⟩
  have hc1 : ((kc.length + 1 : Nat) : Int) - 1 = (kc.length : Int) := by omega
  have hcz : (((kc.length + 1 : Nat) : Int) == 0) = false := by rw [beq_eq_false_iff_ne]; omega
  have hp1 : ((f : Int) + 1) % 2048 = (Bm.posR f 2048 1 : Int) := by rw [← Bm.mod_posR f 2048 1 hf (by omega)]; simp
  rw [List.length_cons] at hpw hle
  have hcb : kc.length + 1 ≤ 2048 := by omega
  have Hpw := Lib.hid hpw
  clear hpw hon hle h1 h2 hlt hh hn
  have Ha : Hid (∀ W : World, W.heap[b]? = w.heap[b]? → Calls Try.prog 43 #[.pointer (some ⟨b, 0, none⟩), .int .i64 0] W fun e w' => e = .returned (.pointer (some ⟨b, 2 * Bm.posR f 2048 0, none⟩)) ∧ ∃ k, w' = W.drewN k) := Lib.hid fun W hW => ppat_any b f 0 W hf (by omega) (Hpw.out.keep hW).cells.1
  have Hc : Hid (∀ W : World, W.heap[b]? = w.heap[b]? → Calls Try.prog 42 #[.pointer (some ⟨b, 0, none⟩)] W fun e w' => e = .returned (.int .i64 ((kc.length + 1 : Nat) : Int)) ∧ W = w') := Lib.hid fun W hW => ppcame_at b _ W (Hpw.out.keep hW).cells.2.1
  have HN := Lib.hid (fun (W : World) (k : PW W b f G (kc.length + 1) kf.length m h n) => k.next)
  generalize kc.length + 1 = c1 at *
  generalize kc.length = c at *
  generalize Bm.posR f 2048 0 = q at *
  generalize Bm.posR f 2048 1 = f2 at *
  go_enter Try.func24, Try.ntmps24
  go_wp2_with fail
  refine (Hc.out _ (Below.heap_alloc w _ b hbw)).mono ?_
  rintro e w1 ⟨rfl, rfl⟩
  clear Hc
  have HB1 := Lib.hid (show Below w.heap.size w (w.alloc (.cells #[.int .u8 0, .int .u64 0, .bool false] 47)) from (Below.refl _ _).alloc (Nat.le_refl _) _)
  have HR1 := Lib.hid (Row.new w 47 [.int .u8 0, .int .u64 0, .bool false])
  generalize w.alloc (.cells #[.int .u8 0, .int .u64 0, .bool false] 47) = w1 at *
  go_wp2_with fail
  refine (Ha.out _ (HB1.out.block b hbw)).mono ?_
  rintro e w2 ⟨rfl, d1, rfl⟩
  clear Ha
  have HB2 := Lib.hid (show Below w.heap.size w (w1.drewN d1) from ⟨HB1.out.os, HB1.out.tape, HB1.out.output, HB1.out.size, HB1.out.block⟩)
  have HR2 := Lib.hid (show Row (w1.drewN d1) w.heap.size 47 [.int .u8 0, .int .u64 0, .bool false] from HR1.out)
  clear HB1 HR1
  generalize w1.drewN d1 = w2 at *
  have Hp2 := Lib.hid (Hpw.out.keep (HB2.out.block b hbw))
  have j0 := (HB2.out.cell (p := ⟨b, 2 * q, none⟩) hbw).trans k0
  have j1 := (HB2.out.cell (p := ⟨b, 2 * q + 1, none⟩) hbw).trans k1
  clear k0 k1
  go_upto_region 4 with fail
  have Hb2 := Lib.hid (show b < w2.heap.size ∧ w.heap.size < w2.heap.size from ⟨Hp2.out.lt, HR2.out.lt⟩)
  have Hp3 := Lib.hid (show PW (w2.alloc (.cells #[.int .u8 (x : Int), .bool false] 66)) b f G c1 kf.length m h n from Hp2.out.keep (Below.heap_alloc w2 _ b Hb2.out.1))
  have HI3 := Lib.hid (Row.new w2 66 [.int .u8 (x : Int), .bool false])
  have HR3 := Lib.hid (HR2.out.alloc (.cells #[.int .u8 (x : Int), .bool false] 66))
  have HB3 := Lib.hid (HB2.out.alloc HB2.out.size (.cells #[.int .u8 (x : Int), .bool false] 66))
  clear HB2 HR2 Hp2 j0 j1 Hpw
  generalize w2.alloc (.cells #[.int .u8 (x : Int), .bool false] 66) = w3 at *
  generalize w2.heap.size = ib at *
  generalize hrb : w.heap.size = rb at *
  have Hrb := Lib.hid hrb
  clear hrb
  have g1 := Hp3.out.cells.1
  have g2 := (HN.out _ Hp3.out).cells.2.1
  have u1 := Hp3.out.cells.2.2.2.2.2.2.1 4096
  have u2 := (HN.out _ Hp3.out).cells.2.2.2.2.2.2.1 4097
  have Hne := Lib.hid (show b ≠ rb ∧ b ≠ ib ∧ rb ≠ ib from ⟨by omega, by have := Hb2.out.1; omega, by have := Hb2.out.2; omega⟩)
  go_upto_region 6 with fail
  have Hp5 := Lib.hid ((HN.out _ Hp3.out).setC c)
  have HI5 := Lib.hid ((HI3.out.far (p := ⟨b, 4096, none⟩) Hne.out.2.1.symm (.int .i64 (f2 : Int))).far (p := ⟨b, 4097, none⟩) Hne.out.2.1.symm (.int .i64 (c : Int)))
  have HR5 := Lib.hid ((HR3.out.far (p := ⟨b, 4096, none⟩) Hne.out.1.symm (.int .i64 (f2 : Int))).far (p := ⟨b, 4097, none⟩) Hne.out.1.symm (.int .i64 (c : Int)))
  have HG5 := Lib.hid (grown_set (grown_set (grown_below (by rw [Hrb.out]; exact HB3.out) (some b)) 4096 (.int .i64 (f2 : Int))) 4097 (.int .i64 (c : Int)))
  clear Hp3 HI3 HR3 HB3 g1 g2 u1 u2
  generalize (w3.setCell ⟨b, 4096, none⟩ (.int .i64 (f2 : Int))).setCell ⟨b, 4097, none⟩ (.int .i64 (c : Int)) = w5 at *
  have i0 := HI5.out.cell 0
  have i1 := HI5.out.cell 1
  simp only [List.getElem?_cons_zero, List.getElem?_cons_succ] at i0 i1
  have r0 := HR5.out.cell 0
  have r1 := HR5.out.cell 1
  have r2 := HR5.out.cell 2
  simp only [List.getElem?_cons_zero, List.getElem?_cons_succ] at r0 r1 r2
  have v0 := HR5.out.free 0
  have v1 := HR5.out.free 1
  have v2 := HR5.out.free 2
  have Hr6 := Lib.hid (show Row (((w5.setCell ⟨rb, 0, none⟩ (.int .u8 (x : Int))).setCell ⟨rb, 1, none⟩ (.int .u64 0)).setCell ⟨rb, 2, none⟩ (.bool false)) rb 47 [.int .u8 (x : Int), .int .u64 0, .bool false] from ppB_row (x := x) (h := 0) (s := false) HR5.out rfl)
  have Hp6 := Lib.hid (((Hp5.out.keep (Below.heap_setCell w5 ⟨rb, 0, none⟩ (.int .u8 (x : Int)) b Hne.out.1)).keep (Below.heap_setCell _ ⟨rb, 1, none⟩ (.int .u64 ((0 : Nat) : Int)) b Hne.out.1)).keep (Below.heap_setCell _ ⟨rb, 2, none⟩ (.bool false) b Hne.out.1))
  have HG6 := Lib.hid (grown_setN (grown_setN (grown_setN HG5.out (Nat.le_of_eq Hrb.out) 0 (.int .u8 (x : Int))) (Nat.le_of_eq Hrb.out) 1 (.int .u64 ((0 : Nat) : Int))) (Nat.le_of_eq Hrb.out) 2 (.bool false))
  clear HG5 Hp5
  have s0 := Hr6.out.cell 0
  have s1 := Hr6.out.cell 1
  have s2 := Hr6.out.cell 2
  simp only [List.getElem?_cons_zero, List.getElem?_cons_succ] at s0 s1 s2
  have S0 := Lib.hid s0
  have S1 := Lib.hid s1
  have S2 := Lib.hid s2
  clear s0 s1 s2
  go_wp2
  have s0 := S0.out
  have s1 := S1.out
  have s2 := S2.out
  refine bodyPost_ret (v := .tuple #[.agg #[.int .u8 (x : Int), .int .u64 0, .bool false], .bool true]) (by simp [results, Try.results24, go_sem, s0, s1, s2]) rfl ⟨rfl, Hfin.out _ Hp6.out, HG6.out⟩
set_option maxHeartbeats 1000000 in
set_option maxRecDepth 100000 in
theorem pptake_sentL (b x : Nat) (kc kf : List Bm.Itm) (m h n h3 n2 sl : Nat) (w : World) (hh3 : h3 < 18446744073709551616) (hnn : n2 < 1000000000000)
    (hby : ∀ W : World, Calls Try.prog 44 #[.agg #[.int .u64 (h : Int), .int .u64 (n : Int)], .int .u8 (x : Int)] W fun e w' => e = .returned (.agg #[.int .u64 (h3 : Int), .int .u64 (n2 : Int)]) ∧ Below W.heap.size W w')
    (hsm : ∀ W : World, Calls Try.prog 38 #[.agg #[.int .u64 (h3 : Int), .int .u64 (n2 : Int)]] W fun e w' => e = .returned (.int .u64 (sl : Int)) ∧ Below W.heap.size W w')
    (k : PI w b ((x, true) :: kc) kf m h n) :
    Calls Try.prog 24 #[.pointer (some ⟨b, 0, none⟩)] w fun e w' => e = .returned (.tuple #[ppB x sl true, .bool true]) ∧ PI w' b kc kf m h3 n2 ∧ w.grownBy w' (some b) := by
  obtain ⟨f, G, hpw, hon, hle, h1, h2, hlt, hh, hn⟩ := k
  obtain ⟨k0, k1⟩ := hpw.at 0 (by omega)
  rw [hon 0 _ rfl] at k0 k1
  have hf := hpw.cells.2.2.2.2.2.2.2
  have hbw := hpw.lt
  have Hfin : Hid (∀ W, PW W b (Bm.posR f 2048 1) (fun i => if i < 2047 then G (i + 1) else G 0) kc.length kf.length m h3 n2 → PI W b kc kf m h3 n2) := Lib.hid fun W hW => by
    rw [List.length_cons] at hle
    exact ⟨_, _, hW, hon.tail (fun i hi => by
      have hi2 : i < (kc ++ kf).length := hi
      rw [List.length_append] at hi2
      rw [if_pos (by omega)]), by omega, h1, h2, fun y hy => hlt y (List.mem_cons_of_mem _ hy), hh3, hnn⟩
  have hc1 : ((kc.length + 1 : Nat) : Int) - 1 = (kc.length : Int) := by omega
  have hcz : (((kc.length + 1 : Nat) : Int) == 0) = false := by rw [beq_eq_false_iff_ne]; omega
  have hp1 : ((f : Int) + 1) % 2048 = (Bm.posR f 2048 1 : Int) := by rw [← Bm.mod_posR f 2048 1 hf (by omega)]; simp
  rw [List.length_cons] at hpw hle
  have hcb : kc.length + 1 ≤ 2048 := by omega
  have Hpw := Lib.hid hpw
  have Hby := Lib.hid hby
  have Hsm := Lib.hid hsm
  clear hpw hon hle h1 h2 hlt hh hn hnn hh3 hby hsm
  have Ha : Hid (∀ W : World, W.heap[b]? = w.heap[b]? → Calls Try.prog 43 #[.pointer (some ⟨b, 0, none⟩), .int .i64 0] W fun e w' => e = .returned (.pointer (some ⟨b, 2 * Bm.posR f 2048 0, none⟩)) ∧ ∃ k, w' = W.drewN k) := Lib.hid fun W hW => ppat_any b f 0 W hf (by omega) (Hpw.out.keep hW).cells.1
  have Hc : Hid (∀ W : World, W.heap[b]? = w.heap[b]? → Calls Try.prog 42 #[.pointer (some ⟨b, 0, none⟩)] W fun e w' => e = .returned (.int .i64 ((kc.length + 1 : Nat) : Int)) ∧ W = w') := Lib.hid fun W hW => ppcame_at b _ W (Hpw.out.keep hW).cells.2.1
  have HN := Lib.hid (fun (W : World) (k : PW W b f G (kc.length + 1) kf.length m h n) => k.next)
  generalize kc.length + 1 = c1 at *
  generalize kc.length = c at *
  generalize Bm.posR f 2048 0 = q at *
  generalize Bm.posR f 2048 1 = f2 at *
  go_enter Try.func24, Try.ntmps24
  go_wp2_with fail
  refine (Hc.out _ (Below.heap_alloc w _ b hbw)).mono ?_
  rintro e w1 ⟨rfl, rfl⟩
  clear Hc
  have HB1 := Lib.hid (show Below w.heap.size w (w.alloc (.cells #[.int .u8 0, .int .u64 0, .bool false] 47)) from (Below.refl _ _).alloc (Nat.le_refl _) _)
  have HR1 := Lib.hid (Row.new w 47 [.int .u8 0, .int .u64 0, .bool false])
  generalize w.alloc (.cells #[.int .u8 0, .int .u64 0, .bool false] 47) = w1 at *
  go_wp2_with fail
  refine (Ha.out _ (HB1.out.block b hbw)).mono ?_
  rintro e w2 ⟨rfl, d1, rfl⟩
  clear Ha
  have HB2 := Lib.hid (show Below w.heap.size w (w1.drewN d1) from ⟨HB1.out.os, HB1.out.tape, HB1.out.output, HB1.out.size, HB1.out.block⟩)
  have HR2 := Lib.hid (show Row (w1.drewN d1) w.heap.size 47 [.int .u8 0, .int .u64 0, .bool false] from HR1.out)
  clear HB1 HR1
  generalize w1.drewN d1 = w2 at *
  have Hp2 := Lib.hid (Hpw.out.keep (HB2.out.block b hbw))
  have j0 := (HB2.out.cell (p := ⟨b, 2 * q, none⟩) hbw).trans k0
  have j1 := (HB2.out.cell (p := ⟨b, 2 * q + 1, none⟩) hbw).trans k1
  clear k0 k1
  go_upto_region 4 with fail
  have Hb2 := Lib.hid (show b < w2.heap.size ∧ w.heap.size < w2.heap.size from ⟨Hp2.out.lt, HR2.out.lt⟩)
  have Hp3 := Lib.hid (show PW (w2.alloc (.cells #[.int .u8 (x : Int), .bool true] 66)) b f G c1 kf.length m h n from Hp2.out.keep (Below.heap_alloc w2 _ b Hb2.out.1))
  have HI3 := Lib.hid (Row.new w2 66 [.int .u8 (x : Int), .bool true])
  have HR3 := Lib.hid (HR2.out.alloc (.cells #[.int .u8 (x : Int), .bool true] 66))
  have HB3 := Lib.hid (HB2.out.alloc HB2.out.size (.cells #[.int .u8 (x : Int), .bool true] 66))
  clear HB2 HR2 Hp2 j0 j1 Hpw
  generalize w2.alloc (.cells #[.int .u8 (x : Int), .bool true] 66) = w3 at *
  generalize w2.heap.size = ib at *
  generalize hrb : w.heap.size = rb at *
  have Hrb := Lib.hid hrb
  clear hrb
  have g1 := Hp3.out.cells.1
  have g2 := (HN.out _ Hp3.out).cells.2.1
  have u1 := Hp3.out.cells.2.2.2.2.2.2.1 4096
  have u2 := (HN.out _ Hp3.out).cells.2.2.2.2.2.2.1 4097
  have Hne := Lib.hid (show b ≠ rb ∧ b ≠ ib ∧ rb ≠ ib from ⟨by omega, by have := Hb2.out.1; omega, by have := Hb2.out.2; omega⟩)
  go_upto_region 6 with fail
  have Hp5 := Lib.hid ((HN.out _ Hp3.out).setC c)
  have HI5 := Lib.hid ((HI3.out.far (p := ⟨b, 4096, none⟩) Hne.out.2.1.symm (.int .i64 (f2 : Int))).far (p := ⟨b, 4097, none⟩) Hne.out.2.1.symm (.int .i64 (c : Int)))
  have HR5 := Lib.hid ((HR3.out.far (p := ⟨b, 4096, none⟩) Hne.out.1.symm (.int .i64 (f2 : Int))).far (p := ⟨b, 4097, none⟩) Hne.out.1.symm (.int .i64 (c : Int)))
  have HG5 := Lib.hid (grown_set (grown_set (grown_below (by rw [Hrb.out]; exact HB3.out) (some b)) 4096 (.int .i64 (f2 : Int))) 4097 (.int .i64 (c : Int)))
  clear Hp3 HI3 HR3 HB3 g1 g2 u1 u2
  generalize (w3.setCell ⟨b, 4096, none⟩ (.int .i64 (f2 : Int))).setCell ⟨b, 4097, none⟩ (.int .i64 (c : Int)) = w5 at *
  have i0 := HI5.out.cell 0
  have i1 := HI5.out.cell 1
  simp only [List.getElem?_cons_zero, List.getElem?_cons_succ] at i0 i1
  have a4 := Hp5.out.cells.2.2.2.2.1
  have a5 := Hp5.out.cells.2.2.2.2.2.1
  have y4 := Hp5.out.cells.2.2.2.2.2.2.1 4100
  have y5 := Hp5.out.cells.2.2.2.2.2.2.1 4101
  go_wp2_with fail
  refine wp_region_held_drew (S := (fun W : World => W.cell? ⟨ib, 0, none⟩ = some (.int .u8 (x : Int)))) (by kernel_rfl) (by exact i0) (fun hHeld => ?_)
  refine wpAnyH_take (i := 0) (oi := { dst := some 35, op := Go.Op.move (Go.Operand.tmp 0), type := 25, pos := "pipe.go:81", after := #[], guard := none }) (v := ?_) rfl (by kernel_rfl) (by kernel_rfl) (by kernel_rfl) (fun _ _ _ h => h) (Or.inl ⟨by rfl, ?_⟩) (by assumption) ?_
  rotate_left
  · (intro w hSw; (try dsimp only at hSw); go_simp; (try with_reducible rfl))
  try simp only [Act.put, List.setIfInBounds_toArray, List.set_cons_zero, List.set_cons_succ]
  refine wpAnyH_take (i := 1) (oi := { dst := some 36, op := Go.Op.move (Go.Operand.tmp 0), type := 25, pos := "pipe.go:81", after := #[], guard := none }) (v := ?_) rfl (by kernel_rfl) (by kernel_rfl) (by kernel_rfl) (fun _ _ _ h => h) (Or.inl ⟨by rfl, ?_⟩) (by assumption) ?_
  rotate_left
  · (intro w hSw; (try dsimp only at hSw); go_simp; (try with_reducible rfl))
  try simp only [Act.put, List.setIfInBounds_toArray, List.set_cons_zero, List.set_cons_succ]
  refine wpAnyH_take (i := 2) (oi := { dst := some 37, op := Go.Op.nilCheck (Go.Operand.tmp 36), type := 0, pos := "pipe.go:81", after := #[{ on := 1, ground := Go.Ground.data }], guard := none }) (v := ?_) rfl (by kernel_rfl) (by kernel_rfl) (by kernel_rfl) (fun _ _ _ h => h) (Or.inl ⟨by rfl, ?_⟩) (by assumption) ?_
  rotate_left
  · (intro w hSw; (try dsimp only at hSw); go_simp; (try with_reducible rfl))
  try simp only [Act.put, List.setIfInBounds_toArray, List.set_cons_zero, List.set_cons_succ]
  refine wpAnyH_take (i := 3) (oi := { dst := some 38, op := Go.Op.fieldAddr 69 (Go.Operand.tmp 37) 5, type := 0, pos := "pipe.go:81", after := #[{ on := 2, ground := Go.Ground.data }], guard := none }) (v := ?_) rfl (by kernel_rfl) (by kernel_rfl) (by kernel_rfl) (fun _ _ _ h => h) (Or.inl ⟨by rfl, ?_⟩) (by assumption) ?_
  rotate_left
  · (intro w hSw; (try dsimp only at hSw); go_simp; (try with_reducible rfl))
  try simp only [Act.put, List.setIfInBounds_toArray, List.set_cons_zero, List.set_cons_succ]
  refine wpAnyH_take (i := 5) (oi := { dst := some 40, op := Go.Op.fieldAddr 66 (Go.Operand.tmp 4) 0, type := 0, pos := "pipe.go:81", after := #[], guard := none }) (v := ?_) rfl (by kernel_rfl) (by kernel_rfl) (by kernel_rfl) (fun _ _ _ h => h) (Or.inl ⟨by rfl, ?_⟩) (by assumption) ?_
  rotate_left
  · (intro w hSw; (try dsimp only at hSw); go_simp; (try with_reducible rfl))
  try simp only [Act.put, List.setIfInBounds_toArray, List.set_cons_zero, List.set_cons_succ]
  refine wpAnyH_take (i := 6) (oi := { dst := some 41, op := Go.Op.load 5 (Go.Operand.tmp 40), type := 5, pos := "pipe.go:81", after := #[{ on := 5, ground := Go.Ground.data }], guard := none }) (v := ?_) rfl (by kernel_rfl) (by kernel_rfl) (by kernel_rfl) (fun _ _ _ h => h) (Or.inl ⟨by rfl, ?_⟩) (by assumption) ?_
  rotate_left
  · (intro w hSw; (try dsimp only at hSw); go_simp; (try with_reducible rfl))
  try simp only [Act.put, List.setIfInBounds_toArray, List.set_cons_zero, List.set_cons_succ]
  refine wpAnyH_ready (rs := [4]) (by kernel_rfl) (by simp) ?_
  refine AllReadyH.cons (o := { dst := some 39, op := Go.Op.load 63 (Go.Operand.tmp 38), type := 63, pos := "pipe.go:81", after := #[{ on := 3, ground := Go.Ground.data }], guard := none }) rfl (fun K hK => ?_) AllReadyH.nil
  go_simp
  refine hK.out _ _ (by exact i0) (fun hHeld => ?_)
  clear hK K
  try simp only [Act.put, List.setIfInBounds_toArray, List.set_cons_zero, List.set_cons_succ]
  refine wpAnyH_ready (rs := [7]) (by kernel_rfl) (by simp) ?_
  refine AllReadyH.cons (o := { dst := some 42, op := Go.Op.call { callee := Go.Callee.value (Go.Operand.func 44), args := #[Go.Operand.tmp 39, Go.Operand.tmp 41], argTypes := #[63, 5] }, type := 63, pos := "pipe.go:81", after := #[{ on := 4, ground := Go.Ground.data }, { on := 6, ground := Go.Ground.data }], guard := none }) rfl (fun K hK => ?_) AllReadyH.nil
  go_simp
  (go_at_call 44; refine (Hby.out w5.drew).mono ?_; rintro e w6 ⟨rfl, hb6⟩; have i6 : w6.cell? ⟨ib, 0, none⟩ = some (.int .u8 (x : Int)) := (hb6.cell (p := ⟨ib, 0, none⟩) HI5.out.lt).trans i0; have Hp6 := Lib.hid (Hp5.out.keep (hb6.block b Hp5.out.lt)); have HI6 := Lib.hid (HI5.out.keep (hb6.block ib HI5.out.lt)); have HR6 := Lib.hid (HR5.out.keep (hb6.block rb HR5.out.lt)); have HG6 := Lib.hid (HG5.out.trans (show w5.grownBy w6 (some b) from ⟨hb6.os, hb6.tape, hb6.output, hb6.size, fun k hk _ => hb6.block k hk⟩)); clear hb6 a4 a5 y4 y5; have a4 := Hp6.out.cells.2.2.2.2.1; have a5 := Hp6.out.cells.2.2.2.2.2.1; have y4 := Hp6.out.cells.2.2.2.2.2.2.1 4100; have y5 := Hp6.out.cells.2.2.2.2.2.2.1 4101)
  go_simp
  refine hK.out _ _ (by exact i6) (fun hHeld => ?_)
  clear hK K
  try simp only [Act.put, List.setIfInBounds_toArray, List.set_cons_zero, List.set_cons_succ]
  refine wpAnyH_take (i := 8) (oi := { dst := some 43, op := Go.Op.nilCheck (Go.Operand.tmp 35), type := 0, pos := "pipe.go:81", after := #[{ on := 0, ground := Go.Ground.data }, { on := 0, ground := Go.Ground.phase }, { on := 1, ground := Go.Ground.phase }, { on := 2, ground := Go.Ground.phase }, { on := 3, ground := Go.Ground.phase }, { on := 4, ground := Go.Ground.phase }, { on := 5, ground := Go.Ground.phase }, { on := 6, ground := Go.Ground.phase }, { on := 7, ground := Go.Ground.phase }], guard := none }) (v := ?_) rfl (by kernel_rfl) (by kernel_rfl) (by kernel_rfl) (fun _ _ _ h => h) (Or.inl ⟨by rfl, ?_⟩) (by assumption) ?_
  rotate_left
  · (intro w hSw; (try dsimp only at hSw); go_simp; (try with_reducible rfl))
  try simp only [Act.put, List.setIfInBounds_toArray, List.set_cons_zero, List.set_cons_succ]
  refine wpAnyH_take (i := 9) (oi := { dst := some 44, op := Go.Op.fieldAddr 69 (Go.Operand.tmp 43) 5, type := 0, pos := "pipe.go:81", after := #[{ on := 8, ground := Go.Ground.data }, { on := 0, ground := Go.Ground.phase }, { on := 1, ground := Go.Ground.phase }, { on := 2, ground := Go.Ground.phase }, { on := 3, ground := Go.Ground.phase }, { on := 4, ground := Go.Ground.phase }, { on := 5, ground := Go.Ground.phase }, { on := 6, ground := Go.Ground.phase }, { on := 7, ground := Go.Ground.phase }], guard := none }) (v := ?_) rfl (by kernel_rfl) (by kernel_rfl) (by kernel_rfl) (fun _ _ _ h => h) (Or.inl ⟨by rfl, ?_⟩) (by assumption) ?_
  rotate_left
  · (intro w hSw; (try dsimp only at hSw); go_simp; (try with_reducible rfl))
  try simp only [Act.put, List.setIfInBounds_toArray, List.set_cons_zero, List.set_cons_succ]
  refine wpAnyH_ready (rs := [10]) (by kernel_rfl) (by simp) ?_
  refine AllReadyH.cons (o := { dst := none, op := Go.Op.store 63 (Go.Operand.tmp 44) (Go.Operand.tmp 42), type := 0, pos := "pipe.go:81", after := #[{ on := 9, ground := Go.Ground.data }, { on := 7, ground := Go.Ground.data }, { on := 7, ground := Go.Ground.chain }, { on := 0, ground := Go.Ground.phase }, { on := 1, ground := Go.Ground.phase }, { on := 2, ground := Go.Ground.phase }, { on := 3, ground := Go.Ground.phase }, { on := 4, ground := Go.Ground.phase }, { on := 5, ground := Go.Ground.phase }, { on := 6, ground := Go.Ground.phase }, { on := 7, ground := Go.Ground.phase }], guard := none }) rfl (fun K hK => ?_) AllReadyH.nil
  go_simp
  refine hK.out _ _ (by exact (((HI6.out.far (p := ⟨b, 4100, none⟩) Hne.out.2.1.symm (.int .u64 (h3 : Int))).far (p := ⟨b, 4101, none⟩) Hne.out.2.1.symm (.int .u64 (n2 : Int))).cell 0)) (fun hHeld => ?_)
  clear hK K
  try simp only [Act.put, List.setIfInBounds_toArray, List.set_cons_zero, List.set_cons_succ]
  refine wpAnyH_done (by kernel_rfl) ?_ _
  have Hp7 := Lib.hid (Hp6.out.setS h3 n2)
  have HI7 := Lib.hid ((HI6.out.far (p := ⟨b, 4100, none⟩) Hne.out.2.1.symm (.int .u64 (h3 : Int))).far (p := ⟨b, 4101, none⟩) Hne.out.2.1.symm (.int .u64 (n2 : Int)))
  have HR7 := Lib.hid ((HR6.out.far (p := ⟨b, 4100, none⟩) Hne.out.1.symm (.int .u64 (h3 : Int))).far (p := ⟨b, 4101, none⟩) Hne.out.1.symm (.int .u64 (n2 : Int)))
  have HG7 := Lib.hid (grown_set (grown_set HG6.out 4100 (.int .u64 (h3 : Int))) 4101 (.int .u64 (n2 : Int)))
  clear i6 a4 a5 y4 y5 hHeld Hp6 HI6 HR6 HG6 Hby i0 i1 Hp5 HI5 HR5 HG5
  generalize (w6.setCell ⟨b, 4100, none⟩ (.int .u64 (h3 : Int))).setCell ⟨b, 4101, none⟩ (.int .u64 (n2 : Int)) = w7 at *
  have a4 := Hp7.out.cells.2.2.2.2.1
  have a5 := Hp7.out.cells.2.2.2.2.2.1
  have i0 := HI7.out.cell 0
  have r0 := HR7.out.cell 0
  have r1 := HR7.out.cell 1
  have r2 := HR7.out.cell 2
  have v0 := HR7.out.free 0
  have v1 := HR7.out.free 1
  have v2 := HR7.out.free 2
  simp only [List.getElem?_cons_zero, List.getElem?_cons_succ] at i0 r0 r1 r2
  have Hfw : Hid (∀ W, Below w7.heap.size w7 W → ∀ (y u : Value) (t : Value) (g i : Nat), g ≠ rb → g < w7.heap.size → (((W.setCell ⟨rb, 0, none⟩ y).setCell ⟨rb, 1, none⟩ u).setCell ⟨rb, 2, none⟩ t).cell? ⟨g, i, none⟩ = w7.cell? ⟨g, i, none⟩) := Lib.hid fun W hW y u t g i hg hl => by
    refine Eq.trans (World.cell?_of_block ?_) (hW.cell (p := ⟨g, i, none⟩) hl)
    exact ((Below.heap_setCell _ ⟨rb, 2, none⟩ t g hg).trans (Below.heap_setCell _ ⟨rb, 1, none⟩ u g hg)).trans (Below.heap_setCell _ ⟨rb, 0, none⟩ y g hg)
  have Hbl := Lib.hid (show b < w7.heap.size ∧ ib < w7.heap.size from ⟨Hp7.out.lt, HI7.out.lt⟩)
  have Hi0 := Lib.hid i0
  have Ha4 := Lib.hid a4
  have Ha5 := Lib.hid a5
  go_wp2_with fail
  go_region_held3 (fun W : World => W.cell? ⟨ib, 0, none⟩ = some (.int .u8 (x : Int)) ∧ W.cell? ⟨b, 4100, none⟩ = some (.int .u64 (h3 : Int)) ∧ W.cell? ⟨b, 4101, none⟩ = some (.int .u64 (n2 : Int))) (first | exact ⟨i0, a4, a5⟩ | exact ⟨(hb8.cell (p := ⟨ib, 0, none⟩) Hbl.out.2).trans i0, (hb8.cell (p := ⟨b, 4100, none⟩) Hbl.out.1).trans a4, (hb8.cell (p := ⟨b, 4101, none⟩) Hbl.out.1).trans a5⟩ | exact ⟨(Hfw.out _ HB8.out _ _ _ ib 0 Hne.out.2.2.symm Hbl.out.2).trans Hi0.out, (Hfw.out _ HB8.out _ _ _ b 4100 Hne.out.1 Hbl.out.1).trans Ha4.out, (Hfw.out _ HB8.out _ _ _ b 4101 Hne.out.1 Hbl.out.1).trans Ha5.out⟩) ((go_at_call 38; refine (Hsm.out w7.drew).mono ?_; rintro e w8 ⟨rfl, hb8⟩; have HB8 := Lib.hid (show Below w7.heap.size w7 w8 from ⟨hb8.os, hb8.tape, hb8.output, hb8.size, hb8.block⟩); have HR8 := Lib.hid (HR7.out.keep (HB8.out.block rb HR7.out.lt)); have z0 := HR8.out.cell 0; have z1 := HR8.out.cell 1; have z2 := HR8.out.cell 2; have z3 := HR8.out.free 0; have z4 := HR8.out.free 1; have z5 := HR8.out.free 2; simp only [List.getElem?_cons_zero, List.getElem?_cons_succ] at z0 z1 z2))
  all_goals
    have Hr9 := Lib.hid (ppB_row (x := x) (h := sl) (s := true) HR8.out rfl)
    have Hp8 := Hp7.out.keep (HB8.out.block b Hbl.out.1)
    have Hp9 := Lib.hid (((Hp8.keep (Below.heap_setCell w8 ⟨rb, 0, none⟩ (.int .u8 (x : Int)) b Hne.out.1)).keep (Below.heap_setCell _ ⟨rb, 1, none⟩ (.int .u64 (sl : Int)) b Hne.out.1)).keep (Below.heap_setCell _ ⟨rb, 2, none⟩ (.bool true) b Hne.out.1))
    have HG8 := HG7.out.trans (grown_below HB8.out (some b))
    have HG9 := Lib.hid (grown_setN (grown_setN (grown_setN HG8 (Nat.le_of_eq Hrb.out) 0 (.int .u8 (x : Int))) (Nat.le_of_eq Hrb.out) 1 (.int .u64 (sl : Int))) (Nat.le_of_eq Hrb.out) 2 (.bool true))
    have s0 := Hr9.out.cell 0
    have s1 := Hr9.out.cell 1
    have s2 := Hr9.out.cell 2
    simp only [List.getElem?_cons_zero, List.getElem?_cons_succ] at s0 s1 s2
    have S0 := Lib.hid s0
    have S1 := Lib.hid s1
    have S2 := Lib.hid s2
    clear s0 s1 s2 Hp8 HG8 HG7 Hp7 z0 z1 z2 z3 z4 z5 i0 a4 a5 r0 r1 r2 v0 v1 v2 Hi0 Ha4 Ha5
    go_wp2
    have s0 := S0.out
    have s1 := S1.out
    have s2 := S2.out
    refine bodyPost_ret (v := .tuple #[.agg #[.int .u8 (x : Int), .int .u64 (sl : Int), .bool true], .bool true]) (by simp [results, Try.results24, go_sem, s0, s1, s2]) rfl ⟨rfl, Hfin.out _ Hp9.out, HG9.out⟩
theorem pptake_sent (b x : Nat) (kc kf : List Bm.Itm) (m h n : Nat) (w : World) (hnn : n + 1 < 1000000000000) (k : PI w b ((x, true) :: kc) kf m h n) :
    Calls Try.prog 24 #[.pointer (some ⟨b, 0, none⟩)] w fun e w' => e = .returned (.tuple #[ppB x (Bm.sumH (Bm.stepH h x) (n + 1)) true, .bool true]) ∧ PI w' b kc kf m (Bm.stepH h x) (n + 1) ∧ w.grownBy w' (some b) := by
  have hk := k
  obtain ⟨f, G, hpw, hon, hle, h1, h2, hlt, hh, hn⟩ := hk
  refine pptake_sentL b x kc kf m h n _ _ _ w (Bm.stepH_lt h x) hnn (fun W => ?_) (fun W => ssum_any _ _ W) k
  have h5 := sbyte_any h n x W hh (hlt (x, true) (List.mem_cons_self ..))
  rw [Nat.mod_eq_of_lt (by omega)] at h5
  exact h5
end Go.Proofs.Ytckmdeiahpijcaa
