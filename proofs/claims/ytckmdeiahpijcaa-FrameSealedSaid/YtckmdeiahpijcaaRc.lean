/-
  A Cutter of layer 24 (frame) in memory: the bytes that are no frame yet, what is counted, the state of the sum, the error; New, Count, Err, by their walks. Conditions: as each theorem's premises say.
-/
import Derived.Test.YtckmdeiahpijcaaXv
import Derived.Test.YtckmdeiahpijcaaSa
import Derived.OneCell
import Derived.Deep.DeepCutAuto
import Derived.Deep.RegionHeld3
import Derived.RegionTactic
namespace Go.Proofs.Ytckmdeiahpijcaa
open Go.RowKit

/-- A new Cutter's cells. -/
def cuZ (h : Int) : List Value := List.replicate 911 (.int .u8 0) ++ [.int .i64 0, .int .i64 0, .int .u64 h, .int .u64 0, .int .i64 0, .int .i64 0]
set_option maxRecDepth 100000 in
theorem cuzero (W : World) : (zeroValue 72).run Try.prog W = .ok (.agg (cuZ 0).toArray) W := by kernel_rfl
theorem cuzero_size (h : Int) : (cuZ h).length = 917 := by rw [cuZ, List.length_append, List.length_replicate]; rfl
theorem cuzero_at (h : Int) (j : Nat) : (cuZ h)[911 + j]? = [Value.int .i64 0, .int .i64 0, .int .u64 h, .int .u64 0, .int .i64 0, .int .i64 0][j]? := by
  rw [cuZ, List.getElem?_append_right (by rw [List.length_replicate]; omega), List.length_replicate, show 911 + j - 911 = j by omega]
theorem cuzero_set (h : Int) : ((cuZ 0).toArray.setIfInBounds 913 (.int .u64 h)).setIfInBounds 914 (.int .u64 0) = (cuZ h).toArray := by
  rw [List.setIfInBounds_toArray, List.setIfInBounds_toArray, cuZ, List.set_append_right _ _ (by rw [List.length_replicate]; decide), List.set_append_right _ _ (by rw [List.length_replicate]; decide), List.length_replicate]
  rfl
theorem cuzero_ne : ¬ (cuZ 0).toArray = #[] := fun h => by
  have h1 := congrArg Array.size h
  rw [List.size_toArray, cuzero_size] at h1
  cases h1

/-- The cells of a Cutter: the bytes of the frame that isn't whole, the size that they tell, the sum's state, how many were fed, the error. -/
structure CuC (C : List Value) (rest : List Nat) (sz h n cnt e : Nat) : Prop where
  size : C.length = 917
  le : rest.length ≤ 911
  by_ : ∀ i (hi : i < rest.length), C[i]? = some (.int .u8 (rest[i] : Int))
  cl : C[911]? = some (.int .i64 (rest.length : Int))
  cs : C[912]? = some (.int .i64 (sz : Int))
  ch : C[913]? = some (.int .u64 (h : Int))
  cn : C[914]? = some (.int .u64 (n : Int))
  cc : C[915]? = some (.int .i64 (cnt : Int))
  ce : C[916]? = some (.int .i64 (e : Int))
theorem CuC.new (h : Nat) : CuC (cuZ (h : Int)) [] 0 h 0 0 0 :=
  ⟨cuzero_size _, by decide, (fun i hi => absurd hi (Nat.not_lt_zero i)), cuzero_at _ 0, cuzero_at _ 1, cuzero_at _ 2, cuzero_at _ 3, cuzero_at _ 4, cuzero_at _ 5⟩
theorem cget_ne {α : Type} (l : List α) (i j : Nat) (x : α) (h : i ≠ j) : (l.set i x)[j]? = l[j]? := List.getElem?_set_ne h
theorem cget_eq {α : Type} (l : List α) (i : Nat) (x : α) (h : i < l.length) : (l.set i x)[i]? = some x := List.getElem?_set_self h
section
variable {C : List Value} {rest : List Nat} {sz h n cnt e : Nat}
theorem CuC.push (k : CuC C rest sz h n cnt e) (x : Nat) (hl : rest.length < 911) : CuC ((C.set rest.length (.int .u8 (x : Int))).set 911 (.int .i64 ((rest ++ [x]).length : Int))) (rest ++ [x]) sz h n cnt e := by
  have hs := k.size
  have hl1 : (rest ++ [x]).length = rest.length + 1 := by rw [List.length_append, List.length_singleton]
  refine ⟨by rw [List.length_set, List.length_set, hs], by omega, fun i hi => ?_, ?_, ?_, ?_, ?_, ?_, ?_⟩
  · rw [cget_ne _ _ _ _ (by omega)]
    rcases Nat.lt_or_ge i rest.length with h1 | h1
    · rw [cget_ne _ _ _ _ (by omega), k.by_ i h1, List.getElem_append_left h1]
    · obtain rfl : i = rest.length := by omega
      rw [cget_eq _ _ _ (by omega), List.getElem_append_right (Nat.le_refl _)]
      simp
  · rw [cget_eq _ _ _ (by rw [List.length_set]; omega)]
  · rw [cget_ne _ _ _ _ (by omega), cget_ne _ _ _ _ (by omega)]; exact k.cs
  · rw [cget_ne _ _ _ _ (by omega), cget_ne _ _ _ _ (by omega)]; exact k.ch
  · rw [cget_ne _ _ _ _ (by omega), cget_ne _ _ _ _ (by omega)]; exact k.cn
  · rw [cget_ne _ _ _ _ (by omega), cget_ne _ _ _ _ (by omega)]; exact k.cc
  · rw [cget_ne _ _ _ _ (by omega), cget_ne _ _ _ _ (by omega)]; exact k.ce
theorem CuC.bytes (k : CuC C rest sz h n cnt e) (j : Nat) (u : Value) (hj : 911 ≤ j) : ∀ i (hi : i < rest.length), (C.set j u)[i]? = some (.int .u8 (rest[i] : Int)) := fun i hi => by
  have := k.le
  rw [cget_ne _ _ _ _ (by omega)]
  exact k.by_ i hi
theorem CuC.setC (k : CuC C rest sz h n cnt e) (c' : Nat) : CuC (C.set 915 (.int .i64 (c' : Int))) rest sz h n c' e := by
  have hs := k.size
  refine ⟨by rw [List.length_set, hs], k.le, k.bytes _ _ (by decide), ?_, ?_, ?_, ?_, ?_, ?_⟩
  · rw [cget_ne _ _ _ _ (by omega)]; exact k.cl
  · rw [cget_ne _ _ _ _ (by omega)]; exact k.cs
  · rw [cget_ne _ _ _ _ (by omega)]; exact k.ch
  · rw [cget_ne _ _ _ _ (by omega)]; exact k.cn
  · rw [cget_eq _ _ _ (by omega)]
  · rw [cget_ne _ _ _ _ (by omega)]; exact k.ce
theorem CuC.setE (k : CuC C rest sz h n cnt e) (e' : Nat) : CuC (C.set 916 (.int .i64 (e' : Int))) rest sz h n cnt e' := by
  have hs := k.size
  refine ⟨by rw [List.length_set, hs], k.le, k.bytes _ _ (by decide), ?_, ?_, ?_, ?_, ?_, ?_⟩
  · rw [cget_ne _ _ _ _ (by omega)]; exact k.cl
  · rw [cget_ne _ _ _ _ (by omega)]; exact k.cs
  · rw [cget_ne _ _ _ _ (by omega)]; exact k.ch
  · rw [cget_ne _ _ _ _ (by omega)]; exact k.cn
  · rw [cget_ne _ _ _ _ (by omega)]; exact k.cc
  · rw [cget_eq _ _ _ (by omega)]
theorem CuC.setZ (k : CuC C rest sz h n cnt e) (z : Nat) : CuC (C.set 912 (.int .i64 (z : Int))) rest z h n cnt e := by
  have hs := k.size
  refine ⟨by rw [List.length_set, hs], k.le, k.bytes _ _ (by decide), ?_, ?_, ?_, ?_, ?_, ?_⟩
  · rw [cget_ne _ _ _ _ (by omega)]; exact k.cl
  · rw [cget_eq _ _ _ (by omega)]
  · rw [cget_ne _ _ _ _ (by omega)]; exact k.ch
  · rw [cget_ne _ _ _ _ (by omega)]; exact k.cn
  · rw [cget_ne _ _ _ _ (by omega)]; exact k.cc
  · rw [cget_ne _ _ _ _ (by omega)]; exact k.ce
theorem CuC.setN (k : CuC C rest sz h n cnt e) : CuC (C.set 911 (.int .i64 0)) [] sz h n cnt e := by
  have hs := k.size
  refine ⟨by rw [List.length_set, hs], by decide, (fun i hi => absurd hi (Nat.not_lt_zero i)), ?_, ?_, ?_, ?_, ?_, ?_⟩
  · rw [cget_eq _ _ _ (by omega)]; rfl
  · rw [cget_ne _ _ _ _ (by omega)]; exact k.cs
  · rw [cget_ne _ _ _ _ (by omega)]; exact k.ch
  · rw [cget_ne _ _ _ _ (by omega)]; exact k.cn
  · rw [cget_ne _ _ _ _ (by omega)]; exact k.cc
  · rw [cget_ne _ _ _ _ (by omega)]; exact k.ce
theorem CuC.setS (k : CuC C rest sz h n cnt e) (h' n' : Nat) : CuC ((C.set 913 (.int .u64 (h' : Int))).set 914 (.int .u64 (n' : Int))) rest sz h' n' cnt e := by
  have hs := k.size
  have hle := k.le
  refine ⟨by rw [List.length_set, List.length_set, hs], hle, fun i hi => ?_, ?_, ?_, ?_, ?_, ?_, ?_⟩
  · rw [cget_ne _ _ _ _ (by omega), cget_ne _ _ _ _ (by omega)]; exact k.by_ i hi
  · rw [cget_ne _ _ _ _ (by omega), cget_ne _ _ _ _ (by omega)]; exact k.cl
  · rw [cget_ne _ _ _ _ (by omega), cget_ne _ _ _ _ (by omega)]; exact k.cs
  · rw [cget_ne _ _ _ _ (by omega), cget_eq _ _ _ (by omega)]
  · rw [cget_eq _ _ _ (by rw [List.length_set]; omega)]
  · rw [cget_ne _ _ _ _ (by omega), cget_ne _ _ _ _ (by omega)]; exact k.cc
  · rw [cget_ne _ _ _ _ (by omega), cget_ne _ _ _ _ (by omega)]; exact k.ce
end

/-- A Cutter at block b. -/
def CuR (w : World) (b : Nat) (rest : List Nat) (sz h n cnt e : Nat) : Prop := ∃ C, Row w b 72 C ∧ CuC C rest sz h n cnt e
section
variable {w w' : World} {b : Nat} {rest : List Nat} {sz h n cnt e : Nat}
theorem CuR.keep (k : CuR w b rest sz h n cnt e) (hb : w'.heap[b]? = w.heap[b]?) : CuR w' b rest sz h n cnt e := by
  obtain ⟨C, h1, h2⟩ := k
  exact ⟨C, h1.keep hb, h2⟩
theorem CuR.lt (k : CuR w b rest sz h n cnt e) : b < w.heap.size := by
  obtain ⟨C, h1, h2⟩ := k
  exact h1.lt
theorem CuR.cells (k : CuR w b rest sz h n cnt e) : w.cell? ⟨b, 911, none⟩ = some (.int .i64 (rest.length : Int)) ∧ w.cell? ⟨b, 912, none⟩ = some (.int .i64 (sz : Int)) ∧ w.cell? ⟨b, 913, none⟩ = some (.int .u64 (h : Int)) ∧
    w.cell? ⟨b, 914, none⟩ = some (.int .u64 (n : Int)) ∧ w.cell? ⟨b, 915, none⟩ = some (.int .i64 (cnt : Int)) ∧ w.cell? ⟨b, 916, none⟩ = some (.int .i64 (e : Int)) ∧ (∀ i, w.frozen? ⟨b, i, none⟩ = false) ∧ ∀ i, i < 911 → ∃ v, w.cell? ⟨b, i, none⟩ = some v := by
  obtain ⟨C, h1, h2⟩ := k
  refine ⟨(h1.cell _).trans h2.cl, (h1.cell _).trans h2.cs, (h1.cell _).trans h2.ch, (h1.cell _).trans h2.cn, (h1.cell _).trans h2.cc, (h1.cell _).trans h2.ce, h1.free, fun i hi => ?_⟩
  have hs := h2.size
  exact ⟨C[i], (h1.cell i).trans (List.getElem?_eq_getElem (by omega))⟩
theorem CuR.push (k : CuR w b rest sz h n cnt e) (x : Nat) (hl : rest.length < 911) : CuR ((w.setCell ⟨b, rest.length, none⟩ (.int .u8 (x : Int))).setCell ⟨b, 911, none⟩ (.int .i64 ((rest ++ [x]).length : Int))) b (rest ++ [x]) sz h n cnt e := by
  obtain ⟨C, h1, h2⟩ := k
  exact ⟨_, (h1.set_ _ _).set_ _ _, h2.push x hl⟩
theorem CuR.setC (k : CuR w b rest sz h n cnt e) (c' : Nat) : CuR (w.setCell ⟨b, 915, none⟩ (.int .i64 (c' : Int))) b rest sz h n c' e := by
  obtain ⟨C, h1, h2⟩ := k
  exact ⟨_, h1.set_ _ _, h2.setC c'⟩
theorem CuR.setE (k : CuR w b rest sz h n cnt e) (e' : Nat) : CuR (w.setCell ⟨b, 916, none⟩ (.int .i64 (e' : Int))) b rest sz h n cnt e' := by
  obtain ⟨C, h1, h2⟩ := k
  exact ⟨_, h1.set_ _ _, h2.setE e'⟩
theorem CuR.setZ (k : CuR w b rest sz h n cnt e) (z : Nat) : CuR (w.setCell ⟨b, 912, none⟩ (.int .i64 (z : Int))) b rest z h n cnt e := by
  obtain ⟨C, h1, h2⟩ := k
  exact ⟨_, h1.set_ _ _, h2.setZ z⟩
theorem CuR.setN (k : CuR w b rest sz h n cnt e) : CuR (w.setCell ⟨b, 911, none⟩ (.int .i64 0)) b [] sz h n cnt e := by
  obtain ⟨C, h1, h2⟩ := k
  exact ⟨_, h1.set_ _ _, h2.setN⟩
theorem CuR.setS (k : CuR w b rest sz h n cnt e) (h' n' : Nat) : CuR ((w.setCell ⟨b, 913, none⟩ (.int .u64 (h' : Int))).setCell ⟨b, 914, none⟩ (.int .u64 (n' : Int))) b rest sz h' n' cnt e := by
  obtain ⟨C, h1, h2⟩ := k
  exact ⟨_, (h1.set_ _ _).set_ _ _, h2.setS h' n'⟩
/-- The bytes, as a slice and as a text. -/
theorem CuR.reads (k : CuR w b rest sz h n cnt e) : Reads w (some ⟨b, 0, none⟩) (u8s rest) := fun _ => by
  obtain ⟨C, h1, h2⟩ := k
  refine ⟨b, 0, rfl, fun j hj => ?_⟩
  rw [u8s_length] at hj
  rw [Nat.zero_add, h1.cell j, h2.by_ j hj, u8s_get? _ _ hj]
theorem CuR.text (k : CuR w b rest sz h n cnt e) (hlt : ∀ x ∈ rest, x < 256) (c : Nat) : (convert 23 9 (.slice (some ⟨b, 0, none⟩) rest.length c)).run Try.prog w = .ok (.string (strOf rest)) w :=
  conv_bytes w _ c rest hlt k.reads
end
theorem slice_a911 (g m : Nat) (W : World) (h : m ≤ 911) : (Instr.sliceAt 70 (.pointer (some ⟨g, 0, none⟩)) none (some (.int .i64 (m : Int))) none).run Try.prog W = .ok (.slice (some ⟨g, 0, none⟩) m 911) W := by
  have hl : Try.prog.arrayLen 70 = 911 := by kernel_rfl
  have he : Try.prog.elem 70 = 5 := by kernel_rfl
  rw [run_sliceAt_array_h W 70 ⟨g, 0, none⟩ (by kernel_rfl) .i64 m (by omega) (by rw [hl]; omega), hl, he]
  go_simp
/-- A Cutter of all these bytes, these last ones no frame yet. -/
def CuI (w : World) (b : Nat) (all rest : List Nat) : Prop := ∃ sz, CuR w b rest sz (Bm.fromH Bm.H0 all) all.length all.length 0 ∧ Bm.OpenR rest ∧ (rest ≠ [] → sz = Bm.sizeN rest) ∧ (∀ x ∈ rest, x < 256) ∧ all.length ≤ 1000000
/-- A Cutter with an error. -/
def CuE (w : World) (b : Nat) (e cnt : Nat) : Prop := ∃ rest sz h n, CuR w b rest sz h n cnt e ∧ e ≠ 0
section
variable {w w' : World} {b : Nat} {all rest : List Nat} {e cnt : Nat}
theorem CuI.keep (k : CuI w b all rest) (hb : w'.heap[b]? = w.heap[b]?) : CuI w' b all rest := by
  obtain ⟨sz, h1, h2⟩ := k
  exact ⟨sz, h1.keep hb, h2⟩
theorem CuI.lt (k : CuI w b all rest) : b < w.heap.size := by
  obtain ⟨sz, h1, h2⟩ := k
  exact h1.lt
theorem CuE.keep (k : CuE w b e cnt) (hb : w'.heap[b]? = w.heap[b]?) : CuE w' b e cnt := by
  obtain ⟨r, sz, h, n, h1, h2⟩ := k
  exact ⟨r, sz, h, n, h1.keep hb, h2⟩
theorem CuE.lt (k : CuE w b e cnt) : b < w.heap.size := by
  obtain ⟨r, sz, h, n, h1, h2⟩ := k
  exact h1.lt
end

set_option maxHeartbeats 1000000 in
set_option maxRecDepth 100000 in
theorem frnew_any (w : World) :
    Calls Try.prog 9 #[] w fun e w' => ∃ b, e = .returned (.pointer (some ⟨b, 0, none⟩)) ∧ CuI w' b [] [] ∧ w.heap.size ≤ b ∧ Below w.heap.size w w' := by
  have hz := cuzero
  have hl2 : ¬ (cuZ 0).toArray.size < 915 := by rw [List.size_toArray, cuzero_size]; decide
  have hzs := cuzero_set 7640891576956012808
  have Hpc := Lib.hid (CuC.new 7640891576956012808)
  rw [show ((7640891576956012808 : Nat) : Int) = 7640891576956012808 from rfl] at Hpc
  generalize cuZ 7640891576956012808 = C at *
  generalize (cuZ 0).toArray = Z at *
  go_enter Try.func9, Try.ntmps9
  go_wp2_with fail
  refine (snew_any w).mono ?_
  rintro e w1 ⟨rfl, hb1⟩
  have Hb1 := Lib.hid hb1
  clear hb1
  go_wp2
  go_ret
  exact ⟨_, rfl, ⟨0, ⟨C, Row.new w1 _ C, Hpc.out⟩, .inl rfl, fun h => absurd rfl h, (fun x hx => by cases hx), by decide⟩, Hb1.out.size, Hb1.out.alloc Hb1.out.size _⟩
set_option maxHeartbeats 400000 in
set_option maxRecDepth 100000 in
theorem frcount_at (b c : Nat) (w : World) (hc : w.cell? ⟨b, 915, none⟩ = some (.int .i64 (c : Int))) :
    Calls Try.prog 20 #[.pointer (some ⟨b, 0, none⟩)] w fun e w' => e = .returned (.int .i64 (c : Int)) ∧ w = w' := by
  go_enter Try.func20, Try.ntmps20
  go_wp2
  go_ret
  exact ⟨rfl, rfl⟩
set_option maxHeartbeats 400000 in
set_option maxRecDepth 100000 in
theorem frerr_at (b c : Nat) (w : World) (hc : w.cell? ⟨b, 916, none⟩ = some (.int .i64 (c : Int))) :
    Calls Try.prog 21 #[.pointer (some ⟨b, 0, none⟩)] w fun e w' => e = .returned (.int .i64 (c : Int)) ∧ w = w' := by
  go_enter Try.func21, Try.ntmps21
  go_wp2
  go_ret
  exact ⟨rfl, rfl⟩
theorem CuI.err {w : World} {b : Nat} {all rest : List Nat} (k : CuI w b all rest) : Calls Try.prog 21 #[.pointer (some ⟨b, 0, none⟩)] w fun e w' => e = .returned (.int .i64 0) ∧ w = w' := by
  obtain ⟨sz, h1, _⟩ := k
  exact frerr_at b 0 w h1.cells.2.2.2.2.2.1
theorem CuI.count {w : World} {b : Nat} {all rest : List Nat} (k : CuI w b all rest) : Calls Try.prog 20 #[.pointer (some ⟨b, 0, none⟩)] w fun e w' => e = .returned (.int .i64 (all.length : Int)) ∧ w = w' := by
  obtain ⟨sz, h1, _⟩ := k
  exact frcount_at b all.length w h1.cells.2.2.2.2.1
theorem CuE.err {w : World} {b e cnt : Nat} (k : CuE w b e cnt) : Calls Try.prog 21 #[.pointer (some ⟨b, 0, none⟩)] w fun x w' => x = .returned (.int .i64 (e : Int)) ∧ w = w' := by
  obtain ⟨r, sz, h, n, h1, _⟩ := k
  exact frerr_at b e w h1.cells.2.2.2.2.2.1
theorem CuE.count {w : World} {b e cnt : Nat} (k : CuE w b e cnt) : Calls Try.prog 20 #[.pointer (some ⟨b, 0, none⟩)] w fun x w' => x = .returned (.int .i64 (cnt : Int)) ∧ w = w' := by
  obtain ⟨r, sz, h, n, h1, _⟩ := k
  exact frcount_at b cnt w h1.cells.2.2.2.2.1
end Go.Proofs.Ytckmdeiahpijcaa
