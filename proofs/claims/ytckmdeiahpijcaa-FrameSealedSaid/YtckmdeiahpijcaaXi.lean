/-
  A Pipe of layer 22 (pipe) in memory: its bytes in places that go round, what is counted, the state of the sum; New, at, Flies, Came, Room, fits, by their walks; nobody's Pipe. Conditions: as each theorem's premises say.
-/
import Derived.Test.YtckmdeiahpijcaaXm
import Derived.Test.YtckmdeiahpijcaaSa
import Derived.Test.YtckmdeiahpijcaaIn
import Derived.Test.YtckmdeiahpijcaaSt
import Derived.RegionTactic
import Derived.ChangeAlike
import Derived.Deep.RegionHeld3
namespace Go.Proofs.Ytckmdeiahpijcaa
open Go.RowKit

/-- The zero items' cells. -/
def ppItems : Nat → List Value
  | 0 => []
  | n + 1 => .int .u8 0 :: .bool false :: ppItems n
theorem ppItems_length (n : Nat) : (ppItems n).length = 2 * n := by
  induction n with
  | zero => rfl
  | succ n ih => rw [ppItems, List.length_cons, List.length_cons, ih]; omega
theorem ppItems_get (n i : Nat) (hi : i < n) : (ppItems n)[2 * i]? = some (.int .u8 0) ∧ (ppItems n)[2 * i + 1]? = some (.bool false) := by
  induction n generalizing i with
  | zero => omega
  | succ n ih =>
    cases i with
    | zero => exact ⟨rfl, rfl⟩
    | succ i =>
      have h := ih i (by omega)
      rw [ppItems, show 2 * (i + 1) = 2 * i + 1 + 1 by omega]
      simp only [List.getElem?_cons_succ]
      exact h
theorem ppItems_one (n : Nat) : ∀ v ∈ ppItems n, v.oneCell' = true := by
  induction n with
  | zero => intro v hv; cases hv
  | succ n ih =>
    intro v hv
    rw [ppItems, List.mem_cons, List.mem_cons] at hv
    rcases hv with rfl | rfl | hv
    · rfl
    · rfl
    · exact ih v hv
/-- A new Pipe's cells. -/
def ppZ (m h : Int) : List Value := ppItems 2048 ++ [.int .i64 0, .int .i64 0, .int .i64 0, .int .i64 m, .int .u64 h, .int .u64 0]
set_option maxRecDepth 100000 in
theorem ppzero (W : World) : (zeroValue 69).run Try.prog W = .ok (.agg (ppZ 0 0).toArray) W := by kernel_rfl
theorem ppzero_size (m h : Int) : (ppZ m h).length = 4102 := by rw [ppZ, List.length_append, ppItems_length]; rfl
theorem pp_info : (Try.prog.info? 69).map (·.size) = some 4102 := by kernel_rfl
theorem ppzero_set (m h : Int) : (((ppZ 0 0).toArray.setIfInBounds 4099 (.int .i64 m)).setIfInBounds 4100 (.int .u64 h)).setIfInBounds 4101 (.int .u64 0) = (ppZ m h).toArray := by
  rw [List.setIfInBounds_toArray, List.setIfInBounds_toArray, List.setIfInBounds_toArray, ppZ, List.set_append_right _ _ (by rw [ppItems_length]; decide), List.set_append_right _ _ (by rw [ppItems_length]; decide), List.set_append_right _ _ (by rw [ppItems_length]; decide), ppItems_length]
  rfl
theorem ppzero_ne : ¬ (ppZ 0 0).toArray = #[] := fun h => by
  have h1 := congrArg Array.size h
  rw [List.size_toArray, ppzero_size] at h1
  cases h1
theorem ppzero_one (m h : Int) : (ppZ m h).toArray.all (·.oneCell') = true := by
  rw [Array.all_eq_true_iff_forall_mem]
  intro v hv
  rw [List.mem_toArray, ppZ, List.mem_append] at hv
  rcases hv with hv | hv
  · exact ppItems_one _ v hv
  · simp only [List.mem_cons, List.not_mem_nil, or_false] at hv
    rcases hv with hv | hv | hv | hv | hv | hv <;> (rw [hv]; rfl)

/-- The cells of a Pipe: the first place, what lies at each place from there on, how many came, fly, may be; the sum's state. -/
structure PCe (C : List Value) (f : Nat) (G : Bm.Plc) (c fl m h n : Nat) : Prop where
  size : C.length = 4102
  f0 : f < 2048
  cb : ∀ i, i < 2048 → C[2 * Bm.posR f 2048 i]? = some (.int .u8 ((G i).1 : Int))
  cs : ∀ i, i < 2048 → C[2 * Bm.posR f 2048 i + 1]? = some (.bool (G i).2)
  cf : C[4096]? = some (.int .i64 (f : Int))
  cc : C[4097]? = some (.int .i64 (c : Int))
  cl : C[4098]? = some (.int .i64 (fl : Int))
  cm : C[4099]? = some (.int .i64 (m : Int))
  ch : C[4100]? = some (.int .u64 (h : Int))
  cn : C[4101]? = some (.int .u64 (n : Int))
theorem pget_ne {α : Type} (l : List α) (i j : Nat) (x : α) (h : i ≠ j) : (l.set i x)[j]? = l[j]? := List.getElem?_set_ne h
theorem pget_eq {α : Type} (l : List α) (i : Nat) (x : α) (h : i < l.length) : (l.set i x)[i]? = some x := List.getElem?_set_self h
theorem PCe.new (m h : Nat) : PCe (ppZ (m : Int) (h : Int)) 0 (fun _ => (0, false)) 0 0 m h 0 := by
  have hp : ∀ i, i < 2048 → Bm.posR 0 2048 i = i := fun i hi => by unfold Bm.posR; rw [if_pos (by omega), Nat.zero_add]
  have ht : ∀ j, (ppZ (m : Int) (h : Int))[4096 + j]? = [Value.int .i64 0, .int .i64 0, .int .i64 0, .int .i64 (m : Int), .int .u64 (h : Int), .int .u64 0][j]? := fun j => by
    rw [ppZ, List.getElem?_append_right (by rw [ppItems_length]; omega), ppItems_length, show 4096 + j - 2 * 2048 = j by omega]
  refine ⟨ppzero_size _ _, by decide, fun i hi => ?_, fun i hi => ?_, ht 0, ht 1, ht 2, ht 3, ht 4, ht 5⟩
  · rw [hp i hi, ppZ, List.getElem?_append_left (by rw [ppItems_length]; omega)]
    exact (ppItems_get 2048 i hi).1
  · rw [hp i hi, ppZ, List.getElem?_append_left (by rw [ppItems_length]; omega)]
    exact (ppItems_get 2048 i hi).2
section
variable {C : List Value} {f : Nat} {G : Bm.Plc} {c fl m h n : Nat}
theorem PCe.pos (k : PCe C f G c fl m h n) (i : Nat) (hi : i ≤ 2048) : Bm.posR f 2048 i < 2048 := Bm.posR_lt f 2048 i k.f0 hi
/-- A byte laid down at a place. -/
theorem PCe.item (k : PCe C f G c fl m h n) (i : Nat) (hi : i < 2048) (x : Bm.Itm) :
    PCe ((C.set (2 * Bm.posR f 2048 i) (.int .u8 (x.1 : Int))).set (2 * Bm.posR f 2048 i + 1) (.bool x.2)) f (Bm.setG G i x) c fl m h n := by
  have hp := k.pos i (Nat.le_of_lt hi)
  have hs := k.size
  have hne : ∀ j, j < 2048 → j ≠ i → Bm.posR f 2048 i ≠ Bm.posR f 2048 j := fun j hj hji => by
    rcases Nat.lt_or_ge j i with h1 | h1
    · exact fun e => Bm.posR_ne f 2048 j i k.f0 h1 hi e.symm
    · exact Bm.posR_ne f 2048 i j k.f0 (by omega) hj
  refine ⟨by rw [List.length_set, List.length_set, hs], k.f0, fun j hj => ?_, fun j hj => ?_, ?_, ?_, ?_, ?_, ?_, ?_⟩
  · rw [pget_ne _ _ _ _ (by omega)]
    unfold Bm.setG
    by_cases hji : j = i
    · subst hji
      rw [if_pos rfl, pget_eq _ _ _ (by omega)]
    · have := hne j hj hji
      rw [if_neg hji, pget_ne _ _ _ _ (by omega), k.cb j hj]
  · unfold Bm.setG
    by_cases hji : j = i
    · subst hji
      rw [if_pos rfl, pget_eq _ _ _ (by rw [List.length_set]; omega)]
    · have := hne j hj hji
      rw [if_neg hji, pget_ne _ _ _ _ (by omega), pget_ne _ _ _ _ (by omega), k.cs j hj]
  · rw [pget_ne _ _ _ _ (by omega), pget_ne _ _ _ _ (by omega)]; exact k.cf
  · rw [pget_ne _ _ _ _ (by omega), pget_ne _ _ _ _ (by omega)]; exact k.cc
  · rw [pget_ne _ _ _ _ (by omega), pget_ne _ _ _ _ (by omega)]; exact k.cl
  · rw [pget_ne _ _ _ _ (by omega), pget_ne _ _ _ _ (by omega)]; exact k.cm
  · rw [pget_ne _ _ _ _ (by omega), pget_ne _ _ _ _ (by omega)]; exact k.ch
  · rw [pget_ne _ _ _ _ (by omega), pget_ne _ _ _ _ (by omega)]; exact k.cn
/-- The first place goes on by one. -/
theorem PCe.next (k : PCe C f G c fl m h n) : PCe (C.set 4096 (.int .i64 (Bm.posR f 2048 1 : Int))) (Bm.posR f 2048 1) (fun i => if i < 2047 then G (i + 1) else G 0) c fl m h n := by
  have hs := k.size
  have hp1 := k.pos 1 (by omega)
  have hq : ∀ j, j < 2048 → Bm.posR (Bm.posR f 2048 1) 2048 j < 2048 := fun j hj => Bm.posR_lt _ _ _ hp1 (by omega)
  have hn : ∀ j, j < 2047 → Bm.posR (Bm.posR f 2048 1) 2048 j = Bm.posR f 2048 (j + 1) := fun j hj => Bm.posR_one f 2048 j k.f0 (by omega)
  have he : Bm.posR (Bm.posR f 2048 1) 2048 2047 = Bm.posR f 2048 0 := by
    have := k.f0
    unfold Bm.posR
    split <;> split <;> split <;> omega
  refine ⟨by rw [List.length_set, hs], hp1, fun j hj => ?_, fun j hj => ?_, ?_, ?_, ?_, ?_, ?_, ?_⟩
  · have := hq j hj
    rw [pget_ne _ _ _ _ (by omega)]
    by_cases h1 : j < 2047
    · rw [if_pos h1, hn j h1]; exact k.cb _ (by omega)
    · obtain rfl : j = 2047 := by omega
      rw [if_neg h1, he]; exact k.cb 0 (by omega)
  · have := hq j hj
    rw [pget_ne _ _ _ _ (by omega)]
    by_cases h1 : j < 2047
    · rw [if_pos h1, hn j h1]; exact k.cs _ (by omega)
    · obtain rfl : j = 2047 := by omega
      rw [if_neg h1, he]; exact k.cs 0 (by omega)
  · rw [pget_eq _ _ _ (by omega)]
  · rw [pget_ne _ _ _ _ (by omega)]; exact k.cc
  · rw [pget_ne _ _ _ _ (by omega)]; exact k.cl
  · rw [pget_ne _ _ _ _ (by omega)]; exact k.cm
  · rw [pget_ne _ _ _ _ (by omega)]; exact k.ch
  · rw [pget_ne _ _ _ _ (by omega)]; exact k.cn
theorem PCe.setC (k : PCe C f G c fl m h n) (c' : Nat) : PCe (C.set 4097 (.int .i64 (c' : Int))) f G c' fl m h n := by
  have hs := k.size
  refine ⟨by rw [List.length_set, hs], k.f0, fun j hj => ?_, fun j hj => ?_, ?_, ?_, ?_, ?_, ?_, ?_⟩
  · have := k.pos j (by omega); rw [pget_ne _ _ _ _ (by omega)]; exact k.cb j hj
  · have := k.pos j (by omega); rw [pget_ne _ _ _ _ (by omega)]; exact k.cs j hj
  · rw [pget_ne _ _ _ _ (by omega)]; exact k.cf
  · rw [pget_eq _ _ _ (by omega)]
  · rw [pget_ne _ _ _ _ (by omega)]; exact k.cl
  · rw [pget_ne _ _ _ _ (by omega)]; exact k.cm
  · rw [pget_ne _ _ _ _ (by omega)]; exact k.ch
  · rw [pget_ne _ _ _ _ (by omega)]; exact k.cn
theorem PCe.setF (k : PCe C f G c fl m h n) (l' : Nat) : PCe (C.set 4098 (.int .i64 (l' : Int))) f G c l' m h n := by
  have hs := k.size
  refine ⟨by rw [List.length_set, hs], k.f0, fun j hj => ?_, fun j hj => ?_, ?_, ?_, ?_, ?_, ?_, ?_⟩
  · have := k.pos j (by omega); rw [pget_ne _ _ _ _ (by omega)]; exact k.cb j hj
  · have := k.pos j (by omega); rw [pget_ne _ _ _ _ (by omega)]; exact k.cs j hj
  · rw [pget_ne _ _ _ _ (by omega)]; exact k.cf
  · rw [pget_ne _ _ _ _ (by omega)]; exact k.cc
  · rw [pget_eq _ _ _ (by omega)]
  · rw [pget_ne _ _ _ _ (by omega)]; exact k.cm
  · rw [pget_ne _ _ _ _ (by omega)]; exact k.ch
  · rw [pget_ne _ _ _ _ (by omega)]; exact k.cn
theorem PCe.setS (k : PCe C f G c fl m h n) (h' n' : Nat) : PCe ((C.set 4100 (.int .u64 (h' : Int))).set 4101 (.int .u64 (n' : Int))) f G c fl m h' n' := by
  have hs := k.size
  refine ⟨by rw [List.length_set, List.length_set, hs], k.f0, fun j hj => ?_, fun j hj => ?_, ?_, ?_, ?_, ?_, ?_, ?_⟩
  · have := k.pos j (by omega); rw [pget_ne _ _ _ _ (by omega), pget_ne _ _ _ _ (by omega)]; exact k.cb j hj
  · have := k.pos j (by omega); rw [pget_ne _ _ _ _ (by omega), pget_ne _ _ _ _ (by omega)]; exact k.cs j hj
  · rw [pget_ne _ _ _ _ (by omega), pget_ne _ _ _ _ (by omega)]; exact k.cf
  · rw [pget_ne _ _ _ _ (by omega), pget_ne _ _ _ _ (by omega)]; exact k.cc
  · rw [pget_ne _ _ _ _ (by omega), pget_ne _ _ _ _ (by omega)]; exact k.cl
  · rw [pget_ne _ _ _ _ (by omega), pget_ne _ _ _ _ (by omega)]; exact k.cm
  · rw [pget_ne _ _ _ _ (by omega), pget_eq _ _ _ (by omega)]
  · rw [pget_eq _ _ _ (by rw [List.length_set]; omega)]
end

/-- A Pipe at block b, by its places. -/
def PW (w : World) (b f : Nat) (G : Bm.Plc) (c fl m h n : Nat) : Prop := ∃ C, Row w b 69 C ∧ PCe C f G c fl m h n
section
variable {w w' : World} {b f : Nat} {G : Bm.Plc} {c fl m h n : Nat}
theorem PW.keep (k : PW w b f G c fl m h n) (hb : w'.heap[b]? = w.heap[b]?) : PW w' b f G c fl m h n := by
  obtain ⟨C, h1, h2⟩ := k
  exact ⟨C, h1.keep hb, h2⟩
theorem PW.lt (k : PW w b f G c fl m h n) : b < w.heap.size := by
  obtain ⟨C, h1, h2⟩ := k
  exact h1.lt
theorem PW.cells (k : PW w b f G c fl m h n) : w.cell? ⟨b, 4096, none⟩ = some (.int .i64 (f : Int)) ∧ w.cell? ⟨b, 4097, none⟩ = some (.int .i64 (c : Int)) ∧ w.cell? ⟨b, 4098, none⟩ = some (.int .i64 (fl : Int)) ∧
    w.cell? ⟨b, 4099, none⟩ = some (.int .i64 (m : Int)) ∧ w.cell? ⟨b, 4100, none⟩ = some (.int .u64 (h : Int)) ∧ w.cell? ⟨b, 4101, none⟩ = some (.int .u64 (n : Int)) ∧ (∀ i, w.frozen? ⟨b, i, none⟩ = false) ∧ f < 2048 := by
  obtain ⟨C, h1, h2⟩ := k
  exact ⟨(h1.cell _).trans h2.cf, (h1.cell _).trans h2.cc, (h1.cell _).trans h2.cl, (h1.cell _).trans h2.cm, (h1.cell _).trans h2.ch, (h1.cell _).trans h2.cn, h1.free, h2.f0⟩
theorem PW.at (k : PW w b f G c fl m h n) (i : Nat) (hi : i < 2048) : w.cell? ⟨b, 2 * Bm.posR f 2048 i, none⟩ = some (.int .u8 ((G i).1 : Int)) ∧ w.cell? ⟨b, 2 * Bm.posR f 2048 i + 1, none⟩ = some (.bool (G i).2) := by
  obtain ⟨C, h1, h2⟩ := k
  exact ⟨(h1.cell _).trans (h2.cb i hi), (h1.cell _).trans (h2.cs i hi)⟩
theorem PW.item (k : PW w b f G c fl m h n) (i : Nat) (hi : i < 2048) (x : Bm.Itm) :
    PW ((w.setCell ⟨b, 2 * Bm.posR f 2048 i, none⟩ (.int .u8 (x.1 : Int))).setCell ⟨b, 2 * Bm.posR f 2048 i + 1, none⟩ (.bool x.2)) b f (Bm.setG G i x) c fl m h n := by
  obtain ⟨C, h1, h2⟩ := k
  exact ⟨_, (h1.set_ _ _).set_ _ _, h2.item i hi x⟩
theorem PW.next (k : PW w b f G c fl m h n) : PW (w.setCell ⟨b, 4096, none⟩ (.int .i64 (Bm.posR f 2048 1 : Int))) b (Bm.posR f 2048 1) (fun i => if i < 2047 then G (i + 1) else G 0) c fl m h n := by
  obtain ⟨C, h1, h2⟩ := k
  exact ⟨_, h1.set_ _ _, h2.next⟩
theorem PW.setC (k : PW w b f G c fl m h n) (c' : Nat) : PW (w.setCell ⟨b, 4097, none⟩ (.int .i64 (c' : Int))) b f G c' fl m h n := by
  obtain ⟨C, h1, h2⟩ := k
  exact ⟨_, h1.set_ _ _, h2.setC c'⟩
theorem PW.setF (k : PW w b f G c fl m h n) (l' : Nat) : PW (w.setCell ⟨b, 4098, none⟩ (.int .i64 (l' : Int))) b f G c l' m h n := by
  obtain ⟨C, h1, h2⟩ := k
  exact ⟨_, h1.set_ _ _, h2.setF l'⟩
theorem PW.setS (k : PW w b f G c fl m h n) (h' n' : Nat) : PW ((w.setCell ⟨b, 4100, none⟩ (.int .u64 (h' : Int))).setCell ⟨b, 4101, none⟩ (.int .u64 (n' : Int))) b f G c fl m h' n' := by
  obtain ⟨C, h1, h2⟩ := k
  exact ⟨_, (h1.set_ _ _).set_ _ _, h2.setS h' n'⟩
end
/-- A Pipe at block b: what came, what flies, how many there may be, the sum's state. -/
def PI (w : World) (b : Nat) (kc kf : List Bm.Itm) (m h n : Nat) : Prop := ∃ f G, PW w b f G kc.length kf.length m h n ∧ Bm.OnG G (kc ++ kf) ∧ kc.length + kf.length ≤ m ∧ 1 ≤ m ∧ m ≤ 2048 ∧ (∀ x ∈ kc ++ kf, x.1 < 256) ∧ h < 18446744073709551616 ∧ n < 1000000000000
section
variable {w w' : World} {b : Nat} {kc kf : List Bm.Itm} {m h n : Nat}
theorem PI.keep (k : PI w b kc kf m h n) (hb : w'.heap[b]? = w.heap[b]?) : PI w' b kc kf m h n := by
  obtain ⟨f, G, h1, h2⟩ := k
  exact ⟨f, G, h1.keep hb, h2⟩
theorem PI.lt (k : PI w b kc kf m h n) : b < w.heap.size := by
  obtain ⟨f, G, h1, h2⟩ := k
  exact h1.lt
theorem PI.below (k : PI w b kc kf m h n) (hb : Below w.heap.size w w') : PI w' b kc kf m h n := k.keep (hb.block b k.lt)
end
/-- A contract that leaves the world as it is, in a region that draws its order. -/
theorem quiet_leftP {P : Program} {f : FuncId} {args : Array Value} {w : World} {n : Nat} {v : Value}
    (h : Calls P f args (w.drewN n) fun e w' => e = .returned v ∧ w.drewN n = w') : Calls P f args (w.drewN n) fun e w'' => e = .returned v ∧ ∃ m, w'' = w.drewN m :=
  h.mono fun _ _ ⟨he, hm⟩ => ⟨he, n, hm.symm⟩

set_option maxHeartbeats 1000000 in
set_option maxRecDepth 100000 in
theorem ppnew_any (n : Int) (w : World) :
    Calls Try.prog 8 #[.int .i64 n] w fun e w' => ∃ b, e = .returned (.pointer (some ⟨b, 0, none⟩)) ∧ PI w' b [] [] (Bm.mostN n) Bm.H0 0 ∧ w.heap.size ≤ b ∧ Below w.heap.size w w' := by
  obtain ⟨h1, h64, hmm⟩ := Bm.most_le n
  have hz := ppzero
  have hl1 : ¬ (ppZ 0 0).toArray.size < 4100 := by rw [List.size_toArray, ppzero_size]; decide
  have hl2 : ¬ (ppZ 0 0).toArray.size < 4102 := by rw [List.size_toArray, ppzero_size]; decide
  have hzs := ppzero_set (Bm.mostN n : Int) 7640891576956012808
  have Hpc := Lib.hid (PCe.new (Bm.mostN n) 7640891576956012808)
  rw [show ((7640891576956012808 : Nat) : Int) = 7640891576956012808 from rfl] at Hpc
  generalize ppZ (Bm.mostN n : Int) 7640891576956012808 = C at *
  generalize (ppZ 0 0).toArray = Z at *
  generalize Bm.mostN n = m at *
  go_enter Try.func8, Try.ntmps8
  go_wp2_with fail
  refine (snew_any w).mono ?_
  rintro e w1 ⟨rfl, hb1⟩
  have Hb1 := Lib.hid hb1
  clear hb1
  go_wp2
  go_ret
  exact ⟨_, rfl, ⟨0, _, ⟨C, Row.new w1 _ C, Hpc.out⟩, Bm.OnG.nil _, Nat.zero_le _, h1, h64, (fun x hx => by cases hx), by decide, by decide⟩, Hb1.out.size, Hb1.out.alloc Hb1.out.size _⟩
set_option maxHeartbeats 400000 in
set_option maxRecDepth 100000 in
theorem ppat_any (b f i : Nat) (w : World) (hf : f < 2048) (hi : i ≤ 2048) (hc : w.cell? ⟨b, 4096, none⟩ = some (.int .i64 (f : Int))) :
    Calls Try.prog 43 #[.pointer (some ⟨b, 0, none⟩), .int .i64 (i : Int)] w fun e w' => e = .returned (.pointer (some ⟨b, 2 * Bm.posR f 2048 i, none⟩)) ∧ ∃ k, w' = w.drewN k := by
  go_enter Try.func43, Try.ntmps43
  go_wp2_with fail
  go_quiet (fail)
  go_wp2
  go_ret
  exact ⟨congrArg (fun x => Ending.returned (Value.pointer (some ⟨b, x, none⟩))) (by rw [Bm.mod_posR f 2048 i hf hi, Nat.mul_comm]), _, rfl⟩
set_option maxHeartbeats 400000 in
set_option maxRecDepth 100000 in
theorem ppflies_at (b : Nat) (fl : Nat) (w : World) (hc : w.cell? ⟨b, 4098, none⟩ = some (.int .i64 (fl : Int))) :
    Calls Try.prog 34 #[.pointer (some ⟨b, 0, none⟩)] w fun e w' => e = .returned (.int .i64 (fl : Int)) ∧ w = w' := by
  go_enter Try.func34, Try.ntmps34
  go_wp2
  go_ret
  exact ⟨rfl, rfl⟩
set_option maxHeartbeats 400000 in
set_option maxRecDepth 100000 in
theorem ppcame_at (b : Nat) (c : Nat) (w : World) (hc : w.cell? ⟨b, 4097, none⟩ = some (.int .i64 (c : Int))) :
    Calls Try.prog 42 #[.pointer (some ⟨b, 0, none⟩)] w fun e w' => e = .returned (.int .i64 (c : Int)) ∧ w = w' := by
  go_enter Try.func42, Try.ntmps42
  go_wp2
  go_ret
  exact ⟨rfl, rfl⟩
set_option maxHeartbeats 400000 in
set_option maxRecDepth 100000 in
theorem pproom_at (b c fl m : Nat) (w : World) (hm : m ≤ 2048) (hcf : c + fl ≤ m) (h1 : w.cell? ⟨b, 4097, none⟩ = some (.int .i64 (c : Int))) (h2 : w.cell? ⟨b, 4098, none⟩ = some (.int .i64 (fl : Int))) (h3 : w.cell? ⟨b, 4099, none⟩ = some (.int .i64 (m : Int))) :
    Calls Try.prog 47 #[.pointer (some ⟨b, 0, none⟩)] w fun e w' => e = .returned (.int .i64 ((m - c - fl : Nat) : Int)) ∧ ∃ k, w' = w.drewN k := by
  have HR := Lib.hid (show (m : Int) - (c : Int) - (fl : Int) = ((m - c - fl : Nat) : Int) by omega)
  go_enter Try.func47, Try.ntmps47
  go_wp2_with fail
  go_quiet (fail)
  go_wp2
  go_ret
  exact ⟨congrArg (fun x => Ending.returned (Value.int .i64 x)) HR.out, _, rfl⟩
set_option maxHeartbeats 400000 in
set_option maxRecDepth 100000 in
theorem ppflies_nil (w : World) : Calls Try.prog 34 #[.pointer none] w fun e w' => e = .returned (.int .i64 0) ∧ w = w' := by
  go_enter Try.func34, Try.ntmps34
  go_wp2
  go_ret
  exact ⟨rfl, rfl⟩
set_option maxHeartbeats 400000 in
set_option maxRecDepth 100000 in
theorem ppcame_nil (w : World) : Calls Try.prog 42 #[.pointer none] w fun e w' => e = .returned (.int .i64 0) ∧ w = w' := by
  go_enter Try.func42, Try.ntmps42
  go_wp2
  go_ret
  exact ⟨rfl, rfl⟩
set_option maxHeartbeats 400000 in
set_option maxRecDepth 100000 in
theorem pproom_nil (w : World) : Calls Try.prog 47 #[.pointer none] w fun e w' => e = .returned (.int .i64 0) ∧ w = w' := by
  go_enter Try.func47, Try.ntmps47
  go_wp2
  go_ret
  exact ⟨rfl, rfl⟩
set_option maxHeartbeats 400000 in
set_option maxRecDepth 100000 in
theorem ppfits_nil (s : ByteArray) (w : World) : Calls Try.prog 32 #[.pointer none, .string s] w fun e w' => e = .returned (.bool false) ∧ w = w' := by
  go_enter Try.func32, Try.ntmps32
  go_wp2
  go_ret
  exact ⟨rfl, rfl⟩
set_option maxHeartbeats 400000 in
set_option maxRecDepth 100000 in
theorem ppfits_at (b c fl m : Nat) (s : ByteArray) (r : Bool) (w : World) (hm : m ≤ 2048) (hcf : c + fl ≤ m) (hr : decide (s.size ≤ m - c - fl) = r) (h1 : w.cell? ⟨b, 4097, none⟩ = some (.int .i64 (c : Int))) (h2 : w.cell? ⟨b, 4098, none⟩ = some (.int .i64 (fl : Int))) (h3 : w.cell? ⟨b, 4099, none⟩ = some (.int .i64 (m : Int))) :
    Calls Try.prog 32 #[.pointer (some ⟨b, 0, none⟩), .string s] w fun e w' => e = .returned (.bool r) ∧ ∃ k, w' = w.drewN k := by
  have Hroom := Lib.hid (pproom_at b c fl m w hm hcf h1 h2 h3)
  have hrI : decide ((s.size : Int) ≤ ((m - c - fl : Nat) : Int)) = r := by rw [← hr, decide_eq_decide]; omega
  generalize m - c - fl = q at *
  go_enter Try.func32, Try.ntmps32
  go_wp2_with fail
  refine Hroom.out.mono ?_
  rintro e w1 ⟨rfl, k, rfl⟩
  go_wp2
  go_ret
  exact ⟨rfl, _, rfl⟩
end Go.Proofs.Ytckmdeiahpijcaa
