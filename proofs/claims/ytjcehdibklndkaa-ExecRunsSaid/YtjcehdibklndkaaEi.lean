/-
  A Finder of layer 11 (chain) in memory: the text, which places are noted, where each chain begins, what is ahead of each place; New, by its walk. Conditions: as each theorem's premises say (up to 2000 bytes).
-/
import Derived.Test.YtjcehdibklndkaaEd
import Derived.Test.YtjcehdibklndkaaEg
namespace Go.Proofs.Ytjcehdibklndkaa
open Go.RowKit

/-- A new Finder's cells. -/
def zcells (s : ByteArray) : List Value := .string s :: (List.replicate 2000 (.bool false) ++ (List.replicate 2003 (.int .i16 0) ++ List.replicate 2000 (.int .i16 0)))
set_option maxRecDepth 100000 in
theorem zzero (W : World) : (zeroValue 62).run Try.prog W = .ok (.agg (zcells ⟨#[]⟩).toArray) W := by kernel_rfl
theorem zzero_set (s : ByteArray) : (zcells ⟨#[]⟩).toArray.setIfInBounds 0 (.string s) = (zcells s).toArray := by
  rw [List.setIfInBounds_toArray]
  rfl
theorem zzero_ne : ¬ (zcells ⟨#[]⟩).toArray = #[] := fun h => by
  have h1 := congrArg Array.toList h
  rw [List.toList_toArray, zcells] at h1
  exact List.cons_ne_nil _ _ h1

/-- The cells of a Finder of the text T with the places P noted. -/
structure PCells (C : List Value) (T P : List Nat) (L A : Nat → Nat) : Prop where
  c0 : C[0]? = some (.string (strOf T))
  noted : ∀ i, i < 2000 → C[1 + i]? = some (.bool (decide (i ∈ P)))
  last : ∀ c, c < 2003 → C[2001 + c]? = some (.int .i16 (L c : Int))
  ahead : ∀ i, i < 2000 → C[4004 + i]? = some (.int .i16 (A i : Int))
theorem PCells.new (T : List Nat) : PCells (zcells (strOf T)) T [] (fun _ => 0) (fun _ => 0) := by
  refine ⟨rfl, fun i hi => ?_, fun c hc => ?_, fun i hi => ?_⟩
  · rw [zcells, Nat.add_comm, List.getElem?_cons_succ, List.getElem?_append_left (by rw [List.length_replicate]; exact hi), List.getElem?_replicate_of_lt hi]
    simp
  · rw [zcells, show 2001 + c = (2000 + c) + 1 by omega, List.getElem?_cons_succ, List.getElem?_append_right (by rw [List.length_replicate]; omega), List.length_replicate, Nat.add_sub_cancel_left, List.getElem?_append_left (by rw [List.length_replicate]; exact hc), List.getElem?_replicate_of_lt hc]
    rfl
  · rw [zcells, show 4004 + i = (2000 + (2003 + i)) + 1 by omega, List.getElem?_cons_succ, List.getElem?_append_right (by rw [List.length_replicate]; omega), List.length_replicate, Nat.add_sub_cancel_left, List.getElem?_append_right (by rw [List.length_replicate]; omega), List.length_replicate, Nat.add_sub_cancel_left, List.getElem?_replicate_of_lt hi]
    rfl
theorem get_set_ne {α : Type} (l : List α) (i j : Nat) (x : α) (h : i ≠ j) : (l.set i x)[j]? = l[j]? := List.getElem?_set_ne h
theorem get_set_eq {α : Type} {l : List α} {i : Nat} {x y : α} (h : l[i]? = some y) : (l.set i x)[i]? = some x := by
  have hi : i < l.length := by
    rcases Nat.lt_or_ge i l.length with h1 | h1
    · exact h1
    · rw [List.getElem?_eq_none h1] at h; cases h
  rw [List.getElem?_set_self hi]
/-- Three cells turned: a place is noted. -/
theorem PCells.note {C : List Value} {T P : List Nat} {L A : Nat → Nat} (h : PCells C T P L A) (a c : Nat) (ha : a < 2000) (hc : c < 2003) :
    PCells (((C.set (1 + a) (.bool true)).set (4004 + a) (.int .i16 (L c : Int))).set (2001 + c) (.int .i16 ((a + 1 : Nat) : Int))) T (P ++ [a]) (fun x => if x = c then a + 1 else L x) (fun p => if p = a then L c else A p) := by
  refine ⟨?_, fun i hi => ?_, fun x hx => ?_, fun i hi => ?_⟩
  · rw [get_set_ne _ _ _ _ (by omega), get_set_ne _ _ _ _ (by omega), get_set_ne _ _ _ _ (by omega)]
    exact h.c0
  · rw [get_set_ne _ _ _ _ (by omega), get_set_ne _ _ _ _ (by omega)]
    by_cases hia : i = a
    · subst hia
      rw [get_set_eq (h.noted i hi)]
      simp
    · rw [get_set_ne _ _ _ _ (by omega), h.noted i hi]
      simp [hia]
  · by_cases hxc : x = c
    · subst hxc
      rw [get_set_eq (y := .int .i16 (L x : Int)) (by rw [get_set_ne _ _ _ _ (by omega), get_set_ne _ _ _ _ (by omega)]; exact h.last x hx)]
      simp
    · rw [get_set_ne _ _ _ _ (by omega), get_set_ne _ _ _ _ (by omega), get_set_ne _ _ _ _ (by omega), h.last x hx, if_neg hxc]
  · rw [get_set_ne _ _ _ _ (by omega)]
    by_cases hia : i = a
    · subst hia
      rw [get_set_eq (y := .int .i16 (A i : Int)) (by rw [get_set_ne _ _ _ _ (by omega)]; exact h.ahead i hi)]
      simp
    · rw [get_set_ne _ _ _ _ (by omega), get_set_ne _ _ _ _ (by omega), h.ahead i hi, if_neg hia]
/-- A Finder at block b. -/
def PF (w : World) (b : Nat) (T P : List Nat) : Prop := ∃ (C : List Value) (L A : Nat → Nat), Row w b 62 C ∧ PCells C T P L A ∧ Bm.ChnOk T P L A ∧ Bm.Places T P
theorem PF.keep {w w' : World} {b : Nat} {T P : List Nat} (h : PF w b T P) (hb : w'.heap[b]? = w.heap[b]?) : PF w' b T P := by
  obtain ⟨C, L, A, h1, h2⟩ := h
  exact ⟨C, L, A, h1.keep hb, h2⟩
theorem PF.lt {w : World} {b : Nat} {T P : List Nat} (h : PF w b T P) : b < w.heap.size := by
  obtain ⟨C, L, A, h1, h2⟩ := h
  exact h1.lt
theorem PF.text {w : World} {b : Nat} {T P : List Nat} (h : PF w b T P) : w.cell? ⟨b, 0, none⟩ = some (.string (strOf T)) := by
  obtain ⟨C, L, A, h1, h2, _⟩ := h
  rw [h1.cell 0, h2.c0]
/-- .. as the laws' walks ask for it. -/
def FI (w : World) (p : Addr) (T P : List Nat) (S : Nat → Prop) : Prop := ∃ b, p = ⟨b, 0, none⟩ ∧ PF w b T P ∧ S = fun k => k = b

set_option maxHeartbeats 1000000 in
set_option maxRecDepth 100000 in
theorem znew_any (w : World) (T : List Nat) (hT : T.length ≤ 2000) :
    Calls Try.prog 17 #[.string (strOf T)] w fun e w' => ∃ b, e = .returned (.pointer (some ⟨b, 0, none⟩)) ∧ PF w' b T [] ∧ w.heap.size ≤ b ∧ Below w.heap.size w w' := by
  have hsz := strOf_size T
  have hcut : ∀ W : World, (Instr.slice 9 (.string (strOf T)) none (some (.int .i64 (T.length : Int))) none).run Try.prog W = .ok (.string (strOf T)) W := fun W => by
    have h := str_to T T.length (Nat.le_refl _) W
    rwa [List.take_length] at h
  have hmin : min (T.length : Int) 2000 = (T.length : Int) := by omega
  have Hcl := Lib.hid (sclone_any (strOf T) w (by rw [hsz]; omega))
  have hz := zzero
  have hzs := zzero_set (strOf T)
  have hzn := zzero_ne
  have Hpc := Lib.hid (PCells.new T)
  generalize zcells (strOf T) = C at *
  generalize (zcells ⟨#[]⟩).toArray = Z at *
  generalize strOf T = ss at *
  go_enter Try.func17, Try.ntmps17
  go_wp2_with fail
  refine Hcl.out.mono ?_
  rintro e w1 ⟨rfl, hb1⟩
  have Hb1 := Lib.hid hb1
  clear hb1 Hcl
  go_wp2
  go_ret
  exact ⟨_, rfl, ⟨C, _, _, Row.new w1 _ C, Hpc.out, Bm.ChnOk.zero T, (fun p hp => by simp at hp)⟩, Hb1.out.size, Hb1.out.alloc Hb1.out.size _⟩
end Go.Proofs.Ytjcehdibklndkaa
