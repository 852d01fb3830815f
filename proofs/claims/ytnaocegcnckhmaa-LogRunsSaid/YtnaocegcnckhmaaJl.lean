/-
  A Log of layer 26 (log) in memory: its records in their places, how many there are, how many are old; New, there, old, Len, Base, by their walks; nobody's Log. Conditions: as each theorem's premises say.
-/
import Derived.Test.YtnaocegcnckhmaaQm
import Derived.Test.YtnaocegcnckhmaaQs
import Derived.Test.YtnaocegcnckhmaaEg
import Derived.BigQuiet
import Derived.Deep.QuietTactic
namespace Go.Proofs.Ytnaocegcnckhmaa
open Go.RowKit

/-- A new Log's cells. -/
def logZ : List Value := List.replicate 400 (.string ⟨#[]⟩) ++ [.int .i64 0, .int .i64 0]
set_option maxRecDepth 100000 in
theorem logzero (W : World) : (zeroValue 51).run Try.prog W = .ok (.agg logZ.toArray) W := by kernel_rfl
theorem logzero_ne : ¬ logZ.toArray = #[] := fun h => by
  have h1 := congrArg Array.toList h
  rw [List.toList_toArray, logZ] at h1
  exact List.cons_ne_nil _ _ h1

/-- The cells of a Log of these records, the first k of them old. -/
structure LgC (C : List Value) (l : List ByteArray) (k : Nat) : Prop where
  size : C.length = 402
  len : l.length ≤ 400
  old : k ≤ l.length
  cn : C[400]? = some (.int .i64 (l.length : Int))
  cb : C[401]? = some (.int .i64 (k : Int))
  cs : ∀ i (h : i < l.length), C[i]? = some (.string l[i])
  all : ∀ i, i < 400 → ∃ s, C[i]? = some (.string s)
set_option maxRecDepth 100000 in
theorem LgC.new : LgC logZ [] 0 :=
  ⟨rfl, Nat.zero_le _, Nat.le_refl _, rfl, rfl, fun i h => absurd h (Nat.not_lt_zero _), fun i hi => ⟨⟨#[]⟩, by
    rw [logZ, List.getElem?_append_left (by rw [List.length_replicate]; exact hi), List.getElem?_replicate_of_lt hi]⟩⟩
theorem lget_ne {α : Type} (l : List α) (i j : Nat) (x : α) (h : i ≠ j) : (l.set i x)[j]? = l[j]? := List.getElem?_set_ne h
theorem lget_eq {α : Type} (l : List α) (i : Nat) (x : α) (h : i < l.length) : (l.set i x)[i]? = some x := List.getElem?_set_self h
/-- One more. -/
theorem LgC.push {C : List Value} {l : List ByteArray} {k : Nat} (h : LgC C l k) (s : ByteArray) (hl : l.length < 400) :
    LgC ((C.set l.length (.string s)).set 400 (.int .i64 ((l.length : Int) + 1))) (l ++ [s]) k := by
  have hsz := h.size
  have hk := h.old
  have hlen : (l ++ [s]).length = l.length + 1 := by rw [List.length_append, List.length_singleton]
  refine ⟨by rw [List.length_set, List.length_set, hsz], by omega, by omega, ?_, ?_, fun i hi => ?_, fun i hi => ?_⟩
  · rw [lget_eq _ _ _ (by rw [List.length_set]; omega), hlen]; rfl
  · rw [lget_ne _ _ _ _ (by omega), lget_ne _ _ _ _ (by omega)]; exact h.cb
  · rw [hlen] at hi
    rw [lget_ne _ _ _ _ (by omega)]
    by_cases hil : i = l.length
    · subst hil
      rw [lget_eq _ _ _ (by omega), List.getElem_append_right (Nat.le_refl _)]
      simp
    · rw [lget_ne _ _ _ _ (by omega), h.cs i (by omega), List.getElem_append_left (by omega)]
  · rw [lget_ne _ _ _ _ (by omega)]
    by_cases hip : l.length = i
    · subst hip; exact ⟨s, lget_eq _ _ _ (by omega)⟩
    · rw [lget_ne _ _ _ _ hip]; exact h.all i hi
/-- More are old. -/
theorem LgC.trunc {C : List Value} {l : List ByteArray} {k : Nat} (h : LgC C l k) (q : Nat) (hq : q ≤ l.length) : LgC (C.set 401 (.int .i64 (q : Int))) l q := by
  have hsz := h.size
  have hlen := h.len
  refine ⟨by rw [List.length_set, hsz], h.len, hq, ?_, ?_, fun i hi => ?_, fun i hi => ?_⟩
  · rw [lget_ne _ _ _ _ (by omega)]; exact h.cn
  · rw [lget_eq _ _ _ (by omega)]
  · rw [lget_ne _ _ _ _ (by omega)]; exact h.cs i hi
  · rw [lget_ne _ _ _ _ (by omega)]; exact h.all i hi

/-- A Log at block b: these records, the first k of them old. -/
def LG (w : World) (b : Nat) (l : List ByteArray) (k : Nat) : Prop := ∃ C, Row w b 51 C ∧ LgC C l k ∧ ∀ s ∈ l, s.size ≤ 512
section
variable {w w' : World} {b k : Nat} {l : List ByteArray}
theorem LG.keep (h : LG w b l k) (hb : w'.heap[b]? = w.heap[b]?) : LG w' b l k := by
  obtain ⟨C, h1, h2⟩ := h
  exact ⟨C, h1.keep hb, h2⟩
theorem LG.lt (h : LG w b l k) : b < w.heap.size := by
  obtain ⟨C, h1, h2⟩ := h
  exact h1.lt
theorem LG.below (h : LG w b l k) (hb : Below w.heap.size w w') : LG w' b l k := h.keep (hb.block b h.lt)
theorem LG.small (h : LG w b l k) : l.length ≤ 400 ∧ k ≤ l.length ∧ ∀ s ∈ l, s.size ≤ 512 := by
  obtain ⟨C, h1, h2, h3⟩ := h
  exact ⟨h2.len, h2.old, h3⟩
theorem LG.reads (h : LG w b l k) : Reads w (some ⟨b, 0, none⟩) (strC l) := fun _ => by
  obtain ⟨C, h1, h2, _⟩ := h
  refine ⟨b, 0, rfl, fun j hj => ?_⟩
  rw [strC_length] at hj
  rw [Nat.zero_add, h1.cell j, h2.cs j hj, strC_get? l j hj]
/-- A Log, or nobody's. -/
def LP (w : World) (p : Option Addr) (l : List ByteArray) (k : Nat) : Prop := (p = none ∧ l = [] ∧ k = 0) ∨ ∃ b, p = some ⟨b, 0, none⟩ ∧ LG w b l k
theorem LG.some_ (h : LG w b l k) : LP w (some ⟨b, 0, none⟩) l k := Or.inr ⟨b, rfl, h⟩
theorem LP.nobody (w : World) : LP w none [] 0 := Or.inl ⟨rfl, rfl, rfl⟩
theorem LP.below {p : Option Addr} (h : LP w p l k) (hb : Below w.heap.size w w') : LP w' p l k := h.imp id fun ⟨b, e, hr⟩ => ⟨b, e, hr.below hb⟩
theorem LP.keep {p : Option Addr} (h : LP w p l k) (hb : w'.heap = w.heap) : LP w' p l k := h.imp id fun ⟨b, e, hr⟩ => ⟨b, e, hr.keep (by rw [hb])⟩
theorem LP.small {p : Option Addr} (h : LP w p l k) : l.length ≤ 400 ∧ k ≤ l.length ∧ ∀ s ∈ l, s.size ≤ 512 := by
  rcases h with ⟨_, rfl, rfl⟩ | ⟨b, _, hr⟩
  · exact ⟨Nat.zero_le _, Nat.zero_le _, fun s hs => by simp at hs⟩
  · exact hr.small
end

/-- The room of the slice that 'there' answers. -/
def lgC : Option Addr → Nat
  | none => 0
  | some _ => 400
theorem LP.reads {w : World} {p : Option Addr} {l : List ByteArray} {k : Nat} (h : LP w p l k) : Reads w p (strC l) := by
  rcases h with ⟨_, rfl, _⟩ | ⟨b, rfl, hr⟩
  · exact fun hne => absurd rfl hne
  · exact hr.reads
theorem LP.room {w : World} {p : Option Addr} {l : List ByteArray} {k : Nat} (h : LP w p l k) : l.length ≤ lgC p ∧ (p = none → l.length = 0 ∧ k = 0 ∧ lgC p = 0) := by
  have h1 := h.small.1
  rcases h with ⟨rfl, rfl, rfl⟩ | ⟨b, rfl, hr⟩
  · exact ⟨Nat.le_refl _, fun _ => ⟨rfl, rfl, rfl⟩⟩
  · exact ⟨h1, fun e => by cases e⟩
theorem slice_a400s (b n : Nat) (W : World) (h : n ≤ 400) : (Instr.sliceAt 49 (.pointer (some ⟨b, 0, none⟩)) none (some (.int .i64 (n : Int))) none).run Try.prog W = .ok (.slice (some ⟨b, 0, none⟩) n 400) W := by
  have hl : Try.prog.arrayLen 49 = 400 := by kernel_rfl
  have he : Try.prog.elem 49 = 9 := by kernel_rfl
  rw [run_sliceAt_array_h W 49 ⟨b, 0, none⟩ (by kernel_rfl) .i64 n (by omega) (by rw [hl]; omega), hl, he]
  go_simp
set_option maxHeartbeats 400000 in
set_option maxRecDepth 100000 in
theorem lgthere_any (p : Option Addr) (l : List ByteArray) (k : Nat) (w : World) (h : LP w p l k) :
    Calls Try.prog 22 #[.pointer p] w fun e w' => e = .returned (.slice p l.length (lgC p)) ∧ ∃ q, w' = w.drewN q := by
  have h400 := h.small.1
  rcases h with ⟨rfl, rfl, rfl⟩ | ⟨b, rfl, C, hr, hC, _⟩
  · go_enter Try.func22, Try.ntmps22
    go_wp2
    go_ret
    exact ⟨rfl, 0, rfl⟩
  · have cn := (hr.cell 400).trans hC.cn
    clear hr hC
    generalize l.length = n at *
    have hs := fun W => slice_a400s b n W h400
    go_enter Try.func22, Try.ntmps22
    go_wp2_with fail
    go_quiet (fail)
    go_wp2
    go_ret
    exact ⟨rfl, _, rfl⟩
set_option maxHeartbeats 400000 in
set_option maxRecDepth 100000 in
theorem lgolds_any (p : Option Addr) (l : List ByteArray) (k : Nat) (w : World) (h : LP w p l k) :
    Calls Try.prog 23 #[.pointer p] w fun e w' => e = .returned (.slice p k (lgC p)) ∧ ∃ q, w' = w.drewN q := by
  have h400 := h.small.1
  have hk := h.small.2.1
  rcases h with ⟨rfl, rfl, rfl⟩ | ⟨b, rfl, C, hr, hC, _⟩
  · go_enter Try.func23, Try.ntmps23
    go_wp2
    go_ret
    exact ⟨rfl, 0, rfl⟩
  · have cn := (hr.cell 401).trans hC.cb
    clear hr hC
    have hs := fun W => slice_a400s b k W (by omega)
    go_enter Try.func23, Try.ntmps23
    go_wp2_with fail
    go_quiet (fail)
    go_wp2
    go_ret
    exact ⟨rfl, _, rfl⟩
set_option maxHeartbeats 400000 in
set_option maxRecDepth 100000 in
theorem lglen_any (p : Option Addr) (l : List ByteArray) (k : Nat) (w : World) (h : LP w p l k) :
    Calls Try.prog 14 #[.pointer p] w fun e w' => e = .returned (.int .i64 (l.length : Int)) ∧ ∃ q, w' = w.drewN q := by
  have Hth := Lib.hid (lgthere_any p l k w h)
  clear h
  generalize lgC p = c at *
  go_enter Try.func14, Try.ntmps14
  go_wp2_with fail
  refine Hth.out.mono ?_
  rintro e w1 ⟨rfl, q, rfl⟩
  go_wp2
  go_ret
  exact ⟨rfl, _, rfl⟩
set_option maxHeartbeats 400000 in
set_option maxRecDepth 100000 in
theorem lgbase_any (p : Option Addr) (l : List ByteArray) (k : Nat) (w : World) (h : LP w p l k) :
    Calls Try.prog 15 #[.pointer p] w fun e w' => e = .returned (.int .i64 (k : Int)) ∧ ∃ q, w' = w.drewN q := by
  have Hth := Lib.hid (lgolds_any p l k w h)
  clear h
  generalize lgC p = c at *
  go_enter Try.func15, Try.ntmps15
  go_wp2_with fail
  refine Hth.out.mono ?_
  rintro e w1 ⟨rfl, q, rfl⟩
  go_wp2
  go_ret
  exact ⟨rfl, _, rfl⟩
set_option maxHeartbeats 1000000 in
set_option maxRecDepth 100000 in
theorem lgnew_any (w : World) :
    Calls Try.prog 7 #[] w fun e w' => ∃ b, e = .returned (.pointer (some ⟨b, 0, none⟩)) ∧ LG w' b [] 0 ∧ w.heap.size ≤ b ∧ Below w.heap.size w w' := by
  have hz := logzero
  have hzn := logzero_ne
  have Hrc := Lib.hid LgC.new
  generalize hlz : logZ = C at *
  go_enter Try.func7, Try.ntmps7
  go_wp2
  go_ret
  exact ⟨_, rfl, ⟨C, Row.new w _ C, Hrc.out, fun s hs => by simp at hs⟩, Nat.le_refl _, (Below.refl _ _).alloc (Nat.le_refl _) _⟩
end Go.Proofs.Ytnaocegcnckhmaa
