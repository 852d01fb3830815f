/-
  A Ring of layer 18 (ring) in memory: its records in their places; New, Len, room, at, by their walks; nobody's Ring. Conditions: as each theorem's premises say.
-/
import Derived.Test.YtegoapmelilphaaQm
import Derived.Test.YtegoapmelilphaaQs
import Derived.Test.YtegoapmelilphaaEg
namespace Go.Proofs.Ytegoapmelilphaa
open Go.RowKit

/-- A new Ring's cells. -/
def ringZ (p : Int) : List Value := List.replicate 64 (.string ⟨#[]⟩) ++ [.int .i64 p, .int .i64 0, .int .i64 0]
set_option maxRecDepth 100000 in
theorem ringzero (W : World) : (zeroValue 37).run Try.prog W = .ok (.agg (ringZ 0).toArray) W := by kernel_rfl
theorem ringzero_set (p : Int) : (ringZ 0).toArray.setIfInBounds 64 (.int .i64 p) = (ringZ p).toArray := by
  rw [List.setIfInBounds_toArray]
  rfl
theorem ringzero_lt : ¬ (ringZ 0).toArray.size < 65 := by decide
theorem ringzero_ne : ¬ (ringZ 0).toArray = #[] := fun h => by
  have h1 := congrArg Array.toList h
  rw [List.toList_toArray, ringZ] at h1
  exact List.cons_ne_nil _ _ h1
theorem ringzero_size (p : Int) : (ringZ p).length = 67 := rfl
theorem ringzero_one (p : Int) : (ringZ p).toArray.all (·.oneCell') = true := by
  rw [Array.all_eq_true_iff_forall_mem]
  intro v hv
  rw [List.mem_toArray, ringZ, List.mem_append] at hv
  rcases hv with h | h
  · rw [(List.mem_replicate.1 h).2]; rfl
  · simp only [List.mem_cons, List.not_mem_nil, or_false] at h
    rcases h with h | h | h <;> (rw [h]; rfl)
theorem ring_info : (Try.prog.info? 37).map (·.size) = some 67 := by kernel_rfl

/-- The cells of a Ring of m places, the first record in place f. -/
structure RCells (C : List Value) (m f : Nat) (l : List ByteArray) : Prop where
  size : C.length = 67
  m1 : 1 ≤ m
  m64 : m ≤ 64
  f0 : f < m
  len : l.length ≤ m
  cp : C[64]? = some (.int .i64 (m : Int))
  cf : C[65]? = some (.int .i64 (f : Int))
  cn : C[66]? = some (.int .i64 (l.length : Int))
  cs : ∀ i (h : i < l.length), C[Bm.posR f m i]? = some (.string l[i])
  all : ∀ i, i < 64 → ∃ s, C[i]? = some (.string s)
theorem RCells.new (m : Nat) (h1 : 1 ≤ m) (h64 : m ≤ 64) : RCells (ringZ (m : Int)) m 0 [] :=
  ⟨rfl, h1, h64, h1, Nat.zero_le _, rfl, rfl, rfl, fun i h => absurd h (Nat.not_lt_zero _), fun i hi => ⟨⟨#[]⟩, by
    rw [ringZ, List.getElem?_append_left (by rw [List.length_replicate]; exact hi), List.getElem?_replicate_of_lt hi]⟩⟩
theorem rget_ne {α : Type} (l : List α) (i j : Nat) (x : α) (h : i ≠ j) : (l.set i x)[j]? = l[j]? := List.getElem?_set_ne h
theorem rget_eq {α : Type} (l : List α) (i : Nat) (x : α) (h : i < l.length) : (l.set i x)[i]? = some x := List.getElem?_set_self h
theorem RCells.pos {C : List Value} {m f : Nat} {l : List ByteArray} (h : RCells C m f l) (i : Nat) (hi : i ≤ m) : Bm.posR f m i < 64 := by
  have h1 := Bm.posR_lt f m i h.f0 hi
  have h2 := h.m64
  omega
/-- One more, where there is room. -/
theorem RCells.grow {C : List Value} {m f : Nat} {l : List ByteArray} (h : RCells C m f l) (s : ByteArray) (hl : l.length < m) :
    RCells ((C.set (Bm.posR f m l.length) (.string s)).set 66 (.int .i64 ((l.length + 1 : Nat) : Int))) m f (l ++ [s]) := by
  have hp := h.pos l.length (by omega)
  have hsz := h.size
  refine ⟨by rw [List.length_set, List.length_set, hsz], h.m1, h.m64, h.f0, by rw [List.length_append, List.length_singleton]; omega, ?_, ?_, ?_, fun i hi => ?_, fun i hi => ?_⟩
  · rw [rget_ne _ _ _ _ (by omega), rget_ne _ _ _ _ (by omega)]; exact h.cp
  · rw [rget_ne _ _ _ _ (by omega), rget_ne _ _ _ _ (by omega)]; exact h.cf
  · rw [rget_eq _ _ _ (by rw [List.length_set]; omega), List.length_append, List.length_singleton]
  · rw [List.length_append, List.length_singleton] at hi
    have hpi := h.pos i (by omega)
    rw [rget_ne _ _ _ _ (by omega)]
    by_cases hil : i = l.length
    · subst hil
      rw [rget_eq _ _ _ (by omega), List.getElem_append_right (Nat.le_refl _)]
      simp
    · rw [rget_ne _ _ _ _ (Ne.symm (Bm.posR_ne f m i l.length h.f0 (by omega) hl)), h.cs i (by omega), List.getElem_append_left (by omega)]
  · rw [rget_ne _ _ _ _ (by omega)]
    by_cases hip : Bm.posR f m l.length = i
    · subst hip; exact ⟨s, rget_eq _ _ _ (by omega)⟩
    · rw [rget_ne _ _ _ _ hip]; exact h.all i hi
/-- One more, where there is none: the first one goes. -/
theorem RCells.turn {C : List Value} {m f : Nat} {l : List ByteArray} (h : RCells C m f l) (s : ByteArray) (hl : l.length = m) :
    RCells ((C.set f (.string s)).set 65 (.int .i64 (Bm.posR f m 1 : Int))) m (Bm.posR f m 1) (l.drop 1 ++ [s]) := by
  have hf := h.f0
  have hm1 := h.m1
  have hm64 := h.m64
  have hsz := h.size
  have hlen : (l.drop 1 ++ [s]).length = m := by rw [List.length_append, List.length_singleton, List.length_drop]; omega
  refine ⟨by rw [List.length_set, List.length_set, hsz], hm1, hm64, Bm.posR_lt f m 1 hf hm1, by omega, ?_, ?_, ?_, fun i hi => ?_, fun i hi => ?_⟩
  · rw [rget_ne _ _ _ _ (by omega), rget_ne _ _ _ _ (by omega)]; exact h.cp
  · rw [rget_eq _ _ _ (by rw [List.length_set]; omega)]
  · rw [rget_ne _ _ _ _ (by omega), rget_ne _ _ _ _ (by omega), h.cn, hlen, hl]
  · rw [hlen] at hi
    have hpi := Bm.posR_lt (Bm.posR f m 1) m i (Bm.posR_lt f m 1 hf hm1) (by omega)
    rw [rget_ne _ _ _ _ (by omega)]
    by_cases him : i + 1 < m
    · rw [Bm.posR_one f m i hf him]
      have h2 := Bm.posR_ne f m 0 (i + 1) hf (by omega) him
      rw [show Bm.posR f m 0 = f by unfold Bm.posR; rw [if_pos (by omega)]; rfl] at h2
      rw [rget_ne _ _ _ _ h2, h.cs (i + 1) (by omega), List.getElem_append_left (by rw [List.length_drop]; omega), List.getElem_drop]
      congr 3
      omega
    · rw [Bm.posR_end f m i hf (by omega), rget_eq _ _ _ (by omega), List.getElem_append_right (by rw [List.length_drop]; omega)]
      simp
  · rw [rget_ne _ _ _ _ (by omega)]
    by_cases hip : f = i
    · subst hip; exact ⟨s, rget_eq _ _ _ (by omega)⟩
    · rw [rget_ne _ _ _ _ hip]; exact h.all i hi

/-- A Ring at block b: m places, these records. -/
def RG (w : World) (b m : Nat) (l : List ByteArray) : Prop := ∃ C f, Row w b 37 C ∧ RCells C m f l ∧ ∀ s ∈ l, s.size ≤ 281474976710656
theorem RG.keep {w w' : World} {b m : Nat} {l : List ByteArray} (h : RG w b m l) (hb : w'.heap[b]? = w.heap[b]?) : RG w' b m l := by
  obtain ⟨C, f, h1, h2⟩ := h
  exact ⟨C, f, h1.keep hb, h2⟩
theorem RG.lt {w : World} {b m : Nat} {l : List ByteArray} (h : RG w b m l) : b < w.heap.size := by
  obtain ⟨C, f, h1, h2⟩ := h
  exact h1.lt
theorem RG.below {w w' : World} {b m : Nat} {l : List ByteArray} (h : RG w b m l) (hb : Below w.heap.size w w') : RG w' b m l := h.keep (hb.block b h.lt)
theorem RG.small {w : World} {b m : Nat} {l : List ByteArray} (h : RG w b m l) : 1 ≤ m ∧ m ≤ 64 ∧ l.length ≤ m ∧ ∀ s ∈ l, s.size ≤ 281474976710656 := by
  obtain ⟨C, f, h1, h2, h3⟩ := h
  exact ⟨h2.m1, h2.m64, h2.len, h3⟩
/-- A contract that leaves the world as it is, in a region that draws its order. -/
theorem quiet_leftS {P : Program} {f : FuncId} {args : Array Value} {w : World} {n : Nat} {v : Value}
    (h : Calls P f args (w.drewN n) fun e w' => e = .returned v ∧ w.drewN n = w') : Calls P f args (w.drewN n) fun e w'' => e = .returned v ∧ ∃ m, w'' = w.drewN m :=
  h.mono fun _ _ ⟨he, hm⟩ => ⟨he, n, hm.symm⟩

set_option maxHeartbeats 400000 in
set_option maxRecDepth 100000 in
theorem ringroom_at (b m : Nat) (w : World) (h1 : 1 ≤ m) (h64 : m ≤ 64) (hc : w.cell? ⟨b, 64, none⟩ = some (.int .i64 (m : Int))) :
    Calls Try.prog 18 #[.pointer (some ⟨b, 0, none⟩)] w fun e w' => e = .returned (.int .i64 (m : Int)) ∧ w = w' := by
  have hmx : max (m : Int) 1 = (m : Int) := by omega
  go_enter Try.func18, Try.ntmps18
  go_wp2
  go_ret
  exact ⟨rfl, rfl⟩
set_option maxHeartbeats 400000 in
set_option maxRecDepth 100000 in
theorem ringat_any (b m f i : Nat) (w : World) (h1 : 1 ≤ m) (h64 : m ≤ 64) (hf : f < m) (hi : i ≤ m) (hc : w.cell? ⟨b, 64, none⟩ = some (.int .i64 (m : Int))) (hcf : w.cell? ⟨b, 65, none⟩ = some (.int .i64 (f : Int))) :
    Calls Try.prog 17 #[.pointer (some ⟨b, 0, none⟩), .int .i64 (i : Int)] w fun e w' => e = .returned (.int .i64 (Bm.posR f m i : Int)) ∧ ∃ k, w' = w.drewN k := by
  have Hr := Lib.hid (fun n => ringroom_at b m (w.drewN n) h1 h64 hc)
  have HR := Lib.hid (show (((f : Int) + (i : Int)) % (m : Int)) = (Bm.posR f m i : Int) by rw [← Bm.mod_posR f m i hf hi]; simp)
  clear hc
  go_enter Try.func17, Try.ntmps17
  go_wp2_with fail
  go_quiet ((go_at_call 18; exact quiet_leftS (Hr.out _)))
  go_wp2
  go_ret
  exact ⟨congrArg (fun x => Ending.returned (Value.int .i64 x)) HR.out, _, rfl⟩
set_option maxHeartbeats 400000 in
set_option maxRecDepth 100000 in
theorem ringlen_at (b m : Nat) (l : List ByteArray) (w : World) (h : RG w b m l) :
    Calls Try.prog 10 #[.pointer (some ⟨b, 0, none⟩)] w fun e w' => e = .returned (.int .i64 (l.length : Int)) ∧ w = w' := by
  obtain ⟨C, f, hr, hc, _⟩ := h
  have hn := (hr.cell 66).trans hc.cn
  clear hr hc
  go_enter Try.func10, Try.ntmps10
  go_wp2
  go_ret
  exact ⟨rfl, rfl⟩
set_option maxHeartbeats 400000 in
set_option maxRecDepth 100000 in
theorem ringlen_nil (w : World) : Calls Try.prog 10 #[.pointer none] w fun e w' => e = .returned (.int .i64 0) ∧ w = w' := by
  go_enter Try.func10, Try.ntmps10
  go_wp2
  go_ret
  exact ⟨rfl, rfl⟩
set_option maxHeartbeats 1000000 in
set_option maxRecDepth 100000 in
theorem ringnew_any (n : Int) (w : World) :
    Calls Try.prog 7 #[.int .i64 n] w fun e w' => ∃ b, e = .returned (.pointer (some ⟨b, 0, none⟩)) ∧ RG w' b (Bm.placesN n) [] ∧ w.heap.size ≤ b ∧ Below w.heap.size w w' := by
  obtain ⟨h1, h64, hmm⟩ := Bm.places_le n
  have hz := ringzero
  have hzs := ringzero_set (Bm.placesN n : Int)
  have hzn := ringzero_ne
  have hzl := ringzero_lt
  have Hrc := Lib.hid (RCells.new (Bm.placesN n) h1 h64)
  generalize ringZ (Bm.placesN n : Int) = C at *
  generalize (ringZ 0).toArray = Z at *
  generalize Bm.placesN n = m at *
  go_enter Try.func7, Try.ntmps7
  go_wp2
  go_ret
  exact ⟨_, rfl, ⟨C, _, Row.new w _ C, Hrc.out, fun s hs => by simp at hs⟩, Nat.le_refl _, (Below.refl _ _).alloc (Nat.le_refl _) _⟩
end Go.Proofs.Ytegoapmelilphaa
