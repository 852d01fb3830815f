/-
  The reference of layer 21 (epochs), by its walks: its Store in memory (three slices of its own behind one pointer); count, Has, All. Conditions: as each theorem's premises say.
-/
import Derived.Test.YtdaobbhgmjdooaaIm
import Derived.Test.YtdaobbhgmjdooaaQs
import Derived.Deep.AppendLies
import Derived.Laws.OwnMore
namespace Go.Proofs.Ytdaobbhgmjdooaa
open Go.RowKit

/-- The cells of a list of bools. -/
def booC (l : List Bool) : List Value := l.map Value.bool
theorem booC_length (l : List Bool) : (booC l).length = l.length := by simp [booC]
theorem booC_get? (l : List Bool) (i : Nat) (h : i < l.length) : (booC l)[i]? = some (.bool l[i]) := by simp [booC, h]
theorem reads_boo {w : World} {A : Option Addr} {l : List Bool} (h : Reads w A (booC l)) (hne : 0 < l.length) : ∃ g off, A = some ⟨g, off, none⟩ ∧ ∀ j (hj : j < l.length), w.cell? ⟨g, off + j, none⟩ = some (.bool l[j]) := by
  obtain ⟨g, off, e, hc⟩ := h (by intro e; have := congrArg List.length e; rw [booC_length, List.length_nil] at this; omega)
  exact ⟨g, off, e, fun j hj => by rw [hc j (by rw [booC_length]; exact hj), booC_get? l j hj]⟩
theorem reads_i6 {w : World} {A : Option Addr} {l : List Nat} (h : Reads w A (i64s l)) (hne : 0 < l.length) : ∃ g off, A = some ⟨g, off, none⟩ ∧ ∀ j (hj : j < l.length), w.cell? ⟨g, off + j, none⟩ = some (.int .i64 (l[j] : Int)) := by
  obtain ⟨g, off, e, hc⟩ := h (by intro e; have := congrArg List.length e; rw [i64s_length, List.length_nil] at this; omega)
  exact ⟨g, off, e, fun j hj => by rw [hc j (by rw [i64s_length]; exact hj), i64s_get? l j hj]⟩

/-- Is a block a row of strings, bools or ints? -/
def OwnT (w : World) (k : Nat) : Prop := ∃ t cs fz, w.heap[k]? = some (.cells cs t fz) ∧ (t = 9 ∨ t = 4 ∨ t = 3)
/-- Only block p, and rows of strings, bools, ints from base on, and new blocks have changed. -/
structure KeptE (base p : Nat) (w w' : World) : Prop where
  os : w'.os = w.os
  tape : w'.tape = w.tape
  output : w'.output = w.output
  size : w.heap.size ≤ w'.heap.size
  block : ∀ k, k < w.heap.size → k ≠ p → (k < base ∨ ¬ OwnT w k) → w'.heap[k]? = w.heap[k]?
section
variable {base p : Nat} {w w' w'' : World}
theorem KeptE.refl (base p : Nat) (w : World) : KeptE base p w w := ⟨rfl, rfl, rfl, Nat.le_refl _, fun _ _ _ _ => rfl⟩
theorem KeptE.trans (h : KeptE base p w w') (h' : KeptE base p w' w'') : KeptE base p w w'' :=
  ⟨h'.os.trans h.os, h'.tape.trans h.tape, h'.output.trans h.output, Nat.le_trans h.size h'.size, fun k hk hp ho => by
    have e := h.block k hk hp ho
    refine (h'.block k (Nat.lt_of_lt_of_le hk h.size) hp ?_).trans e
    rcases ho with ho | ho
    · exact Or.inl ho
    · refine Or.inr fun ⟨t, cs, fz, h1, h2⟩ => ho ⟨t, cs, fz, e.symm.trans h1, h2⟩⟩
theorem KeptE.of_below (h : Below w.heap.size w w') : KeptE base p w w' := ⟨h.os, h.tape, h.output, h.size, fun k hk _ _ => h.block k hk⟩
theorem KeptE.grown {row : Option Nat} (h : w.grownBy w' row) (hr : ∀ k, row = some k → k = p ∨ (base ≤ k ∧ OwnT w k)) : KeptE base p w w' :=
  ⟨h.os, h.tape, h.output, h.size, fun k hk hp ho => h.block k hk (fun e => by
    rcases hr k e.symm with h1 | ⟨h1, h2⟩
    · exact hp h1
    · rcases ho with h3 | h3
      · omega
      · exact h3 h2)⟩
theorem KeptE.below (h : KeptE base p w w') (hb : p < base) (hw : p ≤ w.heap.size) : Below p w w' :=
  ⟨h.os, h.tape, h.output, h.size, fun k hk => h.block k (by omega) (by omega) (Or.inl (by omega))⟩
theorem KeptE.row (h : KeptE base p w w') {k : Nat} {t : TypeId} {cs : List Value} (hr : Row w k t cs) (hp : k ≠ p) (h1 : t ≠ 9) (h2 : t ≠ 4) (h3 : t ≠ 3) : Row w' k t cs :=
  hr.keep (h.block k hr.lt hp (Or.inr fun ⟨t', cs', fz, e, ht⟩ => by
    unfold Row at hr
    rw [hr] at e
    simp only [Option.some.injEq, Obj.cells.injEq] at e
    rw [← e.2.1] at ht
    rcases ht with ht | ht | ht
    · exact h1 ht
    · exact h2 ht
    · exact h3 ht))
theorem KeptE.set_ {g i : Nat} (hp : g = p ∨ (base ≤ g ∧ OwnT w g)) (v : Value) : KeptE base p w (w.setCell ⟨g, i, none⟩ v) :=
  KeptE.grown (row := some g) (grown_set (grown_refl w (some g)) i v) (fun k e => by injection e with e; subst e; exact hp)
end
theorem own_ownT {w : World} {base n : Nat} {e : TypeId} {v : Value} {xs : List Value} (h : w.ownsRow base e 1 v n xs) (he : e = 9 ∨ e = 4 ∨ e = 3) : ∀ k, v.ownBlock = some k → base ≤ k ∧ OwnT w k := fun k hk => by
  rcases h.2 with ⟨rfl, _⟩ | ⟨g, cap, cur, rfl, hb, hg, _⟩
  · simp [Value.ownBlock] at hk
  · simp only [Value.ownBlock, Option.some.injEq] at hk
    subst hk
    exact ⟨hb, e, cur, (0, 0), hg, he⟩
theorem own_rowE {w : World} {base q n : Nat} {e t : TypeId} {v : Value} {xs cs : List Value} (h : w.ownsRow base e 1 v n xs) (hr : Row w q t cs) (ht : t ≠ e) : v.ownBlock ≠ some q := by
  intro hk
  rcases h.2 with ⟨rfl, _⟩ | ⟨g, cap, cur, rfl, _, hg, _⟩
  · simp [Value.ownBlock] at hk
  · simp only [Value.ownBlock, Option.some.injEq] at hk
    subst hk
    unfold Row at hr
    rw [hr] at hg
    simp only [Option.some.injEq, Obj.cells.injEq] at hg
    exact ht hg.2.1
theorem own_ownE {w : World} {base base' n n' : Nat} {e e' : TypeId} {v v' : Value} {xs xs' : List Value} (h : w.ownsRow base e 1 v n xs) (h' : w.ownsRow base' e' 1 v' n' xs') (ht : e ≠ e') : v.ownBlock = none ∨ v.ownBlock ≠ v'.ownBlock := by
  rcases h.2 with ⟨rfl, _⟩ | ⟨g, cap, cur, rfl, _, hg, _⟩
  · exact Or.inl rfl
  · right
    intro hk
    rcases h'.2 with ⟨rfl, _⟩ | ⟨g', cap', cur', rfl, _, hg', _⟩
    · simp [Value.ownBlock] at hk
    · simp only [Value.ownBlock, Option.some.injEq] at hk
      subst hk
      rw [hg] at hg'
      simp only [Option.some.injEq, Obj.cells.injEq] at hg'
      exact ht hg'.2.1

/-- The reference's Store at block p: texts, which are there, how often held. -/
structure RV (w : World) (p base : Nat) (vT vB vH : Value) (T : List ByteArray) (B : List Bool) (H : List Nat) : Prop where
  row : Row w p 31 [vT, vB, vH]
  oT : w.ownsRow base 9 1 vT T.length (strC T)
  oB : w.ownsRow base 4 1 vB B.length (booC B)
  oH : w.ownsRow base 3 1 vH H.length (i64s H)
  lt : p < base
  le : base ≤ w.heap.size
def RS (w : World) (p base : Nat) (R : List Bm.Rc) : Prop := ∃ vT vB vH, RV w p base vT vB vH (R.map (·.t)) (R.map (·.th)) (R.map (·.h))
section
variable {w w' : World} {p base : Nat} {vT vB vH : Value} {T : List ByteArray} {B : List Bool} {H : List Nat} {R : List Bm.Rc}
theorem RV.below (h : RV w p base vT vB vH T B H) (hb : Below w.heap.size w w') : RV w' p base vT vB vH T B H :=
  ⟨row_below h.row hb, own_below h.oT hb, own_below h.oB hb, own_below h.oH hb, h.lt, Nat.le_trans h.le hb.size⟩
theorem RS.below (h : RS w p base R) (hb : Below w.heap.size w w') : RS w' p base R := by
  obtain ⟨vT, vB, vH, h1⟩ := h
  exact ⟨vT, vB, vH, h1.below hb⟩
theorem RS.drewN (h : RS w p base R) (q : Nat) : RS (w.drewN q) p base R := by
  obtain ⟨vT, vB, vH, h1⟩ := h
  exact ⟨vT, vB, vH, h1.row, h1.oT, h1.oB, h1.oH, h1.lt, h1.le⟩
/-- A block that is none of its own is written to. -/
theorem RV.grown {b : Nat} (h : RV w p base vT vB vH T B H) (hg : w.grownBy w' (some b)) (hb : b < p) : RV w' p base vT vB vH T B H :=
  ⟨h.row.keep (hg.block p h.row.lt (by simp; omega)), h.oT.kept hg (Or.inr fun e => by have := (h.oT.lt b e).1; have := h.lt; omega), h.oB.kept hg (Or.inr fun e => by have := (h.oB.lt b e).1; have := h.lt; omega),
    h.oH.kept hg (Or.inr fun e => by have := (h.oH.lt b e).1; have := h.lt; omega), h.lt, Nat.le_trans h.le hg.size⟩
theorem RS.grown {b : Nat} (h : RS w p base R) (hg : w.grownBy w' (some b)) (hb : b < p) : RS w' p base R := by
  obtain ⟨vT, vB, vH, h1⟩ := h
  exact ⟨vT, vB, vH, h1.grown hg hb⟩
theorem RS.new (w : World) : RS (w.alloc (.cells #[.slice none 0 0, .slice none 0 0, .slice none 0 0] 31)) w.heap.size (w.heap.size + 1) [] :=
  ⟨_, _, _, Row.new w 31 [.slice none 0 0, .slice none 0 0, .slice none 0 0], World.ownsRow_nil _ _ _ _, World.ownsRow_nil _ _ _ _, World.ownsRow_nil _ _ _ _, Nat.lt_succ_self _, by simp⟩
/-- What one who reads sees. -/
theorem RV.reads (h : RV w p base vT vB vH T B H) : ∃ AT cT AB cB AH cH, vT = .slice AT T.length cT ∧ vB = .slice AB B.length cB ∧ vH = .slice AH H.length cH ∧ Reads w AT (strC T) ∧ Reads w AB (booC B) ∧ Reads w AH (i64s H) ∧
    w.cell? ⟨p, 0, none⟩ = some vT ∧ w.cell? ⟨p, 1, none⟩ = some vB ∧ w.cell? ⟨p, 2, none⟩ = some vH := by
  obtain ⟨AT, cT, e1, r1, _⟩ := own_reads h.oT
  obtain ⟨AB, cB, e2, r2, _⟩ := own_reads h.oB
  obtain ⟨AH, cH, e3, r3, _⟩ := own_reads h.oH
  exact ⟨AT, cT, AB, cB, AH, cH, e1, e2, e3, r1, r2, r3, h.row.cell 0, h.row.cell 1, h.row.cell 2⟩
end
/-- How many are there. -/
def cnR (R : List Bm.Rc) : Nat := (Bm.dlF 0 R).length
theorem cnR_take (R : List Bm.Rc) (k : Nat) (h : k < R.length) : cnR (R.take (k + 1)) = cnR (R.take k) + if R[k].th = true then 1 else 0 := by
  unfold cnR
  rw [List.take_succ_eq_append_getElem h, Bm.dlF_append, List.length_append]
  congr 1
  rw [Bm.dlF]
  split <;> rfl
theorem cnR_le (R : List Bm.Rc) (k : Nat) : cnR (R.take k) ≤ R.length := by
  unfold cnR
  have : ∀ q (S : List Bm.Rc), (Bm.dlF q S).length ≤ S.length := fun q S => by
    induction S generalizing q with
    | nil => exact Nat.le_refl _
    | cons r S ih =>
      rw [Bm.dlF]
      split
      · rw [List.length_cons, List.length_cons]; have := ih (q + 1); omega
      · rw [List.length_cons]; have := ih (q + 1); omega
  refine Nat.le_trans (this 0 _) ?_
  rw [List.length_take]
  omega
set_option maxHeartbeats 400000 in
set_option maxRecDepth 100000 in
theorem ercount_any (p base : Nat) (R : List Bm.Rc) (w : World) (hR : R.length ≤ 1000000) (h : RS w p base R) :
    Calls Try.prog 21 #[.pointer (some ⟨p, 0, none⟩)] w fun e w' => e = .returned (.int .i64 (cnR R : Int)) ∧ w = w' := by
  obtain ⟨vT, vB, vH, h1⟩ := h
  obtain ⟨AT, cT, AB, cB, AH, cH, rfl, rfl, rfl, r1, r2, r3, c0, c1, c2⟩ := h1.reads
  have Hrd := Lib.hid r2
  have hlB : (R.map (·.th)).length = R.length := List.length_map ..
  rw [hlB] at c1
  clear h1 r1 r2 r3 c0 c2 hlB
  go_enter Try.func21, Try.ntmps21
  go_wp2
  go_loop [3, 4] (fun n i => ∃ k : Nat, k ≤ R.length ∧ i = .int .i64 (k : Int) ∧ n = .int .i64 (cnR (R.take k) : Int)) (fun _ i => R.length - (intOf i).toNat)
  case atStart => exact ⟨0, Nat.zero_le _, rfl, rfl⟩
  case round =>
    obtain ⟨k, hk, rfl, rfl⟩ := hrel
    by_cases hkl : k < R.length
    · obtain ⟨g, off, rfl, hc⟩ := reads_boo Hrd.out (by rw [List.length_map]; omega)
      have k0 := hc k (by rw [List.length_map]; exact hkl)
      rw [List.getElem_map] at k0
      have hnx := cnR_take R k hkl
      have hle := cnR_le R k
      have Hnx := Lib.hid hnx
      have hkI : (k : Int) < (R.length : Int) := by omega
      clear hc hnx
      generalize cnR (R.take k) = n at *
      cases hth : R[k].th with
      | true =>
        rw [hth] at k0 Hnx
        clear hth
        go_wp2
        go_round
        case rel => exact ⟨k + 1, by omega, by go_num, by rw [Hnx.out]; go_num⟩
        case measure => simp [intOf]; omega
      | false =>
        rw [hth] at k0 Hnx
        clear hth
        go_wp2
        go_round
        case rel => exact ⟨k + 1, by omega, by go_num, by rw [Hnx.out]; rfl⟩
        case measure => simp [intOf]; omega
    · obtain rfl : k = R.length := by omega
      rw [List.take_length]
      go_wp2
      go_ret
      exact ⟨rfl, rfl⟩
set_option maxHeartbeats 400000 in
set_option maxRecDepth 100000 in
theorem erhas_any (p base : Nat) (R : List Bm.Rc) (x : Int) (w : World) (hx : Bm.IntOk x) (hR : R.length ≤ 1000000) (h : RS w p base R) :
    Calls Try.prog 8 #[.pointer (some ⟨p, 0, none⟩), .int .i64 x] w fun e w' => e = .returned (.bool (Bm.hasR x R)) ∧ w = w' := by
  obtain ⟨vT, vB, vH, h1⟩ := h
  obtain ⟨AT, cT, AB, cB, AH, cH, rfl, rfl, rfl, r1, r2, r3, c0, c1, c2⟩ := h1.reads
  have Hrd := Lib.hid r2
  have hlB : (R.map (·.th)).length = R.length := List.length_map ..
  rw [hlB] at c1
  obtain ⟨r, hr⟩ : ∃ r, r = Bm.hasR x R := ⟨_, rfl⟩
  rw [← hr]
  unfold Bm.hasR at hr
  obtain ⟨hx0, hx1⟩ := hx
  clear h1 r1 r2 r3 c0 c2 hlB
  by_cases h1 : 1 ≤ x
  · obtain ⟨i, rfl⟩ : ∃ i : Nat, x = (i : Int) + 1 := ⟨(x - 1).toNat, by omega⟩
    rw [show ((i : Int) + 1 - 1).toNat = i by omega, decide_eq_true h1, Bool.true_and] at hr
    by_cases hi : i < R.length
    · rw [List.getElem?_eq_getElem hi] at hr
      have hr2 : r = R[i].th := hr
      obtain ⟨g, off, rfl, hc⟩ := reads_boo Hrd.out (by rw [List.length_map]; omega)
      have k0 := hc i (by rw [List.length_map]; exact hi)
      rw [List.getElem_map, ← hr2] at k0
      have hd : decide ((i : Int) + 1 ≤ (R.length : Int)) = true := decide_eq_true (by omega)
      have hkI : (i : Int) < (R.length : Int) := by omega
      clear hc hr hr2 Hrd
      go_enter Try.func8, Try.ntmps8
      go_wp2
      go_ret
      exact ⟨rfl, rfl⟩
    · rw [List.getElem?_eq_none (by omega)] at hr
      have hr2 : r = false := hr
      subst hr2
      have hd : decide ((i : Int) + 1 ≤ (R.length : Int)) = false := decide_eq_false (by omega)
      clear hr Hrd
      go_enter Try.func8, Try.ntmps8
      go_wp2
      go_ret
      exact ⟨rfl, rfl⟩
  · rw [decide_eq_false h1, Bool.false_and] at hr
    subst hr
    have hd : decide (1 ≤ x) = false := decide_eq_false h1
    clear Hrd
    go_enter Try.func8, Try.ntmps8
    go_wp2
    go_ret
    exact ⟨rfl, rfl⟩
end Go.Proofs.Ytdaobbhgmjdooaa
