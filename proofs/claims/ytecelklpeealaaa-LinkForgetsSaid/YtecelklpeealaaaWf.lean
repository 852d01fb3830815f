/-
  The reference of layer 22 (pipe), by its walks: its Pipe in memory; New, Room, Send, Clear, Take. Conditions: as each theorem's premises say (up to a million bytes).
-/
import Derived.Test.YtecelklpeealaaaXm
import Derived.Test.YtecelklpeealaaaWq
import Derived.Test.YtecelklpeealaaaSc
import Derived.ChangeAlike
import Derived.Deep.RegionHeld3
import Derived.Deep.DeepCutAuto
namespace Go.Proofs.Ytecelklpeealaaa
open Go.RowKit

/-- Of the blocks ahead of B0 only p and one other have changed. -/
structure KeptQ (p : Nat) (qo : Option Nat) (B0 : Nat) (w w' : World) : Prop where
  os : w'.os = w.os
  tape : w'.tape = w.tape
  output : w'.output = w.output
  size : w.heap.size ≤ w'.heap.size
  block : ∀ k, k < B0 → k ≠ p → qo ≠ some k → w'.heap[k]? = w.heap[k]?
section
variable {p : Nat} {qo : Option Nat} {B0 : Nat} {w w' w'' : World}
theorem KeptQ.refl (p : Nat) (qo : Option Nat) (B0 : Nat) (w : World) : KeptQ p qo B0 w w := ⟨rfl, rfl, rfl, Nat.le_refl _, fun _ _ _ _ => rfl⟩
theorem KeptQ.trans (h : KeptQ p qo B0 w w') (h' : KeptQ p qo B0 w' w'') : KeptQ p qo B0 w w'' :=
  ⟨h'.os.trans h.os, h'.tape.trans h.tape, h'.output.trans h.output, Nat.le_trans h.size h'.size, fun k hk hp ho => (h'.block k hk hp ho).trans (h.block k hk hp ho)⟩
theorem KeptQ.of_below (h : Below w.heap.size w w') (hB : B0 ≤ w.heap.size) : KeptQ p qo B0 w w' := ⟨h.os, h.tape, h.output, h.size, fun k hk _ _ => h.block k (Nat.lt_of_lt_of_le hk hB)⟩
theorem KeptQ.grown {row : Option Nat} (h : w.grownBy w' row) (hB : B0 ≤ w.heap.size) (hr : ∀ k, row = some k → k = p ∨ qo = some k ∨ B0 ≤ k) : KeptQ p qo B0 w w' :=
  ⟨h.os, h.tape, h.output, h.size, fun k hk hp ho => h.block k (Nat.lt_of_lt_of_le hk hB) (fun e => by
    rcases hr k e.symm with h1 | h1 | h1
    · exact hp h1
    · exact ho h1
    · omega)⟩
theorem KeptQ.drewN (h : KeptQ p qo B0 w w') (q : Nat) : KeptQ p qo B0 w (w'.drewN q) := ⟨h.os, h.tape, h.output, h.size, h.block⟩
theorem KeptQ.ofp (hg : w.grownBy w' (some p)) (hB : B0 ≤ w.heap.size) : KeptQ p qo B0 w w' := KeptQ.grown hg hB (fun k hk => Or.inl (by injection hk with hk; exact hk.symm))
/-- What lies ahead of all that changed is as it was. -/
theorem KeptQ.below (h : KeptQ p qo B0 w w') {B : Nat} (h1 : B ≤ B0) (h2 : B ≤ p) (h3 : ∀ k, qo = some k → B ≤ k) : Below B w w' :=
  ⟨h.os, h.tape, h.output, h.size, fun k hk => h.block k (by omega) (by omega) (fun e => by have := h3 k e; omega)⟩
/-- A row of others is as it was. -/
theorem KeptQ.row (h : KeptQ p qo B0 w w') {k : Nat} {t : TypeId} {cs : List Value} (hr : Row w k t cs) (hB : k < B0) (hp : k ≠ p) (h1 : qo ≠ some k) : Row w' k t cs :=
  hr.keep (h.block k hB hp h1)
end

/-- The reference's Pipe at block p: how many there may be, what was sent, how much of it came, what came; the queue lies in block qo, or behind B0. -/
def RPi (w : World) (p base : Nat) (qo : Option Nat) (B0 M : Nat) (S : List Nat) (a : Nat) (K : List Int) : Prop :=
  ∃ v, Row w p 40 [.int .i64 (M : Int), .string (strOf S), .int .i64 (a : Int), v] ∧ QRow w base 3 v (K.map (Value.int .i64)) ∧ p < base ∧ base ≤ w.heap.size ∧ B0 ≤ w.heap.size ∧ ∀ k, v.ownBlock = some k → qo = some k ∨ B0 ≤ k
section
variable {w w' : World} {p base : Nat} {qo : Option Nat} {B0 M : Nat} {S : List Nat} {a : Nat} {K : List Int}
theorem RPi.below (h : RPi w p base qo B0 M S a K) (hb : Below w.heap.size w w') : RPi w' p base qo B0 M S a K := by
  obtain ⟨v, h1, h2, h3, h4, h5, h6⟩ := h
  exact ⟨v, h1.below hb, h2.below hb, h3, Nat.le_trans h4 hb.size, Nat.le_trans h5 hb.size, h6⟩
theorem RPi.drewN (h : RPi w p base qo B0 M S a K) (q : Nat) : RPi (w.drewN q) p base qo B0 M S a K := h
/-- A block ahead of its own is written to. -/
theorem RPi.grown {b : Nat} (h : RPi w p base qo B0 M S a K) (hg : w.grownBy w' (some b)) (hb : b < p) : RPi w' p base qo B0 M S a K := by
  obtain ⟨v, h1, h2, h3, h4, h5, h6⟩ := h
  refine ⟨v, h1.keep (hg.block p h1.lt (by simp; omega)), h2.keep fun k hk => ?_, h3, Nat.le_trans h4 hg.size, Nat.le_trans h5 hg.size, h6⟩
  obtain ⟨h5, cs, fz, h6⟩ := h2.ownT k hk
  refine hg.block k ?_ (by simp; omega)
  rcases Nat.lt_or_ge k w.heap.size with h7 | h7
  · exact h7
  · rw [Array.getElem?_eq_none h7] at h6; cases h6
theorem RPi.lt (h : RPi w p base qo B0 M S a K) : p < w.heap.size ∧ p < base ∧ base ≤ w.heap.size ∧ B0 ≤ w.heap.size := by
  obtain ⟨v, h1, h2, h3, h4, h5, h6⟩ := h
  exact ⟨h1.lt, h3, h4, h5⟩
theorem RPi.cells (h : RPi w p base qo B0 M S a K) : w.cell? ⟨p, 0, none⟩ = some (.int .i64 (M : Int)) ∧ w.cell? ⟨p, 1, none⟩ = some (.string (strOf S)) ∧ w.cell? ⟨p, 2, none⟩ = some (.int .i64 (a : Int)) ∧
    (∃ A c, w.cell? ⟨p, 3, none⟩ = some (.slice A K.length c)) ∧ (∀ i, w.frozen? ⟨p, i, none⟩ = false) := by
  obtain ⟨v, h1, h2, h3, h4, h5, h6⟩ := h
  obtain ⟨A, c, rfl⟩ := h2.shape
  rw [List.length_map] at h1
  exact ⟨h1.cell 0, h1.cell 1, h1.cell 2, ⟨A, c, h1.cell 3⟩, h1.free⟩
/-- A new Pipe's cells. -/
def rpZ (M : Nat) : List Value := [.int .i64 (M : Int), .string ⟨#[]⟩, .int .i64 0, .slice none 0 0]
theorem RPi.ofNew (h : Row w p 40 (rpZ M)) (h1 : p < base) (h2 : base ≤ w.heap.size) (h3 : B0 ≤ w.heap.size) : RPi w p base qo B0 M [] 0 [] :=
  ⟨.slice none 0 0, h, QRow.nil _ _ _, h1, h2, h3, fun k hk => by cases hk⟩
/-- Where the queue lies now; from here on. -/
theorem RPi.now (h : RPi w p base qo B0 M S a K) : ∃ q, RPi w p base q w.heap.size M S a K ∧ ∀ k, q = some k → base ≤ k ∧ k < w.heap.size ∧ (qo = some k ∨ B0 ≤ k) ∧ ∀ t cs, Row w k t cs → t = 3 := by
  obtain ⟨v, h1, h2, h3, h4, h5, h6⟩ := h
  refine ⟨v.ownBlock, ⟨v, h1, h2, h3, h4, Nat.le_refl _, fun k hk => Or.inl hk⟩, fun k hk => ?_⟩
  obtain ⟨h7, cs, fz, h8⟩ := h2.ownT k hk
  refine ⟨h7, ?_, h6 k hk, fun t cs2 hr => ?_⟩
  · rcases Nat.lt_or_ge k w.heap.size with h9 | h9
    · exact h9
    · rw [Array.getElem?_eq_none h9] at h8; cases h8
  · unfold Row at hr
    rw [h8] at hr
    simp only [Option.some.injEq, Obj.cells.injEq] at hr
    exact hr.2.1.symm
/-- Less is known of where the queue lies. -/
theorem RPi.weak {q1 : Option Nat} {B1 : Nat} (h : RPi w p base q1 B1 M S a K) (h1 : ∀ k, q1 = some k → qo = some k ∨ B0 ≤ k) (h2 : B0 ≤ B1) : RPi w p base qo B0 M S a K := by
  obtain ⟨v, g1, g2, g3, g4, g5, g6⟩ := h
  refine ⟨v, g1, g2, g3, g4, Nat.le_trans h2 g5, fun k hk => ?_⟩
  rcases g6 k hk with h3 | h3
  · exact h1 k h3
  · exact Or.inr (Nat.le_trans h2 h3)
/-- Another base, ahead of it. -/
theorem RPi.ahead (h : RPi w p base qo B0 M S a K) {b2 : Nat} (h1 : p < b2) (h2 : b2 ≤ base) : RPi w p b2 qo B0 M S a K := by
  obtain ⟨v, g1, g2, g3, g4, g5, g6⟩ := h
  refine ⟨v, g1, ?_, h1, by omega, g5, g6⟩
  rcases g2 with g2 | ⟨g, off, cap, cur, e1, e2, e3⟩
  · exact Or.inl g2
  · exact Or.inr ⟨g, off, cap, cur, e1, by omega, e3⟩
/-- What others leave of it: its block, and its queue's. -/
theorem RPi.keepQ (h : RPi w p base qo w.heap.size M S a K) (hp : w'.heap[p]? = w.heap[p]?) (hs : w.heap.size ≤ w'.heap.size) (hk : ∀ k, qo = some k → k < w.heap.size → w'.heap[k]? = w.heap[k]?) : RPi w' p base qo w'.heap.size M S a K := by
  obtain ⟨v, h1, h2, h3, h4, h5, h6⟩ := h
  have h10 : ∀ k, v.ownBlock = some k → k < w.heap.size := fun k hk2 => by
    obtain ⟨h7, cs, fz, h8⟩ := h2.ownT k hk2
    rcases Nat.lt_or_ge k w.heap.size with h9 | h9
    · exact h9
    · rw [Array.getElem?_eq_none h9] at h8; cases h8
  have h11 : ∀ k, v.ownBlock = some k → qo = some k := fun k hk2 => by
    rcases h6 k hk2 with h | h
    · exact h
    · have := h10 k hk2; omega
  exact ⟨v, h1.keep hp, h2.keep fun k hk2 => hk k (h11 k hk2) (h10 k hk2), h3, Nat.le_trans h4 hs, Nat.le_refl _, fun k hk2 => Or.inl (h11 k hk2)⟩
end

set_option maxHeartbeats 400000 in
set_option maxRecDepth 100000 in
theorem rpnew_any (n : Int) (w : World) :
    Calls Try.prog 24 #[.int .i64 n] w fun e w' => e = .returned (.pointer (some ⟨w.heap.size, 0, none⟩)) ∧ Row w' w.heap.size 40 (rpZ (Bm.mostN n)) ∧ Below w.heap.size w w' := by
  obtain ⟨h1, h2, hmm⟩ := Bm.most_le n
  have Hn := Lib.hid (Row.new w 40 (rpZ (Bm.mostN n)))
  by_cases ha : n < 1
  · have hM : Bm.mostN n = 1 := by omega
    rw [hM] at Hn ⊢
    clear hmm h1 h2 hM
    have hd : decide (n < 1) = true := decide_eq_true ha
    go_enter Try.func24, Try.ntmps24
    go_wp2
    go_ret
    exact ⟨rfl, Hn.out, (Below.refl _ _).alloc (Nat.le_refl _) _⟩
  · have hd : decide (n < 1) = false := decide_eq_false ha
    by_cases hb : 2048 < n
    · have hM : Bm.mostN n = 2048 := by omega
      rw [hM] at Hn ⊢
      clear hmm h1 h2 hM
      have hd2 : decide (2048 < n) = true := decide_eq_true hb
      go_enter Try.func24, Try.ntmps24
      go_wp2
      go_ret
      exact ⟨rfl, Hn.out, (Below.refl _ _).alloc (Nat.le_refl _) _⟩
    · have hd2 : decide (2048 < n) = false := decide_eq_false hb
      obtain ⟨m, rfl⟩ := Int.eq_ofNat_of_zero_le (show 0 ≤ n by omega)
      have hM : Bm.mostN (m : Int) = m := by omega
      rw [hM] at Hn ⊢
      clear hmm h1 h2 hM
      go_enter Try.func24, Try.ntmps24
      go_wp2
      go_ret
      exact ⟨rfl, Hn.out, (Below.refl _ _).alloc (Nat.le_refl _) _⟩
set_option maxHeartbeats 400000 in
set_option maxRecDepth 100000 in
theorem rproom_any (p base : Nat) (qo : Option Nat) (B0 M : Nat) (S : List Nat) (a : Nat) (K : List Int) (q : Nat) (w : World) (hM : M ≤ 2048) (hS : S.length ≤ 1000000) (ha : a ≤ S.length) (hq : q + (S.length - a) + K.length = M) (h : RPi w p base qo B0 M S a K) :
    Calls Try.prog 18 #[.pointer (some ⟨p, 0, none⟩)] w fun e w' => e = .returned (.int .i64 (q : Int)) ∧ ∃ k, w' = w.drewN k := by
  obtain ⟨c0, c1, c2, ⟨A, c, c3⟩, _⟩ := h.cells
  have hsz := strOf_size S
  have s1 : (S.length : Int) - (a : Int) = ((S.length - a : Nat) : Int) := by omega
  have s2 : (M : Int) - ((S.length - a : Nat) : Int) = ((M - (S.length - a) : Nat) : Int) := by omega
  have s3 : ((M - (S.length - a) : Nat) : Int) - (K.length : Int) = (q : Int) := by omega
  have b1 : S.length - a ≤ 2048 := by omega
  have b2 : M - (S.length - a) ≤ 2048 := by omega
  have b3 : q ≤ 2048 := by omega
  have b4 : K.length ≤ 2048 := by omega
  clear h hq ha
  generalize strOf S = ss at *
  generalize M - (S.length - a) = x2 at *
  generalize S.length - a = x1 at *
  generalize S.length = n at *
  generalize K.length = kl at *
  go_enter Try.func18, Try.ntmps18
  go_wp2_with fail
  go_quiet (fail)
  go_wp2
  go_ret
  exact ⟨rfl, _, rfl⟩
set_option maxHeartbeats 400000 in
set_option maxRecDepth 100000 in
theorem rpsend_no (p base : Nat) (qo : Option Nat) (B0 M : Nat) (S : List Nat) (a : Nat) (K : List Int) (q : Nat) (s : ByteArray) (w : World) (hM : M ≤ 2048) (hS : S.length ≤ 1000000) (ha : a ≤ S.length) (hq : q + (S.length - a) + K.length = M) (hs : q < s.size) (h : RPi w p base qo B0 M S a K) :
    Calls Try.prog 25 #[.pointer (some ⟨p, 0, none⟩), .string s] w fun e w' => e = .returned (.bool false) ∧ ∃ k, w' = w.drewN k := by
  have Hr := Lib.hid (rproom_any p base qo B0 M S a K q w hM hS ha hq h)
  have hd : decide ((q : Int) < (s.size : Int)) = true := decide_eq_true (by omega)
  clear h hM hS ha hq
  go_enter Try.func25, Try.ntmps25
  go_wp2_with fail
  refine Hr.out.mono ?_
  rintro e w1 ⟨rfl, k, rfl⟩
  go_wp2
  go_ret
  exact ⟨rfl, _, rfl⟩
set_option maxHeartbeats 400000 in
set_option maxRecDepth 100000 in
theorem rpinj_no (p base : Nat) (qo : Option Nat) (B0 M : Nat) (S : List Nat) (a : Nat) (K : List Int) (q : Nat) (s : ByteArray) (w : World) (hM : M ≤ 2048) (hS : S.length ≤ 1000000) (ha : a ≤ S.length) (hq : q + (S.length - a) + K.length = M) (hs : q < s.size) (h : RPi w p base qo B0 M S a K) :
    Calls Try.prog 43 #[.pointer (some ⟨p, 0, none⟩), .string s] w fun e w' => e = .returned (.bool false) ∧ ∃ k, w' = w.drewN k := by
  have Hr := Lib.hid (rproom_any p base qo B0 M S a K q w hM hS ha hq h)
  have hd : decide ((q : Int) < (s.size : Int)) = true := decide_eq_true (by omega)
  clear h hM hS ha hq
  go_enter Try.func43, Try.ntmps43
  go_wp2_with fail
  refine Hr.out.mono ?_
  rintro e w1 ⟨rfl, k, rfl⟩
  go_wp2
  go_ret
  exact ⟨rfl, _, rfl⟩
set_option maxHeartbeats 400000 in
set_option maxRecDepth 100000 in
theorem rpsend_yes (p base : Nat) (qo : Option Nat) (B0 M : Nat) (S : List Nat) (a : Nat) (K : List Int) (q : Nat) (l : List Nat) (w : World) (hM : M ≤ 2048) (hS : S.length ≤ 1000000) (ha : a ≤ S.length) (hq : q + (S.length - a) + K.length = M) (hs : l.length ≤ q) (h : RPi w p base qo B0 M S a K) :
    Calls Try.prog 25 #[.pointer (some ⟨p, 0, none⟩), .string (strOf l)] w fun e w' => e = .returned (.bool true) ∧ RPi w' p base qo B0 M (S ++ l) a K ∧ w.grownBy w' (some p) := by
  have Hr := Lib.hid (rproom_any p base qo B0 M S a K q w hM hS ha hq h)
  have hsz := strOf_size l
  have hd : decide ((q : Int) < ((strOf l).size : Int)) = false := decide_eq_false (by rw [hsz]; omega)
  rw [hsz] at hd
  have hdn : decide (q < l.length) = false := decide_eq_false (by omega)
  have hadd := fun W => str_add S l (by omega) W
  obtain ⟨v, hrow, hQ, hpb, hbl, hB0, hqo⟩ := h
  have c1 := hrow.cell 1
  have f1 := hrow.free 1
  simp only [List.getElem?_cons_zero, List.getElem?_cons_succ] at c1
  have Hfin := Lib.hid (show RPi (w.setCell ⟨p, 1, none⟩ (.string (strOf (S ++ l)))) p base qo B0 M (S ++ l) a K from
    ⟨v, hrow.set_ 1 _, hQ.keep (fun k hk => Below.heap_setCell w ⟨p, 1, none⟩ _ k (by
      have := (hQ.ownT k hk).1
      show k ≠ p
      omega)), hpb, by simpa [World.setCell] using hbl, by simpa [World.setCell] using hB0, hqo⟩)
  clear hM hS ha hq hs hrow hQ hpb hbl hB0 hqo
  generalize strOf (S ++ l) = s2 at *
  generalize strOf S = s1 at *
  generalize strOf l = s at *
  go_enter Try.func25, Try.ntmps25
  go_wp2_with fail
  refine Hr.out.mono ?_
  rintro e w1 ⟨rfl, k, rfl⟩
  go_wp2
  go_ret
  exact ⟨rfl, Hfin.out.drewN k, grown_set (grown_drewN (grown_refl w _) k) 1 _⟩
set_option maxHeartbeats 400000 in
set_option maxRecDepth 100000 in
theorem rpclear_any (p base : Nat) (qo : Option Nat) (B0 M : Nat) (S : List Nat) (a : Nat) (K : List Int) (w : World) (h : RPi w p base qo B0 M S a K) :
    Calls Try.prog 31 #[.pointer (some ⟨p, 0, none⟩)] w fun e w' => e = .returned (.tuple #[]) ∧ Row w' p 40 (rpZ M) ∧ w.grownBy w' (some p) := by
  obtain ⟨v, hrow, hQ, hpb, hbl, hB0, hqo⟩ := h
  have c1 := hrow.cell 1
  have f1 := hrow.free 1
  have c2 := (hrow.set_ 1 (.string ⟨#[]⟩)).cell 2
  have f2 := (hrow.set_ 1 (.string ⟨#[]⟩)).free 2
  have c3 := ((hrow.set_ 1 (.string ⟨#[]⟩)).set_ 2 (.int .i64 0)).cell 3
  have f3 := ((hrow.set_ 1 (.string ⟨#[]⟩)).set_ 2 (.int .i64 0)).free 3
  simp only [List.set_cons_zero, List.set_cons_succ, List.getElem?_cons_zero, List.getElem?_cons_succ] at c1 c2 c3
  have Hfin := Lib.hid (show Row (((w.setCell ⟨p, 1, none⟩ (.string ⟨#[]⟩)).setCell ⟨p, 2, none⟩ (.int .i64 0)).setCell ⟨p, 3, none⟩ (.slice none 0 0)) p 40 (rpZ M) from ((hrow.set_ 1 _).set_ 2 _).set_ 3 _)
  have Hg := Lib.hid (grown_set (grown_set (grown_set (grown_refl w (some p)) 1 (.string ⟨#[]⟩)) 2 (.int .i64 0)) 3 (.slice none 0 0))
  clear hrow hQ hpb hbl hB0 hqo
  go_enter Try.func31, Try.ntmps31
  go_wp2
  go_end0
  exact ⟨rfl, Hfin.out, Hg.out⟩
set_option maxHeartbeats 400000 in
set_option maxRecDepth 100000 in
theorem rptake_none (p base : Nat) (qo : Option Nat) (B0 M : Nat) (S : List Nat) (a : Nat) (w : World) (h : RPi w p base qo B0 M S a []) :
    Calls Try.prog 28 #[.pointer (some ⟨p, 0, none⟩)] w fun e w' => e = .returned (.tuple #[.int .u8 0, .int .u64 0, .bool false, .bool false]) ∧ w = w' := by
  obtain ⟨c0, c1, c2, ⟨A, c, c3⟩, _⟩ := h.cells
  rw [List.length_nil] at c3
  clear h c0 c1 c2
  go_enter Try.func28, Try.ntmps28
  go_wp2
  refine bodyPost_ret (v := .tuple #[.int .u8 0, .int .u64 0, .bool false, .bool false]) (by simp [results, Try.results28, go_sem]) rfl ⟨rfl, rfl⟩
/-- What Take leaves. -/
theorem RPi.tail {w : World} {p base : Nat} {qo : Option Nat} {B0 M : Nat} {S : List Nat} {a : Nat} {k : Int} {K : List Int} (h : RPi w p base qo B0 M S a (k :: K)) : ∃ g off cap, w.cell? ⟨p, 3, none⟩ = some (.slice (some ⟨g, off, none⟩) (K.length + 1) cap) ∧ K.length + 1 ≤ cap ∧ cap ≤ maxLen ∧ w.cell? ⟨g, off, none⟩ = some (.int .i64 k) ∧
    RPi (w.setCell ⟨p, 3, none⟩ (.slice (if cap = 1 then some ⟨g, off, none⟩ else some ⟨g, off + 1, none⟩) K.length (cap - 1))) p base qo B0 M S a K := by
  obtain ⟨v, hrow, hQ, hpb, hbl, hB0, hqo⟩ := h
  rw [List.map_cons] at hQ
  obtain ⟨g, off, cap, rfl, h1, h2, h3, h4⟩ := hQ.head
  rw [List.length_map] at h1 h4 hrow
  refine ⟨g, off, cap, hrow.cell 3, h1, h2, h3, ⟨_, hrow.set_ 3 _, h4.keep (fun j hj => Below.heap_setCell w ⟨p, 3, none⟩ _ j ?_), hpb, by simpa [World.setCell] using hbl, by simpa [World.setCell] using hB0, fun k hk => hqo k (by split at hk <;> exact hk)⟩⟩
  have := (h4.ownT j hj).1
  show j ≠ p
  omega
set_option maxHeartbeats 400000 in
set_option maxRecDepth 100000 in
theorem rptake_put (p base : Nat) (qo : Option Nat) (B0 M : Nat) (S : List Nat) (a : Nat) (k : Int) (K : List Int) (x : Nat) (w : World) (hk : k < 0) (hx : k + 256 = (x : Int)) (hK : K.length ≤ 1000000) (h : RPi w p base qo B0 M S a (k :: K)) :
    Calls Try.prog 28 #[.pointer (some ⟨p, 0, none⟩)] w fun e w' => e = .returned (.tuple #[.int .u8 (x : Int), .int .u64 0, .bool false, .bool true]) ∧ RPi w' p base qo B0 M S a K ∧ w.grownBy w' (some p) := by
  have hf3 := h.cells.2.2.2.2 3
  obtain ⟨g, off, cap, c3, h1, h2, c4, hfin⟩ := h.tail
  have Hfin := Lib.hid hfin
  have hz : (((K.length + 1 : Nat) : Int) == 0) = false := by rw [beq_eq_false_iff_ne]; omega
  have hd : decide (k < 0) = true := decide_eq_true hk
  have Hwx := Lib.hid (show wrap64 (k + 256) % 256 = (x : Int) by rw [hx]; unfold wrap64; omega)
  unfold maxLen at h2
  clear h hfin hx
  by_cases h5 : cap = 1
  · subst h5
    obtain rfl : K = [] := List.eq_nil_of_length_eq_zero (by omega)
    rw [if_pos rfl, show 1 - 1 = 0 from rfl, List.length_nil] at Hfin
    rw [List.length_nil] at c3 hz
    go_enter Try.func28, Try.ntmps28
    go_wp2
    refine bodyPost_ret (v := .tuple #[.int .u8 (x : Int), .int .u64 0, .bool false, .bool true]) (by simp [results, Try.results28, go_sem]; exact Hwx.out) rfl ⟨rfl, Hfin.out, grown_set (grown_refl w _) 3 _⟩
  · rw [if_neg h5] at Hfin
    go_enter Try.func28, Try.ntmps28
    go_wp2
    refine bodyPost_ret (v := .tuple #[.int .u8 (x : Int), .int .u64 0, .bool false, .bool true]) (by simp [results, Try.results28, go_sem]; exact Hwx.out) rfl ⟨rfl, Hfin.out, grown_set (grown_refl w _) 3 _⟩
theorem quiet_leftQ {P : Program} {f : FuncId} {args : Array Value} {w : World} {n : Nat} {v : Value}
    (h : Calls P f args (w.drewN n) fun e w' => e = .returned v ∧ w.drewN n = w') : Calls P f args (w.drewN n) fun e w'' => e = .returned v ∧ ∃ m, w'' = w.drewN m :=
  h.mono fun _ _ ⟨he, hm⟩ => ⟨he, n, hm.symm⟩
set_option maxHeartbeats 1000000 in
set_option maxRecDepth 100000 in
theorem rptake_sent (p base : Nat) (qo : Option Nat) (B0 M : Nat) (S : List Nat) (a t : Nat) (K : List Int) (w : World) (ht : t < S.length) (hS : S.length ≤ 1000000) (hlt : ∀ x ∈ S, x < 256) (hK : K.length ≤ 1000000) (h : RPi w p base qo B0 M S a ((t : Int) :: K)) :
    Calls Try.prog 28 #[.pointer (some ⟨p, 0, none⟩)] w fun e w' => e = .returned (.tuple #[.int .u8 (S[t] : Int), .int .u64 (Bm.sumOf (S.take (t + 1)) : Int), .bool true, .bool true]) ∧ RPi w' p base qo B0 M S a K ∧ w.grownBy w' (some p) := by
  have hf3 := h.cells.2.2.2.2 3
  obtain ⟨g, off, cap, c3, h1, h2, c4, hfin⟩ := h.tail
  have Hfin := Lib.hid hfin
  have hz : (((K.length + 1 : Nat) : Int) == 0) = false := by rw [beq_eq_false_iff_ne]; omega
  have hd : decide ((t : Int) < 0) = false := decide_eq_false (by omega)
  have hsum : (t : Int) + 1 = ((t + 1 : Nat) : Int) := by omega
  have hsz := strOf_size S
  have hidx := fun W => index_at S t W ht (hlt _ (List.getElem_mem ht))
  have hcut := fun W => str_to S (t + 1) (by omega) W
  have Hof := Lib.hid (fun W => gof_any (S.take (t + 1)) W (by rw [List.length_take]; omega) (fun x hx => hlt x (List.mem_of_mem_take hx)))
  have hcs := hfin.cells.2.1
  have ht2 : t + 1 ≤ 1000000 := by omega
  unfold maxLen at h2
  clear h hlt
  generalize Bm.sumOf (S.take (t + 1)) = sl at *
  generalize strOf (S.take (t + 1)) = s2 at *
  generalize hxx : S[t] = x at *
  clear hxx
  generalize strOf S = ss at *
  generalize hsl : S.length = sn at *
  clear hsl
  generalize t + 1 = t1 at *
  by_cases h5 : cap = 1
  · subst h5
    obtain rfl : K = [] := List.eq_nil_of_length_eq_zero (by omega)
    rw [if_pos rfl, show 1 - 1 = 0 from rfl, List.length_nil] at Hfin hcs
    rw [List.length_nil] at c3 hz
    clear hfin
    have HG := Lib.hid (grown_set (grown_refl w (some p)) 3 (.slice (some ⟨g, off, none⟩) 0 0))
    go_enter Try.func28, Try.ntmps28
    go_upto_region 7 with fail
    clear hz hf3 c3 c4 h1 h2
    generalize w.setCell ⟨p, 3, none⟩ (.slice (some ⟨g, off, none⟩) 0 0) = w3 at *
    go_quiet ((go_at_call 40; exact quiet_leftQ (Hof.out _)))
    go_wp2
    refine bodyPost_ret (v := .tuple #[.int .u8 (x : Int), .int .u64 (sl : Int), .bool true, .bool true]) (by simp [results, Try.results28, go_sem]) rfl ⟨rfl, Hfin.out.drewN _, grown_drewN HG.out _⟩
  · rw [if_neg h5] at Hfin hcs
    clear hfin
    have HG := Lib.hid (grown_set (grown_refl w (some p)) 3 (.slice (some ⟨g, off + 1, none⟩) K.length (cap - 1)))
    go_enter Try.func28, Try.ntmps28
    go_upto_region 7 with fail
    clear hz hf3 c3 c4 h1 h2
    generalize w.setCell ⟨p, 3, none⟩ (.slice (some ⟨g, off + 1, none⟩) K.length (cap - 1)) = w3 at *
    go_quiet ((go_at_call 40; exact quiet_leftQ (Hof.out _)))
    go_wp2
    refine bodyPost_ret (v := .tuple #[.int .u8 (x : Int), .int .u64 (sl : Int), .bool true, .bool true]) (by simp [results, Try.results28, go_sem]) rfl ⟨rfl, Hfin.out.drewN _, grown_drewN HG.out _⟩
end Go.Proofs.Ytecelklpeealaaa
