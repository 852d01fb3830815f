/-
  The reference of layer 26 (log), by its walks: its Log in memory (records of its own behind one pointer); Append, At, Truncate. Conditions: as each theorem's premises say.
-/
import Derived.Test.YtnaocegcnckhmaaJt
import Derived.Test.YtnaocegcnckhmaaOs
import Derived.RegionTactic
import Derived.Deep.AppendLies
namespace Go.Proofs.Ytnaocegcnckhmaa
open Go.RowKit

/-- Is a block a row of strings? -/
def StrT (w : World) (k : Nat) : Prop := ∃ cs fz, w.heap[k]? = some (.cells cs 9 fz)
/-- Only block p, and rows of strings from base on, and new blocks have changed. -/
structure KeptL (base p : Nat) (w w' : World) : Prop where
  os : w'.os = w.os
  tape : w'.tape = w.tape
  output : w'.output = w.output
  size : w.heap.size ≤ w'.heap.size
  block : ∀ k, k < w.heap.size → k ≠ p → (k < base ∨ ¬ StrT w k) → w'.heap[k]? = w.heap[k]?
section
variable {base p : Nat} {w w' w'' : World}
theorem KeptL.refl (base p : Nat) (w : World) : KeptL base p w w := ⟨rfl, rfl, rfl, Nat.le_refl _, fun _ _ _ _ => rfl⟩
theorem KeptL.trans (h : KeptL base p w w') (h' : KeptL base p w' w'') : KeptL base p w w'' :=
  ⟨h'.os.trans h.os, h'.tape.trans h.tape, h'.output.trans h.output, Nat.le_trans h.size h'.size, fun k hk hp ho => by
    have e := h.block k hk hp ho
    refine (h'.block k (Nat.lt_of_lt_of_le hk h.size) hp ?_).trans e
    rcases ho with ho | ho
    · exact Or.inl ho
    · exact Or.inr fun ⟨cs, fz, h1⟩ => ho ⟨cs, fz, e.symm.trans h1⟩⟩
theorem KeptL.grown {row : Option Nat} (h : w.grownBy w' row) (hr : ∀ k, row = some k → k = p ∨ (base ≤ k ∧ StrT w k)) : KeptL base p w w' :=
  ⟨h.os, h.tape, h.output, h.size, fun k hk hp ho => h.block k hk (fun e => by
    rcases hr k e.symm with h1 | ⟨h1, h2⟩
    · exact hp h1
    · rcases ho with h3 | h3
      · omega
      · exact h3 h2)⟩
theorem KeptL.below (h : KeptL base p w w') (B : Nat) (hp : B ≤ p) (hb : B ≤ base) (hw : B ≤ w.heap.size) : Below B w w' :=
  ⟨h.os, h.tape, h.output, h.size, fun k hk => h.block k (by omega) (by omega) (Or.inl (by omega))⟩
theorem KeptL.row (h : KeptL base p w w') {k : Nat} {t : TypeId} {cs : List Value} (hr : Row w k t cs) (hp : k ≠ p) (h1 : t ≠ 9) : Row w' k t cs :=
  hr.keep (h.block k hr.lt hp (Or.inr fun ⟨cs', fz, e⟩ => by
    unfold Row at hr
    rw [hr] at e
    simp only [Option.some.injEq, Obj.cells.injEq] at e
    exact h1 e.2.1))
end
theorem ownS_strT {w : World} {base : Nat} {v : Value} {l : List ByteArray} (h : OwnS w base v l) : ∀ k, v.ownBlock = some k → base ≤ k ∧ StrT w k := fun k hk => by
  obtain ⟨h1, cs, hr⟩ := h.block hk
  exact ⟨h1, _, _, hr⟩
theorem ownS_ne {w : World} {base q : Nat} {t : TypeId} {v : Value} {l : List ByteArray} {cs : List Value} (h : OwnS w base v l) (hr : Row w q t cs) (ht : t ≠ 9) : v.ownBlock ≠ some q := fun hk => by
  obtain ⟨_, cs', hr'⟩ := h.block hk
  unfold Row at hr hr'
  rw [hr] at hr'
  simp only [Option.some.injEq, Obj.cells.injEq] at hr'
  exact ht hr'.2.1

/-- The reference's Log at block p: these records, the first k of them old. -/
structure RLV (w : World) (p base : Nat) (v : Value) (l : List ByteArray) (k : Nat) : Prop where
  row : Row w p 29 [v, .int .i64 (k : Int)]
  own : OwnS w base v l
  lt : p < base
  le : base ≤ w.heap.size
  len : l.length ≤ 400
  old : k ≤ l.length
def RL (w : World) (p base : Nat) (l : List ByteArray) (k : Nat) : Prop := ∃ v, RLV w p base v l k
section
variable {w w' : World} {p base k : Nat} {l : List ByteArray} {v : Value}
theorem RL.below (h : RL w p base l k) (hb : Below w.heap.size w w') : RL w' p base l k := by
  obtain ⟨v, h⟩ := h
  exact ⟨v, row_below h.row hb, h.own.below hb, h.lt, Nat.le_trans h.le hb.size, h.len, h.old⟩
theorem RL.drewN (h : RL w p base l k) (q : Nat) : RL (w.drewN q) p base l k := by
  obtain ⟨v, h⟩ := h
  exact ⟨v, h.row, h.own, h.lt, h.le, h.len, h.old⟩
/-- A block that is none of its own is written to. -/
theorem RL.grown {b : Nat} {t : TypeId} {cs : List Value} (h : RL w p base l k) (hg : w.grownBy w' (some b)) (hr : Row w b t cs) (hb : b ≠ p) (ht : t ≠ 9) : RL w' p base l k := by
  obtain ⟨v, h⟩ := h
  refine ⟨v, h.row.keep (hg.block p h.row.lt (fun e => hb (by injection e with e; exact e.symm))), World.ownsRow.kept h.own hg (Or.inr fun e => ownS_ne h.own hr ht e), h.lt, Nat.le_trans h.le hg.size, h.len, h.old⟩
theorem RL.lt_ (h : RL w p base l k) : p < w.heap.size := by
  obtain ⟨v, h⟩ := h
  exact h.row.lt
theorem RL.new (w : World) : RL (w.alloc (.cells #[.slice none 0 0, .int .i64 0] 29)) w.heap.size (w.heap.size + 1) [] 0 :=
  ⟨_, Row.new w 29 [.slice none 0 0, .int .i64 0], ownS_nil _ _, Nat.lt_succ_self _, by simp, Nat.zero_le _, Nat.le_refl _⟩
/-- What one who reads sees. -/
theorem RL.reads (h : RL w p base l k) : ∃ A c, w.cell? ⟨p, 0, none⟩ = some (.slice A l.length c) ∧ w.cell? ⟨p, 1, none⟩ = some (.int .i64 (k : Int)) ∧ l.length ≤ c ∧ c ≤ maxLen ∧ Reads w A (strC l) ∧ l.length ≤ 400 ∧ k ≤ l.length := by
  obtain ⟨v, h⟩ := h
  obtain ⟨A, c, e, h1, h2, h3⟩ := h.own.reads
  exact ⟨A, c, e ▸ h.row.cell 0, h.row.cell 1, h1, h2, h3, h.len, h.old⟩
end

/-- One text more, behind strings that the call owns: only their block and new ones change. -/
theorem wpS_appendG {w0 : World} {ops : Array Oper} {rest : List Oper} {o : Oper} {a : Act} {Q : Exit → Act → World → Prop} (t : ByteArray)
    (hg : o.guard = none) (s x : Operand) (ho : o.op = .call { callee := .builtin .append, args := #[s, x], argTypes := #[27, 27] }) (base : Nat) (v : Value) (T : List ByteArray) (hs : a.eval s = v)
    (hown : OwnS w0 base v T) (hx : a.eval x = .slice (some ⟨w0.heap.size, 0, none⟩) 1 1) (hl : T.length ≤ 1000000) (hb : base ≤ w0.heap.size)
    (hK : ∀ g' c' w', OwnS w' base (.slice (some ⟨g', 0, none⟩) (T.length + 1) c') (T ++ [t]) → w0.grownBy w' v.ownBlock → wpList Try.prog ops Q rest (a.put o.dst (.slice (some ⟨g', 0, none⟩) (T.length + 1) c')) w') : wpList Try.prog ops Q (o :: rest) a (w0.alloc (.cells #[.string t] 9)) := by
  obtain ⟨i0, hi, hz0, hz1, hz2⟩ := info_parts info_str1
  have h78 : Below w0.heap.size w0 (w0.alloc (.cells #[.string t] 9)) := (Below.refl _ _).alloc (Nat.le_refl _) _
  refine wpList_append_lies _ hg s x 27 ho base 9 i0 (.string ⟨#[]⟩) 1 16 Try.underlying27 hi hz0 hz1 hz2 rfl (by decide) v T.length (strC T) hs (hown.alloc _) ⟨w0.heap.size, 0, none⟩ 1 1 [.string t] hx rfl ?_ ?_ (by decide) ?_ ?_ ?_ _ rfl ?_
  · intro j u hj
    match j, hj with
    | 0, hj => simp at hj; subst hj; simp [Addr.add]
  · intro u hu; simp at hu; subst hu; rfl
  · unfold maxLen; omega
  · omega
  · simpa using Nat.le_trans hb (Nat.le_succ _)
  · intro g8 cap8 w8 hown8 hgr8 _ _
    refine hK _ _ w8 ?_ ⟨hgr8.os.trans h78.os, hgr8.tape.trans h78.tape, hgr8.output.trans h78.output, Nat.le_trans h78.size hgr8.size, fun k hk hn => ?_⟩
    · unfold OwnS
      rw [List.length_append, List.length_singleton, show strC (T ++ [t]) = strC T ++ [Value.string t] by simp [strC]]
      exact hown8
    · exact (hgr8.block k (Nat.lt_of_lt_of_le hk h78.size) hn).trans (h78.block k hk)
/-- What becomes of it behind 'l.L = append(l.L, s)'. -/
theorem RLV.push {w w' : World} {p base k : Nat} {l : List ByteArray} {v v' : Value} (h : RLV w p base v l k) (s : ByteArray) (hl : l.length < 400) (hown : OwnS w' base v' (l ++ [s])) (hg : w.grownBy w' v.ownBlock) :
    Row w' p 29 [v, .int .i64 (k : Int)] ∧ RL (w'.setCell ⟨p, 0, none⟩ v') p base (l ++ [s]) k ∧ KeptL base p w (w'.setCell ⟨p, 0, none⟩ v') := by
  have hne : v.ownBlock ≠ some p := ownS_ne h.own h.row (by decide)
  have hr : Row w' p 29 [v, .int .i64 (k : Int)] := h.row.keep (hg.block p h.row.lt (fun e => hne e.symm))
  have hk1 : KeptL base p w w' := KeptL.grown hg (fun k hk => Or.inr (ownS_strT h.own k hk))
  have hk2 : KeptL base p w' (w'.setCell ⟨p, 0, none⟩ v') := KeptL.grown (grown_set (grown_refl w' (some p)) 0 v') (fun k e => Or.inl (by injection e with e; exact e.symm))
  refine ⟨hr, ⟨v', hr.set_ 0 v', World.ownsRow.kept hown (grown_set (grown_refl w' (some p)) 0 v') (Or.inr fun e => ownS_ne hown hr (by decide) e), h.lt, ?_, ?_, ?_⟩, hk1.trans hk2⟩
  · exact Nat.le_trans h.le (hk1.trans hk2).size
  · rw [List.length_append, List.length_singleton]; omega
  · rw [List.length_append]; have := h.old; omega
set_option maxHeartbeats 1000000 in
set_option maxRecDepth 100000 in
theorem rlgappend_any (p base : Nat) (l : List ByteArray) (k : Nat) (s : ByteArray) (w : World) (h : RL w p base l k) :
    Calls Try.prog 9 #[.pointer (some ⟨p, 0, none⟩), .string s] w fun e w' => e = .returned (.tuple #[.int .i64 ((Bm.lgApp l s).1 : Int), .int .i64 ((Bm.lgApp l s).2.1 : Int)]) ∧ RL w' p base (Bm.lgApp l s).2.2 k ∧ KeptL base p w w' := by
  have H := Lib.hid h
  by_cases hs : 512 < s.size
  · rw [Bm.lgApp_long l s hs]
    have hd : decide (512 < (s.size : Int)) = true := decide_eq_true (by omega)
    clear h
    go_enter Try.func9, Try.ntmps9
    go_wp2
    go_ret2
    exact ⟨rfl, H.out, KeptL.refl _ _ _⟩
  have hd : decide (512 < (s.size : Int)) = false := decide_eq_false (by omega)
  by_cases hf : l.length = 400
  · rw [Bm.lgApp_full l s hs hf]
    obtain ⟨A, c, c0, c1, _⟩ := h.reads
    rw [hf] at c0
    clear h
    go_enter Try.func9, Try.ntmps9
    go_wp2
    go_ret2
    exact ⟨rfl, H.out, KeptL.refl _ _ _⟩
  rw [Bm.lgApp_yes l s hs hf]
  obtain ⟨v, hV⟩ := h
  have h400 := hV.len
  obtain ⟨A, c, rfl, hc1, hc2, hrd⟩ := hV.own.reads
  have c0 := hV.row.cell 0
  simp only [List.getElem?_cons_zero] at c0
  have hfd : ((l.length : Int) == 400) = false := by rw [beq_eq_false_iff_ne]; omega
  have hfe : (l.length == 400) = false := by rw [beq_eq_false_iff_ne]; exact hf
  have HV := Lib.hid hV
  have hle := hV.le
  have hlt : l.length < 400 := by omega
  clear hV hrd H hf hs
  go_enter Try.func9, Try.ntmps9
  go_wp2_with (at_builtin; refine wpS_appendG s rfl _ _ rfl base (.slice A l.length c) l rfl HV.out.own rfl (by omega) hle ?_)
  intro g' c' w1 hown hg
  obtain ⟨hr1, hR, hK⟩ := HV.out.push s hlt hown hg
  have d0 := hr1.cell 0
  have f0 := hr1.free 0
  simp only [List.getElem?_cons_zero] at d0
  have HR := Lib.hid hR
  have HK := Lib.hid hK
  clear hr1 hR hK hown hg c0 HV
  go_wp2
  go_ret2
  exact ⟨by go_num, HR.out, HK.out⟩
set_option maxHeartbeats 1000000 in
set_option maxRecDepth 100000 in
theorem rlgat_any (p base : Nat) (l : List ByteArray) (k : Nat) (i : Int) (w : World) (h : RL w p base l k) :
    Calls Try.prog 13 #[.pointer (some ⟨p, 0, none⟩), .int .i64 i] w fun e w' => e = .returned (.tuple #[.string (Bm.lgAt l k i).1, .int .i64 ((Bm.lgAt l k i).2 : Int)]) ∧ w = w' := by
  obtain ⟨A, c, c0, c1, hc1, hc2, hrd, h400, hkl⟩ := h.reads
  have Hrd := Lib.hid hrd
  clear h hrd
  by_cases hi : 0 ≤ i ∧ i < (l.length : Int)
  · obtain ⟨j, rfl⟩ : ∃ j : Nat, i = (j : Int) := ⟨i.toNat, by omega⟩
    have hj : j < l.length := by omega
    have h0 : decide ((j : Int) < 0) = false := decide_eq_false (by omega)
    have h1 : decide ((l.length : Int) ≤ (j : Int)) = false := decide_eq_false (by omega)
    have h1' : decide (l.length ≤ j) = false := decide_eq_false (by omega)
    by_cases hk : j < k
    · rw [Bm.lgAt_old l k j hj hk]
      have h2 : decide ((j : Int) < (k : Int)) = true := decide_eq_true (by omega)
      have h2' : decide (j < k) = true := decide_eq_true hk
      clear hi hj hk hkl Hrd
      generalize l.length = n at *
      go_enter Try.func13, Try.ntmps13
      go_wp2
      go_ret2
      exact ⟨rfl, rfl⟩
    · rw [Bm.lgAt_yes l k j hj (by omega)]
      have h2 : decide ((j : Int) < (k : Int)) = false := decide_eq_false (by omega)
      have h2' : decide (j < k) = false := decide_eq_false hk
      obtain ⟨g, off, rfl, hc⟩ := reads_str Hrd.out (by omega)
      have c2 := hc j hj
      have hjI : (j : Int) < (l.length : Int) := by omega
      clear hi hk hkl hc Hrd
      generalize l[j] = s at *
      generalize l.length = n at *
      go_enter Try.func13, Try.ntmps13
      go_wp2
      go_ret2
      exact ⟨rfl, rfl⟩
  · rw [Bm.lgAt_none l k i hi]
    by_cases h0 : i < 0
    · have h0' : decide (i < 0) = true := decide_eq_true h0
      clear hi h0 Hrd
      go_enter Try.func13, Try.ntmps13
      go_wp2
      go_ret2
      exact ⟨rfl, rfl⟩
    · have h0' : decide (i < 0) = false := decide_eq_false h0
      have h1 : decide ((l.length : Int) ≤ i) = true := decide_eq_true (by omega)
      clear hi h0 Hrd
      generalize l.length = n at *
      go_enter Try.func13, Try.ntmps13
      go_wp2
      go_ret2
      exact ⟨rfl, rfl⟩
set_option maxHeartbeats 1000000 in
set_option maxRecDepth 100000 in
theorem rlgtrunc_any (p base : Nat) (l : List ByteArray) (k : Nat) (n : Int) (w : World) (h : RL w p base l k) :
    Calls Try.prog 11 #[.pointer (some ⟨p, 0, none⟩), .int .i64 n] w fun e w' => e = .returned (.bool (Bm.lgTr l k n).1) ∧ RL w' p base l (Bm.lgTr l k n).2 ∧ KeptL base p w w' := by
  obtain ⟨A, c, c0, c1, hc1, hc2, hrd, h400, hkl⟩ := h.reads
  have H := Lib.hid h
  clear hrd
  by_cases hn : (k : Int) < n ∧ n ≤ (l.length : Int)
  · obtain ⟨j, rfl⟩ : ∃ j : Nat, n = (j : Int) := ⟨n.toNat, by omega⟩
    rw [Bm.lgTr_yes l k j (by omega) (by omega)]
    obtain ⟨v, hV⟩ := h
    have f1 := hV.row.free 1
    have HR := Lib.hid (show RL (w.setCell ⟨p, 1, none⟩ (.int .i64 (j : Int))) p base l j from ⟨v, hV.row.set_ 1 _, World.ownsRow.kept hV.own (grown_set (grown_refl w (some p)) 1 _) (Or.inr fun e => ownS_ne hV.own hV.row (by decide) e), hV.lt, by simpa using hV.le, hV.len, by omega⟩)
    have HK := Lib.hid (show KeptL base p w (w.setCell ⟨p, 1, none⟩ (.int .i64 (j : Int))) from KeptL.grown (grown_set (grown_refl w (some p)) 1 _) (fun k e => Or.inl (by injection e with e; exact e.symm)))
    have h0 : decide ((j : Int) ≤ (k : Int)) = false := decide_eq_false (by omega)
    have h0' : decide (j ≤ k) = false := decide_eq_false (by omega)
    have h1 : decide ((l.length : Int) < (j : Int)) = false := decide_eq_false (by omega)
    have h1' : decide (l.length < j) = false := decide_eq_false (by omega)
    clear hV hn H
    generalize l.length = m at *
    go_enter Try.func11, Try.ntmps11
    go_wp2
    go_ret
    exact ⟨rfl, HR.out, HK.out⟩
  · rw [Bm.lgTr_no l k n hn]
    clear h
    generalize hm : l.length = m at *
    by_cases h0 : n ≤ (k : Int)
    · have h0' : decide (n ≤ (k : Int)) = true := decide_eq_true h0
      clear hn h0 hkl
      go_enter Try.func11, Try.ntmps11
      go_wp2
      go_ret
      exact ⟨rfl, H.out, KeptL.refl _ _ _⟩
    · have h0' : decide (n ≤ (k : Int)) = false := decide_eq_false h0
      have h1' : decide ((m : Int) < n) = true := decide_eq_true (by omega)
      clear hn h0 hkl
      go_enter Try.func11, Try.ntmps11
      go_wp2
      go_ret
      exact ⟨rfl, H.out, KeptL.refl _ _ _⟩
end Go.Proofs.Ytnaocegcnckhmaa
