/-
  Strings that the call owns, nil or a row; one more, or those that a slice reads as, behind them. Conditions: as each theorem's premises say.
-/
import Derived.Test.YtnaocegcnckhmaaQs
import Derived.Maps.Own
import Derived.Maps.OwnOps
import Derived.Deep.AppendLies
import Derived.Laws.AppendOwnNone
import Derived.Deep.RegionHeld3
namespace Go.Proofs.Ytnaocegcnckhmaa
open Go.RowKit
/-- Strings that the call owns, nil or a row. -/
def OwnS (w : World) (base : Nat) (v : Value) (l : List ByteArray) : Prop := w.ownsRow base 9 1 v l.length (strC l)
theorem ownS_nil (w : World) (base : Nat) : OwnS w base (.slice none 0 0) [] := ⟨rfl, .inl ⟨rfl, rfl⟩⟩
theorem OwnS.form {w : World} {base : Nat} {v : Value} {l : List ByteArray} (h : OwnS w base v l) : (v = .slice none 0 0 ∧ l = []) ∨ ∃ g cap post, v = .slice (some ⟨g, 0, none⟩) l.length cap ∧ base ≤ g ∧ l.length ≤ cap ∧ cap ≤ maxLen ∧ post.length + l.length = cap ∧ Row w g 9 (strC l ++ post) := by
  rcases h.2 with ⟨hv, h0⟩ | ⟨g, cap, cur, hv, hb, hh, h1, h2, h3, h4⟩
  · exact .inl ⟨hv, List.eq_nil_of_length_eq_zero h0⟩
  · have hcl : cur.toList.length = cur.size := Array.length_toList
    refine .inr ⟨g, cap, cur.toList.drop (l.length * 1), hv, hb, h1, h2, ?_, ?_⟩
    · rw [List.length_drop]
      omega
    · unfold Row
      rw [← h4, List.take_append_drop, Array.toArray_toList]
      exact hh
theorem ownS_of_row {w : World} {base g cap : Nat} {l : List ByteArray} {post : List Value} (hb : base ≤ g) (hc : cap ≤ maxLen) (hp : post.length + l.length = cap) (hr : Row w g 9 (strC l ++ post)) : OwnS w base (.slice (some ⟨g, 0, none⟩) l.length cap) l := by
  have hl := strC_length l
  exact ⟨by rw [hl]; omega, .inr ⟨g, cap, (strC l ++ post).toArray, rfl, hb, hr, by omega, hc, by rw [List.size_toArray, List.length_append, hl]; omega, by rw [List.toList_toArray, Nat.mul_one, List.take_left' hl]⟩⟩
theorem OwnS.reads {w : World} {base : Nat} {v : Value} {l : List ByteArray} (h : OwnS w base v l) : ∃ A c, v = .slice A l.length c ∧ l.length ≤ c ∧ c ≤ maxLen ∧ Reads w A (strC l) := by
  rcases h.form with ⟨rfl, rfl⟩ | ⟨g, cap, post, rfl, _, h1, h2, _, hr⟩
  · exact ⟨none, 0, rfl, Nat.le_refl _, Nat.zero_le _, fun h => absurd rfl h⟩
  · refine ⟨_, cap, rfl, h1, h2, fun _ => ⟨g, 0, rfl, fun j hj => ?_⟩⟩
    rw [Nat.zero_add, hr.cell, List.getElem?_append_left hj]
theorem OwnS.keep {w w' : World} {base : Nat} {v : Value} {l : List ByteArray} (h : OwnS w base v l) (hk : ∀ g cs, base ≤ g → Row w g 9 cs → Row w' g 9 cs) : OwnS w' base v l := by
  rcases h.form with ⟨rfl, rfl⟩ | ⟨g, cap, post, rfl, h0, h1, h2, h3, hr⟩
  · exact ownS_nil _ _
  · exact ownS_of_row h0 h2 h3 (hk g _ h0 hr)
theorem OwnS.below {w w' : World} {base : Nat} {v : Value} {l : List ByteArray} (h : OwnS w base v l) (hb : Below w.heap.size w w') : OwnS w' base v l := h.keep (fun _ _ _ hr => row_below hr hb)
theorem OwnS.low {w : World} {base base' : Nat} {v : Value} {l : List ByteArray} (h : OwnS w base v l) (hb : base' ≤ base) : OwnS w base' v l := by
  rcases h.form with ⟨rfl, rfl⟩ | ⟨g, cap, post, rfl, h0, h1, h2, h3, hr⟩
  · exact ownS_nil _ _
  · exact ownS_of_row (Nat.le_trans hb h0) h2 h3 hr
theorem OwnS.block {w : World} {base : Nat} {v : Value} {l : List ByteArray} (h : OwnS w base v l) {b : Nat} (hb : v.ownBlock = some b) : base ≤ b ∧ ∃ cs, Row w b 9 cs := by
  rcases h.form with ⟨rfl, rfl⟩ | ⟨g, cap, post, rfl, h0, _, _, _, hr⟩
  · cases hb
  · have : g = b := by simpa [Value.ownBlock] using hb
    subst this
    exact ⟨h0, _, hr⟩
/-- One text more, behind strings that the call owns: at the operation. -/
theorem wpS_append {w0 : World} {ops : Array Oper} {rest : List Oper} {o : Oper} {a : Act} {Q : Exit → Act → World → Prop} (t : ByteArray)
    (hg : o.guard = none) (s x : Operand) (ho : o.op = .call { callee := .builtin .append, args := #[s, x], argTypes := #[27, 27] }) (base : Nat) (v : Value) (T : List ByteArray) (hs : a.eval s = v)
    (hown : OwnS w0 base v T) (hx : a.eval x = .slice (some ⟨w0.heap.size, 0, none⟩) 1 1) (hl : T.length ≤ 1000000) (hb : base ≤ w0.heap.size)
    (hK : ∀ v' w', OwnS w' base v' (T ++ [t]) → Below base w0 w' → wpList Try.prog ops Q rest (a.put o.dst v') w') : wpList Try.prog ops Q (o :: rest) a (w0.alloc (.cells #[.string t] 9)) := by
  obtain ⟨i0, hi, hz0, hz1, hz2⟩ := info_parts info_str1
  have h78 : Below w0.heap.size w0 (w0.alloc (.cells #[.string t] 9)) := (Below.refl _ _).alloc (Nat.le_refl _) _
  refine wpList_append_lies _ hg s x 27 ho base 9 i0 (.string ⟨#[]⟩) 1 16 Try.underlying27 hi hz0 hz1 hz2 rfl (by decide) v T.length (strC T) hs (hown.alloc _) ⟨w0.heap.size, 0, none⟩ 1 1 [.string t] hx rfl ?_ ?_ (by decide) ?_ ?_ ?_ _ rfl ?_
  · intro j u hj
    match j, hj with
    | 0, hj => simp at hj; subst hj; simp [Addr.add]
  · intro u hu; simp at hu; subst hu; rfl
  · unfold maxLen; omega
  · omega
  · simpa using Nat.le_trans hb (Nat.le_succ _)
  · intro g8 cap8 w8 hown8 hgr8 _ _
    refine hK _ w8 ?_ ?_
    · unfold OwnS
      rw [List.length_append, List.length_singleton]
      have e : strC (T ++ [t]) = strC T ++ [Value.string t] := by simp [strC]
      rw [e]
      exact hown8
    · exact (h78.mono hb).grown hgr8 (Nat.le_trans hb h78.size) (fun b e => ((hown.below h78).block e).1)
/-- Strings behind strings: 'append(s, x...)', x read where it lies, nil or not. -/
theorem wpS_appends {w : World} {ops : Array Oper} {rest : List Oper} {o : Oper} {a : Act} {Q : Exit → Act → World → Prop} (hgd : o.guard = none) (s x : Operand)
    (ho : o.op = .call { callee := .builtin .append, args := #[s, x], argTypes := #[27, 27] }) (base : Nat) (v : Value) (B : Option Addr) (n c : Nat) (T S : List ByteArray) (hs : a.eval s = v) (hx : a.eval x = .slice B n c)
    (hn : n = S.length) (hown : OwnS w base v T) (hr : Reads w B (strC S)) (hB : B = none → n = 0 ∧ c = 0) (hl : T.length + S.length ≤ 1000000) (hb : base ≤ w.heap.size)
    (hK : ∀ v' w', OwnS w' base v' (T ++ S) → w.grownBy w' v.ownBlock → wpList Try.prog ops Q rest (a.put o.dst v') w') : wpList Try.prog ops Q (o :: rest) a w := by
  obtain ⟨i0, hi, hz0, hz1, hz2⟩ := info_parts info_str1
  subst hn
  have hnx : ∀ v' w', w'.ownsRow base 9 1 v' (T.length + S.length) (strC T ++ strC S) → w.grownBy w' v.ownBlock → wpList Try.prog ops Q rest (a.put o.dst v') w' := fun v' w' h1 h2 => hK v' w' (by
    unfold OwnS
    rw [List.length_append, show strC (T ++ S) = strC T ++ strC S by simp [strC]]
    exact h1) h2
  cases B with
  | none =>
    obtain ⟨h0, rfl⟩ := hB rfl
    obtain rfl : S = [] := List.eq_nil_of_length_eq_zero h0
    refine wpList_append_own_none hgd s x 27 ho base 9 i0 1 Try.underlying27 hi v T.length (strC T) hs hown hx (hnx v w ?_ (grown_refl _ _))
    rw [show strC [] = [] from rfl, List.append_nil]
    exact hown
  | some ad =>
    refine wpList_append_own (P := Try.prog) w hgd s x 27 ho base 9 i0 (.string ⟨#[]⟩) 1 16 Try.underlying27 hi hz0 hz1 hz2 rfl (by decide) v T.length (strC T) hs hown ad S.length c (strC S) hx (by rw [strC_length, Nat.mul_one]) (fun j u hj => ?_) (fun u hu => ?_) (by unfold maxLen; omega) (by omega) hb (fun v' w' a b _ => hnx v' w' a b)
    · have hjl : 0 < S.length := strC_nil (fun e => by rw [e] at hj; simp at hj)
      obtain ⟨g, off, e, _⟩ := reads_str hr hjl
      injection e with e
      subst e
      exact reads_news hr j u hj
    · obtain ⟨y, _, rfl⟩ := List.mem_map.1 hu
      rfl
end Go.Proofs.Ytnaocegcnckhmaa
