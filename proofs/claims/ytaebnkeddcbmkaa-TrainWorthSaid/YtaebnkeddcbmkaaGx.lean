/-
  The program's layer 19 (train): slices.Clone at strings; counted: records as they count, by their walks. Conditions: as each theorem's premises say.
-/
import Derived.Test.YtaebnkeddcbmkaaQs
import Derived.Test.YtaebnkeddcbmkaaGa
import Derived.Test.YtaebnkeddcbmkaaGi
import Derived.Lib.SliceRun
import Derived.Lib.MinMax
namespace Go.Proofs.Ytaebnkeddcbmkaa
open Go.RowKit Go.Maps Go.Proofs.Ytaebnkeddcbmkaa.Bm
/-- Strings that the call owns, nil or a row. -/
def OwnS (w : World) (base : Nat) (v : Value) (l : List ByteArray) : Prop := w.ownsRow base 9 1 v l.length (strC l)
theorem ownS_nil (w : World) (base : Nat) : OwnS w base (.slice none 0 0) [] := ⟨rfl, .inl ⟨rfl, rfl⟩⟩
theorem OwnS.form {w : World} {base : Nat} {v : Value} {l : List ByteArray} (h : OwnS w base v l) : (v = .slice none 0 0 ∧ l = []) ∨ ∃ g cap post, v = .slice (some ⟨g, 0, none⟩) l.length cap ∧ base ≤ g ∧ l.length ≤ cap ∧ cap ≤ maxLen ∧ post.length + l.length = cap ∧ Row w g 9 (strC l ++ post) := by
  rcases h.2 with ⟨hv, h0⟩ | ⟨g, cap, cur, hv, hb, hh, h1, h2, h3, h4⟩
  · exact .inl ⟨hv, List.eq_nil_of_length_eq_zero h0⟩
  · have hcl : cur.toList.length = cur.size := Array.length_toList
    refine .inr ⟨g, cap, cur.toList.drop (l.length * 1), hv, hb, h1, h2, ?_, ?_⟩
    · rw [List.length_drop]
      omega
    · unfold Row
      rw [← h4, List.take_append_drop, Array.toArray_toList]
      exact hh
theorem ownS_of_row {w : World} {base g cap : Nat} {l : List ByteArray} {post : List Value} (hb : base ≤ g) (hc : cap ≤ maxLen) (hp : post.length + l.length = cap) (hr : Row w g 9 (strC l ++ post)) : OwnS w base (.slice (some ⟨g, 0, none⟩) l.length cap) l := by
  have hl := strC_length l
  exact ⟨by rw [hl]; omega, .inr ⟨g, cap, (strC l ++ post).toArray, rfl, hb, hr, by omega, hc, by rw [List.size_toArray, List.length_append, hl]; omega, by rw [List.toList_toArray, Nat.mul_one, List.take_left' hl]⟩⟩
theorem OwnS.reads {w : World} {base : Nat} {v : Value} {l : List ByteArray} (h : OwnS w base v l) : ∃ A c, v = .slice A l.length c ∧ l.length ≤ c ∧ c ≤ maxLen ∧ Reads w A (strC l) := by
  rcases h.form with ⟨rfl, rfl⟩ | ⟨g, cap, post, rfl, _, h1, h2, _, hr⟩
  · exact ⟨none, 0, rfl, Nat.le_refl _, Nat.zero_le _, fun h => absurd rfl h⟩
  · refine ⟨_, cap, rfl, h1, h2, fun _ => ⟨g, 0, rfl, fun j hj => ?_⟩⟩
    rw [Nat.zero_add, hr.cell, List.getElem?_append_left hj]
theorem OwnS.keep {w w' : World} {base : Nat} {v : Value} {l : List ByteArray} (h : OwnS w base v l) (hk : ∀ g cs, base ≤ g → Row w g 9 cs → Row w' g 9 cs) : OwnS w' base v l := by
  rcases h.form with ⟨rfl, rfl⟩ | ⟨g, cap, post, rfl, h0, h1, h2, h3, hr⟩
  · exact ownS_nil _ _
  · exact ownS_of_row h0 h2 h3 (hk g _ h0 hr)
theorem OwnS.keptQ {w w' : World} {base b2 : Nat} {v : Value} {l : List ByteArray} (h : OwnS w base v l) (hk : KeptQ b2 w w') : OwnS w' base v l := h.keep (fun _ _ _ hr => hk.row (by decide) (by decide) hr)
theorem OwnS.below {w w' : World} {base : Nat} {v : Value} {l : List ByteArray} (h : OwnS w base v l) (hb : Below w.heap.size w w') : OwnS w' base v l := h.keep (fun _ _ _ hr => row_below hr hb)
theorem OwnS.low {w : World} {base base' : Nat} {v : Value} {l : List ByteArray} (h : OwnS w base v l) (hb : base' ≤ base) : OwnS w base' v l := by
  rcases h.form with ⟨rfl, rfl⟩ | ⟨g, cap, post, rfl, h0, h1, h2, h3, hr⟩
  · exact ownS_nil _ _
  · exact ownS_of_row (Nat.le_trans hb h0) h2 h3 hr
theorem info_str1 : (Try.prog.info? 9).map (fun i => (i.zero, i.size, i.bytes)) = some (some (.string ⟨#[]⟩), 1, 16) := by kernel_rfl
set_option maxHeartbeats 400000 in
set_option maxRecDepth 100000 in
theorem sclones_some (g off c : Nat) (l : List ByteArray) (w : World) (h0 : 0 < l.length) (hn : l.length ≤ 1000000) (hrd : Reads w (some ⟨g, off, none⟩) (strC l)) :
    Calls Try.prog 26 #[.slice (some ⟨g, off, none⟩) l.length c] w fun e w' => ∃ u, e = .returned u ∧ OwnS w' w.heap.size u l ∧ Below w.heap.size w w' := by
  obtain ⟨i0, hi, hz0, hz1, hz2⟩ := info_parts info_str1
  have hg : g < w.heap.size := by
    obtain ⟨g', off', e, hc⟩ := reads_str hrd h0
    injection e with e
    injection e with e1 e2
    subst e1 e2
    exact World.block_lt_of_cell? w _ (hc 0 h0)
  have hown0 : (w.alloc (.cells #[] 9)).ownsRow w.heap.size 9 1 (.slice (some ⟨w.heap.size, 0, none⟩) 0 0) 0 [] := World.ownsRow_lit w #[] 0 (Nat.le_refl _) (by unfold maxLen; omega) rfl
  have hnews : ∀ j u, (strC l)[j]? = some u → (w.alloc (.cells #[] 9)).cell? ((⟨g, off, none⟩ : Addr).add j) = some u := by
    intro j u hj
    have h1 := reads_news (reads_on hrd ((Below.refl _ _).alloc (Nat.le_refl _) (.cells #[] 9))) j u hj
    exact h1
  have hnil : ∀ W, (binOp .eql 22 (.slice (some ⟨g, off, none⟩) l.length c) (.slice none 0 0)).run Try.prog W = .ok (.bool false) W := fun W => Lib.run_eql_slice_nil W _ _ _ _ _ _ _ Try.underlying22
  obtain ⟨n, hnl⟩ : ∃ n, n = l.length := ⟨_, rfl⟩
  rw [← hnl] at hnil hn h0 ⊢
  have Hnews := Lib.hid hnews
  have Hown0 := Lib.hid hown0
  have Hl := Lib.hid hnl
  clear hnews hown0 hrd hnl
  go_enter Try.func26, Try.ntmps26
  go_wp2_with (at_builtin; refine wpList_append_own _ rfl _ _ 22 rfl w.heap.size 9 i0 (.string ⟨#[]⟩) 1 16 Try.underlying22 hi hz0 hz1 hz2 rfl (by decide) _ _ _ rfl Hown0.out ⟨g, off, none⟩ n c (strC l) rfl ?c0 Hnews.out ?c2 ?c3 ?c4 ?c5 ?_)
  case c0 => rw [strC_length, Hl.out, Nat.mul_one]
  case c2 => intro u hu; simp [strC] at hu; obtain ⟨a, _, rfl⟩ := hu; rfl
  case c3 => unfold maxLen; omega
  case c4 => omega
  case c5 => simp
  intro v' w2 hown2 hgr2 _
  have hb2 : Below w.heap.size w w2 := ((Below.refl w.heap.size w).alloc (Nat.le_refl _) _).grown hgr2 (by simp) (fun k e => by
    have : k = w.heap.size := by simpa [Value.ownBlock] using e.symm
    rw [this]; exact Nat.le_refl _)
  have Hown : Hid (OwnS w2 w.heap.size v' l) := Lib.hid (by unfold OwnS; rw [← Hl.out]; simpa using hown2)
  have Hb := Lib.hid hb2
  clear hown2 hb2 hgr2 Hown0 Hnews
  go_wp2
  go_ret
  exact ⟨_, rfl, Hown.out, Hb.out⟩
set_option maxRecDepth 100000 in
theorem sclones_nil (c : Nat) (w : World) :
    Calls Try.prog 26 #[.slice none 0 c] w fun e w' => e = .returned (.slice none 0 0) ∧ w = w' := by
  have hnil : ∀ W, (binOp .eql 22 (.slice none 0 c) (.slice none 0 0)).run Try.prog W = .ok (.bool true) W := fun W => Lib.run_eql_slice_nil W _ _ _ _ _ _ _ Try.underlying22
  go_enter Try.func26, Try.ntmps26
  go_wp2
  go_ret
  exact ⟨rfl, rfl⟩
set_option maxRecDepth 100000 in
theorem sclones_zero (a : Addr) (c : Nat) (w : World) :
    Calls Try.prog 26 #[.slice (some a) 0 c] w fun e w' => ∃ u, e = .returned u ∧ OwnS w' w.heap.size u [] ∧ Below w.heap.size w w' := by
  have hnil : ∀ W, (binOp .eql 22 (.slice (some a) 0 c) (.slice none 0 0)).run Try.prog W = .ok (.bool false) W := fun W => Lib.run_eql_slice_nil W _ _ _ _ _ _ _ Try.underlying22
  go_enter Try.func26, Try.ntmps26
  go_wp2
  go_ret
  exact ⟨_, rfl, ownS_of_row (post := []) (Nat.le_refl _) (Nat.zero_le _) rfl (Row.new w 9 []), (Below.refl _ _).alloc (Nat.le_refl _) _⟩
/-- Any slice of strings, copied. -/
theorem sclones_any (A : Option Addr) (c : Nat) (l : List ByteArray) (w : World) (hn : l.length ≤ 1000000) (hrd : Reads w A (strC l)) :
    Calls Try.prog 26 #[.slice A l.length c] w fun e w' => ∃ u, e = .returned u ∧ OwnS w' w.heap.size u l ∧ Below w.heap.size w w' := by
  rcases Nat.eq_zero_or_pos l.length with h0 | h0
  · obtain rfl := List.eq_nil_of_length_eq_zero h0
    cases A with
    | none => exact (sclones_nil c w).mono (fun e w' ⟨he, hw⟩ => ⟨_, he, ownS_nil _ _, by rw [← hw]; exact Below.refl _ _⟩)
    | some a => exact sclones_zero a c w
  · obtain ⟨g, off, rfl, _⟩ := reads_str hrd h0
    exact sclones_some g off c l w h0 hn hrd
theorem OwnS.block {w : World} {base : Nat} {v : Value} {l : List ByteArray} (h : OwnS w base v l) {b : Nat} (hb : v.ownBlock = some b) : base ≤ b ∧ ∃ cs, Row w b 9 cs := by
  rcases h.form with ⟨rfl, rfl⟩ | ⟨g, cap, post, rfl, h0, _, _, _, hr⟩
  · cases hb
  · have : g = b := by simpa [Value.ownBlock] using hb
    subst this
    exact ⟨h0, _, hr⟩
/-- One text more, behind strings that the call owns: at the operation. -/
theorem wpS_append {w0 : World} {ops : Array Oper} {rest : List Oper} {o : Oper} {a : Act} {Q : Exit → Act → World → Prop} (t : ByteArray)
    (hg : o.guard = none) (s x : Operand) (ho : o.op = .call { callee := .builtin .append, args := #[s, x], argTypes := #[22, 22] }) (base : Nat) (v : Value) (T : List ByteArray) (hs : a.eval s = v)
    (hown : OwnS w0 base v T) (hx : a.eval x = .slice (some ⟨w0.heap.size, 0, none⟩) 1 1) (hl : T.length ≤ 1000000) (hb : base ≤ w0.heap.size)
    (hK : ∀ v' w', OwnS w' base v' (T ++ [t]) → Below base w0 w' → wpList Try.prog ops Q rest (a.put o.dst v') w') : wpList Try.prog ops Q (o :: rest) a (w0.alloc (.cells #[.string t] 9)) := by
  obtain ⟨i0, hi, hz0, hz1, hz2⟩ := info_parts info_str1
  have h78 : Below w0.heap.size w0 (w0.alloc (.cells #[.string t] 9)) := (Below.refl _ _).alloc (Nat.le_refl _) _
  refine wpList_append_lies _ hg s x 22 ho base 9 i0 (.string ⟨#[]⟩) 1 16 Try.underlying22 hi hz0 hz1 hz2 rfl (by decide) v T.length (strC T) hs (hown.alloc _) ⟨w0.heap.size, 0, none⟩ 1 1 [.string t] hx rfl ?_ ?_ (by decide) ?_ ?_ ?_ _ rfl ?_
  · intro j u hj
    match j, hj with
    | 0, hj => simp at hj; subst hj; simp [Addr.add]
  · intro u hu; simp at hu; subst hu; rfl
  · unfold maxLen; omega
  · omega
  · simpa using Nat.le_trans hb (Nat.le_succ _)
  · intro g8 cap8 w8 hown8 hgr8 _ _
    refine hK _ w8 ?_ ?_
    · unfold OwnS
      rw [List.length_append, List.length_singleton]
      have e : strC (T ++ [t]) = strC T ++ [Value.string t] := by simp [strC]
      rw [e]
      exact hown8
    · exact (h78.mono hb).grown hgr8 (Nat.le_trans hb h78.size) (fun b e => ((hown.below h78).block e).1)
set_option maxHeartbeats 1000000 in
set_option maxRecDepth 100000 in
theorem tcounted_any (A : Option Addr) (c : Nat) (R : List ByteArray) (w : World) (hR : R.length ≤ 9223372036854775807) (hc : R.length ≤ c) (hs : ∀ s ∈ R, s.size ≤ 140737488351232) (hrd : Reads w A (strC R)) :
    Calls Try.prog 15 #[.slice A R.length c] w fun e w' => ∃ u, e = .returned u ∧ OwnS w' w.heap.size u (brt R) ∧ Below w.heap.size w w' := by
  obtain ⟨q, hq⟩ : ∃ q, q = min 64 R.length := ⟨_, rfl⟩
  have hql : (R.take 64).length = q := by rw [List.length_take, hq]
  have hq64 : q ≤ 64 := by omega
  have hqR : q ≤ R.length := by omega
  have hmin : min (R.length : Int) 64 = (q : Int) := by omega
  have hcut := fun W => scut_to A R.length c q W hqR hc
  have Hcl : Hid (∀ W, Below w.heap.size w W → Calls Try.prog 26 #[.slice A q c] W fun e w' => ∃ u, e = .returned u ∧ OwnS w' W.heap.size u (R.take 64) ∧ Below W.heap.size W w') := Lib.hid (fun W hW => by
    have h1 := sclones_any A c (R.take 64) W (by rw [hql]; omega) (sreads_take (reads_on hrd hW))
    rw [hql] at h1
    exact h1)
  have Hs : Hid (∀ s ∈ R.take 64, s.size ≤ 140737488351232) := Lib.hid (fun s h => hs s (List.mem_of_mem_take h))
  have Hql := Lib.hid hql
  clear hs hrd hql hq
  go_enter Try.func15, Try.ntmps15
  go_wp2_with fail
  refine (Hcl.out _ (Below.refl _ _)).mono ?_
  rintro e w1 ⟨u, rfl, hown, hb1⟩
  clear hcut hmin
  rcases hown.form with ⟨rfl, h0⟩ | ⟨g, cap, post, rfl, hg, hn1, hc1, hp1, hr1⟩
  · have hq0 : q = 0 := by rw [← Hql.out, h0]; rfl
    subst hq0
    have Hend : Hid (∃ u, Ending.returned (Value.slice none 0 0) = .returned u ∧ OwnS w1 w.heap.size u (brt R) ∧ Below w.heap.size w w1) := Lib.hid ⟨_, rfl, by unfold brt; rw [h0]; exact ownS_nil _ _, hb1⟩
    clear hown h0 hb1
    go_wp2
    go_loopw [14] (fun iv wr => iv = .int .i64 0 ∧ wr = w1) (fun _ _ => 0)
    case atStart => exact ⟨rfl, rfl⟩
    case round =>
      obtain ⟨rfl, rfl⟩ := hrel
      go_wp2
      go_ret
      exact Hend.out
  · rw [Hql.out] at hn1 hp1
    rw [Hql.out]
    have Hr0 : Hid (Row w1 g 9 (strC (((R.take 64).take 0).map cutT ++ (R.take 64).drop 0) ++ post)) := Lib.hid (by simpa using hr1)
    have Hb1 := Lib.hid hb1
    have Hg := Lib.hid hg
    clear hown hr1 hb1 hg
    go_wp2
    go_loopw [14] (fun iv wr => ∃ i : Nat, iv = .int .i64 (i : Int) ∧ i ≤ q ∧ Hid (Row wr g 9 (strC (((R.take 64).take i).map cutT ++ (R.take 64).drop i) ++ post)) ∧ Hid (Below w.heap.size w wr)) (fun iv _ => q - (intOf iv).toNat)
    case atStart => exact ⟨0, rfl, Nat.zero_le _, Hr0, Hb1⟩
    case round =>
      obtain ⟨i, rfl, hi, Hr, Hb⟩ := hrel
      clear Hr0
      obtain ⟨l, hl⟩ : ∃ l, l = R.take 64 := ⟨_, rfl⟩
      have hlq : l.length = q := by rw [hl]; exact Hql.out
      rw [← hl] at Hr
      by_cases hiq : i < q
      · obtain ⟨s, hsd⟩ : ∃ s, s = l[i] := ⟨_, rfl⟩
        have hsz : s.size ≤ 140737488351232 := by rw [hsd]; exact Hs.out _ (by rw [← hl]; exact List.getElem_mem _)
        have hlm : ((l.take i).map cutT).length = i := by rw [List.length_map, List.length_take]; omega
        have hcell : wr.cell? ⟨g, i, none⟩ = some (.string s) := by
          rw [Hr.out.cell, List.getElem?_append_left (by rw [strC_length, List.length_append, hlm, List.length_drop]; omega), strC_get? _ _ (by rw [List.length_append, hlm, List.length_drop]; omega), List.getElem_append_right (by omega)]
          simp [hsd, Nat.min_eq_left (show i ≤ l.length by omega)]
        have hfr := Hr.out.free i
        obtain ⟨m, hm⟩ : ∃ m, m = min s.size 512 := ⟨_, rfl⟩
        have hmm : min (s.size : Int) 512 = (m : Int) := by omega
        have hct : ∀ W, (Instr.slice 9 (.string s) none (some (.int .i64 (m : Int))) none).run Try.prog W = .ok (.string (cutT s)) W := fun W => by
          rw [run_slice_string_to_if W 9 s .i64 (m : Int) Try.underlying9, if_pos ⟨by omega, by omega⟩, Int.toNat_natCast, hm, cutT_min]
        have Hnext : Hid (Row (wr.setCell ⟨g, i, none⟩ (.string (cutT s))) g 9 (strC ((l.take (i + 1)).map cutT ++ l.drop (i + 1)) ++ post)) := Lib.hid (by
          have h1 := Hr.out.set_ i (.string (cutT s))
          rw [List.set_append_left _ _ (by rw [strC_length, List.length_append, hlm, List.length_drop]; omega), strC_set, List.set_append_right _ _ (by omega), hlm, Nat.sub_self, List.drop_eq_getElem_cons (by omega), List.set_cons_zero] at h1
          rw [List.take_succ_eq_append_getElem (by omega), List.map_append, List.map_singleton, ← hsd, List.append_assoc, List.singleton_append]
          exact h1)
        have Hbn : Hid (Below w.heap.size w (wr.setCell ⟨g, i, none⟩ (.string (cutT s)))) := Lib.hid (Hb.out.trans (below_grown (grown_set (grown_refl wr (some g)) i _) Hg.out Hb.out.size))
        have HL := Lib.hid hl
        clear hlm hm hsd hl hlq
        go_wp2
        go_roundw
        case rel => exact ⟨i + 1, by go_num, by omega, by rw [← HL.out]; exact Hnext, Hbn⟩
        case measure => simp [intOf]; omega
      · have hiq2 : i = q := by omega
        have Hend : Hid (OwnS wr w.heap.size (.slice (some ⟨g, 0, none⟩) q cap) (brt R)) := Lib.hid (by
          have h1 := Hr.out
          rw [hiq2, ← hlq, List.take_length, List.drop_length, List.append_nil, hl] at h1
          have h2 := ownS_of_row (base := w.heap.size) Hg.out hc1 (by rw [List.length_map, Hql.out]; exact hp1) h1
          rw [List.length_map, Hql.out] at h2
          exact h2)
        clear hlq hiq2 hl
        go_wp2
        go_ret
        exact ⟨_, rfl, Hend.out, Hb.out⟩
end Go.Proofs.Ytaebnkeddcbmkaa
