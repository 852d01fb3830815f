/-
  Layer 24 (frame): FrameBack, by its walk: true for every slice of frames and every slice of bytes. Conditions: none.
-/
import Derived.Test.YtckmdeiahpijcaaRp
import Derived.Test.YtckmdeiahpijcaaRl
import Derived.Test.YtckmdeiahpijcaaXz
import Derived.Test.YtckmdeiahpijcaaAw
import Derived.Deep.DeepCutAuto
namespace Go.Proofs.Ytckmdeiahpijcaa
open Go.RowKit

/-- 'append(s, x...)': x came in, nil or not. -/
theorem wpList_append_inF {P : Program} {w : World} {ops : Array Oper} {rest : List Oper} {o : Oper} {a : Act} {Q : Exit → Act → World → Prop} (hgd : o.guard = none) (s x : Operand) (t : TypeId)
    (ho : o.op = .call { callee := .builtin .append, args := #[s, x], argTypes := #[t, t] })
    (base : Nat) (e : TypeId) (i : TypeInfo) (z : Value) (size bytes : Nat) (ht : P.underlying t = some (.slice e)) (hi : P.info? e = some i) (hz : i.zero = some z)
    (hsize : i.size = size) (hby : i.bytes = bytes) (hzs : z.cells.size = size) (hsz : 0 < size)
    (v : Value) (n : Nat) (xs : List Value) (hs : a.eval s = v) (hown : w.ownsRow base e size v n xs)
    (B : Option Addr) (m d : Nat) (news : List Value) (hx : a.eval x = .slice B m d) (hB : B = none → m = 0 ∧ d = 0) (hl : news.length = m * size) (hnews : ∀ ad, B = some ad → ∀ j u, news[j]? = some u → w.cell? (ad.add j) = some u) (h1 : ∀ u ∈ news, u.oneCell' = true)
    (h63 : n + m ≤ maxLen) (hbytes : (n + m) * bytes ≤ 140737488355328) (hbase : base ≤ w.heap.size)
    (h : ∀ v' w', w'.ownsRow base e size v' (n + m) (xs ++ news) → w.grownBy w' v.ownBlock → wpList P ops Q rest (a.put o.dst v') w') : wpList P ops Q (o :: rest) a w := by
  cases B with
  | none =>
    obtain ⟨rfl, rfl⟩ := hB rfl
    obtain rfl : news = [] := List.eq_nil_of_length_eq_zero (by rw [hl, Nat.zero_mul])
    refine wpList_append_own_none hgd s x t ho base e i size ht hi v n xs hs hown hx (h v w ?_ (grown_refl _ _))
    rw [List.append_nil]
    exact hown
  | some ad =>
    exact wpList_append_own (P := P) w hgd s x t ho base e i z size bytes ht hi hz hsize hby hzs hsz v n xs hs hown ad m d news hx hl (hnews ad rfl) h1 h63 hbytes hbase (fun v' w' a b _ => h v' w' a b)
theorem argb_cellsF {w W : World} {B : Option Addr} {n d : Nat} {bs : List Nat} (h : ArgB w B n d bs) (hb : Below w.heap.size w W) : ∀ ad, B = some ad → ∀ j u, (u8s bs)[j]? = some u → W.cell? (ad.add j) = some u := by
  obtain ⟨rfl, _, hr, hlt, _⟩ := h
  intro ad e j u hj
  have hjl : j < bs.length := by
    rcases Nat.lt_or_ge j (u8s bs).length with h1 | h1
    · rwa [u8s_length] at h1
    · rw [List.getElem?_eq_none h1] at hj; cases hj
  obtain ⟨g, off, e2, hc⟩ := hr (fun h0 => by have := congrArg List.length h0; rw [u8s_length, List.length_nil] at this; omega)
  rw [e] at e2
  injection e2 with e2
  subst e2
  have hadd : (⟨g, off, none⟩ : Addr).add j = ⟨g, off + j, none⟩ := by unfold Addr.add; split <;> simp_all
  rw [hadd, hb.cell (p := ⟨g, off + j, none⟩) (show g < w.heap.size from hlt ⟨g, off, none⟩ e (by omega)), hc j (by rw [u8s_length]; exact hjl), hj]
theorem argb_nilF {w : World} {B : Option Addr} {n d : Nat} {bs : List Nat} (h : ArgB w B n d bs) (hB : B = none → d = 0) : B = none → n = 0 ∧ d = 0 := fun e => by
  obtain ⟨rfl, _, hr, _⟩ := h
  refine ⟨?_, hB e⟩
  rcases Nat.eq_zero_or_pos bs.length with h0 | h0
  · exact h0
  · obtain ⟨g, off, e2, _⟩ := hr (fun h1 => by have := congrArg List.length h1; rw [u8s_length, List.length_nil] at this; omega)
    rw [e] at e2
    cases e2
theorem u8s_oneF (l : List Nat) : ∀ u ∈ u8s l, u.oneCell' = true := fun u hu => by
  obtain ⟨x, _, rfl⟩ := List.mem_map.1 hu
  rfl
theorem frC_one (T : List Bm.Frm) : ∀ u ∈ frC T, u.oneCell' = true := fun u hu => by
  obtain ⟨f, _, hf⟩ := List.mem_flatMap.1 hu
  simp [frL] at hf
  rcases hf with rfl | rfl <;> rfl
theorem info_u8F : (Try.prog.info? 5).map (fun i => (i.zero, i.size, i.bytes)) = some (some (.int .u8 0), 1, 1) := by kernel_rfl
/-- Frames that the call owns: what keeps their block keeps them. -/
theorem FrO.keepB {w w' : World} {base : Nat} {v : Value} {T : List Bm.Frm} (h : FrO w base v T) (hk : ∀ g, v.ownBlock = some g → w'.heap[g]? = w.heap[g]?) : FrO w' base v T := by
  refine ⟨h.1, ?_⟩
  rcases h.2 with h1 | ⟨g, cap, cur, hv, hb, hh, h3⟩
  · exact .inl h1
  · exact .inr ⟨g, cap, cur, hv, hb, (hk g (by rw [hv]; rfl)).trans hh, h3⟩
theorem FrO.twn {w w' : World} {base p c : Nat} {v : Value} {T : List Bm.Frm} {t1 t2 : TypeId} {C1 C2 : List Value} (h : FrO w base v T) (ht : Twn w w' p c) (r1 : Row w p t1 C1) (n1 : 30 ≠ t1) (r2 : Row w c t2 C2) (n2 : 30 ≠ t2) : FrO w' base v T :=
  h.keepB fun g hg => ht.block g (h.lt g hg).2 (fun e => h.ne r1 n1 (by rw [← e]; exact hg)) (fun e => h.ne r2 n2 (by rw [← e]; exact hg))
theorem FrO.nil_ {w : World} {base n c : Nat} {T : List Bm.Frm} (h : FrO w base (.slice none n c) T) : T.length = 0 ∧ n = 0 ∧ c = 0 := by
  rcases h.2 with ⟨h1, h2⟩ | ⟨g, cap, cur, hv, _⟩
  · injection h1 with _ h3 h4
    exact ⟨h2, h3, h4⟩
  · injection hv with h3 _ _
    cases h3
theorem FrR.cells {w : World} {A : Option Addr} {T : List Bm.Frm} (h : FrR w A T) : ∀ ad, A = some ad → ∀ j u, (frC T)[j]? = some u → w.cell? (ad.add j) = some u := by
  intro ad e j u hj
  have hjl : j < T.length * 2 := by
    rcases Nat.lt_or_ge j (frC T).length with h1 | h1
    · rwa [frC_length] at h1
    · rw [List.getElem?_eq_none h1] at hj; cases hj
  obtain ⟨g, off, e2, _, hc⟩ := h (by omega)
  rw [e] at e2
  injection e2 with e2
  subst e2
  have hadd : (⟨g, off, none⟩ : Addr).add j = ⟨g, off + j, none⟩ := by unfold Addr.add; split <;> simp_all
  have hq : j / 2 < T.length := by omega
  obtain ⟨h1, h2⟩ := frC_get T (j / 2) hq
  obtain ⟨k1, k2⟩ := hc (j / 2) hq
  rw [hadd]
  rcases Nat.mod_two_eq_zero_or_one j with h0 | h0
  · rw [show j / 2 * 2 = j by omega] at h1 k1
    rw [k1, ← h1, hj]
  · rw [show j / 2 * 2 + 1 = j by omega] at h2
    rw [show off + j / 2 * 2 + 1 = off + j by omega] at k2
    rw [k2, ← h2, hj]
/-- Frames behind frames: 'append(got, more...)'. -/
theorem wpFr_appends {w : World} {ops : Array Oper} {rest : List Oper} {o : Oper} {a : Act} {Q : Exit → Act → World → Prop} (hgd : o.guard = none) (s x : Operand)
    (ho : o.op = .call { callee := .builtin .append, args := #[s, x], argTypes := #[22, 22] }) (base base2 : Nat) (v v2 : Value) (T S : List Bm.Frm) (hs : a.eval s = v) (hx : a.eval x = v2)
    (hown : FrO w base v T) (hown2 : FrO w base2 v2 S) (hl : T.length + S.length ≤ 1000000) (hb : base ≤ w.heap.size)
    (hK : ∀ v' w', FrO w' base v' (T ++ S) → w.grownBy w' v.ownBlock → wpList Try.prog ops Q rest (a.put o.dst v') w') : wpList Try.prog ops Q (o :: rest) a w := by
  obtain ⟨i0, hi, hz0, hz1, hz2⟩ := info_parts info_fr
  obtain ⟨A, c, rfl, _, _, hr, _⟩ := hown2.reads
  refine wpList_append_inF hgd s x 22 ho base 30 i0 (.agg #[.int .i64 0, .string ⟨#[]⟩]) 2 24 Try.underlying22 hi hz0 hz1 hz2 rfl (by decide) v T.length (frC T) hs hown A S.length c (frC S) hx (fun e => ?_) (frC_length S) hr.cells (frC_one S) (by unfold maxLen; omega) (by omega) hb ?_
  · subst e
    exact ⟨hown2.nil_.1, hown2.nil_.2.2⟩
  · intro v' w' h1 h2
    refine hK v' w' ?_ h2
    unfold FrO
    rw [List.length_append, ← frC_append]
    exact h1
theorem Twn.row {w w' : World} {p q : Nat} (h : Twn w w' p q) {g : Nat} {t : TypeId} {cs : List Value} (hr : Row w g t cs) (h1 : g ≠ p) (h2 : g ≠ q) : Row w' g t cs := hr.keep (h.block g hr.lt h1 h2)
end Go.Proofs.Ytckmdeiahpijcaa
