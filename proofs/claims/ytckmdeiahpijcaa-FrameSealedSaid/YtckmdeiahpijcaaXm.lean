/-
  Mathematics of layer 22 (pipe): bytes in a pipe, in places that go round; what the reference notes, and what that is in the program's words. It speaks of no program. No condition.
-/
import Derived.Test.YtckmdeiahpijcaaSm
import Derived.Test.YtckmdeiahpijcaaQm
namespace Go.Proofs.Ytckmdeiahpijcaa
namespace Bm

/-- A byte in a pipe: was it sent, or else put in by others? -/
abbrev Itm := Nat × Bool
def itms (s : Bool) (l : List Nat) : List Itm := l.map fun b => (b, s)
theorem itms_length (s : Bool) (l : List Nat) : (itms s l).length = l.length := List.length_map ..
theorem itms_append (s : Bool) (l m : List Nat) : itms s (l ++ m) = itms s l ++ itms s m := List.map_append ..
theorem itms_drop (s : Bool) (l : List Nat) (k : Nat) : itms s (l.drop k) = (itms s l).drop k := List.map_drop ..
theorem itms_get? (s : Bool) (l : List Nat) (i : Nat) (h : i < l.length) : (itms s l)[i]? = some (l[i], s) := by
  rw [itms, List.getElem?_map, List.getElem?_eq_getElem h]
  rfl
theorem itms_lt {s : Bool} {l : List Nat} (h : ∀ x ∈ l, x < 256) : ∀ x ∈ itms s l, x.1 < 256 := fun x hx => by
  obtain ⟨y, hy, rfl⟩ := List.mem_map.1 hx
  exact h y hy

/-- Places: what lies at each, from the first one on. -/
abbrev Plc := Nat → Itm
def setG (G : Plc) (i : Nat) (x : Itm) : Plc := fun p => if p = i then x else G p
/-- A text laid down from place i on. -/
def putG (G : Plc) (i : Nat) (l : List Itm) : Plc := fun p => if i ≤ p ∧ p < i + l.length then l[p - i]?.getD (0, false) else G p
/-- What lies from place i up to place e, moved by n places. -/
def shiftG (G : Plc) (n i e : Nat) : Plc := fun p => if i + n ≤ p ∧ p < e + n then G (p - n) else G p
theorem putG_nil (G : Plc) (i : Nat) : putG G i [] = G := funext fun p => by
  unfold putG
  rw [if_neg (by rw [List.length_nil]; omega)]
theorem putG_step (G : Plc) (i : Nat) (l : List Itm) (j : Nat) (hj : j < l.length) : setG (putG G i (l.take j)) (i + j) l[j] = putG G i (l.take (j + 1)) := funext fun p => by
  unfold setG putG
  rw [List.length_take, List.length_take, show min j l.length = j by omega, show min (j + 1) l.length = j + 1 by omega]
  by_cases h1 : p = i + j
  · subst h1
    rw [if_pos rfl, if_pos (by omega), Nat.add_sub_cancel_left, List.getElem?_take_of_lt (by omega), List.getElem?_eq_getElem hj]
    rfl
  · rw [if_neg h1]
    by_cases h2 : i ≤ p ∧ p < i + j
    · rw [if_pos h2, if_pos (by omega), List.getElem?_take_of_lt (by omega), List.getElem?_take_of_lt (by omega)]
    · rw [if_neg h2, if_neg (by omega)]
theorem shiftG_end (G : Plc) (n e : Nat) : shiftG G n e e = G := funext fun p => by
  unfold shiftG
  rw [if_neg (by omega)]
theorem shiftG_at (G : Plc) (n i e : Nat) : shiftG G n (i + 1) e i = G i := by
  unfold shiftG
  rw [if_neg (by omega)]
theorem shiftG_step (G : Plc) (n i e : Nat) (hi : i < e) : setG (shiftG G n (i + 1) e) (i + n) (G i) = shiftG G n i e := funext fun p => by
  unfold setG shiftG
  by_cases h1 : p = i + n
  · subst h1
    rw [if_pos rfl, if_pos (by omega), Nat.add_sub_cancel]
  · rw [if_neg h1]
    by_cases h2 : i + 1 + n ≤ p ∧ p < e + n
    · rw [if_pos h2, if_pos (by omega)]
    · rw [if_neg h2, if_neg (by omega)]

/-- These bytes lie from the first place on. -/
def OnG (G : Plc) (l : List Itm) : Prop := ∀ i x, l[i]? = some x → G i = x
theorem OnG.nil (G : Plc) : OnG G [] := fun i x h => by simp at h
/-- A text behind all that lies there. -/
theorem OnG.put {G : Plc} {l : List Itm} (h : OnG G l) (m : List Itm) : OnG (putG G l.length m) (l ++ m) := fun i x hx => by
  unfold putG
  by_cases hi : i < l.length
  · rw [if_neg (by omega)]
    exact h i x (by rwa [List.getElem?_append_left hi] at hx)
  · rw [List.getElem?_append_right (by omega)] at hx
    have hl : i - l.length < m.length := by
      rcases Nat.lt_or_ge (i - l.length) m.length with h1 | h1
      · exact h1
      · rw [List.getElem?_eq_none h1] at hx; cases hx
    rw [if_pos (by omega), hx]
    rfl
/-- A text between what came and what flies. -/
theorem OnG.between {G : Plc} {k f : List Itm} (h : OnG G (k ++ f)) (m : List Itm) : OnG (putG (shiftG G m.length k.length (k.length + f.length)) k.length m) (k ++ m ++ f) := fun i x hx => by
  by_cases h1 : i < k.length
  · rw [List.append_assoc, List.getElem?_append_left h1] at hx
    unfold putG shiftG
    rw [if_neg (by omega), if_neg (by omega)]
    exact h i x (by rw [List.getElem?_append_left h1]; exact hx)
  · by_cases h2 : i < k.length + m.length
    · rw [List.append_assoc, List.getElem?_append_right (by omega), List.getElem?_append_left (by omega)] at hx
      unfold putG
      rw [if_pos (by omega), hx]
      rfl
    · rw [List.append_assoc, List.getElem?_append_right (by omega), List.getElem?_append_right (by omega)] at hx
      have hl : i - k.length - m.length < f.length := by
        rcases Nat.lt_or_ge (i - k.length - m.length) f.length with h3 | h3
        · exact h3
        · rw [List.getElem?_eq_none h3] at hx; cases hx
      unfold putG shiftG
      rw [if_neg (by omega), if_pos (by omega)]
      exact h (i - m.length) x (by rw [List.getElem?_append_right (by omega), show i - m.length - k.length = i - k.length - m.length by omega]; exact hx)
/-- The first one goes. -/
theorem OnG.tail {G G' : Plc} {x : Itm} {l : List Itm} (h : OnG G (x :: l)) (hg : ∀ i, i < l.length → G' i = G (i + 1)) : OnG G' l := fun i y hy => by
  have hl : i < l.length := by
    rcases Nat.lt_or_ge i l.length with h1 | h1
    · exact h1
    · rw [List.getElem?_eq_none h1] at hy; cases hy
  rw [hg i hl]
  exact h (i + 1) y (by rw [List.getElem?_cons_succ]; exact hy)

/-- How many bytes a pipe may have. -/
def mostN (n : Int) : Nat := (min (max n 1) 2048).toNat
theorem most_le (n : Int) : 1 ≤ mostN n ∧ mostN n ≤ 2048 ∧ min (max n 1) 2048 = (mostN n : Int) := by
  unfold mostN
  omega
/-- How many bytes come. -/
def comeN (n : Int) (f : Nat) : Nat := (min (max n 0) (f : Int)).toNat
theorem come_le (n : Int) (f : Nat) : comeN n f ≤ f ∧ min (max n 0) (f : Int) = (comeN n f : Int) := by
  unfold comeN
  omega

/-- What the reference notes of what came is: places in what was sent, one behind the other from place t up to place a; or bytes of others, less 256. -/
def okK : Nat → List Int → Nat → Prop
  | t, [], a => t = a
  | t, k :: K, a => (k < 0 ∧ -256 ≤ k ∧ okK t K a) ∨ (k = (t : Int) ∧ okK (t + 1) K a)
/-- A note as a byte. -/
def itmK (S : List Nat) (k : Int) : Itm := if k < 0 then ((k + 256).toNat, false) else (S[k.toNat]?.getD 0, true)
theorem okK_le {t : Nat} {K : List Int} {a : Nat} (h : okK t K a) : t ≤ a := by
  induction K generalizing t with
  | nil => exact Nat.le_of_eq h
  | cons k K ih =>
    rcases h with ⟨_, _, h⟩ | ⟨_, h⟩
    · exact ih h
    · exact Nat.le_of_succ_le (ih h)
theorem okK_mem {t : Nat} {K : List Int} {a : Nat} (h : okK t K a) : ∀ k ∈ K, -256 ≤ k ∧ k < (a : Int) := by
  induction K generalizing t with
  | nil => intro k hk; cases hk
  | cons k K ih =>
    intro x hx
    rcases h with ⟨h1, h2, h⟩ | ⟨h1, h⟩
    · rcases List.mem_cons.1 hx with rfl | hx
      · omega
      · exact ih h x hx
    · have := okK_le h
      rcases List.mem_cons.1 hx with rfl | hx
      · omega
      · exact ih h x hx
theorem okK_came {t : Nat} {K : List Int} {a : Nat} (h : okK t K a) : okK t (K ++ [(a : Int)]) (a + 1) := by
  induction K generalizing t with
  | nil =>
    have h1 : t = a := h
    subst h1
    exact Or.inr ⟨rfl, rfl⟩
  | cons k K ih =>
    rcases h with ⟨h1, h2, h⟩ | ⟨h1, h⟩
    · exact Or.inl ⟨h1, h2, ih h⟩
    · exact Or.inr ⟨h1, ih h⟩
theorem okK_put {t : Nat} {K : List Int} {a : Nat} (h : okK t K a) (k : Int) (h1 : k < 0) (h2 : -256 ≤ k) : okK t (K ++ [k]) a := by
  induction K generalizing t with
  | nil => exact Or.inl ⟨h1, h2, h⟩
  | cons x K ih =>
    rcases h with ⟨h3, h4, h⟩ | ⟨h3, h⟩
    · exact Or.inl ⟨h3, h4, ih h⟩
    · exact Or.inr ⟨h3, ih h⟩
/-- Notes of bytes that were put in. -/
def putK (l : List Nat) : List Int := l.map fun b : Nat => (b : Int) - 256
theorem putK_length (l : List Nat) : (putK l).length = l.length := List.length_map ..
theorem putK_take (l : List Nat) (j : Nat) (h : j < l.length) : putK (l.take (j + 1)) = putK (l.take j) ++ [(l[j] : Int) - 256] := by
  unfold putK
  rw [List.take_succ_eq_append_getElem h, List.map_append]
  rfl
theorem okK_puts {t : Nat} {K : List Int} {a : Nat} (h : okK t K a) (l : List Nat) (hl : ∀ x ∈ l, x < 256) : okK t (K ++ putK l) a := by
  induction l generalizing K with
  | nil => rw [putK, List.map_nil, List.append_nil]; exact h
  | cons b l ih =>
    have hb := hl b (List.mem_cons_self ..)
    have h1 := ih (okK_put h ((b : Int) - 256) (by omega) (by omega)) (fun x hx => hl x (List.mem_cons_of_mem _ hx))
    rw [List.append_assoc] at h1
    exact h1
theorem itmK_puts (S l : List Nat) (hl : ∀ x ∈ l, x < 256) : (putK l).map (itmK S) = itms false l := by
  unfold putK itms
  rw [List.map_map]
  refine List.map_congr_left fun b hb => ?_
  have := hl b hb
  show itmK S ((b : Int) - 256) = (b, false)
  unfold itmK
  rw [if_pos (by omega)]
  congr 1
  omega
/-- Notes of bytes that come. -/
def cameK (a n : Nat) : List Int := (List.range' a n).map Int.ofNat
theorem cameK_length (a n : Nat) : (cameK a n).length = n := by simp [cameK]
theorem cameK_zero (a : Nat) : cameK a 0 = [] := rfl
theorem cameK_succ (a n : Nat) : cameK a (n + 1) = cameK a n ++ [((a + n : Nat) : Int)] := by
  unfold cameK
  rw [List.range'_1_concat, List.map_append]
  rfl
theorem okK_cames {t : Nat} {K : List Int} {a : Nat} (h : okK t K a) (n : Nat) : okK t (K ++ cameK a n) (a + n) := by
  induction n with
  | zero => rw [cameK_zero, List.append_nil]; exact h
  | succ n ih =>
    rw [cameK_succ, ← List.append_assoc]
    exact okK_came ih
theorem itmK_cames (S : List Nat) (a n : Nat) (h : a + n ≤ S.length) : (cameK a n).map (itmK S) = (itms true (S.drop a)).take n := by
  refine List.ext_getElem? fun i => ?_
  by_cases hi : i < n
  · rw [List.getElem?_take_of_lt hi, itms_get? _ _ _ (by rw [List.length_drop]; omega), List.getElem_drop, List.getElem?_map, cameK, List.getElem?_map, List.getElem?_range' hi]
    show some (itmK S ((a + 1 * i : Nat) : Int)) = _
    unfold itmK
    rw [if_neg (by omega), Nat.one_mul]
    show some (S[a + i]?.getD 0, true) = _
    rw [List.getElem?_eq_getElem (by omega)]
    rfl
  · rw [List.getElem?_eq_none (by rw [List.length_map, cameK_length]; omega), List.getElem?_eq_none (by rw [List.length_take]; omega)]
theorem itmK_more {S : List Nat} {t : Nat} {K : List Int} {a : Nat} (h : okK t K a) (ha : a ≤ S.length) (l : List Nat) : K.map (itmK (S ++ l)) = K.map (itmK S) := by
  refine List.map_congr_left fun k hk => ?_
  have := okK_mem h k hk
  unfold itmK
  by_cases h1 : k < 0
  · rw [if_pos h1, if_pos h1]
  · rw [if_neg h1, if_neg h1, List.getElem?_append_left (by omega)]

/-- The reference's notes, in the program's words: what came, what flies, H and how many were taken. -/
structure Agr (S : List Nat) (a : Nat) (K : List Int) (t : Nat) (kc kf : List Itm) (h n : Nat) : Prop where
  ok : okK t K a
  le : a ≤ S.length
  lt : ∀ x ∈ S, x < 256
  came : kc = K.map (itmK S)
  flies : kf = itms true (S.drop a)
  hh : h = fromH H0 (S.take t)
  hn : n = t
theorem Agr.new : Agr [] 0 [] 0 [] [] H0 0 := ⟨rfl, Nat.le_refl _, (fun x hx => by cases hx), rfl, rfl, rfl, rfl⟩
section
variable {S : List Nat} {a : Nat} {K : List Int} {t : Nat} {kc kf : List Itm} {h n : Nat}
theorem Agr.fly (g : Agr S a K t kc kf h n) : kf.length = S.length - a := by rw [g.flies, itms_length, List.length_drop]
theorem Agr.cameLen (g : Agr S a K t kc kf h n) : kc.length = K.length := by rw [g.came, List.length_map]
theorem Agr.send (g : Agr S a K t kc kf h n) (l : List Nat) (hl : ∀ x ∈ l, x < 256) : Agr (S ++ l) a K t kc (kf ++ itms true l) h n := by
  have ht := okK_le g.ok
  have ha := g.le
  refine ⟨g.ok, by rw [List.length_append]; omega, fun x hx => ?_, ?_, ?_, ?_, g.hn⟩
  · rcases List.mem_append.1 hx with h1 | h1
    · exact g.lt x h1
    · exact hl x h1
  · rw [itmK_more g.ok ha]; exact g.came
  · rw [List.drop_append_of_le_length ha, itms_append, g.flies]
  · rw [List.take_append_of_le_length (by omega)]; exact g.hh
theorem Agr.deliver (g : Agr S a K t kc kf h n) (k : Nat) (hk : k ≤ kf.length) : Agr S (a + k) (K ++ cameK a k) t (kc ++ kf.take k) (kf.drop k) h n := by
  have hf := g.fly
  have ha := g.le
  refine ⟨okK_cames g.ok k, by omega, g.lt, ?_, ?_, g.hh, g.hn⟩
  · rw [List.map_append, itmK_cames S a k (by omega), g.came, g.flies]
  · rw [g.flies, ← itms_drop, List.drop_drop]
theorem Agr.inject (g : Agr S a K t kc kf h n) (l : List Nat) (hl : ∀ x ∈ l, x < 256) : Agr S a (K ++ putK l) t (kc ++ itms false l) kf h n :=
  ⟨okK_puts g.ok l hl, g.le, g.lt, by rw [List.map_append, itmK_puts S l hl, g.came], g.flies, g.hh, g.hn⟩
/-- A byte of others is taken. -/
theorem Agr.other {k : Int} (g : Agr S a (k :: K) t kc kf h n) (hk : k < 0) : -256 ≤ k ∧ ∃ kc', kc = ((k + 256).toNat, false) :: kc' ∧ Agr S a K t kc' kf h n := by
  rcases g.ok with ⟨h1, h2, h3⟩ | ⟨h1, h3⟩
  · refine ⟨h2, K.map (itmK S), ?_, h3, g.le, g.lt, rfl, g.flies, g.hh, g.hn⟩
    rw [g.came, List.map_cons, itmK, if_pos hk]
  · omega
/-- A byte that was sent is taken. -/
theorem Agr.take {k : Int} (g : Agr S a (k :: K) t kc kf h n) (hk : ¬ k < 0) : ∃ hl : t < S.length, k = (t : Int) ∧ S[t] < 256 ∧ ∃ kc', kc = (S[t], true) :: kc' ∧ Agr S a K (t + 1) kc' kf (stepH h S[t]) (n + 1) ∧ sumH (stepH h S[t]) (n + 1) = sumOf (S.take (t + 1)) := by
  rcases g.ok with ⟨h1, h2, h3⟩ | ⟨h1, h3⟩
  · exact absurd h1 hk
  · have hta := okK_le h3
    have ha := g.le
    have hl : t < S.length := by omega
    have hs : stepH h S[t] = fromH H0 (S.take (t + 1)) := by rw [g.hh, fromH_take H0 S t hl]
    refine ⟨hl, h1, g.lt _ (List.getElem_mem hl), K.map (itmK S), ?_, ⟨h3, g.le, g.lt, rfl, g.flies, hs, by rw [g.hn]⟩, ?_⟩
    · rw [g.came, List.map_cons, itmK, if_neg hk, h1, Int.toNat_natCast, List.getElem?_eq_getElem hl]
      rfl
    · unfold sumOf
      rw [hs, g.hn, List.length_take, show min (t + 1) S.length = t + 1 by omega]
end
end Bm
end Go.Proofs.Ytckmdeiahpijcaa
