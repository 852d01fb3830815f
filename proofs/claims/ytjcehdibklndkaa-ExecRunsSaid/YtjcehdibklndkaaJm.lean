/-
  Plain mathematics for layer 14 (exec): steps of either sign, how many bytes they make, or the first error; the text; steps that make a text are done as it, and what is done of any is made by these steps. It speaks of no program. No condition.
-/
import Derived.Test.YtjcehdibklndkaaPm
namespace Go.Proofs.Ytjcehdibklndkaa.Bm

/-- A step as it came in: literals, match, offset. -/
abbrev StZ := Int × Int × Int
/-- A step that may be, as one that came in. -/
def stpZ (s : Stp) : StZ := ((s.1 : Int), (s.2.1 : Int), (s.2.2 : Int))
theorem getD_at {l : List Nat} {i : Nat} (h : i < l.length) : l.getD i 0 = l[i] := by simp [List.getD, h]
theorem getD_off {l : List Nat} {i : Nat} (h : l.length ≤ i) : l.getD i 0 = 0 := by simp [List.getD, h]
/-- So many bytes more, each the one that is so far ahead. -/
def copyN (o : Nat) : Nat → List Nat → List Nat
  | 0, A => A
  | m + 1, A => copyN o m (A ++ [A.getD (A.length - o) 0])
theorem copyN_length (o : Nat) : ∀ (m : Nat) (A : List Nat), (copyN o m A).length = A.length + m
  | 0, _ => rfl
  | m + 1, A => by rw [copyN, copyN_length o m, List.length_append, List.length_singleton]; omega
theorem copyN_pre (o : Nat) : ∀ (m : Nat) (A : List Nat), (copyN o m A).take A.length = A
  | 0, A => by rw [copyN, List.take_length]
  | m + 1, A => by
    rw [copyN]
    generalize hx : A.getD (A.length - o) 0 = x
    have h := copyN_pre o m (A ++ [x])
    rw [List.length_append, List.length_singleton] at h
    have h2 := congrArg (List.take A.length) h
    rw [List.take_take, List.take_left, Nat.min_eq_left (Nat.le_succ _)] at h2
    exact h2
theorem copyN_lt (o : Nat) : ∀ (m : Nat) (A : List Nat), (∀ x ∈ A, x < 256) → ∀ x ∈ copyN o m A, x < 256
  | 0, _, h => h
  | m + 1, A, h => by
    rw [copyN]
    refine copyN_lt o m _ (fun x hx => ?_)
    rcases List.mem_append.1 hx with hx | hx
    · exact h x hx
    · rw [List.mem_singleton.1 hx]
      rcases Nat.lt_or_ge (A.length - o) A.length with h1 | h1
      · rw [getD_at h1]; exact h _ (List.getElem_mem h1)
      · rw [getD_off h1]; omega
theorem pre_get {A T : List Nat} (h : T.take A.length = A) (i : Nat) (hi : i < A.length) : T[i]? = A[i]? := by
  have e := congrArg (fun l : List Nat => l[i]?) h
  simp only [List.getElem?_take_of_lt hi] at e
  exact e
theorem copyN_get (o : Nat) (ho : 1 ≤ o) : ∀ (m : Nat) (B : List Nat) (i : Nat), o ≤ B.length → i < m → (copyN o m B)[B.length + i]? = (copyN o m B)[B.length - o + i]?
  | 0, _, _, _, h => absurd h (Nat.not_lt_zero _)
  | m + 1, B, i, hB, hi => by
    rw [copyN]
    generalize hx : B.getD (B.length - o) 0 = x
    have hl : (B ++ [x]).length = B.length + 1 := by rw [List.length_append, List.length_singleton]
    rcases i with _ | i
    · have hp := copyN_pre o m (B ++ [x])
      rw [Nat.add_zero, Nat.add_zero, pre_get hp B.length (by omega), pre_get hp (B.length - o) (by omega), List.getElem?_append_right (Nat.le_refl _), Nat.sub_self, List.getElem?_append_left (by omega), ← hx,
        getD_at (by omega : B.length - o < B.length), List.getElem?_eq_getElem (by omega : B.length - o < B.length)]
      rfl
    · have h := copyN_get o ho m (B ++ [x]) i (by omega) (by omega)
      rw [hl] at h
      rw [show B.length + (i + 1) = B.length + 1 + i by omega, show B.length - o + (i + 1) = B.length + 1 - o + i by omega]
      exact h
/-- How many bytes steps make, so many being ahead, so many made, so many literals left; and the first error, or 0. -/
def lenZ (a lim : Nat) : Nat → Nat → List StZ → Nat × Nat
  | n, L, [] => if lim < n + L then (0, 5) else (n + L, 0)
  | n, L, s :: l =>
    if s.1 < 0 ∨ (L : Int) < s.1 then (0, 3) else
    if lim < n + s.1.toNat then (0, 5) else
    if s.2.1 < 3 ∨ s.2.2 < 1 ∨ ((a + n + s.1.toNat : Nat) : Int) < s.2.2 then (0, 3) else
    if lim < n + s.1.toNat + s.2.1.toNat then (0, 5) else
    lenZ a lim (n + s.1.toNat + s.2.1.toNat) (L - s.1.toNat) l
/-- The text of steps, bytes ahead and all. -/
def textZ : List Nat → List Nat → List StZ → List Nat
  | A, L, [] => A ++ L
  | A, L, s :: l => textZ (copyN s.2.2.toNat s.2.1.toNat (A ++ L.take s.1.toNat)) (L.drop s.1.toNat) l
/-- How many bytes steps of so many literals are. -/
def sizeZ : Nat → List StZ → Nat
  | n, [] => n
  | n, s :: l => sizeZ (min (n + min s.2.1.toNat 1099511627776) 1099511627776) l
/-- What Run answers: the text, and the error. -/
def ansZ (D L : List Nat) (l : List StZ) (lim : Nat) : List Nat × Nat :=
  if (lenZ D.length lim 0 L.length l).2 = 0 then ((textZ D L l).drop D.length, 0) else ([], (lenZ D.length lim 0 L.length l).2)
theorem lenZ_cons (a lim n L : Nat) (x m o : Int) (l : List StZ) : lenZ a lim n L ((x, m, o) :: l) =
    if x < 0 ∨ (L : Int) < x then (0, 3) else
    if lim < n + x.toNat then (0, 5) else
    if m < 3 ∨ o < 1 ∨ ((a + n + x.toNat : Nat) : Int) < o then (0, 3) else
    if lim < n + x.toNat + m.toNat then (0, 5) else
    lenZ a lim (n + x.toNat + m.toNat) (L - x.toNat) l := rfl
theorem textZ_cons (A L : List Nat) (x m o : Int) (l : List StZ) : textZ A L ((x, m, o) :: l) = textZ (copyN o.toNat m.toNat (A ++ L.take x.toNat)) (L.drop x.toNat) l := rfl
/-- A step that has no error. -/
theorem okZ_head {a lim n L N : Nat} {s : StZ} {l : List StZ} (h : lenZ a lim n L (s :: l) = (N, 0)) : ∃ x m o : Nat, s = ((x : Int), (m : Int), (o : Int)) ∧ x ≤ L ∧ 3 ≤ m ∧ 1 ≤ o ∧ o ≤ a + n + x ∧ n + x + m ≤ lim ∧ lenZ a lim (n + x + m) (L - x) l = (N, 0) := by
  obtain ⟨x, m, o⟩ := s
  rw [lenZ_cons] at h
  split at h
  · simp at h
  · next h1 =>
    split at h
    · simp at h
    · next h2 =>
      split at h
      · simp at h
      · next h3 =>
        split at h
        · simp at h
        · next h4 =>
          obtain ⟨x, rfl⟩ := Int.eq_ofNat_of_zero_le (by omega : 0 ≤ x)
          obtain ⟨m, rfl⟩ := Int.eq_ofNat_of_zero_le (by omega : 0 ≤ m)
          obtain ⟨o, rfl⟩ := Int.eq_ofNat_of_zero_le (by omega : 0 ≤ o)
          simp only [Int.toNat_natCast] at h h1 h2 h3 h4
          exact ⟨x, m, o, rfl, by omega, by omega, by omega, by omega, by omega, h⟩
theorem lenZ_le {a lim N : Nat} : ∀ {l : List StZ} {n L : Nat}, lenZ a lim n L l = (N, 0) → n + L ≤ N ∧ N ≤ lim
  | [], n, L, h => by
    rw [lenZ] at h
    split at h
    · simp at h
    · injection h with h; omega
  | s :: l, n, L, h => by
    obtain ⟨x, m, o, _, h1, h2, h3, h4, h5, h6⟩ := okZ_head h
    have := lenZ_le h6
    omega
theorem lenZ_err {a lim : Nat} : ∀ (l : List StZ) (n L : Nat), (lenZ a lim n L l).2 = 0 ∨ lenZ a lim n L l = (0, 3) ∨ lenZ a lim n L l = (0, 5)
  | [], n, L => by
    rw [lenZ]
    split
    · exact .inr (.inr rfl)
    · exact .inl rfl
  | (x, m, o) :: l, n, L => by
    rw [lenZ_cons]
    split
    · exact .inr (.inl rfl)
    · split
      · exact .inr (.inr rfl)
      · split
        · exact .inr (.inl rfl)
        · split
          · exact .inr (.inr rfl)
          · exact lenZ_err l _ _
theorem lenZ_two {a lim n L : Nat} {l : List StZ} (h : (lenZ a lim n L l).2 = 0) : lenZ a lim n L l = ((lenZ a lim n L l).1, 0) := by
  rw [← h]
theorem textZ_length {a lim N : Nat} : ∀ {l : List StZ} {n : Nat} {A L : List Nat}, lenZ a lim n L.length l = (N, 0) → A.length = a + n → (textZ A L l).length = a + N
  | [], n, A, L, h, hA => by
    rw [lenZ] at h
    split at h
    · simp at h
    · injection h with h
      rw [textZ, List.length_append]
      omega
  | s :: l, n, A, L, h, hA => by
    obtain ⟨x, m, o, rfl, h1, h2, h3, h4, h5, h6⟩ := okZ_head h
    rw [textZ_cons, Int.toNat_natCast, Int.toNat_natCast, Int.toNat_natCast]
    refine textZ_length (n := n + x + m) (by rw [List.length_drop]; exact h6) ?_
    rw [copyN_length, List.length_append, List.length_take]
    omega
theorem textZ_pre : ∀ (l : List StZ) (A L : List Nat), (textZ A L l).take A.length = A
  | [], A, L => by rw [textZ, List.take_left]
  | (x, m, o) :: l, A, L => by
    rw [textZ_cons]
    have h := textZ_pre l (copyN o.toNat m.toNat (A ++ L.take x.toNat)) (L.drop x.toNat)
    have h2 := congrArg (List.take (A ++ L.take x.toNat).length) h
    rw [copyN_pre, List.take_take, copyN_length, Nat.min_eq_left (Nat.le_add_right _ _)] at h2
    have h3 := congrArg (List.take A.length) h2
    rw [List.take_take, List.take_left, List.length_append, Nat.min_eq_left (Nat.le_add_right _ _)] at h3
    exact h3
theorem textZ_lt : ∀ (l : List StZ) (A L : List Nat), (∀ x ∈ A, x < 256) → (∀ x ∈ L, x < 256) → ∀ x ∈ textZ A L l, x < 256
  | [], A, L, hA, hL => fun x hx => (List.mem_append.1 hx).elim (hA x) (hL x)
  | (x, m, o) :: l, A, L, hA, hL => by
    rw [textZ_cons]
    exact textZ_lt l _ _ (copyN_lt _ _ _ (fun z hz => (List.mem_append.1 hz).elim (hA z) (fun h => hL z (List.mem_of_mem_take h)))) (fun z hz => hL z (List.mem_of_mem_drop hz))
theorem sizeZ_ok {a lim N : Nat} (hlim : lim ≤ 1099511627776) : ∀ {l : List StZ} {n L k : Nat}, lenZ a lim n L l = (N, 0) → k = n + L → sizeZ k l = N
  | [], n, L, k, h, hk => by
    rw [lenZ] at h
    split at h
    · simp at h
    · injection h with h
      rw [sizeZ]; omega
  | s :: l, n, L, k, h, hk => by
    obtain ⟨x, m, o, rfl, h1, h2, h3, h4, h5, h6⟩ := okZ_head h
    have hN := lenZ_le h6
    rw [sizeZ]
    refine sizeZ_ok hlim h6 ?_
    show min (k + min (m : Int).toNat 1099511627776) 1099511627776 = _
    rw [Int.toNat_natCast]
    omega
/-- Steps that make a text have no error, but that there are too many bytes. -/
theorem lenZ_makes (T : List Nat) (d lim : Nat) : ∀ (l : List Stp) (n : Nat), OkS T (d + n) l → lenZ d lim n (litS T (d + n) l).length (l.map stpZ) = if d + lim < T.length then (0, 5) else (T.length - d, 0)
  | [], n, h => by
    have h1 : d + n ≤ T.length := h
    rw [List.map_nil, litS, lenZ, List.length_drop]
    by_cases h2 : d + lim < T.length
    · rw [if_pos h2, if_pos (by omega)]
    · rw [if_neg h2, if_neg (by omega), show n + (T.length - (d + n)) = T.length - d by omega]
  | (x, m, o) :: l, n, h => by
    obtain ⟨e1, e2, e3, e4, e5, e6⟩ := h
    simp only at e1 e2 e3 e4 e5 e6
    have ih := lenZ_makes T d lim l (n + x + m) (by rw [show d + (n + x + m) = d + n + x + m by omega]; exact e6)
    rw [show d + (n + x + m) = d + n + x + m by omega] at ih
    have hl : (litS T (d + n) ((x, m, o) :: l)).length = x + (litS T (d + n + x + m) l).length := by
      rw [litS, List.length_append, List.length_drop, List.length_take]
      simp only
      omega
    rw [List.map_cons, stpZ, lenZ_cons, hl]
    simp only [Int.toNat_natCast]
    rw [if_neg (by omega)]
    by_cases h2 : d + lim < T.length
    · by_cases h3 : lim < n + x
      · rw [if_pos h3, if_pos h2]
      · rw [if_neg h3, if_neg (by omega)]
        by_cases h4 : lim < n + x + m
        · rw [if_pos h4, if_pos h2]
        · rw [if_neg h4, Nat.add_sub_cancel_left]
          exact ih
    · rw [if_neg (by omega), if_neg (by omega), if_neg (by omega), Nat.add_sub_cancel_left]
      exact ih
theorem same_get {T : List Nat} {a b m : Nat} (h : (T.take (a + m)).drop a = (T.take (b + m)).drop b) (j : Nat) (hj : j < m) : T[a + j]? = T[b + j]? := by
  have e := congrArg (fun l : List Nat => l[j]?) h
  simp only [List.getElem?_drop] at e
  rw [List.getElem?_take_of_lt (by omega), List.getElem?_take_of_lt (by omega)] at e
  exact e
theorem copyN_text {T : List Nat} {o : Nat} (ho : 1 ≤ o) : ∀ (m b : Nat), b + m ≤ T.length → o ≤ b → (∀ j, j < m → T[b - o + j]? = T[b + j]?) → copyN o m (T.take b) = T.take (b + m)
  | 0, _, _, _, _ => rfl
  | m + 1, b, hb, hob, hj => by
    have hl : (T.take b).length = b := by rw [List.length_take]; omega
    have e : (T.take b).getD ((T.take b).length - o) 0 = T[b]'(by omega) := by
      rw [hl, getD_at (by omega), List.getElem_take]
      have h0 := hj 0 (by omega)
      rw [Nat.add_zero, Nat.add_zero, List.getElem?_eq_getElem (by omega), List.getElem?_eq_getElem (by omega)] at h0
      injection h0
    rw [copyN, e, ← List.take_succ_eq_append_getElem (by omega : b < T.length), copyN_text ho m (b + 1) (by omega) (by omega) (fun j h => by
      have := hj (j + 1) (by omega)
      rw [show b + 1 - o + j = b - o + (j + 1) by omega, show b + 1 + j = b + (j + 1) by omega]
      exact this), show b + 1 + m = b + (m + 1) by omega]
/-- .. and make it. -/
theorem textZ_makes (T : List Nat) : ∀ (l : List Stp) (a : Nat), OkS T a l → textZ (T.take a) (litS T a l) (l.map stpZ) = T
  | [], a, _ => by rw [List.map_nil, litS, textZ, List.take_append_drop]
  | (x, m, o) :: l, a, h => by
    obtain ⟨e1, e2, e3, e4, e5, e6⟩ := h
    simp only at e1 e2 e3 e4 e5 e6
    have hx : ((T.take (a + x)).drop a).length = x := by rw [List.length_drop, List.length_take]; omega
    have ht : T.take a ++ (T.take (a + x)).drop a = T.take (a + x) := by
      have h1 := List.take_append_drop a (T.take (a + x))
      rw [List.take_take, Nat.min_eq_left (by omega)] at h1
      exact h1
    rw [List.map_cons, stpZ, textZ_cons]
    simp only [Int.toNat_natCast]
    rw [litS]
    simp only
    rw [List.take_left' hx, List.drop_left' hx, ht, copyN_text e2 m (a + x) (by omega) (by omega) (fun j hj => same_get e5 j hj)]
    exact textZ_makes T l (a + x + m) e6
/-- What is done of steps without an error is made by them. -/
theorem made_ok {d lim N : Nat} (T : List Nat) : ∀ {l : List StZ} {n : Nat} {A L : List Nat}, lenZ d lim n L.length l = (N, 0) → A.length = d + n → textZ A L l = T → ∃ l' : List Stp, l = l'.map stpZ ∧ OkS T (d + n) l' ∧ litS T (d + n) l' = L
  | [], n, A, L, h, hA, hT => by
    rw [textZ] at hT
    subst hT
    refine ⟨[], rfl, ?_, ?_⟩
    · show d + n ≤ _
      rw [List.length_append]; omega
    · rw [litS, ← hA, List.drop_left]
  | s :: l, n, A, L, h, hA, hT => by
    have hTl := textZ_length h hA
    rw [hT] at hTl
    obtain ⟨x, m, o, rfl, h1, h2, h3, h4, h5, h6⟩ := okZ_head h
    have hN := lenZ_le h6
    rw [textZ_cons] at hT
    simp only [Int.toNat_natCast] at hT
    have hx : (L.take x).length = x := by rw [List.length_take]; omega
    have hB : (A ++ L.take x).length = d + n + x := by rw [List.length_append, hx, hA]
    have hC : (copyN o m (A ++ L.take x)).length = d + (n + x + m) := by rw [copyN_length, hB]; omega
    obtain ⟨l', rfl, g1, g2⟩ := made_ok T (n := n + x + m) (by rw [List.length_drop]; exact h6) hC hT
    have hp := textZ_pre (l'.map stpZ) (copyN o m (A ++ L.take x)) (L.drop x)
    rw [hT] at hp
    have hp2 : T.take (A ++ L.take x).length = A ++ L.take x := by
      have h7 := congrArg (List.take (A ++ L.take x).length) hp
      rw [copyN_pre, List.take_take, copyN_length, Nat.min_eq_left (Nat.le_add_right _ _)] at h7
      exact h7
    have hg : ∀ j, j < m → T[d + n + x - o + j]? = T[d + n + x + j]? := fun j hj => by
      have h7 := copyN_get o h3 m (A ++ L.take x) j (by omega) hj
      rw [← pre_get hp _ (by rw [hC, hB]; omega), ← pre_get hp _ (by rw [hC, hB]; omega), hB] at h7
      exact h7.symm
    refine ⟨(x, m, o) :: l', rfl, ⟨h2, h3, by show o ≤ d + n + x; omega, by show d + n + x + m ≤ T.length; omega, ?_, ?_⟩, ?_⟩
    · show (T.take (d + n + x - o + m)).drop (d + n + x - o) = (T.take (d + n + x + m)).drop (d + n + x)
      apply List.ext_getElem?
      intro j
      rw [List.getElem?_drop, List.getElem?_drop]
      by_cases hj : j < m
      · rw [List.getElem?_take_of_lt (by omega), List.getElem?_take_of_lt (by omega)]
        exact hg j hj
      · rw [List.getElem?_take_eq_none (by omega), List.getElem?_take_eq_none (by omega)]
    · show OkS T (d + n + x + m) l'
      rw [show d + n + x + m = d + (n + x + m) by omega]
      exact g1
    · show (T.take (d + n + x)).drop (d + n) ++ litS T (d + n + x + m) l' = L
      rw [show d + n + x + m = d + (n + x + m) by omega, g2, ← hB, hp2, ← hA, List.drop_left, List.take_append_drop]
theorem lenZ_map {a lim n L : Nat} {l : List StZ} {k : Nat} (hk : k < l.length) : lenZ a lim n L (l.drop k) = lenZ a lim n L (l[k] :: l.drop (k + 1)) := by
  rw [List.drop_eq_getElem_cons hk]
theorem ans_makes (D X : List Nat) (l : List Stp) (lim : Nat) (h : OkS (D ++ X) D.length l) : ansZ D (litS X 0 l) (l.map stpZ) lim = if lim < X.length then ([], 5) else (X, 0) := by
  have hl : litS (D ++ X) D.length l = litS X 0 l := by
    have e := litS_cut (D ++ X) l 0 D.length
    rwa [Nat.add_zero, List.drop_left] at e
  have h1 := lenZ_makes (D ++ X) D.length lim l 0 (by rw [Nat.add_zero]; exact h)
  rw [Nat.add_zero, hl, List.length_append] at h1
  have h2 := textZ_makes (D ++ X) l D.length h
  rw [List.take_left, hl] at h2
  rw [ansZ, h1, h2, List.drop_left]
  by_cases h3 : lim < X.length
  · rw [if_pos h3, if_pos (show D.length + lim < D.length + X.length by omega), if_neg (by decide)]
  · rw [if_neg h3, if_neg (show ¬ D.length + lim < D.length + X.length by omega), if_pos rfl]
/-- What was done of steps without an error, as Right and Literals are asked of it. -/
theorem ans_right (D L : List Nat) (l : List StZ) (lim : Nat) (h : (lenZ D.length lim 0 L.length l).2 = 0) : ∃ l' : List Stp, l = l'.map stpZ ∧ OkS (D ++ (textZ D L l).drop D.length) D.length l' ∧ litS ((textZ D L l).drop D.length) 0 l' = L := by
  have hp := textZ_pre l D L
  obtain ⟨l', e, h1, h2⟩ := made_ok (textZ D L l) (n := 0) (lenZ_two h) rfl rfl
  rw [Nat.add_zero] at h1 h2
  have hT : D ++ (textZ D L l).drop D.length = textZ D L l := by
    have h3 := List.take_append_drop D.length (textZ D L l)
    rwa [hp] at h3
  refine ⟨l', e, by rw [hT]; exact h1, ?_⟩
  have h3 := litS_cut (textZ D L l) l' 0 D.length
  rw [Nat.add_zero, h2] at h3
  exact h3.symm
theorem ok_small (T : List Nat) : ∀ (l : List Stp) (a : Nat), OkS T a l → ∀ s ∈ l, s.1 ≤ T.length ∧ s.2.1 ≤ T.length ∧ s.2.2 ≤ T.length
  | [], _, _, s, hs => by simp at hs
  | t :: l, a, h, s, hs => by
    obtain ⟨e1, e2, e3, e4, _, e6⟩ := h
    rcases List.mem_cons.1 hs with rfl | hs
    · omega
    · exact ok_small T l _ e6 s hs
set_option maxRecDepth 100000 in
theorem ans_ab : ansZ [97, 98] [] [(0, 5, 2)] 9 = ([97, 98, 97, 98, 97], 0) := by decide
set_option maxRecDepth 100000 in
theorem size_x : sizeZ 1 [(0, 5, 0)] = 6 := by decide
end Go.Proofs.Ytjcehdibklndkaa.Bm
