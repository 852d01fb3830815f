/-
  Plain mathematics for layer 19 (train): grams of texts, their weights, sums of weights, candidates, the first greatest, what is chosen. It speaks of no program. No condition.
-/
import Derived.Test.YtaebnkeddcbmkaaBm
import Derived.Lib.Index
namespace Go.Proofs.Ytaebnkeddcbmkaa.Bm
/-- Whether two texts are one can be decided, byte by byte. -/
instance decText : DecidableEq ByteArray := fun a b =>
  if h : a.data.toList = b.data.toList then isTrue (ByteArray.ext (Array.toList_inj.1 h)) else isFalse (fun e => h (by rw [e]))
instance decIn (g : ByteArray) : (l : List ByteArray) → Decidable (g ∈ l)
  | [] => isFalse (by simp)
  | x :: l => if h : g = x then isTrue (h ▸ List.mem_cons_self) else
    match decIn g l with
    | isTrue h2 => isTrue (List.mem_cons_of_mem _ h2)
    | isFalse h2 => isFalse (fun h3 => (List.mem_cons.1 h3).elim h h2)
/-- The six bytes from place i on. -/
def gr (s : ByteArray) (i : Nat) : ByteArray := s.extract i (i + 6)
/-- The grams of a text, one behind the other. -/
def gms (s : ByteArray) : List ByteArray := (List.range (s.size - 5)).map (gr s)
theorem gms_length (s : ByteArray) : (gms s).length = s.size - 5 := by simp [gms]
theorem gms_get (s : ByteArray) (i : Nat) (h : i < (gms s).length) : (gms s)[i] = gr s i := by simp [gms]
theorem gr_size (s : ByteArray) (i : Nat) (h : i + 6 ≤ s.size) : (gr s i).size = 6 := by unfold gr; rw [ByteArray.size_extract]; omega
theorem gms_cut (s : ByteArray) (i : Nat) (h : i + 5 ≤ s.size) : gms (s.extract 0 (i + 5)) = (gms s).take i := by
  have hs : (s.extract 0 (i + 5)).size = i + 5 := by rw [ByteArray.size_extract]; omega
  apply List.ext_getElem
  · rw [gms_length, List.length_take, gms_length, hs]; omega
  · intro k h1 h2
    rw [gms_get, List.getElem_take, gms_get]
    rw [gms_length, hs] at h1
    unfold gr
    rw [ByteArray.extract_extract, Nat.zero_add, Nat.zero_add, Nat.min_eq_left (by omega)]
theorem gms_take_succ (s : ByteArray) (i : Nat) (h : i < (gms s).length) : (gms s).take (i + 1) = (gms s).take i ++ [gr s i] := by
  rw [List.take_succ_eq_append_getElem h, gms_get]
/-- The sum of f over the grams, each counted once, those that were seen left out. -/
def gsum (f : ByteArray → Nat) : List ByteArray → List ByteArray → Nat
  | _, [] => 0
  | seen, g :: r => (if g ∈ seen then 0 else f g) + gsum f (g :: seen) r
theorem wsum_snoc (f : ByteArray → Nat) : ∀ (l seen : List ByteArray) (g : ByteArray), gsum f seen (l ++ [g]) = gsum f seen l + (if g ∈ seen ∨ g ∈ l then 0 else f g)
  | [], seen, g => by simp [gsum]
  | x :: l, seen, g => by
    rw [List.cons_append, gsum, gsum, wsum_snoc f l (x :: seen) g, Nat.add_assoc]
    have e : (g ∈ x :: seen ∨ g ∈ l) ↔ (g ∈ seen ∨ g ∈ x :: l) := by
      simp only [List.mem_cons]
      constructor
      · rintro ((h | h) | h) <;> simp [h]
      · rintro (h | h | h) <;> simp [h]
    by_cases h : g ∈ seen ∨ g ∈ x :: l
    · rw [if_pos h, if_pos (e.2 h)]
    · rw [if_neg h, if_neg (fun h2 => h (e.1 h2))]
theorem wsum_step (f : ByteArray → Nat) (s : ByteArray) (i : Nat) (h : i < (gms s).length) : gsum f [] ((gms s).take (i + 1)) = gsum f [] ((gms s).take i) + (if gr s i ∈ (gms s).take i then 0 else f (gr s i)) := by
  rw [gms_take_succ s i h, wsum_snoc]
  simp
theorem wsum_le (f : ByteArray → Nat) (m : Nat) : ∀ (l seen : List ByteArray), (∀ g ∈ l, f g ≤ m) → gsum f seen l ≤ l.length * m
  | [], _, _ => by simp [gsum]
  | x :: l, seen, h => by
    have h1 := wsum_le f m l (x :: seen) (fun g hg => h g (List.mem_cons_of_mem _ hg))
    have h2 := h x List.mem_cons_self
    rw [gsum, List.length_cons, Nat.succ_mul]
    split <;> omega
theorem wsum_mono (f f' : ByteArray → Nat) : ∀ (l seen : List ByteArray), (∀ g ∈ l, f g ≤ f' g) → gsum f seen l ≤ gsum f' seen l
  | [], _, _ => by simp [gsum]
  | x :: l, seen, h => by
    have h1 := wsum_mono f f' l (x :: seen) (fun g hg => h g (List.mem_cons_of_mem _ hg))
    have h2 := h x List.mem_cons_self
    rw [gsum, gsum]
    split <;> omega
theorem wsum_congr (f f' : ByteArray → Nat) (l seen : List ByteArray) (h : ∀ g ∈ l, f g = f' g) : gsum f seen l = gsum f' seen l :=
  Nat.le_antisymm (wsum_mono f f' l seen (fun g hg => Nat.le_of_eq (h g hg))) (wsum_mono f' f l seen (fun g hg => Nat.le_of_eq (h g hg).symm))
theorem wsum_zero (f : ByteArray → Nat) (l seen : List ByteArray) (h : ∀ g ∈ l, f g = 0) : gsum f seen l = 0 := by
  have := wsum_le f 0 l seen (fun g hg => Nat.le_of_eq (h g hg))
  omega
theorem wsum_pre (f : ByteArray → Nat) (l : List ByteArray) : ∀ (k : Nat), gsum f [] (l.take k) ≤ gsum f [] l := by
  intro k
  have key : ∀ (a b seen : List ByteArray), gsum f seen a ≤ gsum f seen (a ++ b) := by
    intro a
    induction a with
    | nil => intro b seen; simp [gsum]
    | cons x a ih => intro b seen; rw [List.cons_append, gsum, gsum]; have := ih b (x :: seen); omega
  have := key (l.take k) (l.drop k) []
  rwa [List.take_append_drop] at this
/-- How many of the records have a gram; its weight; is it in one of these texts; its weight, if it isn't taken. -/
def cntG (R : List ByteArray) (g : ByteArray) : Nat := (R.filter fun r => decide (g ∈ gms r)).length
def wtG (R : List ByteArray) (g : ByteArray) : Nat := cntG R g - 1
def tkn (T : List ByteArray) (g : ByteArray) : Bool := T.any fun t => decide (g ∈ gms t)
def fvl (R T : List ByteArray) (g : ByteArray) : Nat := if tkn T g then 0 else wtG R g
/-- A text's worth. -/
def worthL (R T : List ByteArray) (s : ByteArray) : Nat := gsum (fvl R T) [] (gms s)
theorem cntG_le (R : List ByteArray) (g : ByteArray) : cntG R g ≤ R.length := List.length_filter_le _ _
theorem cntG_snoc (R : List ByteArray) (r g : ByteArray) : cntG (R ++ [r]) g = cntG R g + (if g ∈ gms r then 1 else 0) := by
  unfold cntG
  rw [List.filter_append, List.length_append]
  by_cases h : g ∈ gms r
  · simp [h]
  · simp [h]
theorem fvl_le (R T : List ByteArray) (g : ByteArray) : fvl R T g ≤ R.length := by
  have := cntG_le R g
  unfold fvl wtG
  split <;> omega
theorem tkn_snoc (T : List ByteArray) (t g : ByteArray) : tkn (T ++ [t]) g = (tkn T g || decide (g ∈ gms t)) := by simp [tkn]
theorem fvl_snoc (R T : List ByteArray) (t g : ByteArray) : fvl R (T ++ [t]) g = if g ∈ gms t then 0 else fvl R T g := by
  unfold fvl
  rw [tkn_snoc]
  by_cases h : g ∈ gms t <;> simp [h]
theorem fvl_snoc_le (R T : List ByteArray) (t g : ByteArray) : fvl R (T ++ [t]) g ≤ fvl R T g := by
  rw [fvl_snoc]
  split <;> omega
theorem worth_snoc_le (R T : List ByteArray) (t s : ByteArray) : worthL R (T ++ [t]) s ≤ worthL R T s := wsum_mono _ _ _ _ (fun g _ => fvl_snoc_le R T t g)
theorem worth_snoc_self (R T : List ByteArray) (t : ByteArray) : worthL R (T ++ [t]) t = 0 := wsum_zero _ _ _ (fun g hg => by rw [fvl_snoc, if_pos hg])
theorem worth_le (R T : List ByteArray) (s : ByteArray) : worthL R T s ≤ s.size * R.length := by
  have h1 := wsum_le (fvl R T) R.length (gms s) [] (fun g _ => fvl_le R T g)
  have h2 : (gms s).length * R.length ≤ s.size * R.length := Nat.mul_le_mul_right _ (by rw [gms_length]; omega)
  exact Nat.le_trans h1 h2
theorem worth_few (R T : List ByteArray) (s : ByteArray) (h : R.length ≤ 1) : worthL R T s = 0 := wsum_zero _ _ _ (fun g _ => by
  have := cntG_le R g
  unfold fvl wtG
  split <;> omega)
/-- How long a record's pieces are; its pieces; all records' pieces. -/
def psz (s : ByteArray) : Nat := min (max s.size 6) 16
def pcs (s : ByteArray) : List ByteArray := (List.range (s.size + 1 - psz s)).map fun k => s.extract k (k + psz s)
def cnd (R : List ByteArray) : List ByteArray := R.flatMap pcs
theorem psz_in (s : ByteArray) : 6 ≤ psz s ∧ psz s ≤ 16 := by unfold psz; omega
theorem pcs_length (s : ByteArray) : (pcs s).length = s.size + 1 - psz s := by simp [pcs]
theorem pcs_get (s : ByteArray) (k : Nat) (h : k < (pcs s).length) : (pcs s)[k] = s.extract k (k + psz s) := by simp [pcs]
theorem pcs_size (s t : ByteArray) (h : t ∈ pcs s) : 6 ≤ t.size ∧ t.size ≤ 16 := by
  obtain ⟨k, hk, rfl⟩ := List.mem_iff_getElem.1 h
  have hl := pcs_length s
  have hp := psz_in s
  rw [pcs_get, ByteArray.size_extract]
  omega
theorem cnd_size (R : List ByteArray) (t : ByteArray) (h : t ∈ cnd R) : 6 ≤ t.size ∧ t.size ≤ 16 := by
  obtain ⟨s, _, hs⟩ := List.mem_flatMap.1 h
  exact pcs_size s t hs
theorem cnd_length (m : Nat) : ∀ (R : List ByteArray), (∀ s ∈ R, s.size ≤ m) → (cnd R).length ≤ R.length * m
  | [], _ => by simp [cnd]
  | s :: R, h => by
    have h1 := cnd_length m R (fun x hx => h x (List.mem_cons_of_mem _ hx))
    have h2 := h s List.mem_cons_self
    have h3 := pcs_length s
    have h4 := psz_in s
    unfold cnd at h1 ⊢
    rw [List.flatMap_cons, List.length_append, List.length_cons, Nat.succ_mul]
    omega
/-- The first greatest of texts by v, above what there was. -/
def scan (v : ByteArray → Nat) : List ByteArray → ByteArray × Nat → ByteArray × Nat
  | [], a => a
  | t :: r, a => scan v r (if a.2 < v t then (t, v t) else a)
theorem scan_low (v : ByteArray → Nat) : ∀ (C : List ByteArray) (a : ByteArray × Nat), (∀ t ∈ C, v t ≤ a.2) → scan v C a = a
  | [], _, _ => rfl
  | t :: r, a, h => by
    have h1 := h t List.mem_cons_self
    rw [scan, if_neg (by omega)]
    exact scan_low v r a (fun x hx => h x (List.mem_cons_of_mem _ hx))
theorem scan_at (v : ByteArray → Nat) (t : ByteArray) (B : List ByteArray) (hB : ∀ x ∈ B, v x ≤ v t) : ∀ (A : List ByteArray) (a : ByteArray × Nat), (∀ x ∈ A, v x < v t) → a.2 < v t → scan v (A ++ t :: B) a = (t, v t)
  | [], a, _, h => by
    rw [List.nil_append, scan, if_pos h]
    exact scan_low v B _ hB
  | x :: A, a, hA, h => by
    rw [List.cons_append, scan]
    refine scan_at v t B hB A _ (fun y hy => hA y (List.mem_cons_of_mem _ hy)) ?_
    have := hA x List.mem_cons_self
    split
    · exact this
    · exact h
theorem scan_mem (v : ByteArray → Nat) : ∀ (C : List ByteArray) (a : ByteArray × Nat), (scan v C a = a ∨ ((scan v C a).1 ∈ C ∧ (scan v C a).2 = v (scan v C a).1 ∧ a.2 < (scan v C a).2)) ∧ a.2 ≤ (scan v C a).2 ∧ ∀ t ∈ C, v t ≤ (scan v C a).2
  | [], a => ⟨.inl rfl, Nat.le_refl _, fun t h => by simp at h⟩
  | t :: r, a => by
    obtain ⟨h1, h2, h3⟩ := scan_mem v r (if a.2 < v t then (t, v t) else a)
    rw [scan]
    by_cases h : a.2 < v t
    · rw [if_pos h] at h1 h2 h3 ⊢
      refine ⟨.inr ?_, by omega, fun x hx => ?_⟩
      · rcases h1 with h1 | ⟨h1, h4, h5⟩
        · rw [h1]; exact ⟨List.mem_cons_self, rfl, h⟩
        · exact ⟨List.mem_cons_of_mem _ h1, h4, by omega⟩
      · rcases List.mem_cons.1 hx with rfl | hx
        · exact h2
        · exact h3 x hx
    · rw [if_neg h] at h1 h2 h3 ⊢
      refine ⟨?_, h2, fun x hx => ?_⟩
      · rcases h1 with h1 | ⟨h1, h4, h5⟩
        · exact .inl h1
        · exact .inr ⟨List.mem_cons_of_mem _ h1, h4, h5⟩
      · rcases List.mem_cons.1 hx with rfl | hx
        · omega
        · exact h3 x hx
/-- The first greatest of all candidates. -/
def bst (R T : List ByteArray) : ByteArray × Nat := scan (worthL R T) (cnd R) (⟨#[]⟩, 0)
theorem bst_pos (R T : List ByteArray) (h : 0 < (bst R T).2) : (bst R T).1 ∈ cnd R ∧ (bst R T).2 = worthL R T (bst R T).1 := by
  rcases (scan_mem (worthL R T) (cnd R) (⟨#[]⟩, 0)).1 with h1 | ⟨h1, h2, _⟩
  · unfold bst at h
    rw [h1] at h
    simp at h
  · exact ⟨h1, h2⟩
theorem bst_most (R T : List ByteArray) (t : ByteArray) (h : t ∈ cnd R) : worthL R T t ≤ (bst R T).2 := (scan_mem (worthL R T) (cnd R) (⟨#[]⟩, 0)).2.2 t h
theorem bst_size (R T : List ByteArray) (h : 0 < (bst R T).2) : 6 ≤ (bst R T).1.size ∧ (bst R T).1.size ≤ 16 := cnd_size R _ (bst_pos R T h).1
/-- What is chosen, some being chosen. -/
def pcN (R : List ByteArray) : Nat → Nat → List ByteArray → List ByteArray
  | 0, _, T => T
  | f + 1, left, T => if (bst R T).2 = 0 ∨ left < (bst R T).1.size then T else pcN R f (left - (bst R T).1.size) (T ++ [(bst R T).1])
/-- What is chosen of records, of at most this size. -/
def chosen (R : List ByteArray) (size : Nat) : List ByteArray := pcN R (size + 1) size []
theorem pcN_end (R : List ByteArray) (f left : Nat) (T : List ByteArray) (h : (bst R T).2 = 0 ∨ left < (bst R T).1.size) : pcN R f left T = T := by
  cases f with
  | zero => rfl
  | succ f => rw [pcN, if_pos h]
theorem pcN_step (R : List ByteArray) (f left : Nat) (T : List ByteArray) (h : ¬ ((bst R T).2 = 0 ∨ left < (bst R T).1.size)) : pcN R (f + 1) left T = pcN R f (left - (bst R T).1.size) (T ++ [(bst R T).1]) := by
  rw [pcN, if_neg h]
/-- How many bytes texts have. -/
def sizeT (l : List ByteArray) : Nat := (l.map ByteArray.size).sum
theorem sizeT_snoc (l : List ByteArray) (t : ByteArray) : sizeT (l ++ [t]) = sizeT l + t.size := by simp [sizeT]
theorem sizeT_cons (l : List ByteArray) (t : ByteArray) : sizeT (t :: l) = t.size + sizeT l := by simp [sizeT]
theorem pcN_size (R : List ByteArray) : ∀ (f left : Nat) (T : List ByteArray), sizeT (pcN R f left T) ≤ sizeT T + left
  | 0, left, T => by simp [pcN]
  | f + 1, left, T => by
    rw [pcN]
    split
    · omega
    · rename_i h
      have h1 := pcN_size R f (left - (bst R T).1.size) (T ++ [(bst R T).1])
      rw [sizeT_snoc] at h1
      omega
theorem chosen_size (R : List ByteArray) (size : Nat) : sizeT (chosen R size) ≤ size := by
  have := pcN_size R (size + 1) size []
  simpa [sizeT, chosen] using this
/-- What holds of what is chosen: each has a worth above 0, by those ahead, no greater than the one ahead of it, and is no candidate of another size. -/
def GoodC (R P : List ByteArray) : Prop := ∀ i (h : i < P.length), P[i] ∈ cnd R ∧ 0 < worthL R (P.take i) P[i] ∧ (∀ t ∈ cnd R, worthL R (P.take i) t ≤ worthL R (P.take i) P[i])
theorem goodC_snoc (R T : List ByteArray) (h : GoodC R T) (hb : 0 < (bst R T).2) : GoodC R (T ++ [(bst R T).1]) := by
  intro i hi
  rw [List.length_append, List.length_singleton] at hi
  by_cases e : i = T.length
  · subst e
    have h1 : (T ++ [(bst R T).1])[T.length]'(by simp) = (bst R T).1 := by simp
    have h2 : (T ++ [(bst R T).1]).take T.length = T := by simp
    obtain ⟨h3, h4⟩ := bst_pos R T hb
    rw [h1, h2]
    exact ⟨h3, by omega, fun t ht => by rw [← h4]; exact bst_most R T t ht⟩
  · have hi2 : i < T.length := by omega
    rw [List.getElem_append_left hi2, List.take_append_of_le_length (by omega)]
    exact h i hi2
theorem pcN_good (R : List ByteArray) : ∀ (f left : Nat) (T : List ByteArray), GoodC R T → GoodC R (pcN R f left T)
  | 0, left, T, h => h
  | f + 1, left, T, h => by
    rw [pcN]
    split
    · exact h
    · rename_i hn
      exact pcN_good R f _ _ (goodC_snoc R T h (by omega))
theorem chosen_good (R : List ByteArray) (size : Nat) : GoodC R (chosen R size) := pcN_good R _ _ _ (fun i h => by simp at h)
theorem good_falls {R P : List ByteArray} (h : GoodC R P) (i : Nat) (hi : i + 1 < P.length) : worthL R (P.take (i + 1)) P[i + 1] ≤ worthL R (P.take i) P[i] := by
  have h1 := (h (i + 1) hi).1
  have h2 := (h i (by omega)).2.2 _ h1
  rw [List.take_succ_eq_append_getElem (by omega)]
  exact Nat.le_trans (worth_snoc_le _ _ _ _) h2
theorem chosen_few (R : List ByteArray) (size : Nat) (h : R.length ≤ 1) : chosen R size = [] := by
  unfold chosen
  refine pcN_end R _ _ _ (.inl ?_)
  rcases Nat.eq_zero_or_pos (bst R []).2 with h1 | h1
  · exact h1
  · have h2 := (bst_pos R [] h1).2
    rw [worth_few R [] _ h] at h2
    exact h2
/-- Records as they count. -/
def cutT (s : ByteArray) : ByteArray := if 512 < s.size then s.extract 0 512 else s
def brt (R : List ByteArray) : List ByteArray := (R.take 64).map cutT
theorem cutT_size (s : ByteArray) : (cutT s).size ≤ 512 := by
  unfold cutT
  split
  · rw [ByteArray.size_extract]; omega
  · omega
theorem cutT_min (s : ByteArray) : s.extract 0 (min s.size 512) = cutT s := by
  unfold cutT
  split
  · rw [Nat.min_eq_right (by omega)]
  · rw [Nat.min_eq_left (by omega), ByteArray.extract_zero_size]
theorem brt_length (R : List ByteArray) : (brt R).length = min 64 R.length := by simp [brt]
theorem brt_size (R : List ByteArray) (s : ByteArray) (h : s ∈ brt R) : s.size ≤ 512 := by
  obtain ⟨r, _, rfl⟩ := List.mem_map.1 h
  exact cutT_size r
/-- The first place of a gram in its text. -/
theorem index_gram (s : ByteArray) (i : Nat) (h : i < (gms s).length) : (Lib.index s.data.toList (gr s i).data.toList = (i : Int)) ↔ ¬ gr s i ∈ (gms s).take i := by
  rw [gms_length] at h
  have hs : s.data.toList.length = s.size := by rw [Array.length_toList]; rfl
  have hg : ∀ k, k + 6 ≤ s.size → (gr s k).data.toList = (s.data.toList.drop k).take 6 := fun k hk => by
    unfold gr
    rw [ByteArray.data_extract]
    rw [Array.toList_extract]
    rw [List.extract_eq_take_drop, Nat.add_sub_cancel_left]
  have hl : (gr s i).data.toList.length = 6 := by rw [Array.length_toList]; exact gr_size s i (by omega)
  have hocc : ∀ k, k + 6 ≤ s.size → Lib.occAt s.data.toList (gr s i).data.toList k = decide (gr s k = gr s i) := fun k hk => by
    rw [Lib.occAt_iff_take _ _ _ (by rw [hl, hs]; exact hk), hl, ← hg k hk]
    by_cases e : gr s k = gr s i
    · rw [e]; simp
    · rw [decide_eq_false e]
      rw [beq_eq_false_iff_ne]
      intro e2
      exact e (ByteArray.ext (by rw [← Array.toList_inj]; exact e2))
  have hmem : gr s i ∈ (gms s).take i ↔ ∃ k, k < i ∧ gr s k = gr s i := by
    constructor
    · intro h1
      obtain ⟨k, hk, e⟩ := List.mem_iff_getElem.1 h1
      rw [List.length_take] at hk
      rw [List.getElem_take, gms_get] at e
      exact ⟨k, by omega, e⟩
    · rintro ⟨k, hk, e⟩
      rw [List.mem_iff_getElem]
      exact ⟨k, by rw [List.length_take, gms_length]; omega, by rw [List.getElem_take, gms_get]; exact e⟩
  constructor
  · intro h1 h2
    obtain ⟨k, hk, e⟩ := hmem.1 h2
    -- the first of all such places
    have hex : ∃ m, m ≤ k ∧ gr s m = gr s i ∧ ∀ j, j < m → ¬ gr s j = gr s i := by
      clear h1 h2 hmem
      induction k using Nat.strongRecOn with
      | _ k ih =>
        by_cases hc : ∃ j, j < k ∧ gr s j = gr s i
        · obtain ⟨j, hj, e2⟩ := hc
          obtain ⟨m, hm, e3, hn⟩ := ih j hj (by omega) e2
          exact ⟨m, by omega, e3, hn⟩
        · exact ⟨k, Nat.le_refl _, e, fun j hj e2 => hc ⟨j, hj, e2⟩⟩
    obtain ⟨m, hm, e2, hn⟩ := hex
    have h3 := Lib.index_first (s := s.data.toList) (sub := (gr s i).data.toList) (i := m) (by rw [hs]; omega) (by rw [hocc m (by omega)]; simp [e2]) (fun j hj => by rw [hocc j (by omega)]; simp [hn j hj])
    rw [h1] at h3
    omega
  · intro h1
    refine Lib.index_first (by rw [hs]; omega) (by rw [hocc i (by omega)]; simp) (fun j hj => ?_)
    rw [hocc j (by omega), decide_eq_false]
    exact fun e => h1 (hmem.2 ⟨j, hj, e⟩)
end Go.Proofs.Ytaebnkeddcbmkaa.Bm
