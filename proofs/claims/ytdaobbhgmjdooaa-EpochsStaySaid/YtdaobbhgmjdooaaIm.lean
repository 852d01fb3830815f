/-
  Plain mathematics for layer 21 (epochs): dictionaries that are kept, as a list (what the program holds), and all that ever were (what the document's own answer holds); that they agree. It speaks of no program. No condition.
-/
import Derived.Test.YtdaobbhgmjdooaaBm
namespace Go.Proofs.Ytdaobbhgmjdooaa.Bm

/-- A dictionary that is there: its epoch, its text, how often it is held. -/
structure Dic where
  e : Nat
  t : ByteArray
  h : Nat
/-- The place of the first one of that epoch. -/
def fiD (x : Int) : List Dic → Option Nat
  | [] => none
  | d :: l => if (d.e : Int) = x then some 0 else (fiD x l).map (· + 1)
/-- The first one of that epoch. -/
def getD (x : Int) : List Dic → Option Dic
  | [] => none
  | d :: l => if (d.e : Int) = x then some d else getD x l
/-- The first one of that epoch is held otherwise. -/
def upD (f : Nat → Nat) (x : Int) : List Dic → List Dic
  | [] => []
  | d :: l => if (d.e : Int) = x then ⟨d.e, d.t, f d.h⟩ :: l else d :: upD f x l
/-- Room by the first one that isn't held, nor the last. -/
def dropD : List Dic → Option (List Dic)
  | [] => none
  | [_] => none
  | d :: d2 :: l => if d.h = 0 then some (d2 :: l) else (dropD (d2 :: l)).map (d :: ·)
def lastD : List Dic → Nat
  | [] => 0
  | [d] => d.e
  | _ :: d2 :: l => lastD (d2 :: l)
/-- What Add answers: the epoch, the error, the dictionaries behind it. -/
def addD (t : ByteArray) (l : List Dic) : Nat × Nat × List Dic :=
  if 256 < t.size then (0, 5, l)
  else if l.length = 8 then
    match dropD l with
    | none => (0, 2, l)
    | some l2 => (lastD l2 + 1, 0, l2 ++ [⟨lastD l2 + 1, t, 0⟩])
  else (lastD l + 1, 0, l ++ [⟨lastD l + 1, t, 0⟩])

theorem fiD_at (x : Int) (l : List Dic) (i : Nat) (hi : i < l.length) (hx : (l[i].e : Int) = x) (hf : ∀ j (hj : j < l.length), j < i → (l[j].e : Int) ≠ x) : fiD x l = some i := by
  induction l generalizing i with
  | nil => simp at hi
  | cons d l ih =>
    cases i with
    | zero =>
      have hx0 : (d.e : Int) = x := hx
      rw [fiD, if_pos hx0]
    | succ i =>
      have h0 : ¬ (d.e : Int) = x := hf 0 (by simp) (by omega)
      rw [fiD, if_neg h0, ih i (by simpa using hi) hx (fun j hj hji => hf (j + 1) (by simpa using hj) (by omega))]
      rfl
theorem fiD_no (x : Int) (l : List Dic) (hf : ∀ j (hj : j < l.length), (l[j].e : Int) ≠ x) : fiD x l = none := by
  induction l with
  | nil => rfl
  | cons d l ih =>
    have h0 : ¬ (d.e : Int) = x := hf 0 (by simp)
    rw [fiD, if_neg h0, ih (fun j hj => hf (j + 1) (by simpa using hj))]
    rfl
theorem fiD_none {x : Int} {l : List Dic} (h : fiD x l = none) : getD x l = none ∧ ∀ f, upD f x l = l := by
  induction l with
  | nil => exact ⟨rfl, fun _ => rfl⟩
  | cons d l ih =>
    rw [fiD] at h
    split at h
    · cases h
    · rename_i hx
      obtain ⟨h1, h2⟩ := ih (by simpa using h)
      exact ⟨by rw [getD, if_neg hx, h1], fun f => by rw [upD, if_neg hx, h2]⟩
theorem fiD_some {x : Int} {l : List Dic} {i : Nat} (h : fiD x l = some i) : ∃ hi : i < l.length, getD x l = some l[i] ∧ ∀ f, upD f x l = l.set i ⟨l[i].e, l[i].t, f l[i].h⟩ := by
  induction l generalizing i with
  | nil => cases h
  | cons d l ih =>
    rw [fiD] at h
    split at h
    · rename_i hx
      injection h with h
      subst h
      exact ⟨by simp, by rw [getD, if_pos hx]; rfl, fun f => by rw [upD, if_pos hx]; rfl⟩
    · rename_i hx
      obtain ⟨j, hj, rfl⟩ := Option.map_eq_some_iff.1 h
      obtain ⟨h0, h1, h2⟩ := ih hj
      exact ⟨by simpa using h0, by rw [getD, if_neg hx, h1]; rfl, fun f => by rw [upD, if_neg hx, h2]; rfl⟩
theorem getD_mem {x : Int} {l : List Dic} {d : Dic} (h : getD x l = some d) : d ∈ l ∧ (d.e : Int) = x := by
  induction l with
  | nil => cases h
  | cons c l ih =>
    rw [getD] at h
    split at h
    · rename_i hx
      injection h with h
      subst h
      exact ⟨List.mem_cons_self, hx⟩
    · obtain ⟨h1, h2⟩ := ih h
      exact ⟨List.mem_cons_of_mem _ h1, h2⟩
theorem upD_length (f : Nat → Nat) (x : Int) (l : List Dic) : (upD f x l).length = l.length := by
  induction l with
  | nil => rfl
  | cons d l ih =>
    rw [upD]
    split
    · rfl
    · rw [List.length_cons, ih, List.length_cons]
theorem upD_mem {f : Nat → Nat} {x : Int} {l : List Dic} {d : Dic} (h : d ∈ upD f x l) : ∃ c ∈ l, d.e = c.e ∧ d.t = c.t ∧ (d.h = c.h ∨ d.h = f c.h) := by
  induction l with
  | nil => simp [upD] at h
  | cons c l ih =>
    rw [upD] at h
    split at h
    · rcases List.mem_cons.1 h with rfl | h
      · exact ⟨c, List.mem_cons_self, rfl, rfl, Or.inr rfl⟩
      · exact ⟨d, List.mem_cons_of_mem _ h, rfl, rfl, Or.inl rfl⟩
    · rcases List.mem_cons.1 h with rfl | h
      · exact ⟨_, List.mem_cons_self, rfl, rfl, Or.inl rfl⟩
      · obtain ⟨c2, h1, h2⟩ := ih h
        exact ⟨c2, List.mem_cons_of_mem _ h1, h2⟩
theorem dropD_at (l : List Dic) (i : Nat) (hi : i + 1 < l.length) (h0 : l[i].h = 0) (hf : ∀ j (hj : j < l.length), j < i → l[j].h ≠ 0) : dropD l = some (l.eraseIdx i) := by
  induction l generalizing i with
  | nil => simp at hi
  | cons d l ih =>
    cases l with
    | nil => simp at hi
    | cons d2 l =>
      cases i with
      | zero =>
        have h1 : d.h = 0 := h0
        rw [dropD, if_pos h1]; rfl
      | succ i =>
        have h1 : ¬ d.h = 0 := hf 0 (by simp) (by omega)
        rw [dropD, if_neg h1, ih i (by simpa using hi) h0 (fun j hj hji => hf (j + 1) (by simpa using hj) (by omega))]
        rfl
theorem dropD_no (l : List Dic) (hf : ∀ j (hj : j < l.length), j + 1 < l.length → l[j].h ≠ 0) : dropD l = none := by
  induction l with
  | nil => rfl
  | cons d l ih =>
    cases l with
    | nil => rfl
    | cons d2 l =>
      have h1 : ¬ d.h = 0 := hf 0 (by simp) (by simp)
      rw [dropD, if_neg h1, ih (fun j hj hj2 => hf (j + 1) (by simpa using hj) (by simpa using hj2))]
      rfl
theorem dropD_last {l l2 : List Dic} (h : dropD l = some l2) : lastD l2 = lastD l ∧ l2.length + 1 = l.length ∧ l2 ≠ [] ∧ l2.Sublist l ∧ ∀ d ∈ l, 0 < d.h → d ∈ l2 := by
  induction l generalizing l2 with
  | nil => cases h
  | cons d l ih =>
    cases l with
    | nil => cases h
    | cons d2 l =>
      rw [dropD] at h
      split at h
      · rename_i h0
        injection h with h
        subst h
        refine ⟨by rw [lastD], rfl, by simp, List.sublist_cons_self _ _, fun c hc hp => ?_⟩
        rcases List.mem_cons.1 hc with rfl | hc
        · omega
        · exact hc
      · obtain ⟨l3, hl3, rfl⟩ := Option.map_eq_some_iff.1 h
        obtain ⟨h1, h2, h3, h4, h5⟩ := ih hl3
        refine ⟨?_, by rw [List.length_cons, h2]; rfl, by simp, h4.cons_cons d, fun c hc hp => ?_⟩
        · cases l3 with
          | nil => exact absurd rfl h3
          | cons d3 l3 => rw [lastD, lastD, h1]
        · rcases List.mem_cons.1 hc with rfl | hc
          · exact List.mem_cons_self
          · exact List.mem_cons_of_mem _ (h5 c hc hp)
theorem lastD_get (l : List Dic) (i : Nat) (hi : i + 1 = l.length) : lastD l = (l[i]'(by omega)).e := by
  induction l generalizing i with
  | nil => simp at hi
  | cons d l ih =>
    cases l with
    | nil =>
      have : i = 0 := by simpa using hi
      subst this
      rfl
    | cons d2 l =>
      cases i with
      | zero => simp at hi
      | succ i => rw [lastD, ih i (by simpa using hi)]; rfl
theorem lastD_snoc (l : List Dic) (d : Dic) : lastD (l ++ [d]) = d.e := by
  rw [lastD_get (l ++ [d]) l.length (by simp), List.getElem_append_right (Nat.le_refl _)]
  simp
theorem lastD_le (l : List Dic) (m : Nat) (h : ∀ d ∈ l, d.e ≤ m) : lastD l ≤ m := by
  cases l with
  | nil => exact Nat.zero_le _
  | cons d l => rw [lastD_get (d :: l) l.length rfl]; exact h _ (List.getElem_mem _)

/-- One of all that ever were: its text, whether it is there, how often it is held. -/
structure Rc where
  t : ByteArray
  th : Bool
  h : Nat
/-- Those that are there, the first one's epoch being k + 1. -/
def dlF (k : Nat) : List Rc → List Dic
  | [] => []
  | r :: R => if r.th = true then ⟨k + 1, r.t, r.h⟩ :: dlF (k + 1) R else dlF (k + 1) R
def lastT : List Rc → Bool
  | [] => true
  | [r] => r.th
  | _ :: r2 :: R => lastT (r2 :: R)
def dropR : List Rc → Option (List Rc)
  | [] => none
  | [_] => none
  | r :: r2 :: R => if r.th = true ∧ r.h = 0 then some (⟨r.t, false, r.h⟩ :: r2 :: R) else (dropR (r2 :: R)).map (r :: ·)
/-- Is an epoch there? -/
def hasR (x : Int) (R : List Rc) : Bool := decide (1 ≤ x) && ((R[(x - 1).toNat]?).map (·.th)).getD false
def updR (f : Nat → Nat) (x : Int) (R : List Rc) : List Rc := R.modify (x - 1).toNat fun r => ⟨r.t, r.th, f r.h⟩
/-- What the document's Add answers. -/
def addR (t : ByteArray) (R : List Rc) : Nat × Nat × List Rc :=
  if 256 < t.size then (0, 5, R)
  else if (dlF 0 R).length = 8 then
    match dropR R with
    | none => (0, 2, R)
    | some R2 => (R2.length + 1, 0, R2 ++ [⟨t, true, 0⟩])
  else (R.length + 1, 0, R ++ [⟨t, true, 0⟩])

theorem dlF_mem {k : Nat} {R : List Rc} {d : Dic} (h : d ∈ dlF k R) : k < d.e ∧ d.e ≤ k + R.length := by
  induction R generalizing k with
  | nil => simp [dlF] at h
  | cons r R ih =>
    rw [dlF] at h
    rw [List.length_cons]
    split at h
    · rcases List.mem_cons.1 h with rfl | h
      · show k < k + 1 ∧ k + 1 ≤ _
        omega
      · have := ih h; omega
    · have := ih h; omega
theorem dlF_held {k : Nat} {R : List Rc} {d : Dic} (h : d ∈ dlF k R) : ∃ r ∈ R, r.th = true ∧ d.t = r.t ∧ d.h = r.h := by
  induction R generalizing k with
  | nil => simp [dlF] at h
  | cons r R ih =>
    rw [dlF] at h
    split at h
    · rename_i hr
      rcases List.mem_cons.1 h with rfl | h
      · exact ⟨r, List.mem_cons_self, hr, rfl, rfl⟩
      · obtain ⟨r2, h1, h2⟩ := ih h
        exact ⟨r2, List.mem_cons_of_mem _ h1, h2⟩
    · obtain ⟨r2, h1, h2⟩ := ih h
      exact ⟨r2, List.mem_cons_of_mem _ h1, h2⟩
theorem dlF_append (k : Nat) (R S : List Rc) : dlF k (R ++ S) = dlF k R ++ dlF (k + R.length) S := by
  induction R generalizing k with
  | nil => rfl
  | cons r R ih =>
    rw [List.cons_append, dlF, dlF, ih, List.length_cons, show k + 1 + R.length = k + (R.length + 1) by omega]
    split <;> rfl
theorem getD_out {k : Nat} {R : List Rc} {x : Int} (h : x ≤ k ∨ (k + R.length : Nat) < x) (f : Nat → Nat) : getD x (dlF k R) = none ∧ upD f x (dlF k R) = dlF k R := by
  have h1 : fiD x (dlF k R) = none := fiD_no x _ (fun j hj e => by
    have := dlF_mem (List.getElem_mem hj)
    omega)
  exact ⟨(fiD_none h1).1, (fiD_none h1).2 f⟩
theorem dl_at (k : Nat) (R : List Rc) (i : Nat) (hi : i < R.length) (f : Nat → Nat) :
    (R[i].th = true → getD ((k + i + 1 : Nat) : Int) (dlF k R) = some ⟨k + i + 1, R[i].t, R[i].h⟩ ∧ upD f ((k + i + 1 : Nat) : Int) (dlF k R) = dlF k (R.set i ⟨R[i].t, R[i].th, f R[i].h⟩)) ∧
    (R[i].th = false → getD ((k + i + 1 : Nat) : Int) (dlF k R) = none ∧ upD f ((k + i + 1 : Nat) : Int) (dlF k R) = dlF k R) := by
  induction R generalizing k i with
  | nil => simp at hi
  | cons r R ih =>
    cases i with
    | zero =>
      refine ⟨fun ht => ?_, fun ht => ?_⟩
      · have ht2 : r.th = true := ht
        rw [List.set_cons_zero, dlF, if_pos ht2, getD, if_pos (by show ((k + 1 : Nat) : Int) = _; simp), upD, if_pos (by show ((k + 1 : Nat) : Int) = _; simp), dlF, if_pos ht]
        exact ⟨rfl, rfl⟩
      · have ht2 : r.th = false := ht
        rw [dlF, if_neg (by simp [ht2])]
        exact getD_out (Or.inl (by omega)) f
    | succ i =>
      have h1 := ih (k + 1) i (by simpa using hi)
      have e : ((k + (i + 1) + 1 : Nat) : Int) = ((k + 1 + i + 1 : Nat) : Int) := by omega
      have e2 : k + (i + 1) + 1 = k + 1 + i + 1 := by omega
      rw [List.getElem_cons_succ, List.set_cons_succ, e, e2, dlF, dlF]
      by_cases hr : r.th = true
      · rw [if_pos hr, if_pos hr, getD, upD, if_neg (by show ¬ ((k + 1 : Nat) : Int) = _; omega), if_neg (by show ¬ ((k + 1 : Nat) : Int) = _; omega)]
        refine ⟨fun ht => ⟨(h1.1 ht).1, by rw [(h1.1 ht).2]⟩, fun ht => ⟨(h1.2 ht).1, by rw [(h1.2 ht).2]⟩⟩
      · rw [if_neg hr, if_neg hr]
        exact h1
/-- An epoch of all that ever were, in those that are there. -/
theorem dl_has (R : List Rc) (x : Int) (f : Nat → Nat) :
    (hasR x R = true → ∃ (i : Nat) (hi : i < R.length), x = (i : Int) + 1 ∧ R[i].th = true ∧ getD x (dlF 0 R) = some ⟨i + 1, R[i].t, R[i].h⟩ ∧ upD f x (dlF 0 R) = dlF 0 (R.set i ⟨R[i].t, true, f R[i].h⟩)) ∧
    (hasR x R = false → getD x (dlF 0 R) = none ∧ upD f x (dlF 0 R) = dlF 0 R) := by
  by_cases h1 : 1 ≤ x
  · obtain ⟨i, rfl⟩ : ∃ i : Nat, x = (i : Int) + 1 := ⟨(x - 1).toNat, by omega⟩
    have e : ((i : Int) + 1 - 1).toNat = i := by omega
    have e2 : (i : Int) + 1 = ((0 + i + 1 : Nat) : Int) := by omega
    unfold hasR
    rw [e, decide_eq_true h1, Bool.true_and]
    by_cases hi : i < R.length
    · rw [List.getElem?_eq_getElem hi]
      obtain ⟨a, b⟩ := dl_at 0 R i hi f
      rw [← e2] at a b
      refine ⟨fun ht => ?_, fun ht => b ht⟩
      have ht2 : R[i].th = true := ht
      obtain ⟨a1, a2⟩ := a ht2
      rw [ht2] at a2
      exact ⟨i, hi, rfl, ht2, by rw [a1, Nat.zero_add], a2⟩
    · rw [List.getElem?_eq_none (by omega)]
      exact ⟨fun h => (Bool.noConfusion h), fun _ => getD_out (Or.inr (by omega)) f⟩
  · unfold hasR
    rw [decide_eq_false h1, Bool.false_and]
    exact ⟨fun h => (Bool.noConfusion h), fun _ => getD_out (Or.inl (by omega)) f⟩
theorem dropD_dl (k : Nat) (R : List Rc) (h : lastT R = true) : dropD (dlF k R) = (dropR R).map (dlF k) := by
  induction R generalizing k with
  | nil => rfl
  | cons r R ih =>
    cases R with
    | nil =>
      have h2 : r.th = true := h
      rw [dlF, if_pos h2]
      rfl
    | cons r2 R =>
      have h2 : lastT (r2 :: R) = true := h
      have ih2 := ih (k + 1) h2
      rw [dropR, dlF]
      by_cases hr : r.th = true
      · rw [if_pos hr]
        have hne : dlF (k + 1) (r2 :: R) ≠ [] := by
          clear ih ih2 h hr
          generalize k + 1 = q
          induction R generalizing q r2 with
          | nil =>
            have h4 : r2.th = true := h2
            rw [dlF, if_pos h4]; simp
          | cons r3 R ih3 =>
            rw [dlF]
            split
            · simp
            · exact ih3 r3 h2 (q + 1)
        cases hX : dlF (k + 1) (r2 :: R) with
        | nil => exact absurd hX hne
        | cons d2 L =>
          rw [hX] at ih2
          rw [dropD]
          by_cases h0 : r.h = 0
          · rw [if_pos h0, if_pos ⟨hr, h0⟩, Option.map_some, dlF, if_neg (by simp), hX]
          · rw [if_neg h0, if_neg (fun a => h0 a.2), ih2, Option.map_map, Option.map_map]
            congr 1
            funext Z
            show _ :: dlF (k + 1) Z = dlF k (r :: Z)
            rw [dlF, if_pos hr]
      · rw [if_neg hr, if_neg (fun a => hr a.1), ih2, Option.map_map]
        congr 1
        funext Z
        show dlF (k + 1) Z = dlF k (r :: Z)
        rw [dlF, if_neg hr]
theorem lastT_snoc (R : List Rc) (r : Rc) (h : r.th = true) : lastT (R ++ [r]) = true := by
  induction R with
  | nil => exact h
  | cons r2 R ih =>
    cases R with
    | nil => exact h
    | cons r3 R => exact ih
theorem lastT_get (R : List Rc) (i : Nat) (hi : i + 1 = R.length) : lastT R = (R[i]'(by omega)).th := by
  induction R generalizing i with
  | nil => simp at hi
  | cons d l ih =>
    cases l with
    | nil =>
      have : i = 0 := by simpa using hi
      subst this
      rfl
    | cons d2 l =>
      cases i with
      | zero => simp at hi
      | succ i => rw [lastT, ih i (by simpa using hi)]; rfl
theorem lastT_set (R : List Rc) (i : Nat) (r : Rc) (hi : i < R.length) (hr : r.th = R[i].th) : lastT (R.set i r) = lastT R := by
  cases hR : R with
  | nil => rw [hR] at hi; simp at hi
  | cons r2 R2 =>
    rw [← hR]
    have hl : R2.length + 1 = R.length := by rw [hR]; rfl
    rw [lastT_get (R.set i r) R2.length (by rw [List.length_set]; exact hl), lastT_get R R2.length hl, List.getElem_set]
    split
    · rename_i e; subst e; exact hr
    · rfl
/-- The last one's epoch is how many there ever were. -/
theorem lastD_dl (R : List Rc) (h : lastT R = true) : lastD (dlF 0 R) = R.length := by
  rcases List.eq_nil_or_concat R with rfl | ⟨R2, r, rfl⟩
  · rfl
  · rw [List.concat_eq_append] at h ⊢
    rw [lastT_get (R2 ++ [r]) R2.length (by simp), List.getElem_append_right (Nat.le_refl _)] at h
    have h2 : r.th = true := by simpa using h
    rw [dlF_append, dlF, if_pos h2, dlF, lastD_snoc, List.length_append]
    show 0 + R2.length + 1 = _
    simp
theorem dropR_keeps {R R2 : List Rc} (h : dropR R = some R2) (hl : lastT R = true) : R2.length = R.length ∧ lastT R2 = true ∧ (∀ r ∈ R2, ∃ s ∈ R, r.t = s.t ∧ r.h = s.h) := by
  induction R generalizing R2 with
  | nil => cases h
  | cons r R ih =>
    cases R with
    | nil => cases h
    | cons r2 R =>
      rw [dropR] at h
      split at h
      · injection h with h
        subst h
        refine ⟨rfl, hl, fun c hc => ?_⟩
        rcases List.mem_cons.1 hc with rfl | hc
        · exact ⟨r, List.mem_cons_self, rfl, rfl⟩
        · exact ⟨c, List.mem_cons_of_mem _ hc, rfl, rfl⟩
      · obtain ⟨l3, hl3, rfl⟩ := Option.map_eq_some_iff.1 h
        obtain ⟨h1, h2, h3⟩ := ih hl3 hl
        refine ⟨by rw [List.length_cons, h1]; rfl, ?_, fun c hc => ?_⟩
        · cases l3 with
          | nil => simp at h1
          | cons d3 l3 => exact h2
        · rcases List.mem_cons.1 hc with rfl | hc
          · exact ⟨_, List.mem_cons_self, rfl, rfl⟩
          · obtain ⟨s, hs, h4⟩ := h3 c hc
            exact ⟨s, List.mem_cons_of_mem _ hs, h4⟩
theorem dropR_at (R : List Rc) (i : Nat) (hi : i + 1 < R.length) (h0 : R[i].th = true ∧ R[i].h = 0) (hf : ∀ j (hj : j < R.length), j < i → ¬ (R[j].th = true ∧ R[j].h = 0)) : dropR R = some (R.set i ⟨R[i].t, false, R[i].h⟩) := by
  induction R generalizing i with
  | nil => simp at hi
  | cons d l ih =>
    cases l with
    | nil => simp at hi
    | cons d2 l =>
      cases i with
      | zero =>
        have h1 : d.th = true ∧ d.h = 0 := h0
        rw [dropR, if_pos h1]; rfl
      | succ i =>
        have h1 : ¬ (d.th = true ∧ d.h = 0) := hf 0 (by simp) (by omega)
        rw [dropR, if_neg h1, ih i (by simpa using hi) h0 (fun j hj hji => hf (j + 1) (by simpa using hj) (by omega))]
        rfl
theorem dropR_no (R : List Rc) (hf : ∀ j (hj : j < R.length), j + 1 < R.length → ¬ (R[j].th = true ∧ R[j].h = 0)) : dropR R = none := by
  induction R with
  | nil => rfl
  | cons d l ih =>
    cases l with
    | nil => rfl
    | cons d2 l =>
      have h1 : ¬ (d.th = true ∧ d.h = 0) := hf 0 (by simp) (by simp)
      rw [dropR, if_neg h1, ih (fun j hj hj2 => hf (j + 1) (by simpa using hj) (by simpa using hj2))]
      rfl
/-- The program's Add and the document's agree. -/
theorem add_agree (t : ByteArray) (R : List Rc) (h : lastT R = true) : (addD t (dlF 0 R)).1 = (addR t R).1 ∧ (addD t (dlF 0 R)).2.1 = (addR t R).2.1 ∧ (addD t (dlF 0 R)).2.2 = dlF 0 (addR t R).2.2 ∧ lastT (addR t R).2.2 = true := by
  unfold addD addR
  by_cases ht : 256 < t.size
  · rw [if_pos ht, if_pos ht]
    exact ⟨rfl, rfl, rfl, h⟩
  · rw [if_neg ht, if_neg ht]
    by_cases h8 : (dlF 0 R).length = 8
    · rw [if_pos h8, if_pos h8, dropD_dl 0 R h]
      cases hd : dropR R with
      | none => exact ⟨rfl, rfl, rfl, h⟩
      | some R2 =>
        obtain ⟨h1, h2, _⟩ := dropR_keeps hd h
        have h3 := lastD_dl R2 h2
        refine ⟨?_, rfl, ?_, lastT_snoc _ _ rfl⟩
        · show lastD (dlF 0 R2) + 1 = R2.length + 1
          rw [h3]
        · show dlF 0 R2 ++ [_] = dlF 0 (R2 ++ [_])
          rw [dlF_append, h3, dlF, if_pos rfl, dlF, Nat.zero_add]
    · rw [if_neg h8, if_neg h8]
      have h3 := lastD_dl R h
      refine ⟨?_, rfl, ?_, lastT_snoc _ _ rfl⟩
      · show lastD (dlF 0 R) + 1 = R.length + 1
        rw [h3]
      · show dlF 0 R ++ [_] = dlF 0 (R ++ [_])
        rw [dlF_append, h3, dlF, if_pos rfl, dlF, Nat.zero_add]
end Go.Proofs.Ytdaobbhgmjdooaa.Bm
