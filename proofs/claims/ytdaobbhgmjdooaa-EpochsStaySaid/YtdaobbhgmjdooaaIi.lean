/-
  Layer 21 (epochs): what the second law holds of its map beside the Store: each held dictionary is there, with its text, and as many as are held; what Add and Hold do to that. Plain mathematics over a map's reading. No condition.
-/
import Derived.Test.YtdaobbhgmjdooaaIm
import Derived.Maps.OwnSet
namespace Go.Proofs.Ytdaobbhgmjdooaa
open Go.RowKit Go.Maps Go.Proofs.Ytdaobbhgmjdooaa.Bm

/-- How many dictionaries are held. -/
def hcD (l : List Dic) : Nat := (l.filter fun d => decide (0 < d.h)).length
theorem hcD_append (l m : List Dic) : hcD (l ++ m) = hcD l + hcD m := by simp [hcD]
theorem hcD_cons (d : Dic) (l : List Dic) : hcD (d :: l) = (if 0 < d.h then 1 else 0) + hcD l := by
  unfold hcD
  rw [List.filter_cons]
  by_cases h : 0 < d.h
  · rw [if_pos (by simpa using h), if_pos h, List.length_cons]; omega
  · rw [if_neg (by simpa using h), if_neg h]; omega
theorem dropD_hc {l l2 : List Dic} (h : dropD l = some l2) : hcD l2 = hcD l := by
  induction l generalizing l2 with
  | nil => cases h
  | cons d l ih =>
    cases l with
    | nil => cases h
    | cons d2 l =>
      rw [dropD] at h
      split at h
      · rename_i h0
        injection h with h
        subst h
        rw [hcD_cons d, if_neg (by omega), Nat.zero_add]
      · obtain ⟨l3, hl3, rfl⟩ := Option.map_eq_some_iff.1 h
        rw [hcD_cons, hcD_cons d, ih hl3]
theorem dropD_full {l : List Dic} (h : dropD l = none) : l.length ≤ hcD l + 1 := by
  induction l with
  | nil => exact Nat.zero_le _
  | cons d l ih =>
    cases l with
    | nil => simp
    | cons d2 l =>
      rw [dropD] at h
      split at h
      · cases h
      · rename_i h0
        have h1 := ih (by simpa using h)
        rw [hcD_cons d, if_pos (by omega), List.length_cons]
        omega
/-- Epochs that rise. -/
def SoD (l : List Dic) : Prop := l.Pairwise fun a c => a.e < c.e
theorem SoD.last {l : List Dic} (h : SoD l) : ∀ d ∈ l, d.e ≤ lastD l := by
  intro d hd
  obtain ⟨i, hi, rfl⟩ := List.mem_iff_getElem.1 hd
  rw [lastD_get l (l.length - 1) (by omega)]
  by_cases e : i = l.length - 1
  · subst e; exact Nat.le_refl _
  · exact Nat.le_of_lt (List.pairwise_iff_getElem.1 h i (l.length - 1) hi (by omega) (by omega))
theorem SoD.get {l : List Dic} (h : SoD l) {d : Dic} (hd : d ∈ l) : getD (d.e : Int) l = some d := by
  induction l with
  | nil => cases hd
  | cons c l ih =>
    unfold SoD at h
    rw [List.pairwise_cons] at h
    rcases List.mem_cons.1 hd with rfl | hd
    · rw [getD, if_pos rfl]
    · have := h.1 d hd
      rw [getD, if_neg (by omega)]
      exact ih h.2 hd
/-- What Add answers of a text that fits. -/
theorem addD_cases (t : ByteArray) (l : List Dic) (ht : t.size ≤ 256) (hs : SoD l) :
    (addD t l = (0, 2, l) ∧ 7 ≤ hcD l) ∨ ∃ l0, addD t l = (lastD l0 + 1, 0, l0 ++ [⟨lastD l0 + 1, t, 0⟩]) ∧ SoD l0 ∧ hcD l0 = hcD l ∧ ∀ d ∈ l, 0 < d.h → d ∈ l0 := by
  unfold addD
  rw [if_neg (by omega)]
  by_cases h8 : l.length = 8
  · rw [if_pos h8]
    cases hd : dropD l with
    | none =>
      have := dropD_full hd
      exact Or.inl ⟨rfl, by omega⟩
    | some l2 =>
      obtain ⟨_, _, _, h4, h5⟩ := dropD_last hd
      exact Or.inr ⟨l2, rfl, List.Pairwise.sublist h4 hs, dropD_hc hd, h5⟩
  · rw [if_neg h8]
    exact Or.inr ⟨l, rfl, hs, rfl, fun d hd _ => hd⟩
/-- The key of an epoch. -/
def kE (x : Int) : Lit := .int .i64 x
theorem kE_inj {x y : Int} (h : x ≠ y) : kE x ≠ kE y := fun e => by injection e with _ e; exact h e
/-- What is held of the map beside the dictionaries. -/
structure HJ (l : List Dic) (D : DataW Unit) : Prop where
  so : SoD l
  at_ : ∀ (x : Int) (c : List UInt8), (∀ zd, D.atKey (kE x) zd = .lit (.string c)) → ∃ d ∈ l, (d.e : Int) = x ∧ d.t.data.toList = c ∧ 0 < d.h
  has : ∀ x : Int, Maps.has D (kE x) = true → ∃ d ∈ l, (d.e : Int) = x ∧ 0 < d.h
  size : Maps.size D = hcD l
theorem HJ.start : HJ [] (.map []) := by
  refine ⟨List.Pairwise.nil, fun x c h => ?_, fun x h => ?_, rfl⟩
  · have h1 : (DataW.map [] : DataW Unit).atKey (kE x) (.lit (.bool true)) = .lit (.bool true) := rfl
    rw [h] at h1
    cases h1
  · cases h
/-- One more, that isn't held. -/
theorem HJ.add {l l0 : List Dic} {D : DataW Unit} (h : HJ l D) (t : ByteArray) (hs : SoD l0) (hc : hcD l0 = hcD l) (hm : ∀ d ∈ l, 0 < d.h → d ∈ l0) : HJ (l0 ++ [⟨lastD l0 + 1, t, 0⟩]) D := by
  refine ⟨?_, fun x c hx => ?_, fun x hx => ?_, ?_⟩
  · unfold SoD
    rw [List.pairwise_append]
    refine ⟨hs, List.pairwise_singleton _ _, fun a ha c hc => ?_⟩
    rw [List.mem_singleton.1 hc]
    exact Nat.lt_succ_of_le (hs.last a ha)
  · obtain ⟨d, hd, h1, h2, h3⟩ := h.at_ x c hx
    exact ⟨d, List.mem_append_left _ (hm d hd h3), h1, h2, h3⟩
  · obtain ⟨d, hd, h1, h3⟩ := h.has x hx
    exact ⟨d, List.mem_append_left _ (hm d hd h3), h1, h3⟩
  · rw [hcD_append, hc, h.size]
    rfl
/-- That one is held, and noted. -/
theorem HJ.hold {l0 : List Dic} {D : DataW Unit} {n : Nat} {t : ByteArray} (h : HJ (l0 ++ [⟨n, t, 0⟩]) D) (ht : Tidy D) :
    upD (· + 1) (n : Int) (l0 ++ [⟨n, t, 0⟩]) = l0 ++ [⟨n, t, 1⟩] ∧ HJ (l0 ++ [⟨n, t, 1⟩]) (D.put (kE n) (.lit (.string t.data.toList))) := by
  have hlt : ∀ d ∈ l0, d.e < n := fun d hd => by
    have h1 := h.so
    unfold SoD at h1
    rw [List.pairwise_append] at h1
    exact h1.2.2 d hd _ (List.mem_singleton.2 rfl)
  have hmem : ∀ d ∈ l0 ++ [(⟨n, t, 0⟩ : Dic)], 0 < d.h → d ∈ l0 := fun d hd hp => by
    rcases List.mem_append.1 hd with h1 | h1
    · exact h1
    · rw [List.mem_singleton.1 h1] at hp
      exact absurd hp (by simp)
  have hno : Maps.has D (kE n) = false := by
    cases hh : Maps.has D (kE n) with
    | false => rfl
    | true =>
      obtain ⟨d, hd, h1, h2⟩ := h.has n hh
      have := hlt d (hmem d hd h2)
      omega
  refine ⟨?_, ?_, fun x c hx => ?_, fun x hx => ?_, ?_⟩
  · clear h hmem hno
    induction l0 with
    | nil =>
      rw [List.nil_append, upD, if_pos rfl]
      rfl
    | cons d l ih =>
      have := hlt d List.mem_cons_self
      rw [List.cons_append, upD, if_neg (by omega), ih (fun c hc => hlt c (List.mem_cons_of_mem _ hc)), List.cons_append]
  · have h1 := h.so
    unfold SoD at h1 ⊢
    rw [List.pairwise_append] at h1 ⊢
    refine ⟨h1.1, List.pairwise_singleton _ _, fun a ha c hc => ?_⟩
    rw [List.mem_singleton.1 hc]
    exact hlt a ha
  · by_cases e : x = (n : Int)
    · subst e
      have h1 := hx (.lit (.bool true))
      rw [atKey_put_same ht.isMap (show WideAt.IsKeyLit (kE (n : Int)) from trivial)] at h1
      injection h1 with h1
      injection h1 with h1
      exact ⟨⟨n, t, 1⟩, List.mem_append_right _ (List.mem_singleton.2 rfl), rfl, h1, Nat.one_pos⟩
    · obtain ⟨d, hd, h1, h2, h3⟩ := h.at_ x c (fun zd => by rw [← hx zd, atKey_put_other (kE_inj e)])
      exact ⟨d, List.mem_append_left _ (hmem d hd h3), h1, h2, h3⟩
  · by_cases e : x = (n : Int)
    · subst e
      exact ⟨⟨n, t, 1⟩, List.mem_append_right _ (List.mem_singleton.2 rfl), rfl, Nat.one_pos⟩
    · rw [has_put_other (kE_inj e)] at hx
      obtain ⟨d, hd, h1, h3⟩ := h.has x hx
      exact ⟨d, List.mem_append_left _ (hmem d hd h3), h1, h3⟩
  · rw [size_put ht, hno, h.size, hcD_append, hcD_append]
    rfl
end Go.Proofs.Ytdaobbhgmjdooaa
