/-
  Plain mathematics for layer 24 (frame): a frame's bytes, what a text begins with, a text split. It speaks of no program. No condition.
-/
import Derived.Test.YtfopnbfaaikghaaBm
import Derived.Test.YtfopnbfaaikghaaSm
namespace Go.Proofs.Ytfopnbfaaikghaa.Bm

/-- A frame: its kind, its body's bytes. -/
abbrev Frm := Int × List Nat
def zfr : Frm := (0, [])
/-- The bytes ahead of the sum. -/
def headF (f : Frm) : List Nat := f.1.toNat :: (bytesOf f.2.length 2 ++ f.2)
def bytesF (f : Frm) : List Nat := headF f ++ bytesOf (sumOf (headF f)) 8
/-- It may be. -/
def FrOk (f : Frm) : Prop := 1 ≤ f.1 ∧ f.1 ≤ 10 ∧ f.2.length ≤ 900 ∧ ∀ x ∈ f.2, x < 256
def kindN : List Nat → Nat
  | a :: _ => a
  | [] => 0
def lenN : List Nat → Nat
  | _ :: b :: c :: _ => b + 256 * c
  | _ => 0
def sizeN (s : List Nat) : Nat := 11 + lenN s
/-- The error that its beginning tells. -/
def badN (s : List Nat) : Nat := if kindN s < 1 ∨ 10 < kindN s then 6 else if 900 < lenN s then 5 else 0
def sealsF (s : List Nat) : Prop := valB ((s.drop (lenN s + 3)).take 8) = sumOf (s.take (lenN s + 3))
instance (s : List Nat) : Decidable (sealsF s) := by unfold sealsF; infer_instance
def frmF (s : List Nat) : Frm := ((kindN s : Int), (s.drop 3).take (lenN s))
/-- What a text begins with: a frame, how many bytes it has; or an error. -/
def firstF (s : List Nat) : Frm × Nat × Nat :=
  if s = [] then (zfr, 0, 0) else if kindN s < 1 ∨ 10 < kindN s then (zfr, 1, 6) else if s.length < 3 then (zfr, 0, 0)
  else if 900 < lenN s then (zfr, 3, 5) else if s.length < lenN s + 11 then (zfr, 0, 0) else if sealsF s then (frmF s, lenN s + 11, 0) else (zfr, lenN s + 11, 4)
theorem lenN_short (s : List Nat) (h : s.length < 3) : lenN s = 0 := by
  match s, h with
  | [], _ => rfl
  | [_], _ => rfl
  | [_, _], _ => rfl
  | _ :: _ :: _ :: _, h => simp at h; omega
theorem lenN_val (s : List Nat) (h : 3 ≤ s.length) : valB ((s.drop 1).take 2) = lenN s := by
  match s, h with
  | a :: b :: c :: r, _ => simp [lenN, valB]
theorem kindN_val (s : List Nat) (h : s ≠ []) : valB (s.take 1) = kindN s := by
  match s, h with
  | a :: r, _ => simp [kindN, valB]
theorem kindN_append (s t : List Nat) (h : s ≠ []) : kindN (s ++ t) = kindN s := by
  match s, h with
  | a :: r, _ => rfl
theorem lenN_append (s t : List Nat) (h : 3 ≤ s.length) : lenN (s ++ t) = lenN s := by
  match s, h with
  | a :: b :: c :: r, _ => rfl
theorem lenN_lt (s : List Nat) (h : ∀ x ∈ s, x < 256) : lenN s < 65536 := by
  match s, h with
  | [], _ => decide
  | [_], _ => exact (by decide : (0 : Nat) < 65536)
  | [_, _], _ => exact (by decide : (0 : Nat) < 65536)
  | a :: b :: c :: r, h =>
    have h1 := h b (by simp)
    have h2 := h c (by simp)
    show b + 256 * c < 65536
    omega
theorem kindN_lt (s : List Nat) (h : ∀ x ∈ s, x < 256) : kindN s < 256 := by
  match s, h with
  | [], _ => exact (by decide : (0 : Nat) < 256)
  | a :: r, h => exact h a (by simp)
theorem badN_append (s t : List Nat) (h : 3 ≤ s.length) : badN (s ++ t) = badN s := by
  unfold badN
  rw [kindN_append s t (by intro e; rw [e] at h; simp at h), lenN_append s t h]
theorem sizeN_append (s t : List Nat) (h : 3 ≤ s.length) : sizeN (s ++ t) = sizeN s := by
  unfold sizeN
  rw [lenN_append s t h]
theorem badN_le (s : List Nat) : badN s = 0 ∨ badN s = 5 ∨ badN s = 6 := by
  unfold badN
  split
  · exact .inr (.inr rfl)
  · split
    · exact .inr (.inl rfl)
    · exact .inl rfl
theorem sizeN_most (s : List Nat) (h : badN s = 0) : sizeN s ≤ 911 := by
  unfold badN at h
  unfold sizeN
  split at h
  · cases h
  · split at h
    · cases h
    · omega
theorem firstF_nil : firstF [] = (zfr, 0, 0) := by unfold firstF; rw [if_pos rfl]
theorem firstF_bad (s : List Nat) (hs : s ≠ []) (h : badN s ≠ 0) : (firstF s).1 = zfr ∧ (firstF s).2.2 = badN s := by
  unfold firstF
  unfold badN at h ⊢
  rw [if_neg hs]
  split
  · exact ⟨rfl, rfl⟩
  · rename_i h1
    rw [if_neg h1] at h
    by_cases h3 : s.length < 3
    · rw [lenN_short s h3] at h
      exact absurd rfl h
    · rw [if_neg h3]
      by_cases h9 : 900 < lenN s
      · rw [if_pos h9, if_pos h9]
        exact ⟨rfl, rfl⟩
      · rw [if_neg h9] at h
        exact absurd rfl h
theorem firstF_ok (s : List Nat) (hs : s ≠ []) (h : badN s = 0) : firstF s = if s.length < sizeN s then (zfr, 0, 0) else if sealsF s then (frmF s, sizeN s, 0) else (zfr, sizeN s, 4) := by
  unfold badN at h
  split at h
  · cases h
  · rename_i h1
    split at h
    · cases h
    · rename_i h2
      unfold firstF
      rw [if_neg hs, if_neg h1, if_neg h2]
      have e : sizeN s = lenN s + 11 := Nat.add_comm _ _
      rw [e]
      by_cases h3 : s.length < 3
      · rw [if_pos h3, if_pos (by omega)]
      · rw [if_neg h3]
theorem firstF_more (s : List Nat) (h : badN s = 0) (hl : s.length < sizeN s) : firstF s = (zfr, 0, 0) := by
  by_cases hs : s = []
  · rw [hs]; exact firstF_nil
  · rw [firstF_ok s hs h, if_pos hl]
theorem size_ne (s : List Nat) (h : sizeN s ≤ s.length) : s ≠ [] := fun e => by rw [e] at h; exact absurd h (by decide)
theorem firstF_whole (s : List Nat) (h : badN s = 0) (hl : sizeN s ≤ s.length) (hf : sealsF s) : firstF s = (frmF s, sizeN s, 0) := by
  rw [firstF_ok s (size_ne s hl) h, if_neg (by omega), if_pos hf]
theorem firstF_unsealed (s : List Nat) (h : badN s = 0) (hl : sizeN s ≤ s.length) (hf : ¬ sealsF s) : firstF s = (zfr, sizeN s, 4) := by
  rw [firstF_ok s (size_ne s hl) h, if_neg (by omega), if_neg hf]

/-- A frame's bytes, read. -/
theorem len2 (n : Nat) (h : n ≤ 900) : bytesOf n 2 = [n % 256, n / 256] := by
  have : n / 256 % 256 = n / 256 := Nat.mod_eq_of_lt (by omega)
  simp [bytesOf, List.range_succ, this]
theorem headF_length (f : Frm) : (headF f).length = f.2.length + 3 := by
  unfold headF
  rw [List.length_cons, List.length_append, bytesOf_length]
  omega
theorem bytesF_length (f : Frm) : (bytesF f).length = f.2.length + 11 := by
  unfold bytesF
  rw [List.length_append, headF_length, bytesOf_length]
theorem FrOk.kind {f : Frm} (_ : FrOk f) (t : List Nat) : kindN (bytesF f ++ t) = f.1.toNat := rfl
theorem FrOk.len {f : Frm} (h : FrOk f) (t : List Nat) : lenN (bytesF f ++ t) = f.2.length := by
  have h2 := h.2.2.1
  unfold bytesF headF
  rw [len2 _ h2]
  show f.2.length % 256 + 256 * (f.2.length / 256) = f.2.length
  omega
theorem headF_lt {f : Frm} (h : FrOk f) : ∀ x ∈ headF f, x < 256 := by
  obtain ⟨h1, h2, h3, h4⟩ := h
  intro x hx
  unfold headF at hx
  rcases List.mem_cons.1 hx with rfl | hx
  · omega
  · rcases List.mem_append.1 hx with hx | hx
    · exact bytesOf_lt _ _ x hx
    · exact h4 x hx
theorem bytesF_lt {f : Frm} (h : FrOk f) : ∀ x ∈ bytesF f, x < 256 := by
  intro x hx
  unfold bytesF at hx
  rcases List.mem_append.1 hx with hx | hx
  · exact headF_lt h x hx
  · exact bytesOf_lt _ _ x hx
theorem FrOk.first {f : Frm} (h : FrOk f) (t : List Nat) : badN (bytesF f ++ t) = 0 ∧ sizeN (bytesF f ++ t) = (bytesF f).length ∧ sealsF (bytesF f ++ t) ∧ frmF (bytesF f ++ t) = f := by
  have hk := h.kind t
  have hl := h.len t
  have hh := headF_length f
  obtain ⟨h1, h2, h3, h4⟩ := h
  refine ⟨?_, ?_, ?_, ?_⟩
  · unfold badN
    rw [hk, hl, if_neg (by omega), if_neg (by omega)]
  · unfold sizeN
    rw [hl, bytesF_length]
    omega
  · unfold sealsF
    rw [hl]
    unfold bytesF
    rw [List.append_assoc, List.drop_left' hh, List.take_left' hh, List.take_left' (bytesOf_length _ _), valB_bytesOf]
    exact Nat.mod_eq_of_lt (Nat.lt_of_lt_of_eq (sumOf_lt _) (by decide))
  · unfold frmF
    rw [hk, hl]
    have e : bytesF f ++ t = (f.1.toNat :: bytesOf f.2.length 2) ++ (f.2 ++ (bytesOf (sumOf (headF f)) 8 ++ t)) := by
      unfold bytesF headF
      simp only [List.cons_append, List.append_assoc]
    rw [e, List.drop_left' (by rw [List.length_cons, bytesOf_length]), List.take_left' rfl]
    exact Prod.ext (Int.toNat_of_nonneg (by omega)) rfl
theorem FrOk.firstF {f : Frm} (h : FrOk f) (t : List Nat) : Bm.firstF (bytesF f ++ t) = (f, (bytesF f).length, 0) := by
  obtain ⟨h1, h2, h3, h4⟩ := h.first t
  rw [firstF_whole _ h1 (by rw [h2, List.length_append]; omega) h3, h4, h2]
/-- The beginning of a frame's bytes. -/
theorem FrOk.part {f : Frm} (h : FrOk f) (s t : List Nat) (hs : s ≠ []) (he : s ++ t = bytesF f) (ht : t ≠ []) : badN s = 0 ∧ s.length < sizeN s := by
  have h0 := h.first []
  rw [List.append_nil] at h0
  obtain ⟨h1, h2, _, _⟩ := h0
  have hl : s.length + t.length = (bytesF f).length := by rw [← he, List.length_append]
  have htl : 0 < t.length := List.length_pos_iff.2 ht
  by_cases h3 : 3 ≤ s.length
  · rw [← he, badN_append s t h3] at h1
    rw [← he, sizeN_append s t h3, he] at h2
    exact ⟨h1, by omega⟩
  · have hk : kindN s = f.1.toNat := by rw [← kindN_append s t hs, he, ← h.kind [], List.append_nil]
    have hz := lenN_short s (by omega)
    have h10 := h.1
    have h11 := h.2.1
    refine ⟨?_, ?_⟩
    · unfold badN
      rw [hk, hz, if_neg (by omega), if_neg (by omega)]
    · unfold sizeN
      omega
/-- What is read as a frame has its bytes. -/
theorem whole_bytes (s : List Nat) (hlt : ∀ x ∈ s, x < 256) (hb : badN s = 0) (hl : s.length = sizeN s) (hf : sealsF s) : FrOk (frmF s) ∧ bytesF (frmF s) = s := by
  have hk : ¬ (kindN s < 1 ∨ 10 < kindN s) := by
    intro h
    unfold badN at hb
    rw [if_pos h] at hb
    cases hb
  have h9 : ¬ 900 < lenN s := by
    intro h
    unfold badN at hb
    rw [if_neg hk, if_pos h] at hb
    cases hb
  have hsz : s.length = lenN s + 11 := by rw [hl]; exact Nat.add_comm _ _
  have hbl : ((s.drop 3).take (lenN s)).length = lenN s := by rw [List.length_take, List.length_drop]; omega
  have hhead : headF (frmF s) = s.take (lenN s + 3) := by
    unfold headF frmF
    rw [hbl, len2 _ (by omega), Int.toNat_natCast]
    match s, hsz, hlt with
    | a :: b :: c :: r, hsz, hlt =>
      have h1 := hlt b (by simp)
      have h2 := hlt c (by simp)
      have e : lenN (a :: b :: c :: r) = b + 256 * c := rfl
      rw [e]
      have e1 : (b + 256 * c) % 256 = b := by omega
      have e2 : (b + 256 * c) / 256 = c := by omega
      rw [e1, e2]
      rfl
    | [], hsz, _ => simp at hsz
    | [_], hsz, _ => simp [lenN] at hsz
    | [_, _], hsz, _ => simp [lenN] at hsz
  refine ⟨⟨?_, ?_, ?_, fun x hx => hlt x (List.mem_of_mem_drop (List.mem_of_mem_take hx))⟩, ?_⟩
  · show (1 : Int) ≤ (kindN s : Int); omega
  · show (kindN s : Int) ≤ 10; omega
  · show ((s.drop 3).take (lenN s)).length ≤ 900; omega
  · unfold bytesF
    rw [hhead]
    unfold sealsF at hf
    have hd : (s.drop (lenN s + 3)).length = 8 := by rw [List.length_drop]; omega
    rw [List.take_of_length_le (by omega)] at hf
    rw [← hf]
    have hv := bytesOf_valB (s.drop (lenN s + 3)) (fun x hx => hlt x (List.mem_of_mem_drop hx))
    rw [hd] at hv
    rw [hv, List.take_append_drop]

/-- Frames whose bytes are these: behind them, and what is still to come. -/
def flatF (F : List Frm) : List Nat := F.flatMap bytesF
theorem flatF_append (F G : List Frm) : flatF (F ++ G) = flatF F ++ flatF G := by simp [flatF]
theorem flatF_cons (f : Frm) (F : List Frm) : flatF (f :: F) = bytesF f ++ flatF F := by simp [flatF]
theorem flatF_lt (F : List Frm) (h : ∀ f ∈ F, FrOk f) : ∀ x ∈ flatF F, x < 256 := by
  intro x hx
  simp only [flatF, List.mem_flatMap] at hx
  obtain ⟨f, hf, hx⟩ := hx
  exact bytesF_lt (h f hf) x hx
structure Cutting (F : List Frm) (rest rem : List Nat) : Prop where
  ok : ∀ f ∈ F, FrOk f
  all : rest ++ rem = flatF F
  part : rest = [] ∨ ∃ f fs, F = f :: fs ∧ rest.length < (bytesF f).length
theorem Cutting.new (F : List Frm) (h : ∀ f ∈ F, FrOk f) : Cutting F [] (flatF F) := ⟨h, rfl, .inl rfl⟩
theorem Cutting.done {F : List Frm} {rest : List Nat} (h : Cutting F rest []) : F = [] := by
  have ha := h.all
  rw [List.append_nil] at ha
  rcases F with _ | ⟨f, fs⟩
  · rfl
  · exfalso
    have hl : rest.length = (bytesF f).length + (flatF fs).length := by rw [ha, flatF_cons, List.length_append]
    have hp := bytesF_length f
    rcases h.part with h1 | ⟨f', fs', e, h1⟩
    · rw [h1] at hl
      simp only [List.length_nil] at hl
      omega
    · injection e with e1 e2
      subst e1
      omega
theorem Cutting.step {F : List Frm} {rest rem : List Nat} {x : Nat} (h : Cutting F rest (x :: rem)) :
    (badN (rest ++ [x]) = 0 ∧ (rest ++ [x]).length < sizeN (rest ++ [x]) ∧ Cutting F (rest ++ [x]) rem) ∨
    (∃ f fs, F = f :: fs ∧ badN (rest ++ [x]) = 0 ∧ (rest ++ [x]).length = sizeN (rest ++ [x]) ∧ sealsF (rest ++ [x]) ∧ frmF (rest ++ [x]) = f ∧ Cutting fs [] rem) := by
  obtain ⟨hok, hall, hpart⟩ := h
  rcases F with _ | ⟨f, fs⟩
  · exfalso
    have := congrArg List.length hall
    simp [flatF] at this
  · have hf := hok f (List.mem_cons_self ..)
    have hlt : rest.length < (bytesF f).length := by
      rcases hpart with h1 | ⟨f', fs', e, h1⟩
      · rw [h1, bytesF_length]; simp
      · injection e with e1 e2
        subst e1
        exact h1
    have ha : (rest ++ [x]) ++ rem = bytesF f ++ flatF fs := by rw [List.append_assoc, ← flatF_cons]; exact hall
    have hl1 : (rest ++ [x]).length = rest.length + 1 := by rw [List.length_append, List.length_singleton]
    obtain ⟨t, ht⟩ : ∃ t, rest ++ [x] ++ t = bytesF f := by
      refine ⟨(bytesF f).drop (rest ++ [x]).length, ?_⟩
      have h1 : (bytesF f).take (rest ++ [x]).length = rest ++ [x] := by
        have h2 := congrArg (List.take (rest ++ [x]).length) ha
        rw [List.take_left' rfl, List.take_append_of_le_length (by omega)] at h2
        exact h2.symm
      rw [← h1, List.length_take, Nat.min_eq_left (by omega), List.take_append_drop]
    rw [← ht, List.append_assoc (rest ++ [x])] at ha
    have ha2 := List.append_cancel_left ha
    by_cases h0 : t = []
    · refine .inr ⟨f, fs, rfl, ?_⟩
      rw [h0, List.append_nil] at ht
      rw [h0, List.nil_append] at ha2
      have h1 := hf.first []
      rw [List.append_nil] at h1
      obtain ⟨k1, k2, k3, k4⟩ := h1
      rw [ht]
      exact ⟨k1, k2.symm, k3, k4, fun g hg => hok g (List.mem_cons_of_mem _ hg), ha2, .inl rfl⟩
    · refine .inl ?_
      obtain ⟨k1, k2⟩ := hf.part _ t (by simp) ht h0
      refine ⟨k1, k2, hok, by rw [List.append_assoc]; exact hall, .inr ⟨f, fs, rfl, ?_⟩⟩
      have h7 := List.length_pos_iff.2 h0
      have h8 := congrArg List.length ht
      rw [List.length_append] at h8
      omega

/-- A frame that was read where frames were sent is the next one. -/
theorem next_frame (F : List Frm) (T : List Frm) (s more : List Nat) (hF : ∀ f ∈ F, FrOk f) (hT : ∃ G, F = T ++ G) (hlt : ∀ x ∈ s, x < 256)
    (hb : badN s = 0) (hl : s.length = sizeN s) (hf : sealsF s) (he : flatF T ++ s ++ more = flatF F) : ∃ G, F = T ++ [frmF s] ++ G := by
  obtain ⟨G, rfl⟩ := hT
  obtain ⟨hok, hby⟩ := whole_bytes s hlt hb hl hf
  rw [flatF_append, List.append_assoc] at he
  have he2 := List.append_cancel_left he
  rcases G with _ | ⟨g, gs⟩
  · exfalso
    have := congrArg List.length he2
    rw [← hby, List.length_append, bytesF_length] at this
    simp [flatF] at this
  · refine ⟨gs, ?_⟩
    have hg := hF g (by simp)
    rw [flatF_cons, ← hby] at he2
    have h1 := hok.firstF more
    rw [he2, hg.firstF (flatF gs)] at h1
    have h2 : g = frmF s := congrArg Prod.fst h1
    rw [h2]
    simp

/-- A text split. -/
def splitF : Nat → List Nat → List Frm × List Nat × Nat
  | 0, s => ([], s, 0)
  | k + 1, s => if (firstF s).2.2 ≠ 0 then ([], [], (firstF s).2.2) else if (firstF s).2.1 = 0 then ([], s, 0) else
    ((firstF s).1 :: (splitF k (s.drop (firstF s).2.1)).1, (splitF k (s.drop (firstF s).2.1)).2)
theorem splitF_fuel : ∀ (k : Nat) (s : List Nat), s.length ≤ k → ∀ j, k ≤ j → splitF j s = splitF k s
  | 0, s, h, j, _ => by
    have hs : s = [] := List.eq_nil_of_length_eq_zero (by omega)
    rw [hs]
    cases j with
    | zero => rfl
    | succ j => simp only [splitF, firstF_nil]; rfl
  | k + 1, s, h, j, hj => by
    obtain ⟨j', rfl⟩ : ∃ j', j = j' + 1 := ⟨j - 1, by omega⟩
    simp only [splitF]
    by_cases h1 : (firstF s).2.2 ≠ 0
    · rw [if_pos h1, if_pos h1]
    · rw [if_neg h1, if_neg h1]
      by_cases h2 : (firstF s).2.1 = 0
      · rw [if_pos h2, if_pos h2]
      · rw [if_neg h2, if_neg h2, splitF_fuel k _ (by rw [List.length_drop]; omega) j' (by omega)]
def splitS (s : List Nat) : List Frm × List Nat × Nat := splitF s.length s
theorem splitS_bad (s : List Nat) (h : (firstF s).2.2 ≠ 0) : splitS s = ([], [], (firstF s).2.2) := by
  unfold splitS
  rcases s with _ | ⟨x, s⟩
  · rw [firstF_nil] at h; exact absurd rfl h
  · simp only [List.length_cons, splitF]
    rw [if_pos h]
theorem splitS_left (s : List Nat) (h : (firstF s).2.2 = 0) (h2 : (firstF s).2.1 = 0) : splitS s = ([], s, 0) := by
  unfold splitS
  rcases s with _ | ⟨x, s⟩
  · rfl
  · simp only [List.length_cons, splitF]
    rw [if_neg (by simpa using h), if_pos h2]
theorem splitS_on (s : List Nat) (h : (firstF s).2.2 = 0) (h2 : (firstF s).2.1 ≠ 0) : splitS s = ((firstF s).1 :: (splitS (s.drop (firstF s).2.1)).1, (splitS (s.drop (firstF s).2.1)).2) := by
  have hu : splitS (s.drop (firstF s).2.1) = splitF (s.length - 1) (s.drop (firstF s).2.1) := (splitF_fuel _ _ (Nat.le_refl _) _ (by rw [List.length_drop]; omega)).symm
  rw [hu]
  unfold splitS
  rcases s with _ | ⟨x, s⟩
  · rw [firstF_nil] at h2; exact absurd rfl h2
  · simp only [List.length_cons, splitF]
    rw [if_neg (by simpa using h), if_neg h2]
    rfl
/-- The bytes fed and not yet a frame's. -/
def OpenR (rest : List Nat) : Prop := rest = [] ∨ (badN rest = 0 ∧ rest.length < sizeN rest)
theorem OpenR.lt {rest : List Nat} (h : OpenR rest) : rest.length < 911 := by
  rcases h with h | ⟨h1, h2⟩
  · rw [h]; decide
  · have := sizeN_most rest h1; omega
/-- One byte more: what is said of the size stays where it was told. -/
theorem OpenR.push {rest : List Nat} (h : OpenR rest) (x : Nat) (h3 : 3 < (rest ++ [x]).length) : badN (rest ++ [x]) = 0 ∧ sizeN (rest ++ [x]) = sizeN rest ∧ rest ≠ [] := by
  rw [List.length_append, List.length_singleton] at h3
  rcases h with h | ⟨h1, h2⟩
  · rw [h] at h3; simp at h3
  · exact ⟨(badN_append rest [x] (by omega)).trans h1, sizeN_append rest [x] (by omega), by intro e; rw [e] at h3; simp at h3⟩
theorem OpenR.le {rest : List Nat} (h : OpenR rest) (x : Nat) : (rest ++ [x]).length ≤ sizeN (rest ++ [x]) := by
  by_cases h3 : 3 < (rest ++ [x]).length
  · obtain ⟨_, h4, h5⟩ := h.push x h3
    rw [h4, List.length_append, List.length_singleton]
    rcases h with h | ⟨h1, h2⟩
    · exact absurd h h5
    · omega
  · unfold sizeN
    omega
end Go.Proofs.Ytfopnbfaaikghaa.Bm
