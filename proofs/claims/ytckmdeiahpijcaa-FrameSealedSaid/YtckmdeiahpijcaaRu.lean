/-
  Layer 24 (frame): FrameSealed, by its walk: true for every slice of frames, of texts, of bytes. Conditions: none.
-/
import Derived.Test.YtckmdeiahpijcaaRt
import Derived.Test.YtckmdeiahpijcaaRa
import Derived.Test.YtckmdeiahpijcaaQs
namespace Go.Proofs.Ytckmdeiahpijcaa
open Go.RowKit

/-- The bytes that were sent, among what lies there. -/
def sealedOf (l : List Bm.Itm) : List Nat := (l.filter (·.2)).map (·.1)
theorem sealedOf_append (a b : List Bm.Itm) : sealedOf (a ++ b) = sealedOf a ++ sealedOf b := by simp [sealedOf]
theorem sealedOf_sent (l : List Nat) : sealedOf (Bm.itms true l) = l := by
  induction l with
  | nil => rfl
  | cons x l ih =>
    have h : sealedOf (Bm.itms true (x :: l)) = x :: sealedOf (Bm.itms true l) := rfl
    rw [h, ih]
theorem sealedOf_put (l : List Nat) : sealedOf (Bm.itms false l) = [] := by
  induction l with
  | nil => rfl
  | cons x l ih =>
    have h : sealedOf (Bm.itms false (x :: l)) = sealedOf (Bm.itms false l) := rfl
    rw [h, ih]
/-- One byte taken of what others may have put in among what was sent. -/
theorem take_sealed (w : World) (p x : Nat) (sd : Bool) (kc : List Bm.Itm) (S : List Nat) (seals : Nat) (hP : PI w p ((x, sd) :: kc) [] 2048 (Bm.fromH Bm.H0 (S.take seals)) seals) (hs : sealedOf ((x, sd) :: kc) = S.drop seals) (hle : seals ≤ S.length) (hS : S.length ≤ 1000) :
    ∃ sl seals', Calls Try.prog 24 #[.pointer (some ⟨p, 0, none⟩)] w (fun e w' => e = .returned (.tuple #[ppB x sl sd, .bool true]) ∧ PI w' p kc [] 2048 (Bm.fromH Bm.H0 (S.take seals')) seals' ∧ w.grownBy w' (some p)) ∧
      sealedOf kc = S.drop seals' ∧ seals' ≤ S.length ∧ seals' = seals + (if sd = true then 1 else 0) ∧ (sd = true → sl = Bm.sumOf (S.take seals')) := by
  cases sd with
  | false =>
    refine ⟨0, seals, pptake_put p x kc [] 2048 _ _ w hP, ?_, hle, rfl, fun h => by cases h⟩
    exact hs
  | true =>
    have h1 : sealedOf ((x, true) :: kc) = x :: sealedOf kc := rfl
    rw [h1] at hs
    have hlt : seals < S.length := by
      rcases Nat.lt_or_ge seals S.length with h2 | h2
      · exact h2
      · rw [List.drop_of_length_le h2] at hs; cases hs
    rw [List.drop_eq_getElem_cons hlt] at hs
    injection hs with hx hk
    have htk : S.take (seals + 1) = S.take seals ++ [x] := by rw [hx, List.take_succ_eq_append_getElem hlt]
    have hsl : Bm.sumH (Bm.stepH (Bm.fromH Bm.H0 (S.take seals)) x) (seals + 1) = Bm.sumOf (S.take (seals + 1)) := by
      unfold Bm.sumOf
      rw [htk, Bm.fromH_snoc, ← htk, List.length_take, Nat.min_eq_left (by omega)]
    have h2 := pptake_sent p x kc [] 2048 _ seals w (by omega) hP
    rw [hsl, ← Bm.fromH_snoc, ← htk] at h2
    exact ⟨_, seals + 1, h2, hk, by omega, rfl, fun _ => rfl⟩
/-- A frame that is told. -/
theorem firstF_frame {rest : List Nat} {x n e : Nat} {f : Bm.Frm} (ho : Bm.OpenR rest) (h : (f, n, e) = Bm.firstF (rest ++ [x])) (he : e = 0) (hn : n ≠ 0) :
    Bm.badN (rest ++ [x]) = 0 ∧ (rest ++ [x]).length = Bm.sizeN (rest ++ [x]) ∧ Bm.sealsF (rest ++ [x]) ∧ f = Bm.frmF (rest ++ [x]) := by
  have hle := ho.le x
  have hne : rest ++ [x] ≠ [] := by simp
  by_cases hb : Bm.badN (rest ++ [x]) = 0
  · rw [Bm.firstF_ok _ hne hb] at h
    split at h
    · injection h with _ h; injection h with h _; exact absurd h hn
    · rename_i h1
      split at h
      · rename_i h2
        injection h with h3 _
        exact ⟨hb, by omega, h2, h3⟩
      · injection h with _ h; injection h with _ h; omega
  · obtain ⟨_, h3⟩ := Bm.firstF_bad _ hne hb
    rw [← h] at h3
    exact absurd h3 (by dsimp only; omega)
/-- The law's way: what was fed, how many frames were taken, how many sealed bytes came. -/
structure SlI (w7 : World) (p c : Nat) (F : List Bm.Frm) (S : List Nat) (w : World) (all : List Nat) (taken seals : Nat) : Prop where
  tk : taken ≤ F.length
  sl : seals ≤ S.length
  lt : ∀ x ∈ all, x < 256
  ex : ∃ kc rest, PI w p kc [] 2048 (Bm.fromH Bm.H0 (S.take seals)) seals ∧ sealedOf kc = S.drop seals ∧ CuI w c all rest ∧ all = Bm.flatF (F.take taken) ++ rest ∧ all.length + kc.length ≤ 1000
  two : Twn w7 w p c
/-- The next frame, if what was fed is what was sent. -/
theorem sealed_next (F : List Bm.Frm) (hF : ∀ f ∈ F, Bm.FrOk f) (taken seals : Nat) (rest : List Nat) (x : Nat) (htk : taken ≤ F.length) (ho : Bm.OpenR rest) (hlt : ∀ y ∈ rest ++ [x], y < 256) {f : Bm.Frm} {n e : Nat}
    (h : (f, n, e) = Bm.firstF (rest ++ [x])) (he : e = 0) (hn : n ≠ 0) (heq : Bm.flatF (F.take taken) ++ rest ++ [x] = (Bm.flatF F).take seals) :
    ∃ hlt : taken < F.length, f = F[taken] ∧ Bm.flatF (F.take taken) ++ rest ++ [x] = Bm.flatF (F.take (taken + 1)) ++ [] := by
  obtain ⟨h1, h2, h3, h4⟩ := firstF_frame ho h he hn
  obtain ⟨G, hG⟩ := Bm.next_frame F (F.take taken) (rest ++ [x]) ((Bm.flatF F).drop seals) hF ⟨F.drop taken, (List.take_append_drop _ _).symm⟩ hlt h1 h2 h3 (by rw [← List.append_assoc, heq, List.take_append_drop])
  have hl : (F.take taken).length = taken := by rw [List.length_take]; omega
  have hlen := congrArg List.length hG
  rw [List.length_append, List.length_append, List.length_singleton, hl] at hlen
  have htl : taken < F.length := by omega
  have hget : F[taken] = Bm.frmF (rest ++ [x]) := by
    have h5 : F[taken]? = some (Bm.frmF (rest ++ [x])) := by
      rw [hG, List.append_assoc, List.getElem?_append_right (by omega), hl, Nat.sub_self]
      rfl
    rw [List.getElem?_eq_getElem htl] at h5
    injection h5
  refine ⟨htl, h4.trans hget.symm, ?_⟩
  rw [List.append_nil, List.take_succ_eq_append_getElem htl, Bm.flatF_append, hget, List.append_assoc]
  congr 1
  obtain ⟨_, hby⟩ := Bm.whole_bytes (rest ++ [x]) hlt h1 h2 h3
  simp [Bm.flatF, hby]
end Go.Proofs.Ytckmdeiahpijcaa
