/-
  The program's layer 24 (frame): what Feed answers, for a Cutter of all bytes that were fed. Conditions: as each theorem's premises say.
-/
import Derived.Test.YtckmdeiahpijcaaRe
namespace Go.Proofs.Ytckmdeiahpijcaa
open Go.RowKit

/-- What Feed answers: the frame, whether it is one, the error. -/
def feedO (s all' : List Nat) (sd : Bool) (sl : Nat) : Bm.Frm × Bool × Nat :=
  if (Bm.firstF s).2.2 ≠ 0 then (Bm.zfr, false, (Bm.firstF s).2.2) else if (Bm.firstF s).2.1 = 0 then (Bm.zfr, false, 0)
  else if sd = true ∧ sl = Bm.sumOf all' then ((Bm.firstF s).1, true, 0) else (Bm.zfr, false, 4)
def feedW (W : World) (b : Nat) (s all' : List Nat) (O : Bm.Frm × Bool × Nat) : Prop :=
  if O.2.2 ≠ 0 then CuE W b O.2.2 all'.length else if O.2.1 = true then CuI W b all' [] else CuI W b all' s
theorem feedW_err {W : World} {b : Nat} {s all' : List Nat} {f : Bm.Frm} {is : Bool} {e : Nat} (he : e ≠ 0) (h : CuE W b e all'.length) : feedW W b s all' (f, is, e) := by
  unfold feedW
  rw [if_pos he]
  exact h
theorem feedW_yes {W : World} {b : Nat} {s all' : List Nat} {f : Bm.Frm} (h : CuI W b all' []) : feedW W b s all' (f, true, 0) := by
  unfold feedW
  rw [if_neg (by simp), if_pos rfl]
  exact h
theorem feedW_more {W : World} {b : Nat} {s all' : List Nat} {f : Bm.Frm} (h : CuI W b all' s) : feedW W b s all' (f, false, 0) := by
  unfold feedW
  rw [if_neg (by simp), if_neg (by simp)]
  exact h
def feedV (O : Bm.Frm × Bool × Nat) : Value := .tuple #[frV O.1, .bool O.2.1, .int .i64 (O.2.2 : Int)]
theorem frfeed_any (b x sl : Nat) (sd : Bool) (all rest : List Nat) (w : World) (hx : x < 256) (hal : all.length < 1000000) (k : CuI w b all rest) :
    Calls Try.prog 19 #[.pointer (some ⟨b, 0, none⟩), ppB x sl sd] w fun e w' => e = .returned (feedV (feedO (rest ++ [x]) (all ++ [x]) sd sl)) ∧ feedW w' b (rest ++ [x]) (all ++ [x]) (feedO (rest ++ [x]) (all ++ [x]) sd sl) ∧ w.grownBy w' (some b) := by
  have hk0 := k
  obtain ⟨sz, hk, hop, hsz, hlt, hall⟩ := k
  have hl := hop.lt
  have hlt' : ∀ y ∈ rest ++ [x], y < 256 := append_lt hlt (by simp; omega)
  have hne : rest ++ [x] ≠ [] := by simp
  have hle := hop.le x
  have hal' : (all ++ [x]).length = all.length + 1 := by rw [List.length_append, List.length_singleton]
  have hfr : Bm.stepH (Bm.fromH Bm.H0 all) x = Bm.fromH Bm.H0 (all ++ [x]) := (Bm.fromH_snoc _ _ _).symm
  have hadd : ∀ W, W.heap[b]? = w.heap[b]? → Calls Try.prog 36 #[.pointer (some ⟨b, 0, none⟩), .int .u8 (x : Int)] W fun e w' => e = .returned (.tuple #[]) ∧ CuR w' b (rest ++ [x]) (fszN (rest ++ [x])) (Bm.fromH Bm.H0 (all ++ [x])) (all.length + 1) (all.length + 1) (Bm.badN (rest ++ [x])) ∧ W.grownBy w' (some b) := fun W hW => by
    rw [← hfr]
    refine fradd_any b x rest sz _ all.length all.length _ _ W hl hx hlt (Bm.fromH_lt _ _ Bm.H0_lt) (by omega) (by omega) ⟨fun _ => ⟨rfl, rfl⟩, fun h3 => ?_⟩ (hk.keep hW)
    obtain ⟨e1, e2, e3⟩ := hop.push x h3
    exact ⟨by unfold fszN; rw [if_pos e1, e2, hsz e3], e1⟩
  have hfz : Bm.badN (rest ++ [x]) = 0 → fszN (rest ++ [x]) = Bm.sizeN (rest ++ [x]) := fun h => by unfold fszN; rw [if_pos h]
  generalize hs' : rest ++ [x] = s' at *
  have hM : s'.length ≤ 911 := by rw [← hs', List.length_append, List.length_singleton]; omega
  have hwh : Bm.badN s' = 0 → ¬ s'.length < fszN s' → s'.length = Bm.sizeN s' := fun h1 h2 => by rw [hfz h1] at h2; omega
  refine frfeed_L b x sl (Bm.fromH Bm.H0 (all ++ [x])) (all.length + 1) (all.length + 1) (fszN s') (Bm.badN s') s'.length sd s' (strOf s') (strOf (if Bm.sealsF s' then Bm.frmF s' else Bm.zfr).2) (if Bm.sealsF s' then Bm.frmF s' else Bm.zfr).1 (if Bm.sealsF s' then 0 else 4) (Bm.sumOf (all ++ [x])) _ _ w hk.lt (fun W hW => (hk0.keep hW).err) hadd ?_
  refine ⟨fun h1 h2 W => ?_, fun W => ?_, fun W => slice_a911 b _ W hM, fun W z h n c e k => k.text hlt' 911, fun W z h n c e k => k.cells.1, fun h1 => ?_, fun h1 h2 => ?_, fun h1 h2 h3 => ?_, fun h1 h2 h3 => ?_⟩
  · have h3 := hwh h1 h2
    have h4 : Bm.lenN s' ≤ 900 := by
      have := Bm.sizeN_most s' h1
      unfold Bm.sizeN at this
      omega
    refine (fropen_any s' W hlt' h4 h3).mono fun e w' ⟨he, hb⟩ => ⟨?_, hb⟩
    rw [he]
    by_cases h5 : Bm.sealsF s'
    · rw [if_pos h5, if_pos h5, if_pos h5]; rfl
    · rw [if_neg h5, if_neg h5, if_neg h5]; rfl
  · have h3 := ssum_any (Bm.fromH Bm.H0 (all ++ [x])) (all.length + 1) W
    rw [← hal'] at h3
    rw [← hal']
    exact h3
  · obtain ⟨e1, e2⟩ := Bm.firstF_bad s' hne h1
    have hO : feedO s' (all ++ [x]) sd sl = (Bm.zfr, false, Bm.badN s') := by unfold feedO; rw [e2, if_pos h1]
    rw [hO]
    exact ⟨rfl, fun W hW => feedW_err h1 (by rw [hal']; exact ⟨_, _, _, _, hW, h1⟩)⟩
  · have hO : feedO s' (all ++ [x]) sd sl = (Bm.zfr, false, 0) := by
      unfold feedO
      rw [Bm.firstF_more s' h1 (by rw [← hfz h1]; exact h2), if_neg (by simp), if_pos rfl]
    rw [hO]
    refine ⟨rfl, fun W hW => feedW_more ⟨fszN s', ?_, .inr ⟨h1, by rw [← hfz h1]; exact h2⟩, fun _ => hfz h1, hlt', by omega⟩⟩
    rw [hal']
    exact hW
  · have h4 := hwh h1 h2
    have hO : feedO s' (all ++ [x]) sd sl = (Bm.zfr, false, 4) := by
      unfold feedO
      by_cases h5 : Bm.sealsF s'
      · rw [if_pos h5] at h3
        rw [Bm.firstF_whole s' h1 (by omega) h5, if_neg (by simp), if_neg (by show ¬ Bm.sizeN s' = 0; unfold Bm.sizeN; omega), if_neg (fun h => h3 ⟨rfl, h.1, h.2⟩)]
      · rw [Bm.firstF_unsealed s' h1 (by omega) h5, if_pos (by simp)]
    rw [hO]
    exact ⟨rfl, fun W hW => feedW_err (by decide) (by rw [hal']; exact ⟨_, _, _, _, hW, by decide⟩)⟩
  · have h4 := hwh h1 h2
    obtain ⟨h6, h7, h8⟩ := h3
    have h5 : Bm.sealsF s' := by
      by_cases h5 : Bm.sealsF s'
      · exact h5
      · rw [if_neg h5] at h6; cases h6
    have hO : feedO s' (all ++ [x]) sd sl = (Bm.frmF s', true, 0) := by
      unfold feedO
      rw [Bm.firstF_whole s' h1 (by omega) h5, if_neg (by simp), if_neg (by show ¬ Bm.sizeN s' = 0; unfold Bm.sizeN; omega), if_pos ⟨h7, h8⟩]
    rw [hO, if_pos h5]
    refine ⟨rfl, fun W hW => feedW_yes ⟨fszN s', ?_, .inl rfl, fun h => absurd rfl h, (fun x hx => by cases hx), by omega⟩⟩
    rw [hal']
    exact hW
end Go.Proofs.Ytckmdeiahpijcaa
