/-
  The program's layer 24 (frame): Split, by its walk. Conditions: as the theorem's premises say.
-/
import Derived.Test.YtckmdeiahpijcaaRi
import Derived.Test.YtckmdeiahpijcaaIn
import Derived.Test.YtckmdeiahpijcaaEg
import Derived.Deep.DeepCutAuto
namespace Go.Proofs.Ytckmdeiahpijcaa
open Go.RowKit

theorem Bm.whole_part (q t : List Nat) (h : q.length = Bm.sizeN q) : (Bm.sealsF (q ++ t) ↔ Bm.sealsF q) ∧ Bm.frmF (q ++ t) = Bm.frmF q ∧ Bm.badN (q ++ t) = Bm.badN q ∧ Bm.sizeN (q ++ t) = Bm.sizeN q := by
  have h3 : 3 ≤ q.length := by rw [h]; unfold Bm.sizeN; omega
  have hs : q.length = Bm.lenN q + 11 := by rw [h]; exact Nat.add_comm _ _
  have hl := Bm.lenN_append q t h3
  have hk := Bm.kindN_append q t (by intro e; rw [e] at h3; simp at h3)
  refine ⟨?_, ?_, Bm.badN_append q t h3, Bm.sizeN_append q t h3⟩
  · unfold Bm.sealsF
    have hd : (q.drop (Bm.lenN q + 3)).length = 8 := by rw [List.length_drop]; omega
    have e8 : (q.drop (Bm.lenN q + 3)).take 8 = q.drop (Bm.lenN q + 3) := List.take_of_length_le (by omega)
    have e9 : (q ++ t).take (Bm.lenN q + 3) = q.take (Bm.lenN q + 3) := List.take_append_of_le_length (by omega)
    rw [hl, List.drop_append_of_le_length (by omega), List.take_left' hd, e8, e9]
  · unfold Bm.frmF
    have e3 : ((q.drop 3) ++ t).take (Bm.lenN q) = (q.drop 3).take (Bm.lenN q) := List.take_append_of_le_length (by rw [List.length_drop]; omega)
    rw [hl, hk, List.drop_append_of_le_length h3, e3]
theorem Bm.take_whole (r : List Nat) (h : Bm.sizeN r ≤ r.length) : (r.take (Bm.sizeN r)).length = Bm.sizeN (r.take (Bm.sizeN r)) ∧ (Bm.sealsF (r.take (Bm.sizeN r)) ↔ Bm.sealsF r) ∧ Bm.frmF (r.take (Bm.sizeN r)) = Bm.frmF r ∧ Bm.lenN (r.take (Bm.sizeN r)) = Bm.lenN r := by
  have h11 : 11 ≤ Bm.sizeN r := by unfold Bm.sizeN; omega
  have hl : (r.take (Bm.sizeN r)).length = Bm.sizeN r := by rw [List.length_take]; omega
  have e : r.take (Bm.sizeN r) ++ r.drop (Bm.sizeN r) = r := List.take_append_drop _ _
  have hle : Bm.lenN (r.take (Bm.sizeN r)) = Bm.lenN r := by
    have h1 := Bm.lenN_append (r.take (Bm.sizeN r)) (r.drop (Bm.sizeN r)) (by omega)
    rw [e] at h1
    exact h1.symm
  have hs : (r.take (Bm.sizeN r)).length = Bm.sizeN (r.take (Bm.sizeN r)) := by
    rw [hl]
    show Bm.sizeN r = 11 + Bm.lenN (r.take (Bm.sizeN r))
    rw [hle]
    rfl
  obtain ⟨h1, h2, _, _⟩ := Bm.whole_part _ (r.drop (Bm.sizeN r)) hs
  rw [e] at h1 h2
  exact ⟨hs, h1.symm, h2.symm, hle⟩
/-- How many bytes a text has. -/
def txN : Value → Nat
  | .string s => s.size
  | _ => 0
set_option maxHeartbeats 2000000 in
set_option maxRecDepth 100000 in
theorem frsplit_any (s : List Nat) (w : World) (hlt : ∀ x ∈ s, x < 256) (hl : s.length ≤ 10000) :
    Calls Try.prog 22 #[.string (strOf s)] w fun e w' => ∃ v, e = .returned (.tuple #[v, .string (strOf (Bm.splitS s).2.1), .int .i64 ((Bm.splitS s).2.2 : Int)]) ∧ FrO w' w.heap.size v (Bm.splitS s).1 ∧ Below w.heap.size w w' := by
  obtain ⟨SP, hSP⟩ : ∃ SP, SP = Bm.splitS s := ⟨_, rfl⟩
  rw [← hSP]
  have Hst : Hid (∃ T, SP = (T ++ (Bm.splitS s).1, (Bm.splitS s).2) ∧ T.length + s.length ≤ 10000 ∧ FrO w w.heap.size (.slice none 0 0) T ∧ ∀ x ∈ s, x < 256) := Lib.hid ⟨[], by rw [hSP]; rfl, by simpa using hl, frO_nil _ _, hlt⟩
  clear hSP hlt hl
  go_enter Try.func22, Try.ntmps22
  go_wp2
  go_loopw [0, 5] (fun x v wr => ∃ r : List Nat, x = .string (strOf r) ∧ Hid (∃ T, SP = (T ++ (Bm.splitS r).1, (Bm.splitS r).2) ∧ T.length + r.length ≤ 10000 ∧ FrO wr w.heap.size v T ∧ ∀ x ∈ r, x < 256) ∧ Hid (Below w.heap.size w wr)) (fun x _ _ => txN x)
  case atStart => exact ⟨s, rfl, Hst, Lib.hid (Below.refl _ _)⟩
  case round =>
    clear Hst
    obtain ⟨r, rfl, HT, Hb⟩ := hrel
    obtain ⟨T, hSP, hTl, hfo, hlt⟩ := HT.out
    have HSP := Lib.hid hSP
    have Hfo := Lib.hid hfo
    have Hlt := Lib.hid hlt
    have hemp := emptyB r
    have hsz := strOf_size r
    clear HT hSP hfo hlt
    by_cases h0 : r = []
    · rw [decide_eq_true h0] at hemp
      have Hend : Hid (SP = (T, [], 0)) := Lib.hid (by rw [HSP.out, h0, Bm.splitS_left [] (by rw [Bm.firstF_nil]) (by rw [Bm.firstF_nil])]; simp)
      generalize strOf r = tr at *
      clear h0 HSP
      go_wp2
      go_ret3
      exact ⟨u5, by rw [Hend.out]; rfl, by rw [Hend.out]; exact Hfo.out, Hb.out⟩
    · rw [decide_eq_false h0] at hemp
      have Hsize := Lib.hid (fun W => frsize_any r W h0 Hlt.out (by omega))
      have Hcl := Lib.hid (fun W => sclone_any (strOf r) W (by rw [hsz]; omega))
      go_wp2_with fail
      refine (Hsize.out wr).mono ?_
      rintro e w1 ⟨rfl, hb1⟩
      have HB1 := Lib.hid (Hb.out.trans (hb1.mono Hb.out.size))
      have Hfo1 := Lib.hid (Hfo.out.below hb1)
      clear hb1 Hsize Hfo Hb
      by_cases hbad : Bm.badN r = 0
      · have hfz : fszN r = Bm.sizeN r := by unfold fszN; rw [if_pos hbad]
        have hbI : ((Bm.badN r : Int) != 0) = false := by rw [hbad]; rfl
        have hmost := Bm.sizeN_most r hbad
        rw [hfz]
        by_cases hmore : r.length < Bm.sizeN r
        · have hgt : (r.length : Int) < (Bm.sizeN r : Int) := by omega
          have Hend : Hid (SP = (T, r, 0)) := Lib.hid (by
            have h1 := Bm.firstF_more r hbad hmore
            rw [HSP.out, Bm.splitS_left r (by rw [h1]) (by rw [h1])]; simp)
          generalize Bm.badN r = bd at *
          generalize Bm.sizeN r = n at *
          generalize hts : strOf r = tr at *
          have Hts := Lib.hid hts
          clear h0 HSP hfz hbad hts
          generalize r.length = L at *
          go_wp2_with fail
          refine (Hcl.out w1).mono ?_
          rintro e w2 ⟨rfl, hb2⟩
          have HB2 := Lib.hid (HB1.out.trans (hb2.mono HB1.out.size))
          have Hfo2 := Lib.hid (Hfo1.out.below hb2)
          clear hb2 HB1 Hfo1 Hcl
          go_wp2
          go_ret3
          exact ⟨u5, by rw [Hend.out, Hts.out]; rfl, by rw [Hend.out]; exact Hfo2.out, HB2.out⟩
        · have hgt : ¬ (r.length : Int) < (Bm.sizeN r : Int) := by omega
          have hle : Bm.sizeN r ≤ r.length := by omega
          have h11 : 11 ≤ Bm.sizeN r := by unfold Bm.sizeN; omega
          obtain ⟨q1, q2, q3, q4⟩ := Bm.take_whole r hle
          have hln : Bm.lenN r ≤ 900 := by unfold Bm.sizeN at hmost; omega
          have Hop := Lib.hid (fun W => fropen_any (r.take (Bm.sizeN r)) W (take_lt Hlt.out _) (by rw [q4]; exact hln) q1)
          rw [q3] at Hop
          have hcut := fun W => str_to r (Bm.sizeN r) hle W
          have hrst := fun W => str_from r (Bm.sizeN r) hle W
          by_cases hse : Bm.sealsF r
          · rw [if_pos (q2.2 hse), if_pos (q2.2 hse)] at Hop
            have hff := Bm.firstF_whole r hbad hle hse
            have Hsp : Hid (SP = ((T ++ [Bm.frmF r]) ++ (Bm.splitS (r.drop (Bm.sizeN r))).1, (Bm.splitS (r.drop (Bm.sizeN r))).2)) := Lib.hid (by
              rw [HSP.out, Bm.splitS_on r (by rw [hff]) (by rw [hff]; show Bm.sizeN r ≠ 0; omega), hff, List.append_assoc]; rfl)
            have Hsz2 : Hid ((strOf (r.drop (Bm.sizeN r))).size < r.length) := Lib.hid (by rw [strOf_size, List.length_drop]; omega)
            have hTl2 : (T ++ [Bm.frmF r]).length + (r.drop (Bm.sizeN r)).length ≤ 10000 := by rw [List.length_append, List.length_singleton, List.length_drop]; omega
            have Hlt2 : Hid (∀ x ∈ r.drop (Bm.sizeN r), x < 256) := Lib.hid (drop_lt Hlt.out _)
            have hTb : T.length ≤ 1000000 := by omega
            clear hse hff q1 q2 q3 q4 HSP hfz hln Hlt hbad Hcl
            obtain ⟨f, hf⟩ : ∃ f, f = Bm.frmF r := ⟨_, rfl⟩
            rw [← hf] at Hop Hsp hTl2
            generalize hr2 : r.drop (Bm.sizeN r) = r2 at *
            generalize strOf (r.take (Bm.sizeN r)) = tq at *
            generalize Bm.badN r = bd at *
            generalize Bm.sizeN r = n at *
            generalize htr : strOf r = tr at *
            have Htr := Lib.hid htr
            clear h0 hr2 hf htr
            generalize hts : strOf r2 = t2 at *
            have Hts := Lib.hid hts
            generalize r.length = L at *
            clear hts
            unfold frV at Hop
            go_wp2_with fail
            refine (Hop.out w1).mono ?_
            rintro e w2 ⟨rfl, hb2⟩
            have HB2 := Lib.hid (HB1.out.trans (hb2.mono HB1.out.size))
            have Hfo2 := Lib.hid (Hfo1.out.below hb2)
            clear hb2 HB1 Hfo1 Hop
            have Hfo3 : Hid (FrO (w2.alloc (.cells #[.int .i64 f.1, .string (strOf f.2)] 30)) w.heap.size u5 T) := Lib.hid (Hfo2.out.below ((Below.refl _ _).alloc (Nat.le_refl _) _))
            have HB3 : Hid (Below w.heap.size w (w2.alloc (.cells #[.int .i64 f.1, .string (strOf f.2)] 30))) := Lib.hid (HB2.out.alloc HB2.out.size _)
            clear Hfo2 HB2
            dsimp only
            go_wp2_with (at_builtin; refine wpFr_append f rfl _ _ rfl w.heap.size _ T rfl Hfo3.out (w2.heap.size + 1) (by simp) rfl hTb HB3.out.size ?_)
            intro v4 w4 hfo4 hb4 hk4 hs4
            have Hfo4 := Lib.hid hfo4
            have HB4 := Lib.hid (HB3.out.trans hb4)
            clear hfo4 hb4 hk4 hs4 HB3 Hfo3
            go_wp2
            go_roundw
            case rel => exact ⟨r2, by rw [Hts.out], Lib.hid ⟨_, Hsp.out, hTl2, Hfo4.out, Hlt2.out⟩, HB4⟩
            case measure =>
              have h1 := Hsz2.out
              show t2.size < (strOf r).size
              rw [Htr.out]
              omega
          · rw [if_neg (fun h => hse (q2.1 h)), if_neg (fun h => hse (q2.1 h))] at Hop
            have Hend : Hid (SP = (T, [], 4)) := Lib.hid (by
              have h1 := Bm.firstF_unsealed r hbad hle hse
              rw [HSP.out, Bm.splitS_bad r (by rw [h1]; simp), h1]; simp)
            clear hse q1 q2 q3 q4 HSP hfz hln Hlt hbad Hcl
            generalize strOf (r.take (Bm.sizeN r)) = tq at *
            generalize strOf (r.drop (Bm.sizeN r)) = tz at *
            generalize Bm.badN r = bd at *
            generalize Bm.sizeN r = n at *
            generalize strOf r = tr at *
            clear h0
            generalize r.length = L at *
            unfold frV at Hop
            go_wp2_with fail
            refine (Hop.out w1).mono ?_
            rintro e w2 ⟨rfl, hb2⟩
            have HB2 := Lib.hid (HB1.out.trans (hb2.mono HB1.out.size))
            have Hfo2 := Lib.hid (Hfo1.out.below hb2)
            clear hb2 HB1 Hfo1 Hop
            unfold Bm.zfr
            dsimp only
            go_wp2
            go_ret3
            have hb3 := (Below.refl w2.heap.size w2).alloc (Nat.le_refl _) (.cells #[.int .i64 0, .string (strOf [])] 30)
            exact ⟨u5, by rw [Hend.out]; rfl, by rw [Hend.out]; exact Hfo2.out.below hb3, HB2.out.trans (hb3.mono HB2.out.size)⟩
      · have hbI : ((Bm.badN r : Int) != 0) = true := by simp; omega
        have Hend : Hid (SP = (T, [], Bm.badN r)) := Lib.hid (by
          obtain ⟨_, h1⟩ := Bm.firstF_bad r h0 hbad
          rw [HSP.out, Bm.splitS_bad r (by rw [h1]; exact hbad), h1]; simp)
        generalize Bm.badN r = bd at *
        generalize fszN r = n at *
        generalize strOf r = tr at *
        clear h0 HSP hbad Hcl
        generalize r.length = L at *
        go_wp2
        go_ret3
        exact ⟨u5, by rw [Hend.out]; rfl, by rw [Hend.out]; exact Hfo1.out, HB1.out⟩
end Go.Proofs.Ytckmdeiahpijcaa
