/-
  Note of layer 11 (chain), by its walk. Conditions: as the theorem's premises say (up to 2000 bytes).
-/
import Derived.Test.YtjcehdibklndkaaEi
import Derived.RegionTactic
import Derived.ChangeAlike
import Derived.Deep.RegionHeld3
namespace Go.Proofs.Ytjcehdibklndkaa
open Go.RowKit

theorem noteB_right (T P : List Nat) (n : Nat) (h : n + 3 ≤ T.length) : Bm.noteB T P (n : Int) = !decide (n ∈ P) := by
  have hr : Bm.rightI T (n : Int) = true := decide_eq_true ⟨by omega, by omega⟩
  rw [Bm.noteB, hr, Bool.true_and]
  by_cases hn : n ∈ P
  · rw [decide_eq_true hn, List.any_eq_true.2 ⟨n, hn, decide_eq_true rfl⟩]
  · rw [decide_eq_false hn, List.any_eq_false.2 (fun p hp => by
      simp only [decide_eq_true_eq]
      intro e
      have e2 : p = n := by omega
      subst e2
      exact hn hp)]

set_option maxHeartbeats 2000000 in
set_option maxRecDepth 100000 in
theorem znote_any (b : Nat) (T P : List Nat) (a : Int) (w : World) (hT : T.length ≤ 2000) (hlt : ∀ x ∈ T, x < 256) (ha : Bm.IntOk a) (h : PF w b T P) :
    Calls Try.prog 24 #[.pointer (some ⟨b, 0, none⟩), .int .i64 a] w fun e w' => e = .returned (.bool (Bm.noteB T P a)) ∧ PF w' b T (Bm.noteP T P a) ∧ w.grownBy w' (some b) := by
  have Hhas := Lib.hid (zhas_of (some ⟨b, 0, none⟩) T.length a w (by omega) (zplen_at b T w h.text))
  obtain ⟨r, hr⟩ : ∃ r, r = Bm.noteB T P a := ⟨_, rfl⟩
  have Hno : Hid (r = false → PF w b T (Bm.noteP T P a)) := Lib.hid (fun hf => by unfold Bm.noteP; rw [← hr, hf, if_neg Bool.false_ne_true]; exact h)
  by_cases hri : 0 ≤ a ∧ a + 3 ≤ T.length
  · rw [decide_eq_true hri] at Hhas
    obtain ⟨n, rfl⟩ := Int.eq_ofNat_of_zero_le hri.1
    have hn : n + 3 ≤ T.length := by omega
    have hrn := noteB_right T P n hn
    obtain ⟨C, L, A, hrow, hpc, hok, hpl⟩ := h
    have c1 := (hrow.cell (1 + n)).trans (hpc.noted n (by omega))
    by_cases hnP : n ∈ P
    · rw [decide_eq_true hnP] at c1 hrn
      have hrf : r = false := by rw [hr, hrn]; rfl
      rw [← hr, hrf]
      have Hres := Lib.hid (Hno.out hrf)
      clear Hno hr hrf hri hrn hrow hpc hok hpl hnP hlt ha
      go_enter Try.func24, Try.ntmps24
      go_wp2_with fail
      refine Hhas.out.mono ?_
      rintro e w1 ⟨rfl, m, rfl⟩
      go_wp2
      go_ret
      exact ⟨rfl, Hres.out.keep rfl, grown_drewN (grown_refl w _) m⟩
    · rw [decide_eq_false hnP] at c1 hrn
      have hrt : r = true := by rw [hr, hrn]; rfl
      have HP2 : Hid (Bm.noteP T P (n : Int) = P ++ [n]) := Lib.hid (by unfold Bm.noteP; rw [← hr, hrt, if_pos rfl, Int.toNat_natCast])
      obtain ⟨c, hc⟩ : ∃ c, c = Bm.hshN T n := ⟨_, rfl⟩
      have hc3 : c < 2003 := by rw [hc]; exact Bm.hshN_lt T n
      have Hch := Lib.hid (fun m => zchain_any b n T (w.drewN m) hlt hT hn ((hrow.cell 0).trans hpc.c0))
      rw [← hc] at Hch
      have hok2 := hok.note n hnP
      rw [← hc] at hok2
      have hpl2 : Bm.Places T (P ++ [n]) := fun p hp => by
        rcases List.mem_append.1 hp with hp | hp
        · exact hpl p hp
        · rw [List.mem_singleton.1 hp]; exact hn
      have Hok := Lib.hid hok2
      have Hpl := Lib.hid hpl2
      have Hrow := Lib.hid hrow
      have Hpc := Lib.hid hpc
      rw [← hr, hrt, HP2.out]
      clear Hno hr hrt hri hrn hrow hpc hok hok2 hpl hpl2 hnP hlt ha hc HP2
      go_enter Try.func24, Try.ntmps24
      go_wp2_with fail
      refine Hhas.out.mono ?_
      rintro e w1 ⟨rfl, m, rfl⟩
      clear Hhas
      go_wp2_with fail
      refine (Hch.out m).mono ?_
      rintro e w2 ⟨rfl, hb2⟩
      have hrow2 : Row w2 b 62 C := Hrow.out.keep (hb2.block b Hrow.out.lt)
      have c2 := (hrow2.cell (1 + n)).trans (Hpc.out.noted n (by omega))
      have f2 := hrow2.free (1 + n)
      have Hg2 := Lib.hid (show w.grownBy w2 (some b) from grown_below (show Below w.heap.size w w2 from ⟨hb2.os, hb2.tape, hb2.output, hb2.size, hb2.block⟩) _)
      have Hrow2 := Lib.hid hrow2
      clear hb2 hrow2 Hch c1
      go_wp2
      have hrow3 := Hrow2.out.set_ (1 + n) (.bool true)
      have hg3 := grown_set Hg2.out (1 + n) (.bool true)
      have c3 := (hrow3.cell (2001 + c)).trans ((get_set_ne _ _ _ _ (by omega)).trans (Hpc.out.last c hc3))
      have d3 := (hrow3.cell (4004 + n)).trans ((get_set_ne _ _ _ _ (by omega)).trans (Hpc.out.ahead n (by omega)))
      have f3 := hrow3.free (4004 + n)
      have Hrow3 := Lib.hid hrow3
      have Hg3 := Lib.hid hg3
      clear hrow3 hg3 c2 f2 Hrow2 Hg2 Hrow
      generalize w2.setCell ⟨b, 1 + n, none⟩ (.bool true) = w3 at *
      go_region
      have hrow4 : Row (w3.setCell ⟨b, 4004 + n, none⟩ (.int .i16 (L c : Int))).drew b 62 ((C.set (1 + n) (.bool true)).set (4004 + n) (.int .i16 (L c : Int))) := (Hrow3.out.set_ (4004 + n) (.int .i16 (L c : Int))).keep rfl
      have hg4 := grown_drew (grown_set Hg3.out (4004 + n) (.int .i16 (L c : Int)))
      have c4 := (hrow4.cell (2001 + c)).trans ((get_set_ne _ _ _ _ (by omega)).trans ((get_set_ne _ _ _ _ (by omega)).trans (Hpc.out.last c hc3)))
      have f4 := hrow4.free (2001 + c)
      have Hrow4 := Lib.hid hrow4
      have Hg4 := Lib.hid hg4
      clear hrow4 hg4 c3 d3 f3 Hrow3 Hg3
      generalize (w3.setCell ⟨b, 4004 + n, none⟩ (.int .i16 (L c : Int))).drew = w4 at *
      have Hfin : Hid (PF (w4.setCell ⟨b, 2001 + c, none⟩ (.int .i16 ((n + 1 : Nat) : Int))) b T (P ++ [n]) ∧ w.grownBy (w4.setCell ⟨b, 2001 + c, none⟩ (.int .i16 ((n + 1 : Nat) : Int))) (some b)) := Lib.hid
        ⟨⟨_, _, _, Hrow4.out.set_ (2001 + c) _, Hpc.out.note n c (by omega) hc3, Hok.out, Hpl.out⟩, grown_set Hg4.out _ _⟩
      rw [Int.natCast_add] at Hfin
      clear Hok Hpl Hpc Hrow4 Hg4
      go_wp2
      go_ret
      exact ⟨rfl, Hfin.out.1, Hfin.out.2⟩
  · rw [decide_eq_false hri] at Hhas
    have hrf : r = false := by rw [hr, Bm.noteB, show Bm.rightI T a = false from decide_eq_false hri, Bool.false_and]
    rw [← hr, hrf]
    have Hres := Lib.hid (Hno.out hrf)
    clear Hno hr hrf hri h hlt ha
    go_enter Try.func24, Try.ntmps24
    go_wp2_with fail
    refine Hhas.out.mono ?_
    rintro e w1 ⟨rfl, m, rfl⟩
    go_wp2
    go_ret
    exact ⟨rfl, Hres.out.keep rfl, grown_drewN (grown_refl w _) m⟩
end Go.Proofs.Ytjcehdibklndkaa
