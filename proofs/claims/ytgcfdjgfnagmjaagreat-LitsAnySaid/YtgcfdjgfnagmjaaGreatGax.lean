/-
  The program's layer 15 (lits), by its walk: outOfCode. Conditions: as the theorem's premises say (up to a thousand bytes).
-/
import Derived.Test.YtgcfdjgfnagmjaaGreatGah
import Derived.Test.YtgcfdjgfnagmjaaGreatGac
import Derived.Test.YtgcfdjgfnagmjaaGreatGav
import Derived.Test.YtgcfdjgfnagmjaaGreatGaw
import Derived.Test.YtgcfdjgfnagmjaaGreatGar
namespace Go.Proofs.YtgcfdjgfnagmjaaGreat
open Go.RowKit

/-- A string and true with what is left, or an empty string and false. -/
def LitP (w' : World) (b : Nat) (bs : List Nat) (e : Ending) : Option (List Nat × Nat) → Prop
  | none => e = .returned (.tuple #[.string (strOf []), .bool false])
  | some t => e = .returned (.tuple #[.string (strOf t.1), .bool true]) ∧ CR w' b (some (bs.drop t.2))
theorem hcodes_na (A : Option Addr) (c : Nat) (ls : List Nat) (w : World) (hW : Bm.WholeN ls) (hr : Reads w A (i64s ls)) :
    Calls Tryz.prog 61 #[.slice A ls.length c] w fun e w' => ∃ g, e = .returned (.tuple #[.slice (some ⟨g, 0, none⟩) ls.length ls.length, .bool true]) ∧ Reads w' (some ⟨g, 0, none⟩) (i64s (Bm.codesN ls)) ∧ w.heap.size ≤ g ∧ Below w.heap.size w w' := by
  have hl := hW.1
  have h := hcodes_yes A c (ls.map fun n : Nat => (n : Int)) w (by rw [List.length_map]; omega) (by rw [i64z_nat]; exact hr) ((whole_nat ls).2 hW)
  rw [List.length_map, map_back] at h
  exact h
namespace Bm
theorem readL_whole (bs : List Nat) (t : List Nat × Nat) (h : readL bs = some t) : WholeN t.1 := by
  unfold readL at h
  split at h
  · cases h
  · split at h
    · cases h
    · split at h
      · next hc =>
        injection h with h
        subst h
        exact hc.1
      · cases h
end Bm
theorem group_yes (t : List Nat) (h0 : 0 < (Bm.firstG t).2) : groupS (some t) = ((Bm.firstG t).1, some (t.drop (Bm.firstG t).2)) := by
  simp only [groupS, if_pos h0]
theorem group_no (t : List Nat) (h0 : ¬ 0 < (Bm.firstG t).2) : groupS (some t) = (0, none) := by
  simp only [groupS, if_neg h0]
theorem int_yes (m : Int) (t : List Nat) (h0 : 0 < (Bm.firstG t).2) (hm : ((Bm.firstG t).1 : Int) ≤ m) : intS m (some t) = ((Bm.firstG t).1, some (t.drop (Bm.firstG t).2)) := by
  unfold intS
  rw [group_yes t h0, if_neg]
  rintro (h | h | h)
  · cases h
  · omega
  · dsimp only at h
    omega
theorem int_no (m : Int) (t : List Nat) (h : ¬ (0 < (Bm.firstG t).2 ∧ ((Bm.firstG t).1 : Int) ≤ m)) : intS m (some t) = (0, none) := by
  unfold intS
  by_cases h0 : 0 < (Bm.firstG t).2
  · rw [group_yes t h0, if_pos]
    by_cases hm : m < 0
    · exact .inr (.inl hm)
    · exact .inr (.inr (by dsimp only; omega))
  · rw [group_no t h0, if_pos (.inl rfl)]
/-- What Text answers of what is left: a text that is there, or nothing. -/
theorem text_yes (t : List Nat) (h : 0 < (Bm.firstG t).2 ∧ (Bm.firstG t).1 ≤ t.length - (Bm.firstG t).2) (_ : t.length ≤ 100000000) :
    textS 9223372036854775807 (some t) = ((t.drop (Bm.firstG t).2).take (Bm.firstG t).1, some (t.drop ((Bm.firstG t).2 + (Bm.firstG t).1))) := by
  unfold textS
  rw [int_yes 9223372036854775807 t h.1 (by omega)]
  simp only [rawS]
  rw [if_pos (by rw [List.length_drop]; exact h.2), List.drop_drop]
theorem text_no (t : List Nat) (h : ¬ (0 < (Bm.firstG t).2 ∧ (Bm.firstG t).1 ≤ t.length - (Bm.firstG t).2)) (_ : t.length ≤ 100000000) :
    textS 9223372036854775807 (some t) = ([], none) := by
  unfold textS
  by_cases h0 : 0 < (Bm.firstG t).2 ∧ ((Bm.firstG t).1 : Int) ≤ 9223372036854775807
  · rw [int_yes 9223372036854775807 t h0.1 h0.2]
    simp only [rawS]
    rw [if_neg (by rw [List.length_drop]; omega)]
  · rw [int_no 9223372036854775807 t h0]
    rfl
/-- Ints that are read lie in no Reader: they stay where a Reader's block alone turns. -/
theorem reads_notR {w w' : World} {b : Nat} {st : Left} {A : Option Addr} {l : List Nat} (h : CR w b st) (hr : Reads w A (i64s l)) (hg : w.grownBy w' (some b)) : Reads w' A (i64s l) := fun hne => by
  obtain ⟨g, off, rfl, hc⟩ := hr hne
  refine ⟨g, off, rfl, fun j hj => ?_⟩
  have h1 := hc j hj
  rw [i64s_length] at hj
  rw [i64s_get? l j hj] at h1 ⊢
  refine hg.cell h1 (fun e => ?_)
  injection e with e
  dsimp only at e
  subst e
  have h2 := (Row.cell h (off + j)).symm.trans h1
  have hrc : ∀ (m : Nat) (z : Int), (rcells st)[m]? ≠ some (.int .i64 z) := by
    intro m z hx
    rcases st with _ | bs
    all_goals
      match m, hx with
      | 0, hx => simp [rcells] at hx
      | 1, hx => simp [rcells] at hx
      | m + 2, hx => simp [rcells] at hx
  exact hrc _ _ h2
set_option maxHeartbeats 2000000 in
set_option maxRecDepth 100000 in
theorem lout_any (b n : Nat) (t : List Nat) (w : World) (ht : t.length ≤ 1000) (hlt : ∀ x ∈ t, x < 256) (hn : n ≤ 1048576) (h : CR w b (some t)) :
    Calls Tryz.prog 27 #[.pointer (some ⟨b, 0, none⟩), .int .i64 (n : Int)] w fun e w' => LitP w' b t e (Bm.bodyL 2 n t) ∧ w.grownBy w' (some b) := by
  have Hr := Lib.hid (lread_is w b t (by omega) hlt h)
  have e2 : Bm.bodyL 2 n t = (match Bm.readL t with | none => none | some p => (Bm.codeB p.1 (t.drop p.2) n).map fun q => (q.1, p.2 + q.2)) := by
    unfold Bm.bodyL
    rw [if_neg (by decide), if_neg (by decide), if_pos rfl]
    rfl
  rw [e2]
  clear e2 h
  have hat := Bm.readL_at t
  have hwh := Bm.readL_whole t
  cases hrd : Bm.readL t with
  | none =>
    rw [hrd] at Hr
    dsimp only
    clear hat hwh hrd hlt ht
    go_enter Tryz.func27, Tryz.ntmps27
    go_wp2_with fail
    refine Hr.out.mono ?_
    rintro e w1 ⟨⟨A, c, rfl⟩, hg1⟩
    go_wp2
    go_ret2
    exact ⟨rfl, hg1⟩
  | some p =>
    obtain ⟨ls, sz⟩ := p
    have hr1 := Hr.out
    rw [hrd] at hr1
    unfold ReadP at hr1
    dsimp only at hr1
    replace Hr := Lib.hid hr1
    clear hr1
    have hW := hwh (ls, sz) hrd
    dsimp only at hW ⊢
    have hdl : (t.drop sz).length ≤ 1000 := by rw [List.length_drop]; omega
    have hdt : ∀ x ∈ t.drop sz, x < 256 := drop_lt hlt sz
    have hdd : ∀ k, (t.drop sz).drop k = t.drop (sz + k) := fun k => by rw [List.drop_drop]
    have Hdd := Lib.hid hdd
    have Htx := Lib.hid (fun W (h : CR W b (some (t.drop sz))) => rtext_any b (some (t.drop sz)) 9223372036854775807 W (by omega) (by omega) ⟨hdt, by omega⟩ h)
    have HW := Lib.hid hW
    clear hat hwh hrd hlt ht hW hdd
    generalize t.drop sz = u at *
    by_cases hc : 0 < (Bm.firstG u).2 ∧ (Bm.firstG u).1 ≤ u.length - (Bm.firstG u).2
    · have ht2 := text_yes u hc (by omega)
      have ecb : Bm.codeB ls u n = (Bm.decT ls ((u.drop (Bm.firstG u).2).take (Bm.firstG u).1) n).map fun x => (x, (Bm.firstG u).2 + (Bm.firstG u).1) := by unfold Bm.codeB; rw [if_pos hc]
      rw [ht2] at Htx
      rw [ecb]
      dsimp only at Htx
      obtain ⟨cd, hcd⟩ : ∃ cd, cd = (u.drop (Bm.firstG u).2).take (Bm.firstG u).1 := ⟨_, rfl⟩
      have hcl : cd.length ≤ 1000 := by rw [hcd, List.length_take, List.length_drop]; omega
      have hct : ∀ x ∈ cd, x < 256 := fun x hx => hdt x (List.mem_of_mem_drop (List.mem_of_mem_take (by rw [hcd] at hx; exact hx)))
      rw [← hcd] at Htx ⊢
      obtain ⟨k, hk⟩ : ∃ k, k = (Bm.firstG u).2 + (Bm.firstG u).1 := ⟨_, rfl⟩
      rw [← hk] at Htx ⊢
      have Hdec := Lib.hid (fun W A c (hr : Reads W A (i64s ls)) => ldec_yes A c ls cd n W HW.out (by omega) hcl hct hr (hcodes_na A c ls W HW.out hr))
      have Hlen := Lib.hid (fun d (h : Bm.decT ls cd n = some d) => (Bm.enc_decT ls cd d n hct h).2.2)
      clear hc ht2 ecb hcd hcl hct hk hdl hdt
      have Hcvt := Lib.hid (fun W A c bs h1 h2 => conv_bytes W A c bs h1 h2)
      generalize strOf cd = scd at *
      go_enter Tryz.func27, Tryz.ntmps27
      go_wp2_with fail
      refine Hr.out.mono ?_
      rintro e w1 ⟨⟨A, c, rfl, hrd1, hcr1⟩, hg1⟩
      have Hg1 := Lib.hid hg1
      have Hrd1 := Lib.hid hrd1
      have Hcr1 := Lib.hid hcr1
      have Htx1 := Lib.hid (Htx.out w1 hcr1)
      clear hrd1 hg1 Hr Htx hcr1
      go_wp2_with fail
      refine Htx1.out.mono ?_
      rintro e w2 ⟨rfl, hcr2, hg2⟩
      have Hg2 := Lib.hid (grown_trans Hg1.out hg2)
      have Hrb := Lib.hid (rbad_any b _ w2 hcr2)
      have Hrd2 := Lib.hid (reads_notR Hcr1.out Hrd1.out hg2)
      have Hcr2 := Lib.hid hcr2
      clear hg2 hcr2 Hg1 Htx1 Hrd1 Hcr1
      go_wp2_with fail
      refine Hrb.out.mono ?_
      rintro e w3 ⟨rfl, rfl⟩
      have Hd2 := Lib.hid (Hdec.out w2 A c Hrd2.out)
      clear Hrb Hdec Hrd2
      cases hdc : Bm.decT ls cd n with
      | none =>
        rw [hdc] at Hd2
        have hnil : ∀ W A c, (convert 35 9 (.slice A 0 c)).run Tryz.prog W = .ok (.string (strOf [])) W := fun W A c => Hcvt.out W A c [] (by simp) (fun h => absurd rfl h)
        have Hdc := Lib.hid hdc
        clear Hlen Hcvt hdc Hcr2
        go_wp2_with fail
        refine Hd2.out.mono ?_
        rintro e w4 ⟨⟨A4, c4, rfl⟩, hb4⟩
        have Hg4 := Lib.hid (grown_trans Hg2.out (grown_below hb4 (some b)))
        have hcv := hnil w4 A4 c4
        clear hb4 Hg2 Hd2 hnil
        go_wp2
        go_ret2
        rw [Hdc.out]
        exact ⟨rfl, Hg4.out⟩
      | some d =>
        rw [hdc] at Hd2
        have hd256 : ∀ x ∈ d, x < 256 := fun x hx => Nat.lt_of_lt_of_le (Hlen.out d hdc x hx) HW.out.1
        have hcvd := Lib.hid (fun W A c h => Hcvt.out W A c d hd256 h)
        have Hdc := Lib.hid hdc
        clear Hlen Hcvt hdc hd256
        have Hcr2b : Hid (CR w2 b (some (t.drop (sz + k)))) := Lib.hid (by rw [← Hdd.out]; exact Hcr2.out)
        clear Hcr2
        go_wp2_with fail
        refine Hd2.out.mono ?_
        rintro e w4 ⟨⟨A4, c4, rfl, _, hrd4⟩, hb4⟩
        have hcv := hcvd.out w4 A4 c4 hrd4
        have Hg4 := Lib.hid (grown_trans Hg2.out (grown_below hb4 (some b)))
        have Hcr4 := Lib.hid (Hcr2b.out.below hb4)
        clear hb4 Hg2 Hd2 hcvd hrd4 Hcr2b
        generalize hsd : strOf d = sd at *
        have Hsd := Lib.hid hsd
        clear hsd
        go_wp2
        go_ret2
        rw [Hdc.out, ← Hsd.out]
        exact ⟨⟨rfl, Hcr4.out⟩, Hg4.out⟩
    · have ht2 := text_no u hc (by omega)
      have ecb : Bm.codeB ls u n = none := by unfold Bm.codeB; rw [if_neg hc]
      rw [ht2] at Htx
      rw [ecb]
      dsimp only at Htx
      rw [Option.map_none]
      have Hcv := Lib.hid (strOf_size [])
      generalize strOf [] = sN at *
      clear ht2 ecb hc hdl hdt Hdd HW
      go_enter Tryz.func27, Tryz.ntmps27
      go_wp2_with fail
      refine Hr.out.mono ?_
      rintro e w1 ⟨⟨A, c, rfl, hrd1, hcr1⟩, hg1⟩
      have Hg1 := Lib.hid hg1
      have Htx1 := Lib.hid (Htx.out w1 hcr1)
      clear hrd1 hg1 Hr Htx hcr1
      go_wp2_with fail
      refine Htx1.out.mono ?_
      rintro e w2 ⟨rfl, hcr2, hg2⟩
      have Hg2 := Lib.hid (grown_trans Hg1.out hg2)
      have Hrb := Lib.hid (rbad_any b _ w2 hcr2)
      clear hg2 hcr2 Hg1 Htx1
      go_wp2_with fail
      refine Hrb.out.mono ?_
      rintro e w3 ⟨rfl, rfl⟩
      clear Hrb
      go_wp2
      go_ret2
      exact ⟨rfl, Hg2.out⟩
end Go.Proofs.YtgcfdjgfnagmjaaGreat
