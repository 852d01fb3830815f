/-
  The reference of layer 11 (chain), by its walk: Note. Conditions: as the theorem's premises say (up to ten thousand places).
-/
import Derived.Test.YtjoohdeeihjilaaEa
import Derived.Deep.AppendLies
namespace Go.Proofs.Ytjoohdeeihjilaa
open Go.RowKit

theorem info_ie : (Try.prog.info? 3).map (fun i => (i.zero, i.size, i.bytes)) = some (some (.int .i64 0), 1, 8) := by kernel_rfl
theorem reads_ie {w : World} {A : Option Addr} {l : List Nat} (h : Reads w A (i64s l)) (hne : 0 < l.length) : ∃ g off, A = some ⟨g, off, none⟩ ∧ ∀ j (hj : j < l.length), w.cell? ⟨g, off + j, none⟩ = some (.int .i64 (l[j] : Int)) := by
  obtain ⟨g, off, e, hc⟩ := h (by intro e; have := congrArg List.length e; rw [i64s_length, List.length_nil] at this; omega)
  exact ⟨g, off, e, fun j hj => by rw [hc j (by rw [i64s_length]; exact hj), i64s_get? l j hj]⟩
theorem own_not {w : World} {base q n : Nat} {t : TypeId} {v : Value} {xs cs : List Value} (h : w.ownsRow base 3 1 v n xs) (hr : Row w q t cs) (ht : t ≠ 3) : v.ownBlock ≠ some q := by
  intro e
  rcases h.2 with ⟨rfl, _⟩ | ⟨g, cap, cur, rfl, _, hg, _⟩
  · simp [Value.ownBlock] at e
  · simp only [Value.ownBlock, Option.some.injEq] at e
    subst e
    unfold Row at hr
    rw [hr] at hg
    simp only [Option.some.injEq, Obj.cells.injEq] at hg
    exact ht hg.2.1

set_option maxHeartbeats 1000000 in
set_option maxRecDepth 100000 in
theorem zrnote_any (q : Nat) (T P : List Nat) (S : Nat → Prop) (a : Int) (w : World) (hT : T.length ≤ 1000000) (hP : P.length ≤ 10000) (ha : Bm.IntOk a) (h : RF w q T P S) :
    Calls Try.prog 9 #[.pointer (some ⟨q, 0, none⟩), .int .i64 a] w fun e w' => e = .returned (.bool (Bm.noteB T P a)) ∧ (∃ S', RF w' q T (Bm.noteP T P a) S' ∧ ∀ k, S' k → S k ∨ w.heap.size ≤ k) ∧ Sep S w w' := by
  obtain ⟨i0, hi, hz0, hz1, hz2⟩ := info_parts info_ie
  have h0 := h
  obtain ⟨v, hrow, hown, hS⟩ := h
  have c0 := hrow.cell 0
  have c1 := hrow.cell 1
  have f1 := hrow.free 1
  simp only [List.getElem?_cons_zero, List.getElem?_cons_succ] at c0 c1
  have Hright := Lib.hid (zright_any q T a w hT ha c0)
  obtain ⟨r, hr⟩ : ∃ r, r = Bm.noteB T P a := ⟨_, rfl⟩
  have Hno : Hid (r = false → RF w q T (Bm.noteP T P a) S) := Lib.hid (fun hf => by unfold Bm.noteP; rw [← hr, hf, if_neg Bool.false_ne_true]; exact h0)
  by_cases hri : Bm.rightI T a = true
  · rw [hri] at Hright
    have ha0 : 0 ≤ a := by unfold Bm.rightI at hri; simp only [decide_eq_true_eq] at hri; omega
    obtain ⟨n, rfl⟩ := Int.eq_ofNat_of_zero_le ha0
    obtain ⟨A, c, rfl, hrd, _⟩ := own_reads hown
    have hrany : r = !P.any (fun p => decide ((p : Int) = (n : Int))) := by rw [hr, Bm.noteB, hri, Bool.true_and]
    have Hfound : Hid (∀ k (hk : k < P.length), P[k] = n → r = false) := Lib.hid (fun k hk e => by
      rw [hrany, Bool.not_eq_false', List.any_eq_true]
      exact ⟨P[k], List.getElem_mem hk, by rw [e]; exact decide_eq_true rfl⟩)
    have Hnone : Hid ((∀ p ∈ P, p ≠ n) → r = true) := Lib.hid (fun hn => by
      rw [hrany, Bool.not_eq_true', List.any_eq_false]
      intro p hp
      simp only [decide_eq_true_eq]
      have := hn p hp
      omega)
    have HP2 : Hid (r = true → Bm.noteP T P (n : Int) = P ++ [n]) := Lib.hid (fun ht => by unfold Bm.noteP; rw [← hr, ht, if_pos rfl, Int.toNat_natCast])
    rw [← hr]
    have Hown := Lib.hid hown
    have Hrow := Lib.hid hrow
    have HS := Lib.hid hS
    have Hrd := Lib.hid hrd
    have hqo := own_not hown hrow (by decide)
    have Hlt := Lib.hid h0.lt
    clear hrany hri hr h0 hown hrow hS hrd ha ha0
    go_enter Try.func9, Try.ntmps9
    go_wp2_with fail
    refine Hright.out.mono ?_
    rintro e w' ⟨rfl, rfl⟩
    go_wp2
    go_loopw [5] (fun iv wr => ∃ k : Nat, k ≤ P.length ∧ iv = .int .i64 (k : Int) ∧ Hid (∀ p ∈ P.take k, p ≠ n) ∧ Hid (wr = w)) (fun iv _ => P.length - (intOf iv).toNat)
    case atStart => exact ⟨0, by omega, rfl, Lib.hid (by simp), Lib.hid rfl⟩
    case round =>
      obtain ⟨k, hk, rfl, hall, hw⟩ := hrel
      have hwr := hw.out
      subst hwr
      clear hw
      by_cases hkP : k < P.length
      · obtain ⟨g1, off1, rfl, hc1⟩ := reads_ie Hrd.out (by omega)
        have k1 := hc1 k hkP
        have hfd := Hfound.out k hkP
        have hnx : P[k] ≠ n → ∀ p ∈ P.take (k + 1), p ≠ n := fun hne p hp => by
          rw [List.take_succ_eq_append_getElem hkP] at hp
          rcases List.mem_append.1 hp with hp | hp
          · exact hall.out p hp
          · rw [List.mem_singleton.1 hp]; exact hne
        have Hfd := Lib.hid hfd
        have Hnx := Lib.hid hnx
        clear hc1 hfd hnx hall
        generalize P[k] = x at *
        by_cases hx : x = n
        · have dx : ((x : Int) == (n : Int)) = true := by rw [beq_iff_eq]; omega
          have hrf := Hfd.out hx
          have Hrf := Lib.hid hrf
          have Hres := Lib.hid (Hno.out hrf)
          clear hrf Hfd Hnx
          go_wp2
          go_ret
          exact ⟨congrArg (fun x => Ending.returned (Value.bool x)) Hrf.out.symm, ⟨S, Hres.out, fun k hk => .inl hk⟩, Sep.of_below S (Below.refl _ _)⟩
        · have dx : ((x : Int) == (n : Int)) = false := by rw [beq_eq_false_iff_ne]; omega
          have Hn2 := Lib.hid (Hnx.out hx)
          clear Hfd Hnx
          go_wp2
          go_roundw
          case rel => exact ⟨k + 1, by omega, by go_num, Hn2, Lib.hid (by first | rfl | trivial)⟩
          case measure => simp [intOf]; omega
      · obtain rfl : k = P.length := by omega
        have hrt : r = true := Hnone.out (by have h := hall.out; rwa [List.take_of_length_le (Nat.le_refl _)] at h)
        have Hrt := Lib.hid hrt
        have HPn := Lib.hid (HP2.out hrt)
        clear hall hrt HP2 Hno Hnone Hfound
        go_wp2_with (at_builtin; refine wpList_append_lies _ rfl _ _ 27 rfl 0 3 i0 (.int .i64 0) 1 8 Try.underlying27 hi hz0 hz1 hz2 rfl (by decide) _ _ _ rfl (Hown.out.alloc _) ⟨wr.heap.size, 0, none⟩ 1 1 [.int .i64 (n : Int)] rfl rfl ?d1 ?d2 (by decide) ?d3 ?d4 ?d5 _ rfl ?_)
        case d1 =>
          intro j u hj
          match j, hj with
          | 0, hj => simp at hj; subst hj; simp [Addr.add]
        case d2 => intro u hu; simp at hu; subst hu; rfl
        case d3 => unfold maxLen; omega
        case d4 => omega
        case d5 => omega
        intro g7 cap7 w7 hown7 hgr7 hat7 hlt7
        have hrow7 : Row w7 q 29 [.string (strOf T), .slice A P.length c] := (Hrow.out.alloc _).keep (hgr7.block q (by have := Hrow.out.lt; simp; omega) (fun e => hqo e.symm))
        have c7 := hrow7.cell 1
        have f7 := hrow7.free 1
        simp only [List.getElem?_cons_zero, List.getElem?_cons_succ] at c7
        have hq7 := own_not hown7 hrow7 (by decide)
        have hlen7 : P.length + 1 = (P ++ [n]).length := by simp
        have e7 : i64s P ++ [Value.int .i64 (n : Int)] = i64s (P ++ [n]) := by simp [i64s]
        rw [e7] at hown7
        have hsz7 : wr.heap.size ≤ w7.heap.size := by have := hgr7.size; simp at this; omega
        have Hfin : Hid ((∃ S', RF (w7.setCell ⟨q, 1, none⟩ (.slice (some ⟨g7, 0, none⟩) (P.length + 1) cap7)) q T (P ++ [n]) S' ∧ ∀ k, S' k → S k ∨ wr.heap.size ≤ k) ∧ Sep S wr (w7.setCell ⟨q, 1, none⟩ (.slice (some ⟨g7, 0, none⟩) (P.length + 1) cap7))) := Lib.hid (by
          have hnew : w7.heap.size = w7.heap.size := rfl
          refine ⟨⟨fun k => k = q ∨ (Value.slice (some ⟨g7, 0, none⟩) (P.length + 1) cap7).ownBlock = some k, ⟨_, hrow7.set_ 1 _, ?_, rfl⟩, ?_⟩, ⟨hgr7.os, hgr7.tape, hgr7.output, by simpa using hsz7, ?_⟩⟩
          · rw [← hlen7]
            exact hown7.kept (row := some q) (grown_set (grown_refl w7 (some q)) 1 _) (.inr hq7)
          · rintro k (rfl | hk)
            · left; rw [HS.out]; exact .inl rfl
            · simp only [Value.ownBlock, Option.some.injEq] at hk
              subst hk
              rcases hat7 with h7 | h7
              · left; rw [HS.out]; exact .inr h7
              · right; rw [h7]; simp
          · intro k hk hS
            rw [HS.out] at hS
            have h1 : k ≠ q := fun e => hS (.inl e)
            rw [Below.heap_setCell w7 ⟨q, 1, none⟩ _ k h1]
            rw [hgr7.block k (by simp; omega) (fun e => hS (.inr e.symm))]
            exact Below.heap_alloc wr _ k hk)
        clear hrow7 hown7 hgr7 hq7 e7 hsz7 hat7 hlt7 hlen7
        go_wp2
        go_ret
        rw [HPn.out, Hrt.out]
        exact ⟨rfl, Hfin.out.1, Hfin.out.2⟩
  · have hrif : Bm.rightI T a = false := by simpa using hri
    rw [hrif] at Hright
    have hrf : r = false := by rw [hr, Bm.noteB, hrif, Bool.false_and]
    have Hres := Lib.hid (Hno.out hrf)
    rw [← hr, hrf]
    clear Hno hr hrf hri hrif h0 hrow hown hS
    go_enter Try.func9, Try.ntmps9
    go_wp2_with fail
    refine Hright.out.mono ?_
    rintro e w' ⟨rfl, rfl⟩
    go_wp2
    go_ret
    exact ⟨rfl, ⟨S, Hres.out, fun k hk => .inl hk⟩, Sep.of_below S (Below.refl _ _)⟩
end Go.Proofs.Ytjoohdeeihjilaa
