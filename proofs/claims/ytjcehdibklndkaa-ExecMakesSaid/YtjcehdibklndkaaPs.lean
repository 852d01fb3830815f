/-
  The program's layer 12 (parse), by its walk: steps, Steps. Conditions: as each theorem's premises say.
-/
import Derived.Test.YtjcehdibklndkaaPc
import Derived.RegionTactic
namespace Go.Proofs.Ytjcehdibklndkaa
open Go.RowKit

theorem own_keptB {w w' : World} {base b n m : Nat} {e : TypeId} {v : Value} {xs : List Value} (h : w.ownsRow base e m v n xs) (hg : w.grownBy w' (some b)) (hb : b < base) : w'.ownsRow base e m v n xs :=
  h.kept hg (by
    cases hv : v.ownBlock with
    | none => exact .inl rfl
    | some k =>
      refine .inr (fun e => ?_)
      injection e with e
      have := (h.lt k hv).1
      omega)

set_option maxHeartbeats 2000000 in
set_option maxRecDepth 100000 in
theorem parst_any (b : Nat) (T P : List Nat) (a : Nat) (D : Int) (w : World) (hT : T.length ≤ 2000) (hlt : ∀ z ∈ T, z < 256) (ha : a ≤ T.length) (hD : Bm.IntOk D) (h : PF w b T P) :
    Calls Try.prog 19 #[.pointer (some ⟨b, 0, none⟩), .int .i64 (a : Int), .int .i64 D] w fun e w' => ∃ A c, e = .returned (.slice A (Bm.stepsN T D (T.length - a) a P 0).length c) ∧ StpR w' A (Bm.stepsN T D (T.length - a) a P 0) ∧ w.grownBy w' (some b) := by
  obtain ⟨i0, hi, hz0, hz1, hz2⟩ := info_parts info_seq
  have hbw : b < w.heap.size := h.lt
  have Hlen := Lib.hid (fun w P (h : PF w b T P) => zplen_at b T w h.text)
  have Hnote := Lib.hid (fun w P (k : Nat) (hk : k ≤ 1000000) (h : PF w b T P) => znote_any b T P (k : Int) w hT hlt ⟨by omega, by omega⟩ h)
  have Hfind := Lib.hid (fun w P (k : Int) (h0 : 0 ≤ k) (hk : k ≤ 1000000) (h : PF w b T P) => zfind_any b T P k D w hT hlt ⟨by omega, by omega⟩ hD h)
  have Hnts := Lib.hid (fun w P (x y : Nat) hxy hy (h : PF w b T P) => parnote_any b T P x y w hT hlt hxy hy h)
  have Hfl := Lib.hid (fun P (k : Nat) h => Bm.find_le T P k D h)
  have Hfo := Lib.hid (fun P (k : Nat) h => Bm.find_ok T P k D h)
  have Hend := Lib.hid (fun k P n => show Bm.stepsN T D k T.length P n = [] by cases k with
    | zero => rfl
    | succ k => rw [Bm.stepsN, if_pos (Nat.le_refl _)])
  have Hpl := Lib.hid (fun P a h => Bm.places_note T P a h)
  obtain ⟨R, hR⟩ : ∃ R, R = Bm.stepsN T D (T.length - a) a P 0 := ⟨_, rfl⟩
  rw [← hR]
  have HR := Lib.hid hR
  have H := Lib.hid h
  have HF := Lib.hid (fun (w : World) P (h : PF w b T P) => show Bm.Places T P from by obtain ⟨C, L, A, _, _, _, h4⟩ := h; exact h4)
  obtain ⟨hD0, hD1⟩ := hD
  clear hR h hlt
  go_enter Try.func19, Try.ntmps19
  go_wp2
  go_loopw [1, 7, 8] (fun av lv nv wr => ∃ (k a n : Nat) (Q : List Nat) (acc : List Bm.Stp), a ≤ T.length ∧ n ≤ a ∧ acc.length ≤ a ∧ T.length - a ≤ k ∧ av = .int .i64 (a : Int) ∧ nv = .int .i64 (n : Int) ∧ Hid (R = acc ++ Bm.stepsN T D k a Q n) ∧ Hid (wr.ownsRow w.heap.size 37 3 lv acc.length (sqs acc)) ∧ Hid (PF wr b T Q) ∧ Hid (w.grownBy wr (some b))) (fun av _ _ _ => T.length - (intOf av).toNat)
  case atStart => exact ⟨T.length - a, a, 0, P, [], ha, by omega, by simp, Nat.le_refl _, rfl, rfl, Lib.hid (by rw [HR.out]; rfl), Lib.hid (World.ownsRow_nil _ _ _ _), H, Lib.hid (grown_refl _ _)⟩
  case round =>
    obtain ⟨k, p, n, Q, acc, hp, hn, hacc, hk, rfl, rfl, hq, hown, hf, hg⟩ := hrel
    clear HR H ha
    have Hl := Lib.hid (Hlen.out wr Q hf.out)
    by_cases hpt : p < T.length
    · obtain ⟨k', rfl⟩ : ∃ k', k = k' + 1 := ⟨k - 1, by omega⟩
      have hq2 := hq.out
      rw [Bm.stepsN_succ, if_neg (by omega)] at hq2
      have Hq := Lib.hid hq2
      have d0 : decide ((p : Int) < (T.length : Int)) = true := decide_eq_true (by omega)
      have Hpq := Lib.hid (HF.out wr Q hf.out)
      have Hfi := Lib.hid (Hfind.out wr Q (p : Int) (by omega) (by omega) hf.out)
      have hfl := Hfl.out Q p Hpq.out
      have Hfo2 := Lib.hid (Hfo.out Q p Hpq.out)
      have Hno := Lib.hid (fun w h => Hnote.out w Q p (by omega) h)
      have Hfi2 := Lib.hid (fun w h => Hfind.out w (Bm.noteP T Q (p : Int)) ((p : Int) + 1) (by omega) (by omega) h)
      have hfl2 := Hfl.out (Bm.noteP T Q (p : Int)) (p + 1) (Hpl.out Q p Hpq.out)
      rw [Int.natCast_add] at hfl2
      have hfl3 := hfl2.2
      have hfl1 := hfl.1
      have hfl0 := hfl.2
      have Hnt := Lib.hid (fun w (y : Nat) h1 h2 h => Hnts.out w (Bm.noteP T Q (p : Int)) (p + 1) y h1 h2 h)
      clear hq hq2 hfl hfl2 Hend Hlen Hnote Hfind Hnts Hfl Hfo Hpl Hpq HF
      rw [show ((p : Int) + ((1 : Nat) : Int)) = (p : Int) + 1 from rfl] at hfl3
      generalize Bm.noteP T Q (p : Int) = Q1 at *
      generalize (Bm.findI T Q1 ((p : Int) + 1) D) = r2 at *
      generalize (Bm.findI T Q (p : Int) D) = r at *
      obtain ⟨o, m⟩ := r
      obtain ⟨o2, m2⟩ := r2
      simp only at Hq Hfi Hfo2 Hfi2 hfl3 hfl1 hfl0
      have hf0 := hf
      have hown0 := hown
      have hg0 := hg
      clear hf hown hg
      go_wp2_with fail
      refine Hl.out.mono ?_
      rintro e w0 ⟨rfl, rfl⟩
      go_wp2_with fail
      refine Hfi.out.mono ?_
      rintro e w1 ⟨rfl, hb1⟩
      have Hf1 := Lib.hid (hf0.out.keep (hb1.block b hf0.out.lt))
      have Hg1 := Lib.hid (grown_on hg0.out hb1)
      have Hown1 := Lib.hid (own_keptB hown0.out (grown_below hb1 _) hbw)
      clear hb1 hf0 hown0 hg0 Hfi Hl
      go_wp2_with fail
      refine (Hno.out _ Hf1.out).mono ?_
      rintro e w2 ⟨rfl, hf2, hg2⟩
      have Hf2 := Lib.hid hf2
      have Hg2 := Lib.hid (grown_trans12 Hg1.out hg2)
      have Hown2 := Lib.hid (own_keptB Hown1.out hg2 hbw)
      clear hf2 hg2 Hf1 Hg1 Hown1 Hno
      go_wp2_with fail
      refine (Hfi2.out _ Hf2.out).mono ?_
      rintro e w3 ⟨rfl, hb3⟩
      have Hf3 := Lib.hid (Hf2.out.keep (hb3.block b Hf2.out.lt))
      have Hg3 := Lib.hid (grown_on Hg2.out hb3)
      have Hown3 := Lib.hid (own_keptB Hown2.out (grown_below hb3 _) hbw)
      clear hb3 Hf2 Hown2 Hg2 Hfi2
      by_cases hm0 : m = 0 ∨ m < m2
      · rw [if_pos hm0] at Hq
        have Hq2 := Lib.hid Hq
        clear Hfo2 Hnt
        by_cases hmz : m = 0
        · subst hmz
          go_wp2
          go_roundw
          case rel => exact ⟨k', p + 1, n + 1, Q1, acc, by omega, by omega, by omega, by omega, by go_num, by go_num, Hq, Hown3, Hf3, Hg3⟩
          case measure => simp [intOf]; omega
        · have d1 : ((m : Int) == 0) = false := by simp; omega
          have d2 : decide ((m2 : Int) > (m : Int)) = true := decide_eq_true (by omega)
          have d3 : decide ((m : Int) < (m2 : Int)) = true := decide_eq_true (by omega)
          go_wp2
          go_roundw
          case rel => exact ⟨k', p + 1, n + 1, Q1, acc, by omega, by omega, by omega, by omega, by go_num, by go_num, Hq, Hown3, Hf3, Hg3⟩
          case measure => simp [intOf]; omega
      · rw [if_neg hm0] at Hq
        have d1 : ((m : Int) == 0) = false := by simp; omega
        have d2 : decide ((m2 : Int) > (m : Int)) = false := decide_eq_false (by omega)
        have d3 : decide ((m : Int) < (m2 : Int)) = false := decide_eq_false (by omega)
        obtain ⟨h3, ho1, ho2, hpm, _⟩ := Hfo2.out (by omega)
        clear Hfo2
        obtain ⟨la, hla⟩ : ∃ la, la = acc.length := ⟨_, rfl⟩
        rw [← hla] at Hown3 hacc
        have Hla := Lib.hid hla
        have hws := Hg3.out.size
        clear hla
        go_wp2_with (at_builtin; refine wpList_append_own _ rfl _ _ 23 rfl w.heap.size 37 i0 (.agg #[.int .i64 0, .int .i64 0, .int .i64 0]) 3 24 Try.underlying23 hi hz0 hz1 hz2 rfl (by decide) _ _ _ rfl (Hown3.out.alloc _) ⟨w3.heap.size, 0, none⟩ 1 1 [.int .i64 (n : Int), .int .i64 (m : Int), .int .i64 (o : Int)] rfl rfl ?d1 ?d2 ?d3 ?d4 ?d5 ?_)
        case d1 =>
          intro j u hj
          match j, hj with
          | 0, hj => simp at hj; subst hj; simp [Addr.add]
          | 1, hj => simp at hj; subst hj; simp [Addr.add]
          | 2, hj => simp at hj; subst hj; simp [Addr.add]
        case d2 =>
          intro u hu
          simp at hu
          rcases hu with rfl | rfl | rfl <;> rfl
        case d3 => unfold maxLen; omega
        case d4 => omega
        case d5 => simp; omega
        intro u' w7 hown7 hgr7 _
        have hbA := (Below.refl w3.heap.size w3).alloc (Nat.le_refl _) (.cells #[.int .i64 (n : Int), .int .i64 (m : Int), .int .i64 (o : Int)] 37)
        have hgA : w.grownBy (w3.alloc (.cells #[.int .i64 (n : Int), .int .i64 (m : Int), .int .i64 (o : Int)] 37)) (some b) := grown_on Hg3.out hbA
        have hfA : PF (w3.alloc (.cells #[.int .i64 (n : Int), .int .i64 (m : Int), .int .i64 (o : Int)] 37)) b T Q1 := Hf3.out.keep (hbA.block b Hf3.out.lt)
        have hne : ∀ j, j < w.heap.size → some j ≠ _ := fun j hj e => by have := (Hown3.out.lt j e.symm).1; omega
        have Hf7 := Lib.hid (hfA.keep (hgr7.block b hfA.lt (hne b hbw)))
        have Hg7 : Hid (w.grownBy w7 (some b)) := Lib.hid ⟨hgr7.os.trans hgA.os, hgr7.tape.trans hgA.tape, hgr7.output.trans hgA.output, Nat.le_trans hgA.size hgr7.size, fun j hj hn => (hgr7.block j (Nat.lt_of_lt_of_le hj hgA.size) (hne j hj)).trans (hgA.block j hj hn)⟩
        have hs2 : sqs acc ++ [.int .i64 (n : Int), .int .i64 (m : Int), .int .i64 (o : Int)] = sqs (acc ++ [(n, m, o)]) := by rw [sqs_append]; rfl
        rw [hs2] at hown7
        have Hown7 : Hid (w7.ownsRow w.heap.size 37 3 u' (acc ++ [(n, m, o)]).length (sqs (acc ++ [(n, m, o)]))) := Lib.hid (by rw [List.length_append, ← Hla.out]; exact hown7)
        have Hq3 : Hid (R = (acc ++ [(n, m, o)]) ++ Bm.stepsN T D k' (p + m) (Bm.notesF T Q1 (p + 1) (m - 1)) 0) := Lib.hid (by rw [List.append_assoc]; exact Hq.out)
        have Hn7 := Lib.hid (Hnt.out w7 (p + m) (by omega) (by omega) Hf7.out)
        rw [show p + m - (p + 1) = m - 1 by omega, Int.natCast_add, Int.natCast_add] at Hn7
        have hl7 : (acc ++ [(n, m, o)]).length ≤ p + m := by rw [List.length_append, ← Hla.out]; simp; omega
        clear hbA hgA hfA hne hs2 hown7 hgr7 Hown3 Hf3 Hg3 Hq Hnt Hf7
        go_wp2_with fail
        refine Hn7.out.mono ?_
        rintro e w8 ⟨rfl, hf8, hg8⟩
        have Hf8 := Lib.hid hf8
        have Hg8 := Lib.hid (grown_trans12 Hg7.out hg8)
        have Hown8 := Lib.hid (own_keptB Hown7.out hg8 hbw)
        clear hf8 hg8 Hg7 Hown7 Hn7
        go_wp2
        go_roundw
        case rel => exact ⟨k', p + m, 0, _, _, by omega, by omega, hl7, by omega, by go_num, rfl, Hq3, Hown8, Hf8, Hg8⟩
        case measure => simp [intOf]; omega
    · obtain rfl : p = T.length := by omega
      have d0 : decide ((T.length : Int) < (T.length : Int)) = false := decide_eq_false (by omega)
      have He := Lib.hid (show R = acc by rw [hq.out, Hend.out, List.append_nil])
      obtain ⟨A, c, hv, hr, hc⟩ := stp_own hown.out
      subst hv
      have Hr := Lib.hid hr
      clear hr hown hq
      go_wp2_with fail
      refine Hl.out.mono ?_
      rintro e w0 ⟨rfl, rfl⟩
      go_wp2
      go_ret
      exact ⟨A, c, by rw [He.out]; rfl, by rw [He.out]; exact Hr.out, hg.out⟩
end Go.Proofs.Ytjcehdibklndkaa
