/-
  Layer 23 (link): a Pipe in a Link and the reference's Pipe side by side: Send, Inject, Take of both; what a deed leaves. Conditions: as each theorem's premises say (up to 100000 bytes).
-/
import Derived.Test.YtecelklpeealaaaWn
import Derived.Test.YtecelklpeealaaaWg
import Derived.Test.YtecelklpeealaaaSc
namespace Go.Proofs.Ytecelklpeealaaa
open Go.RowKit

section
variable {w : World} {b o : Nat} {E : PEnv} {p base : Nat} {qo : Option Nat} {B0 m : Nat} {S : List Nat} {a : Nat} {K : List Int} {t : Nat} {kc kf : List Bm.Itm} {h n : Nat}
/-- Send, whether there is room or not. -/
theorem ppsend_r (w : World) (l : List Nat) (r : Bool) (hr : decide (l.length ≤ m - kc.length - kf.length) = r) (hl : ∀ x ∈ l, x < 256) (k : PI w b o E kc kf m h n) :
    Calls Try.prog 19 #[.pointer (some ⟨b, o, none⟩), .string (strOf l)] w fun e w' => e = .returned (.bool r) ∧ PI w' b o E kc (if r = true then kf ++ Bm.itms true l else kf) m h n ∧ w.grownBy w' (some b) := by
  cases r with
  | true =>
    rw [if_pos rfl]
    exact ppsend_yes b o E kc kf m h n l w (of_decide_eq_true hr) hl k
  | false =>
    rw [if_neg (by decide)]
    refine (ppsend_no b o E kc kf m h n (strOf l) w (by rw [strOf_size]; exact of_decide_eq_false hr) k).mono ?_
    rintro e w' ⟨rfl, q, rfl⟩
    exact ⟨rfl, k.keep rfl, grown_drewN (grown_refl _ _) q⟩
theorem ppinj_r (w : World) (l : List Nat) (r : Bool) (hr : decide (l.length ≤ m - kc.length - kf.length) = r) (hl : ∀ x ∈ l, x < 256) (k : PI w b o E kc kf m h n) :
    Calls Try.prog 21 #[.pointer (some ⟨b, o, none⟩), .string (strOf l)] w fun e w' => e = .returned (.bool r) ∧ PI w' b o E (if r = true then kc ++ Bm.itms false l else kc) kf m h n ∧ w.grownBy w' (some b) := by
  cases r with
  | true =>
    rw [if_pos rfl]
    exact ppinj_yes b o E kc kf m h n l w (of_decide_eq_true hr) hl k
  | false =>
    rw [if_neg (by decide)]
    refine (ppinj_no b o E kc kf m h n (strOf l) w (by rw [strOf_size]; exact of_decide_eq_false hr) k).mono ?_
    rintro e w' ⟨rfl, q, rfl⟩
    exact ⟨rfl, k.keep rfl, grown_drewN (grown_refl _ _) q⟩
theorem rpsend_r (w : World) (l : List Nat) (r : Bool) (q : Nat) (hM : m ≤ 2048) (hS : S.length ≤ 1000000) (ha : a ≤ S.length) (hq : q + (S.length - a) + K.length = m) (hr : decide (l.length ≤ q) = r) (k : RPi w p base qo B0 m S a K) :
    Calls Try.prog 25 #[.pointer (some ⟨p, 0, none⟩), .string (strOf l)] w fun e w' => e = .returned (.bool r) ∧ RPi w' p base qo B0 m (if r = true then S ++ l else S) a K ∧ KeptQ p qo B0 w w' := by
  cases r with
  | true =>
    rw [if_pos rfl]
    exact (rpsend_yes p base qo B0 m S a K q l w hM hS ha hq (of_decide_eq_true hr) k).mono fun e w' ⟨h1, h2, h3⟩ => ⟨h1, h2, KeptQ.ofp h3 k.lt.2.2.2⟩
  | false =>
    rw [if_neg (by decide)]
    refine (rpsend_no p base qo B0 m S a K q (strOf l) w hM hS ha hq (by rw [strOf_size]; have := of_decide_eq_false hr; omega) k).mono ?_
    rintro e w' ⟨rfl, q, rfl⟩
    exact ⟨rfl, k.drewN q, (KeptQ.refl _ _ _ _).drewN q⟩
theorem rpinj_r (w : World) (l : List Nat) (r : Bool) (q : Nat) (hM : m ≤ 2048) (hS : S.length ≤ 1000000) (ha : a ≤ S.length) (hq : q + (S.length - a) + K.length = m) (hr : decide (l.length ≤ q) = r) (hl : ∀ x ∈ l, x < 256) (k : RPi w p base qo B0 m S a K) :
    Calls Try.prog 43 #[.pointer (some ⟨p, 0, none⟩), .string (strOf l)] w fun e w' => e = .returned (.bool r) ∧ RPi w' p base qo B0 m S a (if r = true then K ++ Bm.putK l else K) ∧ KeptQ p qo B0 w w' := by
  cases r with
  | true =>
    rw [if_pos rfl]
    exact rpinj_yes p base qo B0 m S a K q l w hM hS ha hq (of_decide_eq_true hr) hl k
  | false =>
    rw [if_neg (by decide)]
    refine (rpinj_no p base qo B0 m S a K q (strOf l) w hM hS ha hq (by rw [strOf_size]; have := of_decide_eq_false hr; omega) k).mono ?_
    rintro e w' ⟨rfl, q, rfl⟩
    exact ⟨rfl, k.drewN q, (KeptQ.refl _ _ _ _).drewN q⟩
/-- Take, of both. -/
theorem take_both (w : World) (hS : S.length ≤ 100000) (hK : K.length ≤ 100000) (hP : PI w b o E kc kf m h n) (hA : Bm.Agr S a K t kc kf h n) :
    ∃ (x v : Nat) (sd has : Bool) (K' : List Int) (t' : Nat) (kc' : List Bm.Itm) (h' n' : Nat),
      Calls Try.prog 27 #[.pointer (some ⟨b, o, none⟩)] w (fun e w' => e = .returned (.tuple #[ppB x v sd, .bool has]) ∧ PI w' b o E kc' kf m h' n' ∧ w.grownBy w' (some b)) ∧
      (∀ W qo B0, RPi W p base qo B0 m S a K → Calls Try.prog 28 #[.pointer (some ⟨p, 0, none⟩)] W fun e w' => e = .returned (.tuple #[.int .u8 (x : Int), .int .u64 (v : Int), .bool sd, .bool has]) ∧ RPi w' p base qo B0 m S a K' ∧ KeptQ p qo B0 W w') ∧
      Bm.Agr S a K' t' kc' kf h' n' := by
  cases K with
  | nil =>
    have hc : kc = [] := List.eq_nil_of_length_eq_zero (by rw [hA.cameLen]; rfl)
    subst hc
    refine ⟨0, 0, false, false, [], t, [], h, n, ?_, fun W qo B0 hW => ?_, hA⟩
    · exact (pptake_none b o E kf m h n w hP).mono fun e w' ⟨h1, h2⟩ => ⟨h1, hP.below h2, grown_below h2 _⟩
    · refine (rptake_none p base qo B0 m S a W hW).mono ?_
      rintro e w' ⟨rfl, rfl⟩
      exact ⟨rfl, hW, KeptQ.refl _ _ _ _⟩
  | cons k K =>
    rw [List.length_cons] at hK
    by_cases hk : k < 0
    · obtain ⟨h1, kc', rfl, h3⟩ := hA.other hk
      refine ⟨(k + 256).toNat, 0, false, true, K, t, kc', h, n, pptake_put b o E _ kc' kf m h n w hP, fun W qo B0 hW => ?_, h3⟩
      exact (rptake_put p base qo B0 m S a k K (k + 256).toNat W hk (by omega) (by omega) hW).mono fun e w' ⟨h5, h6, h7⟩ => ⟨h5, h6, KeptQ.ofp h7 hW.lt.2.2.2⟩
    · obtain ⟨hl, hkt, hlt, kc', rfl, h3, h4⟩ := hA.take hk
      have hnt := hA.hn
      refine ⟨S[t], Bm.sumOf (S.take (t + 1)), true, true, K, t + 1, kc', _, n + 1, ?_, fun W qo B0 hW => ?_, h3⟩
      · rw [← h4]
        exact pptake_sent b o E S[t] kc' kf m h n w (by omega) hP
      · rw [hkt] at hW
        exact (rptake_sent p base qo B0 m S a t K W hl (by omega) hA.lt (by omega) hW).mono fun e w' ⟨h5, h6, h7⟩ => ⟨h5, h6, KeptQ.ofp h7 hW.lt.2.2.2⟩
end
/-- Of the blocks ahead of B0 only b, p and one other have changed. -/
structure KeptD (b p : Nat) (qo : Option Nat) (B0 : Nat) (w w' : World) : Prop where
  os : w'.os = w.os
  tape : w'.tape = w.tape
  output : w'.output = w.output
  size : w.heap.size ≤ w'.heap.size
  block : ∀ k, k < B0 → k ≠ b → k ≠ p → qo ≠ some k → w'.heap[k]? = w.heap[k]?
section
variable {b p : Nat} {qo : Option Nat} {B0 : Nat} {w w' w'' : World}
theorem KeptD.refl (b p : Nat) (qo : Option Nat) (B0 : Nat) (w : World) : KeptD b p qo B0 w w := ⟨rfl, rfl, rfl, Nat.le_refl _, fun _ _ _ _ _ => rfl⟩
theorem KeptD.trans (h : KeptD b p qo B0 w w') (h' : KeptD b p qo B0 w' w'') : KeptD b p qo B0 w w'' :=
  ⟨h'.os.trans h.os, h'.tape.trans h.tape, h'.output.trans h.output, Nat.le_trans h.size h'.size, fun k hk h1 h2 h3 => (h'.block k hk h1 h2 h3).trans (h.block k hk h1 h2 h3)⟩
theorem KeptD.of_below (h : Below w.heap.size w w') (hB : B0 ≤ w.heap.size) : KeptD b p qo B0 w w' := ⟨h.os, h.tape, h.output, h.size, fun k hk _ _ _ => h.block k (Nat.lt_of_lt_of_le hk hB)⟩
theorem KeptD.of_grown (h : w.grownBy w' (some b)) (hB : B0 ≤ w.heap.size) : KeptD b p qo B0 w w' :=
  ⟨h.os, h.tape, h.output, h.size, fun k hk h1 _ _ => h.block k (Nat.lt_of_lt_of_le hk hB) (fun e => by injection e with e; exact h1 e)⟩
theorem KeptD.of_kept (h : KeptQ p qo B0 w w') : KeptD b p qo B0 w w' := ⟨h.os, h.tape, h.output, h.size, fun k hk _ h2 h3 => h.block k hk h2 h3⟩
/-- Said of fewer blocks. -/
theorem KeptD.weak {q1 : Option Nat} {B1 : Nat} (h : KeptD b p q1 B1 w w') (h1 : ∀ k, q1 = some k → qo = some k ∨ B0 ≤ k) (h2 : B0 ≤ B1) : KeptD b p qo B0 w w' :=
  ⟨h.os, h.tape, h.output, h.size, fun k hk h3 h4 h5 => h.block k (by omega) h3 h4 (fun e => by
    rcases h1 k e with h6 | h6
    · exact h5 h6
    · omega)⟩
theorem KeptD.below (h : KeptD b p qo B0 w w') {B : Nat} (h1 : B ≤ B0) (h2 : B ≤ p) (h3 : B ≤ b) (h4 : ∀ k, qo = some k → B ≤ k) : Below B w w' :=
  ⟨h.os, h.tape, h.output, h.size, fun k hk => h.block k (by omega) (by omega) (by omega) (fun e => by have := h4 k e; omega)⟩
/-- What a deed of the reference's leaves of the Link. -/
theorem PI.kept {o : Nat} {E : PEnv} {kc kf : List Bm.Itm} {m h n : Nat} (k : PI w b o E kc kf m h n) (hk : KeptQ p qo B0 w w') (h1 : b < B0) (h2 : b ≠ p) (h3 : qo ≠ some b) : PI w' b o E kc kf m h n :=
  k.keep (hk.block b h1 h2 h3)
end
/-- The state of a Pipe in a Link and of the reference's Pipe: both hold the same. -/
def PJ (w : World) (b o : Nat) (E : PEnv) (p base : Nat) (qo : Option Nat) (B0 m L : Nat) (s : PSt) : Prop :=
  ∃ S a K t, PI w b o E s.kc s.kf m s.h s.n ∧ RPi w p base qo B0 m S a K ∧ Bm.Agr S a K t s.kc s.kf s.h s.n ∧ S.length ≤ L
end Go.Proofs.Ytecelklpeealaaa
