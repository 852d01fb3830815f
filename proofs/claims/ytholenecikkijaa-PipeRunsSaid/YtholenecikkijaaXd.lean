/-
  PipeRuns (layer 22): the law's function by its walk: true for any slice of deeds and any number. No condition beyond each theorem's premises.
-/
import Derived.Test.YtholenecikkijaaXk
import Derived.Test.YtholenecikkijaaXu
import Derived.Test.YtholenecikkijaaXl
import Derived.Test.YtholenecikkijaaQl
import Derived.Deep.DeepCutAuto
namespace Go.Proofs.Ytholenecikkijaa
open Go.RowKit

section
variable {w : World} {b p base m : Nat} {S : List Nat} {a : Nat} {K : List Int} {t : Nat} {kc kf : List Bm.Itm} {h n : Nat}
/-- Send, whether there is room or not. -/
theorem ppsend_r (w : World) (l : List Nat) (r : Bool) (hr : decide (l.length ≤ m - kc.length - kf.length) = r) (hl : ∀ x ∈ l, x < 256) (k : PI w b kc kf m h n) :
    Calls Try.prog 9 #[.pointer (some ⟨b, 0, none⟩), .string (strOf l)] w fun e w' => e = .returned (.bool r) ∧ PI w' b kc (if r = true then kf ++ Bm.itms true l else kf) m h n ∧ w.grownBy w' (some b) := by
  cases r with
  | true =>
    rw [if_pos rfl]
    exact ppsend_yes b kc kf m h n l w (of_decide_eq_true hr) hl k
  | false =>
    rw [if_neg (by decide)]
    refine (ppsend_no b kc kf m h n (strOf l) w (by rw [strOf_size]; exact of_decide_eq_false hr) k).mono ?_
    rintro e w' ⟨rfl, q, rfl⟩
    exact ⟨rfl, k.keep rfl, grown_drewN (grown_refl _ _) q⟩
theorem ppinj_r (w : World) (l : List Nat) (r : Bool) (hr : decide (l.length ≤ m - kc.length - kf.length) = r) (hl : ∀ x ∈ l, x < 256) (k : PI w b kc kf m h n) :
    Calls Try.prog 13 #[.pointer (some ⟨b, 0, none⟩), .string (strOf l)] w fun e w' => e = .returned (.bool r) ∧ PI w' b (if r = true then kc ++ Bm.itms false l else kc) kf m h n ∧ w.grownBy w' (some b) := by
  cases r with
  | true =>
    rw [if_pos rfl]
    exact ppinj_yes b kc kf m h n l w (of_decide_eq_true hr) hl k
  | false =>
    rw [if_neg (by decide)]
    refine (ppinj_no b kc kf m h n (strOf l) w (by rw [strOf_size]; exact of_decide_eq_false hr) k).mono ?_
    rintro e w' ⟨rfl, q, rfl⟩
    exact ⟨rfl, k.keep rfl, grown_drewN (grown_refl _ _) q⟩
theorem KeptQ.ofp {w w' : World} (hg : w.grownBy w' (some p)) : KeptQ base p w w' := KeptQ.grown hg (fun k hk => Or.inl (by injection hk with hk; exact hk.symm))
theorem rpsend_r (w : World) (l : List Nat) (r : Bool) (q : Nat) (hM : m ≤ 2048) (hS : S.length ≤ 1000000) (ha : a ≤ S.length) (hq : q + (S.length - a) + K.length = m) (hr : decide (l.length ≤ q) = r) (k : RPi w p base m S a K) :
    Calls Try.prog 10 #[.pointer (some ⟨p, 0, none⟩), .string (strOf l)] w fun e w' => e = .returned (.bool r) ∧ RPi w' p base m (if r = true then S ++ l else S) a K ∧ KeptQ base p w w' := by
  cases r with
  | true =>
    rw [if_pos rfl]
    exact (rpsend_yes p base m S a K q l w hM hS ha hq (of_decide_eq_true hr) k).mono fun e w' ⟨h1, h2, h3⟩ => ⟨h1, h2, KeptQ.ofp h3⟩
  | false =>
    rw [if_neg (by decide)]
    refine (rpsend_no p base m S a K q (strOf l) w hM hS ha hq (by rw [strOf_size]; have := of_decide_eq_false hr; omega) k).mono ?_
    rintro e w' ⟨rfl, q, rfl⟩
    exact ⟨rfl, k.drewN q, (KeptQ.refl _ _ _).drewN q⟩
theorem rpinj_r (w : World) (l : List Nat) (r : Bool) (q : Nat) (hM : m ≤ 2048) (hS : S.length ≤ 1000000) (ha : a ≤ S.length) (hq : q + (S.length - a) + K.length = m) (hr : decide (l.length ≤ q) = r) (hl : ∀ x ∈ l, x < 256) (k : RPi w p base m S a K) :
    Calls Try.prog 14 #[.pointer (some ⟨p, 0, none⟩), .string (strOf l)] w fun e w' => e = .returned (.bool r) ∧ RPi w' p base m S a (if r = true then K ++ Bm.putK l else K) ∧ KeptQ base p w w' := by
  cases r with
  | true =>
    rw [if_pos rfl]
    exact rpinj_yes p base m S a K q l w hM hS ha hq (of_decide_eq_true hr) hl k
  | false =>
    rw [if_neg (by decide)]
    refine (rpinj_no p base m S a K q (strOf l) w hM hS ha hq (by rw [strOf_size]; have := of_decide_eq_false hr; omega) k).mono ?_
    rintro e w' ⟨rfl, q, rfl⟩
    exact ⟨rfl, k.drewN q, (KeptQ.refl _ _ _).drewN q⟩
/-- Take, of both. -/
theorem take_both (w : World) (hS : S.length ≤ 100000) (hK : K.length ≤ 100000) (hP : PI w b kc kf m h n) (hA : Bm.Agr S a K t kc kf h n) :
    ∃ (x v : Nat) (sd has : Bool) (K' : List Int) (t' : Nat) (kc' : List Bm.Itm) (h' n' : Nat),
      Calls Try.prog 15 #[.pointer (some ⟨b, 0, none⟩)] w (fun e w' => e = .returned (.tuple #[ppB x v sd, .bool has]) ∧ PI w' b kc' kf m h' n' ∧ w.grownBy w' (some b)) ∧
      (∀ W, RPi W p base m S a K → Calls Try.prog 16 #[.pointer (some ⟨p, 0, none⟩)] W fun e w' => e = .returned (.tuple #[.int .u8 (x : Int), .int .u64 (v : Int), .bool sd, .bool has]) ∧ RPi w' p base m S a K' ∧ KeptQ base p W w') ∧
      Bm.Agr S a K' t' kc' kf h' n' := by
  cases K with
  | nil =>
    have hc : kc = [] := List.eq_nil_of_length_eq_zero (by rw [hA.cameLen]; rfl)
    subst hc
    refine ⟨0, 0, false, false, [], t, [], h, n, ?_, fun W hW => ?_, hA⟩
    · exact (pptake_none b kf m h n w hP).mono fun e w' ⟨h1, h2⟩ => ⟨h1, hP.below h2, grown_below h2 _⟩
    · refine (rptake_none p base m S a W hW).mono ?_
      rintro e w' ⟨rfl, rfl⟩
      exact ⟨rfl, hW, KeptQ.refl _ _ _⟩
  | cons k K =>
    rw [List.length_cons] at hK
    by_cases hk : k < 0
    · obtain ⟨h1, kc', rfl, h3⟩ := hA.other hk
      refine ⟨(k + 256).toNat, 0, false, true, K, t, kc', h, n, pptake_put b _ kc' kf m h n w hP, fun W hW => ?_, h3⟩
      exact (rptake_put p base m S a k K (k + 256).toNat W hk (by omega) (by omega) hW).mono fun e w' ⟨h5, h6, h7⟩ => ⟨h5, h6, KeptQ.ofp h7⟩
    · obtain ⟨hl, hkt, hlt, kc', rfl, h3, h4⟩ := hA.take hk
      have hnt := hA.hn
      refine ⟨S[t], Bm.sumOf (S.take (t + 1)), true, true, K, t + 1, kc', _, n + 1, ?_, fun W hW => ?_, h3⟩
      · rw [← h4]
        exact pptake_sent b S[t] kc' kf m h n w (by omega) hP
      · rw [hkt] at hW
        exact (rptake_sent p base m S a t K W hl (by omega) hA.lt (by omega) hW).mono fun e w' ⟨h5, h6, h7⟩ => ⟨h5, h6, KeptQ.ofp h7⟩
/-- What a deed leaves of the other one. -/
theorem PI.kept {w' : World} (k : PI w b kc kf m h n) (hk : KeptQ base p w w') (hb : b < p) (hp : p < base) : PI w' b kc kf m h n :=
  k.keep (hk.block b k.lt (by omega) (Or.inl (by omega)))
end
/-- The law's state: the program's Pipe, the reference's. -/
def PJ (w : World) (b p base m k : Nat) : Prop := ∃ S a K t kc kf h n, PI w b kc kf m h n ∧ RPi w p base m S a K ∧ Bm.Agr S a K t kc kf h n ∧ S.length ≤ 40 * k
theorem PJ.mono {w : World} {b p base m k : Nat} (h : PJ w b p base m k) : PJ w b p base m (k + 1) := by
  obtain ⟨S, a, K, t, kc, kf, x, n, h1, h2, h3, h4⟩ := h
  exact ⟨S, a, K, t, kc, kf, x, n, h1, h2, h3, by omega⟩
theorem PJ.below {w w' : World} {b p base m k : Nat} (h : PJ w b p base m k) (hb : Below w.heap.size w w') : PJ w' b p base m k := by
  obtain ⟨S, a, K, t, kc, kf, x, n, h1, h2, h3, h4⟩ := h
  exact ⟨S, a, K, t, kc, kf, x, n, h1.below hb, h2.below hb, h3, h4⟩
set_option maxHeartbeats 400000 in
set_option maxRecDepth 100000 in
theorem ppruns_out (A : Option Addr) (L c : Nat) (x : Int) (w : World) (hl : 100 < L) (hL : L ≤ 9223372036854775807) :
    Calls Try.prog 3 #[.slice A L c, .int .i64 x] w fun e w' => e = .returned (.bool true) ∧ Below w.heap.size w w' := by
  have Haw := Lib.hid (ppawake_any w)
  have hd : decide (100 < (L : Int)) = true := decide_eq_true (by omega)
  go_enter Try.func3, Try.ntmps3
  go_wp2_with fail
  refine Haw.out.mono ?_
  rintro e w1 ⟨rfl, hb1⟩
  have HB1 := Lib.hid hb1
  clear hb1
  go_wp2
  go_ret
  exact ⟨rfl, HB1.out⟩
end Go.Proofs.Ytholenecikkijaa
