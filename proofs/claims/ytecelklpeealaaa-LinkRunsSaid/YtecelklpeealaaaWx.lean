/-
  LinkRuns (layer 23): the law's state, a Link and the reference's; what a deed of one of its Pipes, a Join or a Cut leaves. Conditions: as each theorem's premises say.
-/
import Derived.Test.YtecelklpeealaaaWs
import Derived.Test.YtecelklpeealaaaWm
namespace Go.Proofs.Ytecelklpeealaaa
open Go.RowKit

/-- The law's state: the program's Link, the reference's; both hold the same. -/
structure RSt where
  s : PSt
  t : PSt
  S1 : List Nat
  a1 : Nat
  K1 : List Int
  t1 : Nat
  S2 : List Nat
  a2 : Nat
  K2 : List Int
  t2 : Nat
  q1 : Option Nat
  q2 : Option Nat
structure RS (w : World) (b c p1 p2 base m L : Nat) (up : Bool) (g : Nat) (x : RSt) : Prop where
  lk : LK w b up g m x.s x.t
  rl : Row w c 34 (rlC p1 p2 up g)
  r1 : RPi w p1 base x.q1 w.heap.size m x.S1 x.a1 x.K1
  g1 : Bm.Agr x.S1 x.a1 x.K1 x.t1 x.s.kc x.s.kf x.s.h x.s.n
  l1 : x.S1.length ≤ L
  r2 : RPi w p2 base x.q2 w.heap.size m x.S2 x.a2 x.K2
  g2 : Bm.Agr x.S2 x.a2 x.K2 x.t2 x.t.kc x.t.kf x.t.h x.t.n
  l2 : x.S2.length ≤ L
  b1 : ∀ k, x.q1 = some k → base ≤ k ∧ k < w.heap.size
  b2 : ∀ k, x.q2 = some k → base ≤ k ∧ k < w.heap.size
  ne : ∀ k, x.q1 = some k → x.q2 ≠ some k
section
variable {w w' : World} {b c p1 p2 base m L : Nat} {up : Bool} {g : Nat} {x : RSt}
theorem RS.below (k : RS w b c p1 p2 base m L up g x) (hb : Below w.heap.size w w') : RS w' b c p1 p2 base m L up g x :=
  ⟨k.lk.below hb, k.rl.keep (hb.block _ k.rl.lt), k.r1.keepQ (hb.block _ k.r1.lt.1) hb.size (fun _ _ hl => hb.block _ hl), k.g1, k.l1, k.r2.keepQ (hb.block _ k.r2.lt.1) hb.size (fun _ _ hl => hb.block _ hl), k.g2, k.l2,
    fun j hj => ⟨(k.b1 j hj).1, Nat.lt_of_lt_of_le (k.b1 j hj).2 hb.size⟩, fun j hj => ⟨(k.b2 j hj).1, Nat.lt_of_lt_of_le (k.b2 j hj).2 hb.size⟩, k.ne⟩
theorem RS.more (k : RS w b c p1 p2 base m L up g x) {L' : Nat} (h : L ≤ L') : RS w b c p1 p2 base m L' up g x :=
  ⟨k.lk, k.rl, k.r1, k.g1, Nat.le_trans k.l1 h, k.r2, k.g2, Nat.le_trans k.l2 h, k.b1, k.b2, k.ne⟩
/-- The Pipes towards the replica, and what a deed of both leaves. -/
theorem RS.to (k : RS w b c p1 p2 base m L up g x) (hb : b < p1) (h12 : p1 < p2) (h2c : p2 < c) (hcb : c < base) :
    ∃ E, PJ w b 0 E p1 base x.q1 w.heap.size m L x.s ∧ ∀ w' s', PJ w' b 0 E p1 base x.q1 w.heap.size m (L + 30) s' → KeptD b p1 x.q1 w.heap.size w w' → (∃ x', RS w' b c p1 p2 base m (L + 30) up g x') ∧ ∀ B, B ≤ b → Below B w w' := by
  obtain ⟨E, hp, hof⟩ := k.lk.to
  have hlt1 := k.r1.lt
  have hlt2 := k.r2.lt
  refine ⟨E, ⟨_, _, _, x.t1, hp, k.r1, k.g1, k.l1⟩, fun w' s' hj hk => ?_⟩
  obtain ⟨S, a, K, t, hP, hR, hA, hS⟩ := hj
  obtain ⟨q, hR2, hq⟩ := hR.now
  have hn : ∀ j, x.q1 = some j → base ≤ j := fun j hj => (k.b1 j hj).1
  refine ⟨⟨⟨s', x.t, S, a, K, t, x.S2, x.a2, x.K2, x.t2, q, x.q2⟩, hof w' s' hP, k.rl.keep (hk.block c k.rl.lt (by omega) (by omega) (fun e => by have := hn c e; omega)), hR2, hA, hS, ?_, k.g2, Nat.le_trans k.l2 (by omega), fun j hj => ⟨(hq j hj).1, (hq j hj).2.1⟩, fun j hj => ⟨(k.b2 j hj).1, Nat.lt_of_lt_of_le (k.b2 j hj).2 hk.size⟩, fun j hj e => ?_⟩, fun B hB => hk.below (by omega) (by omega) hB (fun j hj => by have := hn j hj; omega)⟩
  · exact k.r2.keepQ (hk.block p2 hlt2.1 (by omega) (by omega) (fun e => by have := hn p2 e; omega)) hk.size (fun j hj hl => hk.block j hl (by have := (k.b2 j hj).1; omega) (by have := (k.b2 j hj).1; omega) (fun e => k.ne j e hj))
  · rcases (hq j hj).2.2.1 with h1 | h1
    · exact k.ne j h1 e
    · have := (k.b2 j e).2; omega
/-- The Pipes from it. -/
theorem RS.from_ (k : RS w b c p1 p2 base m L up g x) (hb : b < p1) (h12 : p1 < p2) (h2c : p2 < c) (hcb : c < base) :
    ∃ E, PJ w b 4102 E p2 base x.q2 w.heap.size m L x.t ∧ ∀ w' s', PJ w' b 4102 E p2 base x.q2 w.heap.size m (L + 30) s' → KeptD b p2 x.q2 w.heap.size w w' → (∃ x', RS w' b c p1 p2 base m (L + 30) up g x') ∧ ∀ B, B ≤ b → Below B w w' := by
  obtain ⟨E, hp, hof⟩ := k.lk.from_
  have hlt1 := k.r1.lt
  have hlt2 := k.r2.lt
  refine ⟨E, ⟨_, _, _, x.t2, hp, k.r2, k.g2, k.l2⟩, fun w' s' hj hk => ?_⟩
  obtain ⟨S, a, K, t, hP, hR, hA, hS⟩ := hj
  obtain ⟨q, hR2, hq⟩ := hR.now
  have hn : ∀ j, x.q2 = some j → base ≤ j := fun j hj => (k.b2 j hj).1
  refine ⟨⟨⟨x.s, s', x.S1, x.a1, x.K1, x.t1, S, a, K, t, x.q1, q⟩, hof w' s' hP, k.rl.keep (hk.block c k.rl.lt (by omega) (by omega) (fun e => by have := hn c e; omega)), ?_, k.g1, Nat.le_trans k.l1 (by omega), hR2, hA, hS, fun j hj => ⟨(k.b1 j hj).1, Nat.lt_of_lt_of_le (k.b1 j hj).2 hk.size⟩, fun j hj => ⟨(hq j hj).1, (hq j hj).2.1⟩, fun j hj e => ?_⟩, fun B hB => hk.below (by omega) (by omega) hB (fun j hj => by have := hn j hj; omega)⟩
  · exact k.r1.keepQ (hk.block p1 hlt1.1 (by omega) (by omega) (fun e => by have := hn p1 e; omega)) hk.size (fun j hj hl => hk.block j hl (by have := (k.b1 j hj).1; omega) (by have := (k.b1 j hj).1; omega) (fun e => k.ne j hj e))
  · rcases (hq j e).2.2.1 with h1 | h1
    · exact k.ne j hj h1
    · have := (k.b1 j hj).2; omega
/-- New Pipes on both sides. -/
theorem RS.ofNew (hk : LK w b up g m PSt.new PSt.new) (hr : Row w c 34 (rlC p1 p2 up g)) (h1 : Row w p1 40 (rpZ m)) (h2 : Row w p2 40 (rpZ m)) (h12 : p1 < p2) (h2c : p2 < c) (hcb : c < base) (hbs : base ≤ w.heap.size) :
    RS w b c p1 p2 base m L up g ⟨PSt.new, PSt.new, [], 0, [], 0, [], 0, [], 0, none, none⟩ :=
  ⟨hk, hr, RPi.ofNew h1 (by omega) hbs (Nat.le_refl _), Bm.Agr.new, Nat.zero_le _, RPi.ofNew h2 (by omega) hbs (Nat.le_refl _), Bm.Agr.new, Nat.zero_le _, (fun j hj => by cases hj), (fun j hj => by cases hj), (fun j hj => by cases hj)⟩
end
end Go.Proofs.Ytecelklpeealaaa
