/-
  CodesWalks (layer 13): the law's function by its walk: true for any slice of uint16. Premises: what the calls of layer 13 answer.
-/
import Derived.Test.YtlimiiimgblggaaKk
import Derived.Test.YtlimiiimgblggaaAf
import Derived.Test.YtlimiiimgblggaaAr
import Derived.LoopTactic
namespace Go.Proofs.Ytlimiiimgblggaa
open Go.ChangeShapes Go.WideShapes Go.ChangeAt Go.RowKit

/-- A slice of uint16 that came in. -/
def ArgH (w : World) (A : Option Addr) (n c : Nat) (l : List Nat) : Prop := l.length = n ∧ (∀ x ∈ l, x < 65536) ∧
  (0 < n → ∃ g off, A = some ⟨g, off, none⟩ ∧ g < w.heap.size ∧ ∀ j (h : j < l.length), w.cell? ⟨g, off + j, none⟩ = some (.int .u16 (l[j] : Int))) ∧ n ≤ c ∧ c ≤ maxLen
theorem arg_h {w : World} {a : Option Addr} {n c : Nat} {zs : List Int} (h : IsRow .u16 w a n c zs) : ∃ l, ArgH w a n c l := by
  rcases h with ⟨rfl, rfl, rfl, rfl⟩ | ⟨x, rfl, hl, hm, hz, hc, hwf⟩
  · exact ⟨[], rfl, by simp, fun h => absurd h (by omega), Nat.le_refl _, by unfold maxLen; omega⟩
  · refine ⟨(zs.take n).map Int.toNat, by simp; omega, ?_, ?_, hl, hm⟩
    · intro b hb
      obtain ⟨z, hz1, rfl⟩ := List.mem_map.1 hb
      have hb := bounds_u16 (hwf z (List.mem_of_mem_take hz1))
      omega
    · intro hn
      obtain ⟨g, off, rfl, hg, hcell⟩ := row_place hc (by omega)
      refine ⟨g, off, rfl, hg, fun j hj => ?_⟩
      have hj' : j < zs.length := by simp at hj; omega
      rw [hcell j hj']
      have hb := bounds_u16 (hwf zs[j] (List.getElem_mem hj'))
      simp only [List.getElem_map, List.getElem_take]
      rw [Int.toNat_of_nonneg hb.1]

/-- Three ints that may be recent offsets of a walk. -/
def Tri (a b c : Int) : Prop := (1 ≤ a ∧ a ≤ 65533) ∧ (1 ≤ b ∧ b ≤ 65533) ∧ (1 ≤ c ∧ c ≤ 65533) ∧ a ≠ b ∧ b ≠ c ∧ a ≠ c
theorem tri_beh (a b c x : Int) (h : Tri a b c) (hx : 1 ≤ x ∧ x ≤ 65533) : (Bm.behI a b c x).1 = x ∧ Tri x (Bm.behI a b c x).2.1 (Bm.behI a b c x).2.2 := by
  unfold Tri at *
  unfold Bm.behI
  by_cases ha : a = x
  · rw [if_pos ha]; exact ⟨rfl, by simp only; omega⟩
  · rw [if_neg ha]
    by_cases hb : b = x
    · rw [if_pos hb]; exact ⟨rfl, by simp only; omega⟩
    · rw [if_neg hb]; exact ⟨rfl, by simp only; omega⟩
theorem tri_num (a b c x : Int) (hx : 1 ≤ x ∧ x ≤ 65533) : 0 ≤ Bm.numI a b c x ∧ Bm.numI a b c x ≤ 65535 := by
  unfold Bm.numI
  rw [if_neg (by omega)]
  split
  · omega
  · split
    · omega
    · split <;> omega

theorem two_stored {w0 w : World} {B br bs : Nat} {t u : TypeId} {a b c a' b' c' : Value} (h1 : Row w br t [a, b, c]) (h2 : Row w bs u [a', b', c']) (hne : br ≠ bs) (hb : Below B w0 w) (k1 : B ≤ br) (k2 : B ≤ bs) (p q y : Value) :
    Row ((((((w.setCell ⟨br, 0, none⟩ p).setCell ⟨br, 1, none⟩ q).setCell ⟨br, 2, none⟩ y).setCell ⟨bs, 0, none⟩ p).setCell ⟨bs, 1, none⟩ q).setCell ⟨bs, 2, none⟩ y).drew br t [p, q, y] ∧
    Row ((((((w.setCell ⟨br, 0, none⟩ p).setCell ⟨br, 1, none⟩ q).setCell ⟨br, 2, none⟩ y).setCell ⟨bs, 0, none⟩ p).setCell ⟨bs, 1, none⟩ q).setCell ⟨bs, 2, none⟩ y).drew bs u [p, q, y] ∧
    Below B w0 ((((((w.setCell ⟨br, 0, none⟩ p).setCell ⟨br, 1, none⟩ q).setCell ⟨br, 2, none⟩ y).setCell ⟨bs, 0, none⟩ p).setCell ⟨bs, 1, none⟩ q).setCell ⟨bs, 2, none⟩ y).drew := by
  have r1 : Row (((w.setCell ⟨br, 0, none⟩ p).setCell ⟨br, 1, none⟩ q).setCell ⟨br, 2, none⟩ y) br t [p, q, y] := ((h1.set_ 0 p).set_ 1 q).set_ 2 y
  have r2 : Row (((w.setCell ⟨br, 0, none⟩ p).setCell ⟨br, 1, none⟩ q).setCell ⟨br, 2, none⟩ y) bs u [a', b', c'] := ((h2.far hne.symm p).far hne.symm q).far hne.symm y
  have b1 := ((hb.setCell (p := ⟨br, 0, none⟩) k1 p).setCell (p := ⟨br, 1, none⟩) k1 q).setCell (p := ⟨br, 2, none⟩) k1 y
  generalize ((w.setCell ⟨br, 0, none⟩ p).setCell ⟨br, 1, none⟩ q).setCell ⟨br, 2, none⟩ y = v at *
  have s1 : Row (((v.setCell ⟨bs, 0, none⟩ p).setCell ⟨bs, 1, none⟩ q).setCell ⟨bs, 2, none⟩ y) br t [p, q, y] := ((r1.far hne p).far hne q).far hne y
  have s2 : Row (((v.setCell ⟨bs, 0, none⟩ p).setCell ⟨bs, 1, none⟩ q).setCell ⟨bs, 2, none⟩ y) bs u [p, q, y] := ((r2.set_ 0 p).set_ 1 q).set_ 2 y
  have b2 := ((b1.setCell (p := ⟨bs, 0, none⟩) k2 p).setCell (p := ⟨bs, 1, none⟩) k2 q).setCell (p := ⟨bs, 2, none⟩) k2 y
  generalize ((v.setCell ⟨bs, 0, none⟩ p).setCell ⟨bs, 1, none⟩ q).setCell ⟨bs, 2, none⟩ y = v2 at *
  exact ⟨s1.keep rfl, s2.keep rfl, b2.drew⟩

set_option maxHeartbeats 1000000 in
set_option maxRecDepth 100000 in
theorem kwalks_long (hC : KCode) (hV : KValue) (hF : KFirst) (A : Option Addr) (n c : Nat) (w : World) (h : 100 < n) (hm : n ≤ 9223372036854775807) :
    Calls Try.prog 5 #[.slice A n c] w fun e w' => e = .returned (.bool true) ∧ Below w.heap.size w w' := by
  have Haw := Lib.hid (kcawake_of hC hV hF w)
  have d1 : decide (100 < (n : Int)) = true := decide_eq_true (by omega)
  have d1' : decide (100 < n) = true := decide_eq_true h
  clear hC hV hF
  go_enter Try.func5, Try.ntmps5
  go_wp2_with fail
  refine Haw.out.mono ?_
  rintro e w1 ⟨rfl, hb1⟩
  have Hb1 := Lib.hid hb1
  clear hb1
  go_wp2
  go_ret
  exact ⟨rfl, Hb1.out⟩

set_option maxHeartbeats 2000000 in
set_option maxRecDepth 100000 in
theorem kwalks_short (hC : KCode) (hV : KValue) (hF : KFirst) (hN : KNum) (hO : KOff) (A : Option Addr) (n c : Nat) (l : List Nat) (w : World) (hl : ArgH w A n c l) (h : n ≤ 100) :
    Calls Try.prog 5 #[.slice A n c] w fun e w' => e = .returned (.bool true) ∧ Below w.heap.size w w' := by
  obtain ⟨hlen, hlt, hcell, _, _⟩ := hl
  subst hlen
  have Haw := Lib.hid (kcawake_of hC hV hF w)
  have HF := Lib.hid hF
  have d1 : decide (100 < (l.length : Int)) = false := decide_eq_false (by omega)
  have d1' : decide (100 < l.length) = false := decide_eq_false (by omega)
  have Hcell := Lib.hid hcell
  have hgu := rec_guard
  have hsa := rec_same
  clear hC hV hF hcell
  go_enter Try.func5, Try.ntmps5
  go_wp2_with fail
  refine Haw.out.mono ?_
  rintro e w1 ⟨rfl, hb1⟩
  have Hb1 := Lib.hid hb1
  clear hb1 Haw
  go_wp2_with fail
  refine (HF.out w1).mono ?_
  rintro e w2 ⟨rfl, hb2⟩
  have Hb2 := Lib.hid (Hb1.out.trans (hb2.mono Hb1.out.size))
  clear hb2 Hb1
  go_wp2_with fail
  refine (HF.out w2).mono ?_
  rintro e w3 ⟨rfl, hb3⟩
  have Hb3 := Lib.hid (Hb2.out.trans (hb3.mono Hb2.out.size))
  clear hb3 Hb2 HF
  go_wp2
  obtain ⟨br, hbr⟩ : ∃ z, z = w3.heap.size := ⟨_, rfl⟩
  obtain ⟨bs, hbs⟩ : ∃ z, z = w3.heap.size + 1 := ⟨_, rfl⟩
  rw [← hbs, ← hbr]
  have hrowr : Row ((w3.alloc (.cells #[.int .i64 1, .int .i64 2, .int .i64 4] 34)).alloc (.cells #[.int .i64 1, .int .i64 2, .int .i64 4] 34)) br 34 [.int .i64 1, .int .i64 2, .int .i64 4] := by rw [hbr]; exact (Row.new w3 _ _).alloc _
  have hrows : Row ((w3.alloc (.cells #[.int .i64 1, .int .i64 2, .int .i64 4] 34)).alloc (.cells #[.int .i64 1, .int .i64 2, .int .i64 4] 34)) bs 34 [.int .i64 1, .int .i64 2, .int .i64 4] := by
    have h := Row.new (w3.alloc (.cells #[.int .i64 1, .int .i64 2, .int .i64 4] 34)) 34 [.int .i64 1, .int .i64 2, .int .i64 4]
    rw [hbs]
    simpa using h
  have Hrowr := Lib.hid hrowr
  have Hrows := Lib.hid hrows
  have Hbel := Lib.hid ((Hb3.out.alloc Hb3.out.size (.cells #[.int .i64 1, .int .i64 2, .int .i64 4] 34)).alloc (Nat.le_trans Hb3.out.size (by simp)) (.cells #[.int .i64 1, .int .i64 2, .int .i64 4] 34))
  have Hrs := Lib.hid (show br ≠ bs ∧ w.heap.size ≤ br ∧ w.heap.size ≤ bs by have := Hb3.out.size; omega)
  clear hbr hbs hrowr hrows Hb3
  generalize (w3.alloc (.cells #[.int .i64 1, .int .i64 2, .int .i64 4] 34)).alloc (.cells #[.int .i64 1, .int .i64 2, .int .i64 4] 34) = wA at *
  go_loopw [23] (fun iv wr => ∃ (k : Nat) (a b c : Int), k ≤ l.length ∧ iv = .int .i64 (k : Int) ∧ Hid (Tri a b c) ∧ Hid (Row wr br 34 [.int .i64 a, .int .i64 b, .int .i64 c]) ∧ Hid (Row wr bs 34 [.int .i64 a, .int .i64 b, .int .i64 c]) ∧ Hid (Below w.heap.size w wr)) (fun iv _ => l.length - (intOf iv).toNat)
  case atStart => exact ⟨0, 1, 2, 4, by omega, rfl, Lib.hid (by unfold Tri; omega), Hrowr, Hrows, Hbel⟩
  case round =>
    obtain ⟨k, a, b, c0, hk, rfl, htri, hr1, hr2, hbel⟩ := hrel
    clear Hrowr Hrows Hbel
    by_cases hkl : k < l.length
    · obtain ⟨g, off, rfl, hg, hc⟩ := Hcell.out (by omega)
      have hx := hc k hkl
      rw [← hbel.out.cell (p := ⟨g, off + k, none⟩) hg] at hx
      have hxl := hlt _ (List.getElem_mem hkl)
      clear hc
      generalize l[k] = x at *
      obtain ⟨o, ho⟩ : ∃ o : Int, o = 1 + (x : Int) % 65533 := ⟨_, rfl⟩
      have ho1 : 1 ≤ o ∧ o ≤ 65533 := by omega
      obtain ⟨t1, t2⟩ := tri_beh a b c0 o htri.out ho1
      obtain ⟨n1, n2⟩ := tri_num a b c0 o ho1
      have hT := htri.out
      unfold Tri at hT
      have HN := Lib.hid (fun W => (hN W a b c0 o (by unfold Ok64; omega) (by unfold Ok64; omega) (by unfold Ok64; omega) (by unfold Ok64; omega)).mono fun e w' h => And.intro (h.1 n1) h.2.2)
      have HO := Lib.hid (fun W => (hO W a b c0 (Bm.numI a b c0 o) (by unfold Ok64; omega) (by unfold Ok64; omega) (by unfold Ok64; omega) (by unfold Ok64; omega)).mono fun e w' h => And.intro (h.1 o (Bm.off_num a b c0 o n1)) h.2.2)
      rw [t1] at HN HO
      clear hT t1
      generalize (Bm.behI a b c0 o).2.1 = q at *
      generalize (Bm.behI a b c0 o).2.2 = y at *
      generalize Bm.numI a b c0 o = m at *
      have hT := t2
      unfold Tri at hT
      have e1 : (o == q) = false := by simp; omega
      have e2 : (q == y) = false := by simp; omega
      have Ht := Lib.hid t2
      have ho2 : 1 + (x : Int) % 65533 = o := ho.symm
      have Hkl := Lib.hid hkl
      clear t2 hT ho htri
      obtain ⟨c1, c2, c3⟩ := row3 hr1.out
      go_wp2_with fail
      refine (HN.out _).mono ?_
      rintro e w4 ⟨rfl, hb4⟩
      have ha1 := hr1.out.below hb4
      have ha2 := hr2.out.below hb4
      have hbA := (Below.refl w4.heap.size w4).alloc (Nat.le_refl _) (.cells #[.int .i64 o, .int .i64 q, .int .i64 y] 34)
      obtain ⟨b9, hb9⟩ : ∃ z, z = w4.heap.size := ⟨_, rfl⟩
      have hd1 := ha1.below hbA
      have hd2 := ha2.below hbA
      have hd9 : Row (w4.alloc (.cells #[.int .i64 o, .int .i64 q, .int .i64 y] 34)) b9 34 [.int .i64 o, .int .i64 q, .int .i64 y] := by rw [hb9]; exact Row.new w4 _ _
      have hbB := hbel.out.trans (hb4.mono hbel.out.size)
      have Hb5 := Lib.hid (hbB.trans (hbA.mono hbB.size))
      have hn91 : br ≠ b9 := fun e => by have := ha1.lt; omega
      have hn92 : bs ≠ b9 := fun e => by have := ha2.lt; omega
      have Hd1 := Lib.hid hd1
      have Hd2 := Lib.hid hd2
      have Hd9 := Lib.hid hd9
      have Hb9 := Lib.hid hb9
      have Hn9 := Lib.hid (And.intro hn91 hn92)
      clear c1 c2 c3 hx hn91 hn92
      obtain ⟨c1, c2, c3⟩ := row3 hd2
      clear ha1 ha2 hbA hd1 hd2 hd9 hb9 hbB hb4 hr1 hr2 hbel HN ho2
      go_wp2_with fail
      rw [← Hb9.out]
      generalize w4.alloc (.cells #[.int .i64 o, .int .i64 q, .int .i64 y] 34) = w5 at *
      refine (HO.out _).mono ?_
      rintro e w6 ⟨rfl, hb6⟩
      have hbA := (Below.refl w6.heap.size w6).alloc (Nat.le_refl _) (.cells #[.int .i64 o, .int .i64 q, .int .i64 y] 34)
      have ha1 := (Hd1.out.below hb6).below hbA
      have ha2 := (Hd2.out.below hb6).below hbA
      have ha9 := (Hd9.out.below hb6).below hbA
      obtain ⟨b8, hb8⟩ : ∃ z, z = w6.heap.size := ⟨_, rfl⟩
      have ha8 : Row (w6.alloc (.cells #[.int .i64 o, .int .i64 q, .int .i64 y] 34)) b8 34 [.int .i64 o, .int .i64 q, .int .i64 y] := by rw [hb8]; exact Row.new w6 _ _
      have hbB := Hb5.out.trans (hb6.mono Hb5.out.size)
      have Hb7 := Lib.hid (hbB.trans (hbA.mono hbB.size))
      have hn81 : br ≠ b8 := fun e => by have := (Hd1.out.below hb6).lt; omega
      have hn82 : bs ≠ b8 := fun e => by have := (Hd2.out.below hb6).lt; omega
      have Hn8 := Lib.hid (And.intro hn81 hn82)
      have Hb8 := Lib.hid hb8
      have Ha1 := Lib.hid ha1
      have Ha2 := Lib.hid ha2
      have Ha9 := Lib.hid ha9
      have Ha8 := Lib.hid ha8
      clear c1 c2 c3 hn81 hn82 hb8 hb6 hbA hbB ha1 ha2 Hd1 Hd2 Hd9 HO Hb5
      obtain ⟨c1, c2, c3⟩ := row3 ha9
      obtain ⟨g1, g2, g3⟩ := row3 ha8
      clear ha9 ha8
      go_wp2
      rw [← Hb8.out]
      generalize w6.alloc (.cells #[.int .i64 o, .int .i64 q, .int .i64 y] 34) = w7 at *
      obtain ⟨a1, a2, a3⟩ := row3 Ha1.out
      obtain ⟨a4, a5, a6⟩ := row3 Ha2.out
      have f1 := Ha1.out.free 0
      have f2 := Ha1.out.free 1
      have f3 := Ha1.out.free 2
      have f4 := Ha2.out.free 0
      have f5 := Ha2.out.free 1
      have f6 := Ha2.out.free 2
      obtain ⟨n91, n92⟩ := Hn9.out
      obtain ⟨n81, n82⟩ := Hn8.out
      have nrs := Hrs.out.1
      have nsr : bs ≠ br := fun e => nrs e.symm
      have n91' : b9 ≠ br := fun e => n91 e.symm
      have n92' : b9 ≠ bs := fun e => n92 e.symm
      have n81' : b8 ≠ br := fun e => n81 e.symm
      have n82' : b8 ≠ bs := fun e => n82 e.symm
      clear Hb8 Hb9 Hn9 Hn8 Ha8 Ha9 e1 e2
      go_region
      all_goals
        go_wp2
        go_roundw
        case rel =>
          obtain ⟨r1, r2, r3⟩ := two_stored Ha1.out Ha2.out nrs Hb7.out Hrs.out.2.1 Hrs.out.2.2 (.int .i64 o) (.int .i64 q) (.int .i64 y)
          exact ⟨k + 1, o, q, y, by have := Hkl.out; omega, by go_num, Ht, Lib.hid r1, Lib.hid r2, Lib.hid r3⟩
        case measure => simp [intOf]; have := Hkl.out; omega
    · go_wp2
      go_ret
      exact ⟨rfl, hbel.out⟩
end Go.Proofs.Ytlimiiimgblggaa
