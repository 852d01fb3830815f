/-
  CursorReads (layer 3): the closure that reads a whole number; the law's state and the Reader's, an item beside them, and what each call makes of them. Conditions: as each theorem's premises say.
-/
import Derived.Test.YtibgddeggcabmaaCl
import Derived.Laws.EntriesVeiled
namespace Go.Proofs.Ytibgddeggcabmaa
open Go.RowKit

/-- The closure that reads a number in groups. -/
abbrev gfun (ps pb : Nat) : Value := .func (Fn.func 25) #[] #[.pointer (some ⟨ps, 0, none⟩), .pointer (some ⟨pb, 0, none⟩)]
set_option maxHeartbeats 1000000 in
theorem cwhole_any (most : Int) (st : Left) (ps pb pg : Nat) (w : World) (hm0 : -9223372036854775808 ≤ most) (hm1 : most ≤ 9223372036854775807) (h : LS w ps pb st) (hg : Row w pg 42 [gfun ps pb]) :
    Calls Try.prog 27 #[.int .i64 most, .pointer (some ⟨pg, 0, none⟩), .pointer (some ⟨pb, 0, none⟩)] w fun e w' => e = .returned (.int .i64 ((intS most st).1 : Int)) ∧ LS w' ps pb (intS most st).2 ∧ Two w w' ps pb := by
  have Hg := Lib.hid (cgroup_any st ps pb w h)
  have hok2 := ok_group h.ok
  have c0 := hg.cell 0
  simp only [List.getElem?_cons_zero] at c0
  unfold intS
  obtain ⟨v, st', hgs⟩ : ∃ v st', groupS st = (v, st') := ⟨_, _, rfl⟩
  rw [hgs] at Hg hok2 ⊢
  have hv := hok2.2
  clear hok2 hgs h hg
  rcases st' with _ | l
  · rw [if_pos (.inl rfl)]
    go_enter Try.func27, Try.ntmps27
    go_wp2_with fail
    refine Hg.out.mono ?_
    rintro e w1 ⟨rfl, hls, htw⟩
    obtain ⟨l1, d0, d1, g0, g1, _, _⟩ := hls.none_
    have Hend := Lib.hid (And.intro hls.up.1 (htw.trans hls.up.2))
    clear hls htw c0 d0 g0
    go_wp2
    go_ret
    exact ⟨rfl, Hend.out⟩
  · by_cases hneg : most < 0
    · rw [if_pos (.inr (.inl hneg))]
      go_enter Try.func27, Try.ntmps27
      go_wp2_with fail
      refine Hg.out.mono ?_
      rintro e w1 ⟨rfl, hls, htw⟩
      obtain ⟨d0, d1, g0, g1, _, _⟩ := hls.some_
      have Hend := Lib.hid (And.intro hls.up.1 (htw.trans hls.up.2))
      clear hls htw c0 d0 g0
      go_wp2
      go_ret
      exact ⟨rfl, Hend.out⟩
    · obtain ⟨m, rfl⟩ := Int.eq_ofNat_of_zero_le (show 0 ≤ most by omega)
      by_cases hgt : m < v
      · rw [if_pos (.inr (.inr (by show ((m : Nat) : Int) < ((v : Nat) : Int); omega)))]
        clear hv
        go_enter Try.func27, Try.ntmps27
        go_wp2_with fail
        refine Hg.out.mono ?_
        rintro e w1 ⟨rfl, hls, htw⟩
        obtain ⟨d0, d1, g0, g1, _, _⟩ := hls.some_
        have Hend := Lib.hid (And.intro hls.up.1 (htw.trans hls.up.2))
        clear hls htw c0 d0 g0
        go_wp2
        go_ret
        exact ⟨rfl, Hend.out⟩
      · rw [if_neg (by show ¬ (some l = none ∨ ((m : Nat) : Int) < 0 ∨ ((m : Nat) : Int) < ((v : Nat) : Int)); simp; omega)]
        have hvm : v ≤ m := by omega
        clear hv hgt
        go_enter Try.func27, Try.ntmps27
        go_wp2_with fail
        refine Hg.out.mono ?_
        rintro e w1 ⟨rfl, hls, htw⟩
        obtain ⟨d0, d1, g0, g1, _, _⟩ := hls.some_
        have Hend := Lib.hid (And.intro hls htw)
        clear hls htw c0 d0 g0
        go_wp2
        go_ret
        exact ⟨rfl, Hend.out⟩

/-- The law's state and the Reader's; what was there is there. -/
def JJ (w : World) (r ps pb pg : Nat) (W : World) (st1 st2 : Left) : Prop := LS W ps pb st1 ∧ CR W r st2 ∧ Row W pg 42 [gfun ps pb] ∧ Below w.heap.size w W ∧ w.heap.size ≤ ps ∧ ps < r ∧ r < pb ∧ pb < pg
/-- .. and an item in a block of its own. -/
def II (w : World) (r ps pb pg x : Nat) (it : Itm) (W : World) (st1 st2 : Left) : Prop := JJ w r ps pb pg W st1 st2 ∧ ItCells W x 0 it ∧ pg < x ∧ x < W.heap.size
section
variable {w W W' : World} {r ps pb pg x : Nat} {it : Itm} {st1 st2 st1' st2' : Left}
theorem it_keep (h : ItCells W x 0 it) (hl : W'.heap[x]? = W.heap[x]?) : ItCells W' x 0 it :=
  ⟨(World.cell?_of_block (a := ⟨x, 0, none⟩) hl).trans h.1, (World.cell?_of_block (a := ⟨x, 0 + 1, none⟩) hl).trans h.2.1, (World.cell?_of_block (a := ⟨x, 0 + 2, none⟩) hl).trans h.2.2.1, (World.cell?_of_block (a := ⟨x, 0 + 3, none⟩) hl).trans h.2.2.2⟩
theorem JJ.law (h : JJ w r ps pb pg W st1 st2) (hl : LS W' ps pb st1') (ht : Two W W' ps pb) : JJ w r ps pb pg W' st1' st2 := by
  obtain ⟨h1, h2, h3, h4, h5, h6, h7, h8⟩ := h
  exact ⟨hl, Row.keep h2 (ht.2.2.2.2 r (Row.lt h2) (by omega) (by omega)), h3.keep (ht.2.2.2.2 pg h3.lt (by omega) (by omega)), Two.toBelow h4 ht h5 (by omega), h5, h6, h7, h8⟩
theorem JJ.reader (h : JJ w r ps pb pg W st1 st2) (hc : CR W' r st2') (hg : W.grownBy W' (some r)) : JJ w r ps pb pg W' st1 st2' := by
  obtain ⟨h1, h2, h3, h4, h5, h6, h7, h8⟩ := h
  have hb : ∀ i, i < W.heap.size → i ≠ r → W'.heap[i]? = W.heap[i]? := fun i hi hn => hg.block i hi (fun e => by injection e with e; exact hn e)
  exact ⟨h1.keep (hb ps h1.lt.1 (by omega)) (hb pb h1.lt.2 (by omega)), hc, h3.keep (hb pg h3.lt (by omega)), h4.grown hg h4.size (fun k e => by injection e with e; omega), h5, h6, h7, h8⟩
theorem JJ.below (h : JJ w r ps pb pg W st1 st2) (hb : Below W.heap.size W W') : JJ w r ps pb pg W' st1 st2 := h.reader (CR.below h.2.1 hb) (grown_below hb _)
theorem II.law (h : II w r ps pb pg x it W st1 st2) (hl : LS W' ps pb st1') (ht : Two W W' ps pb) : II w r ps pb pg x it W' st1' st2 := by
  obtain ⟨h1, h2, h3, h4⟩ := h
  have h5 := h1.2.2.2.2
  exact ⟨h1.law hl ht, it_keep h2 (ht.2.2.2.2 x h4 (by omega) (by omega)), h3, Nat.lt_of_lt_of_le h4 ht.2.2.2.1⟩
theorem II.reader (h : II w r ps pb pg x it W st1 st2) (hc : CR W' r st2') (hg : W.grownBy W' (some r)) : II w r ps pb pg x it W' st1 st2' := by
  obtain ⟨h1, h2, h3, h4⟩ := h
  have h5 := h1.2.2.2.2
  exact ⟨h1.reader hc hg, it_keep h2 (hg.block x h4 (fun e => by injection e with e; omega)), h3, Nat.lt_of_lt_of_le h4 hg.size⟩
theorem II.below (h : II w r ps pb pg x it W st1 st2) (hb : Below W.heap.size W W') : II w r ps pb pg x it W' st1 st2 := h.reader (CR.below h.1.2.1 hb) (grown_below hb _)
theorem II.new (it : Itm) (h : JJ w r ps pb pg W st1 st2) :
    II w r ps pb pg W.heap.size it (W.alloc (.cells #[.int .u8 (it.1 : Int), .int .u64 (it.2.1 : Int), .int .i64 it.2.2.1, .string (strOf it.2.2.2)] 29)) st1 st2 := by
  have hr : Row (W.alloc (.cells #[.int .u8 (it.1 : Int), .int .u64 (it.2.1 : Int), .int .i64 it.2.2.1, .string (strOf it.2.2.2)] 29)) W.heap.size 29 [.int .u8 (it.1 : Int), .int .u64 (it.2.1 : Int), .int .i64 it.2.2.1, .string (strOf it.2.2.2)] := Row.new W _ _
  exact ⟨h.below ((Below.refl _ _).alloc (Nat.le_refl _) _), ⟨hr.cell 0, hr.cell 1, hr.cell 2, hr.cell 3⟩, h.2.2.1.lt, by simp⟩
theorem ii_raw (m : Nat) (h : II w r ps pb pg x it W st1 st2) :
    Calls Try.prog 24 #[.int .i64 (m : Int), .pointer (some ⟨pb, 0, none⟩), .pointer (some ⟨ps, 0, none⟩)] W fun e w' => e = .returned (.string (strOf (rawS m st1).1)) ∧ II w r ps pb pg x it w' (rawS m st1).2 st2 :=
  (craw_any m st1 ps pb W h.1.1).mono fun _ _ ⟨he, hl, ht⟩ => ⟨he, h.law hl ht⟩
theorem ii_group (h : II w r ps pb pg x it W st1 st2) :
    Calls Try.prog 25 #[.pointer (some ⟨ps, 0, none⟩), .pointer (some ⟨pb, 0, none⟩)] W fun e w' => e = .returned (.int .u64 ((groupS st1).1 : Int)) ∧ II w r ps pb pg x it w' (groupS st1).2 st2 :=
  (cgroup_any st1 ps pb W h.1.1).mono fun _ _ ⟨he, hl, ht⟩ => ⟨he, h.law hl ht⟩
theorem ii_whole (most : Int) (hm : -9223372036854775808 ≤ most ∧ most ≤ 9223372036854775807) (h : II w r ps pb pg x it W st1 st2) :
    Calls Try.prog 27 #[.int .i64 most, .pointer (some ⟨pg, 0, none⟩), .pointer (some ⟨pb, 0, none⟩)] W fun e w' => e = .returned (.int .i64 ((intS most st1).1 : Int)) ∧ II w r ps pb pg x it w' (intS most st1).2 st2 :=
  (cwhole_any most st1 ps pb pg W hm.1 hm.2 h.1.1 h.1.2.2.1).mono fun _ _ ⟨he, hl, ht⟩ => ⟨he, h.law hl ht⟩
theorem ii_rfixed (n : Int) (hn : -9223372036854775808 ≤ n ∧ n ≤ 9223372036854775807) (hok : OkL st2) (h : II w r ps pb pg x it W st1 st2) :
    Calls Try.prog 16 #[.pointer (some ⟨r, 0, none⟩), .int .i64 n] W fun e w' => e = .returned (.int .u64 (Bm.valB (rawS (fx n) st2).1 : Int)) ∧ II w r ps pb pg x it w' st1 (rawS (fx n) st2).2 :=
  (rfixed_any r st2 n W hn.1 hn.2 hok h.1.2.1).mono fun _ _ ⟨he, hl, ht⟩ => ⟨he, h.reader hl ht⟩
theorem ii_rgroup (hok : OkL st2) (h : II w r ps pb pg x it W st1 st2) :
    Calls Try.prog 18 #[.pointer (some ⟨r, 0, none⟩)] W fun e w' => e = .returned (.int .u64 ((groupS st2).1 : Int)) ∧ II w r ps pb pg x it w' st1 (groupS st2).2 :=
  (rgroup_any r st2 W hok h.1.2.1).mono fun _ _ ⟨he, hl, ht⟩ => ⟨he, h.reader hl ht⟩
theorem ii_rraw (n : Int) (h : II w r ps pb pg x it W st1 st2) :
    Calls Try.prog 19 #[.pointer (some ⟨r, 0, none⟩), .int .i64 n] W fun e w' => e = .returned (.string (strOf (rawS n.toNat st2).1)) ∧ II w r ps pb pg x it w' st1 (rawS n.toNat st2).2 :=
  (rraw_any r st2 n W h.1.2.1).mono fun _ _ ⟨he, hl, ht⟩ => ⟨he, h.reader hl ht⟩
theorem ii_rtext (n : Int) (hn : -9223372036854775808 ≤ n ∧ n ≤ 9223372036854775807) (hok : OkL st2) (h : II w r ps pb pg x it W st1 st2) :
    Calls Try.prog 20 #[.pointer (some ⟨r, 0, none⟩), .int .i64 n] W fun e w' => e = .returned (.string (strOf (textS n st2).1)) ∧ II w r ps pb pg x it w' st1 (textS n st2).2 :=
  (rtext_any r st2 n W hn.1 hn.2 hok h.1.2.1).mono fun _ _ ⟨he, hl, ht⟩ => ⟨he, h.reader hl ht⟩
theorem ii_rint (n : Int) (hn : -9223372036854775808 ≤ n ∧ n ≤ 9223372036854775807) (hok : OkL st2) (h : II w r ps pb pg x it W st1 st2) :
    Calls Try.prog 28 #[.pointer (some ⟨r, 0, none⟩), .int .i64 n] W fun e w' => e = .returned (.int .i64 ((intS n st2).1 : Int)) ∧ II w r ps pb pg x it w' st1 (intS n st2).2 :=
  (rint_any r st2 n W hn.1 hn.2 hok h.1.2.1).mono fun _ _ ⟨he, hl, ht⟩ => ⟨he, h.reader hl ht⟩
theorem ii_rrest (h : II w r ps pb pg x it W st1 st2) :
    Calls Try.prog 23 #[.pointer (some ⟨r, 0, none⟩)] W fun e w' => e = .returned (.string (strOf (restS st2).1)) ∧ II w r ps pb pg x it w' st1 (restS st2).2 :=
  (rrest_any r st2 W h.1.2.1).mono fun _ _ ⟨he, hl, ht⟩ => ⟨he, h.reader hl ht⟩
/-- The law's text: so long that reading all of it is reading the rest. -/
theorem LS.cur {st : Left} (h : LS W ps pb st) : ∃ (t : ByteArray) (m : Nat), W.cell? ⟨ps, 0, none⟩ = some (.string t) ∧ t.size = m ∧ m ≤ 60 ∧ rawS m st = restS st := by
  rcases st with _ | l
  · obtain ⟨l, c0, _, _, _, _, hl⟩ := h.none_
    exact ⟨strOf l, l.length, c0, strOf_size l, hl, rfl⟩
  · obtain ⟨c0, _, _, _, _, hl⟩ := h.some_
    exact ⟨strOf l, l.length, c0, strOf_size l, hl, by simp [rawS, restS]⟩
/-- The law's text is struck where the flag is up. -/
theorem JJ.strike (h : JJ w r ps pb pg W none st2) : JJ w r ps pb pg (W.setCell ⟨ps, 0, none⟩ (.string ⟨#[]⟩)) none st2 := by
  refine h.law (st1' := none) ?_ (Two.one (grown_set (grown_refl _ _) _ _))
  obtain ⟨l, bad, h1, h2, h3, hlt, hl, e⟩ := h.1
  cases bad
  · cases e
  · exact ⟨[], true, h1.set_ 0 (.string (strOf [])), h2.far (p := ⟨ps, 0, none⟩) (Ne.symm h3) _, h3, by simp, by simp, rfl⟩
end
end Go.Proofs.Ytibgddeggcabmaa
