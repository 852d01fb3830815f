/-
  CursorReads (layer 3): the law's own text and flag in memory, and its three closures, each by its walk. Conditions: as each theorem's premises say (up to sixty bytes).
-/
import Derived.Test.YtibgddeggcabmaaCk
import Derived.Test.YtibgddeggcabmaaCs
import Derived.Test.YtibgddeggcabmaaIt
namespace Go.Proofs.Ytibgddeggcabmaa
open Go.RowKit

/-- What is unlike between two worlds: two blocks, and new ones. -/
def Two (w w' : World) (p q : Nat) : Prop := w'.os = w.os ∧ w'.tape = w.tape ∧ w'.output = w.output ∧ w.heap.size ≤ w'.heap.size ∧ ∀ i, i < w.heap.size → i ≠ p → i ≠ q → w'.heap[i]? = w.heap[i]?
theorem Two.refl (w : World) (p q : Nat) : Two w w p q := ⟨rfl, rfl, rfl, Nat.le_refl _, fun _ _ _ _ => rfl⟩
theorem Two.trans {w w1 w2 : World} {p q : Nat} (h : Two w w1 p q) (h2 : Two w1 w2 p q) : Two w w2 p q :=
  ⟨h2.1.trans h.1, h2.2.1.trans h.2.1, h2.2.2.1.trans h.2.2.1, Nat.le_trans h.2.2.2.1 h2.2.2.2.1, fun i hi hp hq => (h2.2.2.2.2 i (Nat.lt_of_lt_of_le hi h.2.2.2.1) hp hq).trans (h.2.2.2.2 i hi hp hq)⟩
theorem Two.below {w w' : World} {p q : Nat} (h : Below w.heap.size w w') : Two w w' p q := ⟨h.os, h.tape, h.output, h.size, fun i hi _ _ => h.block i hi⟩
theorem Two.one {w w' : World} {p q : Nat} (h : w.grownBy w' (some p)) : Two w w' p q := ⟨h.os, h.tape, h.output, h.size, fun i hi hp _ => h.block i hi (fun e => by injection e with e; exact hp e)⟩
theorem Two.other {w w' : World} {p q : Nat} (h : w.grownBy w' (some q)) : Two w w' p q := ⟨h.os, h.tape, h.output, h.size, fun i hi _ hq => h.block i hi (fun e => by injection e with e; exact hq e)⟩
theorem Two.toBelow {w0 w w' : World} {p q : Nat} (hb : Below w0.heap.size w0 w) (h : Two w w' p q) (hp : w0.heap.size ≤ p) (hq : w0.heap.size ≤ q) : Below w0.heap.size w0 w' :=
  hb.trans ⟨h.1, h.2.1, h.2.2.1, h.2.2.2.1, fun i hi => h.2.2.2.2 i (Nat.lt_of_lt_of_le hi hb.size) (by omega) (by omega)⟩

/-- The law's text and flag: this is left of what is to be read. -/
def LS (w : World) (ps pb : Nat) (st : Left) : Prop := ∃ (l : List Nat) (bad : Bool), Row w ps 9 [.string (strOf l)] ∧ Row w pb 4 [.bool bad] ∧ ps ≠ pb ∧ (∀ x ∈ l, x < 256) ∧ l.length ≤ 60 ∧ st = if bad then none else some l
theorem LS.keep {w w' : World} {ps pb : Nat} {st : Left} (h : LS w ps pb st) (hs : w'.heap[ps]? = w.heap[ps]?) (hb : w'.heap[pb]? = w.heap[pb]?) : LS w' ps pb st := by
  obtain ⟨l, bad, h1, h2, h3⟩ := h
  exact ⟨l, bad, h1.keep hs, h2.keep hb, h3⟩
theorem LS.lt {w : World} {ps pb : Nat} {st : Left} (h : LS w ps pb st) : ps < w.heap.size ∧ pb < w.heap.size := by
  obtain ⟨l, bad, h1, h2, _⟩ := h
  exact ⟨h1.lt, h2.lt⟩
theorem LS.below {w w' : World} {ps pb : Nat} {st : Left} (h : LS w ps pb st) (hb : Below w.heap.size w w') : LS w' ps pb st := h.keep (hb.block ps h.lt.1) (hb.block pb h.lt.2)
theorem LS.ok {w : World} {ps pb : Nat} {st : Left} (h : LS w ps pb st) : OkL st := by
  obtain ⟨l, bad, _, _, _, hlt, hl, rfl⟩ := h
  cases bad
  · exact ⟨hlt, by omega⟩
  · trivial
/-- The flag is up. -/
theorem LS.up {w : World} {ps pb : Nat} {st : Left} (h : LS w ps pb st) : LS (w.setCell ⟨pb, 0, none⟩ (.bool true)) ps pb none ∧ Two w (w.setCell ⟨pb, 0, none⟩ (.bool true)) ps pb := by
  obtain ⟨l, bad, h1, h2, h3, hlt, hl, _⟩ := h
  exact ⟨⟨l, true, h1.far (p := ⟨pb, 0, none⟩) h3 _, h2.set_ 0 (.bool true), h3, hlt, hl, rfl⟩, Two.other (grown_set (grown_refl _ _) _ _)⟩
/-- The text goes on. -/
theorem LS.on {w : World} {ps pb : Nat} {l : List Nat} (h : LS w ps pb (some l)) (k : Nat) : LS (w.setCell ⟨ps, 0, none⟩ (.string (strOf (l.drop k)))) ps pb (some (l.drop k)) ∧ Two w (w.setCell ⟨ps, 0, none⟩ (.string (strOf (l.drop k)))) ps pb := by
  obtain ⟨l', bad, h1, h2, h3, hlt, hl, e⟩ := h
  cases bad
  · injection e with e
    subst e
    exact ⟨⟨l.drop k, false, h1.set_ 0 _, h2.far (p := ⟨ps, 0, none⟩) (Ne.symm h3) _, h3, drop_lt hlt _, by simp; omega, rfl⟩, Two.one (grown_set (grown_refl _ _) _ _)⟩
  · cases e
theorem LS.some_ {w : World} {ps pb : Nat} {l : List Nat} (h : LS w ps pb (some l)) : w.cell? ⟨ps, 0, none⟩ = some (.string (strOf l)) ∧ w.cell? ⟨pb, 0, none⟩ = some (.bool false) ∧ w.frozen? ⟨ps, 0, none⟩ = false ∧ w.frozen? ⟨pb, 0, none⟩ = false ∧ (∀ x ∈ l, x < 256) ∧ l.length ≤ 60 := by
  obtain ⟨l', bad, h1, h2, h3, hlt, hl, e⟩ := h
  cases bad
  · injection e with e
    subst e
    exact ⟨h1.cell 0, h2.cell 0, h1.free 0, h2.free 0, hlt, hl⟩
  · cases e
theorem LS.none_ {w : World} {ps pb : Nat} (h : LS w ps pb none) : ∃ l, w.cell? ⟨ps, 0, none⟩ = some (.string (strOf l)) ∧ w.cell? ⟨pb, 0, none⟩ = some (.bool true) ∧ w.frozen? ⟨ps, 0, none⟩ = false ∧ w.frozen? ⟨pb, 0, none⟩ = false ∧ (∀ x ∈ l, x < 256) ∧ l.length ≤ 60 := by
  obtain ⟨l', bad, h1, h2, h3, hlt, hl, e⟩ := h
  cases bad
  · cases e
  · exact ⟨l', h1.cell 0, h2.cell 0, h1.free 0, h2.free 0, hlt, hl⟩

set_option maxHeartbeats 400000 in
theorem craw_bad (n : Int) (ps pb : Nat) (w : World) (h : LS w ps pb none) :
    Calls Try.prog 24 #[.int .i64 n, .pointer (some ⟨pb, 0, none⟩), .pointer (some ⟨ps, 0, none⟩)] w fun e w' => e = .returned (.string (strOf [])) ∧ LS w' ps pb none ∧ Two w w' ps pb := by
  obtain ⟨l, c0, c1, f0, f1, _, _⟩ := h.none_
  have Hup := Lib.hid h.up
  clear h
  generalize strOf l = s at c0
  go_enter Try.func24, Try.ntmps24
  go_wp2
  go_ret
  exact ⟨rfl, Hup.out⟩
set_option maxHeartbeats 400000 in
theorem craw_some (m : Nat) (l : List Nat) (ps pb : Nat) (w : World) (hm : m ≤ l.length) (h : LS w ps pb (some l)) :
    Calls Try.prog 24 #[.int .i64 (m : Int), .pointer (some ⟨pb, 0, none⟩), .pointer (some ⟨ps, 0, none⟩)] w fun e w' => e = .returned (.string (strOf (l.take m))) ∧ LS w' ps pb (some (l.drop m)) ∧ Two w w' ps pb := by
  obtain ⟨c0, c1, f0, f1, hlt, hl⟩ := h.some_
  have Hon := Lib.hid (h.on m)
  have hsz := strOf_size l
  have hto := str_to l m hm
  have hfrom := str_from l m hm
  clear h hlt
  generalize strOf (l.take m) = s1 at hto ⊢
  generalize strOf (l.drop m) = s2 at hfrom Hon
  generalize strOf l = s at c0 hsz hto hfrom
  go_enter Try.func24, Try.ntmps24
  go_wp2
  go_ret
  exact ⟨rfl, Hon.out⟩
set_option maxHeartbeats 400000 in
theorem craw_more (m : Nat) (l : List Nat) (ps pb : Nat) (w : World) (hm : l.length < m) (h : LS w ps pb (some l)) :
    Calls Try.prog 24 #[.int .i64 (m : Int), .pointer (some ⟨pb, 0, none⟩), .pointer (some ⟨ps, 0, none⟩)] w fun e w' => e = .returned (.string (strOf [])) ∧ LS w' ps pb none ∧ Two w w' ps pb := by
  obtain ⟨c0, c1, f0, f1, hlt, hl⟩ := h.some_
  have Hup := Lib.hid h.up
  have hsz := strOf_size l
  clear h hlt
  generalize strOf l = s at c0 hsz
  go_enter Try.func24, Try.ntmps24
  go_wp2
  go_ret
  exact ⟨rfl, Hup.out⟩
theorem craw_any (m : Nat) (st : Left) (ps pb : Nat) (w : World) (h : LS w ps pb st) :
    Calls Try.prog 24 #[.int .i64 (m : Int), .pointer (some ⟨pb, 0, none⟩), .pointer (some ⟨ps, 0, none⟩)] w fun e w' => e = .returned (.string (strOf (rawS m st).1)) ∧ LS w' ps pb (rawS m st).2 ∧ Two w w' ps pb := by
  rcases st with _ | l
  · exact craw_bad _ ps pb w h
  · simp only [rawS]
    split
    · exact craw_some m l ps pb w (by assumption) h
    · exact craw_more m l ps pb w (by omega) h

set_option maxHeartbeats 400000 in
theorem cgroup_bad (ps pb : Nat) (w : World) (h : LS w ps pb none) :
    Calls Try.prog 25 #[.pointer (some ⟨ps, 0, none⟩), .pointer (some ⟨pb, 0, none⟩)] w fun e w' => e = .returned (.int .u64 0) ∧ LS w' ps pb none ∧ Two w w' ps pb := by
  obtain ⟨l, c0, c1, f0, f1, hlt, hl⟩ := h.none_
  have Hf := Lib.hid (ffirst_any l w (by omega) hlt)
  have Hk := Lib.hid (fun w1 (hb : Below w.heap.size w w1) => (h.below hb).none_)
  have Hup := Lib.hid (fun w1 (hb : Below w.heap.size w w1) => And.intro (h.below hb).up.1 ((Two.below (p := ps) (q := pb) hb).trans (h.below hb).up.2))
  clear h hlt
  obtain ⟨f1', f2, hF⟩ : ∃ a b, Bm.firstG l = (a, b) := ⟨_, _, rfl⟩
  rw [hF] at Hf
  clear hF
  generalize strOf l = s at c0 Hf
  go_enter Try.func25, Try.ntmps25
  go_wp2_with fail
  refine Hf.out.mono ?_
  rintro e w1 ⟨rfl, hb⟩
  obtain ⟨l1, d0, d1, g0, g1, _, _⟩ := Hk.out w1 hb
  have Hu := Lib.hid (Hup.out w1 hb)
  clear hb c0 c1 f0 f1 Hk Hup
  generalize strOf l1 = s1 at d0
  go_wp2
  go_ret
  exact ⟨rfl, Hu.out⟩
set_option maxHeartbeats 400000 in
theorem cgroup_none (l : List Nat) (ps pb : Nat) (w : World) (hn : (Bm.firstG l).2 = 0) (h : LS w ps pb (some l)) :
    Calls Try.prog 25 #[.pointer (some ⟨ps, 0, none⟩), .pointer (some ⟨pb, 0, none⟩)] w fun e w' => e = .returned (.int .u64 0) ∧ LS w' ps pb none ∧ Two w w' ps pb := by
  obtain ⟨c0, c1, f0, f1, hlt, hl⟩ := h.some_
  have Hf := Lib.hid (ffirst_any l w (by omega) hlt)
  have Hk := Lib.hid (fun w1 (hb : Below w.heap.size w w1) => (h.below hb).some_)
  have Hup := Lib.hid (fun w1 (hb : Below w.heap.size w w1) => And.intro (h.below hb).up.1 ((Two.below (p := ps) (q := pb) hb).trans (h.below hb).up.2))
  clear h hlt
  obtain ⟨f1', f2, hF⟩ : ∃ a b, Bm.firstG l = (a, b) := ⟨_, _, rfl⟩
  rw [hF] at Hf hn
  obtain rfl : f2 = 0 := hn
  clear hF
  generalize strOf l = s at c0 Hf
  go_enter Try.func25, Try.ntmps25
  go_wp2_with fail
  refine Hf.out.mono ?_
  rintro e w1 ⟨rfl, hb⟩
  obtain ⟨d0, d1, g0, g1, _, _⟩ := Hk.out w1 hb
  have Hu := Lib.hid (Hup.out w1 hb)
  clear hb c0 c1 f0 f1 Hk Hup
  go_wp2
  go_ret
  exact ⟨rfl, Hu.out⟩
set_option maxHeartbeats 400000 in
theorem cgroup_some (l : List Nat) (ps pb : Nat) (w : World) (hn : 0 < (Bm.firstG l).2) (h : LS w ps pb (some l)) :
    Calls Try.prog 25 #[.pointer (some ⟨ps, 0, none⟩), .pointer (some ⟨pb, 0, none⟩)] w fun e w' => e = .returned (.int .u64 ((Bm.firstG l).1 : Int)) ∧ LS w' ps pb (some (l.drop (Bm.firstG l).2)) ∧ Two w w' ps pb := by
  obtain ⟨c0, c1, f0, f1, hlt, hl⟩ := h.some_
  have Hf := Lib.hid (ffirst_any l w (by omega) hlt)
  have Hk := Lib.hid (fun w1 (hb : Below w.heap.size w w1) => (h.below hb).some_)
  obtain ⟨f1', f2, hF⟩ : ∃ a b, Bm.firstG l = (a, b) := ⟨_, _, rfl⟩
  have hle := (Bm.firstG_some l f1' f2 (by rw [hF] at hn; exact hn) hF).2.2
  have Hon := Lib.hid (fun w1 (hb : Below w.heap.size w w1) => And.intro ((h.below hb).on f2).1 ((Two.below (p := ps) (q := pb) hb).trans ((h.below hb).on f2).2))
  rw [hF] at Hf hn ⊢
  have hfrom := str_from l f2 hle
  have hsz := strOf_size l
  clear h hlt hF
  dsimp only at hn ⊢
  have hnb : ((f2 : Int) == 0) = false := by simp; omega
  generalize strOf (l.drop f2) = s2 at hfrom Hon
  generalize strOf l = s at c0 Hf hfrom Hk hsz
  go_enter Try.func25, Try.ntmps25
  go_wp2_with fail
  refine Hf.out.mono ?_
  rintro e w1 ⟨rfl, hb⟩
  obtain ⟨d0, d1, g0, g1, _, _⟩ := Hk.out w1 hb
  have Hu := Lib.hid (Hon.out w1 hb)
  clear hb c0 c1 f0 f1 Hk Hon
  go_wp2
  go_ret
  exact ⟨rfl, Hu.out⟩
theorem cgroup_any (st : Left) (ps pb : Nat) (w : World) (h : LS w ps pb st) :
    Calls Try.prog 25 #[.pointer (some ⟨ps, 0, none⟩), .pointer (some ⟨pb, 0, none⟩)] w fun e w' => e = .returned (.int .u64 ((groupS st).1 : Int)) ∧ LS w' ps pb (groupS st).2 ∧ Two w w' ps pb := by
  rcases st with _ | l
  · exact cgroup_bad ps pb w h
  · simp only [groupS]
    split
    · exact cgroup_some l ps pb w (by assumption) h
    · exact cgroup_none l ps pb w (by omega) h
end Go.Proofs.Ytibgddeggcabmaa
