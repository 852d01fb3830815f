/-
  The questions of layer 21 (epochs), by their walks: Text, Held, Last, All, and Hold, Let, of a Store or of nobody's. Conditions: as each theorem's premises say.
-/
import Derived.Test.YtdaobbhgmjdooaaIa
import Derived.RegionTactic
import Derived.ChangeAlike
namespace Go.Proofs.Ytdaobbhgmjdooaa
open Go.RowKit

/-- The text of an epoch, or none; how often it is held. -/
def txD (x : Int) (l : List Bm.Dic) : ByteArray := ((Bm.getD x l).map (·.t)).getD ⟨#[]⟩
def isD (x : Int) (l : List Bm.Dic) : Bool := (Bm.getD x l).isSome
def hdD (x : Int) (l : List Bm.Dic) : Nat := ((Bm.getD x l).map (·.h)).getD 0
/-- What find says: none, and nothing is found; or one of the Store's own. -/
theorem find_cases (p : Option Addr) (m : Nat) (l : List Bm.Dic) (x : Int) (w : World) (h : SP w p m l) :
    (Bm.getD x l = none ∧ (∀ f, Bm.upD f x l = l) ∧ Calls Try.prog 22 #[.pointer p, .int .i64 x] w fun e w' => e = .returned (.pointer none) ∧ ∃ q, w' = w.drewN q) ∨
    ∃ (b i : Nat) (hi : i < l.length), p = some ⟨b, 0, none⟩ ∧ SG w b m l ∧ Bm.getD x l = some l[i] ∧ (∀ f, Bm.upD f x l = l.set i ⟨l[i].e, l[i].t, f l[i].h⟩) ∧
      Calls Try.prog 22 #[.pointer p, .int .i64 x] w fun e w' => e = .returned (.pointer (some ⟨b, i * 3, none⟩)) ∧ ∃ q, w' = w.drewN q := by
  have hf := efind_any p m l x w h
  cases hi : Bm.fiD x l with
  | none =>
    rw [hi] at hf
    exact Or.inl ⟨(Bm.fiD_none hi).1, (Bm.fiD_none hi).2, hf⟩
  | some i =>
    obtain ⟨hil, h1, h2⟩ := Bm.fiD_some hi
    obtain ⟨b, rfl, hS⟩ := h.store (by omega)
    rw [hi] at hf
    exact Or.inr ⟨b, i, hil, rfl, hS, h1, h2, hf⟩

set_option maxHeartbeats 400000 in
set_option maxRecDepth 100000 in
theorem etext_any (p : Option Addr) (m : Nat) (l : List Bm.Dic) (x : Int) (w : World) (h : SP w p m l) :
    Calls Try.prog 13 #[.pointer p, .int .i64 x] w fun e w' => e = .returned (.tuple #[.string (txD x l), .bool (isD x l)]) ∧ ∃ q, w' = w.drewN q := by
  unfold txD isD
  rcases find_cases p m l x w h with ⟨hg, _, hf⟩ | ⟨b, i, hi, rfl, hS, hg, _, hf⟩
  · rw [hg]
    have Hf := Lib.hid hf
    clear hf hg h
    go_enter Try.func13, Try.ntmps13
    go_wp2_with fail
    refine Hf.out.mono ?_
    rintro e w1 ⟨rfl, q, rfl⟩
    go_wp2
    go_ret2
    exact ⟨rfl, _, rfl⟩
  · rw [hg]
    obtain ⟨c0, c1, c2⟩ := hS.cd i hi
    have Hf := Lib.hid hf
    clear hf hg h hS c0 c2
    generalize l[i] = d at *
    go_enter Try.func13, Try.ntmps13
    go_wp2_with fail
    refine Hf.out.mono ?_
    rintro e w1 ⟨rfl, q, rfl⟩
    go_wp2
    go_ret2
    exact ⟨rfl, _, rfl⟩
set_option maxHeartbeats 400000 in
set_option maxRecDepth 100000 in
theorem eheld_any (p : Option Addr) (m : Nat) (l : List Bm.Dic) (x : Int) (w : World) (h : SP w p m l) :
    Calls Try.prog 14 #[.pointer p, .int .i64 x] w fun e w' => e = .returned (.int .i64 (hdD x l : Int)) ∧ ∃ q, w' = w.drewN q := by
  unfold hdD
  rcases find_cases p m l x w h with ⟨hg, _, hf⟩ | ⟨b, i, hi, rfl, hS, hg, _, hf⟩
  · rw [hg]
    have Hf := Lib.hid hf
    clear hf hg h
    go_enter Try.func14, Try.ntmps14
    go_wp2_with fail
    refine Hf.out.mono ?_
    rintro e w1 ⟨rfl, q, rfl⟩
    go_wp2
    go_ret
    exact ⟨rfl, _, rfl⟩
  · rw [hg]
    obtain ⟨c0, c1, c2⟩ := hS.cd i hi
    have Hf := Lib.hid hf
    clear hf hg h hS c0 c1
    generalize l[i] = d at *
    go_enter Try.func14, Try.ntmps14
    go_wp2_with fail
    refine Hf.out.mono ?_
    rintro e w1 ⟨rfl, q, rfl⟩
    go_wp2
    go_ret
    exact ⟨rfl, _, rfl⟩
/-- What became of a Store by a call that may write into it. -/
def GP (w w' : World) (p : Option Addr) (m : Nat) (l : List Bm.Dic) : Prop := SP w' p m l ∧ w.grownBy w' (p.map (·.block))
theorem GP.same {w : World} {p : Option Addr} {m : Nat} {l : List Bm.Dic} (h : SP w p m l) (q : Nat) : GP w (w.drewN q) p m l := ⟨h.drewN q, grown_drewN (grown_refl _ _) q⟩
theorem SP.mono {w : World} {p : Option Addr} {m : Nat} {l : List Bm.Dic} (h : SP w p m l) {m' : Nat} (hm : m ≤ m') : SP w p m' l := h.imp id fun ⟨b, e, hr⟩ => ⟨b, e, hr.mono hm⟩
set_option maxHeartbeats 400000 in
set_option maxRecDepth 100000 in
theorem ehold_any (p : Option Addr) (m : Nat) (l : List Bm.Dic) (x : Int) (w : World) (hm : m ≤ 1000000000) (h : SP w p m l) :
    Calls Try.prog 11 #[.pointer p, .int .i64 x] w fun e w' => e = .returned (.bool (isD x l)) ∧ GP w w' p (m + 1) (Bm.upD (· + 1) x l) := by
  unfold isD
  rcases find_cases p m l x w h with ⟨hg, hu, hf⟩ | ⟨b, i, hi, rfl, hS, hg, hu, hf⟩
  · rw [hg, hu]
    have Hf := Lib.hid hf
    have H := Lib.hid (h.mono (Nat.le_succ m))
    clear hf hg h hu
    go_enter Try.func11, Try.ntmps11
    go_wp2_with fail
    refine Hf.out.mono ?_
    rintro e w1 ⟨rfl, q, rfl⟩
    go_wp2
    go_ret
    exact ⟨rfl, GP.same H.out _⟩
  · rw [hg, hu]
    obtain ⟨c0, c1, c2⟩ := hS.cd i hi
    have f2 := hS.fr (i * 3 + 2)
    obtain ⟨_, hb, _⟩ := hS.small.2 _ (List.getElem_mem hi)
    have Hset := Lib.hid ((hS.mono (Nat.le_succ m)).set_ i hi (l[i].h + 1) (by omega))
    have Hf := Lib.hid hf
    clear hf hg h hu hS c0 c1
    generalize l.set i ⟨l[i].e, l[i].t, l[i].h + 1⟩ = l2 at *
    generalize l[i].h = z at *
    rw [Int.natCast_add] at Hset
    go_enter Try.func11, Try.ntmps11
    go_wp2_with fail
    refine Hf.out.mono ?_
    rintro e w1 ⟨rfl, q, rfl⟩
    go_wp2
    go_ret
    exact ⟨rfl, Or.inr ⟨b, rfl, Hset.out.keep rfl⟩, grown_set (grown_drewN (grown_refl _ _) q) _ _⟩
set_option maxHeartbeats 400000 in
set_option maxRecDepth 100000 in
theorem elet_any (p : Option Addr) (m : Nat) (l : List Bm.Dic) (x : Int) (w : World) (hm : m ≤ 1000000000) (h : SP w p m l) :
    Calls Try.prog 12 #[.pointer p, .int .i64 x] w fun e w' => e = .returned (.bool (decide (0 < hdD x l))) ∧ GP w w' p m (Bm.upD (· - 1) x l) := by
  unfold hdD
  rcases find_cases p m l x w h with ⟨hg, hu, hf⟩ | ⟨b, i, hi, rfl, hS, hg, hu, hf⟩
  · rw [hg, hu]
    have Hf := Lib.hid hf
    have H := Lib.hid h
    clear hf hg h hu
    go_enter Try.func12, Try.ntmps12
    go_wp2_with fail
    refine Hf.out.mono ?_
    rintro e w1 ⟨rfl, q, rfl⟩
    go_wp2
    go_ret
    exact ⟨rfl, GP.same H.out _⟩
  · rw [hg, hu]
    obtain ⟨c0, c1, c2⟩ := hS.cd i hi
    have f2 := hS.fr (i * 3 + 2)
    obtain ⟨_, hb, _⟩ := hS.small.2 _ (List.getElem_mem hi)
    have Hset := Lib.hid (hS.set_ i hi (l[i].h - 1) (by omega))
    have Hf := Lib.hid hf
    have Hn : Hid (l[i].h = 0 → l.set i ⟨l[i].e, l[i].t, l[i].h - 1⟩ = l) := Lib.hid fun e => by
      have : (⟨l[i].e, l[i].t, l[i].h - 1⟩ : Bm.Dic) = l[i] := by rw [e]; show _ = (⟨l[i].e, l[i].t, l[i].h⟩ : Bm.Dic); rw [e]
      rw [this, List.set_getElem_self]
    have H := Lib.hid h
    clear hf hg h hu hS c0 c1
    generalize l.set i ⟨l[i].e, l[i].t, l[i].h - 1⟩ = l2 at *
    change Calls Try.prog 12 _ w fun e w' => e = .returned (.bool (decide (0 < l[i].h))) ∧ GP w w' _ m l2
    generalize l[i].h = z at *
    by_cases hz : z = 0
    · subst hz
      rw [Hn.out rfl] at *
      go_enter Try.func12, Try.ntmps12
      go_wp2_with fail
      refine Hf.out.mono ?_
      rintro e w1 ⟨rfl, q, rfl⟩
      go_wp2
      go_ret
      exact ⟨rfl, GP.same H.out _⟩
    · obtain ⟨y, rfl⟩ : ∃ y, z = y + 1 := ⟨z - 1, by omega⟩
      rw [Nat.add_sub_cancel] at Hset
      have hd : (((y : Int) + 1) == 0) = false := by rw [beq_eq_false_iff_ne]; omega
      have hd2 : decide (0 < y + 1) = true := decide_eq_true (by omega)
      rw [hd2]
      clear Hn H hz hd2
      rw [Int.natCast_add] at c2
      go_enter Try.func12, Try.ntmps12
      go_wp2_with fail
      refine Hf.out.mono ?_
      rintro e w1 ⟨rfl, q, rfl⟩
      go_wp2
      go_ret
      exact ⟨rfl, Or.inr ⟨b, rfl, Hset.out.keep rfl⟩, grown_set (grown_drewN (grown_refl _ _) q) _ _⟩
set_option maxHeartbeats 400000 in
set_option maxRecDepth 100000 in
theorem elast_any (p : Option Addr) (m : Nat) (l : List Bm.Dic) (w : World) (h : SP w p m l) :
    Calls Try.prog 15 #[.pointer p] w fun e w' => e = .returned (.int .i64 (Bm.lastD l : Int)) ∧ ∃ q, w' = w.drewN q := by
  have Hth := Lib.hid (ethere_any p m l w h)
  have h8 := h.small.1
  by_cases h0 : l.length = 0
  · obtain rfl : l = [] := List.eq_nil_of_length_eq_zero h0
    clear h0 h h8
    go_enter Try.func15, Try.ntmps15
    go_wp2_with fail
    refine Hth.out.mono ?_
    rintro e w1 ⟨rfl, q, rfl⟩
    go_wp2
    go_ret
    exact ⟨rfl, _, rfl⟩
  · obtain ⟨k, hk⟩ : ∃ k, k + 1 = l.length := ⟨l.length - 1, by omega⟩
    obtain ⟨b, rfl, hS⟩ := h.store (by omega)
    have c0 := (hS.cd k (by omega)).1
    have hl := Bm.lastD_get l k hk
    rw [← hl] at c0
    rw [← hk] at Hth h8
    clear h0 h hS hl hk
    generalize Bm.lastD l = z at *
    have hd : (((k : Int) + 1) == 0) = false := by rw [beq_eq_false_iff_ne]; omega
    go_enter Try.func15, Try.ntmps15
    go_wp2_with fail
    refine Hth.out.mono ?_
    rintro e w1 ⟨rfl, q, rfl⟩
    go_wp2
    go_ret
    exact ⟨rfl, _, rfl⟩
end Go.Proofs.Ytdaobbhgmjdooaa
