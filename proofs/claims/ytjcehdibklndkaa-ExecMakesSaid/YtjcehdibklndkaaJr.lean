/-
  The program's layer 14 (exec), by its walk: Run. Conditions: as the theorem's premises say.
-/
import Derived.Test.YtjcehdibklndkaaJe
import Derived.Test.YtjcehdibklndkaaJg
namespace Go.Proofs.Ytjcehdibklndkaa
open Go.RowKit

set_option maxHeartbeats 4000000 in
set_option maxRecDepth 100000 in
theorem jrun_any (D L : List Nat) (A : Option Addr) (c : Nat) (l : List Bm.StZ) (limit : Int) (lim : Nat) (w : World) (hD : D.length ≤ 1000000000) (hL : L.length ≤ 1000000000) (hl : l.length ≤ 1000000000) (hli : Bm.IntOk limit) (hlm : max limit 0 = (lim : Int)) (hlim : lim ≤ 1000000000)
    (hDlt : ∀ x ∈ D, x < 256) (hLlt : ∀ x ∈ L, x < 256) (hok : ZOk l) (hr : StzR w A l) :
    Calls Try.prog 7 #[.string (strOf D), .string (strOf L), .slice A l.length c, .int .i64 limit] w fun e w' => e = .returned (.tuple #[.string (strOf (Bm.ansZ D L l lim).1), .int .i64 ((Bm.ansZ D L l lim).2 : Int)]) ∧ Below w.heap.size w w' := by
  have hsD := strOf_size D
  have hsL := strOf_size L
  have Hlen := Lib.hid (jlen_any D.length L.length A c l lim w hD hL hl hlim hok hr)
  have Htxt := Lib.hid (fun N h w hr => jtext_any D L A c l lim N w hD hL hl hlim hDlt hLlt h hr)
  have Hr := Lib.hid hr
  have Hle := Lib.hid (fun N => Bm.lenZ_le (a := D.length) (lim := lim) (N := N) (l := l) (n := 0) (L := L.length))
  obtain ⟨hli0, hli1⟩ := hli
  by_cases h0 : (Bm.lenZ D.length lim 0 L.length l).2 = 0
  · have h1 := Bm.lenZ_two h0
    have hA : Bm.ansZ D L l lim = ((Bm.textZ D L l).drop D.length, 0) := by rw [Bm.ansZ, if_pos h0]
    rw [hA]
    have hN := (Hle.out _ h1).2
    have Htx := Lib.hid (Htxt.out _ h1)
    rw [h0] at Hlen
    clear hA h1 h0 Htxt Hle hDlt hLlt hok hr
    generalize (Bm.lenZ D.length lim 0 L.length l).1 = N at *
    have dN : decide ((N : Int) > 2147483647) = false := decide_eq_false (by omega)
    have dN2 : decide ((2147483647 : Int) < (N : Int)) = false := decide_eq_false (by omega)
    go_enter Try.func7, Try.ntmps7
    go_wp2_with fail
    refine Hlen.out.mono ?_
    rintro e w1 ⟨rfl, hb1⟩
    have Hb1 := Lib.hid hb1
    have Htx1 := Lib.hid (Htx.out w1 (Hr.out.below hb1))
    clear hb1 Htx Hlen
    go_wp2_with fail
    refine Htx1.out.mono ?_
    rintro e w2 ⟨rfl, hb2⟩
    have Hb2 := Lib.hid (Hb1.out.trans (hb2.mono Hb1.out.size))
    clear hb2 Hb1 Htx1
    go_wp2
    go_ret2
    exact ⟨rfl, Hb2.out⟩
  · have hA : Bm.ansZ D L l lim = ([], (Bm.lenZ D.length lim 0 L.length l).2) := by rw [Bm.ansZ, if_neg h0]
    rw [hA]
    have he := (Bm.lenZ_err (a := D.length) (lim := lim) l 0 L.length).resolve_left h0
    clear hA h0 Htxt Hle hDlt hLlt hok hr
    rcases he with he | he
    all_goals
      rw [he] at Hlen ⊢
      clear he
      go_enter Try.func7, Try.ntmps7
      go_wp2_with fail
      refine Hlen.out.mono ?_
      rintro e w1 ⟨rfl, hb1⟩
      have Hb1 := Lib.hid hb1
      clear hb1 Hlen
      go_wp2
      go_ret2
      exact ⟨rfl, Hb1.out⟩
end Go.Proofs.Ytjcehdibklndkaa
