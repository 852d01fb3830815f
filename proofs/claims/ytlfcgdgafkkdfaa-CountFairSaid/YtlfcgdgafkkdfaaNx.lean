/-
  CountFair (layer 5): the law's function by its walk: true for any numbers and any log. Premises: what Fair, Share and Symbols answer.
-/
import Derived.Test.YtlfcgdgafkkdfaaNk
namespace Go.Proofs.Ytlfcgdgafkkdfaa
open Go.RowKit

set_option maxHeartbeats 400000 in
theorem cfair_long (hsh : CShare) (hsy : CSymbols) (A : Option Addr) (n c : Nat) (log : Int) (w : World) (h : 300 < n) (hm : n ≤ 9223372036854775807) : Calls Try.prog 4 #[.slice A n c, .int .i64 log] w fun e w' => e = .returned (.bool true) ∧ Below w.heap.size w w' := by
  have Haw := Lib.hid (nawake_of hsh hsy)
  clear hsh hsy
  go_enter Try.func4, Try.ntmps4
  go_wp2_with fail
  refine (Haw.out w).mono ?_
  rintro e w1 ⟨rfl, hb1⟩
  have Hb1 := Lib.hid hb1
  clear hb1
  go_wp2
  go_ret
  exact ⟨rfl, Hb1.out⟩

set_option maxHeartbeats 400000 in
theorem cfair_short (hsh : CShare) (hsy : CSymbols) (hf : CFair) (A : Option Addr) (c : Nat) (l : List Int) (log : Int) (w : World) (h : l.length ≤ 300) (hok : ∀ x ∈ l, Bm.IntOk x) (hlog : Bm.IntOk log) (hr : Reads w A (i64z l)) :
    Calls Try.prog 4 #[.slice A l.length c, .int .i64 log] w fun e w' => e = .returned (.bool true) ∧ Below w.heap.size w w' := by
  have Haw := Lib.hid (nawake_of hsh hsy)
  have Hr := Lib.hid hr
  have H1 : Hid (∀ W, Below w.heap.size w W → Calls Try.prog 13 #[.slice A l.length c, .int .i64 log] W fun e w' => e = .returned (.bool (Bm.fairB l log)) ∧ Below W.heap.size W w') := Lib.hid (fun W hb => hf A c l log W (by omega) hok hlog (reads_on hr hb))
  have H2 : Hid (∀ W, Below w.heap.size w W → Calls Try.prog 14 #[.slice A l.length c, .int .i64 log] W fun e w' => e = .returned (.bool (Bm.fairB l log)) ∧ W = w') := Lib.hid (fun W hb => hfair_any A c l log W (by omega) (reads_on hr hb))
  clear hsh hsy hf hr hok hlog
  generalize Bm.fairB l log = r at H1 H2
  go_enter Try.func4, Try.ntmps4
  go_wp2_with fail
  refine (Haw.out w).mono ?_
  rintro e w1 ⟨rfl, hb1⟩
  have Hb1 := Lib.hid hb1
  clear hb1
  go_wp2_with fail
  refine (H1.out w1 Hb1.out).mono ?_
  rintro e w2 ⟨rfl, hb2⟩
  have Hb2 := Lib.hid (Hb1.out.trans (hb2.mono Hb1.out.size))
  clear hb2 Hb1
  go_wp2_with fail
  refine (H2.out w2 Hb2.out).mono ?_
  rintro e w' ⟨rfl, rfl⟩
  have hrr : (r == r) = true := by simp
  go_wp2
  go_ret
  exact ⟨rfl, Hb2.out⟩
end Go.Proofs.Ytlfcgdgafkkdfaa
