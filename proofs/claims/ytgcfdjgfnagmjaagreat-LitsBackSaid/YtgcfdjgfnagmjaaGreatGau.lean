/-
  What layer 10's calls (litcode) are to answer, as the laws' walks ask for it: definitions, each a premise of a law's walk. No condition.
  The reference of layer 15 (lits), by its walk: Decode. Conditions: as the theorem's premises say (up to a thousand bytes; at most so many literals, up to 100000, or below 0). (mkdr.py writes this text.)
  The reference of layer 15 (lits), by its walk: Decode, where all literals are one byte. Conditions: as each theorem's premises say (up to a thousand bytes). (mkdr.py writes this text.)
  The reference of layer 15 (lits), by its walk: Decode, where they are in code, and aren't there. Conditions: as each theorem's premises say (up to a thousand bytes). (mkdr.py writes this text.)
  The reference of layer 15 (lits), by its walk: Decode, where they are in code. Conditions: as each theorem's premises say (up to a thousand bytes). (mkdr.py writes this text.)
  The reference of layer 15 (lits), by its walk: Decode. Conditions: as the theorem's premises say (up to a thousand bytes; at most so many literals, up to 100000, or below 0).
-/
import Derived.Test.YtgcfdjgfnagmjaaGreatGap
import Derived.Test.YtgcfdjgfnagmjaaGreatGat
import Derived.Test.YtgcfdjgfnagmjaaGreatGac
import Derived.Test.YtgcfdjgfnagmjaaGreatGah
import Derived.Test.YtgcfdjgfnagmjaaGreatGae
namespace Go.Proofs.YtgcfdjgfnagmjaaGreat
open Go.RowKit

/-- Lengths as bytes. -/
def LTabOk : Prop := ∀ (w : World) (A : Option Addr) (c : Nat) (l : List Int), l.length ≤ 1000000000 → l.length ≤ c → (∀ x ∈ l, Bm.IntOk x) → Reads w A (i64z l) →
  Calls Tryz.prog 33 #[.slice A l.length c] w fun e w' => e = .returned (strV (if Bm.WholeI l then some (Bm.tableL (Bm.shortL (l.map Int.toNat))) else none)) ∧ Below w.heap.size w w'
/-- What Read answers. -/
def ReadP (w' : World) (b : Nat) (bs : List Nat) (e : Ending) : Option (List Nat × Nat) → Prop
  | none => ∃ A c, e = .returned (.tuple #[.slice A 0 c, .bool false])
  | some t => ∃ A c, e = .returned (.tuple #[.slice A t.1.length c, .bool true]) ∧ Reads w' A (i64s t.1) ∧ CR w' b (some (bs.drop t.2))
def LReadOk : Prop := ∀ (w : World) (b : Nat) (bs : List Nat), bs.length ≤ 10000 → (∀ x ∈ bs, x < 256) → CR w b (some bs) →
  Calls Tryz.prog 50 #[.pointer (some ⟨b, 0, none⟩)] w fun e w' => ReadP w' b bs e (Bm.readL bs) ∧ w.grownBy w' (some b)
/-- Bytes in code. -/
def LEncOk : Prop := ∀ (w : World) (A B : Option Addr) (c d : Nat) (l : List Int) (bs : List Nat), l.length ≤ 1000000000 → l.length ≤ c → (∀ x ∈ l, Bm.IntOk x) → bs.length ≤ 10000 → bs.length ≤ d → (∀ x ∈ bs, x < 256) → Reads w A (i64z l) → Reads w B (u8s bs) →
  Calls Tryz.prog 34 #[.slice A l.length c, .slice B bs.length d] w fun e w' => e = .returned (strV (if Bm.WholeI l then Bm.encT (l.map Int.toNat) bs else none)) ∧ Below w.heap.size w w'
def LDecOk : Prop := ∀ (w : World) (A : Option Addr) (c : Nat) (l : List Int) (s : List Nat) (n : Int), l.length ≤ 1000000000 → l.length ≤ c → (∀ x ∈ l, Bm.IntOk x) → s.length ≤ 1000 → (∀ x ∈ s, x < 256) → Bm.IntOk n → Reads w A (i64z l) →
  Calls Tryz.prog 52 #[.slice A l.length c, .string (strOf s), .int .i64 n] w fun e w' => BytesQ w' e (if Bm.WholeI l ∧ 0 ≤ n ∧ n ≤ 1048576 then Bm.decT (l.map Int.toNat) s n.toNat else none) ∧ Below w.heap.size w w'
end Go.Proofs.YtgcfdjgfnagmjaaGreat

namespace Go.Proofs.YtgcfdjgfnagmjaaGreat
open Go.RowKit
set_option linter.unusedVariables false

/-- What the reference's Decode answers. -/
def RefV15 : Option (List Nat × Nat) → Value
  | none => .tuple #[.string (strOf []), .int .i64 0]
  | some t => .tuple #[.string (strOf t.1), .int .i64 (t.2 : Int)]
theorem mid15 (l : List Nat) (i j : Nat) (h : i ≤ j) (h2 : j ≤ l.length) (W : World) : (Instr.slice 9 (.string (strOf l)) (some (.int .i64 (i : Int))) (some (.int .i64 (j : Int))) none).run Tryz.prog W = .ok (.string (strOf ((l.take j).drop i))) W := by
  rw [run_slice_string W 9 _ .i64 .i64 i j Tryz.underlying9 (by omega) (by omega) (by rw [strOf_size]; omega), Int.toNat_natCast, Int.toNat_natCast, strOf_extract]
theorem fill15 (n i x : Nat) (h : i < n) : (List.replicate i x ++ List.replicate (n - i) 0).set i x = List.replicate (i + 1) x ++ List.replicate (n - (i + 1)) 0 := by
  rw [List.set_append_right _ _ (by simp), List.length_replicate, Nat.sub_self, show n - i = (n - (i + 1)) + 1 by omega, List.replicate_succ, List.set_cons_zero, List.replicate_succ', List.append_assoc]
  rfl
set_option maxHeartbeats 2000000 in
set_option maxRecDepth 100000 in
theorem rdec_empty (most : Int) (w : World) : Calls Tryz.prog 7 #[.string (strOf []), .int .i64 most] w fun e w' => e = .returned (RefV15 none) ∧ Below w.heap.size w w' := by
  have hem := emptyS []
  rw [decide_eq_true rfl] at hem
  have Hs := Lib.hid (rfl : strOf [] = strOf [])
  generalize hs : strOf [] = s at hem
  clear hs Hs
  go_enter Tryz.func7, Tryz.ntmps7
  go_wp2
  go_ret2
  exact ⟨rfl, Below.refl _ _⟩
set_option maxHeartbeats 2000000 in
set_option maxRecDepth 100000 in
theorem rdec_a (s s1 : ByteArray) (L v sz : Nat) (w : World) (hem : s.toList.isEmpty = false) (hsz : s.size = L) (hL : L ≤ 2000)
    (hfrom : ∀ W : World, (Instr.slice 9 (.string s) (some (.int .i64 1)) none none).run Tryz.prog W = .ok (.string s1) W)
    (hff : ∀ W, Calls Tryz.prog 19 #[.string s1] W fun e W' => e = .returned (.tuple #[.int .u64 (v : Int), .int .i64 (sz : Int)]) ∧ Below W.heap.size W W') (most : Int) (h : sz = 0) :
    Calls Tryz.prog 7 #[.string s, .int .i64 most] w fun e w' => e = .returned (RefV15 (none)) ∧ Below w.heap.size w w' := by
  subst h
  have Hff := Lib.hid hff
  clear hff
  go_enter Tryz.func7, Tryz.ntmps7
  go_wp2_with fail
  refine (Hff.out _).mono ?_
  rintro e w1 ⟨rfl, hb1⟩
  have Hb1 := Lib.hid hb1
  clear hb1 Hff
  go_wp2
  go_ret2
  exact ⟨rfl, Hb1.out⟩
set_option maxHeartbeats 2000000 in
set_option maxRecDepth 100000 in
theorem rdec_b (s s1 : ByteArray) (L v sz : Nat) (w : World) (hem : s.toList.isEmpty = false) (hsz : s.size = L) (hL : L ≤ 2000)
    (hfrom : ∀ W : World, (Instr.slice 9 (.string s) (some (.int .i64 1)) none none).run Tryz.prog W = .ok (.string s1) W)
    (hff : ∀ W, Calls Tryz.prog 19 #[.string s1] W fun e W' => e = .returned (.tuple #[.int .u64 (v : Int), .int .i64 (sz : Int)]) ∧ Below W.heap.size W W') (most : Int) (h : 0 < sz) (h2 : most < 0) :
    Calls Tryz.prog 7 #[.string s, .int .i64 most] w fun e w' => e = .returned (RefV15 (none)) ∧ Below w.heap.size w w' := by
  have z0 : ((sz : Int) == 0) = false := by rw [beq_eq_false_iff_ne]; omega
  have d0 : decide (most < 0) = true := decide_eq_true h2
  clear h
  have Hff := Lib.hid hff
  clear hff
  go_enter Tryz.func7, Tryz.ntmps7
  go_wp2_with fail
  refine (Hff.out _).mono ?_
  rintro e w1 ⟨rfl, hb1⟩
  have Hb1 := Lib.hid hb1
  clear hb1 Hff
  go_wp2
  go_ret2
  exact ⟨rfl, Hb1.out⟩
set_option maxHeartbeats 2000000 in
set_option maxRecDepth 100000 in
theorem rdec_c (s s1 : ByteArray) (L v sz : Nat) (w : World) (hem : s.toList.isEmpty = false) (hsz : s.size = L) (hL : L ≤ 2000)
    (hfrom : ∀ W : World, (Instr.slice 9 (.string s) (some (.int .i64 1)) none none).run Tryz.prog W = .ok (.string s1) W)
    (hff : ∀ W, Calls Tryz.prog 19 #[.string s1] W fun e W' => e = .returned (.tuple #[.int .u64 (v : Int), .int .i64 (sz : Int)]) ∧ Below W.heap.size W W') (m : Nat) (hm : m ≤ 100000) (h : 0 < sz) (h2 : m < v) :
    Calls Tryz.prog 7 #[.string s, .int .i64 (m : Int)] w fun e w' => e = .returned (RefV15 (none)) ∧ Below w.heap.size w w' := by
  have z0 : ((sz : Int) == 0) = false := by rw [beq_eq_false_iff_ne]; omega
  have d0 : decide ((m : Int) < 0) = false := decide_eq_false (by omega)
  have d1 : decide ((m : Int) < (v : Int)) = true := decide_eq_true (by omega)
  have d1n : decide (m < v) = true := decide_eq_true h2
  clear h
  have Hff := Lib.hid hff
  clear hff
  go_enter Tryz.func7, Tryz.ntmps7
  go_wp2_with fail
  refine (Hff.out _).mono ?_
  rintro e w1 ⟨rfl, hb1⟩
  have Hb1 := Lib.hid hb1
  clear hb1 Hff
  go_wp2
  go_ret2
  exact ⟨rfl, Hb1.out⟩
set_option maxHeartbeats 2000000 in
set_option maxRecDepth 100000 in
theorem rdec_0y (s s1 : ByteArray) (L v sz : Nat) (w : World) (hem : s.toList.isEmpty = false) (hsz : s.size = L) (hL : L ≤ 2000)
    (hfrom : ∀ W : World, (Instr.slice 9 (.string s) (some (.int .i64 1)) none none).run Tryz.prog W = .ok (.string s1) W)
    (hff : ∀ W, Calls Tryz.prog 19 #[.string s1] W fun e W' => e = .returned (.tuple #[.int .u64 (v : Int), .int .i64 (sz : Int)]) ∧ Below W.heap.size W W')
    (m : Nat) (hm : m ≤ 100000) (h : 0 < sz) (h2 : v ≤ m) (p1 : Nat) (hp : p1 = 1 + sz) (hzL : p1 ≤ L) (hidx : ∀ W : World, (Instr.index 9 (.string s) (.int .i64 0)).run Tryz.prog W = .ok (.int .u8 0) W) (t : List Nat) (p2 : Nat) (hq : p2 = p1 + v) (hv : p2 ≤ L) (hmid : ∀ W : World, (Instr.slice 9 (.string s) (some (.int .i64 (p1 : Int))) (some (.int .i64 (p2 : Int))) none).run Tryz.prog W = .ok (.string (strOf t)) W) :
    Calls Tryz.prog 7 #[.string s, .int .i64 (m : Int)] w fun e w' => e = .returned (RefV15 (some (t, p2))) ∧ Below w.heap.size w w' := by
  have z0 : ((sz : Int) == 0) = false := by rw [beq_eq_false_iff_ne]; omega
  have d0 : decide ((m : Int) < 0) = false := decide_eq_false (by omega)
  have d1 : decide ((m : Int) < (v : Int)) = false := decide_eq_false (by omega)
  have d2 : decide ((1048576 : Int) < (v : Int)) = false := decide_eq_false (by omega)
  have d1n : decide (m < v) = false := decide_eq_false (by omega)
  have bv : v ≤ 100000 := by omega
  have hp1 : (1 : Int) + (sz : Int) = (p1 : Int) := by omega
  have b1 : p1 ≤ 2000 := by omega
  have d3 : decide ((L : Int) - (p1 : Int) < (v : Int)) = false := decide_eq_false (by omega)
  have hp2 : (p1 : Int) + (v : Int) = (p2 : Int) := by omega
  have b2 : p2 ≤ 2000 := by omega
  clear h hp hq hzL h2
  have Hff := Lib.hid hff
  clear hff
  go_enter Tryz.func7, Tryz.ntmps7
  go_wp2_with fail
  refine (Hff.out _).mono ?_
  rintro e w1 ⟨rfl, hb1⟩
  have Hb1 := Lib.hid hb1
  clear hb1 Hff
  go_wp2
  go_ret2
  exact ⟨rfl, Hb1.out⟩
set_option maxHeartbeats 2000000 in
set_option maxRecDepth 100000 in
theorem rdec_0n (s s1 : ByteArray) (L v sz : Nat) (w : World) (hem : s.toList.isEmpty = false) (hsz : s.size = L) (hL : L ≤ 2000)
    (hfrom : ∀ W : World, (Instr.slice 9 (.string s) (some (.int .i64 1)) none none).run Tryz.prog W = .ok (.string s1) W)
    (hff : ∀ W, Calls Tryz.prog 19 #[.string s1] W fun e W' => e = .returned (.tuple #[.int .u64 (v : Int), .int .i64 (sz : Int)]) ∧ Below W.heap.size W W')
    (m : Nat) (hm : m ≤ 100000) (h : 0 < sz) (h2 : v ≤ m) (p1 : Nat) (hp : p1 = 1 + sz) (hzL : p1 ≤ L) (hidx : ∀ W : World, (Instr.index 9 (.string s) (.int .i64 0)).run Tryz.prog W = .ok (.int .u8 0) W) (hv : L < p1 + v) :
    Calls Tryz.prog 7 #[.string s, .int .i64 (m : Int)] w fun e w' => e = .returned (RefV15 (none)) ∧ Below w.heap.size w w' := by
  have z0 : ((sz : Int) == 0) = false := by rw [beq_eq_false_iff_ne]; omega
  have d0 : decide ((m : Int) < 0) = false := decide_eq_false (by omega)
  have d1 : decide ((m : Int) < (v : Int)) = false := decide_eq_false (by omega)
  have d2 : decide ((1048576 : Int) < (v : Int)) = false := decide_eq_false (by omega)
  have d1n : decide (m < v) = false := decide_eq_false (by omega)
  have bv : v ≤ 100000 := by omega
  have hp1 : (1 : Int) + (sz : Int) = (p1 : Int) := by omega
  have b1 : p1 ≤ 2000 := by omega
  have d3 : decide ((L : Int) - (p1 : Int) < (v : Int)) = true := decide_eq_true (by omega)
  clear h hp hzL hv
  have Hff := Lib.hid hff
  clear hff
  go_enter Tryz.func7, Tryz.ntmps7
  go_wp2_with fail
  refine (Hff.out _).mono ?_
  rintro e w1 ⟨rfl, hb1⟩
  have Hb1 := Lib.hid hb1
  clear hb1 Hff
  go_wp2
  go_ret2
  exact ⟨rfl, Hb1.out⟩
set_option maxHeartbeats 2000000 in
set_option maxRecDepth 100000 in
theorem rdec_1n (s s1 : ByteArray) (L v sz : Nat) (w : World) (hem : s.toList.isEmpty = false) (hsz : s.size = L) (hL : L ≤ 2000)
    (hfrom : ∀ W : World, (Instr.slice 9 (.string s) (some (.int .i64 1)) none none).run Tryz.prog W = .ok (.string s1) W)
    (hff : ∀ W, Calls Tryz.prog 19 #[.string s1] W fun e W' => e = .returned (.tuple #[.int .u64 (v : Int), .int .i64 (sz : Int)]) ∧ Below W.heap.size W W')
    (m : Nat) (hm : m ≤ 100000) (h : 0 < sz) (h2 : v ≤ m) (p1 : Nat) (hp : p1 = 1 + sz) (hzL : p1 ≤ L) (hidx : ∀ W : World, (Instr.index 9 (.string s) (.int .i64 0)).run Tryz.prog W = .ok (.int .u8 1) W) (hv : L ≤ p1) :
    Calls Tryz.prog 7 #[.string s, .int .i64 (m : Int)] w fun e w' => e = .returned (RefV15 (none)) ∧ Below w.heap.size w w' := by
  have z0 : ((sz : Int) == 0) = false := by rw [beq_eq_false_iff_ne]; omega
  have d0 : decide ((m : Int) < 0) = false := decide_eq_false (by omega)
  have d1 : decide ((m : Int) < (v : Int)) = false := decide_eq_false (by omega)
  have d2 : decide ((1048576 : Int) < (v : Int)) = false := decide_eq_false (by omega)
  have d1n : decide (m < v) = false := decide_eq_false (by omega)
  have bv : v ≤ 100000 := by omega
  have hp1 : (1 : Int) + (sz : Int) = (p1 : Int) := by omega
  have b1 : p1 ≤ 2000 := by omega
  have d3 : decide ((L : Int) ≤ (p1 : Int)) = true := decide_eq_true (by omega)
  have d3n : decide (L ≤ p1) = true := decide_eq_true hv
  clear h hp hzL hv
  have Hff := Lib.hid hff
  clear hff
  go_enter Tryz.func7, Tryz.ntmps7
  go_wp2_with fail
  refine (Hff.out _).mono ?_
  rintro e w1 ⟨rfl, hb1⟩
  have Hb1 := Lib.hid hb1
  clear hb1 Hff
  go_wp2
  go_ret2
  exact ⟨rfl, Hb1.out⟩
set_option maxHeartbeats 2000000 in
set_option maxRecDepth 100000 in
theorem rdec_3 (s s1 : ByteArray) (L v sz : Nat) (w : World) (hem : s.toList.isEmpty = false) (hsz : s.size = L) (hL : L ≤ 2000)
    (hfrom : ∀ W : World, (Instr.slice 9 (.string s) (some (.int .i64 1)) none none).run Tryz.prog W = .ok (.string s1) W)
    (hff : ∀ W, Calls Tryz.prog 19 #[.string s1] W fun e W' => e = .returned (.tuple #[.int .u64 (v : Int), .int .i64 (sz : Int)]) ∧ Below W.heap.size W W') (m : Nat) (hm : m ≤ 100000) (h : 0 < sz) (h2 : v ≤ m) (p1 : Nat) (hp : p1 = 1 + sz) (hzL : p1 ≤ L) (k : Nat) (hk : 2 < k) (hk2 : k < 256) (hidx : ∀ W : World, (Instr.index 9 (.string s) (.int .i64 0)).run Tryz.prog W = .ok (.int .u8 (k : Int)) W) :
    Calls Tryz.prog 7 #[.string s, .int .i64 (m : Int)] w fun e w' => e = .returned (RefV15 (none)) ∧ Below w.heap.size w w' := by
  have z0 : ((sz : Int) == 0) = false := by rw [beq_eq_false_iff_ne]; omega
  have d0 : decide ((m : Int) < 0) = false := decide_eq_false (by omega)
  have d1 : decide ((m : Int) < (v : Int)) = false := decide_eq_false (by omega)
  have d2 : decide ((1048576 : Int) < (v : Int)) = false := decide_eq_false (by omega)
  have d1n : decide (m < v) = false := decide_eq_false (by omega)
  have bv : v ≤ 100000 := by omega
  have hp1 : (1 : Int) + (sz : Int) = (p1 : Int) := by omega
  have b1 : p1 ≤ 2000 := by omega
  have k0 : ((k : Int) == 0) = false := by rw [beq_eq_false_iff_ne]; omega
  have k1 : ((k : Int) == 1) = false := by rw [beq_eq_false_iff_ne]; omega
  have k2 : ((k : Int) == 2) = false := by rw [beq_eq_false_iff_ne]; omega
  clear h hp hzL hk
  have Hff := Lib.hid hff
  clear hff
  go_enter Tryz.func7, Tryz.ntmps7
  go_wp2_with fail
  refine (Hff.out _).mono ?_
  rintro e w1 ⟨rfl, hb1⟩
  have Hb1 := Lib.hid hb1
  clear hb1 Hff
  go_wp2
  go_ret2
  exact ⟨rfl, Hb1.out⟩
end Go.Proofs.YtgcfdjgfnagmjaaGreat

namespace Go.Proofs.YtgcfdjgfnagmjaaGreat
open Go.RowKit
set_option linter.unusedVariables false

set_option maxHeartbeats 2000000 in
set_option maxRecDepth 100000 in
theorem rdec_1y (s s1 : ByteArray) (L v sz : Nat) (w : World) (hem : s.toList.isEmpty = false) (hsz : s.size = L) (hL : L ≤ 2000)
    (hfrom : ∀ W : World, (Instr.slice 9 (.string s) (some (.int .i64 1)) none none).run Tryz.prog W = .ok (.string s1) W)
    (hff : ∀ W, Calls Tryz.prog 19 #[.string s1] W fun e W' => e = .returned (.tuple #[.int .u64 (v : Int), .int .i64 (sz : Int)]) ∧ Below W.heap.size W W')
    (m : Nat) (hm : m ≤ 100000) (h : 0 < sz) (h2 : v ≤ m) (p1 : Nat) (hp : p1 = 1 + sz) (hzL : p1 ≤ L) (hidx : ∀ W : World, (Instr.index 9 (.string s) (.int .i64 0)).run Tryz.prog W = .ok (.int .u8 1) W) (x : Nat) (hx : x < 256) (p2 : Nat) (hq : p2 = p1 + 1) (hv : p1 < L) (hat : ∀ W : World, (Instr.index 9 (.string s) (.int .i64 (p1 : Int))).run Tryz.prog W = .ok (.int .u8 (x : Int)) W) :
    Calls Tryz.prog 7 #[.string s, .int .i64 (m : Int)] w fun e w' => e = .returned (RefV15 (some (List.replicate v x, p2))) ∧ Below w.heap.size w w' := by
  have z0 : ((sz : Int) == 0) = false := by rw [beq_eq_false_iff_ne]; omega
  have d0 : decide ((m : Int) < 0) = false := decide_eq_false (by omega)
  have d1 : decide ((m : Int) < (v : Int)) = false := decide_eq_false (by omega)
  have d2 : decide ((1048576 : Int) < (v : Int)) = false := decide_eq_false (by omega)
  have d1n : decide (m < v) = false := decide_eq_false (by omega)
  have bv : v ≤ 100000 := by omega
  have hp1 : (1 : Int) + (sz : Int) = (p1 : Int) := by omega
  have b1 : p1 ≤ 2000 := by omega
  have d3 : decide ((L : Int) ≤ (p1 : Int)) = false := decide_eq_false (by omega)
  have d3n : decide (L ≤ p1) = false := decide_eq_false (by omega)
  obtain ⟨i0, hi, hz0, hz1, hz2⟩ := info_parts info_u8
  obtain ⟨res, hres⟩ : ∃ r, r = strOf (List.replicate v x) := ⟨_, rfl⟩
  unfold RefV15
  dsimp only
  rw [← hres]
  have Hres := Lib.hid hres
  have hp2 : (p1 : Int) + 1 = (p2 : Int) := by omega
  have b2 : p2 ≤ 2001 := by omega
  clear h hp hzL hv hres h2 hq
  have Hff := Lib.hid hff
  clear hff
  go_enter Tryz.func7, Tryz.ntmps7
  go_wp2_with fail
  refine (Hff.out _).mono ?_
  rintro e w1 ⟨rfl, hb1⟩
  have Hb1 := Lib.hid hb1
  clear hb1 Hff
  go_wp2_with (at_make; refine wpList_make_full _ rfl _ _ 35 rfl w1.heap.size 5 i0 (.int .u8 0) 1 Tryz.underlying35 hi hz0 hz1 .i64 .i64 _ _ v rfl rfl ?c1 ?c1 ?c2 ?c3 ?c4 ?_)
  case c1 => rfl
  case c2 => rw [hz2]; omega
  case c3 => unfold maxLen; omega
  case c4 => exact Nat.le_refl _
  intro w2 hown2 hg2
  have hb2 := below_of_grown hg2
  have hr2 : Row w2 w1.heap.size 5 (u8s (List.replicate v 0)) := row_of_own hown2
  have hsz1 := Hb1.out.size
  have Hb2 := Lib.hid (Hb1.out.trans (hb2.mono Hb1.out.size))
  have Hr2 := Lib.hid hr2
  clear hown2 hg2 hb2 hr2 hi hz0 hz1 hz2 Hb1
  generalize w1.heap.size = g at *
  go_wp2
  go_loopw [11] (fun iv wr => ∃ i : Nat, i ≤ v ∧ iv = .int .i64 (i : Int) ∧ Hid (Row wr g 5 (u8s (List.replicate i x ++ List.replicate (v - i) 0))) ∧ Hid (Below w.heap.size w wr)) (fun iv _ => v - (intOf iv).toNat)
  case atStart => exact ⟨0, Nat.zero_le _, rfl, by rw [Nat.sub_zero]; exact Hr2, Hb2⟩
  case round =>
    obtain ⟨i, hiv, rfl, hrow, hbel⟩ := hrel
    clear Hb2 Hr2
    by_cases hlt : i < v
    · have hcell := hrow.out.cell i
      have hfree := hrow.out.free i
      have hgl := hrow.out.lt
      have hle : i < (List.replicate i x ++ List.replicate (v - i) 0).length := by simp; omega
      rw [u8s_get? _ _ hle] at hcell
      have Hset := Lib.hid (hrow.out.set_ i (.int .u8 (x : Int)))
      have HbS := Lib.hid (hbel.out.setCell (p := ⟨g, i, none⟩) hsz1 (.int .u8 (x : Int)))
      generalize (List.replicate i x ++ List.replicate (v - i) 0)[i] = old at hcell
      clear hrow hbel hle
      go_wp2
      go_roundw
      case rel => exact ⟨i + 1, by omega, by go_num, Lib.hid (by have := Hset.out; rw [u8s_set, fill15 v i x hlt] at this; exact this), HbS⟩
      case measure => simp [intOf]; omega
    · obtain rfl : i = v := by omega
      have hconv := conv_row (m := i) (c := i) hrow.out (by simp) (fun y hy => by
        rcases List.mem_append.1 hy with hy | hy
        · rw [(List.mem_replicate.1 hy).2]; exact hx
        · rw [(List.mem_replicate.1 hy).2]; decide)
      rw [List.take_append_of_le_length (by simp), List.take_of_length_le (by simp), ← Hres.out] at hconv
      clear hrow
      go_wp2
      go_ret2
      exact ⟨rfl, hbel.out⟩
end Go.Proofs.YtgcfdjgfnagmjaaGreat

namespace Go.Proofs.YtgcfdjgfnagmjaaGreat
open Go.RowKit
set_option linter.unusedVariables false

set_option maxHeartbeats 2000000 in
set_option maxRecDepth 100000 in
theorem rdec_2a (s s1 : ByteArray) (L v sz : Nat) (w : World) (hem : s.toList.isEmpty = false) (hsz : s.size = L) (hL : L ≤ 2000)
    (hfrom : ∀ W : World, (Instr.slice 9 (.string s) (some (.int .i64 1)) none none).run Tryz.prog W = .ok (.string s1) W)
    (hff : ∀ W, Calls Tryz.prog 19 #[.string s1] W fun e W' => e = .returned (.tuple #[.int .u64 (v : Int), .int .i64 (sz : Int)]) ∧ Below W.heap.size W W')
    (m : Nat) (hm : m ≤ 100000) (h : 0 < sz) (h2 : v ≤ m) (p1 : Nat) (hp : p1 = 1 + sz) (hzL : p1 ≤ L) (hidx : ∀ W : World, (Instr.index 9 (.string s) (.int .i64 0)).run Tryz.prog W = .ok (.int .u8 2) W) (s2 : ByteArray) (h2f : ∀ W : World, (Instr.slice 9 (.string s) (some (.int .i64 (p1 : Int))) none none).run Tryz.prog W = .ok (.string s2) W) (hrd : ∀ W, Calls Tryz.prog 20 #[.string s2] W fun e W' => e = .returned (.tuple #[.slice none 0 0, .int .i64 0]) ∧ Below W.heap.size W W') :
    Calls Tryz.prog 7 #[.string s, .int .i64 (m : Int)] w fun e w' => e = .returned (RefV15 (none)) ∧ Below w.heap.size w w' := by
  have z0 : ((sz : Int) == 0) = false := by rw [beq_eq_false_iff_ne]; omega
  have d0 : decide ((m : Int) < 0) = false := decide_eq_false (by omega)
  have d1 : decide ((m : Int) < (v : Int)) = false := decide_eq_false (by omega)
  have d2 : decide ((1048576 : Int) < (v : Int)) = false := decide_eq_false (by omega)
  have d1n : decide (m < v) = false := decide_eq_false (by omega)
  have bv : v ≤ 100000 := by omega
  have hp1 : (1 : Int) + (sz : Int) = (p1 : Int) := by omega
  have b1 : p1 ≤ 2000 := by omega
  have Hrd := Lib.hid hrd
  clear h hp hzL h2 hrd
  have Hff := Lib.hid hff
  clear hff
  go_enter Tryz.func7, Tryz.ntmps7
  go_wp2_with fail
  refine (Hff.out _).mono ?_
  rintro e w1 ⟨rfl, hb1⟩
  have Hb1 := Lib.hid hb1
  clear hb1 Hff
  go_wp2_with fail
  refine (Hrd.out _).mono ?_
  rintro e w2 ⟨rfl, hb2⟩
  have Hb2 := Lib.hid (Hb1.out.trans (hb2.mono Hb1.out.size))
  clear hb2 Hb1 Hrd
  go_wp2
  go_ret2
  exact ⟨rfl, Hb2.out⟩
set_option maxHeartbeats 2000000 in
set_option maxRecDepth 100000 in
theorem rdec_2b (s s1 : ByteArray) (L v sz : Nat) (w : World) (hem : s.toList.isEmpty = false) (hsz : s.size = L) (hL : L ≤ 2000)
    (hfrom : ∀ W : World, (Instr.slice 9 (.string s) (some (.int .i64 1)) none none).run Tryz.prog W = .ok (.string s1) W)
    (hff : ∀ W, Calls Tryz.prog 19 #[.string s1] W fun e W' => e = .returned (.tuple #[.int .u64 (v : Int), .int .i64 (sz : Int)]) ∧ Below W.heap.size W W')
    (m : Nat) (hm : m ≤ 100000) (h : 0 < sz) (h2 : v ≤ m) (p1 : Nat) (hp : p1 = 1 + sz) (hzL : p1 ≤ L) (hidx : ∀ W : World, (Instr.index 9 (.string s) (.int .i64 0)).run Tryz.prog W = .ok (.int .u8 2) W) (s2 : ByteArray) (h2f : ∀ W : World, (Instr.slice 9 (.string s) (some (.int .i64 (p1 : Int))) none none).run Tryz.prog W = .ok (.string s2) W) (ls : List Nat) (z : Nat) (hz : 0 < z) (p2 : Nat) (hq : p2 = p1 + z) (hzz : p2 ≤ L) (hrd : ∀ W, Calls Tryz.prog 20 #[.string s2] W fun e W' => (∃ A c, e = .returned (.tuple #[.slice A ls.length c, .int .i64 (z : Int)]) ∧ Reads W' A (i64s ls)) ∧ Below W.heap.size W W')
    (s3 : ByteArray) (h3f : ∀ W : World, (Instr.slice 9 (.string s) (some (.int .i64 (p2 : Int))) none none).run Tryz.prog W = .ok (.string s3) W)
    (v2 sz2 : Nat) (hff2 : ∀ W, Calls Tryz.prog 19 #[.string s3] W fun e W' => e = .returned (.tuple #[.int .u64 (v2 : Int), .int .i64 (sz2 : Int)]) ∧ Below W.heap.size W W') (hno : sz2 = 0) :
    Calls Tryz.prog 7 #[.string s, .int .i64 (m : Int)] w fun e w' => e = .returned (RefV15 (none)) ∧ Below w.heap.size w w' := by
  have z0 : ((sz : Int) == 0) = false := by rw [beq_eq_false_iff_ne]; omega
  have d0 : decide ((m : Int) < 0) = false := decide_eq_false (by omega)
  have d1 : decide ((m : Int) < (v : Int)) = false := decide_eq_false (by omega)
  have d2 : decide ((1048576 : Int) < (v : Int)) = false := decide_eq_false (by omega)
  have d1n : decide (m < v) = false := decide_eq_false (by omega)
  have bv : v ≤ 100000 := by omega
  have hp1 : (1 : Int) + (sz : Int) = (p1 : Int) := by omega
  have b1 : p1 ≤ 2000 := by omega
  have Hrd := Lib.hid hrd
  have Hff2 := Lib.hid hff2
  have zz : ((z : Int) == 0) = false := by rw [beq_eq_false_iff_ne]; omega
  have hp2 : (p1 : Int) + (z : Int) = (p2 : Int) := by omega
  have b2 : p2 ≤ 2000 := by omega
  clear hrd hff2
  subst hno
  clear h hp hzL h2 hz hq
  have Hff := Lib.hid hff
  clear hff
  go_enter Tryz.func7, Tryz.ntmps7
  go_wp2_with fail
  refine (Hff.out _).mono ?_
  rintro e w1 ⟨rfl, hb1⟩
  have Hb1 := Lib.hid hb1
  clear hb1 Hff
  go_wp2_with fail
  refine (Hrd.out _).mono ?_
  rintro e w2 ⟨⟨A, c, rfl, hra⟩, hb2⟩
  have Hb2 := Lib.hid (Hb1.out.trans (hb2.mono Hb1.out.size))
  have Hra := Lib.hid hra
  clear hb2 Hb1 Hrd hra
  go_wp2_with fail
  refine (Hff2.out _).mono ?_
  rintro e w3 ⟨rfl, hb3⟩
  have Hb3 := Lib.hid (Hb2.out.trans (hb3.mono Hb2.out.size))
  have Hra3 := Lib.hid (reads_on Hra.out hb3)
  clear hb3 Hb2 Hff2 Hra
  clear Hra3
  go_wp2
  go_ret2
  exact ⟨rfl, Hb3.out⟩
set_option maxHeartbeats 2000000 in
set_option maxRecDepth 100000 in
theorem rdec_2c (s s1 : ByteArray) (L v sz : Nat) (w : World) (hem : s.toList.isEmpty = false) (hsz : s.size = L) (hL : L ≤ 2000)
    (hfrom : ∀ W : World, (Instr.slice 9 (.string s) (some (.int .i64 1)) none none).run Tryz.prog W = .ok (.string s1) W)
    (hff : ∀ W, Calls Tryz.prog 19 #[.string s1] W fun e W' => e = .returned (.tuple #[.int .u64 (v : Int), .int .i64 (sz : Int)]) ∧ Below W.heap.size W W')
    (m : Nat) (hm : m ≤ 100000) (h : 0 < sz) (h2 : v ≤ m) (p1 : Nat) (hp : p1 = 1 + sz) (hzL : p1 ≤ L) (hidx : ∀ W : World, (Instr.index 9 (.string s) (.int .i64 0)).run Tryz.prog W = .ok (.int .u8 2) W) (s2 : ByteArray) (h2f : ∀ W : World, (Instr.slice 9 (.string s) (some (.int .i64 (p1 : Int))) none none).run Tryz.prog W = .ok (.string s2) W) (ls : List Nat) (z : Nat) (hz : 0 < z) (p2 : Nat) (hq : p2 = p1 + z) (hzz : p2 ≤ L) (hrd : ∀ W, Calls Tryz.prog 20 #[.string s2] W fun e W' => (∃ A c, e = .returned (.tuple #[.slice A ls.length c, .int .i64 (z : Int)]) ∧ Reads W' A (i64s ls)) ∧ Below W.heap.size W W')
    (s3 : ByteArray) (h3f : ∀ W : World, (Instr.slice 9 (.string s) (some (.int .i64 (p2 : Int))) none none).run Tryz.prog W = .ok (.string s3) W)
    (v2 sz2 : Nat) (hff2 : ∀ W, Calls Tryz.prog 19 #[.string s3] W fun e W' => e = .returned (.tuple #[.int .u64 (v2 : Int), .int .i64 (sz2 : Int)]) ∧ Below W.heap.size W W') (hsz2 : 0 < sz2) (hs2 : p2 + sz2 ≤ L) (hno : L - p2 - sz2 < v2) :
    Calls Tryz.prog 7 #[.string s, .int .i64 (m : Int)] w fun e w' => e = .returned (RefV15 (none)) ∧ Below w.heap.size w w' := by
  have z0 : ((sz : Int) == 0) = false := by rw [beq_eq_false_iff_ne]; omega
  have d0 : decide ((m : Int) < 0) = false := decide_eq_false (by omega)
  have d1 : decide ((m : Int) < (v : Int)) = false := decide_eq_false (by omega)
  have d2 : decide ((1048576 : Int) < (v : Int)) = false := decide_eq_false (by omega)
  have d1n : decide (m < v) = false := decide_eq_false (by omega)
  have bv : v ≤ 100000 := by omega
  have hp1 : (1 : Int) + (sz : Int) = (p1 : Int) := by omega
  have b1 : p1 ≤ 2000 := by omega
  have Hrd := Lib.hid hrd
  have Hff2 := Lib.hid hff2
  have zz : ((z : Int) == 0) = false := by rw [beq_eq_false_iff_ne]; omega
  have hp2 : (p1 : Int) + (z : Int) = (p2 : Int) := by omega
  have b2 : p2 ≤ 2000 := by omega
  clear hrd hff2
  have zz2 : ((sz2 : Int) == 0) = false := by rw [beq_eq_false_iff_ne]; omega
  obtain ⟨q, hqq⟩ : ∃ q, q = L - p2 - sz2 := ⟨_, rfl⟩
  have hqi : (L : Int) - (p2 : Int) - (sz2 : Int) = (q : Int) := by omega
  have dq : decide ((q : Int) < (v2 : Int)) = true := decide_eq_true (by omega)
  have dqn : decide (q < v2) = true := decide_eq_true (by omega)
  have bq : q ≤ 2000 := by omega
  clear h hp hzL h2 hz hq hno hqq
  have Hff := Lib.hid hff
  clear hff
  go_enter Tryz.func7, Tryz.ntmps7
  go_wp2_with fail
  refine (Hff.out _).mono ?_
  rintro e w1 ⟨rfl, hb1⟩
  have Hb1 := Lib.hid hb1
  clear hb1 Hff
  go_wp2_with fail
  refine (Hrd.out _).mono ?_
  rintro e w2 ⟨⟨A, c, rfl, hra⟩, hb2⟩
  have Hb2 := Lib.hid (Hb1.out.trans (hb2.mono Hb1.out.size))
  have Hra := Lib.hid hra
  clear hb2 Hb1 Hrd hra
  go_wp2_with fail
  refine (Hff2.out _).mono ?_
  rintro e w3 ⟨rfl, hb3⟩
  have Hb3 := Lib.hid (Hb2.out.trans (hb3.mono Hb2.out.size))
  have Hra3 := Lib.hid (reads_on Hra.out hb3)
  clear hb3 Hb2 Hff2 Hra
  clear Hra3
  go_wp2
  go_ret2
  exact ⟨rfl, Hb3.out⟩
end Go.Proofs.YtgcfdjgfnagmjaaGreat

namespace Go.Proofs.YtgcfdjgfnagmjaaGreat
open Go.RowKit
set_option linter.unusedVariables false

set_option maxHeartbeats 2000000 in
set_option maxRecDepth 100000 in
theorem rdec_2d (s s1 : ByteArray) (L v sz : Nat) (w : World) (hem : s.toList.isEmpty = false) (hsz : s.size = L) (hL : L ≤ 2000)
    (hfrom : ∀ W : World, (Instr.slice 9 (.string s) (some (.int .i64 1)) none none).run Tryz.prog W = .ok (.string s1) W)
    (hff : ∀ W, Calls Tryz.prog 19 #[.string s1] W fun e W' => e = .returned (.tuple #[.int .u64 (v : Int), .int .i64 (sz : Int)]) ∧ Below W.heap.size W W')
    (m : Nat) (hm : m ≤ 100000) (h : 0 < sz) (h2 : v ≤ m) (p1 : Nat) (hp : p1 = 1 + sz) (hzL : p1 ≤ L) (hidx : ∀ W : World, (Instr.index 9 (.string s) (.int .i64 0)).run Tryz.prog W = .ok (.int .u8 2) W) (s2 : ByteArray) (h2f : ∀ W : World, (Instr.slice 9 (.string s) (some (.int .i64 (p1 : Int))) none none).run Tryz.prog W = .ok (.string s2) W) (ls : List Nat) (z : Nat) (hz : 0 < z) (p2 : Nat) (hq : p2 = p1 + z) (hzz : p2 ≤ L) (hrd : ∀ W, Calls Tryz.prog 20 #[.string s2] W fun e W' => (∃ A c, e = .returned (.tuple #[.slice A ls.length c, .int .i64 (z : Int)]) ∧ Reads W' A (i64s ls)) ∧ Below W.heap.size W W')
    (s3 : ByteArray) (h3f : ∀ W : World, (Instr.slice 9 (.string s) (some (.int .i64 (p2 : Int))) none none).run Tryz.prog W = .ok (.string s3) W)
    (v2 sz2 : Nat) (hff2 : ∀ W, Calls Tryz.prog 19 #[.string s3] W fun e W' => e = .returned (.tuple #[.int .u64 (v2 : Int), .int .i64 (sz2 : Int)]) ∧ Below W.heap.size W W') (hsz2 : 0 < sz2) (p3 : Nat) (hq3 : p3 = p2 + sz2) (p4 : Nat) (hq4 : p4 = p3 + v2) (hs2 : p4 ≤ L)
    (s4 : ByteArray) (h4f : ∀ W : World, (Instr.slice 9 (.string s) (some (.int .i64 (p3 : Int))) (some (.int .i64 (p4 : Int))) none).run Tryz.prog W = .ok (.string s4) W)
    (hdec : ∀ W A c, Reads W A (i64s ls) → Calls Tryz.prog 21 #[.slice A ls.length c, .string s4, .int .i64 (v : Int)] W fun e W' => BytesQ W' e none ∧ Below W.heap.size W W') :
    Calls Tryz.prog 7 #[.string s, .int .i64 (m : Int)] w fun e w' => e = .returned (RefV15 (none)) ∧ Below w.heap.size w w' := by
  have z0 : ((sz : Int) == 0) = false := by rw [beq_eq_false_iff_ne]; omega
  have d0 : decide ((m : Int) < 0) = false := decide_eq_false (by omega)
  have d1 : decide ((m : Int) < (v : Int)) = false := decide_eq_false (by omega)
  have d2 : decide ((1048576 : Int) < (v : Int)) = false := decide_eq_false (by omega)
  have d1n : decide (m < v) = false := decide_eq_false (by omega)
  have bv : v ≤ 100000 := by omega
  have hp1 : (1 : Int) + (sz : Int) = (p1 : Int) := by omega
  have b1 : p1 ≤ 2000 := by omega
  have Hrd := Lib.hid hrd
  have Hff2 := Lib.hid hff2
  have zz : ((z : Int) == 0) = false := by rw [beq_eq_false_iff_ne]; omega
  have hp2 : (p1 : Int) + (z : Int) = (p2 : Int) := by omega
  have b2 : p2 ≤ 2000 := by omega
  clear hrd hff2
  have zz2 : ((sz2 : Int) == 0) = false := by rw [beq_eq_false_iff_ne]; omega
  obtain ⟨q, hqq⟩ : ∃ q, q = L - p2 - sz2 := ⟨_, rfl⟩
  have hqi : (L : Int) - (p2 : Int) - (sz2 : Int) = (q : Int) := by omega
  have dq : decide ((q : Int) < (v2 : Int)) = false := decide_eq_false (by omega)
  have dqn : decide (q < v2) = false := decide_eq_false (by omega)
  have bq : q ≤ 2000 := by omega
  have hp3 : (p2 : Int) + (sz2 : Int) = (p3 : Int) := by omega
  have b3 : p3 ≤ 2000 := by omega
  have hp4 : (p3 : Int) + (v2 : Int) = (p4 : Int) := by omega
  have b4 : p4 ≤ 2000 := by omega
  have bv2 : v2 ≤ 2000 := by omega
  have Hd := Lib.hid hdec
  clear h hp hzL h2 hz hq hqq hq3 hq4 hdec
  have Hff := Lib.hid hff
  clear hff
  go_enter Tryz.func7, Tryz.ntmps7
  go_wp2_with fail
  refine (Hff.out _).mono ?_
  rintro e w1 ⟨rfl, hb1⟩
  have Hb1 := Lib.hid hb1
  clear hb1 Hff
  go_wp2_with fail
  refine (Hrd.out _).mono ?_
  rintro e w2 ⟨⟨A, c, rfl, hra⟩, hb2⟩
  have Hb2 := Lib.hid (Hb1.out.trans (hb2.mono Hb1.out.size))
  have Hra := Lib.hid hra
  clear hb2 Hb1 Hrd hra
  go_wp2_with fail
  refine (Hff2.out _).mono ?_
  rintro e w3 ⟨rfl, hb3⟩
  have Hb3 := Lib.hid (Hb2.out.trans (hb3.mono Hb2.out.size))
  have Hra3 := Lib.hid (reads_on Hra.out hb3)
  clear hb3 Hb2 Hff2 Hra
  go_wp2_with fail
  refine (Hd.out _ _ _ Hra3.out).mono ?_
  rintro e w4 ⟨⟨A4, c4, rfl⟩, hb4⟩
  have Hb4 := Lib.hid (Hb3.out.trans (hb4.mono Hb3.out.size))
  clear hb4 Hb3 Hd Hra3
  go_wp2
  go_ret2
  exact ⟨rfl, Hb4.out⟩
set_option maxHeartbeats 2000000 in
set_option maxRecDepth 100000 in
theorem rdec_2y (s s1 : ByteArray) (L v sz : Nat) (w : World) (hem : s.toList.isEmpty = false) (hsz : s.size = L) (hL : L ≤ 2000)
    (hfrom : ∀ W : World, (Instr.slice 9 (.string s) (some (.int .i64 1)) none none).run Tryz.prog W = .ok (.string s1) W)
    (hff : ∀ W, Calls Tryz.prog 19 #[.string s1] W fun e W' => e = .returned (.tuple #[.int .u64 (v : Int), .int .i64 (sz : Int)]) ∧ Below W.heap.size W W')
    (m : Nat) (hm : m ≤ 100000) (h : 0 < sz) (h2 : v ≤ m) (p1 : Nat) (hp : p1 = 1 + sz) (hzL : p1 ≤ L) (hidx : ∀ W : World, (Instr.index 9 (.string s) (.int .i64 0)).run Tryz.prog W = .ok (.int .u8 2) W) (s2 : ByteArray) (h2f : ∀ W : World, (Instr.slice 9 (.string s) (some (.int .i64 (p1 : Int))) none none).run Tryz.prog W = .ok (.string s2) W) (ls : List Nat) (z : Nat) (hz : 0 < z) (p2 : Nat) (hq : p2 = p1 + z) (hzz : p2 ≤ L) (hrd : ∀ W, Calls Tryz.prog 20 #[.string s2] W fun e W' => (∃ A c, e = .returned (.tuple #[.slice A ls.length c, .int .i64 (z : Int)]) ∧ Reads W' A (i64s ls)) ∧ Below W.heap.size W W')
    (s3 : ByteArray) (h3f : ∀ W : World, (Instr.slice 9 (.string s) (some (.int .i64 (p2 : Int))) none none).run Tryz.prog W = .ok (.string s3) W)
    (v2 sz2 : Nat) (hff2 : ∀ W, Calls Tryz.prog 19 #[.string s3] W fun e W' => e = .returned (.tuple #[.int .u64 (v2 : Int), .int .i64 (sz2 : Int)]) ∧ Below W.heap.size W W') (hsz2 : 0 < sz2) (p3 : Nat) (hq3 : p3 = p2 + sz2) (p4 : Nat) (hq4 : p4 = p3 + v2) (hs2 : p4 ≤ L)
    (s4 : ByteArray) (h4f : ∀ W : World, (Instr.slice 9 (.string s) (some (.int .i64 (p3 : Int))) (some (.int .i64 (p4 : Int))) none).run Tryz.prog W = .ok (.string s4) W) (d : List Nat) (hd : ∀ y ∈ d, y < 256)
    (hdec : ∀ W A c, Reads W A (i64s ls) → Calls Tryz.prog 21 #[.slice A ls.length c, .string s4, .int .i64 (v : Int)] W fun e W' => BytesQ W' e (some d) ∧ Below W.heap.size W W') :
    Calls Tryz.prog 7 #[.string s, .int .i64 (m : Int)] w fun e w' => e = .returned (RefV15 (some (d, p4))) ∧ Below w.heap.size w w' := by
  have z0 : ((sz : Int) == 0) = false := by rw [beq_eq_false_iff_ne]; omega
  have d0 : decide ((m : Int) < 0) = false := decide_eq_false (by omega)
  have d1 : decide ((m : Int) < (v : Int)) = false := decide_eq_false (by omega)
  have d2 : decide ((1048576 : Int) < (v : Int)) = false := decide_eq_false (by omega)
  have d1n : decide (m < v) = false := decide_eq_false (by omega)
  have bv : v ≤ 100000 := by omega
  have hp1 : (1 : Int) + (sz : Int) = (p1 : Int) := by omega
  have b1 : p1 ≤ 2000 := by omega
  have Hrd := Lib.hid hrd
  have Hff2 := Lib.hid hff2
  have zz : ((z : Int) == 0) = false := by rw [beq_eq_false_iff_ne]; omega
  have hp2 : (p1 : Int) + (z : Int) = (p2 : Int) := by omega
  have b2 : p2 ≤ 2000 := by omega
  clear hrd hff2
  have zz2 : ((sz2 : Int) == 0) = false := by rw [beq_eq_false_iff_ne]; omega
  obtain ⟨q, hqq⟩ : ∃ q, q = L - p2 - sz2 := ⟨_, rfl⟩
  have hqi : (L : Int) - (p2 : Int) - (sz2 : Int) = (q : Int) := by omega
  have dq : decide ((q : Int) < (v2 : Int)) = false := decide_eq_false (by omega)
  have dqn : decide (q < v2) = false := decide_eq_false (by omega)
  have bq : q ≤ 2000 := by omega
  have hp3 : (p2 : Int) + (sz2 : Int) = (p3 : Int) := by omega
  have b3 : p3 ≤ 2000 := by omega
  have hp4 : (p3 : Int) + (v2 : Int) = (p4 : Int) := by omega
  have b4 : p4 ≤ 2000 := by omega
  have bv2 : v2 ≤ 2000 := by omega
  have Hd := Lib.hid hdec
  clear h hp hzL h2 hz hq hqq hq3 hq4 hdec
  have Hcv := Lib.hid (fun W A c h => conv_bytes W A c d hd h)
  clear hd
  have Hff := Lib.hid hff
  clear hff
  go_enter Tryz.func7, Tryz.ntmps7
  go_wp2_with fail
  refine (Hff.out _).mono ?_
  rintro e w1 ⟨rfl, hb1⟩
  have Hb1 := Lib.hid hb1
  clear hb1 Hff
  go_wp2_with fail
  refine (Hrd.out _).mono ?_
  rintro e w2 ⟨⟨A, c, rfl, hra⟩, hb2⟩
  have Hb2 := Lib.hid (Hb1.out.trans (hb2.mono Hb1.out.size))
  have Hra := Lib.hid hra
  clear hb2 Hb1 Hrd hra
  go_wp2_with fail
  refine (Hff2.out _).mono ?_
  rintro e w3 ⟨rfl, hb3⟩
  have Hb3 := Lib.hid (Hb2.out.trans (hb3.mono Hb2.out.size))
  have Hra3 := Lib.hid (reads_on Hra.out hb3)
  clear hb3 Hb2 Hff2 Hra
  go_wp2_with fail
  refine (Hd.out _ _ _ Hra3.out).mono ?_
  rintro e w4 ⟨⟨A4, c4, rfl, _, hr4⟩, hb4⟩
  have Hb4 := Lib.hid (Hb3.out.trans (hb4.mono Hb3.out.size))
  have hcv := Hcv.out w4 A4 c4 hr4
  clear hb4 Hb3 Hd Hra3 hr4 Hcv
  go_wp2
  go_ret2
  exact ⟨rfl, Hb4.out⟩
end Go.Proofs.YtgcfdjgfnagmjaaGreat

namespace Go.Proofs.YtgcfdjgfnagmjaaGreat
open Go.RowKit

theorem readL_whole15 (bs : List Nat) (t : List Nat × Nat) (h : Bm.readL bs = some t) : Bm.WholeN t.1 := by
  unfold Bm.readL at h
  split at h
  · cases h
  · split at h
    · cases h
    · split at h
      · next hc =>
        injection h with h
        subst h
        exact hc.1
      · cases h
set_option maxHeartbeats 2000000 in
set_option maxRecDepth 100000 in
theorem lsrdec_any (bs : List Nat) (most : Int) (w : World) (hl : bs.length ≤ 1000) (hlt : ∀ x ∈ bs, x < 256) (hm : most ≤ 100000) :
    Calls Tryz.prog 7 #[.string (strOf bs), .int .i64 most] w fun e w' => e = .returned (RefV15 (Bm.decL bs most)) ∧ Below w.heap.size w w' := by
  cases bs with
  | nil => exact rdec_empty most w
  | cons k r =>
    rw [List.length_cons] at hl
    have hk := hlt k List.mem_cons_self
    have hrt : ∀ x ∈ r, x < 256 := fun x hx => hlt x (List.mem_cons_of_mem _ hx)
    have hem : (strOf (k :: r)).toList.isEmpty = false := by rw [emptyS, decide_eq_false (by simp)]
    have hsz : (strOf (k :: r)).size = r.length + 1 := by rw [strOf_size, List.length_cons]
    have hfrom : ∀ W : World, (Instr.slice 9 (.string (strOf (k :: r))) (some (.int .i64 1)) none none).run Tryz.prog W = .ok (.string (strOf r)) W := fun W => str_from (k :: r) 1 (by simp) W
    have hcut : ∀ (j : Nat), j ≤ r.length + 1 → ∀ W : World, (Instr.slice 9 (.string (strOf (k :: r))) (some (.int .i64 (j : Int))) none none).run Tryz.prog W = .ok (.string (strOf ((k :: r).drop j))) W := fun j hj W => str_from (k :: r) j (by rw [List.length_cons]; exact hj) W
    have hmid : ∀ (i j : Nat), i ≤ j → j ≤ r.length + 1 → ∀ W : World, (Instr.slice 9 (.string (strOf (k :: r))) (some (.int .i64 (i : Int))) (some (.int .i64 (j : Int))) none).run Tryz.prog W = .ok (.string (strOf (((k :: r).drop i).take (j - i)))) W := fun i j hij hj W => by
      rw [mid15 (k :: r) i j hij (by rw [List.length_cons]; exact hj) W, List.drop_take]
    have hff := fun W => ffirst_any r W (by omega) hrt
    have hidx : ∀ W : World, (Instr.index 9 (.string (strOf (k :: r))) (.int .i64 0)).run Tryz.prog W = .ok (.int .u8 (k : Int)) W := fun W => index_at (k :: r) 0 W (by simp) hk
    have hia : ∀ (j : Nat) (hj : j < (k :: r).length) (W : World), (Instr.index 9 (.string (strOf (k :: r))) (.int .i64 (j : Int))).run Tryz.prog W = .ok (.int .u8 (((k :: r)[j] : Nat) : Int)) W := fun j hj W => index_at (k :: r) j W hj (hlt _ (List.getElem_mem hj))
    have hzr := Bm.firstG_append r []
    have hdd : ∀ j, (k :: r).drop (1 + j) = r.drop j := fun j => by rw [Nat.add_comm, List.drop_succ_cons]
    have hdl : (Bm.decL (k :: r) most) = if 0 < (Bm.firstG r).2 ∧ ((Bm.firstG r).1 : Int) ≤ most ∧ (Bm.firstG r).1 ≤ 1048576 then (Bm.bodyL k (Bm.firstG r).1 (r.drop (Bm.firstG r).2)).map fun q => (q.1, 1 + (Bm.firstG r).2 + q.2) else none := rfl
    rw [hdl]
    clear hdl
    obtain ⟨v, hv⟩ : ∃ v, v = (Bm.firstG r).1 := ⟨_, rfl⟩
    obtain ⟨sz, hz⟩ : ∃ z, z = (Bm.firstG r).2 := ⟨_, rfl⟩
    rw [← hz] at hzr
    rw [← hv, ← hz] at hff ⊢
    by_cases h0 : sz = 0
    · rw [if_neg (by omega)]
      exact rdec_a _ _ _ v sz w hem hsz (by omega) hfrom hff most h0
    by_cases hneg : most < 0
    · rw [if_neg (by omega)]
      exact rdec_b _ _ _ v sz w hem hsz (by omega) hfrom hff most (by omega) hneg
    obtain ⟨m, rfl⟩ := Int.eq_ofNat_of_zero_le (show 0 ≤ most by omega)
    have hm2 : m ≤ 100000 := by have : ((m : Nat) : Int) ≤ 100000 := hm; omega
    by_cases hvm : m < v
    · rw [if_neg (by rintro ⟨_, h, _⟩; have : ((v : Nat) : Int) ≤ ((m : Nat) : Int) := h; omega)]
      exact rdec_c _ _ _ v sz w hem hsz (by omega) hfrom hff m hm2 (by omega) hvm
    have hsz2 := (hzr (by omega)).2
    rw [if_pos ⟨by omega, by show ((v : Nat) : Int) ≤ ((m : Nat) : Int); omega, by omega⟩]
    have hzL : 1 + sz ≤ r.length + 1 := by omega
    have htl : (r.drop sz).length = r.length - sz := List.length_drop
    have htt : ∀ x ∈ r.drop sz, x < 256 := drop_lt hrt sz
    clear hzr hv hz
    by_cases k0 : k = 0
    · subst k0
      by_cases hvl : v ≤ (r.drop sz).length
      · rw [show Bm.bodyL 0 v (r.drop sz) = some ((r.drop sz).take v, v) by unfold Bm.bodyL; rw [if_pos rfl, if_pos hvl]]
        refine rdec_0y _ _ _ v sz w hem hsz (by omega) hfrom hff m hm2 (by omega) (by omega) (1 + sz) rfl hzL hidx ((r.drop sz).take v) (1 + sz + v) rfl (by omega) (fun W => ?_)
        have h := hmid (1 + sz) (1 + sz + v) (by omega) (by omega) W
        rw [hdd, show 1 + sz + v - (1 + sz) = v by omega] at h
        exact h
      · rw [show Bm.bodyL 0 v (r.drop sz) = none by unfold Bm.bodyL; rw [if_pos rfl, if_neg hvl]]
        exact rdec_0n _ _ _ v sz w hem hsz (by omega) hfrom hff m hm2 (by omega) (by omega) (1 + sz) rfl hzL hidx (by omega)
    by_cases k1 : k = 1
    · subst k1
      by_cases hvl : 0 < (r.drop sz).length
      · have hp : 1 + sz < (1 :: r).length := by rw [List.length_cons]; omega
        have e : (r.drop sz)[0]?.getD 0 = (1 :: r)[1 + sz] := by
          rw [← hdd, List.getElem?_drop, Nat.add_zero, List.getElem?_eq_getElem hp, Option.getD_some]
        rw [show Bm.bodyL 1 v (r.drop sz) = some (List.replicate v ((1 :: r)[1 + sz]), 1) by unfold Bm.bodyL; rw [if_neg (by decide), if_pos rfl, if_pos hvl, e]]
        exact rdec_1y _ _ _ v sz w hem hsz (by omega) hfrom hff m hm2 (by omega) (by omega) (1 + sz) rfl hzL hidx _ (hlt _ (List.getElem_mem hp)) (1 + sz + 1) rfl (by rw [List.length_cons] at hp; exact hp) (fun W => hia (1 + sz) hp W)
      · rw [show Bm.bodyL 1 v (r.drop sz) = none by unfold Bm.bodyL; rw [if_neg (by decide), if_pos rfl, if_neg hvl]]
        exact rdec_1n _ _ _ v sz w hem hsz (by omega) hfrom hff m hm2 (by omega) (by omega) (1 + sz) rfl hzL hidx (by omega)
    by_cases k2 : k = 2
    · subst k2
      have hbd : Bm.bodyL 2 v (r.drop sz) = match Bm.readL (r.drop sz) with
        | none => none
        | some p => (Bm.codeB p.1 ((r.drop sz).drop p.2) v).map fun q => (q.1, p.2 + q.2) := by
        unfold Bm.bodyL
        rw [if_neg (by decide), if_neg (by decide), if_pos rfl]
        rfl
      rw [hbd]
      have h2f : ∀ W : World, (Instr.slice 9 (.string (strOf (2 :: r))) (some (.int .i64 ((1 + sz : Nat) : Int))) none none).run Tryz.prog W = .ok (.string (strOf (r.drop sz))) W := fun W => by
        have h := hcut (1 + sz) hzL W
        rw [hdd] at h
        exact h
      have hrd := fun W => xread_any (r.drop sz) W (by omega) htt
      have hat := Bm.readL_at (r.drop sz)
      have hwh := readL_whole15 (r.drop sz)
      cases hrc : Bm.readL (r.drop sz) with
      | none =>
        rw [hrc] at hrd
        exact rdec_2a _ _ _ v sz w hem hsz (by omega) hfrom hff m hm2 (by omega) (by omega) (1 + sz) rfl hzL hidx _ h2f hrd
      | some p =>
        obtain ⟨ls, z⟩ := p
        rw [hrc] at hrd
        have hz := hat ls z hrc
        have hW := hwh (ls, z) hrc
        dsimp only at hW ⊢
        clear hat hwh hrc hbd
        have h3f : ∀ W : World, (Instr.slice 9 (.string (strOf (2 :: r))) (some (.int .i64 ((1 + sz + z : Nat) : Int))) none none).run Tryz.prog W = .ok (.string (strOf ((r.drop sz).drop z))) W := fun W => by
          have h := hcut (1 + sz + z) (by omega) W
          rw [Nat.add_assoc, hdd, ← List.drop_drop, ← Nat.add_assoc] at h
          exact h
        have hul : ((r.drop sz).drop z).length = r.length - sz - z := by rw [List.length_drop, htl]
        have hut : ∀ x ∈ (r.drop sz).drop z, x < 256 := drop_lt htt z
        have h4f : ∀ a b : Nat, 1 + sz + z + a + b ≤ r.length + 1 → ∀ W : World, (Instr.slice 9 (.string (strOf (2 :: r))) (some (.int .i64 ((1 + sz + z + a : Nat) : Int))) (some (.int .i64 ((1 + sz + z + a + b : Nat) : Int))) none).run Tryz.prog W = .ok (.string (strOf ((((r.drop sz).drop z).drop a).take b))) W := fun a b hab W => by
          have h := hmid (1 + sz + z + a) (1 + sz + z + a + b) (by omega) hab W
          rw [show 1 + sz + z + a + b - (1 + sz + z + a) = b by omega] at h
          have e : (2 :: r).drop (1 + sz + z + a) = ((r.drop sz).drop z).drop a := by
            rw [List.drop_drop, List.drop_drop, ← hdd]
            congr 1
            omega
          rw [e] at h
          exact h
        generalize (r.drop sz).drop z = u at *
        have hff2 := fun W => ffirst_any u W (by omega) hut
        have hzu := Bm.firstG_append u []
        unfold Bm.codeB
        obtain ⟨v2, hv2⟩ : ∃ v, v = (Bm.firstG u).1 := ⟨_, rfl⟩
        obtain ⟨sz2, hz2⟩ : ∃ z, z = (Bm.firstG u).2 := ⟨_, rfl⟩
        rw [← hz2] at hzu
        rw [← hv2, ← hz2] at hff2 ⊢
        have hrd2 : ∀ W, Calls Tryz.prog 20 #[.string (strOf (r.drop sz))] W fun e W' => (∃ A c, e = .returned (.tuple #[.slice A ls.length c, .int .i64 (z : Int)]) ∧ Reads W' A (i64s ls)) ∧ Below W.heap.size W W' := hrd
        clear hv2 hz2 hrd
        by_cases h20 : sz2 = 0
        · rw [if_neg (by omega)]
          exact rdec_2b _ _ _ v sz w hem hsz (by omega) hfrom hff m hm2 (by omega) (by omega) (1 + sz) rfl hzL hidx _ h2f ls z (by omega) (1 + sz + z) rfl (by omega) hrd2 _ h3f v2 sz2 hff2 h20
        have hs2 := (hzu (by omega)).2
        by_cases h2v : v2 ≤ u.length - sz2
        · rw [if_pos ⟨by omega, h2v⟩]
          have hdec := fun W A c (h : Reads W A (i64s ls)) => xdec_any A c v ls ((u.drop sz2).take v2) W hW (by omega) (by rw [List.length_take, List.length_drop]; omega) (fun x hx => hut x (List.mem_of_mem_drop (List.mem_of_mem_take hx))) h
          have hed := fun d h => Bm.enc_decT ls ((u.drop sz2).take v2) d v (fun x hx => hut x (List.mem_of_mem_drop (List.mem_of_mem_take hx))) h
          cases hdc : Bm.decT ls ((u.drop sz2).take v2) v with
          | none =>
            rw [hdc] at hdec
            exact rdec_2d _ _ _ v sz w hem hsz (by omega) hfrom hff m hm2 (by omega) (by omega) (1 + sz) rfl hzL hidx _ h2f ls z (by omega) (1 + sz + z) rfl (by omega) hrd2 _ h3f v2 sz2 hff2 (by omega) (1 + sz + z + sz2) rfl (1 + sz + z + sz2 + v2) rfl (by omega) _ (h4f sz2 v2 (by omega)) hdec
          | some d =>
            rw [hdc] at hdec
            have hd := (hed d hdc).2.2
            have h := rdec_2y _ _ _ v sz w hem hsz (by omega) hfrom hff m hm2 (by omega) (by omega) (1 + sz) rfl hzL hidx _ h2f ls z (by omega) (1 + sz + z) rfl (by omega) hrd2 _ h3f v2 sz2 hff2 (by omega) (1 + sz + z + sz2) rfl (1 + sz + z + sz2 + v2) rfl (by omega) _ (h4f sz2 v2 (by omega)) d (fun y hy => Nat.lt_of_lt_of_le (hd y hy) hW.1) hdec
            rw [show 1 + sz + z + sz2 + v2 = 1 + sz + (z + (sz2 + v2)) by omega] at h
            exact h
        · rw [if_neg (by omega)]
          exact rdec_2c _ _ _ v sz w hem hsz (by omega) hfrom hff m hm2 (by omega) (by omega) (1 + sz) rfl hzL hidx _ h2f ls z (by omega) (1 + sz + z) rfl (by omega) hrd2 _ h3f v2 sz2 hff2 (by omega) (by omega) (by omega)
    rw [show Bm.bodyL k v (r.drop sz) = none by unfold Bm.bodyL; rw [if_neg k0, if_neg k1, if_neg k2]]
    exact rdec_3 _ _ _ v sz w hem hsz (by omega) hfrom hff m hm2 (by omega) (by omega) (1 + sz) rfl hzL k (by omega) hk hidx
end Go.Proofs.YtgcfdjgfnagmjaaGreat
