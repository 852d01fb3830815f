/-
  MessageAny (layer 25): the law's function by its walk: true for any kind and any text. No condition.
-/
import Derived.Test.YtfopnbfaaikghaaMp
import Derived.Test.YtfopnbfaaikghaaMo
namespace Go.Proofs.Ytfopnbfaaikghaa
open Go.RowKit

set_option maxHeartbeats 1000000 in
set_option maxRecDepth 100000 in
theorem mgany_long (k : Int) (s : ByteArray) (w : World) (h : 800 < s.size) : Calls Try.prog 4 #[.int .i64 k, .string s] w fun e w' => e = .returned (.bool true) ∧ Below w.heap.size w w' := by
  go_enter Try.func4, Try.ntmps4
  go_wp2_with fail
  refine (mgawake_any w).mono ?_
  rintro e w1 ⟨rfl, g1⟩
  have h2 : (800 : Int) < (s.size : Int) := by omega
  go_wp2_with fail
  go_ret
  exact ⟨rfl, g1⟩
set_option maxHeartbeats 2000000 in
set_option maxRecDepth 100000 in
theorem mgany_none (k : Int) (l : List Nat) (w : World) (hl : ∀ x ∈ l, x < 256) (h : l.length ≤ 800) (hd : decP k l = none) : Calls Try.prog 4 #[.int .i64 k, .string (strOf l)] w fun e w' => e = .returned (.bool true) ∧ Below w.heap.size w w' := by
  have HD := Lib.hid (fun W => mgdec_any k l W hl (by omega))
  have HR := Lib.hid (fun W => rmdec_any k l W hl (by omega))
  rw [dec_same k l hl (by omega)] at HR
  rw [hd] at HD HR
  have HE := Lib.hid (fun W => mgenc_no zms W (by decide))
  rw [Option.getD_none, Option.isSome_none] at HD HR
  rw [if_neg (by simp)] at HD
  rw [zms_V] at HD HR HE
  unfold frV Bm.zfr at HE
  dsimp only [zmL] at HD HR HE
  rw [show strOf [] = ⟨#[]⟩ from rfl] at HE
  have hsz := strOf_size l
  have hz8 : ¬ (800 : Int) < (l.length : Int) := by omega
  generalize l.length = L at *
  generalize strOf l = s at *
  have hguard := ms_guard
  have hneq := fun W => ms_neq 0 0 0 0 0 ⟨#[]⟩ W
  clear hl h hd
  go_enter Try.func4, Try.ntmps4
  go_wp2_with fail
  refine (mgawake_any w).mono ?_
  rintro e w1 ⟨rfl, g1⟩
  go_wp2_with fail
  refine (HD.out w1).mono ?_
  rintro e w2 ⟨rfl, g2⟩
  have Hb2 := Lib.hid (g1.trans (g2.mono g1.size))
  have Hb3 := Lib.hid (Hb2.out.alloc Hb2.out.size (.cells #[.int .i64 0, .int .i64 0, .int .i64 0, .int .i64 0, .int .u64 0, .string ⟨#[]⟩] 24))
  have Hm3 : Hid (Row (w2.alloc (.cells #[.int .i64 0, .int .i64 0, .int .i64 0, .int .i64 0, .int .u64 0, .string ⟨#[]⟩] 24)) w2.heap.size 24 [.int .i64 0, .int .i64 0, .int .i64 0, .int .i64 0, .int .u64 0, .string ⟨#[]⟩]) := Lib.hid (Row.new w2 _ _)
  clear g1 g2
  go_wp2_with fail
  refine (HR.out _).mono ?_
  rintro e w4 ⟨rfl, g4⟩
  have Hm4 := Lib.hid (kept Hm3.out g4)
  have Hb4 := Lib.hid (Hb3.out.trans (g4.mono Hb3.out.size))
  clear g4 Hm3 Hb3
  have Hm5 := Lib.hid (Hm4.out.alloc (.cells #[.int .i64 0, .int .i64 0, .int .i64 0, .int .i64 0, .int .u64 0, .string ⟨#[]⟩] 24))
  have Hw5 : Hid (Row (w4.alloc (.cells #[.int .i64 0, .int .i64 0, .int .i64 0, .int .i64 0, .int .u64 0, .string ⟨#[]⟩] 24)) w4.heap.size 24 [.int .i64 0, .int .i64 0, .int .i64 0, .int .i64 0, .int .u64 0, .string ⟨#[]⟩]) := Lib.hid (Row.new w4 _ _)
  have Hb5 := Lib.hid (Hb4.out.alloc Hb4.out.size (.cells #[.int .i64 0, .int .i64 0, .int .i64 0, .int .i64 0, .int .u64 0, .string ⟨#[]⟩] 24))
  go_upto_region 7 with fail
  generalize w4.alloc (.cells #[.int .i64 0, .int .i64 0, .int .i64 0, .int .i64 0, .int .u64 0, .string ⟨#[]⟩] 24) = w5 at *
  obtain ⟨c0, c1, c2, c3, c4, c5⟩ := Ms6.cells Hm5.out
  obtain ⟨d0, d1, d2, d3, d4, d5⟩ := Ms6.cells Hw5.out
  go_wp2_with fail
  refine (HE.out w5).mono ?_
  rintro e w6 ⟨rfl, g6⟩
  have Hb6 := Lib.hid (Hb5.out.trans (g6.mono Hb5.out.size))
  clear c0 c1 c2 c3 c4 c5 d0 d1 d2 d3 d4 d5 g6
  go_wp2_with fail
  go_ret
  exact ⟨rfl, Hb6.out.alloc Hb6.out.size _⟩
set_option maxHeartbeats 2000000 in
set_option maxRecDepth 100000 in
theorem mgany_some (k : Int) (l : List Nat) (m : Msg) (w : World) (hl : ∀ x ∈ l, x < 256) (h : l.length ≤ 800) (hd : decP k l = some m) : Calls Try.prog 4 #[.int .i64 k, .string (strOf l)] w fun e w' => e = .returned (.bool true) ∧ Below w.heap.size w w' := by
  obtain ⟨hk, hr, hby, hok⟩ := decP_some k l m hl (by omega) hd
  have HD := Lib.hid (fun W => mgdec_any k l W hl (by omega))
  have HR := Lib.hid (fun W => rmdec_any k l W hl (by omega))
  rw [dec_same k l hl (by omega)] at HR
  rw [hd] at HD HR
  have HE := Lib.hid (fun W => mgenc_yes m W hok hr)
  rw [hk, hby] at HE
  rw [Option.getD_some, Option.isSome_some] at HD HR
  rw [if_pos rfl] at HD
  have hself := fun W => fr_eql (k, l) (k, l) W hl hl
  rw [show decide (((k, l) : Bm.Frm) = (k, l)) = true from decide_eq_true rfl] at hself
  unfold msV at HD HR HE
  unfold frV at HE hself
  dsimp only [msL] at HD HR HE hself
  have hsz := strOf_size l
  have hz8 : ¬ (800 : Int) < (l.length : Int) := by omega
  have hneq := fun W => ms_neq m.kind m.next m.epoch m.size (m.sum : Int) (strOf m.data) W
  generalize l.length = L at *
  generalize strOf l = s at *
  generalize m.kind = k0 at *
  generalize m.next = n0 at *
  generalize m.epoch = e0 at *
  generalize m.size = z0 at *
  generalize (m.sum : Int) = s0 at *
  generalize strOf m.data = t0 at *
  have hguard := ms_guard
  have hguard2 := fr_guard
  clear hl h hd hk hr hby hok
  go_enter Try.func4, Try.ntmps4
  go_wp2_with fail
  refine (mgawake_any w).mono ?_
  rintro e w1 ⟨rfl, g1⟩
  go_wp2_with fail
  refine (HD.out w1).mono ?_
  rintro e w2 ⟨rfl, g2⟩
  have Hb2 := Lib.hid (g1.trans (g2.mono g1.size))
  have Hb3 := Lib.hid (Hb2.out.alloc Hb2.out.size (.cells #[.int .i64 k0, .int .i64 n0, .int .i64 e0, .int .i64 z0, .int .u64 s0, .string t0] 24))
  have Hm3 : Hid (Row (w2.alloc (.cells #[.int .i64 k0, .int .i64 n0, .int .i64 e0, .int .i64 z0, .int .u64 s0, .string t0] 24)) w2.heap.size 24 [.int .i64 k0, .int .i64 n0, .int .i64 e0, .int .i64 z0, .int .u64 s0, .string t0]) := Lib.hid (Row.new w2 _ _)
  clear g1 g2
  go_wp2_with fail
  refine (HR.out _).mono ?_
  rintro e w4 ⟨rfl, g4⟩
  have Hm4 := Lib.hid (kept Hm3.out g4)
  have Hb4 := Lib.hid (Hb3.out.trans (g4.mono Hb3.out.size))
  clear g4 Hm3 Hb3
  have Hm5 := Lib.hid (Hm4.out.alloc (.cells #[.int .i64 k0, .int .i64 n0, .int .i64 e0, .int .i64 z0, .int .u64 s0, .string t0] 24))
  have Hw5 : Hid (Row (w4.alloc (.cells #[.int .i64 k0, .int .i64 n0, .int .i64 e0, .int .i64 z0, .int .u64 s0, .string t0] 24)) w4.heap.size 24 [.int .i64 k0, .int .i64 n0, .int .i64 e0, .int .i64 z0, .int .u64 s0, .string t0]) := Lib.hid (Row.new w4 _ _)
  have Hb5 := Lib.hid (Hb4.out.alloc Hb4.out.size (.cells #[.int .i64 k0, .int .i64 n0, .int .i64 e0, .int .i64 z0, .int .u64 s0, .string t0] 24))
  go_upto_region 7 with fail
  generalize w4.alloc (.cells #[.int .i64 k0, .int .i64 n0, .int .i64 e0, .int .i64 z0, .int .u64 s0, .string t0] 24) = w5 at *
  obtain ⟨c0, c1, c2, c3, c4, c5⟩ := Ms6.cells Hm5.out
  obtain ⟨d0, d1, d2, d3, d4, d5⟩ := Ms6.cells Hw5.out
  go_wp2_with fail
  refine (HE.out w5).mono ?_
  rintro e w6 ⟨rfl, g6⟩
  have Hb6 := Lib.hid (Hb5.out.trans (g6.mono Hb5.out.size))
  clear c0 c1 c2 c3 c4 c5 d0 d1 d2 d3 d4 d5 g6
  go_upto_region 10 with fail
  have Hf7 : Hid (Row (w6.alloc (.cells #[.int .i64 k, .string s] 28)) w6.heap.size 28 [.int .i64 k, .string s]) := Lib.hid (Row.new w6 _ _)
  have Hb7 := Lib.hid (Hb6.out.alloc Hb6.out.size (.cells #[.int .i64 k, .string s] 28))
  generalize w6.alloc (.cells #[.int .i64 k, .string s] 28) = w7 at *
  have c0 := Hf7.out.cell 0
  have c1 := Hf7.out.cell 1
  simp only [List.getElem?_cons_zero, List.getElem?_cons_succ] at c0 c1
  go_wp2_with fail
  go_ret
  exact ⟨rfl, Hb7.out⟩
theorem mgany_any (k : Int) (l : List Nat) (w : World) (hl : ∀ x ∈ l, x < 256) : Calls Try.prog 4 #[.int .i64 k, .string (strOf l)] w fun e w' => e = .returned (.bool true) ∧ Below w.heap.size w w' := by
  by_cases h : 800 < l.length
  · exact mgany_long k (strOf l) w (by rw [strOf_size]; exact h)
  · rcases hd : decP k l with _ | m
    · exact mgany_none k l w hl (by omega) hd
    · exact mgany_some k l m w hl (by omega) hd
end Go.Proofs.Ytfopnbfaaikghaa
