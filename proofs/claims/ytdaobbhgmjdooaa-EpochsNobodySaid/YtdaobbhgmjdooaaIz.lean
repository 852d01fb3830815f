/-
  EpochsNobody (layer 21): the law's function by its walk: true for any epoch and any text. No condition.
-/
import Derived.Test.YtdaobbhgmjdooaaIk
namespace Go.Proofs.Ytdaobbhgmjdooaa
open Go.RowKit

set_option maxHeartbeats 400000 in
set_option maxRecDepth 100000 in
theorem eadd_nil (t : ByteArray) (w : World) : Calls Try.prog 9 #[.pointer none, .string t] w fun e w' => e = .returned (.tuple #[.int .i64 0, .int .i64 1]) ∧ w = w' := by
  go_enter Try.func9, Try.ntmps9
  go_wp2
  go_ret2
  exact ⟨rfl, rfl⟩
/-- Drawing alone leaves all that there was. -/
theorem below_drw {B : Nat} {w w1 : World} (h : Below B w w1) (q : Nat) : Below B w (w1.drewN q) := ⟨h.os, h.tape, h.output, h.size, h.block⟩
set_option maxHeartbeats 2000000 in
set_option maxRecDepth 100000 in
theorem enobody_any (x : Int) (t : ByteArray) (w : World) :
    Calls Try.prog 5 #[.int .i64 x, .string t] w fun e w' => e = .returned (.bool true) ∧ Below w.heap.size w w' := by
  have Haw := Lib.hid (epawake_any w)
  have Hadd := Lib.hid (fun W => eadd_nil t W)
  have Htx := Lib.hid (fun W => show Calls Try.prog 13 #[.pointer none, .int .i64 x] W fun e w' => e = .returned (.tuple #[.string ⟨#[]⟩, .bool false]) ∧ ∃ q, w' = W.drewN q from etext_any none 0 [] x W (SP.nobody W))
  have Htb := Lib.hid (fun W b (hb : SG W b 0 []) => show Calls Try.prog 13 #[.pointer (some ⟨b, 0, none⟩), .int .i64 x] W fun e w' => e = .returned (.tuple #[.string ⟨#[]⟩, .bool false]) ∧ ∃ q, w' = W.drewN q from etext_any _ 0 [] x W hb.toP)
  have Hnew := Lib.hid (fun W => enew_any W)
  have Hho := Lib.hid (fun W => show Calls Try.prog 11 #[.pointer none, .int .i64 x] W fun e w' => e = .returned (.bool false) ∧ GP W w' none 1 [] from ehold_any none 0 [] x W (by decide) (SP.nobody W))
  have Hle := Lib.hid (fun W => show Calls Try.prog 12 #[.pointer none, .int .i64 x] W fun e w' => e = .returned (.bool false) ∧ GP W w' none 0 [] from elet_any none 0 [] x W (by decide) (SP.nobody W))
  have Hhe := Lib.hid (fun W => show Calls Try.prog 14 #[.pointer none, .int .i64 x] W fun e w' => e = .returned (.int .i64 0) ∧ ∃ q, w' = W.drewN q from eheld_any none 0 [] x W (SP.nobody W))
  have Hla := Lib.hid (fun W => show Calls Try.prog 15 #[.pointer none] W fun e w' => e = .returned (.int .i64 0) ∧ ∃ q, w' = W.drewN q from elast_any none 0 [] W (SP.nobody W))
  have Hal := Lib.hid (fun W p (hp : SP W p 0 []) => show Calls Try.prog 17 #[.pointer p] W fun e w' => ∃ g, e = Ending.returned (.slice (some ⟨g, 0, none⟩) 0 0) ∧ Below W.heap.size W w' from (eall_any p 0 [] W hp).mono fun e w' ⟨g, h1, h2, _, h3⟩ => ⟨g, h1, h3⟩)
  go_enter Try.func5, Try.ntmps5
  go_wp2_with fail
  refine Haw.out.mono ?_
  rintro e w1 ⟨rfl, hb1⟩
  have B1 := Lib.hid hb1
  clear hb1 Haw
  go_wp2_with fail
  refine (Hadd.out _).mono ?_
  rintro e w' ⟨rfl, rfl⟩
  go_wp2_with fail
  refine (Htx.out w1).mono ?_
  rintro e w' ⟨rfl, q1, rfl⟩
  have B2 := Lib.hid (below_drw B1.out q1)
  clear B1
  generalize w1.drewN q1 = w2 at *
  go_wp2_with fail
  refine (Hnew.out w2).mono ?_
  rintro e w3 ⟨b, rfl, hS, _, hb3⟩
  have B3 := Lib.hid (B2.out.trans (hb3.mono B2.out.size))
  have HT := Lib.hid (Htb.out w3 b hS)
  clear hS hb3 Htb B2
  go_wp2_with fail
  refine HT.out.mono ?_
  rintro e w' ⟨rfl, q3, rfl⟩
  have B4 := Lib.hid (below_drw B3.out q3)
  clear B3 HT
  generalize w3.drewN q3 = w4 at *
  go_wp2_with fail
  refine (Hho.out w4).mono ?_
  rintro e w5 ⟨rfl, _, hg5⟩
  have B5 := Lib.hid (B4.out.trans ((below_of_grown hg5).mono B4.out.size))
  clear hg5 B4 Hho
  go_wp2_with fail
  refine (Hle.out w5).mono ?_
  rintro e w6 ⟨rfl, _, hg6⟩
  have B6 := Lib.hid (B5.out.trans ((below_of_grown hg6).mono B5.out.size))
  clear hg6 B5 Hle
  go_wp2_with fail
  refine (Hhe.out w6).mono ?_
  rintro e w' ⟨rfl, q6, rfl⟩
  have B7 := Lib.hid (below_drw B6.out q6)
  clear B6 Hhe
  generalize w6.drewN q6 = w7 at *
  go_wp2_with fail
  refine (Hla.out w7).mono ?_
  rintro e w' ⟨rfl, q7, rfl⟩
  have B8 := Lib.hid (below_drw B7.out q7)
  clear B7 Hla
  generalize w7.drewN q7 = w8 at *
  go_wp2_with fail
  refine (Hal.out w8 none (SP.nobody w8)).mono ?_
  rintro e w9 ⟨g9, rfl, hb9⟩
  have B9 := Lib.hid (B8.out.trans (hb9.mono B8.out.size))
  clear hb9 B8
  go_wp2_with fail
  refine (Hnew.out w9).mono ?_
  rintro e w10 ⟨b2, rfl, hS, _, hb10⟩
  have B10 := Lib.hid (B9.out.trans (hb10.mono B9.out.size))
  have HA := Lib.hid (Hal.out w10 _ hS.toP)
  clear hS hb10 B9
  go_wp2_with fail
  refine HA.out.mono ?_
  rintro e w11 ⟨g11, rfl, hb11⟩
  have B11 := Lib.hid (B10.out.trans (hb11.mono B10.out.size))
  clear hb11 B10 HA
  go_wp2
  go_ret
  exact ⟨rfl, B11.out⟩
end Go.Proofs.Ytdaobbhgmjdooaa
