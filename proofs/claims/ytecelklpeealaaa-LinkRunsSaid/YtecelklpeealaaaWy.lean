/-
  LinkRuns (layer 23): the law's one, by its walk: a deed of a Pipe, or of none where the Link is down. Conditions: as the theorem's premises say.
-/
import Derived.Test.YtecelklpeealaaaWx
import Derived.ChangeAlike
namespace Go.Proofs.Ytecelklpeealaaa
open Go.RowKit

set_option maxHeartbeats 2000000 in
set_option maxRecDepth 100000 in
theorem lkone_any (kd : Nat) (fr : Bool) (nn : Int) (tl : List Nat) (b c p1 p2 base m L g : Nat) (up : Bool) (x : RSt) (w : World) (htl : tl.length ≤ 30) (hlt : ∀ x ∈ tl, x < 256) (hkd : kd < 256) (hL : L ≤ 4000)
    (hb1 : b < p1) (h12 : p1 < p2) (h2c : p2 < c) (hcb : c < base) (k : RS w b c p1 p2 base m L up g x) :
    Calls Try.prog 12 #[.agg #[.int .u8 (kd : Int), .bool fr, .int .i64 nn, .string (strOf tl)], .pointer (some ⟨b, 0, none⟩), .pointer (some ⟨c, 0, none⟩)] w fun e w' =>
      e = .returned (.bool true) ∧ (∃ x', RS w' b c p1 p2 base m (L + 30) up g x') ∧ ∀ B, B ≤ b → Below B w w' := by
  have hdA : Below w.heap.size w (w.alloc (.cells #[.int .u8 (kd : Int), .bool fr, .int .i64 nn, .string (strOf tl)] 29)) := (Below.refl _ _).alloc (Nat.le_refl _) _
  have HD := Lib.hid (Row.new w 29 [.int .u8 (kd : Int), .bool fr, .int .i64 nn, .string (strOf tl)])
  have HKA := Lib.hid (k.below hdA)
  have HBA := Lib.hid hdA
  have Hbw := Lib.hid k.lk.lt
  have HDD := Lib.hid (fun (W : World) (n1 : Nat) (o : Nat) (E : PEnv) (p : Nat) (q : Option Nat) (s : PSt) hbp hj => lkdeed_any kd fr nn tl b o E p base q n1 m L s W htl hlt hkd hL hbp hj)
  clear k hdA htl hlt hkd hL
  generalize strOf tl = tx at *
  go_enter Try.func12, Try.ntmps12
  go_upto_region 1 with fail
  generalize w.alloc (.cells #[.int .u8 (kd : Int), .bool fr, .int .i64 nn, .string tx] 29) = wA at *
  generalize w.heap.size = dB at *
  have HT := Lib.hid (fun d => lkto_at b up (wA.drewN d) HKA.out.lk.cells.1)
  have HF := Lib.hid (fun d => lkfrom_at b up (wA.drewN d) HKA.out.lk.cells.1)
  have c0 := HKA.out.rl.cell 0
  have c1 := HKA.out.rl.cell 1
  have c2 := HKA.out.rl.cell 2
  simp only [rlC, List.getElem?_cons_zero, List.getElem?_cons_succ] at c0 c1 c2
  have e0 := HD.out.cell 0
  have e1 := HD.out.cell 1
  have e2 := HD.out.cell 2
  have e3 := HD.out.cell 3
  simp only [List.getElem?_cons_zero, List.getElem?_cons_succ] at e0 e1 e2 e3
  clear HD
  cases fr with
  | false =>
    cases up with
    | false =>
      unfold pipeV at HT
      rw [if_neg (by decide)] at HT
      go_quiet ((go_at_call 15; exact quiet_leftP (HT.out _)))
      have HKd := Lib.hid (HKA.out.below (show Below wA.heap.size wA (wA.drewN nq) from ⟨rfl, rfl, rfl, Nat.le_refl _, fun _ _ => rfl⟩))
      have HBd := Lib.hid (show Below dB w (wA.drewN nq) from ⟨HBA.out.os, HBA.out.tape, HBA.out.output, HBA.out.size, HBA.out.block⟩)
      clear HKA HBA HT HF HDD
      go_wp2_with fail
      refine (ppsend_nil tx _).mono ?_
      rintro e w' ⟨rfl, rfl⟩
      go_wp2_with fail
      refine (ppdel_nil nn _).mono ?_
      rintro e w' ⟨rfl, rfl⟩
      go_wp2
      go_ret
      exact ⟨rfl, ⟨x, HKd.out.more (by omega)⟩, fun B hB => HBd.out.mono (by have := Hbw.out; omega)⟩
    | true =>
      unfold pipeV at HT
      rw [if_pos rfl] at HT
      go_quiet ((go_at_call 15; exact quiet_leftP (HT.out _)))
      have HKd := Lib.hid (HKA.out.below (show Below wA.heap.size wA (wA.drewN nq) from ⟨rfl, rfl, rfl, Nat.le_refl _, fun _ _ => rfl⟩))
      have HBd := Lib.hid (show Below dB w (wA.drewN nq) from ⟨HBA.out.os, HBA.out.tape, HBA.out.output, HBA.out.size, HBA.out.block⟩)
      obtain ⟨E, hj, hof⟩ := HKd.out.to hb1 h12 h2c hcb
      have HDe := Lib.hid (HDD.out _ _ _ E _ _ _ hb1 hj)
      have Hof := Lib.hid hof
      clear HKA HBA HT HF HDD hj hof HKd
      go_wp2_with fail
      refine HDe.out.mono ?_
      rintro e w' ⟨rfl, ⟨s', hj'⟩, hk'⟩
      have Hfin := Lib.hid (Hof.out w' s' hj' hk')
      clear HDe Hof hj' hk'
      go_wp2
      go_ret
      exact ⟨rfl, Hfin.out.1, fun B hB => (HBd.out.mono (by have := Hbw.out; omega)).trans (Hfin.out.2 B hB)⟩
  | true =>
    have HC := Lib.hid (fun (W : World) (hW : W.heap = wA.heap) => (show W.cell? ⟨c, 1, none⟩ = some (.pointer (some ⟨p2, 0, none⟩)) ∧ W.cell? ⟨c, 2, none⟩ = some (.bool up) ∧ W.cell? ⟨dB, 1, none⟩ = some (.bool true) ∧ W.cell? ⟨dB, 2, none⟩ = some (.int .i64 nn) ∧ W.cell? ⟨dB, 0, none⟩ = some (.int .u8 (kd : Int)) ∧ W.cell? ⟨dB, 3, none⟩ = some (.string tx) from by
      refine ⟨(World.cell?_of_block (congrArg (·[c]?) hW)).trans c1, (World.cell?_of_block (congrArg (·[c]?) hW)).trans c2, (World.cell?_of_block (congrArg (·[dB]?) hW)).trans e1, (World.cell?_of_block (congrArg (·[dB]?) hW)).trans e2, (World.cell?_of_block (congrArg (·[dB]?) hW)).trans e0, (World.cell?_of_block (congrArg (·[dB]?) hW)).trans e3⟩))
    cases up with
    | false =>
      unfold pipeV at HT
      rw [if_neg (by decide)] at HT
      go_quiet ((go_at_call 15; exact quiet_leftP (HT.out _)))
      have HKd := Lib.hid (HKA.out.below (show Below wA.heap.size wA (wA.drewN nq) from ⟨rfl, rfl, rfl, Nat.le_refl _, fun _ _ => rfl⟩))
      have HBd := Lib.hid (show Below dB w (wA.drewN nq) from ⟨HBA.out.os, HBA.out.tape, HBA.out.output, HBA.out.size, HBA.out.block⟩)
      have hC := HC.out (wA.drewN nq) rfl
      clear HKA HBA HT HF HDD HC c0 c1 c2 e0 e1 e2 e3
      generalize wA.drewN nq = wB at *
      obtain ⟨c1, c2, e1, e2, e0, e3⟩ := hC
      have HF := Lib.hid (fun d => lkfrom_at b false (wB.drewN d) HKd.out.lk.cells.1)
      unfold pipeV at HF
      rw [if_neg (by decide)] at HF
      go_wp2_with fail
      go_quiet ((go_at_call 16; exact quiet_leftP (HF.out _)))
      have HKe := Lib.hid (HKd.out.below (show Below wB.heap.size wB (wB.drewN nq) from ⟨rfl, rfl, rfl, Nat.le_refl _, fun _ _ => rfl⟩))
      have HBe := Lib.hid (show Below dB w (wB.drewN nq) from ⟨HBd.out.os, HBd.out.tape, HBd.out.output, HBd.out.size, HBd.out.block⟩)
      clear HKd HBd HF
      go_wp2_with fail
      refine (ppsend_nil tx _).mono ?_
      rintro e w' ⟨rfl, rfl⟩
      go_wp2_with fail
      refine (ppdel_nil nn _).mono ?_
      rintro e w' ⟨rfl, rfl⟩
      go_wp2
      go_ret
      exact ⟨rfl, ⟨x, HKe.out.more (by omega)⟩, fun B hB => HBe.out.mono (by have := Hbw.out; omega)⟩
    | true =>
      unfold pipeV at HT
      rw [if_pos rfl] at HT
      go_quiet ((go_at_call 15; exact quiet_leftP (HT.out _)))
      have HKd := Lib.hid (HKA.out.below (show Below wA.heap.size wA (wA.drewN nq) from ⟨rfl, rfl, rfl, Nat.le_refl _, fun _ _ => rfl⟩))
      have HBd := Lib.hid (show Below dB w (wA.drewN nq) from ⟨HBA.out.os, HBA.out.tape, HBA.out.output, HBA.out.size, HBA.out.block⟩)
      have hC := HC.out (wA.drewN nq) rfl
      clear HKA HBA HT HF HC c0 c1 c2 e0 e1 e2 e3
      generalize wA.drewN nq = wB at *
      obtain ⟨c1, c2, e1, e2, e0, e3⟩ := hC
      have HF := Lib.hid (fun d => lkfrom_at b true (wB.drewN d) HKd.out.lk.cells.1)
      unfold pipeV at HF
      rw [if_pos rfl] at HF
      go_wp2_with fail
      go_quiet ((go_at_call 16; exact quiet_leftP (HF.out _)))
      have HKe := Lib.hid (HKd.out.below (show Below wB.heap.size wB (wB.drewN nq) from ⟨rfl, rfl, rfl, Nat.le_refl _, fun _ _ => rfl⟩))
      have HBe := Lib.hid (show Below dB w (wB.drewN nq) from ⟨HBd.out.os, HBd.out.tape, HBd.out.output, HBd.out.size, HBd.out.block⟩)
      obtain ⟨E, hj, hof⟩ := HKe.out.from_ hb1 h12 h2c hcb
      have HDe := Lib.hid (HDD.out _ _ _ E _ _ _ (Nat.lt_trans hb1 h12) hj)
      have Hof := Lib.hid hof
      clear HKd HBd HF HDD hj hof HKe
      go_wp2_with fail
      refine HDe.out.mono ?_
      rintro e w' ⟨rfl, ⟨s', hj'⟩, hk'⟩
      have Hfin := Lib.hid (Hof.out w' s' hj' hk')
      clear HDe Hof hj' hk'
      go_wp2
      go_ret
      exact ⟨rfl, Hfin.out.1, fun B hB => (HBe.out.mono (by have := Hbw.out; omega)).trans (Hfin.out.2 B hB)⟩
end Go.Proofs.Ytecelklpeealaaa
