/-
  The program's layer 25 (message): Right, by its walk. No condition.
-/
import Derived.Test.YtfopnbfaaikghaaMd
namespace Go.Proofs.Ytfopnbfaaikghaa
open Go.RowKit

/-- The cells of a message, of a body in memory. -/
theorem MsRow.cells {w : World} {g : Nat} {m : Msg} (h : Row w g 24 (msL m)) :
    w.cell? ⟨g, 0, none⟩ = some (.int .i64 m.kind) ∧ w.cell? ⟨g, 1, none⟩ = some (.int .i64 m.next) ∧ w.cell? ⟨g, 2, none⟩ = some (.int .i64 m.epoch) ∧ w.cell? ⟨g, 3, none⟩ = some (.int .i64 m.size) ∧ w.cell? ⟨g, 4, none⟩ = some (.int .u64 (m.sum : Int)) ∧ w.cell? ⟨g, 5, none⟩ = some (.string (strOf m.data)) :=
  ⟨h.cell 0, h.cell 1, h.cell 2, h.cell 3, h.cell 4, h.cell 5⟩
theorem BdRow.cells {w : World} {g : Nat} {b : Bdy} (h : Row w g 44 (bdL b)) :
    w.cell? ⟨g, 0, none⟩ = some (.int .i64 b.next.least) ∧ w.cell? ⟨g, 1, none⟩ = some (.int .i64 b.next.most) ∧ w.cell? ⟨g, 2, none⟩ = some (.int .i64 b.epoch.least) ∧ w.cell? ⟨g, 3, none⟩ = some (.int .i64 b.epoch.most) ∧ w.cell? ⟨g, 4, none⟩ = some (.int .i64 b.size.least) ∧ w.cell? ⟨g, 5, none⟩ = some (.int .i64 b.size.most) ∧ w.cell? ⟨g, 6, none⟩ = some (.bool b.sum) ∧ w.cell? ⟨g, 7, none⟩ = some (.int .i64 b.data.least) ∧ w.cell? ⟨g, 8, none⟩ = some (.int .i64 b.data.most) :=
  ⟨h.cell 0, h.cell 1, h.cell 2, h.cell 3, h.cell 4, h.cell 5, h.cell 6, h.cell 7, h.cell 8⟩
theorem kept {w w' : World} {g : Nat} {t : TypeId} {cs : List Value} (h : Row w g t cs) (hb : Below w.heap.size w w') : Row w' g t cs := h.keep (hb.block _ h.lt)

/-- A message and a body in memory, both the call's own. -/
structure RMB (w : World) (g h : Nat) (m : Msg) (b : Bdy) (W : World) : Prop where
  ms : Row W g 24 (msL m)
  bd : Row W h 44 (bdL b)
  below : Below w.heap.size w W
theorem RMB.keep {w W W' : World} {g h : Nat} {m : Msg} {b : Bdy} (H : RMB w g h m b W) (hb : Below W.heap.size W W') : RMB w g h m b W' :=
  ⟨kept H.ms hb, kept H.bd hb, H.below.trans (hb.mono H.below.size)⟩

set_option maxHeartbeats 4000000 in
set_option maxRecDepth 100000 in
theorem mgright_any (m : Msg) (w : World) : Calls Try.prog 10 #[msV m] w fun e w' => e = .returned (.bool (rightM m)) ∧ Below w.heap.size w w' := by
  have Hb := Lib.hid (fun W => mgbody_any m.kind W)
  have hR : rightM m = ((bodyK m.kind).isSome && (((bodyK m.kind).getD zbd).next.has m.next && (((bodyK m.kind).getD zbd).epoch.has m.epoch && (((bodyK m.kind).getD zbd).size.has m.size &&
    ((((bodyK m.kind).getD zbd).sum || decide (m.sum = 0)) && ((bodyK m.kind).getD zbd).data.has (m.data.length : Int)))))) := rfl
  rw [hR]
  clear hR
  generalize (bodyK m.kind).isSome = ok at *
  generalize (bodyK m.kind).getD zbd = b at *
  have HH1 := Lib.hid (fun W => mghas_any b.next m.next W)
  have HH2 := Lib.hid (fun W => mghas_any b.epoch m.epoch W)
  have HH3 := Lib.hid (fun W => mghas_any b.size m.size W)
  have HH4 := Lib.hid (fun W => mghas_any b.data (m.data.length : Int) W)
  generalize b.next.has m.next = h1 at *
  generalize b.epoch.has m.epoch = h2 at *
  generalize b.size.has m.size = h3 at *
  generalize b.data.has (m.data.length : Int) = h4 at *
  have hsz := strOf_size m.data
  have hm0 : Row (w.alloc (.cells (msL m).toArray 24)) w.heap.size 24 (msL m) := Row.new w _ _
  unfold spV at HH1 HH2 HH3 HH4
  unfold bdV at Hb
  unfold msV
  obtain ⟨c0, _, _, _, _, _⟩ := MsRow.cells hm0
  have Hm0 := Lib.hid hm0
  go_enter Try.func10, Try.ntmps10
  dsimp only [msL, bdL] at *
  go_wp2_with fail
  refine (Hb.out _).mono ?_
  rintro e w1 ⟨rfl, g1⟩
  have hB1 : Below w.heap.size w w1 := ((Below.refl _ _).alloc (Nat.le_refl _) _).trans (g1.mono (Nat.le_of_lt (by simp)))
  have hm1 := kept Hm0.out g1
  obtain ⟨W2, hW2⟩ : ∃ W2, W2 = w1.alloc (.cells (bdL b).toArray 44) := ⟨_, rfl⟩
  have H2 : Hid (RMB w w.heap.size w1.heap.size m b W2) := Lib.hid (by rw [hW2]; exact ⟨hm1.alloc _, Row.new w1 _ _, hB1.alloc hB1.size _⟩)
  have hlt : w.heap.size < w1.heap.size := hm1.lt
  clear hm0 hm1 hB1 c0 Hm0
  dsimp only [bdL] at hW2
  cases ok
  · go_wp2
    rw [← hW2]
    go_ret
    exact ⟨rfl, H2.out.below⟩
  obtain ⟨c0, c1, c2, c3, c4, c5⟩ := MsRow.cells H2.out.ms
  obtain ⟨d0, d1, d2, d3, d4, d5, d6, d7, d8⟩ := BdRow.cells H2.out.bd
  rw [hW2] at c0 c1 c2 c3 c4 c5 d0 d1 d2 d3 d4 d5 d6 d7 d8
  go_wp2_with fail
  rw [← hW2]
  clear c0 c1 c2 c3 c4 c5 d0 d1 d2 d3 d4 d5 d6 d7 d8 hW2
  refine (HH1.out _).mono ?_
  rintro e w3 ⟨rfl, g3⟩
  have H3 := Lib.hid (H2.out.keep g3)
  clear g3 H2 g1
  cases h1
  · go_wp2
    go_ret
    exact ⟨rfl, H3.out.below⟩
  obtain ⟨c0, c1, c2, c3, c4, c5⟩ := MsRow.cells H3.out.ms
  obtain ⟨d0, d1, d2, d3, d4, d5, d6, d7, d8⟩ := BdRow.cells H3.out.bd
  go_wp2_with fail
  clear c0 c1 c2 c3 c4 c5 d0 d1 d2 d3 d4 d5 d6 d7 d8
  refine (HH2.out _).mono ?_
  rintro e w4 ⟨rfl, g4⟩
  have H4 := Lib.hid (H3.out.keep g4)
  clear g4 H3
  cases h2
  · go_wp2
    go_ret
    exact ⟨rfl, H4.out.below⟩
  obtain ⟨c0, c1, c2, c3, c4, c5⟩ := MsRow.cells H4.out.ms
  obtain ⟨d0, d1, d2, d3, d4, d5, d6, d7, d8⟩ := BdRow.cells H4.out.bd
  go_wp2_with fail
  clear c0 c1 c2 c3 c4 c5 d0 d1 d2 d3 d4 d5 d6 d7 d8
  refine (HH3.out _).mono ?_
  rintro e w5 ⟨rfl, g5⟩
  have H5 := Lib.hid (H4.out.keep g5)
  clear g5 H4
  cases h3
  · go_wp2
    go_ret
    exact ⟨rfl, H5.out.below⟩
  obtain ⟨c0, c1, c2, c3, c4, c5⟩ := MsRow.cells H5.out.ms
  obtain ⟨d0, d1, d2, d3, d4, d5, d6, d7, d8⟩ := BdRow.cells H5.out.bd
  generalize hsm : b.sum = sm at *
  cases sm
  · by_cases hs0 : m.sum = 0
    · rw [hs0] at c4
      go_wp2_with fail
      refine (HH4.out _).mono ?_
      rintro e w6 ⟨rfl, g6⟩
      have H6 := Lib.hid (H5.out.keep g6)
      go_wp2
      go_ret
      exact ⟨by simp [hsm, hs0], H6.out.below⟩
    · have hs1 : ¬ ((m.sum : Int) = 0) := by omega
      go_wp2
      go_ret
      exact ⟨by simp [hsm, hs0], H5.out.below⟩
  · go_wp2_with fail
    refine (HH4.out _).mono ?_
    rintro e w6 ⟨rfl, g6⟩
    have H6 := Lib.hid (H5.out.keep g6)
    go_wp2
    go_ret
    exact ⟨by simp [hsm], H6.out.below⟩
end Go.Proofs.Ytfopnbfaaikghaa
