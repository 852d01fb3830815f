/-
  The program's layer 25 (message): Decode, by its walk. Conditions: the body's bytes are bytes, and no more than can be.
-/
import Derived.Test.YtfopnbfaaikghaaMi
import Derived.Deep.DeepCutAuto
namespace Go.Proofs.Ytfopnbfaaikghaa
open Go.RowKit

set_option maxHeartbeats 2000000 in
set_option maxRecDepth 100000 in
theorem mgdec_any (k : Int) (s : List Nat) (w : World) (hs : ∀ x ∈ s, x < 256) (hl : s.length ≤ 1000000) :
    Calls Try.prog 12 #[.agg #[.int .i64 k, .string (strOf s)]] w fun e w' => e = .returned (.tuple #[msV ((decP k s).getD zms), .int .i64 (if (decP k s).isSome = true then 0 else 3)]) ∧ Below w.heap.size w w' := by
  have HB := Lib.hid (fun W => mgbody_any k W)
  have hbo := body_getD k
  have hD : decP k s = if (bodyK k).isSome = true then ((bodyK k).getD zbd).dec k s else none := rfl
  have HRm : Hid (∀ (m : Msg), m.kind = k → rightM m = ((bodyK k).isSome && ((bodyK k).getD zbd).right m)) := Lib.hid (fun m e => by unfold rightM; rw [e])
  generalize (bodyK k).getD zbd = b at *
  generalize (bodyK k).isSome = ok at *
  generalize decP k s = dd at *
  have o0 : OkL (some s) := ⟨hs, by omega⟩
  have o1 : OkL (b.st1 s) := ok_take hbo.1 o0
  have o2 : OkL (b.st2 s) := ok_take hbo.2.1 o1
  have o3 : OkL (b.st3 s) := ok_take hbo.2.2.1 o2
  have o4 : OkL (b.st4 s) := ok_sumT o3
  have T1 : Hid (∀ W q, CR W q (some s) → Calls Try.prog 27 #[spV b.next, .pointer (some ⟨q, 0, none⟩)] W fun e w' => e = .returned (.int .i64 (b.msg k s).next) ∧ CR w' q (b.st1 s) ∧ W.grownBy w' (some q)) := Lib.hid (fun W q hc => mgtake_any b.next q (some s) W hbo.1 o0 hc)
  have T2 : Hid (∀ W q, CR W q (b.st1 s) → Calls Try.prog 27 #[spV b.epoch, .pointer (some ⟨q, 0, none⟩)] W fun e w' => e = .returned (.int .i64 (b.msg k s).epoch) ∧ CR w' q (b.st2 s) ∧ W.grownBy w' (some q)) := Lib.hid (fun W q hc => mgtake_any b.epoch q _ W hbo.2.1 o1 hc)
  have T3 : Hid (∀ W q, CR W q (b.st2 s) → Calls Try.prog 27 #[spV b.size, .pointer (some ⟨q, 0, none⟩)] W fun e w' => e = .returned (.int .i64 (b.msg k s).size) ∧ CR w' q (b.st3 s) ∧ W.grownBy w' (some q)) := Lib.hid (fun W q hc => mgtake_any b.size q _ W hbo.2.2.1 o2 hc)
  have T4 : Hid (b.sum = true → ∀ W q, CR W q (b.st3 s) → Calls Try.prog 28 #[.pointer (some ⟨q, 0, none⟩), .int .i64 8] W fun e w' => e = .returned (.int .u64 ((b.msg k s).sum : Int)) ∧ CR w' q (b.st4 s) ∧ W.grownBy w' (some q)) := Lib.hid (fun hb W q hc => by
    have h1 := rfixed_any q (b.st3 s) 8 W (by decide) (by decide) o3 hc
    have h2 : sumT b.sum (b.st3 s) = (Bm.valB (rawS (fx 8) (b.st3 s)).1, (rawS (fx 8) (b.st3 s)).2) := by unfold sumT; rw [if_pos hb]; rfl
    have h3 : (b.msg k s).sum = Bm.valB (rawS (fx 8) (b.st3 s)).1 := congrArg Prod.fst h2
    have h4 : b.st4 s = (rawS (fx 8) (b.st3 s)).2 := congrArg Prod.snd h2
    rw [h3, h4]
    exact h1)
  have T4' : Hid (b.sum = false → (b.msg k s).sum = 0 ∧ b.st4 s = b.st3 s) := Lib.hid (fun hb => by
    have h2 : sumT b.sum (b.st3 s) = (0, b.st3 s) := by unfold sumT; rw [if_neg (by rw [hb]; simp)]
    exact ⟨congrArg Prod.fst h2, congrArg Prod.snd h2⟩)
  have HT := Lib.hid (fun W => mgthere_any b.data W)
  have T5 : Hid (b.data.there = true → ∀ W q, CR W q (b.st4 s) → Calls Try.prog 30 #[.pointer (some ⟨q, 0, none⟩), .int .i64 b.data.most] W fun e w' => e = .returned (.string (strOf (b.msg k s).data)) ∧ CR w' q (b.st5 s) ∧ W.grownBy w' (some q)) := Lib.hid (fun hb W q hc => by
    have h1 := rtext_any q (b.st4 s) b.data.most W (by have := hbo.2.2.2.1.2.1; omega) (by have := hbo.2.2.2.1.2.2; omega) o4 hc
    have h2 : dataT b.data (b.st4 s) = textS b.data.most (b.st4 s) := by unfold dataT; rw [if_pos hb]
    have h3 : (b.msg k s).data = (textS b.data.most (b.st4 s)).1 := congrArg Prod.fst h2
    have h4 : b.st5 s = (textS b.data.most (b.st4 s)).2 := congrArg Prod.snd h2
    rw [h3, h4]
    exact h1)
  have hdl : b.data.there = true → (strOf (b.msg k s).data).size ≤ 281474976710656 := fun hb => by
    rw [strOf_size]
    have h2 : dataT b.data (b.st4 s) = textS b.data.most (b.st4 s) := by unfold dataT; rw [if_pos hb]
    have h3 : (b.msg k s).data = (textS b.data.most (b.st4 s)).1 := congrArg Prod.fst h2
    rw [h3]
    have h5 := (ok_raw (n := (intS b.data.most (b.st4 s)).1) (ok_int (most := b.data.most) o4 (by have := hbo.2.2.2.1.2.2; omega)).1).2.2
    have h6 := (ok_int o4 (show b.data.most ≤ 9223372036854775807 by have := hbo.2.2.2.1.2.2; omega)).2
    have h7 : ((intS b.data.most (b.st4 s)).1 : Int) ≤ b.data.most := by
      have := hbo.2.2.2.1.2.1
      unfold intS
      split
      · simpa using this
      · omega
    have h8 := hbo.2.2.2.2
    show (rawS (intS b.data.most (b.st4 s)).1 (intS b.data.most (b.st4 s)).2).1.length ≤ _
    omega
  have T6 : Hid (b.data.there = true → ∀ W, Calls Try.prog 29 #[.string (strOf (b.msg k s).data)] W fun e w' => e = .returned (.string (strOf (b.msg k s).data)) ∧ Below W.heap.size W w') := Lib.hid (fun hb W => sclone_any _ W (hdl hb))
  have T5' : Hid (b.data.there = false → (b.msg k s).data = [] ∧ b.st5 s = b.st4 s) := Lib.hid (fun hb => by
    have h2 : dataT b.data (b.st4 s) = ([], b.st4 s) := by unfold dataT; rw [if_neg (by rw [hb]; simp)]
    exact ⟨congrArg Prod.fst h2, congrArg Prod.snd h2⟩)
  have T7 : Hid (∀ W q, CR W q (b.st5 s) → Calls Try.prog 31 #[.pointer (some ⟨q, 0, none⟩)] W fun e w' => e = .returned (.bool (decide (b.st5 s = some []))) ∧ W = w') := Lib.hid (fun W q hc => rdone_any q _ W hc)
  have hkk : (b.msg k s).kind = k := rfl
  have T8 := Lib.hid (fun W => mgright_any (b.msg k s) W)
  have hDD : Hid (dd = if ok = true then (if b.st5 s = some [] ∧ b.right (b.msg k s) = true then some (b.msg k s) else none) else none) := Lib.hid hD
  have HRm2 := Lib.hid (HRm.out (b.msg k s) hkk)
  clear hD hs hl o0 o1 o2 o3 o4 hbo hdl HRm
  generalize b.st5 s = s5 at *
  generalize b.st4 s = s4 at *
  generalize b.st3 s = s3 at *
  generalize b.st2 s = s2 at *
  generalize b.st1 s = s1 at *
  generalize b.right (b.msg k s) = br at *
  generalize b.msg k s = m at *
  generalize b.data.there = dt at *
  obtain ⟨R, hR⟩ : ∃ R, R = Value.tuple #[msV (dd.getD zms), .int .i64 (if dd.isSome = true then 0 else 3)] := ⟨_, rfl⟩
  rw [← hR]
  have HNone : Hid (dd = none → R = .tuple #[.agg zmL.toArray, .int .i64 3]) := Lib.hid (fun e => by rw [hR, e]; rfl)
  have HSome : Hid (dd = some m → R = .tuple #[.agg (msL m).toArray, .int .i64 0]) := Lib.hid (fun e => by rw [hR, e]; rfl)
  clear hR
  have HkM := Lib.hid hkk
  clear hkk
  obtain ⟨t, ht⟩ : ∃ t, t = strOf s := ⟨_, rfl⟩
  have Hnew := Lib.hid (fun W => cnew_any s W)
  rw [← ht] at Hnew ⊢
  clear ht
  have hf0 : Row ((w.alloc (.cells #[.int .i64 k, .string t] 28)).alloc (.cells zmL.toArray 24)) w.heap.size 28 [.int .i64 k, .string t] := (Row.new w _ _).alloc _
  have hm0 : Row ((w.alloc (.cells #[.int .i64 k, .string t] 28)).alloc (.cells zmL.toArray 24)) (w.heap.size + 1) 24 zmL := by
    have h1 := Row.new (w.alloc (.cells #[.int .i64 k, .string t] 28)) 24 zmL
    rw [show (w.alloc (.cells #[.int .i64 k, .string t] 28)).heap.size = w.heap.size + 1 by simp] at h1
    exact h1
  have hb0 : Below w.heap.size w ((w.alloc (.cells #[.int .i64 k, .string t] 28)).alloc (.cells zmL.toArray 24)) := ((Below.refl _ _).alloc (Nat.le_refl _) _).alloc (by simp) _
  obtain ⟨W0, hW0⟩ : ∃ W0, W0 = (w.alloc (.cells #[.int .i64 k, .string t] 28)).alloc (.cells zmL.toArray 24) := ⟨_, rfl⟩
  rw [← hW0] at hf0 hm0 hb0
  have Hf0 := Lib.hid hf0
  have Hm0 := Lib.hid hm0
  have Hb0 := Lib.hid hb0
  have c0 := hf0.cell 0
  have c1 := hf0.cell 1
  simp only [List.getElem?_cons_zero, List.getElem?_cons_succ] at c0 c1
  rw [hW0] at c0 c1
  clear hf0 hm0 hb0
  unfold msV bdV spV at *
  dsimp only [msL, bdL, zmL] at *
  go_enter Try.func12, Try.ntmps12
  go_wp2_with fail
  rw [← hW0]
  refine (HB.out W0).mono ?_
  rintro e w1 ⟨rfl, g1⟩
  have Hf1 := Lib.hid (kept Hf0.out g1)
  have Hm1 := Lib.hid (kept Hm0.out g1)
  have Hb1 := Lib.hid (Hb0.out.trans (g1.mono Hb0.out.size))
  clear c0 c1 g1 hW0 Hf0 Hm0 Hb0
  have hlt1 : w.heap.size + 1 < w1.heap.size := Hm1.out.lt
  obtain ⟨W2, hW2⟩ : ∃ W2, W2 = w1.alloc (.cells (bdL b).toArray 44) := ⟨_, rfl⟩
  have Hf2 : Hid (Row W2 w.heap.size 28 [.int .i64 k, .string t]) := Lib.hid (by rw [hW2]; exact Hf1.out.alloc _)
  have Hm2 : Hid (Row W2 (w.heap.size + 1) 24 zmL) := Lib.hid (by rw [hW2]; exact Hm1.out.alloc _)
  have Hb2 : Hid (Row W2 w1.heap.size 44 (bdL b)) := Lib.hid (by rw [hW2]; exact Row.new w1 _ _)
  have HB2 : Hid (Below w.heap.size w W2) := Lib.hid (by rw [hW2]; exact Hb1.out.alloc Hb1.out.size _)
  have hsz2 : W2.heap.size = w1.heap.size + 1 := by rw [hW2]; simp
  dsimp only [bdL] at hW2
  clear Hf1 Hm1 Hb1
  go_upto_region 2 with fail
  rw [← hW2]
  clear hW2
  generalize w1.heap.size = u at *
  cases ok
  · have hdn : dd = none := by rw [hDD.out, if_neg (by simp)]
    have hr7 := ms_row Hm2.out rfl (.int .i64 0) (.int .i64 0) (.int .i64 0) (.int .i64 0) (.int .u64 0) (.string ⟨#[]⟩)
    have hb7 := HB2.out.trans (below_grown (ms_grown _ (w.heap.size + 1) (.int .i64 0) (.int .i64 0) (.int .i64 0) (.int .i64 0) (.int .u64 0) (.string ⟨#[]⟩)) (by omega) HB2.out.size)
    have Hr7 := Lib.hid hr7
    have Hb7 := Lib.hid hb7
    clear hr7 hb7
    obtain ⟨e0, e1, e2, e3, e4, e5⟩ := ZmRow.cells Hm2.out
    obtain ⟨f0, f1, f2, f3, f4, f5⟩ := Ms.free Hm2.out
    go_wp2
    obtain ⟨x0, x1, x2, x3, x4, x5⟩ := Ms6.cells Hr7.out
    refine bodyPost_ret (v := .tuple #[.agg #[.int .i64 0, .int .i64 0, .int .i64 0, .int .i64 0, .int .u64 0, .string ⟨#[]⟩], .int .i64 3]) (by simp [results, Try.results12, go_sem, x0, x1, x2, x3, x4, x5]) rfl ⟨congrArg Ending.returned (HNone.out hdn).symm, Hb7.out⟩
  · have c0 : W2.cell? ⟨w.heap.size, 0, none⟩ = some (.int .i64 k) := Hf2.out.cell 0
    have c1 : W2.cell? ⟨w.heap.size, 1, none⟩ = some (.string t) := Hf2.out.cell 1
    go_wp2_with fail
    clear c0 c1
    refine (Hnew.out W2).mono ?_
    rintro e w3 ⟨rfl, hcr, g3⟩
    have H3 : Hid (DeP w w.heap.size (w.heap.size + 1) u (u + 1) k t b (some s) w3) := Lib.hid (by
      rw [hsz2] at hcr
      exact ⟨kept Hf2.out g3, kept Hm2.out g3, kept Hb2.out g3, hcr, HB2.out.trans (g3.mono HB2.out.size), ⟨by omega, by omega, by omega, by omega, by omega⟩⟩)
    rw [hsz2]
    clear hcr g3 Hf2 Hm2 Hb2 HB2 hsz2 Hnew HB
    go_upto_region 5 with fail
    go_cut [7] (fun s7 wx => ∃ p, s7 = .pointer (some ⟨p, 0, none⟩) ∧ Hid (DeS w w.heap.size (w.heap.size + 1) u (u + 1) p k t b s3 [.int .i64 k, .int .i64 m.next, .int .i64 m.epoch, .int .i64 m.size, .int .u64 0, .string ⟨#[]⟩] wx))
    case first =>
      refine wp_region_held_drew (S := (fun W : World => W.cell? ⟨w.heap.size, 0, none⟩ = some (.int .i64 k) ∧ W.cell? ⟨u, 0, none⟩ = some (.int .i64 b.next.least) ∧ W.cell? ⟨u, 1, none⟩ = some (.int .i64 b.next.most) ∧ W.cell? ⟨u, 2, none⟩ = some (.int .i64 b.epoch.least) ∧ W.cell? ⟨u, 3, none⟩ = some (.int .i64 b.epoch.most) ∧ W.cell? ⟨u, 4, none⟩ = some (.int .i64 b.size.least) ∧ W.cell? ⟨u, 5, none⟩ = some (.int .i64 b.size.most))) (by kernel_rfl) (by exact H3.out.held) (fun hHeld => ?_)
      have H4 := Lib.hid H3.out.drew
      refine wpAnyH_take (i := 0) (oi := { dst := some 20, op := Go.Op.fieldAddr 28 (Go.Operand.tmp 1) 0, type := 0, pos := "message.go:66", after := #[], guard := none }) (v := ?_) rfl (by kernel_rfl) (by kernel_rfl) (by kernel_rfl) (fun _ _ _ h => h) (Or.inl ⟨by rfl, ?_⟩) (by assumption) ?_
      rotate_left
      · (intro w hSw; (try dsimp only at hSw); go_simp; (try with_reducible rfl))
      try simp only [Act.put, List.setIfInBounds_toArray, List.set_cons_zero, List.set_cons_succ]
      refine wpAnyH_take (i := 1) (oi := { dst := some 21, op := Go.Op.load 3 (Go.Operand.tmp 20), type := 3, pos := "message.go:66", after := #[{ on := 0, ground := Go.Ground.data }], guard := none }) (v := ?_) rfl (by kernel_rfl) (by kernel_rfl) (by kernel_rfl) (fun _ _ _ h => h) (Or.inl ⟨by rfl, ?_⟩) (by assumption) ?_
      rotate_left
      · (intro w hSw; (try dsimp only at hSw); go_simp; (try with_reducible rfl))
      try simp only [Act.put, List.setIfInBounds_toArray, List.set_cons_zero, List.set_cons_succ]
      refine wpAnyH_take (i := 2) (oi := { dst := some 22, op := Go.Op.fieldAddr 44 (Go.Operand.tmp 4) 0, type := 0, pos := "message.go:66", after := #[], guard := none }) (v := ?_) rfl (by kernel_rfl) (by kernel_rfl) (by kernel_rfl) (fun _ _ _ h => h) (Or.inl ⟨by rfl, ?_⟩) (by assumption) ?_
      rotate_left
      · (intro w hSw; (try dsimp only at hSw); go_simp; (try with_reducible rfl))
      try simp only [Act.put, List.setIfInBounds_toArray, List.set_cons_zero, List.set_cons_succ]
      refine wpAnyH_take (i := 3) (oi := { dst := some 23, op := Go.Op.load 42 (Go.Operand.tmp 22), type := 42, pos := "message.go:66", after := #[{ on := 2, ground := Go.Ground.data }], guard := none }) (v := ?_) rfl (by kernel_rfl) (by kernel_rfl) (by kernel_rfl) (fun _ _ _ h => h) (Or.inl ⟨by rfl, ?_⟩) (by assumption) ?_
      rotate_left
      · (intro w hSw; (try dsimp only at hSw); go_simp; (try with_reducible rfl))
      try simp only [Act.put, List.setIfInBounds_toArray, List.set_cons_zero, List.set_cons_succ]
      refine wpAnyH_take (i := 4) (oi := { dst := some 24, op := Go.Op.move (Go.Operand.tmp 6), type := 60, pos := "message.go:66", after := #[], guard := none }) (v := ?_) rfl (by kernel_rfl) (by kernel_rfl) (by kernel_rfl) (fun _ _ _ h => h) (Or.inl ⟨by rfl, ?_⟩) (by assumption) ?_
      rotate_left
      · (intro w hSw; (try dsimp only at hSw); go_simp; (try with_reducible rfl))
      try simp only [Act.put, List.setIfInBounds_toArray, List.set_cons_zero, List.set_cons_succ]
      refine wpAnyH_take (i := 6) (oi := { dst := some 26, op := Go.Op.fieldAddr 44 (Go.Operand.tmp 4) 1, type := 0, pos := "message.go:66", after := #[], guard := none }) (v := ?_) rfl (by kernel_rfl) (by kernel_rfl) (by kernel_rfl) (fun _ _ _ h => h) (Or.inl ⟨by rfl, ?_⟩) (by assumption) ?_
      rotate_left
      · (intro w hSw; (try dsimp only at hSw); go_simp; (try with_reducible rfl))
      try simp only [Act.put, List.setIfInBounds_toArray, List.set_cons_zero, List.set_cons_succ]
      refine wpAnyH_take (i := 7) (oi := { dst := some 27, op := Go.Op.load 42 (Go.Operand.tmp 26), type := 42, pos := "message.go:66", after := #[{ on := 6, ground := Go.Ground.data }], guard := none }) (v := ?_) rfl (by kernel_rfl) (by kernel_rfl) (by kernel_rfl) (fun _ _ _ h => h) (Or.inl ⟨by rfl, ?_⟩) (by assumption) ?_
      rotate_left
      · (intro w hSw; (try dsimp only at hSw); go_simp; (try with_reducible rfl))
      try simp only [Act.put, List.setIfInBounds_toArray, List.set_cons_zero, List.set_cons_succ]
      refine wpAnyH_take (i := 8) (oi := { dst := some 28, op := Go.Op.move (Go.Operand.tmp 6), type := 60, pos := "message.go:66", after := #[], guard := none }) (v := ?_) rfl (by kernel_rfl) (by kernel_rfl) (by kernel_rfl) (fun _ _ _ h => h) (Or.inl ⟨by rfl, ?_⟩) (by assumption) ?_
      rotate_left
      · (intro w hSw; (try dsimp only at hSw); go_simp; (try with_reducible rfl))
      try simp only [Act.put, List.setIfInBounds_toArray, List.set_cons_zero, List.set_cons_succ]
      refine wpAnyH_take (i := 10) (oi := { dst := some 30, op := Go.Op.fieldAddr 44 (Go.Operand.tmp 4) 2, type := 0, pos := "message.go:66", after := #[], guard := none }) (v := ?_) rfl (by kernel_rfl) (by kernel_rfl) (by kernel_rfl) (fun _ _ _ h => h) (Or.inl ⟨by rfl, ?_⟩) (by assumption) ?_
      rotate_left
      · (intro w hSw; (try dsimp only at hSw); go_simp; (try with_reducible rfl))
      try simp only [Act.put, List.setIfInBounds_toArray, List.set_cons_zero, List.set_cons_succ]
      refine wpAnyH_take (i := 11) (oi := { dst := some 31, op := Go.Op.load 42 (Go.Operand.tmp 30), type := 42, pos := "message.go:66", after := #[{ on := 10, ground := Go.Ground.data }], guard := none }) (v := ?_) rfl (by kernel_rfl) (by kernel_rfl) (by kernel_rfl) (fun _ _ _ h => h) (Or.inl ⟨by rfl, ?_⟩) (by assumption) ?_
      rotate_left
      · (intro w hSw; (try dsimp only at hSw); go_simp; (try with_reducible rfl))
      try simp only [Act.put, List.setIfInBounds_toArray, List.set_cons_zero, List.set_cons_succ]
      refine wpAnyH_take (i := 12) (oi := { dst := some 32, op := Go.Op.move (Go.Operand.tmp 6), type := 60, pos := "message.go:66", after := #[], guard := none }) (v := ?_) rfl (by kernel_rfl) (by kernel_rfl) (by kernel_rfl) (fun _ _ _ h => h) (Or.inl ⟨by rfl, ?_⟩) (by assumption) ?_
      rotate_left
      · (intro w hSw; (try dsimp only at hSw); go_simp; (try with_reducible rfl))
      try simp only [Act.put, List.setIfInBounds_toArray, List.set_cons_zero, List.set_cons_succ]
      skip -- { dst := some 29, op := Go.Op.call { callee := Go.Callee.value (Go.Operand.func 27), args := #[Go.Operand.tmp 27, Go.Operand.tmp 28], argTypes := #[42, 60] }, type := 3, pos := "message.go:66", after := #[{ on := 7, ground := Go.Ground.data }, { on := 8, ground := Go.Ground.data }, { on := 5, ground := Go.Ground.chain }], guard := none } { dst := some 33, op := Go.Op.call { callee := Go.Callee.value (Go.Operand.func 27), args := #[Go.Operand.tmp 31, Go.Operand.tmp 32], argTypes := #[42, 60] }, type := 3, pos := "message.go:66", after := #[{ on := 11, ground := Go.Ground.data }, { on := 12, ground := Go.Ground.data }, { on := 9, ground := Go.Ground.chain }], guard := none } { dst := some 34, op := Go.Op.build 24 #[(0, Go.Operand.tmp 21), (1, Go.Operand.tmp 25), (2, Go.Operand.tmp 29), (3, Go.Operand.tmp 33)], type := 24, pos := "message.go:66", after := #[{ on := 1, ground := Go.Ground.data }, { on := 5, ground := Go.Ground.data }, { on := 9, ground := Go.Ground.data }, { on := 13, ground := Go.Ground.data }], guard := none } { dst := none, op := Go.Op.store 24 (Go.Operand.tmp 7) (Go.Operand.tmp 34), type := 0, pos := "message.go:66", after := #[{ on := 15, ground := Go.Ground.data }, { on := 14, ground := Go.Ground.data }, { on := 13, ground := Go.Ground.chain }, { on := 0, ground := Go.Ground.phase }, { on := 1, ground := Go.Ground.phase }, { on := 2, ground := Go.Ground.phase }, { on := 3, ground := Go.Ground.phase }, { on := 4, ground := Go.Ground.phase }, { on := 5, ground := Go.Ground.phase }, { on := 6, ground := Go.Ground.phase }, { on := 7, ground := Go.Ground.phase }, { on := 8, ground := Go.Ground.phase }, { on := 9, ground := Go.Ground.phase }, { on := 10, ground := Go.Ground.phase }, { on := 11, ground := Go.Ground.phase }, { on := 12, ground := Go.Ground.phase }, { on := 13, ground := Go.Ground.phase }, { on := 14, ground := Go.Ground.phase }, { on := 15, ground := Go.Ground.phase }], guard := none }
      refine wpAnyH_ready (rs := [5, 15]) (by kernel_rfl) (by simp) ?_
      refine AllReadyH.cons (o := { dst := some 25, op := Go.Op.call { callee := Go.Callee.value (Go.Operand.func 27), args := #[Go.Operand.tmp 23, Go.Operand.tmp 24], argTypes := #[42, 60] }, type := 3, pos := "message.go:66", after := #[{ on := 3, ground := Go.Ground.data }, { on := 4, ground := Go.Ground.data }], guard := none }) rfl (fun K hK => ?_) (AllReadyH.cons (o := { dst := some 7, op := Go.Op.alloc 24, type := 0, pos := "message.go:66", after := #[], guard := none }) rfl (fun K hK => ?_) AllReadyH.nil)
      rotate_left
      go_simp
      have HA := Lib.hid ((H3.out.alloc zmL).drew)
      refine hK.out _ _ (by exact HA.out.base.held) (fun hHeld => ?_)
      clear hK K
      try simp only [Act.put, List.setIfInBounds_toArray, List.set_cons_zero, List.set_cons_succ]
      refine wpAnyH_ready (rs := [5]) (by kernel_rfl) (by simp) ?_
      refine AllReadyH.cons (o := { dst := some 25, op := Go.Op.call { callee := Go.Callee.value (Go.Operand.func 27), args := #[Go.Operand.tmp 23, Go.Operand.tmp 24], argTypes := #[42, 60] }, type := 3, pos := "message.go:66", after := #[{ on := 3, ground := Go.Ground.data }, { on := 4, ground := Go.Ground.data }], guard := none }) rfl (fun K hK => ?_) AllReadyH.nil
      go_simp
      (go_at_call 27; refine (T1.out _ (u + 1) HA.out.base.rd).mono ?_; rintro e w5 ⟨rfl, hc, hg⟩; have HA5 := Lib.hid (HA.out.read hc hg); clear hc hg)
      go_simp
      refine hK.out _ _ (by exact HA5.out.base.held) (fun hHeld => ?_)
      clear hK K
      try simp only [Act.put, List.setIfInBounds_toArray, List.set_cons_zero, List.set_cons_succ]
      refine wpAnyH_ready (rs := [9]) (by kernel_rfl) (by simp) ?_
      refine AllReadyH.cons (o := { dst := some 29, op := Go.Op.call { callee := Go.Callee.value (Go.Operand.func 27), args := #[Go.Operand.tmp 27, Go.Operand.tmp 28], argTypes := #[42, 60] }, type := 3, pos := "message.go:66", after := #[{ on := 7, ground := Go.Ground.data }, { on := 8, ground := Go.Ground.data }, { on := 5, ground := Go.Ground.chain }], guard := none }) rfl (fun K hK => ?_) AllReadyH.nil
      go_simp
      (go_at_call 27; refine (T2.out _ (u + 1) HA5.out.base.rd).mono ?_; rintro e w9 ⟨rfl, hc, hg⟩; have HA9 := Lib.hid (HA5.out.read hc hg); clear hc hg)
      go_simp
      refine hK.out _ _ (by exact HA9.out.base.held) (fun hHeld => ?_)
      clear hK K
      try simp only [Act.put, List.setIfInBounds_toArray, List.set_cons_zero, List.set_cons_succ]
      refine wpAnyH_ready (rs := [13]) (by kernel_rfl) (by simp) ?_
      refine AllReadyH.cons (o := { dst := some 33, op := Go.Op.call { callee := Go.Callee.value (Go.Operand.func 27), args := #[Go.Operand.tmp 31, Go.Operand.tmp 32], argTypes := #[42, 60] }, type := 3, pos := "message.go:66", after := #[{ on := 11, ground := Go.Ground.data }, { on := 12, ground := Go.Ground.data }, { on := 9, ground := Go.Ground.chain }], guard := none }) rfl (fun K hK => ?_) AllReadyH.nil
      go_simp
      (go_at_call 27; refine (T3.out _ (u + 1) HA9.out.base.rd).mono ?_; rintro e w13 ⟨rfl, hc, hg⟩; have HA13 := Lib.hid (HA9.out.read hc hg); clear hc hg; obtain ⟨e0, e1, e2, e3, e4, e5⟩ := ZmRow.cells HA13.out.ms; obtain ⟨f0, f1, f2, f3, f4, f5⟩ := Ms.free HA13.out.ms)
      go_simp
      refine hK.out _ _ (by exact HA13.out.base.held) (fun hHeld => ?_)
      clear hK K
      try simp only [Act.put, List.setIfInBounds_toArray, List.set_cons_zero, List.set_cons_succ]
      have HF := Lib.hid (HA13.out.note (ms_row HA13.out.ms rfl (.int .i64 k) (.int .i64 m.next) (.int .i64 m.epoch) (.int .i64 m.size) (.int .u64 0) (.string ⟨#[]⟩)) (ms_grown _ _ (.int .i64 k) (.int .i64 m.next) (.int .i64 m.epoch) (.int .i64 m.size) (.int .u64 0) (.string ⟨#[]⟩)))
      refine wpAnyH_take (i := 14) (oi := { dst := some 34, op := Go.Op.build 24 #[(0, Go.Operand.tmp 21), (1, Go.Operand.tmp 25), (2, Go.Operand.tmp 29), (3, Go.Operand.tmp 33)], type := 24, pos := "message.go:66", after := #[{ on := 1, ground := Go.Ground.data }, { on := 5, ground := Go.Ground.data }, { on := 9, ground := Go.Ground.data }, { on := 13, ground := Go.Ground.data }], guard := none }) (v := ?_) rfl (by kernel_rfl) (by kernel_rfl) (by kernel_rfl) (fun _ _ _ h => h) (Or.inl ⟨by rfl, ?_⟩) (by assumption) ?_
      rotate_left
      · (intro w hSw; (try dsimp only at hSw); go_simp; (try with_reducible rfl))
      try simp only [Act.put, List.setIfInBounds_toArray, List.set_cons_zero, List.set_cons_succ]
      refine wpAnyH_ready (rs := [16]) (by kernel_rfl) (by simp) ?_
      refine AllReadyH.cons (o := { dst := none, op := Go.Op.store 24 (Go.Operand.tmp 7) (Go.Operand.tmp 34), type := 0, pos := "message.go:66", after := #[{ on := 15, ground := Go.Ground.data }, { on := 14, ground := Go.Ground.data }, { on := 13, ground := Go.Ground.chain }, { on := 0, ground := Go.Ground.phase }, { on := 1, ground := Go.Ground.phase }, { on := 2, ground := Go.Ground.phase }, { on := 3, ground := Go.Ground.phase }, { on := 4, ground := Go.Ground.phase }, { on := 5, ground := Go.Ground.phase }, { on := 6, ground := Go.Ground.phase }, { on := 7, ground := Go.Ground.phase }, { on := 8, ground := Go.Ground.phase }, { on := 9, ground := Go.Ground.phase }, { on := 10, ground := Go.Ground.phase }, { on := 11, ground := Go.Ground.phase }, { on := 12, ground := Go.Ground.phase }, { on := 13, ground := Go.Ground.phase }, { on := 14, ground := Go.Ground.phase }, { on := 15, ground := Go.Ground.phase }], guard := none }) rfl (fun K hK => ?_) AllReadyH.nil
      go_simp
      refine hK.out _ _ (by exact HF.out.base.held) (fun hHeld => ?_)
      clear hK K
      try simp only [Act.put, List.setIfInBounds_toArray, List.set_cons_zero, List.set_cons_succ]
      clear e0 e1 e2 e3 e4 e5 f0 f1 f2 f3 f4 f5
      rotate_right
      go_simp
      (go_at_call 27; refine (T1.out _ (u + 1) H4.out.rd).mono ?_; rintro e w5 ⟨rfl, hc, hg⟩; have HB5 := Lib.hid (H4.out.read hc hg); clear hc hg)
      go_simp
      refine hK.out _ _ (by exact HB5.out.held) (fun hHeld => ?_)
      clear hK K
      try simp only [Act.put, List.setIfInBounds_toArray, List.set_cons_zero, List.set_cons_succ]
      refine wpAnyH_ready (rs := [9, 15]) (by kernel_rfl) (by simp) ?_
      refine AllReadyH.cons (o := { dst := some 29, op := Go.Op.call { callee := Go.Callee.value (Go.Operand.func 27), args := #[Go.Operand.tmp 27, Go.Operand.tmp 28], argTypes := #[42, 60] }, type := 3, pos := "message.go:66", after := #[{ on := 7, ground := Go.Ground.data }, { on := 8, ground := Go.Ground.data }, { on := 5, ground := Go.Ground.chain }], guard := none }) rfl (fun K hK => ?_) (AllReadyH.cons (o := { dst := some 7, op := Go.Op.alloc 24, type := 0, pos := "message.go:66", after := #[], guard := none }) rfl (fun K hK => ?_) AllReadyH.nil)
      rotate_left
      go_simp
      have HA := Lib.hid (HB5.out.alloc zmL)
      refine hK.out _ _ (by exact HA.out.base.held) (fun hHeld => ?_)
      clear hK K
      try simp only [Act.put, List.setIfInBounds_toArray, List.set_cons_zero, List.set_cons_succ]
      refine wpAnyH_ready (rs := [9]) (by kernel_rfl) (by simp) ?_
      refine AllReadyH.cons (o := { dst := some 29, op := Go.Op.call { callee := Go.Callee.value (Go.Operand.func 27), args := #[Go.Operand.tmp 27, Go.Operand.tmp 28], argTypes := #[42, 60] }, type := 3, pos := "message.go:66", after := #[{ on := 7, ground := Go.Ground.data }, { on := 8, ground := Go.Ground.data }, { on := 5, ground := Go.Ground.chain }], guard := none }) rfl (fun K hK => ?_) AllReadyH.nil
      go_simp
      (go_at_call 27; refine (T2.out _ (u + 1) HA.out.base.rd).mono ?_; rintro e w9 ⟨rfl, hc, hg⟩; have HA9 := Lib.hid (HA.out.read hc hg); clear hc hg)
      go_simp
      refine hK.out _ _ (by exact HA9.out.base.held) (fun hHeld => ?_)
      clear hK K
      try simp only [Act.put, List.setIfInBounds_toArray, List.set_cons_zero, List.set_cons_succ]
      refine wpAnyH_ready (rs := [13]) (by kernel_rfl) (by simp) ?_
      refine AllReadyH.cons (o := { dst := some 33, op := Go.Op.call { callee := Go.Callee.value (Go.Operand.func 27), args := #[Go.Operand.tmp 31, Go.Operand.tmp 32], argTypes := #[42, 60] }, type := 3, pos := "message.go:66", after := #[{ on := 11, ground := Go.Ground.data }, { on := 12, ground := Go.Ground.data }, { on := 9, ground := Go.Ground.chain }], guard := none }) rfl (fun K hK => ?_) AllReadyH.nil
      go_simp
      (go_at_call 27; refine (T3.out _ (u + 1) HA9.out.base.rd).mono ?_; rintro e w13 ⟨rfl, hc, hg⟩; have HA13 := Lib.hid (HA9.out.read hc hg); clear hc hg; obtain ⟨e0, e1, e2, e3, e4, e5⟩ := ZmRow.cells HA13.out.ms; obtain ⟨f0, f1, f2, f3, f4, f5⟩ := Ms.free HA13.out.ms)
      go_simp
      refine hK.out _ _ (by exact HA13.out.base.held) (fun hHeld => ?_)
      clear hK K
      try simp only [Act.put, List.setIfInBounds_toArray, List.set_cons_zero, List.set_cons_succ]
      have HF := Lib.hid (HA13.out.note (ms_row HA13.out.ms rfl (.int .i64 k) (.int .i64 m.next) (.int .i64 m.epoch) (.int .i64 m.size) (.int .u64 0) (.string ⟨#[]⟩)) (ms_grown _ _ (.int .i64 k) (.int .i64 m.next) (.int .i64 m.epoch) (.int .i64 m.size) (.int .u64 0) (.string ⟨#[]⟩)))
      refine wpAnyH_take (i := 14) (oi := { dst := some 34, op := Go.Op.build 24 #[(0, Go.Operand.tmp 21), (1, Go.Operand.tmp 25), (2, Go.Operand.tmp 29), (3, Go.Operand.tmp 33)], type := 24, pos := "message.go:66", after := #[{ on := 1, ground := Go.Ground.data }, { on := 5, ground := Go.Ground.data }, { on := 9, ground := Go.Ground.data }, { on := 13, ground := Go.Ground.data }], guard := none }) (v := ?_) rfl (by kernel_rfl) (by kernel_rfl) (by kernel_rfl) (fun _ _ _ h => h) (Or.inl ⟨by rfl, ?_⟩) (by assumption) ?_
      rotate_left
      · (intro w hSw; (try dsimp only at hSw); go_simp; (try with_reducible rfl))
      try simp only [Act.put, List.setIfInBounds_toArray, List.set_cons_zero, List.set_cons_succ]
      refine wpAnyH_ready (rs := [16]) (by kernel_rfl) (by simp) ?_
      refine AllReadyH.cons (o := { dst := none, op := Go.Op.store 24 (Go.Operand.tmp 7) (Go.Operand.tmp 34), type := 0, pos := "message.go:66", after := #[{ on := 15, ground := Go.Ground.data }, { on := 14, ground := Go.Ground.data }, { on := 13, ground := Go.Ground.chain }, { on := 0, ground := Go.Ground.phase }, { on := 1, ground := Go.Ground.phase }, { on := 2, ground := Go.Ground.phase }, { on := 3, ground := Go.Ground.phase }, { on := 4, ground := Go.Ground.phase }, { on := 5, ground := Go.Ground.phase }, { on := 6, ground := Go.Ground.phase }, { on := 7, ground := Go.Ground.phase }, { on := 8, ground := Go.Ground.phase }, { on := 9, ground := Go.Ground.phase }, { on := 10, ground := Go.Ground.phase }, { on := 11, ground := Go.Ground.phase }, { on := 12, ground := Go.Ground.phase }, { on := 13, ground := Go.Ground.phase }, { on := 14, ground := Go.Ground.phase }, { on := 15, ground := Go.Ground.phase }], guard := none }) rfl (fun K hK => ?_) AllReadyH.nil
      go_simp
      refine hK.out _ _ (by exact HF.out.base.held) (fun hHeld => ?_)
      clear hK K
      try simp only [Act.put, List.setIfInBounds_toArray, List.set_cons_zero, List.set_cons_succ]
      clear e0 e1 e2 e3 e4 e5 f0 f1 f2 f3 f4 f5
      rotate_right
      go_simp
      (go_at_call 27; refine (T2.out _ (u + 1) HB5.out.rd).mono ?_; rintro e w9 ⟨rfl, hc, hg⟩; have HB9 := Lib.hid (HB5.out.read hc hg); clear hc hg)
      go_simp
      refine hK.out _ _ (by exact HB9.out.held) (fun hHeld => ?_)
      clear hK K
      try simp only [Act.put, List.setIfInBounds_toArray, List.set_cons_zero, List.set_cons_succ]
      refine wpAnyH_ready (rs := [13, 15]) (by kernel_rfl) (by simp) ?_
      refine AllReadyH.cons (o := { dst := some 33, op := Go.Op.call { callee := Go.Callee.value (Go.Operand.func 27), args := #[Go.Operand.tmp 31, Go.Operand.tmp 32], argTypes := #[42, 60] }, type := 3, pos := "message.go:66", after := #[{ on := 11, ground := Go.Ground.data }, { on := 12, ground := Go.Ground.data }, { on := 9, ground := Go.Ground.chain }], guard := none }) rfl (fun K hK => ?_) (AllReadyH.cons (o := { dst := some 7, op := Go.Op.alloc 24, type := 0, pos := "message.go:66", after := #[], guard := none }) rfl (fun K hK => ?_) AllReadyH.nil)
      rotate_left
      go_simp
      have HA := Lib.hid (HB9.out.alloc zmL)
      refine hK.out _ _ (by exact HA.out.base.held) (fun hHeld => ?_)
      clear hK K
      try simp only [Act.put, List.setIfInBounds_toArray, List.set_cons_zero, List.set_cons_succ]
      refine wpAnyH_ready (rs := [13]) (by kernel_rfl) (by simp) ?_
      refine AllReadyH.cons (o := { dst := some 33, op := Go.Op.call { callee := Go.Callee.value (Go.Operand.func 27), args := #[Go.Operand.tmp 31, Go.Operand.tmp 32], argTypes := #[42, 60] }, type := 3, pos := "message.go:66", after := #[{ on := 11, ground := Go.Ground.data }, { on := 12, ground := Go.Ground.data }, { on := 9, ground := Go.Ground.chain }], guard := none }) rfl (fun K hK => ?_) AllReadyH.nil
      go_simp
      (go_at_call 27; refine (T3.out _ (u + 1) HA.out.base.rd).mono ?_; rintro e w13 ⟨rfl, hc, hg⟩; have HA13 := Lib.hid (HA.out.read hc hg); clear hc hg; obtain ⟨e0, e1, e2, e3, e4, e5⟩ := ZmRow.cells HA13.out.ms; obtain ⟨f0, f1, f2, f3, f4, f5⟩ := Ms.free HA13.out.ms)
      go_simp
      refine hK.out _ _ (by exact HA13.out.base.held) (fun hHeld => ?_)
      clear hK K
      try simp only [Act.put, List.setIfInBounds_toArray, List.set_cons_zero, List.set_cons_succ]
      have HF := Lib.hid (HA13.out.note (ms_row HA13.out.ms rfl (.int .i64 k) (.int .i64 m.next) (.int .i64 m.epoch) (.int .i64 m.size) (.int .u64 0) (.string ⟨#[]⟩)) (ms_grown _ _ (.int .i64 k) (.int .i64 m.next) (.int .i64 m.epoch) (.int .i64 m.size) (.int .u64 0) (.string ⟨#[]⟩)))
      refine wpAnyH_take (i := 14) (oi := { dst := some 34, op := Go.Op.build 24 #[(0, Go.Operand.tmp 21), (1, Go.Operand.tmp 25), (2, Go.Operand.tmp 29), (3, Go.Operand.tmp 33)], type := 24, pos := "message.go:66", after := #[{ on := 1, ground := Go.Ground.data }, { on := 5, ground := Go.Ground.data }, { on := 9, ground := Go.Ground.data }, { on := 13, ground := Go.Ground.data }], guard := none }) (v := ?_) rfl (by kernel_rfl) (by kernel_rfl) (by kernel_rfl) (fun _ _ _ h => h) (Or.inl ⟨by rfl, ?_⟩) (by assumption) ?_
      rotate_left
      · (intro w hSw; (try dsimp only at hSw); go_simp; (try with_reducible rfl))
      try simp only [Act.put, List.setIfInBounds_toArray, List.set_cons_zero, List.set_cons_succ]
      refine wpAnyH_ready (rs := [16]) (by kernel_rfl) (by simp) ?_
      refine AllReadyH.cons (o := { dst := none, op := Go.Op.store 24 (Go.Operand.tmp 7) (Go.Operand.tmp 34), type := 0, pos := "message.go:66", after := #[{ on := 15, ground := Go.Ground.data }, { on := 14, ground := Go.Ground.data }, { on := 13, ground := Go.Ground.chain }, { on := 0, ground := Go.Ground.phase }, { on := 1, ground := Go.Ground.phase }, { on := 2, ground := Go.Ground.phase }, { on := 3, ground := Go.Ground.phase }, { on := 4, ground := Go.Ground.phase }, { on := 5, ground := Go.Ground.phase }, { on := 6, ground := Go.Ground.phase }, { on := 7, ground := Go.Ground.phase }, { on := 8, ground := Go.Ground.phase }, { on := 9, ground := Go.Ground.phase }, { on := 10, ground := Go.Ground.phase }, { on := 11, ground := Go.Ground.phase }, { on := 12, ground := Go.Ground.phase }, { on := 13, ground := Go.Ground.phase }, { on := 14, ground := Go.Ground.phase }, { on := 15, ground := Go.Ground.phase }], guard := none }) rfl (fun K hK => ?_) AllReadyH.nil
      go_simp
      refine hK.out _ _ (by exact HF.out.base.held) (fun hHeld => ?_)
      clear hK K
      try simp only [Act.put, List.setIfInBounds_toArray, List.set_cons_zero, List.set_cons_succ]
      clear e0 e1 e2 e3 e4 e5 f0 f1 f2 f3 f4 f5
      rotate_right
      go_simp
      (go_at_call 27; refine (T3.out _ (u + 1) HB9.out.rd).mono ?_; rintro e w13 ⟨rfl, hc, hg⟩; have HB13 := Lib.hid (HB9.out.read hc hg); clear hc hg)
      go_simp
      refine hK.out _ _ (by exact HB13.out.held) (fun hHeld => ?_)
      clear hK K
      try simp only [Act.put, List.setIfInBounds_toArray, List.set_cons_zero, List.set_cons_succ]
      refine wpAnyH_take (i := 14) (oi := { dst := some 34, op := Go.Op.build 24 #[(0, Go.Operand.tmp 21), (1, Go.Operand.tmp 25), (2, Go.Operand.tmp 29), (3, Go.Operand.tmp 33)], type := 24, pos := "message.go:66", after := #[{ on := 1, ground := Go.Ground.data }, { on := 5, ground := Go.Ground.data }, { on := 9, ground := Go.Ground.data }, { on := 13, ground := Go.Ground.data }], guard := none }) (v := ?_) rfl (by kernel_rfl) (by kernel_rfl) (by kernel_rfl) (fun _ _ _ h => h) (Or.inl ⟨by rfl, ?_⟩) (by assumption) ?_
      rotate_left
      · (intro w hSw; (try dsimp only at hSw); go_simp; (try with_reducible rfl))
      try simp only [Act.put, List.setIfInBounds_toArray, List.set_cons_zero, List.set_cons_succ]
      refine wpAnyH_ready (rs := [15]) (by kernel_rfl) (by simp) ?_
      refine AllReadyH.cons (o := { dst := some 7, op := Go.Op.alloc 24, type := 0, pos := "message.go:66", after := #[], guard := none }) rfl (fun K hK => ?_) AllReadyH.nil
      go_simp
      refine hK.out _ _ (by exact (HB13.out.alloc zmL).base.held) (fun hHeld => ?_)
      clear hK K
      try simp only [Act.put, List.setIfInBounds_toArray, List.set_cons_zero, List.set_cons_succ]
      have HF := Lib.hid (HB13.out.alloc [.int .i64 k, .int .i64 m.next, .int .i64 m.epoch, .int .i64 m.size, .int .u64 0, .string ⟨#[]⟩])
      refine wpAnyH_ready (rs := [16]) (by kernel_rfl) (by simp) ?_
      refine AllReadyH.cons (o := { dst := none, op := Go.Op.store 24 (Go.Operand.tmp 7) (Go.Operand.tmp 34), type := 0, pos := "message.go:66", after := #[{ on := 15, ground := Go.Ground.data }, { on := 14, ground := Go.Ground.data }, { on := 13, ground := Go.Ground.chain }, { on := 0, ground := Go.Ground.phase }, { on := 1, ground := Go.Ground.phase }, { on := 2, ground := Go.Ground.phase }, { on := 3, ground := Go.Ground.phase }, { on := 4, ground := Go.Ground.phase }, { on := 5, ground := Go.Ground.phase }, { on := 6, ground := Go.Ground.phase }, { on := 7, ground := Go.Ground.phase }, { on := 8, ground := Go.Ground.phase }, { on := 9, ground := Go.Ground.phase }, { on := 10, ground := Go.Ground.phase }, { on := 11, ground := Go.Ground.phase }, { on := 12, ground := Go.Ground.phase }, { on := 13, ground := Go.Ground.phase }, { on := 14, ground := Go.Ground.phase }, { on := 15, ground := Go.Ground.phase }], guard := none }) rfl (fun K hK => ?_) AllReadyH.nil
      go_simp
      refine hK.out _ _ (by exact HF.out.base.held) (fun hHeld => ?_)
      clear hK K
      try simp only [Act.put, List.setIfInBounds_toArray, List.set_cons_zero, List.set_cons_succ]
      skip
      all_goals
        refine wpAnyH_done (by kernel_rfl) ?_ _
        clear hHeld
        go_wp2_with fail
        go_meet
        exact ⟨_, rfl, HF⟩
    case rest =>
      obtain ⟨p, rfl, H4⟩ := hcut
      have hkM := HkM.out
      rw [hkM] at T8 HSome
      clear H3 T1 T2 T3 hkM HkM
      have d6 : wc.cell? ⟨u, 6, none⟩ = some (.bool b.sum) := H4.out.base.bd.cell 6
      go_upto_if 36 with fail
      go_cut [] (fun wx => Hid (DeS w w.heap.size (w.heap.size + 1) u (u + 1) p k t b s4 [.int .i64 k, .int .i64 m.next, .int .i64 m.epoch, .int .i64 m.size, .int .u64 (m.sum : Int), .string ⟨#[]⟩] wx))
      case first =>
        rcases hsm : b.sum with _ | _
        · go_wp2_with fail
          go_meet
          rw [(T4'.out hsm).1, (T4'.out hsm).2]
          exact H4
        · have T4a := T4.out hsm wc (u + 1) H4.out.base.rd
          go_wp2_with fail
          refine T4a.mono ?_
          rintro e w5 ⟨rfl, hc, hg⟩
          have H5 := Lib.hid (H4.out.read hc hg)
          obtain ⟨e0, e1, e2, e3, e4, e5⟩ := Ms6.cells H5.out.ms
          obtain ⟨f0, f1, f2, f3, f4, f5⟩ := Ms.free H5.out.ms
          clear hc hg
          go_wp2_with fail
          go_meet
          exact Lib.hid (H5.out.note (H5.out.ms.set_ 4 (.int .u64 (m.sum : Int))) (grown_set (grown_refl _ _) 4 _))
      case rest =>
        have H5 := hcut
        clear hcut H4 T4 T4' d6
        have d7 : wc.cell? ⟨u, 7, none⟩ = some (.int .i64 b.data.least) := H5.out.base.bd.cell 7
        have d8 : wc.cell? ⟨u, 8, none⟩ = some (.int .i64 b.data.most) := H5.out.base.bd.cell 8
        go_wp2_with fail
        clear d7 d8
        refine (HT.out wc).mono ?_
        rintro e w6 ⟨rfl, g6⟩
        have H6 := Lib.hid (H5.out.quiet g6)
        clear g6 H5 HT
        go_upto_if 42 with fail
        go_cut [] (fun wx => Hid (DeS w w.heap.size (w.heap.size + 1) u (u + 1) p k t b s5 [.int .i64 k, .int .i64 m.next, .int .i64 m.epoch, .int .i64 m.size, .int .u64 (m.sum : Int), .string (strOf m.data)] wx))
        case first =>
          rcases hsm : dt with _ | _
          · go_wp2_with fail
            go_meet
            rw [(T5'.out hsm).1, (T5'.out hsm).2]
            exact H6
          · have T5a := T5.out hsm w6 (u + 1) H6.out.base.rd
            have T6a := T6.out hsm
            have d8 : w6.cell? ⟨u, 8, none⟩ = some (.int .i64 b.data.most) := H6.out.base.bd.cell 8
            go_wp2_with fail
            refine T5a.mono ?_
            rintro e w7 ⟨rfl, hc, hg⟩
            have H7 := Lib.hid (H6.out.read hc hg)
            clear hc hg d8
            go_wp2_with fail
            refine (T6a w7).mono ?_
            rintro e w8 ⟨rfl, hb⟩
            have H8 := Lib.hid (H7.out.quiet hb)
            obtain ⟨e0, e1, e2, e3, e4, e5⟩ := Ms6.cells H8.out.ms
            obtain ⟨f0, f1, f2, f3, f4, f5⟩ := Ms.free H8.out.ms
            clear hb
            go_wp2_with fail
            go_meet
            exact Lib.hid (H8.out.note (H8.out.ms.set_ 5 (.string (strOf m.data))) (grown_set (grown_refl _ _) 5 _))
        case rest =>
          have H7 := hcut
          clear hcut H6 T5 T5' T6
          go_wp2_with fail
          refine (T7.out wc (u + 1) H7.out.base.rd).mono ?_
          rintro e w' ⟨rfl, rfl⟩
          obtain ⟨c0, c1, c2, c3, c4, c5⟩ := Ms6.cells H7.out.ms
          rcases hdone : decide (s5 = some []) with _ | _
          · have hdn : dd = none := by
              rw [hDD.out, if_pos trivial, if_neg (fun h => absurd h.1 (of_decide_eq_false hdone))]
            have hr7 := ms_row H7.out.base.rs rfl (.int .i64 0) (.int .i64 0) (.int .i64 0) (.int .i64 0) (.int .u64 0) (.string ⟨#[]⟩)
            have hb7 := H7.out.base.below.trans (below_grown (ms_grown wc (w.heap.size + 1) (.int .i64 0) (.int .i64 0) (.int .i64 0) (.int .i64 0) (.int .u64 0) (.string ⟨#[]⟩)) (by omega) H7.out.base.below.size)
            have Hr7 := Lib.hid hr7
            have Hb7 := Lib.hid hb7
            clear hr7 hb7 c0 c1 c2 c3 c4 c5
            obtain ⟨e0, e1, e2, e3, e4, e5⟩ := ZmRow.cells H7.out.base.rs
            obtain ⟨f0, f1, f2, f3, f4, f5⟩ := Ms.free H7.out.base.rs
            go_wp2
            obtain ⟨x0, x1, x2, x3, x4, x5⟩ := Ms6.cells Hr7.out
            refine bodyPost_ret (v := .tuple #[.agg #[.int .i64 0, .int .i64 0, .int .i64 0, .int .i64 0, .int .u64 0, .string ⟨#[]⟩], .int .i64 3]) (by simp [results, Try.results12, go_sem, x0, x1, x2, x3, x4, x5]) rfl ⟨congrArg Ending.returned (HNone.out hdn).symm, Hb7.out⟩
          · go_wp2_with fail
            refine (T8.out wc).mono ?_
            rintro e w8 ⟨rfl, hb⟩
            have H8 := Lib.hid (H7.out.quiet hb)
            clear hb c0 c1 c2 c3 c4 c5
            have hbr := HRm2.out
            rw [Bool.true_and] at hbr
            rw [hbr]
            cases br
            · have hdn : dd = none := by
                rw [hDD.out, if_pos trivial, if_neg (fun h => absurd h.2 (by simp))]
              have hr7 := ms_row H8.out.base.rs rfl (.int .i64 0) (.int .i64 0) (.int .i64 0) (.int .i64 0) (.int .u64 0) (.string ⟨#[]⟩)
              have hb7 := H8.out.base.below.trans (below_grown (ms_grown w8 (w.heap.size + 1) (.int .i64 0) (.int .i64 0) (.int .i64 0) (.int .i64 0) (.int .u64 0) (.string ⟨#[]⟩)) (by omega) H8.out.base.below.size)
              have Hr7 := Lib.hid hr7
              have Hb7 := Lib.hid hb7
              clear hr7 hb7
              obtain ⟨e0, e1, e2, e3, e4, e5⟩ := ZmRow.cells H8.out.base.rs
              obtain ⟨f0, f1, f2, f3, f4, f5⟩ := Ms.free H8.out.base.rs
              go_wp2
              obtain ⟨x0, x1, x2, x3, x4, x5⟩ := Ms6.cells Hr7.out
              refine bodyPost_ret (v := .tuple #[.agg #[.int .i64 0, .int .i64 0, .int .i64 0, .int .i64 0, .int .u64 0, .string ⟨#[]⟩], .int .i64 3]) (by simp [results, Try.results12, go_sem, x0, x1, x2, x3, x4, x5]) rfl ⟨congrArg Ending.returned (HNone.out hdn).symm, Hb7.out⟩
            · have hdn : dd = some m := by
                rw [hDD.out, if_pos trivial, if_pos ⟨of_decide_eq_true hdone, rfl⟩]
              have hr7 := ms_row H8.out.base.rs rfl (.int .i64 k) (.int .i64 m.next) (.int .i64 m.epoch) (.int .i64 m.size) (.int .u64 (m.sum : Int)) (.string (strOf m.data))
              have hb7 := H8.out.base.below.trans (below_grown (ms_grown w8 (w.heap.size + 1) (.int .i64 k) (.int .i64 m.next) (.int .i64 m.epoch) (.int .i64 m.size) (.int .u64 (m.sum : Int)) (.string (strOf m.data))) (by omega) H8.out.base.below.size)
              have Hr7 := Lib.hid hr7
              have Hb7 := Lib.hid hb7
              clear hr7 hb7
              obtain ⟨c0, c1, c2, c3, c4, c5⟩ := Ms6.cells H8.out.ms
              obtain ⟨e0, e1, e2, e3, e4, e5⟩ := ZmRow.cells H8.out.base.rs
              obtain ⟨f0, f1, f2, f3, f4, f5⟩ := Ms.free H8.out.base.rs
              go_wp2
              obtain ⟨x0, x1, x2, x3, x4, x5⟩ := Ms6.cells Hr7.out
              refine bodyPost_ret (v := .tuple #[.agg #[.int .i64 k, .int .i64 m.next, .int .i64 m.epoch, .int .i64 m.size, .int .u64 (m.sum : Int), .string (strOf m.data)], .int .i64 0]) (by simp [results, Try.results12, go_sem, x0, x1, x2, x3, x4, x5]) rfl ⟨congrArg Ending.returned (HSome.out hdn).symm, Hb7.out⟩
end Go.Proofs.Ytfopnbfaaikghaa
