/-
  The reference of layer 25 (message): Decode, by its walk. Conditions: the body's bytes are bytes, and no more than can be.
-/
import Derived.Test.YtfopnbfaaikghaaMk
import Derived.Test.YtfopnbfaaikghaaMm
import Derived.Deep.DeepCutAuto
namespace Go.Proofs.Ytfopnbfaaikghaa
open Go.RowKit

theorem numR_len (s : List Nat) : (numR s).2.length ≤ s.length := by
  unfold numR
  split
  · exact Nat.le_refl _
  · simp
theorem numIf_lt {on : Bool} {s : List Nat} (h : ∀ x ∈ s, x < 256) : ∀ x ∈ (numIf on s).2, x < 256 := by
  unfold numIf
  split
  · exact fun x hx => h x (numR_mem s x hx)
  · exact h
theorem numIf_len {on : Bool} {s : List Nat} {L : Nat} (h : s.length ≤ L) : (numIf on s).2.length ≤ L := by
  unfold numIf
  split
  · exact Nat.le_trans (numR_len s) h
  · exact h
theorem sumIf_lt {on : Bool} {s : List Nat} (h : ∀ x ∈ s, x < 256) : ∀ x ∈ (sumIf on s).2, x < 256 := by
  unfold sumIf
  split
  · exact drop_lt h 8
  · exact h
theorem sumIf_len {on : Bool} {s : List Nat} {L : Nat} (h : s.length ≤ L) : (sumIf on s).2.length ≤ L := by
  unfold sumIf
  split
  · simp; omega
  · exact h
/-- What the reference's Decode holds: the message that it answers, the one that it makes. -/
structure RdS (w : World) (cs : List Value) (W : World) : Prop where
  rs : Row W w.heap.size 24 zmL
  ms : Row W (w.heap.size + 1) 24 cs
  below : Below w.heap.size w W
theorem RdS.quiet {w W W' : World} {cs : List Value} (H : RdS w cs W) (hb : Below W.heap.size W W') : RdS w cs W' := ⟨kept H.rs hb, kept H.ms hb, H.below.trans (hb.mono H.below.size)⟩
theorem RdS.note {w W : World} {cs : List Value} (H : RdS w cs W) (i : Nat) (v : Value) : RdS w (cs.set i v) (W.setCell ⟨w.heap.size + 1, i, none⟩ v) :=
  ⟨H.rs.far (p := ⟨w.heap.size + 1, i, none⟩) (by simp) v, H.ms.set_ i v, H.below.setCell (p := ⟨w.heap.size + 1, i, none⟩) (by simp) v⟩

set_option maxHeartbeats 2000000 in
set_option maxRecDepth 100000 in
theorem rmdec_any (k : Int) (s : List Nat) (w : World) (hs : ∀ x ∈ s, x < 256) (hl : s.length ≤ 1000000) :
    Calls Try.prog 14 #[.int .i64 k, .string (strOf s)] w fun e w' => e = .returned (.tuple #[msV ((decR k s).getD zms), .bool (decR k s).isSome]) ∧ Below w.heap.size w w' := by
  have t1 : ∀ x ∈ r1 k s, x < 256 := numIf_lt hs
  have t2 : ∀ x ∈ r2 k s, x < 256 := numIf_lt t1
  have t3 : ∀ x ∈ r3 k s, x < 256 := numIf_lt t2
  have t4 : ∀ x ∈ r4 k s, x < 256 := sumIf_lt t3
  have l1 : (r1 k s).length ≤ 1000000 := numIf_len hl
  have l2 : (r2 k s).length ≤ 1000000 := numIf_len l1
  have l3 : (r3 k s).length ≤ 1000000 := numIf_len l2
  have l4 : (r4 k s).length ≤ 1000000 := sumIf_len l3
  have N1 : Hid (onN k = true → ∀ W, Calls Try.prog 33 #[.string (strOf s)] W fun e w' => e = .returned (.tuple #[.int .i64 (msgR k s).next, .string (strOf (r1 k s))]) ∧ Below W.heap.size W w') := Lib.hid (fun h W => by
    have h1 := rmnum_any s W hs hl
    have h2 : numIf (onN k) s = numR s := by unfold numIf; rw [if_pos h]
    rw [← h2] at h1
    exact h1)
  have N1' : Hid (onN k = false → (msgR k s).next = 0 ∧ r1 k s = s) := Lib.hid (fun h => by
    have h2 : numIf (onN k) s = (0, s) := by unfold numIf; rw [if_neg (by rw [h]; simp)]
    exact ⟨congrArg Prod.fst h2, congrArg Prod.snd h2⟩)
  have N2 : Hid (onE k = true → ∀ W, Calls Try.prog 33 #[.string (strOf (r1 k s))] W fun e w' => e = .returned (.tuple #[.int .i64 (msgR k s).epoch, .string (strOf (r2 k s))]) ∧ Below W.heap.size W w') := Lib.hid (fun h W => by
    have h1 := rmnum_any (r1 k s) W t1 l1
    have h2 : numIf (onE k) (r1 k s) = numR (r1 k s) := by unfold numIf; rw [if_pos h]
    rw [← h2] at h1
    exact h1)
  have N2' : Hid (onE k = false → (msgR k s).epoch = 0 ∧ r2 k s = r1 k s) := Lib.hid (fun h => by
    have h2 : numIf (onE k) (r1 k s) = (0, r1 k s) := by unfold numIf; rw [if_neg (by rw [h]; simp)]
    exact ⟨congrArg Prod.fst h2, by unfold r2; rw [h2]⟩)
  have N3 : Hid (onZ k = true → ∀ W, Calls Try.prog 33 #[.string (strOf (r2 k s))] W fun e w' => e = .returned (.tuple #[.int .i64 (msgR k s).size, .string (strOf (r3 k s))]) ∧ Below W.heap.size W w') := Lib.hid (fun h W => by
    have h1 := rmnum_any (r2 k s) W t2 l2
    have h2 : numIf (onZ k) (r2 k s) = numR (r2 k s) := by unfold numIf; rw [if_pos h]
    rw [← h2] at h1
    exact h1)
  have N3' : Hid (onZ k = false → (msgR k s).size = 0 ∧ r3 k s = r2 k s) := Lib.hid (fun h => by
    have h2 : numIf (onZ k) (r2 k s) = (0, r2 k s) := by unfold numIf; rw [if_neg (by rw [h]; simp)]
    exact ⟨congrArg Prod.fst h2, by unfold r3; rw [h2]⟩)
  have V4 : Hid (onS k = true → ∀ W, Calls Try.prog 34 #[.string (strOf ((r3 k s).take 8))] W fun e w' => e = .returned (.int .u64 ((msgR k s).sum : Int)) ∧ W = w') := Lib.hid (fun h W => by
    have h1 := fvalue_any ((r3 k s).take 8) W (by rw [List.length_take]; omega) (take_lt t3 8)
    have h2 : sumIf (onS k) (r3 k s) = (Bm.valB ((r3 k s).take 8), (r3 k s).drop 8) := by unfold sumIf; rw [if_pos h]
    have h3 : (msgR k s).sum = Bm.valB ((r3 k s).take 8) := congrArg Prod.fst h2
    rw [h3]
    exact h1)
  have C4 : Hid (onS k = true → ¬ (r3 k s).length < 8 → (∀ W, (Instr.slice 9 (.string (strOf (r3 k s))) none (some (.int .i64 8)) none).run Try.prog W = .ok (.string (strOf ((r3 k s).take 8))) W) ∧
      ∀ W, (Instr.slice 9 (.string (strOf (r3 k s))) (some (.int .i64 8)) none none).run Try.prog W = .ok (.string (strOf (r4 k s))) W) := Lib.hid (fun h hl => by
    have h2 : sumIf (onS k) (r3 k s) = (Bm.valB ((r3 k s).take 8), (r3 k s).drop 8) := by unfold sumIf; rw [if_pos h]
    have h4 : r4 k s = (r3 k s).drop 8 := congrArg Prod.snd h2
    rw [h4]
    exact ⟨fun W => str_to (r3 k s) 8 (by omega) W, fun W => str_from (r3 k s) 8 (by omega) W⟩)
  have V4' : Hid (onS k = false → (msgR k s).sum = 0 ∧ r4 k s = r3 k s) := Lib.hid (fun h => by
    have h2 : sumIf (onS k) (r3 k s) = (0, r3 k s) := by unfold sumIf; rw [if_neg (by rw [h]; simp)]
    exact ⟨congrArg Prod.fst h2, congrArg Prod.snd h2⟩)
  have N5 := Lib.hid (fun W => rmnum_any (r4 k s) W t4 l4)
  have D5 : Hid (onD k = true → (msgR k s).data = (numR (r4 k s)).2 ∧ r5 k s = []) := Lib.hid (fun h => by
    have h2 : datIf (onD k) (r4 k s) = ((numR (r4 k s)).2, []) := by unfold datIf; rw [if_pos h]
    exact ⟨congrArg Prod.fst h2, congrArg Prod.snd h2⟩)
  have D5' : Hid (onD k = false → (msgR k s).data = [] ∧ r5 k s = r4 k s) := Lib.hid (fun h => by
    have h2 : datIf (onD k) (r4 k s) = ([], r4 k s) := by unfold datIf; rw [if_neg (by rw [h]; simp)]
    exact ⟨congrArg Prod.fst h2, congrArg Prod.snd h2⟩)
  have hD : decR k s = (if onS k = true ∧ (r3 k s).length < 8 then none
    else if onD k = true ∧ ((numR (r4 k s)).1 < 0 ∨ (numR (r4 k s)).1 ≠ ((numR (r4 k s)).2.length : Int)) then none
    else if r5 k s ≠ [] ∨ rightM (msgR k s) = false then none
    else some (msgR k s)) := rfl
  have T8 := Lib.hid (fun W => rmright_any (msgR k s) W)
  rw [right_same] at T8
  have hkk : (msgR k s).kind = k := rfl
  have hz3 := strOf_size (r3 k s)
  have hz5 := strOf_size (numR (r4 k s)).2
  have he5 := emptyB (r5 k s)
  generalize decR k s = dd at *
  generalize rightM (msgR k s) = br at *
  generalize r5 k s = x5 at *
  generalize r4 k s = x4 at *
  generalize r3 k s = x3 at *
  generalize r2 k s = x2 at *
  generalize r1 k s = x1 at *
  generalize msgR k s = m at *
  generalize (numR x4).1 = nv at *
  generalize (numR x4).2 = nr at *
  obtain ⟨R, hR⟩ : ∃ R, R = Value.tuple #[msV (dd.getD zms), .bool dd.isSome] := ⟨_, rfl⟩
  rw [← hR]
  have HNone : Hid (dd = none → R = .tuple #[.agg zmL.toArray, .bool false]) := Lib.hid (fun e => by rw [hR, e]; rfl)
  have HSome : Hid (dd = some m → R = .tuple #[.agg #[.int .i64 k, .int .i64 m.next, .int .i64 m.epoch, .int .i64 m.size, .int .u64 (m.sum : Int), .string (strOf m.data)], .bool true]) := Lib.hid (fun e => by rw [hR, e, ← hkk]; rfl)
  unfold msV at T8
  dsimp only [msL] at T8
  rw [hkk] at T8
  have HD := Lib.hid hD
  have Hz3 := Lib.hid hz3
  have Hz5 := Lib.hid hz5
  have He5 := Lib.hid he5
  clear hR hD hkk hz3 hz5 he5 t1 t2 t3 t4 l1 l2 l3 l4 hs hl
  have H0 : Hid (RdS w [.int .i64 k, .int .i64 0, .int .i64 0, .int .i64 0, .int .u64 0, .string ⟨#[]⟩] ((w.alloc (.cells zmL.toArray 24)).alloc (.cells #[.int .i64 k, .int .i64 0, .int .i64 0, .int .i64 0, .int .u64 0, .string ⟨#[]⟩] 24))) := Lib.hid (by
    have h1 := Row.new (w.alloc (.cells zmL.toArray 24)) 24 [.int .i64 k, .int .i64 0, .int .i64 0, .int .i64 0, .int .u64 0, .string ⟨#[]⟩]
    rw [show (w.alloc (.cells zmL.toArray 24)).heap.size = w.heap.size + 1 by simp] at h1
    exact ⟨(Row.new w _ _).alloc _, h1, ((Below.refl _ _).alloc (Nat.le_refl _) _).alloc (by simp) _⟩)
  obtain ⟨W0, hW0⟩ : ∃ W0, W0 = (w.alloc (.cells zmL.toArray 24)).alloc (.cells #[.int .i64 k, .int .i64 0, .int .i64 0, .int .i64 0, .int .u64 0, .string ⟨#[]⟩] 24) := ⟨_, rfl⟩
  rw [← hW0] at H0
  dsimp only [zmL] at hW0 HNone
  go_enter Try.func14, Try.ntmps14
  go_upto_region 2 with fail
  rw [← hW0]
  clear hW0
  go_cut [28] (fun s28 wx => s28 = .bool (onN k) ∧ wx = W0)
  case first =>
    by_cases hk : k < 1 ∨ 10 < k
    · have q0 : onN k = false := by unfold onN; exact decide_eq_false (by omega)
      have n1 : ¬ k = 1 := by omega
      have n2 : ¬ k = 2 := by omega
      have n6 : ¬ k = 6 := by omega
      have n7 : ¬ k = 7 := by omega
      have n8 : ¬ k = 8 := by omega
      go_wp2_with fail
      go_meet
      exact ⟨by rw [q0]; simp [n1, n2, n6, n7, n8], rfl⟩
    rcases kind_cases k hk with rfl | rfl | rfl | rfl | rfl | rfl | rfl | rfl | rfl | rfl
    all_goals
      go_wp2_with fail
      go_meet
      exact ⟨rfl, rfl⟩
  case rest =>
    obtain ⟨rfl, hw1⟩ := hcut
    have HA1 : Hid (RdS w [.int .i64 k, .int .i64 0, .int .i64 0, .int .i64 0, .int .u64 0, .string ⟨#[]⟩] wc) := by rw [hw1]; exact H0
    clear hw1 H0
    apply_assumption
    go_cut [1] (fun s1 wx => s1 = .string (strOf x1) ∧ Hid (RdS w [.int .i64 k, .int .i64 m.next, .int .i64 0, .int .i64 0, .int .u64 0, .string ⟨#[]⟩] wx))
    case first =>
      rcases hon : onN k with _ | _
      · go_wp2_with fail
        go_meet
        rw [(N1'.out hon).1, (N1'.out hon).2]
        exact ⟨rfl, HA1⟩
      · have Na := N1.out hon wc
        go_wp2_with fail
        refine Na.mono ?_
        rintro e w2 ⟨rfl, g2⟩
        have HB := Lib.hid (HA1.out.quiet g2)
        clear g2
        obtain ⟨e0, e1, e2, e3, e4, e5⟩ := Ms6.cells HB.out.ms
        obtain ⟨f0, f1, f2, f3, f4, f5⟩ := Ms.free HB.out.ms
        go_wp2_with fail
        go_meet
        exact ⟨rfl, Lib.hid (HB.out.note 1 (.int .i64 m.next))⟩
    case rest =>
      obtain ⟨rfl, H1⟩ := hcut
      clear HA1 N1 N1'
      obtain ⟨W1, hW1⟩ : ∃ W1, W1 = wc := ⟨_, rfl⟩
      rw [← hW1] at H1 ⊢
      clear hW1
      go_upto_region 4 with fail
      go_cut [40] (fun s40 wx => s40 = .bool (onE k) ∧ wx = W1)
      case first =>
        by_cases hk : k < 1 ∨ 10 < k
        · have q0 : onE k = false := by unfold onE; exact decide_eq_false (by omega)
          rcases hk with hk | hk
          · have hk2 : ¬ 1 ≤ k := by omega
            go_wp2_with fail
            go_meet
            exact ⟨by rw [q0], rfl⟩
          · have hk2 : 1 ≤ k := by omega
            have hk3 : ¬ k ≤ 5 := by omega
            go_wp2_with fail
            go_meet
            exact ⟨by rw [q0], rfl⟩
        rcases kind_cases k hk with rfl | rfl | rfl | rfl | rfl | rfl | rfl | rfl | rfl | rfl
        all_goals
          go_wp2_with fail
          go_meet
          exact ⟨rfl, rfl⟩
      case rest =>
        obtain ⟨rfl, hw2⟩ := hcut
        have HA2 : Hid (RdS w [.int .i64 k, .int .i64 m.next, .int .i64 0, .int .i64 0, .int .u64 0, .string ⟨#[]⟩] wc) := by rw [hw2]; exact H1
        clear hw2 H1
        apply_assumption
        go_cut [1] (fun s1 wx => s1 = .string (strOf x2) ∧ Hid (RdS w [.int .i64 k, .int .i64 m.next, .int .i64 m.epoch, .int .i64 0, .int .u64 0, .string ⟨#[]⟩] wx))
        case first =>
          rcases hon : onE k with _ | _
          · go_wp2_with fail
            go_meet
            rw [(N2'.out hon).1, (N2'.out hon).2]
            exact ⟨rfl, HA2⟩
          · have Na := N2.out hon wc
            go_wp2_with fail
            refine Na.mono ?_
            rintro e w2 ⟨rfl, g2⟩
            have HB := Lib.hid (HA2.out.quiet g2)
            clear g2
            obtain ⟨e0, e1, e2, e3, e4, e5⟩ := Ms6.cells HB.out.ms
            obtain ⟨f0, f1, f2, f3, f4, f5⟩ := Ms.free HB.out.ms
            go_wp2_with fail
            go_meet
            exact ⟨rfl, Lib.hid (HB.out.note 2 (.int .i64 m.epoch))⟩
        case rest =>
          obtain ⟨rfl, H2⟩ := hcut
          clear HA2 N2 N2'
          obtain ⟨W2, hW2⟩ : ∃ W2, W2 = wc := ⟨_, rfl⟩
          rw [← hW2] at H2 ⊢
          clear hW2
          go_upto_region 6 with fail
          go_cut [52] (fun s52 wx => s52 = .bool (onZ k) ∧ wx = W2)
          case first =>
            by_cases hk : k < 1 ∨ 10 < k
            · have q0 : onZ k = false := by unfold onZ; exact decide_eq_false (by omega)
              have n8 : ¬ k = 8 := by omega
              have n9 : ¬ k = 9 := by omega
              go_wp2_with fail
              go_meet
              exact ⟨by rw [q0]; simp [n8, n9], rfl⟩
            rcases kind_cases k hk with rfl | rfl | rfl | rfl | rfl | rfl | rfl | rfl | rfl | rfl
            all_goals
              go_wp2_with fail
              go_meet
              exact ⟨rfl, rfl⟩
          case rest =>
            obtain ⟨rfl, hw3⟩ := hcut
            have HA3 : Hid (RdS w [.int .i64 k, .int .i64 m.next, .int .i64 m.epoch, .int .i64 0, .int .u64 0, .string ⟨#[]⟩] wc) := by rw [hw3]; exact H2
            clear hw3 H2
            apply_assumption
            go_cut [1] (fun s1 wx => s1 = .string (strOf x3) ∧ Hid (RdS w [.int .i64 k, .int .i64 m.next, .int .i64 m.epoch, .int .i64 m.size, .int .u64 0, .string ⟨#[]⟩] wx))
            case first =>
              rcases hon : onZ k with _ | _
              · go_wp2_with fail
                go_meet
                rw [(N3'.out hon).1, (N3'.out hon).2]
                exact ⟨rfl, HA3⟩
              · have Na := N3.out hon wc
                go_wp2_with fail
                refine Na.mono ?_
                rintro e w2 ⟨rfl, g2⟩
                have HB := Lib.hid (HA3.out.quiet g2)
                clear g2
                obtain ⟨e0, e1, e2, e3, e4, e5⟩ := Ms6.cells HB.out.ms
                obtain ⟨f0, f1, f2, f3, f4, f5⟩ := Ms.free HB.out.ms
                go_wp2_with fail
                go_meet
                exact ⟨rfl, Lib.hid (HB.out.note 3 (.int .i64 m.size))⟩
            case rest =>
              obtain ⟨rfl, H3⟩ := hcut
              clear HA3 N3 N3'
              obtain ⟨W3, hW3⟩ : ∃ W3, W3 = wc := ⟨_, rfl⟩
              rw [← hW3] at H3 ⊢
              clear hW3
              go_upto_if 60 with fail
              go_cut [1] (fun s1 wx => s1 = .string (strOf x4) ∧ Hid (¬ (onS k = true ∧ x3.length < 8)) ∧ Hid (RdS w [.int .i64 k, .int .i64 m.next, .int .i64 m.epoch, .int .i64 m.size, .int .u64 (m.sum : Int), .string ⟨#[]⟩] wx))
              case first =>
                have hz3 := Hz3.out
                rcases hon : onS k with _ | _
                · have hkb : (k == 8) = false := by have := of_decide_eq_false hon; simpa using this
                  go_wp2_with fail
                  go_meet
                  rw [(V4'.out hon).1, (V4'.out hon).2]
                  exact ⟨rfl, Lib.hid (fun h => absurd h.1 (by rw [hon]; simp)), H3⟩
                · have hkb : (k == 8) = true := by have := of_decide_eq_true hon; simpa using this
                  by_cases hl8 : x3.length < 8
                  · skip
                    have hdn : dd = none := by rw [HD.out, if_pos ⟨hon, hl8⟩]
                    go_upto_region 10 with fail
                    have hr7 := ms_row H3.out.rs rfl (.int .i64 0) (.int .i64 0) (.int .i64 0) (.int .i64 0) (.int .u64 0) (.string ⟨#[]⟩)
                    have hb7 := H3.out.below.trans (below_grown (ms_grown W3 w.heap.size (.int .i64 0) (.int .i64 0) (.int .i64 0) (.int .i64 0) (.int .u64 0) (.string ⟨#[]⟩)) (Nat.le_refl _) H3.out.below.size)
                    have Hr7 := Lib.hid hr7
                    have Hb7 := Lib.hid hb7
                    clear hr7 hb7
                    obtain ⟨e0, e1, e2, e3, e4, e5⟩ := ZmRow.cells H3.out.rs
                    obtain ⟨f0, f1, f2, f3, f4, f5⟩ := Ms.free H3.out.rs
                    go_wp2_with fail
                    obtain ⟨y0, y1, y2, y3, y4, y5⟩ := Ms6.cells Hr7.out
                    refine bodyPost_ret (v := .tuple #[.agg #[.int .i64 0, .int .i64 0, .int .i64 0, .int .i64 0, .int .u64 0, .string ⟨#[]⟩], .bool false]) (by simp [results, Try.results14, go_sem, y0, y1, y2, y3, y4, y5]) rfl ⟨congrArg Ending.returned (HNone.out hdn).symm, Hb7.out⟩
                  · have hc1 := (C4.out hon hl8).1
                    have hc2 := (C4.out hon hl8).2
                    have Va := V4.out hon W3
                    go_wp2_with fail
                    refine Va.mono ?_
                    rintro e w2 ⟨rfl, hw2⟩
                    subst hw2
                    obtain ⟨e0, e1, e2, e3, e4, e5⟩ := Ms6.cells H3.out.ms
                    obtain ⟨f0, f1, f2, f3, f4, f5⟩ := Ms.free H3.out.ms
                    go_wp2_with fail
                    go_meet
                    exact ⟨rfl, Lib.hid (fun h => hl8 h.2), Lib.hid (H3.out.note 4 (.int .u64 (m.sum : Int)))⟩
              case rest =>
                obtain ⟨rfl, HQ1, H4⟩ := hcut
                clear H3 V4 V4' C4 Hz3
                obtain ⟨W4, hW4⟩ : ∃ W4, W4 = wc := ⟨_, rfl⟩
                rw [← hW4] at H4 ⊢
                clear hW4
                go_upto_region 13 with fail
                go_cut [80] (fun s80 wx => s80 = .bool (onD k) ∧ wx = W4)
                case first =>
                  by_cases hk : k < 1 ∨ 10 < k
                  · have q0 : onD k = false := by unfold onD; exact decide_eq_false (by omega)
                    have n3 : ¬ k = 3 := by omega
                    have n6 : ¬ k = 6 := by omega
                    have n9 : ¬ k = 9 := by omega
                    go_wp2_with fail
                    go_meet
                    exact ⟨by rw [q0]; simp [n3, n6, n9], rfl⟩
                  rcases kind_cases k hk with rfl | rfl | rfl | rfl | rfl | rfl | rfl | rfl | rfl | rfl
                  all_goals
                    go_wp2_with fail
                    go_meet
                    exact ⟨rfl, rfl⟩
                case rest =>
                  obtain ⟨rfl, hw5⟩ := hcut
                  have HA5 : Hid (RdS w [.int .i64 k, .int .i64 m.next, .int .i64 m.epoch, .int .i64 m.size, .int .u64 (m.sum : Int), .string ⟨#[]⟩] wc) := by rw [hw5]; exact H4
                  clear hw5 H4
                  apply_assumption
                  go_cut [1] (fun s1 wx => s1 = .string (strOf x5) ∧ Hid (¬ (onD k = true ∧ (nv < 0 ∨ nv ≠ (nr.length : Int)))) ∧ Hid (RdS w [.int .i64 k, .int .i64 m.next, .int .i64 m.epoch, .int .i64 m.size, .int .u64 (m.sum : Int), .string (strOf m.data)] wx))
                  case first =>
                    have hz5 := Hz5.out
                    rcases hon : onD k with _ | _
                    · go_wp2_with fail
                      go_meet
                      rw [(D5'.out hon).1, (D5'.out hon).2]
                      exact ⟨rfl, Lib.hid (fun h => absurd h.1 (by rw [hon]; simp)), HA5⟩
                    · have Na := N5.out wc
                      go_wp2_with fail
                      refine Na.mono ?_
                      rintro e w2 ⟨rfl, g2⟩
                      have HB := Lib.hid (HA5.out.quiet g2)
                      clear g2
                      by_cases hv0 : nv < 0
                      · skip
                        have hdn : dd = none := by rw [HD.out, if_neg HQ1.out, if_pos ⟨hon, .inl hv0⟩]
                        go_upto_region 16 with fail
                        have hr7 := ms_row HB.out.rs rfl (.int .i64 0) (.int .i64 0) (.int .i64 0) (.int .i64 0) (.int .u64 0) (.string ⟨#[]⟩)
                        have hb7 := HB.out.below.trans (below_grown (ms_grown w2 w.heap.size (.int .i64 0) (.int .i64 0) (.int .i64 0) (.int .i64 0) (.int .u64 0) (.string ⟨#[]⟩)) (Nat.le_refl _) HB.out.below.size)
                        have Hr7 := Lib.hid hr7
                        have Hb7 := Lib.hid hb7
                        clear hr7 hb7
                        obtain ⟨e0, e1, e2, e3, e4, e5⟩ := ZmRow.cells HB.out.rs
                        obtain ⟨f0, f1, f2, f3, f4, f5⟩ := Ms.free HB.out.rs
                        go_wp2_with fail
                        obtain ⟨y0, y1, y2, y3, y4, y5⟩ := Ms6.cells Hr7.out
                        refine bodyPost_ret (v := .tuple #[.agg #[.int .i64 0, .int .i64 0, .int .i64 0, .int .i64 0, .int .u64 0, .string ⟨#[]⟩], .bool false]) (by simp [results, Try.results14, go_sem, y0, y1, y2, y3, y4, y5]) rfl ⟨congrArg Ending.returned (HNone.out hdn).symm, Hb7.out⟩
                      by_cases hvl : nv = (nr.length : Int)
                      · have hvb : (nv != (nr.length : Int)) = false := by simp [hvl]
                        have HvL := Lib.hid hvl
                        have Hv0 := Lib.hid hv0
                        clear hvl
                        obtain ⟨e0, e1, e2, e3, e4, e5⟩ := Ms6.cells HB.out.ms
                        obtain ⟨f0, f1, f2, f3, f4, f5⟩ := Ms.free HB.out.ms
                        go_wp2_with fail
                        go_meet
                        rw [(D5.out hon).1, (D5.out hon).2]
                        exact ⟨rfl, Lib.hid (fun h => h.2.elim (fun h1 => by have := Hv0.out; omega) (fun h2 => h2 HvL.out)), Lib.hid (HB.out.note 5 (.string (strOf nr)))⟩
                      · have hvb : (nv != (nr.length : Int)) = true := by simp [hvl]
                        have hdn : dd = none := by rw [HD.out, if_neg HQ1.out, if_pos ⟨hon, .inr hvl⟩]
                        go_upto_region 16 with fail
                        have hr7 := ms_row HB.out.rs rfl (.int .i64 0) (.int .i64 0) (.int .i64 0) (.int .i64 0) (.int .u64 0) (.string ⟨#[]⟩)
                        have hb7 := HB.out.below.trans (below_grown (ms_grown w2 w.heap.size (.int .i64 0) (.int .i64 0) (.int .i64 0) (.int .i64 0) (.int .u64 0) (.string ⟨#[]⟩)) (Nat.le_refl _) HB.out.below.size)
                        have Hr7 := Lib.hid hr7
                        have Hb7 := Lib.hid hb7
                        clear hr7 hb7
                        obtain ⟨e0, e1, e2, e3, e4, e5⟩ := ZmRow.cells HB.out.rs
                        obtain ⟨f0, f1, f2, f3, f4, f5⟩ := Ms.free HB.out.rs
                        go_wp2_with fail
                        obtain ⟨y0, y1, y2, y3, y4, y5⟩ := Ms6.cells Hr7.out
                        refine bodyPost_ret (v := .tuple #[.agg #[.int .i64 0, .int .i64 0, .int .i64 0, .int .i64 0, .int .u64 0, .string ⟨#[]⟩], .bool false]) (by simp [results, Try.results14, go_sem, y0, y1, y2, y3, y4, y5]) rfl ⟨congrArg Ending.returned (HNone.out hdn).symm, Hb7.out⟩
                  case rest =>
                    obtain ⟨rfl, HQ2, H5⟩ := hcut
                    clear HA5 N5 D5 D5' Hz5
                    have he5 := He5.out
                    by_cases hx5 : x5 = []
                    · rw [decide_eq_true hx5] at he5
                      obtain ⟨c0, c1, c2, c3, c4, c5⟩ := Ms6.cells H5.out.ms
                      have Hx5 := Lib.hid hx5
                      clear hx5
                      go_wp2_with fail
                      refine (T8.out wc).mono ?_
                      rintro e w6 ⟨rfl, g6⟩
                      have H6 := Lib.hid (H5.out.quiet g6)
                      clear g6 c0 c1 c2 c3 c4 c5
                      cases br
                      · skip
                        have hdn : dd = none := by rw [HD.out, if_neg HQ1.out, if_neg HQ2.out, if_pos (.inr rfl)]
                        go_upto_region 20 with fail
                        have hr7 := ms_row H6.out.rs rfl (.int .i64 0) (.int .i64 0) (.int .i64 0) (.int .i64 0) (.int .u64 0) (.string ⟨#[]⟩)
                        have hb7 := H6.out.below.trans (below_grown (ms_grown w6 w.heap.size (.int .i64 0) (.int .i64 0) (.int .i64 0) (.int .i64 0) (.int .u64 0) (.string ⟨#[]⟩)) (Nat.le_refl _) H6.out.below.size)
                        have Hr7 := Lib.hid hr7
                        have Hb7 := Lib.hid hb7
                        clear hr7 hb7
                        obtain ⟨e0, e1, e2, e3, e4, e5⟩ := ZmRow.cells H6.out.rs
                        obtain ⟨f0, f1, f2, f3, f4, f5⟩ := Ms.free H6.out.rs
                        go_wp2_with fail
                        obtain ⟨y0, y1, y2, y3, y4, y5⟩ := Ms6.cells Hr7.out
                        refine bodyPost_ret (v := .tuple #[.agg #[.int .i64 0, .int .i64 0, .int .i64 0, .int .i64 0, .int .u64 0, .string ⟨#[]⟩], .bool false]) (by simp [results, Try.results14, go_sem, y0, y1, y2, y3, y4, y5]) rfl ⟨congrArg Ending.returned (HNone.out hdn).symm, Hb7.out⟩
                      · have hdn : dd = some m := by rw [HD.out, if_neg HQ1.out, if_neg HQ2.out, if_neg (fun h => h.elim (fun h1 => h1 Hx5.out) (fun h2 => absurd h2 (by simp)))]
                        go_upto_region 21 with fail
                        have hr7 := ms_row H6.out.rs rfl (.int .i64 k) (.int .i64 m.next) (.int .i64 m.epoch) (.int .i64 m.size) (.int .u64 (m.sum : Int)) (.string (strOf m.data))
                        have hb7 := H6.out.below.trans (below_grown (ms_grown w6 w.heap.size (.int .i64 k) (.int .i64 m.next) (.int .i64 m.epoch) (.int .i64 m.size) (.int .u64 (m.sum : Int)) (.string (strOf m.data))) (Nat.le_refl _) H6.out.below.size)
                        have Hr7 := Lib.hid hr7
                        have Hb7 := Lib.hid hb7
                        clear hr7 hb7
                        obtain ⟨c0, c1, c2, c3, c4, c5⟩ := Ms6.cells H6.out.ms
                        obtain ⟨e0, e1, e2, e3, e4, e5⟩ := ZmRow.cells H6.out.rs
                        obtain ⟨f0, f1, f2, f3, f4, f5⟩ := Ms.free H6.out.rs
                        go_wp2_with fail
                        obtain ⟨y0, y1, y2, y3, y4, y5⟩ := Ms6.cells Hr7.out
                        refine bodyPost_ret (v := .tuple #[.agg #[.int .i64 k, .int .i64 m.next, .int .i64 m.epoch, .int .i64 m.size, .int .u64 (m.sum : Int), .string (strOf m.data)], .bool true]) (by simp [results, Try.results14, go_sem, y0, y1, y2, y3, y4, y5]) rfl ⟨congrArg Ending.returned (HSome.out hdn).symm, Hb7.out⟩
                    · rw [decide_eq_false hx5] at he5
                      have hdn : dd = none := by rw [HD.out, if_neg HQ1.out, if_neg HQ2.out, if_pos (.inl hx5)]
                      go_upto_region 20 with fail
                      have hr7 := ms_row H5.out.rs rfl (.int .i64 0) (.int .i64 0) (.int .i64 0) (.int .i64 0) (.int .u64 0) (.string ⟨#[]⟩)
                      have hb7 := H5.out.below.trans (below_grown (ms_grown wc w.heap.size (.int .i64 0) (.int .i64 0) (.int .i64 0) (.int .i64 0) (.int .u64 0) (.string ⟨#[]⟩)) (Nat.le_refl _) H5.out.below.size)
                      have Hr7 := Lib.hid hr7
                      have Hb7 := Lib.hid hb7
                      clear hr7 hb7
                      obtain ⟨e0, e1, e2, e3, e4, e5⟩ := ZmRow.cells H5.out.rs
                      obtain ⟨f0, f1, f2, f3, f4, f5⟩ := Ms.free H5.out.rs
                      go_wp2_with fail
                      obtain ⟨y0, y1, y2, y3, y4, y5⟩ := Ms6.cells Hr7.out
                      refine bodyPost_ret (v := .tuple #[.agg #[.int .i64 0, .int .i64 0, .int .i64 0, .int .i64 0, .int .u64 0, .string ⟨#[]⟩], .bool false]) (by simp [results, Try.results14, go_sem, y0, y1, y2, y3, y4, y5]) rfl ⟨congrArg Ending.returned (HNone.out hdn).symm, Hb7.out⟩
end Go.Proofs.Ytfopnbfaaikghaa
