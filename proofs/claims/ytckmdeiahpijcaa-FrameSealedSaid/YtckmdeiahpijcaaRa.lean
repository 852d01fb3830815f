/-
  The reference of layer 24 (frame): First, by its walk. Conditions: as the theorem's premises say.
-/
import Derived.Test.YtckmdeiahpijcaaXz
namespace Go.Proofs.Ytckmdeiahpijcaa
open Go.RowKit

/-- A contract that leaves the world as it is, in a region that draws its order. -/
theorem quiet_leftF {P : Program} {f : FuncId} {args : Array Value} {w : World} {n : Nat} {v : Value}
    (h : Calls P f args (w.drewN n) fun e w' => e = .returned v ∧ w.drewN n = w') : Calls P f args (w.drewN n) fun e w'' => e = .returned v ∧ ∃ m, w'' = w.drewN m :=
  h.mono fun _ _ ⟨he, hm⟩ => ⟨he, n, hm.symm⟩
theorem zfr_V : frV Bm.zfr = .agg #[.int .i64 0, .string ⟨#[]⟩] := rfl
set_option maxHeartbeats 2000000 in
set_option maxRecDepth 100000 in
theorem rffirst_any (s : List Nat) (w : World) (hlt : ∀ x ∈ s, x < 256) (hl : s.length ≤ 10000) :
    Calls Try.prog 18 #[.string (strOf s)] w fun e w' => e = .returned (.tuple #[frV (Bm.firstF s).1, .int .i64 ((Bm.firstF s).2.1 : Int), .int .i64 ((Bm.firstF s).2.2 : Int)]) ∧ Below w.heap.size w w' := by
  have hn0 : ∀ {P : Prop}, s.length ≠ 0 → s = [] → P := fun h e => absurd (by rw [e]; rfl) h
  have HF0 : Hid (s.length = 0 → Bm.firstF s = (Bm.zfr, 0, 0)) := Lib.hid (fun h => by unfold Bm.firstF; rw [if_pos (List.length_eq_zero_iff.1 h)])
  have HF1 : Hid (s.length ≠ 0 → (Bm.kindN s < 1 ∨ 10 < Bm.kindN s) → Bm.firstF s = (Bm.zfr, 1, 6)) := Lib.hid (fun h h1 => by unfold Bm.firstF; rw [if_neg (hn0 h), if_pos h1])
  have HF2 : Hid (s.length ≠ 0 → ¬ (Bm.kindN s < 1 ∨ 10 < Bm.kindN s) → s.length < 3 → Bm.firstF s = (Bm.zfr, 0, 0)) := Lib.hid (fun h h1 h2 => by unfold Bm.firstF; rw [if_neg (hn0 h), if_neg h1, if_pos h2])
  have HF3 : Hid (¬ (Bm.kindN s < 1 ∨ 10 < Bm.kindN s) → ¬ s.length < 3 → 900 < Bm.lenN s → Bm.firstF s = (Bm.zfr, 3, 5)) := Lib.hid (fun h1 h2 h3 => by unfold Bm.firstF; rw [if_neg (hn0 (by omega)), if_neg h1, if_neg h2, if_pos h3])
  have HF4 : Hid (¬ (Bm.kindN s < 1 ∨ 10 < Bm.kindN s) → ¬ s.length < 3 → ¬ 900 < Bm.lenN s → s.length < Bm.lenN s + 11 → Bm.firstF s = (Bm.zfr, 0, 0)) := Lib.hid (fun h1 h2 h3 h4 => by unfold Bm.firstF; rw [if_neg (hn0 (by omega)), if_neg h1, if_neg h2, if_neg h3, if_pos h4])
  have HF5 : Hid (¬ (Bm.kindN s < 1 ∨ 10 < Bm.kindN s) → ¬ s.length < 3 → ¬ 900 < Bm.lenN s → ¬ s.length < Bm.lenN s + 11 → Bm.sealsF s → Bm.firstF s = (Bm.frmF s, Bm.lenN s + 11, 0)) := Lib.hid (fun h1 h2 h3 h4 h5 => by unfold Bm.firstF; rw [if_neg (hn0 (by omega)), if_neg h1, if_neg h2, if_neg h3, if_neg h4, if_pos h5])
  have HF6 : Hid (¬ (Bm.kindN s < 1 ∨ 10 < Bm.kindN s) → ¬ s.length < 3 → ¬ 900 < Bm.lenN s → ¬ s.length < Bm.lenN s + 11 → ¬ Bm.sealsF s → Bm.firstF s = (Bm.zfr, Bm.lenN s + 11, 4)) := Lib.hid (fun h1 h2 h3 h4 h5 => by unfold Bm.firstF; rw [if_neg (hn0 (by omega)), if_neg h1, if_neg h2, if_neg h3, if_neg h4, if_neg h5])
  have hk := Bm.kindN_lt s hlt
  have hn := Bm.lenN_lt s hlt
  have hsz := strOf_size s
  have hemp := emptyB s
  have hi0 : s ≠ [] → ∀ W, (Instr.index 9 (.string (strOf s)) (.int .i64 0)).run Try.prog W = .ok (.int .u8 (Bm.kindN s : Int)) W := fun h W => by
    match s, h with
    | a :: r, _ => exact index_at (a :: r) 0 W (by simp) (hlt a (by simp))
  have hi12 : 3 ≤ s.length → ∃ b c : Nat, b < 256 ∧ c < 256 ∧ b + 256 * c = Bm.lenN s ∧ (∀ W, (Instr.index 9 (.string (strOf s)) (.int .i64 1)).run Try.prog W = .ok (.int .u8 (b : Int)) W) ∧ ∀ W, (Instr.index 9 (.string (strOf s)) (.int .i64 2)).run Try.prog W = .ok (.int .u8 (c : Int)) W := fun h => by
    match s, h with
    | a :: b :: c :: r, _ => exact ⟨b, c, hlt b (by simp), hlt c (by simp), rfl, fun W => index_at (a :: b :: c :: r) 1 W (by simp) (hlt b (by simp)), fun W => index_at (a :: b :: c :: r) 2 W (by simp) (hlt c (by simp))⟩
  have hc1 : Bm.lenN s + 11 ≤ s.length → ∀ W, (Instr.slice 9 (.string (strOf s)) (some (.int .i64 ((Bm.lenN s : Int) + 3))) (some (.int .i64 ((Bm.lenN s : Int) + 11))) none).run Try.prog W = .ok (.string (strOf ((s.drop (Bm.lenN s + 3)).take 8))) W := fun h W => by
    have h1 := str_mid s (Bm.lenN s + 3) (Bm.lenN s + 11) (by omega) h W
    rw [List.drop_take, show Bm.lenN s + 11 - (Bm.lenN s + 3) = 8 by omega] at h1
    exact h1
  have hc2 : Bm.lenN s + 11 ≤ s.length → ∀ W, (Instr.slice 9 (.string (strOf s)) none (some (.int .i64 ((Bm.lenN s : Int) + 3))) none).run Try.prog W = .ok (.string (strOf (s.take (Bm.lenN s + 3)))) W := fun h W => str_to s (Bm.lenN s + 3) (by omega) W
  have hc3 : Bm.lenN s + 11 ≤ s.length → ∀ W, (Instr.slice 9 (.string (strOf s)) (some (.int .i64 3)) (some (.int .i64 ((Bm.lenN s : Int) + 3))) none).run Try.prog W = .ok (.string (strOf ((s.drop 3).take (Bm.lenN s)))) W := fun h W => by
    have h1 := str_mid s 3 (Bm.lenN s + 3) (by omega) (by omega) W
    rw [List.drop_take, show Bm.lenN s + 3 - 3 = Bm.lenN s by omega] at h1
    exact h1
  have Hv := Lib.hid (fun W => fvalue_any ((s.drop (Bm.lenN s + 3)).take 8) W (by rw [List.length_take]; omega) (take_lt (drop_lt hlt _) _))
  have Hof := Lib.hid (fun W => gof_any (s.take (Bm.lenN s + 3)) W (by rw [List.length_take]; omega) (take_lt hlt _))
  have Hse : Hid (Bm.sealsF s ↔ Bm.valB ((s.drop (Bm.lenN s + 3)).take 8) = Bm.sumOf (s.take (Bm.lenN s + 3))) := Lib.hid Iff.rfl
  have hfm : frV (Bm.frmF s) = .agg #[.int .i64 (Bm.kindN s : Int), .string (strOf ((s.drop 3).take (Bm.lenN s)))] := rfl
  have hnil : s = [] ↔ s.length = 0 := List.length_eq_zero_iff.symm
  rw [show decide (s = []) = decide (s.length = 0) from decide_eq_decide.2 hnil] at hemp
  have hi0' : s.length ≠ 0 → _ := fun h => hi0 (fun e => h (hnil.1 e))
  clear hi0 hnil
  have Hi0 := Lib.hid hi0'
  have Hi12 := Lib.hid hi12
  have Hc1 := Lib.hid hc1
  have Hc2 := Lib.hid hc2
  have Hc3 := Lib.hid hc3
  have Hfm := Lib.hid hfm
  clear hi0' hi12 hc1 hc2 hc3 hfm hn0
  generalize Bm.firstF s = FF at *
  generalize Bm.frmF s = FR at *
  generalize Bm.sumOf (s.take (Bm.lenN s + 3)) = sm at *
  generalize strOf (s.take (Bm.lenN s + 3)) = ss at *
  generalize Bm.valB ((s.drop (Bm.lenN s + 3)).take 8) = vs at *
  generalize strOf ((s.drop (Bm.lenN s + 3)).take 8) = vt at *
  generalize strOf ((s.drop 3).take (Bm.lenN s)) = bd at *
  generalize Bm.kindN s = k at *
  generalize Bm.lenN s = n at *
  generalize Bm.sealsF s = SE at *
  generalize strOf s = ts at *
  generalize s.length = L at *
  go_enter Try.func18, Try.ntmps18
  go_upto_region 2 with fail
  obtain ⟨W0, hW0⟩ : ∃ W0, W0 = (w.alloc (.cells #[.int .i64 0, .string ⟨#[]⟩] 30)).alloc (.cells #[.int .i64 0, .string ⟨#[]⟩] 30) := ⟨_, rfl⟩
  have hr0 : Row W0 w.heap.size 30 [.int .i64 0, .string ⟨#[]⟩] := by rw [hW0]; exact (Row.new w _ _).alloc _
  have hr1 : Row W0 (w.heap.size + 1) 30 [.int .i64 0, .string ⟨#[]⟩] := by
    rw [hW0]
    have h1 := Row.new (w.alloc (.cells #[.int .i64 0, .string ⟨#[]⟩] 30)) 30 [.int .i64 0, .string ⟨#[]⟩]
    rw [show (w.alloc (.cells #[.int .i64 0, .string ⟨#[]⟩] 30)).heap.size = w.heap.size + 1 by simp] at h1
    exact h1
  have hb0 : Below w.heap.size w W0 := by rw [hW0]; exact ((Below.refl _ _).alloc (Nat.le_refl _) _).alloc (by simp) _
  rw [← hW0]
  have c0 := hr0.cell 0
  have c1 := hr0.cell 1
  have d0 := hr1.cell 0
  have d1 := hr1.cell 1
  simp only [List.getElem?_cons_zero, List.getElem?_cons_succ] at c0 c1 d0 d1
  have f0 := hr0.free 0
  have f1 := hr0.free 1
  have Hr0 := Lib.hid hr0
  have HrD := Lib.hid hr1
  have Hb0 := Lib.hid hb0
  clear hW0 hr0 hr1 hb0
  by_cases h0 : L = 0
  · have h0' : decide (L = 0) = true := decide_eq_true h0
    rw [h0'] at hemp
    have hr7 := fr_row Hr0.out rfl 0 ⟨#[]⟩
    have s0 := hr7.cell 0
    have s1 := hr7.cell 1
    simp only [List.getElem?_cons_zero, List.getElem?_cons_succ] at s0 s1
    have S0 := Lib.hid s0
    have S1 := Lib.hid s1
    clear s0 s1 hr7
    go_wp2
    have s0 := S0.out
    have s1 := S1.out
    refine bodyPost_ret (v := .tuple #[.agg #[.int .i64 0, .string ⟨#[]⟩], .int .i64 0, .int .i64 0]) (by simp [results, Try.results18, go_sem, s0, s1]) rfl ⟨congrArg Ending.returned (by rw [HF0.out h0]; rfl), fr_set_below Hb0.out (Nat.le_refl _) _ _⟩
  · have h0' : decide (L = 0) = false := decide_eq_false h0
    rw [h0'] at hemp
    have hi := Hi0.out h0
    by_cases hk1 : k < 1 ∨ 10 < k
    · rcases Nat.lt_or_ge k 1 with hk2 | hk2
      · have hr7 := fr_row Hr0.out rfl 0 ⟨#[]⟩
        have s0 := hr7.cell 0
        have s1 := hr7.cell 1
        simp only [List.getElem?_cons_zero, List.getElem?_cons_succ] at s0 s1
        have S0 := Lib.hid s0
        have S1 := Lib.hid s1
        clear s0 s1 hr7
        go_wp2
        have s0 := S0.out
        have s1 := S1.out
        refine bodyPost_ret (v := .tuple #[.agg #[.int .i64 0, .string ⟨#[]⟩], .int .i64 1, .int .i64 6]) (by simp [results, Try.results18, go_sem, s0, s1]) rfl ⟨congrArg Ending.returned (by rw [HF1.out h0 hk1]; rfl), fr_set_below Hb0.out (Nat.le_refl _) _ _⟩
      · have hk3 : 10 < k := by omega
        have hr7 := fr_row Hr0.out rfl 0 ⟨#[]⟩
        have s0 := hr7.cell 0
        have s1 := hr7.cell 1
        simp only [List.getElem?_cons_zero, List.getElem?_cons_succ] at s0 s1
        have S0 := Lib.hid s0
        have S1 := Lib.hid s1
        clear s0 s1 hr7
        go_wp2
        have s0 := S0.out
        have s1 := S1.out
        refine bodyPost_ret (v := .tuple #[.agg #[.int .i64 0, .string ⟨#[]⟩], .int .i64 1, .int .i64 6]) (by simp [results, Try.results18, go_sem, s0, s1]) rfl ⟨congrArg Ending.returned (by rw [HF1.out h0 hk1]; rfl), fr_set_below Hb0.out (Nat.le_refl _) _ _⟩
    have hk2 : 1 ≤ k := by omega
    have hk3 : k ≤ 10 := by omega
    by_cases h3 : L < 3
    · have hw : (L : Int) < 3 := by omega
      have hr7 := fr_row Hr0.out rfl 0 ⟨#[]⟩
      have s0 := hr7.cell 0
      have s1 := hr7.cell 1
      simp only [List.getElem?_cons_zero, List.getElem?_cons_succ] at s0 s1
      have S0 := Lib.hid s0
      have S1 := Lib.hid s1
      clear s0 s1 hr7
      go_wp2
      have s0 := S0.out
      have s1 := S1.out
      refine bodyPost_ret (v := .tuple #[.agg #[.int .i64 0, .string ⟨#[]⟩], .int .i64 0, .int .i64 0]) (by simp [results, Try.results18, go_sem, s0, s1]) rfl ⟨congrArg Ending.returned (by rw [HF2.out h0 hk1 h3]; rfl), fr_set_below Hb0.out (Nat.le_refl _) _ _⟩
    obtain ⟨b, c, hb, hc, hbc, hi1, hi2⟩ := Hi12.out (by omega)
    have hbc2 : (b : Int) + 256 * (c : Int) = (n : Int) := by omega
    have hw1 : IntKind.i64.wrap (256 * (c : Int)) = 256 * (c : Int) := by rw [IntKind.wrap_i64]; omega
    have hw2 : IntKind.i64.wrap ((b : Int) + 256 * (c : Int)) = (b : Int) + 256 * (c : Int) := by rw [IntKind.wrap_i64]; omega
    have hw3 : IntKind.i64.wrap ((n : Int) + 3) = (n : Int) + 3 := by rw [IntKind.wrap_i64]; omega
    have hw4 : IntKind.i64.wrap ((n : Int) + 11) = (n : Int) + 11 := by rw [IntKind.wrap_i64]; omega
    have hge : ¬ (L : Int) < 3 := by omega
    go_wp2_with fail
    go_quiet (fail)
    have hrA : Row (W0.drewN nq) w.heap.size 30 [.int .i64 0, .string ⟨#[]⟩] := Hr0.out
    have hrB : Row (W0.drewN nq) (w.heap.size + 1) 30 [.int .i64 0, .string ⟨#[]⟩] := HrD.out
    have hbA : Below w.heap.size w (W0.drewN nq) := ⟨Hb0.out.os, Hb0.out.tape, Hb0.out.output, Hb0.out.size, Hb0.out.block⟩
    clear c0 c1 d0 d1 f0 f1
    generalize W0.drewN nq = W1 at *
    have c0 := hrA.cell 0
    have c1 := hrA.cell 1
    have d0 := hrB.cell 0
    have d1 := hrB.cell 1
    simp only [List.getElem?_cons_zero, List.getElem?_cons_succ] at c0 c1 d0 d1
    have f0 := hrA.free 0
    have f1 := hrA.free 1
    have Hr1 := Lib.hid hrA
    have HrD1 := Lib.hid hrB
    have Hb1 := Lib.hid hbA
    clear hrA hrB hbA
    by_cases h9 : 900 < n
    · have hw : (900 : Int) < (n : Int) := by omega
      have hr7 := fr_row Hr1.out rfl 0 ⟨#[]⟩
      have s0 := hr7.cell 0
      have s1 := hr7.cell 1
      simp only [List.getElem?_cons_zero, List.getElem?_cons_succ] at s0 s1
      have S0 := Lib.hid s0
      have S1 := Lib.hid s1
      clear s0 s1 hr7
      go_wp2
      have s0 := S0.out
      have s1 := S1.out
      refine bodyPost_ret (v := .tuple #[.agg #[.int .i64 0, .string ⟨#[]⟩], .int .i64 3, .int .i64 5]) (by simp [results, Try.results18, go_sem, s0, s1]) rfl ⟨congrArg Ending.returned (by rw [HF3.out hk1 h3 h9]; rfl), fr_set_below Hb1.out (Nat.le_refl _) _ _⟩
    have hge9 : ¬ (900 : Int) < (n : Int) := by omega
    by_cases h11 : L < n + 11
    · have hw : (L : Int) < (n : Int) + 11 := by omega
      have hr7 := fr_row Hr1.out rfl 0 ⟨#[]⟩
      have s0 := hr7.cell 0
      have s1 := hr7.cell 1
      simp only [List.getElem?_cons_zero, List.getElem?_cons_succ] at s0 s1
      have S0 := Lib.hid s0
      have S1 := Lib.hid s1
      clear s0 s1 hr7
      go_wp2
      have s0 := S0.out
      have s1 := S1.out
      refine bodyPost_ret (v := .tuple #[.agg #[.int .i64 0, .string ⟨#[]⟩], .int .i64 0, .int .i64 0]) (by simp [results, Try.results18, go_sem, s0, s1]) rfl ⟨congrArg Ending.returned (by rw [HF4.out hk1 h3 h9 h11]; rfl), fr_set_below Hb1.out (Nat.le_refl _) _ _⟩
    have hge11 : ¬ (L : Int) < (n : Int) + 11 := by omega
    have hle11 : n + 11 ≤ L := by omega
    have x1 := Hc1.out hle11
    have x2 := Hc2.out hle11
    have x3 := Hc3.out hle11
    go_wp2_with fail
    go_quiet ((first | (go_at_call 35; exact quiet_leftF (Hv.out _)) | (go_at_call 17; exact quiet_leftF (Hof.out _))))
    have hrA : Row (W1.drewN nq) w.heap.size 30 [.int .i64 0, .string ⟨#[]⟩] := Hr1.out
    have hrB : Row (W1.drewN nq) (w.heap.size + 1) 30 [.int .i64 0, .string ⟨#[]⟩] := HrD1.out
    have hbA : Below w.heap.size w (W1.drewN nq) := ⟨Hb1.out.os, Hb1.out.tape, Hb1.out.output, Hb1.out.size, Hb1.out.block⟩
    clear c0 c1 d0 d1 f0 f1
    generalize W1.drewN nq = W2 at *
    have c0 := hrA.cell 0
    have c1 := hrA.cell 1
    have d0 := hrB.cell 0
    have d1 := hrB.cell 1
    simp only [List.getElem?_cons_zero, List.getElem?_cons_succ] at c0 c1 d0 d1
    have f0 := hrA.free 0
    have f1 := hrA.free 1
    have Hr2 := Lib.hid hrA
    have HrD2 := Lib.hid hrB
    have Hb2 := Lib.hid hbA
    clear hrA hrB hbA
    have hwk : IntKind.i64.wrap (k : Int) = (k : Int) := by rw [IntKind.wrap_i64]; omega
    by_cases hv : vs = sm
    · have hv2 : ((vs : Int) != (sm : Int)) = false := by rw [hv]; simp
      clear c0 c1 f0 f1 d0 d1
      go_wp2_with fail
      refine wp_region_held_drew (S := (fun _ : World => True)) (by kernel_rfl) (by trivial) (fun hHeld => ?_)
      refine wpAnyH_take (i := 0) (oi := { dst := some 56, op := Go.Op.move (Go.Operand.tmp 0), type := 9, pos := "ref.go:49", after := #[], guard := none }) (v := ?_) rfl (by kernel_rfl) (by kernel_rfl) (by kernel_rfl) (fun _ _ _ h => h) (Or.inl ⟨by rfl, ?_⟩) (by assumption) ?_
      rotate_left
      · (intro w hSw; (try dsimp only at hSw); go_simp; (try with_reducible rfl))
      try simp only [Act.put, List.setIfInBounds_toArray, List.set_cons_zero, List.set_cons_succ]
      refine wpAnyH_take (i := 1) (oi := { dst := some 57, op := Go.Op.index 9 (Go.Operand.tmp 56) (Go.Operand.const (Go.Value.int Go.IntKind.i64 0)), type := 5, pos := "ref.go:49", after := #[{ on := 0, ground := Go.Ground.data }], guard := none }) (v := ?_) rfl (by kernel_rfl) (by kernel_rfl) (by kernel_rfl) (fun _ _ _ h => h) (Or.inl ⟨by rfl, ?_⟩) (by assumption) ?_
      rotate_left
      · (intro w hSw; (try dsimp only at hSw); go_simp; (try with_reducible rfl))
      try simp only [Act.put, List.setIfInBounds_toArray, List.set_cons_zero, List.set_cons_succ]
      refine wpAnyH_take (i := 2) (oi := { dst := some 58, op := Go.Op.convert 5 3 (Go.Operand.tmp 57), type := 3, pos := "ref.go:49", after := #[{ on := 1, ground := Go.Ground.data }], guard := none }) (v := ?_) rfl (by kernel_rfl) (by kernel_rfl) (by kernel_rfl) (fun _ _ _ h => h) (Or.inl ⟨by rfl, ?_⟩) (by assumption) ?_
      rotate_left
      · (intro w hSw; (try dsimp only at hSw); go_simp; (try with_reducible rfl))
      try simp only [Act.put, List.setIfInBounds_toArray, List.set_cons_zero, List.set_cons_succ]
      refine wpAnyH_take (i := 3) (oi := { dst := some 59, op := Go.Op.move (Go.Operand.tmp 0), type := 9, pos := "ref.go:49", after := #[], guard := none }) (v := ?_) rfl (by kernel_rfl) (by kernel_rfl) (by kernel_rfl) (fun _ _ _ h => h) (Or.inl ⟨by rfl, ?_⟩) (by assumption) ?_
      rotate_left
      · (intro w hSw; (try dsimp only at hSw); go_simp; (try with_reducible rfl))
      try simp only [Act.put, List.setIfInBounds_toArray, List.set_cons_zero, List.set_cons_succ]
      refine wpAnyH_take (i := 4) (oi := { dst := some 60, op := Go.Op.move (Go.Operand.tmp 6), type := 3, pos := "ref.go:49", after := #[], guard := none }) (v := ?_) rfl (by kernel_rfl) (by kernel_rfl) (by kernel_rfl) (fun _ _ _ h => h) (Or.inl ⟨by rfl, ?_⟩) (by assumption) ?_
      rotate_left
      · (intro w hSw; (try dsimp only at hSw); go_simp; (try with_reducible rfl))
      try simp only [Act.put, List.setIfInBounds_toArray, List.set_cons_zero, List.set_cons_succ]
      refine wpAnyH_take (i := 5) (oi := { dst := some 61, op := Go.Op.binOp Go.BinOp.add 3 (Go.Operand.tmp 60) (Go.Operand.const (Go.Value.int Go.IntKind.i64 3)) 3, type := 3, pos := "ref.go:49", after := #[{ on := 4, ground := Go.Ground.data }], guard := none }) (v := ?_) rfl (by kernel_rfl) (by kernel_rfl) (by kernel_rfl) (fun _ _ _ h => h) (Or.inl ⟨by rfl, ?_⟩) (by assumption) ?_
      rotate_left
      · (intro w hSw; (try dsimp only at hSw); go_simp; (try with_reducible rfl))
      try simp only [Act.put, List.setIfInBounds_toArray, List.set_cons_zero, List.set_cons_succ]
      refine wpAnyH_take (i := 6) (oi := { dst := some 62, op := Go.Op.slice 9 (Go.Operand.tmp 59) (some (Go.Operand.const (Go.Value.int Go.IntKind.i64 3))) (some (Go.Operand.tmp 61)) none, type := 9, pos := "ref.go:49", after := #[{ on := 3, ground := Go.Ground.data }, { on := 5, ground := Go.Ground.data }], guard := none }) (v := ?_) rfl (by kernel_rfl) (by kernel_rfl) (by kernel_rfl) (fun _ _ _ h => h) (Or.inl ⟨by rfl, ?_⟩) (by assumption) ?_
      rotate_left
      · (intro w hSw; (try dsimp only at hSw); go_simp; (try with_reducible rfl))
      try simp only [Act.put, List.setIfInBounds_toArray, List.set_cons_zero, List.set_cons_succ]
      refine wpAnyH_take (i := 7) (oi := { dst := some 63, op := Go.Op.build 30 #[(0, Go.Operand.tmp 58), (1, Go.Operand.tmp 62)], type := 30, pos := "ref.go:49", after := #[{ on := 2, ground := Go.Ground.data }, { on := 6, ground := Go.Ground.data }], guard := none }) (v := ?_) rfl (by kernel_rfl) (by kernel_rfl) (by kernel_rfl) (fun _ _ _ h => h) (Or.inl ⟨by rfl, ?_⟩) (by assumption) ?_
      rotate_left
      · (intro w hSw; (try dsimp only at hSw); go_simp; (try with_reducible rfl))
      try simp only [Act.put, List.setIfInBounds_toArray, List.set_cons_zero, List.set_cons_succ]
      refine wpAnyH_take (i := 8) (oi := { dst := some 64, op := Go.Op.move (Go.Operand.tmp 6), type := 3, pos := "ref.go:49", after := #[{ on := 10, ground := Go.Ground.gcOnly Go.Departure.lateStores }], guard := none }) (v := ?_) rfl (by kernel_rfl) (by kernel_rfl) (by kernel_rfl) (fun _ _ _ h => h) (Or.inl ⟨by rfl, ?_⟩) (by assumption) ?_
      rotate_left
      · (intro w hSw; (try dsimp only at hSw); go_simp; (try with_reducible rfl))
      try simp only [Act.put, List.setIfInBounds_toArray, List.set_cons_zero, List.set_cons_succ]
      refine wpAnyH_take (i := 9) (oi := { dst := some 65, op := Go.Op.binOp Go.BinOp.add 3 (Go.Operand.tmp 64) (Go.Operand.const (Go.Value.int Go.IntKind.i64 11)) 3, type := 3, pos := "ref.go:49", after := #[{ on := 8, ground := Go.Ground.data }, { on := 10, ground := Go.Ground.gcOnly Go.Departure.lateStores }], guard := none }) (v := ?_) rfl (by kernel_rfl) (by kernel_rfl) (by kernel_rfl) (fun _ _ _ h => h) (Or.inl ⟨by rfl, ?_⟩) (by assumption) ?_
      rotate_left
      · (intro w hSw; (try dsimp only at hSw); go_simp; (try with_reducible rfl))
      try simp only [Act.put, List.setIfInBounds_toArray, List.set_cons_zero, List.set_cons_succ]
      have f0 := Hr2.out.free 0
      have f1 := Hr2.out.free 1
      have c0 := Hr2.out.cell 0
      have c1 := Hr2.out.cell 1
      simp only [List.getElem?_cons_zero, List.getElem?_cons_succ] at c0 c1
      refine wpAnyH_ready (rs := [10]) (by kernel_rfl) (by simp) ?_
      refine AllReadyH.cons (o := { dst := none, op := Go.Op.store 30 (Go.Operand.tmp 2) (Go.Operand.tmp 63), type := 0, pos := "ref.go:49", after := #[{ on := 7, ground := Go.Ground.data }, { on := 0, ground := Go.Ground.phase }, { on := 1, ground := Go.Ground.phase }, { on := 2, ground := Go.Ground.phase }, { on := 3, ground := Go.Ground.phase }, { on := 4, ground := Go.Ground.phase }, { on := 5, ground := Go.Ground.phase }, { on := 6, ground := Go.Ground.phase }, { on := 7, ground := Go.Ground.phase }, { on := 8, ground := Go.Ground.textOnly Go.Departure.lateStores }, { on := 9, ground := Go.Ground.textOnly Go.Departure.lateStores }], guard := none }) rfl (fun K hK => ?_) AllReadyH.nil
      go_simp
      refine hK.out _ _ (by trivial) (fun hHeld => ?_)
      clear hK K
      try simp only [Act.put, List.setIfInBounds_toArray, List.set_cons_zero, List.set_cons_succ]
      refine wpAnyH_take (i := 11) (oi := { dst := some 3, op := Go.Op.assign (Go.Operand.tmp 65), type := 3, pos := "ref.go:49", after := #[{ on := 9, ground := Go.Ground.data }, { on := 10, ground := Go.Ground.chain }, { on := 0, ground := Go.Ground.phase }, { on := 1, ground := Go.Ground.phase }, { on := 2, ground := Go.Ground.phase }, { on := 3, ground := Go.Ground.phase }, { on := 4, ground := Go.Ground.phase }, { on := 5, ground := Go.Ground.phase }, { on := 6, ground := Go.Ground.phase }, { on := 7, ground := Go.Ground.phase }, { on := 8, ground := Go.Ground.phase }, { on := 9, ground := Go.Ground.phase }, { on := 10, ground := Go.Ground.phase }], guard := none }) (v := ?_) rfl (by kernel_rfl) (by kernel_rfl) (by kernel_rfl) (fun _ _ _ h => h) (Or.inl ⟨by rfl, ?_⟩) (by assumption) ?_
      rotate_left
      · (intro w hSw; (try dsimp only at hSw); go_simp; (try with_reducible rfl))
      try simp only [Act.put, List.setIfInBounds_toArray, List.set_cons_zero, List.set_cons_succ]
      refine wpAnyH_take (i := 12) (oi := { dst := some 4, op := Go.Op.assign (Go.Operand.const (Go.Value.int Go.IntKind.i64 0)), type := 3, pos := "ref.go:49", after := #[{ on := 11, ground := Go.Ground.chain }, { on := 0, ground := Go.Ground.phase }, { on := 1, ground := Go.Ground.phase }, { on := 2, ground := Go.Ground.phase }, { on := 3, ground := Go.Ground.phase }, { on := 4, ground := Go.Ground.phase }, { on := 5, ground := Go.Ground.phase }, { on := 6, ground := Go.Ground.phase }, { on := 7, ground := Go.Ground.phase }, { on := 8, ground := Go.Ground.phase }, { on := 9, ground := Go.Ground.phase }, { on := 10, ground := Go.Ground.phase }, { on := 11, ground := Go.Ground.phase }], guard := none }) (v := ?_) rfl (by kernel_rfl) (by kernel_rfl) (by kernel_rfl) (fun _ _ _ h => h) (Or.inl ⟨by rfl, ?_⟩) (by assumption) ?_
      rotate_left
      · (intro w hSw; (try dsimp only at hSw); go_simp; (try with_reducible rfl))
      try simp only [Act.put, List.setIfInBounds_toArray, List.set_cons_zero, List.set_cons_succ]
      refine wpAnyH_done (by kernel_rfl) ?_ _
      have hr7 := fr_row Hr2.out rfl (k : Int) bd
      have s0 : ((W2.setCell ⟨w.heap.size, 0, none⟩ (.int .i64 (k : Int))).setCell ⟨w.heap.size, 1, none⟩ (.string bd)).drew.cell? ⟨w.heap.size, 0, none⟩ = _ := hr7.cell 0
      have s1 : ((W2.setCell ⟨w.heap.size, 0, none⟩ (.int .i64 (k : Int))).setCell ⟨w.heap.size, 1, none⟩ (.string bd)).drew.cell? ⟨w.heap.size, 1, none⟩ = _ := hr7.cell 1
      have hb7 := fr_set_below Hb2.out (Nat.le_refl _) (.int .i64 (k : Int)) (.string bd)
      have HB7 : Hid (Below w.heap.size w ((W2.setCell ⟨w.heap.size, 0, none⟩ (.int .i64 (k : Int))).setCell ⟨w.heap.size, 1, none⟩ (.string bd)).drew) := Lib.hid ⟨hb7.os, hb7.tape, hb7.output, hb7.size, hb7.block⟩
      simp only [List.getElem?_cons_zero, List.getElem?_cons_succ] at s0 s1
      clear hr7 hb7 c0 c1 f0 f1 hHeld
      generalize ((W2.setCell ⟨w.heap.size, 0, none⟩ (.int .i64 (k : Int))).setCell ⟨w.heap.size, 1, none⟩ (.string bd)).drew = W3 at *
      have S0 := Lib.hid s0
      have S1 := Lib.hid s1
      clear s0 s1
      go_wp2
      have s0 := S0.out
      have s1 := S1.out
      refine bodyPost_ret (v := .tuple #[.agg #[.int .i64 (k : Int), .string bd], .int .i64 ((n : Int) + 11), .int .i64 0]) (by simp [results, Try.results18, go_sem, s0, s1]) rfl ⟨congrArg Ending.returned (by rw [HF5.out hk1 h3 h9 h11 (Hse.out.2 hv)]; dsimp only; rw [Hfm.out]; simp), HB7.out⟩
    · have hv2 : ((vs : Int) != (sm : Int)) = true := by simp; omega
      have hr7 := fr_row Hr2.out rfl 0 ⟨#[]⟩
      have s0 := hr7.cell 0
      have s1 := hr7.cell 1
      simp only [List.getElem?_cons_zero, List.getElem?_cons_succ] at s0 s1
      have S0 := Lib.hid s0
      have S1 := Lib.hid s1
      clear s0 s1 hr7
      go_wp2
      have s0 := S0.out
      have s1 := S1.out
      refine bodyPost_ret (v := .tuple #[.agg #[.int .i64 0, .string ⟨#[]⟩], .int .i64 ((n : Int) + 11), .int .i64 4]) (by simp [results, Try.results18, go_sem, s0, s1]) rfl ⟨congrArg Ending.returned (by rw [HF6.out hk1 h3 h9 h11 (fun h => hv (Hse.out.1 h)), zfr_V]; simp), fr_set_below Hb2.out (Nat.le_refl _) _ _⟩
end Go.Proofs.Ytckmdeiahpijcaa
