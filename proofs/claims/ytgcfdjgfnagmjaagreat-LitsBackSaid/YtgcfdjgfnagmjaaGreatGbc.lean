/-
  Layer 15 (lits): the laws' awake, by its walk: true. No condition.
  LitsAny (layer 15): the law's function by its walk: true for any string and any int. No condition.
  LitsBack (layer 15): the law's function by its walk: true for any two strings. No condition.
-/
import Derived.Test.YtgcfdjgfnagmjaaGreatGbb
import Derived.Test.YtgcfdjgfnagmjaaGreatGaz
import Derived.Test.YtgcfdjgfnagmjaaGreatGau
import Derived.Test.YtgcfdjgfnagmjaaGreatGac
import Derived.Deep.RegionHeld3
namespace Go.Proofs.YtgcfdjgfnagmjaaGreat
open Go.RowKit

theorem dec_aaaa : Bm.decL [1, 4, 97] 4 = some ([97, 97, 97, 97], 3) := by decide +kernel
theorem sym_aaaa : Bm.symN (Bm.countsI [97, 97, 97, 97]) = 1 := by decide +kernel
theorem alike_aaaa : Bm.alikeL [97, 97, 97, 97] = [1, 4, 97] := by decide +kernel
theorem raw_ab : Bm.rawL [97, 98] = [0, 2, 97, 98] := by decide +kernel
theorem str_aaaa : strOf [97, 97, 97, 97] = ⟨#[97, 97, 97, 97]⟩ := by decide
theorem str_14a : strOf [1, 4, 97] = ⟨#[1, 4, 97]⟩ := by decide
theorem str_02ab : strOf [0, 2, 97, 98] = ⟨#[0, 2, 97, 98]⟩ := by decide
theorem str_ab : strOf [97, 98] = ⟨#[97, 98]⟩ := by decide
theorem cnew_14a (w : World) : Calls Tryz.prog 8 #[.string ⟨#[1, 4, 97]⟩] w fun e w' => e = .returned (.pointer (some ⟨w.heap.size, 0, none⟩)) ∧ CR w' w.heap.size (some [1, 4, 97]) ∧ Below w.heap.size w w' := cnew_any [1, 4, 97] w
theorem lsdec_14a (b : Nat) (w : World) (h : CR w b (some [1, 4, 97])) : Calls Tryz.prog 9 #[.pointer (some ⟨b, 0, none⟩), .int .i64 4] w fun e w' => e = .returned (.tuple #[.string ⟨#[97, 97, 97, 97]⟩, .bool true]) ∧ w.grownBy w' (some b) :=
  (lsdec_any b [1, 4, 97] 4 w (by decide) (by decide) (by constructor <;> decide) h).mono fun e w' ⟨h1, h2⟩ => by
    rw [dec_aaaa] at h1
    have h3 := h1.1
    rw [str_aaaa] at h3
    exact ⟨h3, h2⟩
theorem lsenc_aaaa (w : World) : Calls Tryz.prog 6 #[.string ⟨#[97, 97, 97, 97]⟩] w fun e w' => e = .returned (.string ⟨#[1, 4, 97]⟩) ∧ Below w.heap.size w w' := by
  have h := lsenc_alike [97, 97, 97, 97] w (by decide) (by decide) sym_aaaa
  rw [alike_aaaa, str_aaaa, str_14a] at h
  exact h
theorem lraw_ab (w : World) : Calls Tryz.prog 10 #[.string ⟨#[97, 98]⟩] w fun e w' => e = .returned (.string ⟨#[0, 2, 97, 98]⟩) ∧ Below w.heap.size w w' := by
  have h := lraw_any [97, 98] w (by decide) (by decide)
  rw [raw_ab, str_ab, str_02ab] at h
  exact h
set_option maxHeartbeats 1000000 in
set_option maxRecDepth 100000 in
theorem lsawake_any (w : World) : Calls Tryz.prog 5 #[] w fun e w' => e = .returned (.bool true) ∧ Below w.heap.size w w' := by
  have Hnew := Lib.hid (cnew_14a w)
  have Hdec := Lib.hid (fun W b h => lsdec_14a b W h)
  have Henc := Lib.hid lsenc_aaaa
  have Hraw := Lib.hid lraw_ab
  obtain ⟨b, hb⟩ : ∃ b, b = w.heap.size := ⟨_, rfl⟩
  have Hbb := Lib.hid (show w.heap.size ≤ b by omega)
  rw [← hb] at Hnew ⊢
  have Hbe := Lib.hid hb
  clear hb
  go_enter Tryz.func5, Tryz.ntmps5
  go_wp2_with fail
  refine Hnew.out.mono ?_
  rintro e w1 ⟨rfl, hc1, hb1⟩
  have Hb1 := Lib.hid hb1
  have Hd1 := Lib.hid (Hdec.out w1 b hc1)
  clear hc1 hb1 Hnew Hdec
  go_wp2_with fail
  refine Hd1.out.mono ?_
  rintro e w2 ⟨rfl, hg2⟩
  have Hb2 := Lib.hid (Hb1.out.trans (below_grown hg2 (by omega) (by rw [Hbe.out]; exact Hb1.out.size)))
  clear hg2 Hb1 Hd1
  go_wp2_with fail
  refine (Henc.out _).mono ?_
  rintro e w3 ⟨rfl, hb3⟩
  have Hb3 := Lib.hid (Hb2.out.trans (hb3.mono (by rw [Hbe.out]; exact Hb2.out.size)))
  clear hb3 Hb2 Henc
  go_wp2_with fail
  refine (Hraw.out _).mono ?_
  rintro e w4 ⟨rfl, hb4⟩
  have Hb4 := Lib.hid (Hb3.out.trans (hb4.mono (by rw [Hbe.out]; exact Hb3.out.size)))
  clear hb4 Hb3 Hraw
  go_wp2
  go_ret
  exact ⟨rfl, Hb4.out⟩
end Go.Proofs.YtgcfdjgfnagmjaaGreat

namespace Go.Proofs.YtgcfdjgfnagmjaaGreat
open Go.RowKit

theorem dec_len (bs : List Nat) (m : Int) (t : List Nat × Nat) (hlt : ∀ x ∈ bs, x < 256) (h : Bm.decL bs m = some t) : (t.1.length : Int) ≤ m ∧ 0 < t.2 ∧ t.2 ≤ bs.length := by
  have hle := (Bm.decL_append bs [] m t h).2
  cases bs with
  | nil => cases h
  | cons k r =>
    unfold Bm.decL at h
    dsimp only at h
    split at h
    · next hc =>
      have hrt : ∀ x ∈ r.drop (Bm.firstG r).2, x < 256 := drop_lt (fun x hx => hlt x (List.mem_cons_of_mem _ hx)) _
      cases hb : Bm.bodyL k (Bm.firstG r).1 (r.drop (Bm.firstG r).2) with
      | none => rw [hb] at h; cases h
      | some q =>
        rw [hb] at h
        injection h with h
        have hq : q.1.length = (Bm.firstG r).1 := by
          unfold Bm.bodyL at hb
          generalize (Bm.firstG r).1 = n at *
          generalize r.drop (Bm.firstG r).2 = u at *
          split at hb
          · split at hb
            · next hn => injection hb with hb; rw [← hb]; dsimp only; rw [List.length_take]; omega
            · cases hb
          · split at hb
            · split at hb
              · injection hb with hb; rw [← hb]; simp
              · cases hb
            · split at hb
              · cases hr : Bm.readL u with
                | none => rw [hr] at hb; cases hb
                | some p =>
                  rw [hr] at hb
                  dsimp only at hb
                  cases hcb : Bm.codeB p.1 (u.drop p.2) n with
                  | none => rw [hcb] at hb; cases hb
                  | some q2 =>
                    rw [hcb] at hb
                    injection hb with hb
                    unfold Bm.codeB at hcb
                    split at hcb
                    · cases hd : Bm.decT p.1 (((u.drop p.2).drop (Bm.firstG (u.drop p.2)).2).take (Bm.firstG (u.drop p.2)).1) n with
                      | none => rw [hd] at hcb; cases hcb
                      | some d =>
                        rw [hd] at hcb
                        injection hcb with hcb
                        have := (Bm.enc_decT p.1 _ d n (fun x hx => hrt x (List.mem_of_mem_drop (List.mem_of_mem_drop (List.mem_of_mem_take hx)))) hd).2.1
                        rw [← hb, ← hcb]
                        exact this
                    · cases hcb
              · cases hb
        subst h
        refine ⟨?_, ?_, hle⟩
        · show ((q.1.length : Nat) : Int) ≤ m
          rw [hq]
          exact hc.2.1
        · show 0 < 1 + (Bm.firstG r).2 + q.2
          omega
    · cases h
set_option maxHeartbeats 1000000 in
set_option maxRecDepth 100000 in
theorem lsany_out (s : List Nat) (most : Int) (w : World) (hs : s.length ≤ 9223372036854775807) (h : 100 < s.length ∨ 500 < most) :
    Calls Tryz.prog 4 #[.string (strOf s), .int .i64 most] w fun e w' => e = .returned (.bool true) ∧ Below w.heap.size w w' := by
  have Haw := Lib.hid (lsawake_any w)
  have hsz := strOf_size s
  generalize strOf s = str at *
  go_enter Tryz.func4, Tryz.ntmps4
  go_wp2_with fail
  refine Haw.out.mono ?_
  rintro e w1 ⟨rfl, hb1⟩
  have Hb1 := Lib.hid hb1
  clear hb1
  by_cases h2 : 100 < s.length
  · have d2 : decide (100 < s.length) = true := decide_eq_true h2
    have d3 : decide ((100 : Int) < (s.length : Int)) = true := decide_eq_true (by omega)
    go_wp2
    go_ret
    exact ⟨rfl, Hb1.out⟩
  · have d2 : decide (100 < s.length) = false := decide_eq_false h2
    have d3 : decide ((100 : Int) < (s.length : Int)) = false := decide_eq_false (by omega)
    have d4 : decide ((500 : Int) < most) = true := decide_eq_true (by omega)
    go_wp2
    go_ret
    exact ⟨rfl, Hb1.out⟩
set_option maxHeartbeats 2000000 in
set_option maxRecDepth 100000 in
theorem lsany_none (s : List Nat) (most : Int) (w : World) (hs : s.length ≤ 100) (hm : most ≤ 500) (hm0 : Bm.IntOk most) (hlt : ∀ x ∈ s, x < 256) (hn : Bm.decL s most = none) :
    Calls Tryz.prog 4 #[.string (strOf s), .int .i64 most] w fun e w' => e = .returned (.bool true) ∧ Below w.heap.size w w' := by
  have Haw := Lib.hid (lsawake_any w)
  have hsz := strOf_size s
  have d3 : decide ((100 : Int) < (s.length : Int)) = false := decide_eq_false (by omega)
  have d3n : decide (100 < s.length) = false := decide_eq_false (by omega)
  have d4 : decide ((500 : Int) < most) = false := decide_eq_false (by omega)
  have Hnew := Lib.hid (fun W => cnew_any s W)
  have hd := fun W b h => lsdec_any b s most W (by omega) hlt hm0 h
  have hr := fun W => lsrdec_any s most W (by omega) hlt (by omega)
  rw [hn] at hd hr
  unfold LitP at hd
  unfold RefV15 at hr
  dsimp only at hd hr
  have Hd := Lib.hid hd
  have Hr := Lib.hid hr
  have hse : ((strOf []).toList == (strOf []).toList) = true := by simp
  clear hn hd hr hlt hm0
  generalize strOf [] = sN at *
  generalize strOf s = str at *
  go_enter Tryz.func4, Tryz.ntmps4
  go_wp2_with fail
  refine Haw.out.mono ?_
  rintro e w1 ⟨rfl, hb1⟩
  have Hb1 := Lib.hid hb1
  clear hb1 Haw
  go_wp2_with fail
  refine (Hnew.out _).mono ?_
  rintro e w2 ⟨rfl, hc2, hb2⟩
  have Hb2 := Lib.hid (Hb1.out.trans (hb2.mono Hb1.out.size))
  have Hle := Lib.hid Hb1.out.size
  have Hd2 := Lib.hid (Hd.out w2 _ hc2)
  clear hc2 hb2 Hb1 Hnew Hd
  generalize w1.heap.size = b at *
  go_wp2_with fail
  refine Hd2.out.mono ?_
  rintro e w3 ⟨rfl, hg3⟩
  have Hb3 := Lib.hid (Hb2.out.trans (below_grown hg3 Hle.out Hb2.out.size))
  clear hg3 Hb2 Hd2 Hle
  go_wp2_with fail
  refine (Hr.out _).mono ?_
  rintro e w4 ⟨rfl, hb4⟩
  have Hb4 := Lib.hid (Hb3.out.trans (hb4.mono Hb3.out.size))
  clear hb4 Hb3 Hr
  go_upto_region 10 with fail
  refine wp_region_held_drew (S := (fun _ : World => True)) (by kernel_rfl) (by trivial) (fun hHeld => ?_)
  refine wpAnyH_take (i := 0) (oi := { dst := some 42, op := Go.Op.move (Go.Operand.tmp 7), type := 4, pos := "law.go:46", after := #[], guard := none }) (v := ?_) rfl (by kernel_rfl) (by kernel_rfl) (by kernel_rfl) (fun _ _ _ h => h) (Or.inl ⟨by rfl, ?_⟩) (by assumption) ?_
  rotate_left
  · (intro w hSw; (try dsimp only at hSw); go_simp; (try with_reducible rfl))
  try simp only [Act.put, List.setIfInBounds_toArray, List.set_cons_zero, List.set_cons_succ]
  refine wpAnyH_take (i := 1) (oi := { dst := some 43, op := Go.Op.unOp Go.UnOp.not 4 (Go.Operand.tmp 42), type := 4, pos := "law.go:46", after := #[{ on := 0, ground := Go.Ground.data }], guard := none }) (v := ?_) rfl (by kernel_rfl) (by kernel_rfl) (by kernel_rfl) (fun _ _ _ h => h) (Or.inl ⟨by rfl, ?_⟩) (by assumption) ?_
  rotate_left
  · (intro w hSw; (try dsimp only at hSw); go_simp; (try with_reducible rfl))
  try simp only [Act.put, List.setIfInBounds_toArray, List.set_cons_zero, List.set_cons_succ]
  refine wpAnyH_take (i := 2) (oi := { dst := some 44, op := Go.Op.move (Go.Operand.tmp 43), type := 4, pos := "law.go:46", after := #[{ on := 1, ground := Go.Ground.data }], guard := none }) (v := ?_) rfl (by kernel_rfl) (by kernel_rfl) (by kernel_rfl) (fun _ _ _ h => h) (Or.inl ⟨by rfl, ?_⟩) (by assumption) ?_
  rotate_left
  · (intro w hSw; (try dsimp only at hSw); go_simp; (try with_reducible rfl))
  try simp only [Act.put, List.setIfInBounds_toArray, List.set_cons_zero, List.set_cons_succ]
  refine wpAnyH_take (i := 3) (oi := { dst := some 45, op := Go.Op.move (Go.Operand.tmp 5), type := 26, pos := "law.go:46", after := #[{ on := 2, ground := Go.Ground.guard }], guard := some (2, false) }) (v := undef) rfl (by kernel_rfl) (by kernel_rfl) (by kernel_rfl) (fun _ _ _ h => h) (Or.inr ⟨by rfl, rfl⟩) (by assumption) ?_
  try simp only [Act.put, List.setIfInBounds_toArray, List.set_cons_zero, List.set_cons_succ]
  refine wpAnyH_take (i := 4) (oi := { dst := some 46, op := Go.Op.call { callee := Go.Callee.value (Go.Operand.func 12), args := #[Go.Operand.tmp 45], argTypes := #[26] }, type := 9, pos := "law.go:46", after := #[{ on := 3, ground := Go.Ground.data }, { on := 2, ground := Go.Ground.chain }, { on := 2, ground := Go.Ground.guard }], guard := some (2, false) }) (v := undef) rfl (by kernel_rfl) (by kernel_rfl) (by kernel_rfl) (fun _ _ _ h => h) (Or.inr ⟨by rfl, rfl⟩) (by assumption) ?_
  try simp only [Act.put, List.setIfInBounds_toArray, List.set_cons_zero, List.set_cons_succ]
  refine wpAnyH_take (i := 5) (oi := { dst := some 47, op := Go.Op.move (Go.Operand.tmp 0), type := 9, pos := "law.go:46", after := #[{ on := 2, ground := Go.Ground.guard }], guard := some (2, false) }) (v := undef) rfl (by kernel_rfl) (by kernel_rfl) (by kernel_rfl) (fun _ _ _ h => h) (Or.inr ⟨by rfl, rfl⟩) (by assumption) ?_
  try simp only [Act.put, List.setIfInBounds_toArray, List.set_cons_zero, List.set_cons_succ]
  refine wpAnyH_take (i := 6) (oi := { dst := some 48, op := Go.Op.move (Go.Operand.tmp 9), type := 3, pos := "law.go:46", after := #[{ on := 2, ground := Go.Ground.guard }], guard := some (2, false) }) (v := undef) rfl (by kernel_rfl) (by kernel_rfl) (by kernel_rfl) (fun _ _ _ h => h) (Or.inr ⟨by rfl, rfl⟩) (by assumption) ?_
  try simp only [Act.put, List.setIfInBounds_toArray, List.set_cons_zero, List.set_cons_succ]
  refine wpAnyH_take (i := 7) (oi := { dst := some 49, op := Go.Op.slice 9 (Go.Operand.tmp 47) (some (Go.Operand.tmp 48)) none none, type := 9, pos := "law.go:46", after := #[{ on := 5, ground := Go.Ground.data }, { on := 6, ground := Go.Ground.data }, { on := 2, ground := Go.Ground.guard }], guard := some (2, false) }) (v := undef) rfl (by kernel_rfl) (by kernel_rfl) (by kernel_rfl) (fun _ _ _ h => h) (Or.inr ⟨by rfl, rfl⟩) (by assumption) ?_
  try simp only [Act.put, List.setIfInBounds_toArray, List.set_cons_zero, List.set_cons_succ]
  refine wpAnyH_take (i := 8) (oi := { dst := some 50, op := Go.Op.binOp Go.BinOp.eql 9 (Go.Operand.tmp 46) (Go.Operand.tmp 49) 9, type := 4, pos := "law.go:46", after := #[{ on := 4, ground := Go.Ground.data }, { on := 7, ground := Go.Ground.data }, { on := 2, ground := Go.Ground.guard }], guard := some (2, false) }) (v := undef) rfl (by kernel_rfl) (by kernel_rfl) (by kernel_rfl) (fun _ _ _ h => h) (Or.inr ⟨by rfl, rfl⟩) (by assumption) ?_
  try simp only [Act.put, List.setIfInBounds_toArray, List.set_cons_zero, List.set_cons_succ]
  refine wpAnyH_take (i := 9) (oi := { dst := some 51, op := Go.Op.move (Go.Operand.tmp 50), type := 4, pos := "law.go:46", after := #[{ on := 8, ground := Go.Ground.data }, { on := 4, ground := Go.Ground.chain }, { on := 2, ground := Go.Ground.guard }], guard := some (2, false) }) (v := undef) rfl (by kernel_rfl) (by kernel_rfl) (by kernel_rfl) (fun _ _ _ h => h) (Or.inr ⟨by rfl, rfl⟩) (by assumption) ?_
  try simp only [Act.put, List.setIfInBounds_toArray, List.set_cons_zero, List.set_cons_succ]
  refine wpAnyH_take (i := 10) (oi := { dst := some 52, op := Go.Op.move (Go.Operand.tmp 6), type := 9, pos := "law.go:46", after := #[{ on := 9, ground := Go.Ground.guard }], guard := some (9, true) }) (v := undef) rfl (by kernel_rfl) (by kernel_rfl) (by kernel_rfl) (fun _ _ _ h => h) (Or.inr ⟨by rfl, rfl⟩) (by assumption) ?_
  try simp only [Act.put, List.setIfInBounds_toArray, List.set_cons_zero, List.set_cons_succ]
  refine wpAnyH_take (i := 11) (oi := { dst := some 53, op := Go.Op.call { callee := Go.Callee.builtin Go.Builtin.len, args := #[Go.Operand.tmp 52], argTypes := #[9] }, type := 3, pos := "law.go:46", after := #[{ on := 10, ground := Go.Ground.data }, { on := 9, ground := Go.Ground.guard }], guard := some (9, true) }) (v := undef) rfl (by kernel_rfl) (by kernel_rfl) (by kernel_rfl) (fun _ _ _ h => h) (Or.inr ⟨by rfl, rfl⟩) (by assumption) ?_
  try simp only [Act.put, List.setIfInBounds_toArray, List.set_cons_zero, List.set_cons_succ]
  refine wpAnyH_take (i := 12) (oi := { dst := some 54, op := Go.Op.move (Go.Operand.tmp 1), type := 3, pos := "law.go:46", after := #[{ on := 9, ground := Go.Ground.guard }], guard := some (9, true) }) (v := undef) rfl (by kernel_rfl) (by kernel_rfl) (by kernel_rfl) (fun _ _ _ h => h) (Or.inr ⟨by rfl, rfl⟩) (by assumption) ?_
  try simp only [Act.put, List.setIfInBounds_toArray, List.set_cons_zero, List.set_cons_succ]
  refine wpAnyH_take (i := 13) (oi := { dst := some 55, op := Go.Op.binOp Go.BinOp.leq 3 (Go.Operand.tmp 53) (Go.Operand.tmp 54) 3, type := 4, pos := "law.go:46", after := #[{ on := 11, ground := Go.Ground.data }, { on := 12, ground := Go.Ground.data }, { on := 9, ground := Go.Ground.guard }], guard := some (9, true) }) (v := undef) rfl (by kernel_rfl) (by kernel_rfl) (by kernel_rfl) (fun _ _ _ h => h) (Or.inr ⟨by rfl, rfl⟩) (by assumption) ?_
  try simp only [Act.put, List.setIfInBounds_toArray, List.set_cons_zero, List.set_cons_succ]
  refine wpAnyH_take (i := 14) (oi := { dst := some 56, op := Go.Op.pick (Go.Operand.tmp 51) (Go.Operand.tmp 55) (Go.Operand.const (Go.Value.bool false)), type := 4, pos := "law.go:46", after := #[{ on := 9, ground := Go.Ground.data }, { on := 13, ground := Go.Ground.data }, { on := 2, ground := Go.Ground.guard }], guard := some (2, false) }) (v := undef) rfl (by kernel_rfl) (by kernel_rfl) (by kernel_rfl) (fun _ _ _ h => h) (Or.inr ⟨by rfl, rfl⟩) (by assumption) ?_
  try simp only [Act.put, List.setIfInBounds_toArray, List.set_cons_zero, List.set_cons_succ]
  refine wpAnyH_take (i := 15) (oi := { dst := some 57, op := Go.Op.pick (Go.Operand.tmp 44) (Go.Operand.const (Go.Value.bool true)) (Go.Operand.tmp 56), type := 4, pos := "law.go:46", after := #[{ on := 2, ground := Go.Ground.data }, { on := 14, ground := Go.Ground.data }], guard := none }) (v := ?_) rfl (by kernel_rfl) (by kernel_rfl) (by kernel_rfl) (fun _ _ _ h => h) (Or.inl ⟨by rfl, ?_⟩) (by assumption) ?_
  rotate_left
  · (intro w hSw; (try dsimp only at hSw); go_simp; (try with_reducible rfl))
  try simp only [Act.put, List.setIfInBounds_toArray, List.set_cons_zero, List.set_cons_succ]
  refine wpAnyH_take (i := 16) (oi := { dst := some 4, op := Go.Op.assign (Go.Operand.tmp 57), type := 4, pos := "law.go:46", after := #[{ on := 15, ground := Go.Ground.data }, { on := 9, ground := Go.Ground.chain }, { on := 0, ground := Go.Ground.phase }, { on := 1, ground := Go.Ground.phase }, { on := 2, ground := Go.Ground.phase }, { on := 3, ground := Go.Ground.phase }, { on := 4, ground := Go.Ground.phase }, { on := 5, ground := Go.Ground.phase }, { on := 6, ground := Go.Ground.phase }, { on := 7, ground := Go.Ground.phase }, { on := 8, ground := Go.Ground.phase }, { on := 9, ground := Go.Ground.phase }, { on := 10, ground := Go.Ground.phase }, { on := 11, ground := Go.Ground.phase }, { on := 12, ground := Go.Ground.phase }, { on := 13, ground := Go.Ground.phase }, { on := 14, ground := Go.Ground.phase }, { on := 15, ground := Go.Ground.phase }], guard := none }) (v := ?_) rfl (by kernel_rfl) (by kernel_rfl) (by kernel_rfl) (fun _ _ _ h => h) (Or.inl ⟨by rfl, ?_⟩) (by assumption) ?_
  rotate_left
  · (intro w hSw; (try dsimp only at hSw); go_simp; (try with_reducible rfl))
  try simp only [Act.put, List.setIfInBounds_toArray, List.set_cons_zero, List.set_cons_succ]
  refine wpAnyH_done (by kernel_rfl) ?_ _
  go_wp2
  go_ret
  exact ⟨rfl, Hb4.out.drew⟩
set_option maxHeartbeats 2000000 in
set_option maxRecDepth 100000 in
theorem lsany_some (s x : List Nat) (n : Nat) (most : Int) (w : World) (hs : s.length ≤ 100) (hm : most ≤ 500) (hm0 : Bm.IntOk most) (hlt : ∀ x ∈ s, x < 256) (hn : Bm.decL s most = some (x, n)) :
    Calls Tryz.prog 4 #[.string (strOf s), .int .i64 most] w fun e w' => e = .returned (.bool true) ∧ Below w.heap.size w w' := by
  have Haw := Lib.hid (lsawake_any w)
  have hsz := strOf_size s
  have d3 : decide ((100 : Int) < (s.length : Int)) = false := decide_eq_false (by omega)
  have d3n : decide (100 < s.length) = false := decide_eq_false (by omega)
  have d4 : decide ((500 : Int) < most) = false := decide_eq_false (by omega)
  have Hnew := Lib.hid (fun W => cnew_any s W)
  have hd := fun W b h => lsdec_any b s most W (by omega) hlt hm0 h
  have hr := fun W => lsrdec_any s most W (by omega) hlt (by omega)
  obtain ⟨hx, hn0, hnl⟩ := dec_len s most (x, n) hlt hn
  rw [hn] at hd hr
  unfold LitP at hd
  unfold RefV15 at hr
  dsimp only at hd hr hx hn0 hnl
  have Hd := Lib.hid hd
  have Hr := Lib.hid hr
  have Hrest := Lib.hid (fun W b (h : CR W b (some (s.drop n))) => rrest_any b _ W h)
  simp only [restS] at Hrest
  have hse : ((strOf x).toList == (strOf x).toList) = true := by simp
  have hsd : ((strOf (s.drop n)).toList == (strOf (s.drop n)).toList) = true := by simp
  have hsx := strOf_size x
  have hcut := fun W : World => str_from s n hnl W
  have d5 : decide ((0 : Int) < (n : Int)) = true := decide_eq_true (by omega)
  have d5n : decide (0 < n) = true := decide_eq_true hn0
  have d6 : decide ((x.length : Int) ≤ most) = true := decide_eq_true hx
  clear hn hd hr hlt hm0 hx
  generalize strOf (s.drop n) = sD at *
  generalize strOf x = sX at *
  generalize strOf s = str at *
  generalize x.length = lx at *
  go_enter Tryz.func4, Tryz.ntmps4
  go_wp2_with fail
  refine Haw.out.mono ?_
  rintro e w1 ⟨rfl, hb1⟩
  have Hb1 := Lib.hid hb1
  clear hb1 Haw
  go_wp2_with fail
  refine (Hnew.out _).mono ?_
  rintro e w2 ⟨rfl, hc2, hb2⟩
  have Hb2 := Lib.hid (Hb1.out.trans (hb2.mono Hb1.out.size))
  have Hle := Lib.hid Hb1.out.size
  have Hd2 := Lib.hid (Hd.out w2 _ hc2)
  clear hc2 hb2 Hb1 Hnew Hd
  generalize w1.heap.size = b at *
  go_wp2_with fail
  refine Hd2.out.mono ?_
  rintro e w3 ⟨⟨rfl, hc3⟩, hg3⟩
  have Hb3 := Lib.hid (Hb2.out.trans (below_grown hg3 Hle.out Hb2.out.size))
  have Hc3 := Lib.hid hc3
  clear hg3 Hb2 Hd2 hc3
  go_wp2_with fail
  refine (Hr.out _).mono ?_
  rintro e w4 ⟨rfl, hb4⟩
  have Hb4 := Lib.hid (Hb3.out.trans (hb4.mono Hb3.out.size))
  have Hr4 := Lib.hid (Hrest.out w4.drew b (Hc3.out.below hb4).drew)
  clear hb4 Hb3 Hr Hc3 Hrest
  go_upto_region 10 with fail
  refine wp_region_held_drew (S := (fun _ : World => True)) (by kernel_rfl) (by trivial) (fun hHeld => ?_)
  refine wpAnyH_take (i := 0) (oi := { dst := some 42, op := Go.Op.move (Go.Operand.tmp 7), type := 4, pos := "law.go:46", after := #[], guard := none }) (v := ?_) rfl (by kernel_rfl) (by kernel_rfl) (by kernel_rfl) (fun _ _ _ h => h) (Or.inl ⟨by rfl, ?_⟩) (by assumption) ?_
  rotate_left
  · (intro w hSw; (try dsimp only at hSw); go_simp; (try with_reducible rfl))
  try simp only [Act.put, List.setIfInBounds_toArray, List.set_cons_zero, List.set_cons_succ]
  refine wpAnyH_take (i := 1) (oi := { dst := some 43, op := Go.Op.unOp Go.UnOp.not 4 (Go.Operand.tmp 42), type := 4, pos := "law.go:46", after := #[{ on := 0, ground := Go.Ground.data }], guard := none }) (v := ?_) rfl (by kernel_rfl) (by kernel_rfl) (by kernel_rfl) (fun _ _ _ h => h) (Or.inl ⟨by rfl, ?_⟩) (by assumption) ?_
  rotate_left
  · (intro w hSw; (try dsimp only at hSw); go_simp; (try with_reducible rfl))
  try simp only [Act.put, List.setIfInBounds_toArray, List.set_cons_zero, List.set_cons_succ]
  refine wpAnyH_take (i := 2) (oi := { dst := some 44, op := Go.Op.move (Go.Operand.tmp 43), type := 4, pos := "law.go:46", after := #[{ on := 1, ground := Go.Ground.data }], guard := none }) (v := ?_) rfl (by kernel_rfl) (by kernel_rfl) (by kernel_rfl) (fun _ _ _ h => h) (Or.inl ⟨by rfl, ?_⟩) (by assumption) ?_
  rotate_left
  · (intro w hSw; (try dsimp only at hSw); go_simp; (try with_reducible rfl))
  try simp only [Act.put, List.setIfInBounds_toArray, List.set_cons_zero, List.set_cons_succ]
  refine wpAnyH_take (i := 3) (oi := { dst := some 45, op := Go.Op.move (Go.Operand.tmp 5), type := 26, pos := "law.go:46", after := #[{ on := 2, ground := Go.Ground.guard }], guard := some (2, false) }) (v := ?_) rfl (by kernel_rfl) (by kernel_rfl) (by kernel_rfl) (fun _ _ _ h => h) (Or.inl ⟨by rfl, ?_⟩) (by assumption) ?_
  rotate_left
  · (intro w hSw; (try dsimp only at hSw); go_simp; (try with_reducible rfl))
  try simp only [Act.put, List.setIfInBounds_toArray, List.set_cons_zero, List.set_cons_succ]
  refine wpAnyH_take (i := 5) (oi := { dst := some 47, op := Go.Op.move (Go.Operand.tmp 0), type := 9, pos := "law.go:46", after := #[{ on := 2, ground := Go.Ground.guard }], guard := some (2, false) }) (v := ?_) rfl (by kernel_rfl) (by kernel_rfl) (by kernel_rfl) (fun _ _ _ h => h) (Or.inl ⟨by rfl, ?_⟩) (by assumption) ?_
  rotate_left
  · (intro w hSw; (try dsimp only at hSw); go_simp; (try with_reducible rfl))
  try simp only [Act.put, List.setIfInBounds_toArray, List.set_cons_zero, List.set_cons_succ]
  refine wpAnyH_take (i := 6) (oi := { dst := some 48, op := Go.Op.move (Go.Operand.tmp 9), type := 3, pos := "law.go:46", after := #[{ on := 2, ground := Go.Ground.guard }], guard := some (2, false) }) (v := ?_) rfl (by kernel_rfl) (by kernel_rfl) (by kernel_rfl) (fun _ _ _ h => h) (Or.inl ⟨by rfl, ?_⟩) (by assumption) ?_
  rotate_left
  · (intro w hSw; (try dsimp only at hSw); go_simp; (try with_reducible rfl))
  try simp only [Act.put, List.setIfInBounds_toArray, List.set_cons_zero, List.set_cons_succ]
  refine wpAnyH_take (i := 7) (oi := { dst := some 49, op := Go.Op.slice 9 (Go.Operand.tmp 47) (some (Go.Operand.tmp 48)) none none, type := 9, pos := "law.go:46", after := #[{ on := 5, ground := Go.Ground.data }, { on := 6, ground := Go.Ground.data }, { on := 2, ground := Go.Ground.guard }], guard := some (2, false) }) (v := ?_) rfl (by kernel_rfl) (by kernel_rfl) (by kernel_rfl) (fun _ _ _ h => h) (Or.inl ⟨by rfl, ?_⟩) (by assumption) ?_
  rotate_left
  · (intro w hSw; (try dsimp only at hSw); go_simp; (try with_reducible rfl))
  try simp only [Act.put, List.setIfInBounds_toArray, List.set_cons_zero, List.set_cons_succ]
  refine wpAnyH_ready (rs := [4]) (by kernel_rfl) (by simp) ?_
  refine AllReadyH.cons (o := { dst := some 46, op := Go.Op.call { callee := Go.Callee.value (Go.Operand.func 12), args := #[Go.Operand.tmp 45], argTypes := #[26] }, type := 9, pos := "law.go:46", after := #[{ on := 3, ground := Go.Ground.data }, { on := 2, ground := Go.Ground.chain }, { on := 2, ground := Go.Ground.guard }], guard := some (2, false) }) rfl (fun K hK => ?_) AllReadyH.nil
  go_simp
  (go_at_call 12; refine Hr4.out.mono ?_; rintro e w5 ⟨rfl, hc5, hg5⟩; have HZ := Lib.hid (Hb4.out.drew.trans (below_grown hg5 Hle.out Hb4.out.drew.size)); clear hc5 hg5)
  go_simp
  refine hK.out _ _ (by trivial) (fun hHeld => ?_)
  clear hK K
  try simp only [Act.put, List.setIfInBounds_toArray, List.set_cons_zero, List.set_cons_succ]
  refine wpAnyH_take (i := 8) (oi := { dst := some 50, op := Go.Op.binOp Go.BinOp.eql 9 (Go.Operand.tmp 46) (Go.Operand.tmp 49) 9, type := 4, pos := "law.go:46", after := #[{ on := 4, ground := Go.Ground.data }, { on := 7, ground := Go.Ground.data }, { on := 2, ground := Go.Ground.guard }], guard := some (2, false) }) (v := ?_) rfl (by kernel_rfl) (by kernel_rfl) (by kernel_rfl) (fun _ _ _ h => h) (Or.inl ⟨by rfl, ?_⟩) (by assumption) ?_
  rotate_left
  · (intro w hSw; (try dsimp only at hSw); go_simp; (try with_reducible rfl))
  try simp only [Act.put, List.setIfInBounds_toArray, List.set_cons_zero, List.set_cons_succ]
  refine wpAnyH_take (i := 9) (oi := { dst := some 51, op := Go.Op.move (Go.Operand.tmp 50), type := 4, pos := "law.go:46", after := #[{ on := 8, ground := Go.Ground.data }, { on := 4, ground := Go.Ground.chain }, { on := 2, ground := Go.Ground.guard }], guard := some (2, false) }) (v := ?_) rfl (by kernel_rfl) (by kernel_rfl) (by kernel_rfl) (fun _ _ _ h => h) (Or.inl ⟨by rfl, ?_⟩) (by assumption) ?_
  rotate_left
  · (intro w hSw; (try dsimp only at hSw); go_simp; (try with_reducible rfl))
  try simp only [Act.put, List.setIfInBounds_toArray, List.set_cons_zero, List.set_cons_succ]
  refine wpAnyH_take (i := 10) (oi := { dst := some 52, op := Go.Op.move (Go.Operand.tmp 6), type := 9, pos := "law.go:46", after := #[{ on := 9, ground := Go.Ground.guard }], guard := some (9, true) }) (v := ?_) rfl (by kernel_rfl) (by kernel_rfl) (by kernel_rfl) (fun _ _ _ h => h) (Or.inl ⟨by rfl, ?_⟩) (by assumption) ?_
  rotate_left
  · (intro w hSw; (try dsimp only at hSw); go_simp; (try with_reducible rfl))
  try simp only [Act.put, List.setIfInBounds_toArray, List.set_cons_zero, List.set_cons_succ]
  refine wpAnyH_take (i := 11) (oi := { dst := some 53, op := Go.Op.call { callee := Go.Callee.builtin Go.Builtin.len, args := #[Go.Operand.tmp 52], argTypes := #[9] }, type := 3, pos := "law.go:46", after := #[{ on := 10, ground := Go.Ground.data }, { on := 9, ground := Go.Ground.guard }], guard := some (9, true) }) (v := ?_) rfl (by kernel_rfl) (by kernel_rfl) (by kernel_rfl) (fun _ _ _ h => h) (Or.inl ⟨by rfl, ?_⟩) (by assumption) ?_
  rotate_left
  · (intro w hSw; (try dsimp only at hSw); go_simp; (try with_reducible rfl))
  try simp only [Act.put, List.setIfInBounds_toArray, List.set_cons_zero, List.set_cons_succ]
  refine wpAnyH_take (i := 12) (oi := { dst := some 54, op := Go.Op.move (Go.Operand.tmp 1), type := 3, pos := "law.go:46", after := #[{ on := 9, ground := Go.Ground.guard }], guard := some (9, true) }) (v := ?_) rfl (by kernel_rfl) (by kernel_rfl) (by kernel_rfl) (fun _ _ _ h => h) (Or.inl ⟨by rfl, ?_⟩) (by assumption) ?_
  rotate_left
  · (intro w hSw; (try dsimp only at hSw); go_simp; (try with_reducible rfl))
  try simp only [Act.put, List.setIfInBounds_toArray, List.set_cons_zero, List.set_cons_succ]
  refine wpAnyH_take (i := 13) (oi := { dst := some 55, op := Go.Op.binOp Go.BinOp.leq 3 (Go.Operand.tmp 53) (Go.Operand.tmp 54) 3, type := 4, pos := "law.go:46", after := #[{ on := 11, ground := Go.Ground.data }, { on := 12, ground := Go.Ground.data }, { on := 9, ground := Go.Ground.guard }], guard := some (9, true) }) (v := ?_) rfl (by kernel_rfl) (by kernel_rfl) (by kernel_rfl) (fun _ _ _ h => h) (Or.inl ⟨by rfl, ?_⟩) (by assumption) ?_
  rotate_left
  · (intro w hSw; (try dsimp only at hSw); go_simp; (try with_reducible rfl))
  try simp only [Act.put, List.setIfInBounds_toArray, List.set_cons_zero, List.set_cons_succ]
  refine wpAnyH_take (i := 14) (oi := { dst := some 56, op := Go.Op.pick (Go.Operand.tmp 51) (Go.Operand.tmp 55) (Go.Operand.const (Go.Value.bool false)), type := 4, pos := "law.go:46", after := #[{ on := 9, ground := Go.Ground.data }, { on := 13, ground := Go.Ground.data }, { on := 2, ground := Go.Ground.guard }], guard := some (2, false) }) (v := ?_) rfl (by kernel_rfl) (by kernel_rfl) (by kernel_rfl) (fun _ _ _ h => h) (Or.inl ⟨by rfl, ?_⟩) (by assumption) ?_
  rotate_left
  · (intro w hSw; (try dsimp only at hSw); go_simp; (try with_reducible rfl))
  try simp only [Act.put, List.setIfInBounds_toArray, List.set_cons_zero, List.set_cons_succ]
  refine wpAnyH_take (i := 15) (oi := { dst := some 57, op := Go.Op.pick (Go.Operand.tmp 44) (Go.Operand.const (Go.Value.bool true)) (Go.Operand.tmp 56), type := 4, pos := "law.go:46", after := #[{ on := 2, ground := Go.Ground.data }, { on := 14, ground := Go.Ground.data }], guard := none }) (v := ?_) rfl (by kernel_rfl) (by kernel_rfl) (by kernel_rfl) (fun _ _ _ h => h) (Or.inl ⟨by rfl, ?_⟩) (by assumption) ?_
  rotate_left
  · (intro w hSw; (try dsimp only at hSw); go_simp; (try with_reducible rfl))
  try simp only [Act.put, List.setIfInBounds_toArray, List.set_cons_zero, List.set_cons_succ]
  refine wpAnyH_take (i := 16) (oi := { dst := some 4, op := Go.Op.assign (Go.Operand.tmp 57), type := 4, pos := "law.go:46", after := #[{ on := 15, ground := Go.Ground.data }, { on := 9, ground := Go.Ground.chain }, { on := 0, ground := Go.Ground.phase }, { on := 1, ground := Go.Ground.phase }, { on := 2, ground := Go.Ground.phase }, { on := 3, ground := Go.Ground.phase }, { on := 4, ground := Go.Ground.phase }, { on := 5, ground := Go.Ground.phase }, { on := 6, ground := Go.Ground.phase }, { on := 7, ground := Go.Ground.phase }, { on := 8, ground := Go.Ground.phase }, { on := 9, ground := Go.Ground.phase }, { on := 10, ground := Go.Ground.phase }, { on := 11, ground := Go.Ground.phase }, { on := 12, ground := Go.Ground.phase }, { on := 13, ground := Go.Ground.phase }, { on := 14, ground := Go.Ground.phase }, { on := 15, ground := Go.Ground.phase }], guard := none }) (v := ?_) rfl (by kernel_rfl) (by kernel_rfl) (by kernel_rfl) (fun _ _ _ h => h) (Or.inl ⟨by rfl, ?_⟩) (by assumption) ?_
  rotate_left
  · (intro w hSw; (try dsimp only at hSw); go_simp; (try with_reducible rfl))
  try simp only [Act.put, List.setIfInBounds_toArray, List.set_cons_zero, List.set_cons_succ]
  refine wpAnyH_done (by kernel_rfl) ?_ _
  go_wp2
  go_ret
  exact ⟨rfl, HZ.out⟩
end Go.Proofs.YtgcfdjgfnagmjaaGreat

namespace Go.Proofs.YtgcfdjgfnagmjaaGreat
open Go.RowKit

set_option maxHeartbeats 1000000 in
set_option maxRecDepth 100000 in
theorem lsback_out (s u : List Nat) (w : World) (hs : s.length ≤ 9223372036854775807) (hu : u.length ≤ 9223372036854775807) (h : 300 < s.length ∨ 20 < u.length) :
    Calls Tryz.prog 3 #[.string (strOf s), .string (strOf u)] w fun e w' => e = .returned (.bool true) ∧ Below w.heap.size w w' := by
  have Haw := Lib.hid (lsawake_any w)
  have hsz := strOf_size s
  have huz := strOf_size u
  generalize strOf s = str at *
  generalize strOf u = stu at *
  go_enter Tryz.func3, Tryz.ntmps3
  go_wp2_with fail
  refine Haw.out.mono ?_
  rintro e w1 ⟨rfl, hb1⟩
  have Hb1 := Lib.hid hb1
  clear hb1
  by_cases h2 : 300 < s.length
  · have d2 : decide (300 < s.length) = true := decide_eq_true h2
    have d3 : decide ((300 : Int) < (s.length : Int)) = true := decide_eq_true (by omega)
    go_wp2
    go_ret
    exact ⟨rfl, Hb1.out⟩
  · have d2 : decide (300 < s.length) = false := decide_eq_false h2
    have d3 : decide ((300 : Int) < (s.length : Int)) = false := decide_eq_false (by omega)
    have h4 : 20 < u.length := by omega
    have d4 : decide (20 < u.length) = true := decide_eq_true h4
    have d5 : decide ((20 : Int) < (u.length : Int)) = true := decide_eq_true (by omega)
    go_wp2
    go_ret
    exact ⟨rfl, Hb1.out⟩
theorem nul_add (l : List Nat) (h : l.length ≤ 100000) (W : World) : (Op.stringOp .add ⟨#[0]⟩ (strOf l)).run Tryz.prog W = .ok (.string (strOf (0 :: l))) W := str_add [0] l (by rw [List.length_singleton]; omega) W
set_option maxHeartbeats 2000000 in
set_option maxRecDepth 100000 in
theorem lsback_in (s u : List Nat) (w : World) (hs : s.length ≤ 300) (hu : u.length ≤ 20) (hlt : ∀ x ∈ s, x < 256) (hult : ∀ x ∈ u, x < 256) :
    Calls Tryz.prog 3 #[.string (strOf s), .string (strOf u)] w fun e w' => e = .returned (.bool true) ∧ Below w.heap.size w w' := by
  have Haw := Lib.hid (lsawake_any w)
  have hsz := strOf_size s
  have huz := strOf_size u
  have d3 : decide ((300 : Int) < (s.length : Int)) = false := decide_eq_false (by omega)
  have d3n : decide (300 < s.length) = false := decide_eq_false (by omega)
  have d4 : decide ((20 : Int) < (u.length : Int)) = false := decide_eq_false (by omega)
  have d4n : decide (20 < u.length) = false := decide_eq_false (by omega)
  have Henc := Lib.hid (fun W => lsenc_any s W (by omega) hlt)
  have Hraw := Lib.hid (fun W => lraw_any s W (by omega) hlt)
  have Htext := Lib.hid (fun W => ftext_any s W (by omega))
  have hten := Bm.grp_ten s.length (by omega)
  have hnul := fun W => nul_add (Bm.grp s.length ++ s) (by rw [List.length_append]; omega) W
  rw [show (0 : Nat) :: (Bm.grp s.length ++ s) = Bm.rawL s from rfl] at hnul
  have hrl := Bm.rawL_length s
  have hsR := strOf_size (Bm.rawL s)
  have hRR : ((strOf (Bm.rawL s)).toList == (strOf (Bm.rawL s)).toList) = true := by simp
  have hss : ((strOf s).toList == (strOf s).toList) = true := by simp
  have huu : ((strOf u).toList == (strOf u).toList) = true := by simp
  obtain ⟨n, hn⟩ : ∃ n, n = s.length := ⟨_, rfl⟩
  obtain ⟨R, hR⟩ : ∃ R, R = (Bm.rawL s).length := ⟨_, rfl⟩
  have Hn := Lib.hid hn
  have HR := Lib.hid (show R = 1 + (Bm.grp s.length).length + s.length by rw [hR]; exact hrl)
  have Hult := Lib.hid hult
  have Hu := Lib.hid hu
  have Hten := Lib.hid hten
  rw [← hR] at hsR
  have hR2 : R ≤ 400 := by omega
  clear hR hrl hlt hult hu hten
  generalize strOf (Bm.rawL s) = sR at *
  generalize strOf (Bm.grp s.length ++ s) = sG at *
  rw [← hn] at hsz d3 d3n hs
  clear hn
  go_enter Tryz.func3, Tryz.ntmps3
  go_wp2_with fail
  refine Haw.out.mono ?_
  rintro e w1 ⟨rfl, hb1⟩
  have Hb1 := Lib.hid hb1
  clear hb1 Haw
  go_wp2_with fail
  refine (Henc.out _).mono ?_
  rintro e w2 ⟨⟨E, hE, rfl⟩, hb2⟩
  have Hb2 := Lib.hid (Hb1.out.trans (hb2.mono Hb1.out.size))
  clear hb2 Hb1 Henc
  obtain ⟨_, hE256, hEl, hdec⟩ := hE
  rw [← HR.out] at hEl
  rw [← Hn.out] at hdec
  obtain ⟨hd2, hEle⟩ := Bm.decL_append E u (n : Int) (s, E.length) hdec
  have hul := Hu.out
  have hEu : (E ++ u).length ≤ 1000 := by rw [List.length_append]; omega
  have hElt : ∀ x ∈ E ++ u, x < 256 := append_lt hE256 Hult.out
  have hadd := fun W : World => str_add E u (by omega) W
  have hrf := fun W => lsrdec_any (E ++ u) (n : Int) W hEu hElt (by omega)
  have hdc := fun W b h => lsdec_any b (E ++ u) (n : Int) W hEu hElt (by constructor <;> omega) h
  rw [hd2] at hrf hdc
  unfold LitP at hdc
  unfold RefV15 at hrf
  dsimp only at hdc hrf
  rw [List.drop_left] at hdc
  have Hrf := Lib.hid hrf
  have Hdc := Lib.hid hdc
  have Hnew := Lib.hid (fun W => cnew_any (E ++ u) W)
  have Hrest := Lib.hid (fun W b (h : CR W b (some u)) => rrest_any b _ W h)
  simp only [restS] at Hrest
  have hsE := strOf_size E
  have dle : decide ((E.length : Int) ≤ (R : Int)) = true := decide_eq_true (by omega)
  have dlen : decide (E.length ≤ R) = true := decide_eq_true hEl
  have hEb : E.length ≤ 400 := by omega
  have hee : ((E.length : Int) == (E.length : Int)) = true := by simp
  clear hE256 hdec hd2 hEle hEu hElt hrf hdc hEl hul Hult Hu Hten HR
  generalize strOf (E ++ u) = sEu at *
  generalize strOf E = sE at *
  generalize E.length = lE at *
  generalize strOf s = str at *
  generalize strOf u = stu at *
  go_wp2_with fail
  refine (Hrf.out _).mono ?_
  rintro e w3 ⟨rfl, hb3⟩
  have Hb3 := Lib.hid (Hb2.out.trans (hb3.mono Hb2.out.size))
  clear hb3 Hb2 Hrf
  go_wp2_with fail
  refine (Hnew.out _).mono ?_
  rintro e w4 ⟨rfl, hc4, hb4⟩
  have Hb4 := Lib.hid (Hb3.out.trans (hb4.mono Hb3.out.size))
  have Hle := Lib.hid Hb3.out.size
  have Hd4 := Lib.hid (Hdc.out w4 _ hc4)
  clear hc4 hb4 Hb3 Hnew Hdc
  generalize w3.heap.size = b at *
  go_wp2_with fail
  refine Hd4.out.mono ?_
  rintro e w5 ⟨⟨rfl, hc5⟩, hg5⟩
  have Hb5 := Lib.hid (Hb4.out.trans (below_grown hg5 Hle.out Hb4.out.size))
  have Hc5 := Lib.hid hc5
  clear hg5 Hb4 Hd4 hc5
  go_wp2_with fail
  refine (Hraw.out _).mono ?_
  rintro e w6 ⟨rfl, hb6⟩
  have Hb6 := Lib.hid (Hb5.out.trans (hb6.mono Hb5.out.size))
  have Hc6 := Lib.hid (Hc5.out.below hb6)
  clear hb6 Hb5 Hc5
  go_wp2_with fail
  refine (Hraw.out _).mono ?_
  rintro e w7 ⟨rfl, hb7⟩
  have Hb7 := Lib.hid (Hb6.out.trans (hb7.mono Hb6.out.size))
  have Hc7 := Lib.hid (Hc6.out.below hb7)
  clear hb7 Hb6 Hc6 Hraw
  go_wp2_with fail
  refine (Htext.out _).mono ?_
  rintro e w8 ⟨rfl, hb8⟩
  have Hb8 := Lib.hid (Hb7.out.trans (hb8.mono Hb7.out.size))
  have Hr8 := Lib.hid (Hrest.out w8 b (Hc7.out.below hb8))
  clear hb8 Hb7 Hc7 Htext Hrest
  go_wp2_with fail
  refine Hr8.out.mono ?_
  rintro e w9 ⟨rfl, hc9, hg9⟩
  have Hb9 := Lib.hid (Hb8.out.trans (below_grown hg9 Hle.out Hb8.out.size))
  clear hc9 hg9 Hb8 Hr8
  go_wp2
  go_ret
  exact ⟨rfl, Hb9.out⟩
end Go.Proofs.YtgcfdjgfnagmjaaGreat
