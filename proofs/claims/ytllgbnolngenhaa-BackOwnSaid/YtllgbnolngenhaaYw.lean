/-
  BackOwn (layer 2), the statement's own walk: it returns true and changes nothing that was there. No condition beyond that the arguments are two uint64s and two ints.
-/
import Derived.Test.YtllgbnolngenhaaYp
import Derived.Deep.DeepCutAuto
import Derived.RegionTactic
import Derived.Deep.RegionHeld3
import Derived.BigQuiet
import Derived.Deep.QuietTactic
namespace Go.Proofs.Ytllgbnolngenhaa
open Go.RowKit

set_option maxHeartbeats 400000 in
theorem kown_out (v0 v1 n m : Int) (w : World) (h : n < 0 ∨ 40 < n ∨ m < 0 ∨ 40 < m) :
    Calls Try.prog 5 #[.agg #[.int .u64 v0, .int .u64 v1], .int .i64 n, .int .i64 m] w fun e w' => e = .returned (.bool true) ∧ Below w.heap.size w w' := by
  have h' : n < 0 ∨ (0 ≤ n ∧ 40 < n) ∨ (0 ≤ n ∧ n ≤ 40 ∧ m < 0) ∨ (0 ≤ n ∧ n ≤ 40 ∧ 0 ≤ m ∧ 40 < m) := by omega
  clear h
  rcases h' with h | ⟨h0, h⟩ | ⟨h0, h1, h⟩ | ⟨h0, h1, h2, h⟩
  all_goals
    go_enter Try.func5, Try.ntmps5
    go_wp2_with fail
    refine (kawake_any _).mono ?_
    rintro e w1 ⟨rfl, hb⟩
    go_wp2
    go_ret
    exact ⟨rfl, ((Below.refl _ _).alloc (Nat.le_refl _) _).trans (hb.mono (by simp))⟩

/-- What the function literal has answered, as it lies in a world: sealed bits, in block g. -/
def KPut (W : World) (B : Nat) (s : Value) (v n g : Nat) : Prop := ∃ cap, s = .slice (some ⟨g, 0, none⟩) (n / 8 + 1) cap ∧ W.ownsRow B 5 1 s (n / 8 + 1) (u8s (Bm.bytesOf (v % 2 ^ n + 2 ^ n) (n / 8 + 1)))
def KPair (w1 W : World) (s u : Value) (v0 n v1 m : Nat) : Prop := ∃ gx gy, KPut W w1.heap.size s v0 n gx ∧ KPut W w1.heap.size u v1 m gy ∧ gx ≠ gy ∧ Below w1.heap.size w1 W

/-- Both, at their places. -/
def KQ (w1 W : World) (cx cy v0 n v1 m gx gy : Nat) : Prop :=
  W.ownsRow w1.heap.size 5 1 (.slice (some ⟨gx, 0, none⟩) (n / 8 + 1) cx) (n / 8 + 1) (u8s (Bm.bytesOf (v0 % 2 ^ n + 2 ^ n) (n / 8 + 1))) ∧
  W.ownsRow w1.heap.size 5 1 (.slice (some ⟨gy, 0, none⟩) (m / 8 + 1) cy) (m / 8 + 1) (u8s (Bm.bytesOf (v1 % 2 ^ m + 2 ^ m) (m / 8 + 1))) ∧ Below w1.heap.size w1 W
theorem KQ.drewN {w1 W : World} {cx cy v0 n v1 m gx gy : Nat} (h : KQ w1 W cx cy v0 n v1 m gx gy) (k : Nat) : KQ w1 (W.drewN k) cx cy v0 n v1 m gx gy :=
  ⟨ownK_below h.1 (below_drewN (Below.refl _ _) k), ownK_below h.2.1 (below_drewN (Below.refl _ _) k), below_drewN h.2.2 k⟩

set_option maxRecDepth 100000 in
set_option maxHeartbeats 4000000 in
theorem kown_in (v0 v1 n m : Nat) (w : World) (hv0 : v0 < 2 ^ 64) (hv1 : v1 < 2 ^ 64) (hn : n ≤ 40) (hm : m ≤ 40) :
    Calls Try.prog 5 #[.agg #[.int .u64 (v0 : Int), .int .u64 (v1 : Int)], .int .i64 (n : Int), .int .i64 (m : Int)] w fun e w' => e = .returned (.bool true) ∧ Below w.heap.size w w' := by
  go_enter Try.func5, Try.ntmps5
  go_wp2_with fail
  refine (kawake_any _).mono ?_
  rintro e w1 ⟨rfl, hb1⟩
  obtain ⟨bx, hbx⟩ : ∃ b, b = w.heap.size := ⟨_, rfl⟩
  have hrow : Row (w.alloc (.cells #[.int .u64 (v0 : Int), .int .u64 (v1 : Int)] 49)) w.heap.size 49 [.int .u64 (v0 : Int), .int .u64 (v1 : Int)] := Row.new w 49 _
  have hbl1 : bx < w1.heap.size := by rw [hbx]; have := hb1.size; simp at this; omega
  have hcl : ∀ W, Below w1.heap.size w1 W → W.cell? ⟨bx, 0, none⟩ = some (.int .u64 (v0 : Int)) ∧ W.cell? ⟨bx, 1, none⟩ = some (.int .u64 (v1 : Int)) := fun W hW => by
    have hbw : w.heap.size < (w.alloc (.cells #[.int .u64 (v0 : Int), .int .u64 (v1 : Int)] 49)).heap.size := by simp
    rw [hbx] at hbl1 ⊢
    exact ⟨((hW.cell (p := ⟨_, 0, none⟩) hbl1).trans (hb1.cell (p := ⟨_, 0, none⟩) hbw)).trans (hrow.cell 0), ((hW.cell (p := ⟨_, 1, none⟩) hbl1).trans (hb1.cell (p := ⟨_, 1, none⟩) hbw)).trans (hrow.cell 1)⟩
  have Hb1 := Lib.hid (((Below.refl w.heap.size w).alloc (Nat.le_refl _) (.cells #[.int .u64 (v0 : Int), .int .u64 (v1 : Int)] 49)).trans (hb1.mono (by simp)))
  have Hcl := Lib.hid hcl
  have Hbx := Lib.hid hbx
  clear hcl hrow hb1 hbl1 hbx
  go_upto_region 6 with fail
  rw [← Hbx.out]
  go_cut [8, 9] (fun s8 s9 wx => KPair w1 wx s8 s9 v0 n v1 m)
  case first =>
    have hc0 : ∀ W, Below w1.heap.size w1 W → W.cell? ⟨bx, 0, none⟩ = some (.int .u64 (v0 : Int)) := fun W hW => (Hcl.out W hW).1
    have hc1 : ∀ W, Below w1.heap.size w1 W → W.cell? ⟨bx, 1, none⟩ = some (.int .u64 (v1 : Int)) := fun W hW => (Hcl.out W hW).2
    go_region_held3 (fun W => Below w1.heap.size w1 W) (first | exact HY.out | exact HX.out | exact (Below.refl w1.heap.size w1).drew) (first
      | (go_at_call 17; (with_reducible refine (kput_any v0 n _ hv0 hn).mono ?_); rintro e wX ⟨gx, cx, rfl, hox, hbx⟩; have HX : Hid (Below w1.heap.size w1 wX) := (by first | exact Lib.hid (HY.out.trans (hbx.mono HY.out.size)) | exact Lib.hid ((Below.refl w1.heap.size w1).drew.trans hbx)); have Hox := Lib.hid hox; have Hbx' := Lib.hid hbx; clear hox hbx)
      | (go_at_call 17; (with_reducible refine (kput_any v1 m _ hv1 hm).mono ?_); rintro e wY ⟨gy, cy, rfl, hoy, hby⟩; have HY : Hid (Below w1.heap.size w1 wY) := (by first | exact Lib.hid (HX.out.trans (hby.mono HX.out.size)) | exact Lib.hid ((Below.refl w1.heap.size w1).drew.trans hby)); have Hoy := Lib.hid hoy; have Hby' := Lib.hid hby; clear hoy hby))
    all_goals
      go_wp2_with fail
      go_meet
      first
        | exact ⟨gx, gy, ⟨cx, rfl, own_low (ownK_below Hox.out Hby'.out) (Nat.le_refl _)⟩, ⟨cy, rfl, own_low Hoy.out HX.out.size⟩, (by have h1 := (own_place Hox.out).2.1; have h2 := (own_place Hoy.out).1; omega), HY.out⟩
        | exact ⟨gx, gy, ⟨cx, rfl, own_low Hox.out HY.out.size⟩, ⟨cy, rfl, own_low (ownK_below Hoy.out Hbx'.out) (Nat.le_refl _)⟩, (by have h1 := (own_place Hoy.out).2.1; have h2 := (own_place Hox.out).1; omega), HX.out⟩
  case rest =>
    obtain ⟨gx, gy, ⟨cx, rfl, hox⟩, ⟨cy, rfl, hoy⟩, hne, hbc⟩ := hcut
    have Hc := Lib.hid (show KQ w1 wc cx cy v0 n v1 m gx gy from ⟨hox, hoy, hbc⟩)
    have hcc := Hcl.out _ hbc
    obtain ⟨hc0, hc1⟩ := hcc
    clear hox hoy hbc
    go_upto_region 7 with fail
    go_cut [10] (fun s10 wx => s10 = .bool (sameB v0 v1 n m) ∧ KQ w1 wx cx cy v0 n v1 m gx gy)
    case first =>
      by_cases hnm : n = m
      · subst hnm
        have hd : ((n : Int) == (n : Int)) = true := by simp
        go_quiet (fail)
        go_wp2_with fail
        go_meet
        exact ⟨by rw [same_eq _ _ _ hv0 hv1 (by omega)], Hc.out.drewN _⟩
      · have hd : ((n : Int) == (m : Int)) = false := by simp; omega
        go_quiet (fail)
        go_wp2_with fail
        go_meet
        exact ⟨by rw [same_ne _ _ _ _ hnm], Hc.out.drewN _⟩
    case rest =>
      obtain ⟨rfl, hox, hoy, hbc⟩ := hcut
      obtain ⟨hxg, hgxl, _, _, hrdx⟩ := own_place hox
      obtain ⟨hyg, hgyl, _, _, _⟩ := own_place hoy
      have hN0 : v0 % 2 ^ n < 2 ^ n := Nat.mod_lt _ (Nat.two_pow_pos n)
      have hop := open_seal gx cx (v0 % 2 ^ n) n wc (by omega) hN0 hrdx hgxl
      have hlx := Bm.bytesOf_length (v0 % 2 ^ n + 2 ^ n) (n / 8 + 1)
      have hbx := Bm.bytesOf_lt (v0 % 2 ^ n + 2 ^ n) (n / 8 + 1)
      obtain ⟨x0, hxc⟩ : ∃ x0 : Nat, wc.cell? ⟨gx, 0, none⟩ = some (.int .u8 (x0 : Int)) := by
        have h := hox.cellAt 0 (by omega)
        rw [u8s_get? _ 0 (by rw [hlx]; omega)] at h
        exact ⟨_, h⟩
      have hxf := hox.frozenAt 0
      have hstr := str_same v0 v1 n m
      have hkp := fun W => kput_any v0 n W hv0 hn
      have hopz := fun (g cap : Nat) (W : World) (h1 : Reads W (some ⟨g, 0, none⟩) (u8s (Bm.bytesOf (v0 % 2 ^ n + 2 ^ n) (n / 8 + 1)))) (h2 : g < W.heap.size) => open_seal g cap (v0 % 2 ^ n) n W (by omega) hN0 h1 h2
      generalize Bm.bytesOf (v0 % 2 ^ n + 2 ^ n) (n / 8 + 1) = X at hop hlx hbx hxc hstr hkp hopz
      have hly := Bm.bytesOf_length (v1 % 2 ^ m + 2 ^ m) (m / 8 + 1)
      have hby := Bm.bytesOf_lt (v1 % 2 ^ m + 2 ^ m) (m / 8 + 1)
      generalize Bm.bytesOf (v1 % 2 ^ m + 2 ^ m) (m / 8 + 1) = Y at hly hby hoy hstr
      generalize sameB v0 v1 n m = same at hstr ⊢
      obtain ⟨n1, hn1⟩ : ∃ x, x = min n 32 := ⟨_, rfl⟩
      have hmin : min (n : Int) 32 = (n1 : Int) := by omega
      have hn1b : n1 ≤ 32 := by omega
      have hn1n : n1 ≤ n := by omega
      have Hop := Lib.hid hop
      have Hlx := Lib.hid hlx
      have Hbx2 := Lib.hid hbx
      have Hstr := Lib.hid hstr
      have Hkp := Lib.hid hkp
      have Hopz := Lib.hid hopz
      have Hly := Lib.hid hly
      have Hby := Lib.hid hby
      have Hoy := Lib.hid hoy
      have Hbc := Lib.hid hbc
      have Hmin := Lib.hid hmin
      have Hxc := Lib.hid hxc
      have Hxf := Lib.hid hxf
      clear hop hlx hbx hstr hkp hopz hly hby hoy hbc hmin hn1 hox hrdx hN0 hc0 hc1 Hc hxc hxf
      go_wp2_with fail
      refine Hop.out.mono ?_
      rintro e w8 ⟨b8, rfl, hts8, hb8⟩
      have hxc := (hb8.cell (p := ⟨gx, 0, none⟩) hgxl).trans Hxc.out
      have hxf := (hb8.frozen (p := ⟨gx, 0, none⟩) hgxl).trans Hxf.out
      have hb8b : wc.heap.size ≤ b8 := by
        obtain ⟨_, _, _, _, _, h, _⟩ := hts8
        exact h
      have hoy8 := ownK_below Hoy.out hb8
      have hs8 := hb8.size
      have hs1 := Hbc.out.size
      have Hb8 := Lib.hid (Hbc.out.trans (hb8.mono hs1))
      have Hts8 := Lib.hid hts8
      have Hoy8 := Lib.hid hoy8
      clear hts8 hoy8 hb8 Hop Hoy Hbc
      go_wp2_with fail
      rw [Hmin.out]
      refine (btk_ok wc.heap.size b8 n X n1 _ (by rw [Hlx.out]; omega) Hbx2.out hn1b hn1n (by rw [Hlx.out]; omega) (Hts8.out.keep (grown_set (b := gx) (grown_refl _ _) 0 _) (fun r e => by injection e with e; omega))).mono ?_
      rintro e w10 ⟨rfl, _, hg10⟩
      have hb10 : Below w1.heap.size w1 w10 := (Hb8.out.setCell (p := ⟨gx, 0, none⟩) hxg _).trans (below_grown hg10 (by omega) (by have := Hb8.out.size; simpa using this))
      have hoy10 := (Hoy8.out.kept (grown_set (b := gx) (grown_refl _ _) 0 _) (.inr (fun e => by simp [Value.ownBlock] at e; omega))).kept hg10 (.inr (fun e => by simp [Value.ownBlock] at e; omega))
      obtain ⟨hcb0, hcb1⟩ := Hcl.out _ hb10
      have Hb10 := Lib.hid hb10
      have Hoy10 := Lib.hid hoy10
      generalize hA : Bm.valB X / 2 ^ (n - n1) % 2 ^ n1 = A
      have HA := Lib.hid hA
      clear hb10 hoy10 hg10 hA Hb8 Hts8 Hoy8 hxc hxf
      go_wp2_with fail
      refine (Hkp.out w10).mono ?_
      rintro e w11 ⟨gz, cz, rfl, hoz, hb11⟩
      obtain ⟨hzg, hgzl, _, _, hrdz⟩ := own_place hoz
      have hoy11 := ownK_below Hoy10.out hb11
      have Hb11 := Lib.hid (Hb10.out.trans (hb11.mono Hb10.out.size))
      have Hoy11 := Lib.hid hoy11
      have Hopz2 := Lib.hid (Hopz.out gz cz w11 hrdz hgzl)
      clear hoy11 hb11 hoz hrdz Hoy10 Hb10 Hopz hcb0 hcb1
      go_wp2_with fail
      refine Hopz2.out.mono ?_
      rintro e w12 ⟨b12, rfl, hts12, hb12⟩
      have hb12b : w11.heap.size ≤ b12 := by
        obtain ⟨_, _, _, _, _, h, _⟩ := hts12
        exact h
      have Hoy12 := Lib.hid (ownK_below Hoy11.out hb12)
      have Hb12 := Lib.hid (Hb11.out.trans (hb12.mono Hb11.out.size))
      have Hts12 := Lib.hid hts12
      have hs12 := hb12.size
      have hs11 := Hb11.out.size
      have hgy11 := (own_place Hoy11.out).2.1
      clear hts12 hb12 Hoy11 Hb11 Hopz2
      go_wp2_with fail
      rw [Hmin.out]
      refine (btk_ok w11.heap.size b12 n X n1 w12 (by rw [Hlx.out]; omega) Hbx2.out hn1b hn1n (by rw [Hlx.out]; omega) Hts12.out).mono ?_
      rintro e w13 ⟨rfl, _, hg13⟩
      rw [HA.out]
      have hb13 : Below w1.heap.size w1 w13 := Hb12.out.trans (below_grown hg13 (by omega) Hb12.out.size)
      have hoy13 := Hoy12.out.kept hg13 (.inr (fun e => by simp [Value.ownBlock] at e; omega))
      have Hb13 := Lib.hid hb13
      have Hoy13 := Lib.hid hoy13
      clear hb13 hoy13 hg13 Hts12 Hoy12 Hb12 HA
      have hcell : ∀ W, Below w13.heap.size w13 W → W.cell? ⟨bx, 0, none⟩ = some (.int .u64 (v0 : Int)) := fun W hW => (Hcl.out W (Hb13.out.trans (hW.mono Hb13.out.size))).1
      have hcy : ∀ W, Below w13.heap.size w13 W → (convert 34 9 (.slice (some ⟨gy, 0, none⟩) (m / 8 + 1) cy)).run Try.prog W = .ok (.string (strOf Y)) W := fun W hW => by
        have h1 := (own_place (ownK_below Hoy13.out hW)).2.2.2.2
        have h2 := conv_bytes W (some ⟨gy, 0, none⟩) cy Y Hby.out h1
        rw [Hly.out] at h2
        exact h2
      have hcz : ∀ W g c base, W.ownsRow base 5 1 (.slice (some ⟨g, 0, none⟩) (n / 8 + 1) c) (n / 8 + 1) (u8s X) → (convert 34 9 (.slice (some ⟨g, 0, none⟩) (n / 8 + 1) c)).run Try.prog W = .ok (.string (strOf X)) W := fun W g c base h => by
        have h2 := conv_bytes W (some ⟨g, 0, none⟩) c X Hbx2.out (own_place h).2.2.2.2
        rw [Hlx.out] at h2
        exact h2
      have Hcz := Lib.hid hcz
      have hstr := Hstr.out
      generalize strOf X = sx at Hcz hstr
      generalize strOf Y = sy at hcy hstr
      have hsame : (sx.toList == sy.toList) = same := by
        rw [Bool.eq_iff_iff, beq_iff_eq, ByteArray.toList_eq, ByteArray.toList_eq, ← hstr]
        constructor
        · intro h
          exact ByteArray.ext (Array.toList_inj.1 h)
        · intro h
          rw [h]
      have Hb14 := Lib.hid (Hb1.out.trans (Hb13.out.mono Hb1.out.size))
      clear hcz hstr Hstr Hoy13 Hb13 Hcl Hby Hly Hbx2 Hlx Hxc Hxf Hmin
      go_upto_region 13 with fail
      refine wp_region_held_drew (S := (fun W => Below w13.heap.size w13 W)) (by kernel_rfl) (by exact (Below.refl w13.heap.size w13).drew) (fun hHeld => ?_)
      refine wpAnyH_take (i := 0) (oi := { dst := some 93, op := Go.Op.move (Go.Operand.tmp 7), type := 51, pos := "law.go:104", after := #[], guard := none }) (v := ?_) rfl (by kernel_rfl) (by kernel_rfl) (by kernel_rfl) (fun _ _ _ h => h) (Or.inl ⟨by rfl, ?_⟩) (by assumption) ?_
      rotate_left
      · (intro w hSw; (try dsimp only at hSw); go_simp; (try with_reducible rfl))
      try simp only [Act.put, List.setIfInBounds_toArray, List.set_cons_zero, List.set_cons_succ]
      refine wpAnyH_take (i := 1) (oi := { dst := some 94, op := Go.Op.indexAddr 49 (Go.Operand.tmp 3) (Go.Operand.const (Go.Value.int Go.IntKind.i64 0)), type := 0, pos := "law.go:104", after := #[], guard := none }) (v := ?_) rfl (by kernel_rfl) (by kernel_rfl) (by kernel_rfl) (fun _ _ _ h => h) (Or.inl ⟨by rfl, ?_⟩) (by assumption) ?_
      rotate_left
      · (intro w hSw; (try dsimp only at hSw); go_simp; (try with_reducible rfl))
      try simp only [Act.put, List.setIfInBounds_toArray, List.set_cons_zero, List.set_cons_succ]
      refine wpAnyH_take (i := 2) (oi := { dst := some 95, op := Go.Op.load 25 (Go.Operand.tmp 94), type := 25, pos := "law.go:104", after := #[{ on := 1, ground := Go.Ground.data }], guard := none }) (v := ?_) rfl (by kernel_rfl) (by kernel_rfl) (by kernel_rfl) (fun _ _ _ h => h) (Or.inl ⟨by rfl, ?_⟩) (by assumption) ?_
      rotate_left
      · (intro w hSw; (try dsimp only at hSw); go_simp; (try with_reducible rfl))
      try simp only [Act.put, List.setIfInBounds_toArray, List.set_cons_zero, List.set_cons_succ]
      refine wpAnyH_take (i := 3) (oi := { dst := some 96, op := Go.Op.move (Go.Operand.tmp 1), type := 3, pos := "law.go:104", after := #[], guard := none }) (v := ?_) rfl (by kernel_rfl) (by kernel_rfl) (by kernel_rfl) (fun _ _ _ h => h) (Or.inl ⟨by rfl, ?_⟩) (by assumption) ?_
      rotate_left
      · (intro w hSw; (try dsimp only at hSw); go_simp; (try with_reducible rfl))
      try simp only [Act.put, List.setIfInBounds_toArray, List.set_cons_zero, List.set_cons_succ]
      refine wpAnyH_take (i := 6) (oi := { dst := some 99, op := Go.Op.move (Go.Operand.tmp 9), type := 34, pos := "law.go:104", after := #[], guard := none }) (v := ?_) rfl (by kernel_rfl) (by kernel_rfl) (by kernel_rfl) (fun _ _ _ h => h) (Or.inl ⟨by rfl, ?_⟩) (by assumption) ?_
      rotate_left
      · (intro w hSw; (try dsimp only at hSw); go_simp; (try with_reducible rfl))
      try simp only [Act.put, List.setIfInBounds_toArray, List.set_cons_zero, List.set_cons_succ]
      refine wpAnyH_take (i := 7) (oi := { dst := some 100, op := Go.Op.convert 34 9 (Go.Operand.tmp 99), type := 9, pos := "law.go:104", after := #[{ on := 6, ground := Go.Ground.data }], guard := none }) (v := ?_) rfl (by kernel_rfl) (by kernel_rfl) (by kernel_rfl) (fun _ _ _ h => h) (Or.inl ⟨by rfl, ?_⟩) (by assumption) ?_
      rotate_left
      · (intro w hSw; (try dsimp only at hSw); go_simp; (try with_reducible rfl))
      try simp only [Act.put, List.setIfInBounds_toArray, List.set_cons_zero, List.set_cons_succ]
      refine wpAnyH_take (i := 9) (oi := { dst := some 102, op := Go.Op.move (Go.Operand.tmp 10), type := 4, pos := "law.go:104", after := #[], guard := none }) (v := ?_) rfl (by kernel_rfl) (by kernel_rfl) (by kernel_rfl) (fun _ _ _ h => h) (Or.inl ⟨by rfl, ?_⟩) (by assumption) ?_
      rotate_left
      · (intro w hSw; (try dsimp only at hSw); go_simp; (try with_reducible rfl))
      try simp only [Act.put, List.setIfInBounds_toArray, List.set_cons_zero, List.set_cons_succ]
      refine wpAnyH_ready (rs := [4]) (by kernel_rfl) (by simp) ?_
      refine AllReadyH.cons (o := { dst := some 97, op := Go.Op.call { callee := Go.Callee.value (Go.Operand.tmp 93), args := #[Go.Operand.tmp 95, Go.Operand.tmp 96], argTypes := #[25, 3] }, type := 34, pos := "law.go:104", after := #[{ on := 0, ground := Go.Ground.data }, { on := 2, ground := Go.Ground.data }, { on := 3, ground := Go.Ground.data }], guard := none }) rfl (fun K hK => ?_) AllReadyH.nil
      go_simp
      (go_at_call 17; refine (Hkp.out _).mono ?_; rintro e wZ ⟨gZ, cZ, rfl, hoZ, hbZ⟩; have hcZ := Hcz.out _ _ _ _ hoZ; have HZ := Lib.hid ((Below.refl w13.heap.size w13).drew.trans hbZ); clear hoZ hbZ)
      go_simp
      refine hK.out _ _ (by exact HZ.out) (fun hHeld => ?_)
      clear hK K
      try simp only [Act.put, List.setIfInBounds_toArray, List.set_cons_zero, List.set_cons_succ]
      refine wpAnyH_ready (rs := [5]) (by kernel_rfl) (by simp) ?_
      refine AllReadyH.cons (o := { dst := some 98, op := Go.Op.convert 34 9 (Go.Operand.tmp 97), type := 9, pos := "law.go:104", after := #[{ on := 4, ground := Go.Ground.data }], guard := none }) rfl (fun K hK => ?_) AllReadyH.nil
      go_simp
      refine hK.out _ _ (by exact HZ.out) (fun hHeld => ?_)
      clear hK K
      try simp only [Act.put, List.setIfInBounds_toArray, List.set_cons_zero, List.set_cons_succ]
      refine wpAnyH_take (i := 8) (oi := { dst := some 101, op := Go.Op.binOp Go.BinOp.eql 9 (Go.Operand.tmp 98) (Go.Operand.tmp 100) 9, type := 4, pos := "law.go:104", after := #[{ on := 5, ground := Go.Ground.data }, { on := 7, ground := Go.Ground.data }], guard := none }) (v := ?_) rfl (by kernel_rfl) (by kernel_rfl) (by kernel_rfl) (fun _ _ _ h => h) (Or.inl ⟨by rfl, ?_⟩) (by assumption) ?_
      rotate_left
      · (intro w hSw; (try dsimp only at hSw); go_simp; (try with_reducible rfl))
      try simp only [Act.put, List.setIfInBounds_toArray, List.set_cons_zero, List.set_cons_succ]
      refine wpAnyH_take (i := 10) (oi := { dst := some 103, op := Go.Op.binOp Go.BinOp.eql 4 (Go.Operand.tmp 101) (Go.Operand.tmp 102) 4, type := 4, pos := "law.go:104", after := #[{ on := 8, ground := Go.Ground.data }, { on := 9, ground := Go.Ground.data }], guard := none }) (v := ?_) rfl (by kernel_rfl) (by kernel_rfl) (by kernel_rfl) (fun _ _ _ h => h) (Or.inl ⟨by rfl, ?_⟩) (by assumption) ?_
      rotate_left
      · (intro w hSw; (try dsimp only at hSw); go_simp; (try with_reducible rfl))
      try simp only [Act.put, List.setIfInBounds_toArray, List.set_cons_zero, List.set_cons_succ]
      refine wpAnyH_take (i := 11) (oi := { dst := some 104, op := Go.Op.move (Go.Operand.tmp 103), type := 4, pos := "law.go:104", after := #[{ on := 10, ground := Go.Ground.data }, { on := 4, ground := Go.Ground.chain }], guard := none }) (v := ?_) rfl (by kernel_rfl) (by kernel_rfl) (by kernel_rfl) (fun _ _ _ h => h) (Or.inl ⟨by rfl, ?_⟩) (by assumption) ?_
      rotate_left
      · (intro w hSw; (try dsimp only at hSw); go_simp; (try with_reducible rfl))
      try simp only [Act.put, List.setIfInBounds_toArray, List.set_cons_zero, List.set_cons_succ]
      refine wpAnyH_take (i := 12) (oi := { dst := some 105, op := Go.Op.move (Go.Operand.tmp 12), type := 4, pos := "law.go:104", after := #[{ on := 11, ground := Go.Ground.guard }], guard := some (11, true) }) (v := ?_) rfl (by kernel_rfl) (by kernel_rfl) (by kernel_rfl) (fun _ _ _ h => h) (Or.inl ⟨by rfl, ?_⟩) (by assumption) ?_
      rotate_left
      · (intro w hSw; (try dsimp only at hSw); go_simp; (try with_reducible rfl))
      try simp only [Act.put, List.setIfInBounds_toArray, List.set_cons_zero, List.set_cons_succ]
      refine wpAnyH_take (i := 13) (oi := { dst := some 106, op := Go.Op.pick (Go.Operand.tmp 104) (Go.Operand.tmp 105) (Go.Operand.const (Go.Value.bool false)), type := 4, pos := "law.go:104", after := #[{ on := 11, ground := Go.Ground.data }, { on := 12, ground := Go.Ground.data }], guard := none }) (v := ?_) rfl (by kernel_rfl) (by kernel_rfl) (by kernel_rfl) (fun _ _ _ h => h) (Or.inl ⟨by rfl, ?_⟩) (by assumption) ?_
      rotate_left
      · (intro w hSw; (try dsimp only at hSw); go_simp; (try with_reducible rfl))
      try simp only [Act.put, List.setIfInBounds_toArray, List.set_cons_zero, List.set_cons_succ]
      refine wpAnyH_take (i := 14) (oi := { dst := some 107, op := Go.Op.move (Go.Operand.tmp 106), type := 4, pos := "law.go:104", after := #[{ on := 13, ground := Go.Ground.data }, { on := 11, ground := Go.Ground.chain }], guard := none }) (v := ?_) rfl (by kernel_rfl) (by kernel_rfl) (by kernel_rfl) (fun _ _ _ h => h) (Or.inl ⟨by rfl, ?_⟩) (by assumption) ?_
      rotate_left
      · (intro w hSw; (try dsimp only at hSw); go_simp; (try with_reducible rfl))
      try simp only [Act.put, List.setIfInBounds_toArray, List.set_cons_zero, List.set_cons_succ]
      refine wpAnyH_take (i := 15) (oi := { dst := some 108, op := Go.Op.move (Go.Operand.tmp 14), type := 4, pos := "law.go:104", after := #[{ on := 14, ground := Go.Ground.guard }], guard := some (14, true) }) (v := ?_) rfl (by kernel_rfl) (by kernel_rfl) (by kernel_rfl) (fun _ _ _ h => h) (Or.inl ⟨by rfl, ?_⟩) (by assumption) ?_
      rotate_left
      · (intro w hSw; (try dsimp only at hSw); go_simp; (try with_reducible rfl))
      try simp only [Act.put, List.setIfInBounds_toArray, List.set_cons_zero, List.set_cons_succ]
      refine wpAnyH_take (i := 16) (oi := { dst := some 109, op := Go.Op.pick (Go.Operand.tmp 107) (Go.Operand.tmp 108) (Go.Operand.const (Go.Value.bool false)), type := 4, pos := "law.go:104", after := #[{ on := 14, ground := Go.Ground.data }, { on := 15, ground := Go.Ground.data }], guard := none }) (v := ?_) rfl (by kernel_rfl) (by kernel_rfl) (by kernel_rfl) (fun _ _ _ h => h) (Or.inl ⟨by rfl, ?_⟩) (by assumption) ?_
      rotate_left
      · (intro w hSw; (try dsimp only at hSw); go_simp; (try with_reducible rfl))
      try simp only [Act.put, List.setIfInBounds_toArray, List.set_cons_zero, List.set_cons_succ]
      refine wpAnyH_take (i := 17) (oi := { dst := some 110, op := Go.Op.move (Go.Operand.tmp 109), type := 4, pos := "law.go:104", after := #[{ on := 16, ground := Go.Ground.data }, { on := 14, ground := Go.Ground.chain }], guard := none }) (v := ?_) rfl (by kernel_rfl) (by kernel_rfl) (by kernel_rfl) (fun _ _ _ h => h) (Or.inl ⟨by rfl, ?_⟩) (by assumption) ?_
      rotate_left
      · (intro w hSw; (try dsimp only at hSw); go_simp; (try with_reducible rfl))
      try simp only [Act.put, List.setIfInBounds_toArray, List.set_cons_zero, List.set_cons_succ]
      refine wpAnyH_take (i := 18) (oi := { dst := some 111, op := Go.Op.move (Go.Operand.tmp 13), type := 29, pos := "law.go:104", after := #[{ on := 17, ground := Go.Ground.guard }], guard := some (17, true) }) (v := ?_) rfl (by kernel_rfl) (by kernel_rfl) (by kernel_rfl) (fun _ _ _ h => h) (Or.inl ⟨by rfl, ?_⟩) (by assumption) ?_
      rotate_left
      · (intro w hSw; (try dsimp only at hSw); go_simp; (try with_reducible rfl))
      try simp only [Act.put, List.setIfInBounds_toArray, List.set_cons_zero, List.set_cons_succ]
      refine wpAnyH_take (i := 19) (oi := { dst := some 112, op := Go.Op.move (Go.Operand.tmp 17), type := 29, pos := "law.go:104", after := #[{ on := 17, ground := Go.Ground.guard }], guard := some (17, true) }) (v := ?_) rfl (by kernel_rfl) (by kernel_rfl) (by kernel_rfl) (fun _ _ _ h => h) (Or.inl ⟨by rfl, ?_⟩) (by assumption) ?_
      rotate_left
      · (intro w hSw; (try dsimp only at hSw); go_simp; (try with_reducible rfl))
      try simp only [Act.put, List.setIfInBounds_toArray, List.set_cons_zero, List.set_cons_succ]
      refine wpAnyH_take (i := 20) (oi := { dst := some 113, op := Go.Op.binOp Go.BinOp.eql 29 (Go.Operand.tmp 111) (Go.Operand.tmp 112) 29, type := 4, pos := "law.go:104", after := #[{ on := 18, ground := Go.Ground.data }, { on := 19, ground := Go.Ground.data }, { on := 17, ground := Go.Ground.guard }], guard := some (17, true) }) (v := ?_) rfl (by kernel_rfl) (by kernel_rfl) (by kernel_rfl) (fun _ _ _ h => h) (Or.inl ⟨by rfl, ?_⟩) (by assumption) ?_
      rotate_left
      · (intro w hSw; (try dsimp only at hSw); go_simp; (try with_reducible rfl))
      try simp only [Act.put, List.setIfInBounds_toArray, List.set_cons_zero, List.set_cons_succ]
      refine wpAnyH_take (i := 21) (oi := { dst := some 114, op := Go.Op.pick (Go.Operand.tmp 110) (Go.Operand.tmp 113) (Go.Operand.const (Go.Value.bool false)), type := 4, pos := "law.go:104", after := #[{ on := 17, ground := Go.Ground.data }, { on := 20, ground := Go.Ground.data }], guard := none }) (v := ?_) rfl (by kernel_rfl) (by kernel_rfl) (by kernel_rfl) (fun _ _ _ h => h) (Or.inl ⟨by rfl, ?_⟩) (by assumption) ?_
      rotate_left
      · (intro w hSw; (try dsimp only at hSw); go_simp; (try with_reducible rfl))
      try simp only [Act.put, List.setIfInBounds_toArray, List.set_cons_zero, List.set_cons_succ]
      refine wpAnyH_take (i := 22) (oi := { dst := some 6, op := Go.Op.assign (Go.Operand.tmp 114), type := 4, pos := "law.go:104", after := #[{ on := 21, ground := Go.Ground.data }, { on := 17, ground := Go.Ground.chain }, { on := 0, ground := Go.Ground.phase }, { on := 1, ground := Go.Ground.phase }, { on := 2, ground := Go.Ground.phase }, { on := 3, ground := Go.Ground.phase }, { on := 4, ground := Go.Ground.phase }, { on := 5, ground := Go.Ground.phase }, { on := 6, ground := Go.Ground.phase }, { on := 7, ground := Go.Ground.phase }, { on := 8, ground := Go.Ground.phase }, { on := 9, ground := Go.Ground.phase }, { on := 10, ground := Go.Ground.phase }, { on := 11, ground := Go.Ground.phase }, { on := 12, ground := Go.Ground.phase }, { on := 13, ground := Go.Ground.phase }, { on := 14, ground := Go.Ground.phase }, { on := 15, ground := Go.Ground.phase }, { on := 16, ground := Go.Ground.phase }, { on := 17, ground := Go.Ground.phase }, { on := 18, ground := Go.Ground.phase }, { on := 19, ground := Go.Ground.phase }, { on := 20, ground := Go.Ground.phase }, { on := 21, ground := Go.Ground.phase }], guard := none }) (v := ?_) rfl (by kernel_rfl) (by kernel_rfl) (by kernel_rfl) (fun _ _ _ h => h) (Or.inl ⟨by rfl, ?_⟩) (by assumption) ?_
      rotate_left
      · (intro w hSw; (try dsimp only at hSw); go_simp; (try with_reducible rfl))
      try simp only [Act.put, List.setIfInBounds_toArray, List.set_cons_zero, List.set_cons_succ]
      refine wpAnyH_done (by kernel_rfl) ?_ _
      go_wp2
      go_ret
      exact ⟨rfl, Hb14.out.trans (HZ.out.mono Hb14.out.size)⟩
end Go.Proofs.Ytllgbnolngenhaa
