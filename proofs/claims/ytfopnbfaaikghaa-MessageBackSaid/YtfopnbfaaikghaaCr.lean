/-
  The reference of layer 3 (cursor), each by its walk: Fixed, Group, Text, Value. Conditions: as each theorem's premises say.
-/
import Derived.Test.YtfopnbfaaikghaaMc
namespace Go.Proofs.Ytfopnbfaaikghaa
open Go.RowKit

theorem fx_lt {n : Int} {k : Nat} (h : k < fx n) : (k : Int) < n ∧ k < 8 := by unfold fx at h; omega
theorem fx_end {n : Int} {k : Nat} (h : k = fx n) : n ≤ (k : Int) ∨ k = 8 := by unfold fx at h; omega
/-- A new slice of one byte, as a string, in the world where it is new. -/
theorem conv_new (w : World) (x : Nat) (h : x < 256) : (convert 64 9 (.slice (some ⟨w.heap.size, 0, none⟩) 1 1)).run Try.prog (w.alloc (.cells #[.int .u8 (x : Int)] 5)) = .ok (.string (strOf [x])) (w.alloc (.cells #[.int .u8 (x : Int)] 5)) :=
  conv_one _ _ _ h ((Row.new w 5 [.int .u8 (x : Int)]).cell 0) 1
theorem quo_wrap (X d : Nat) (h : X < 2 ^ 64) : IntKind.u64.wrap ((X : Int) / (d : Int)) = ((X / d : Nat) : Int) := by
  have := Nat.div_le_self X d
  rw [show (X : Int) / (d : Int) = ((X / d : Nat) : Int) by simp, u64_wrap _ (by omega)]
set_option maxHeartbeats 1000000 in
set_option maxRecDepth 100000 in
theorem ffixed_any (v : Nat) (n : Int) (w : World) (hv : v < 2 ^ 64) :
    Calls Try.prog 25 #[.int .u64 (v : Int), .int .i64 n] w fun e w' => e = .returned (.string (strOf (Bm.bytesOf v (fx n)))) ∧ Below w.heap.size w w' := by
  obtain ⟨m, hm⟩ : ∃ m, m = fx n := ⟨_, rfl⟩
  have hm8 := fx_le n
  rw [← hm] at hm8 ⊢
  have Hm := Lib.hid hm
  have Hv := Lib.hid hv
  obtain ⟨all, hall⟩ : ∃ s, s = strOf (Bm.bytesOf v m) := ⟨_, rfl⟩
  rw [← hall]
  have Hall := Lib.hid hall
  clear hm hv hall
  go_enter Try.func25, Try.ntmps25
  go_wp2
  go_loopw [0, 5, 6] (fun x s i wr => ∃ k : Nat, k ≤ m ∧ x = .int .u64 ((v / 256 ^ k : Nat) : Int) ∧ s = .string (strOf (Bm.bytesOf v k)) ∧ i = .int .i64 (k : Int) ∧ Hid (Below w.heap.size w wr)) (fun _ _ i _ => m - (intOf i).toNat)
  case atStart => exact ⟨0, by omega, by simp, rfl, rfl, Below.refl _ _⟩
  case round =>
    obtain ⟨k, hk, rfl, rfl, rfl, hbel⟩ := hrel
    have hadd := fun b W => str_add (Bm.bytesOf v k) [b] (by rw [Bm.bytesOf_length]; simp; omega) W
    have hstep := Bm.bytesOf_succ v k
    have hX : v / 256 ^ k / 256 = v / 256 ^ (k + 1) := by rw [Nat.div_div_eq_div_mul, Nat.pow_succ]
    have HX := Lib.hid hX
    have Hstep := Lib.hid hstep
    clear hX hstep
    by_cases hlt : k < m
    · have h2 := fx_lt (n := n) (k := k) (by rw [← Hm.out]; exact hlt)
      obtain ⟨hkn, hk8⟩ := h2
      have hconv := conv_new wr (v / 256 ^ k % 256) (by omega)
      have hadd1 := hadd (v / 256 ^ k % 256)
      rw [← Hstep.out] at hadd1
      clear hadd Hstep
      have hXv : v / 256 ^ k < 2 ^ 64 := Nat.lt_of_le_of_lt (Nat.div_le_self _ _) Hv.out
      have Hw := Lib.hid (quo_wrap (v / 256 ^ k) 256 hXv)
      clear hXv
      generalize v / 256 ^ k = X at hconv hadd1 HX Hw ⊢
      rw [show ((X % 256 : Nat) : Int) = (X : Int) % 256 by simp] at hconv
      generalize strOf (Bm.bytesOf v k) = s0 at hadd1 ⊢
      generalize hs1 : strOf (Bm.bytesOf v (k + 1)) = s1 at hadd1
      generalize strOf [X % 256] = s2 at hconv hadd1
      have Hs1 := Lib.hid hs1
      clear hs1
      go_wp2
      have hw := Hw.out
      simp only [Int.cast_ofNat_Int] at hw
      rw [hw]
      go_roundw
      case rel => exact ⟨k + 1, by omega, by rw [← HX.out], by rw [Hs1.out], by go_num, hbel.out.alloc hbel.out.size _⟩
      case measure => simp [intOf]; omega
    · obtain rfl : k = m := by omega
      clear hadd Hstep HX
      generalize v / 256 ^ k = X
      rw [← Hall.out]
      rcases fx_end Hm.out with h | rfl
      · go_wp2
        go_ret
        exact ⟨rfl, hbel.out⟩
      · by_cases hn8 : (8 : Int) < n
        · go_wp2
          go_ret
          exact ⟨rfl, hbel.out⟩
        · go_wp2
          go_ret
          exact ⟨rfl, hbel.out⟩

theorem or_grp (x : Nat) : ((x : Int) % 128 + 128) = ((x % 128 + 128 : Nat) : Int) := by simp
set_option maxHeartbeats 1000000 in
set_option maxRecDepth 100000 in
theorem fgroup_any (v : Nat) (w : World) (hv : v < 2 ^ 64) :
    Calls Try.prog 40 #[.int .u64 (v : Int)] w fun e w' => e = .returned (.string (strOf (Bm.grp v))) ∧ Below w.heap.size w w' := by
  have Hv := Lib.hid hv
  obtain ⟨all, hall⟩ : ∃ s, s = strOf (Bm.grp v) := ⟨_, rfl⟩
  rw [← hall]
  have Hall := Lib.hid hall
  clear hv hall
  go_enter Try.func40, Try.ntmps40
  go_wp2
  go_loopw [0, 3] (fun x s wr => ∃ (y : Nat) (acc : List Nat), x = .int .u64 (y : Int) ∧ s = .string (strOf acc) ∧ Hid (y < 2 ^ 64) ∧ Hid (acc ++ Bm.grp y = Bm.grp v) ∧ Hid (Below w.heap.size w wr)) (fun x _ _ => (intOf x).toNat)
  case atStart => exact ⟨v, [], rfl, rfl, Hv, by simp [Hid], Below.refl _ _⟩
  case round =>
    obtain ⟨y, acc, rfl, rfl, hy, hacc, hbel⟩ := hrel
    have hacc10 : acc.length ≤ 10 := by
      have h1 := congrArg List.length hacc.out
      rw [List.length_append] at h1
      have h2 := Bm.grp_ten v Hv.out
      omega
    by_cases hlt : 128 ≤ y
    · have hconv := conv_new wr (y % 128 + 128) (by omega)
      have hadd := fun W => str_add acc [y % 128 + 128] (by simp; omega) W
      rw [show ((y % 128 + 128 : Nat) : Int) = (y : Int) % 128 + 128 by simp] at hconv
      have hnext : acc ++ [y % 128 + 128] ++ Bm.grp (y / 128) = Bm.grp v := by
        rw [← hacc.out, Bm.grp_big y hlt hy.out, List.append_assoc]; rfl
      have Hnext := Lib.hid hnext
      clear hnext hacc hacc10
      generalize strOf [y % 128 + 128] = s2 at hconv hadd
      generalize hs1 : strOf (acc ++ [y % 128 + 128]) = s1 at hadd
      generalize strOf acc = s0 at hadd ⊢
      have Hs1 := Lib.hid hs1
      clear hs1
      go_wp2
      have hw := quo_wrap y 128 hy.out
      simp only [Int.cast_ofNat_Int] at hw
      rw [hw]
      go_roundw
      case rel => exact ⟨y / 128, acc ++ [y % 128 + 128], rfl, by rw [Hs1.out], by have := hy.out; unfold Hid; omega, Hnext, hbel.out.alloc hbel.out.size _⟩
      case measure => simp [intOf]; omega
    · have hyB : y ≤ 127 := by omega
      have hfin : acc ++ [y] = Bm.grp v := by rw [← hacc.out, Bm.grp_small y (by omega)]
      have hconv := conv_new wr y (by omega)
      have hadd := fun W => str_add acc [y] (by simp; omega) W
      rw [hfin, ← Hall.out] at hadd
      clear hfin hacc hlt hacc10
      generalize strOf [y] = s2 at hconv hadd
      generalize strOf acc = s0 at hadd ⊢
      go_wp2
      go_ret
      exact ⟨rfl, hbel.out.alloc hbel.out.size _⟩

set_option maxHeartbeats 400000 in
set_option maxRecDepth 100000 in
theorem ftext_any (s : List Nat) (w : World) (hs : s.length ≤ 10000000) :
    Calls Try.prog 24 #[.string (strOf s)] w fun e w' => e = .returned (.string (strOf (Bm.grp s.length ++ s))) ∧ Below w.heap.size w w' := by
  have h10 := Bm.grp_ten s.length (by omega)
  have Hg := Lib.hid (fgroup_any s.length w (by omega))
  have hadd := fun W => str_add (Bm.grp s.length) s (by omega) W
  have hsz := strOf_size s
  generalize strOf (Bm.grp s.length ++ s) = s1 at hadd ⊢
  generalize strOf s = str at hsz hadd ⊢
  generalize strOf (Bm.grp s.length) = s2 at hadd Hg
  go_enter Try.func24, Try.ntmps24
  go_wp2_with fail
  refine Hg.out.mono ?_
  rintro e w1 ⟨rfl, hb⟩
  go_wp2
  go_ret
  exact ⟨rfl, hb⟩

theorem valB_at (l : List Nat) (k : Nat) (h : k < l.length) : Bm.valB (l.drop k) = Bm.valB (l.drop (k + 1)) * 256 + l[k] := by
  rw [List.drop_eq_getElem_cons h]
  simp only [Bm.valB]
  omega
set_option maxHeartbeats 1000000 in
set_option maxRecDepth 100000 in
theorem fvalue_any (l : List Nat) (w : World) (hl : l.length ≤ 8) (hlt : ∀ x ∈ l, x < 256) :
    Calls Try.prog 34 #[.string (strOf l)] w fun e w' => e = .returned (.int .u64 (Bm.valB l : Int)) ∧ w = w' := by
  have hsz := strOf_size l
  have hidx : ∀ (i : Nat) (W : World) (hi : i < l.length), (Instr.index 9 (.string (strOf l)) (.int .i64 (i : Int))).run Try.prog W = .ok (.int .u8 ((l[i] : Nat) : Int)) W := fun i W hi => index_at l i W hi (hlt _ (List.getElem_mem hi))
  have hb : ∀ k, Bm.valB (l.drop k) < 2 ^ 64 := fun k => by
    have h1 := Bm.valB_lt (l.drop k) (drop_lt hlt k)
    have h2 : 256 ^ (l.drop k).length ≤ 256 ^ 8 := Nat.pow_le_pow_right (by omega) (by rw [List.length_drop]; omega)
    have h3 : (256 : Nat) ^ 8 = 2 ^ 64 := by decide
    omega
  have Hidx := Lib.hid hidx
  have Hb := Lib.hid hb
  have Hlt := Lib.hid hlt
  obtain ⟨res, hres⟩ : ∃ r, r = Bm.valB l := ⟨_, rfl⟩
  rw [← hres]
  have Hres := Lib.hid hres
  clear hidx hb hlt hres
  generalize strOf l = s at hsz Hidx ⊢
  go_enter Try.func34, Try.ntmps34
  go_wp2
  go_loop [3, 4] (fun v i => ∃ k : Nat, k ≤ l.length ∧ i = .int .i64 ((k : Int) - 1) ∧ v = .int .u64 (Bm.valB (l.drop k) : Int)) (fun _ i => (intOf i + 1).toNat)
  case atStart => exact ⟨l.length, Nat.le_refl _, rfl, by simp [Bm.valB]⟩
  case round =>
    obtain ⟨k, hk, rfl, rfl⟩ := hrel
    rcases k with _ | k
    · rw [List.drop_zero, ← Hres.out]
      go_wp2
      go_ret
      exact ⟨rfl, rfl⟩
    · have hx := fun W => Hidx.out k W (by omega)
      have hv := valB_at l k (by omega)
      have hb1 := Hb.out k
      have hl8 := Hlt.out l[k] (List.getElem_mem (by omega))
      rw [hv] at hb1
      have Hv := Lib.hid hv
      clear hv
      rw [show ((k + 1 : Nat) : Int) - 1 = (k : Int) by omega]
      generalize l[k] = x at hx hb1 hl8 Hv
      generalize Bm.valB (l.drop (k + 1)) = V at hb1 Hv ⊢
      have hV : V ≤ 72057594037927935 := by omega
      go_wp2
      go_round
      case rel => exact ⟨k, by omega, by go_num, by rw [Hv.out]; go_num⟩
      case measure => simp [intOf]
end Go.Proofs.Ytfopnbfaaikghaa
