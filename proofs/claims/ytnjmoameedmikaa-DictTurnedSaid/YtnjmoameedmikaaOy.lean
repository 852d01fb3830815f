/-
  DictTurned (layer 20): the law's function by its walk: true for any string, any uint16, any uint8. No condition.
-/
import Derived.Test.YtnjmoameedmikaaOk
import Derived.Test.YtnjmoameedmikaaOd
import Derived.Test.YtnjmoameedmikaaOr
namespace Go.Proofs.Ytnjmoameedmikaa
open Go.RowKit

set_option maxHeartbeats 1000000 in
set_option maxRecDepth 100000 in
theorem dtturned_out (X : List Nat) (at_ by_ : Nat) (w : World) (hX : X.length ≤ 9223372036854775807) (h : 200 < X.length ∨ by_ = 0) :
    Calls Try.prog 5 #[.string (strOf X), .int .u16 (at_ : Int), .int .u8 (by_ : Int)] w fun e w' => e = .returned (.bool true) ∧ Below w.heap.size w w' := by
  have Haw := Lib.hid (dtawake_any w)
  have hs1 := strOf_size X
  generalize strOf X = sX at *
  generalize X.length = m at *
  go_enter Try.func5, Try.ntmps5
  go_wp2_with fail
  refine Haw.out.mono ?_
  rintro e w1 ⟨rfl, hb1⟩
  by_cases h1 : 200 < m
  · have d1 : decide ((200 : Int) < (m : Int)) = true := decide_eq_true (by omega)
    clear h
    go_wp2
    go_ret
    exact ⟨rfl, hb1⟩
  · have d1 : decide ((200 : Int) < (m : Int)) = false := decide_eq_false (by omega)
    have d2 : ((by_ : Int) == 0) = true := by rw [beq_iff_eq]; omega
    clear h
    go_wp2
    go_ret
    exact ⟨rfl, hb1⟩
/-- Where the byte stands that is another one. -/
def turnK (at_ L m : Nat) : Nat := if 2 + at_ % (8 + m) < 10 then 2 + at_ % (8 + m) else L - m + (2 + at_ % (8 + m)) - 10
/-- What becomes of it: another name, or another text. -/
theorem turn_ans (X : List Nat) (at_ by_ : Nat) (hX : X.length ≤ 200) (hlt : ∀ x ∈ X, x < 256) (hb : by_ < 256) (h0 : by_ ≠ 0) :
    turnK at_ (Bm.dictB X).length X.length < (Bm.dictB X).length ∧ ∀ b, (Bm.dictB X)[turnK at_ (Bm.dictB X).length X.length]? = some b → b < 256 ∧
      (Bm.dictD ((Bm.dictB X).set (turnK at_ (Bm.dictB X).length X.length) (b ^^^ by_)) = ([], 4) ∨
       ∃ T, Bm.dictD ((Bm.dictB X).set (turnK at_ (Bm.dictB X).length X.length) (b ^^^ by_)) = (T, 0) ∧ T ≠ X ∧ Bm.sumOf T = Bm.sumOf X ∧ (∀ x ∈ T, x < 256) ∧ T.length ≤ 256) := by
  have hl := Bm.dictN_len (Bm.sumOf X) X
  have hp := Bm.grp_pos X.length (by omega)
  have hk : at_ % (8 + X.length) < 8 + X.length := Nat.mod_lt _ (by omega)
  have hB := Bm.dictB_lt X hlt (by omega)
  have h64 := Bm.sumOf_lt X
  unfold turnK
  unfold Bm.dictB at hB ⊢
  generalize at_ % (8 + X.length) = k at *
  split
  · rename_i h
    refine ⟨by omega, fun b hget => ?_⟩
    have hb256 : b < 256 := hB b (List.mem_of_getElem? hget)
    refine ⟨hb256, .inl ?_⟩
    have hx := Bm.xor_ne b by_ hb256 hb h0
    have hget2 : (Bm.dictN (Bm.sumOf X) X)[2 + k]? = some (Bm.sumOf X / 256 ^ k % 256) := by
      unfold Bm.dictN
      rw [List.getElem?_append_left (by rw [List.length_append, Bm.bytesOf_length]; simp; omega), List.getElem?_append_right (by simp), show 2 + k - [80, 68].length = k by simp, Bm.bytesOf_get? _ _ _ (by omega)]
    rw [hget] at hget2
    injection hget2 with hget2
    obtain ⟨u, e1, e2, e3⟩ := Bm.dict_set_name (Bm.sumOf X) k (b ^^^ by_) X (by omega) hx.2 (by rw [← hget2]; exact fun e => hx.1 e.symm)
    rw [e1]
    exact Bm.dict_other u X e2 (by omega) e3
  · rename_i h
    have e : (Bm.dictN (Bm.sumOf X) X).length - X.length + (2 + k) - 10 = (Bm.dictN (Bm.sumOf X) X).length - X.length + (k - 8) := by omega
    rw [e]
    refine ⟨by omega, fun b hget => ?_⟩
    have hb256 : b < 256 := hB b (List.mem_of_getElem? hget)
    refine ⟨hb256, ?_⟩
    have hx := Bm.xor_ne b by_ hb256 hb h0
    have hget2 : (Bm.dictN (Bm.sumOf X) X)[(Bm.dictN (Bm.sumOf X) X).length - X.length + (k - 8)]? = X[k - 8]? := by
      rw [hl]
      unfold Bm.dictN
      rw [List.getElem?_append_right (by rw [List.length_append, Bm.bytesOf_length]; simp; omega), List.getElem?_append_right (by rw [List.length_append, Bm.bytesOf_length]; simp; omega)]
      congr 1
      rw [List.length_append, Bm.bytesOf_length]
      simp
      omega
    rw [hget] at hget2
    rw [Bm.dict_set_ans _ _ _ _ (by omega) h64]
    by_cases hs : Bm.sumOf X = Bm.sumOf (X.set (k - 8) (b ^^^ by_))
    · rw [if_pos hs]
      refine .inr ⟨_, rfl, fun eX => ?_, hs.symm, ?_, by rw [List.length_set]; omega⟩
      · have h1 : (X.set (k - 8) (b ^^^ by_))[k - 8]? = some (b ^^^ by_) := List.getElem?_set_self (by omega)
        rw [eX, ← hget2] at h1
        injection h1 with h1
        exact hx.1 h1.symm
      · intro x hxm
        rcases List.mem_or_eq_of_mem_set hxm with h1 | h1
        · exact hlt x h1
        · rw [h1]; exact hx.2
    · rw [if_neg hs]; exact .inl rfl
set_option maxHeartbeats 1000000 in
set_option maxRecDepth 100000 in
theorem dtturned_in (X : List Nat) (at_ by_ : Nat) (w : World) (hX : X.length ≤ 200) (hlt : ∀ x ∈ X, x < 256) (ha : at_ < 65536) (hb : by_ < 256) (h0 : by_ ≠ 0) :
    Calls Try.prog 5 #[.string (strOf X), .int .u16 (at_ : Int), .int .u8 (by_ : Int)] w fun e w' => e = .returned (.bool true) ∧ Below w.heap.size w w' := by
  have Haw := Lib.hid (dtawake_any w)
  have hs1 := strOf_size X
  have d1 : decide ((200 : Int) < (X.length : Int)) = false := decide_eq_false (by omega)
  have d2 : ((by_ : Int) == 0) = false := by rw [beq_eq_false_iff_ne]; omega
  have Henc := Lib.hid (fun W => dtenc_some X W (by omega) hlt)
  go_enter Try.func5, Try.ntmps5
  go_wp2_with fail
  refine Haw.out.mono ?_
  rintro e w1 ⟨rfl, hb1⟩
  have Hb1 := Lib.hid hb1
  clear hb1
  go_wp2_with fail
  refine (Henc.out _).mono ?_
  rintro e w2 ⟨rfl, hb2⟩
  have Hb2 := Lib.hid (Hb1.out.trans (hb2.mono Hb1.out.size))
  clear hb2 Hb1
  have hB := Bm.dictB_lt X hlt (by omega)
  obtain ⟨w3, cap, hconv, hby, hbel⟩ := conv_edit w2 (Bm.dictB X) hB
  have Hb3 := Lib.hid (Hb2.out.trans (hbel.mono Hb2.out.size))
  obtain ⟨g, hg⟩ : ∃ g, g = w2.heap.size := ⟨_, rfl⟩
  rw [← hg] at hconv hby
  have Hgb := Lib.hid (show w.heap.size ≤ g by rw [hg]; exact Hb2.out.size)
  clear hg hbel Hb2 Henc Haw
  obtain ⟨hKL, hans⟩ := turn_ans X at_ by_ hX hlt hb h0
  have hl := Bm.dictN_len (Bm.sumOf X) X
  rw [show Bm.dictN (Bm.sumOf X) X = Bm.dictB X from rfl] at hl
  have h10 := Bm.grp_ten X.length (by omega)
  have hqm : at_ % (8 + X.length) < 8 + X.length := Nat.mod_lt _ (by omega)
  have hrem : (at_ : Int).tmod (8 + (X.length : Int)) = ((at_ % (8 + X.length) : Nat) : Int) := by
    rw [Int.tmod_eq_emod_of_nonneg (by omega)]
    exact (Int.natCast_emod at_ (8 + X.length)).symm
  have hemod : (at_ : Int) % (8 + (X.length : Int)) = ((at_ % (8 + X.length) : Nat) : Int) := (Int.natCast_emod at_ (8 + X.length)).symm
  have hne : ¬ (8 + (X.length : Int)) = 0 := by omega
  have hcw : IntKind.i64.wrap (at_ : Int) = (at_ : Int) := by rw [IntWalk.i64_in _ (by omega)]
  obtain ⟨S, hS⟩ : ∃ S, S = Bm.dictB X := ⟨_, rfl⟩
  rw [← hS] at hconv hby hKL hans hl hB ⊢
  have hss := strOf_size S
  obtain ⟨b, hget⟩ : ∃ b, S[turnK at_ S.length X.length]? = some b := ⟨_, List.getElem?_eq_getElem hKL⟩
  obtain ⟨hb256, hans⟩ := hans b hget
  have Hans := Lib.hid hans
  have Hby := Lib.hid hby
  have HS := Lib.hid hS
  have hlL : S.length ≤ 300 := by omega
  have hmL : X.length + 11 ≤ S.length := by have := Bm.grp_pos X.length (by omega); omega
  have Hlt := Lib.hid hlt
  have HSlt := Lib.hid hB
  clear hB hans hby hS hlt hl h10
  unfold turnK at hget hKL Hans
  generalize at_ % (8 + X.length) = q at *
  have hxor : bits .xor .u8 (b : Int) (by_ : Int) = ((b ^^^ by_ : Nat) : Int) := u8_xor_nat b by_ hb256 hb
  by_cases hq : 2 + q < 10
  · rw [if_pos hq] at hget hKL Hans
    have d3 : decide ((10 : Int) ≤ 2 + (q : Int)) = false := decide_eq_false (by omega)
    have d3' : decide (10 ≤ 2 + q) = false := decide_eq_false (by omega)
    have hc := Hby.out.cell (2 + q) hKL
    have hf := Hby.out.free (2 + q) hKL
    have hSb : S[(2 + q)] = b := by
      rw [List.getElem?_eq_getElem hKL] at hget
      injection hget
    rw [hSb] at hc
    have hset := Hby.out.set_ (2 + q) (b ^^^ by_)
    have hSl : ∀ x ∈ S.set (2 + q) (b ^^^ by_), x < 256 := by
      intro x hx
      rcases List.mem_or_eq_of_mem_set hx with h1 | h1
      · exact HSlt.out x h1
      · rw [h1]; exact Nat.xor_lt_two_pow (n := 8) hb256 hb
    have hconv2 := conv_bytes _ _ cap _ hSl hset.reads
    rw [List.length_set] at hconv2
    have Hdec := Lib.hid (fun W => dtdec_any (S.set (2 + q) (b ^^^ by_)) W (by rw [List.length_set]; omega) hSl)
    have Hb4 := Lib.hid (Hb3.out.setCell (p := ⟨g, (2 + q), none⟩) Hgb.out (.int .u8 ((b ^^^ by_ : Nat) : Int)))
    clear hset hSl hget hSb Hb3 HSlt HS
    generalize S.set (2 + q) (b ^^^ by_) = S2 at *
    generalize b ^^^ by_ = bx at *
    generalize strOf S2 = sS2 at *
    go_wp2_with fail
    refine (Hdec.out _).mono ?_
    rintro e w5 ⟨rfl, hb5⟩
    have Hb5 := Lib.hid (Hb4.out.trans (hb5.mono Hb4.out.size))
    clear hb5 Hb4 Hdec
    rcases Hans.out with hD | ⟨T, hD, hTX, hsum, hTlt, hTl⟩
    · rw [hD]
      dsimp only
      have hs0 : strOf [] = ⟨#[]⟩ := rfl
      rw [hs0]
      clear hD hs0
      go_wp2
      go_ret
      exact ⟨rfl, Hb5.out⟩
    · rw [hD]
      dsimp only
      have heq := strOf_beq T X hTlt Hlt.out
      rw [decide_eq_false hTX] at heq
      have HofT := Lib.hid (fun W => gof_any T W (by omega) hTlt)
      have HofX := Lib.hid (fun W => gof_any X W (by omega) Hlt.out)
      rw [hsum] at HofT
      clear hD hsum hTX hTlt hTl
      generalize Bm.sumOf X = v at *
      generalize strOf T = sT at *
      generalize strOf X = sX at *
      go_wp2_with fail
      refine (HofT.out _).mono ?_
      rintro e w6 ⟨rfl, rfl⟩
      go_wp2_with fail
      refine (HofX.out _).mono ?_
      rintro e w6 ⟨rfl, rfl⟩
      go_wp2
      go_ret
      exact ⟨rfl, Hb5.out⟩
  · rw [if_neg hq] at hget hKL Hans
    have d3 : decide ((10 : Int) ≤ 2 + (q : Int)) = true := decide_eq_true (by omega)
    have d3' : decide (10 ≤ 2 + q) = true := decide_eq_true (by omega)
    obtain ⟨K, hK⟩ : ∃ K, K = S.length - X.length + (2 + q) - 10 := ⟨_, rfl⟩
    rw [← hK] at hget hKL Hans
    have hKi : (S.length : Int) - (X.length : Int) + (2 + (q : Int)) - 10 = (K : Int) := by omega
    clear hK
    have hc := Hby.out.cell K hKL
    have hf := Hby.out.free K hKL
    have hSb : S[K] = b := by
      rw [List.getElem?_eq_getElem hKL] at hget
      injection hget
    rw [hSb] at hc
    have hset := Hby.out.set_ K (b ^^^ by_)
    have hSl : ∀ x ∈ S.set K (b ^^^ by_), x < 256 := by
      intro x hx
      rcases List.mem_or_eq_of_mem_set hx with h1 | h1
      · exact HSlt.out x h1
      · rw [h1]; exact Nat.xor_lt_two_pow (n := 8) hb256 hb
    have hconv2 := conv_bytes _ _ cap _ hSl hset.reads
    rw [List.length_set] at hconv2
    have Hdec := Lib.hid (fun W => dtdec_any (S.set K (b ^^^ by_)) W (by rw [List.length_set]; omega) hSl)
    have Hb4 := Lib.hid (Hb3.out.setCell (p := ⟨g, K, none⟩) Hgb.out (.int .u8 ((b ^^^ by_ : Nat) : Int)))
    clear hset hSl hget hSb Hb3 HSlt HS
    generalize S.set K (b ^^^ by_) = S2 at *
    generalize b ^^^ by_ = bx at *
    generalize strOf S2 = sS2 at *
    go_wp2_with fail
    refine (Hdec.out _).mono ?_
    rintro e w5 ⟨rfl, hb5⟩
    have Hb5 := Lib.hid (Hb4.out.trans (hb5.mono Hb4.out.size))
    clear hb5 Hb4 Hdec
    rcases Hans.out with hD | ⟨T, hD, hTX, hsum, hTlt, hTl⟩
    · rw [hD]
      dsimp only
      have hs0 : strOf [] = ⟨#[]⟩ := rfl
      rw [hs0]
      clear hD hs0
      go_wp2
      go_ret
      exact ⟨rfl, Hb5.out⟩
    · rw [hD]
      dsimp only
      have heq := strOf_beq T X hTlt Hlt.out
      rw [decide_eq_false hTX] at heq
      have HofT := Lib.hid (fun W => gof_any T W (by omega) hTlt)
      have HofX := Lib.hid (fun W => gof_any X W (by omega) Hlt.out)
      rw [hsum] at HofT
      clear hD hsum hTX hTlt hTl
      generalize Bm.sumOf X = v at *
      generalize strOf T = sT at *
      generalize strOf X = sX at *
      go_wp2_with fail
      refine (HofT.out _).mono ?_
      rintro e w6 ⟨rfl, rfl⟩
      go_wp2_with fail
      refine (HofX.out _).mono ?_
      rintro e w6 ⟨rfl, rfl⟩
      go_wp2
      go_ret
      exact ⟨rfl, Hb5.out⟩
end Go.Proofs.Ytnjmoameedmikaa
