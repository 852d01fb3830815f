/-
  The program's layer 19 (train): weights, by their walks: worth, take. Conditions: as each theorem's premises say.
-/
import Derived.Test.YtaebnkeddcbmkaaGs
import Derived.Test.YtaebnkeddcbmkaaGi
namespace Go.Proofs.Ytaebnkeddcbmkaa
open Go.RowKit Go.Maps Go.Proofs.Ytaebnkeddcbmkaa.Bm
namespace Bm
/-- What a function says, 0 where it says nothing. -/
def val (F : ByteArray → Option Nat) (g : ByteArray) : Nat := (F g).getD 0
/-- A function without these grams. -/
def delL (F : ByteArray → Option Nat) (l : List ByteArray) : ByteArray → Option Nat := fun g => if g ∈ l then none else F g
theorem delL_nil (F : ByteArray → Option Nat) : delL F [] = F := by funext g; simp [delL]
theorem delL_snoc (F : ByteArray → Option Nat) (l : List ByteArray) (g : ByteArray) : updM (delL F l) g none = delL F (l ++ [g]) := by
  funext u
  unfold updM delL
  by_cases h : u = g
  · subst h; simp
  · by_cases h2 : u ∈ l <;> simp [h, h2]
theorem val_delL (F : ByteArray → Option Nat) (l : List ByteArray) (g : ByteArray) : val (delL F l) g = if g ∈ l then 0 else val F g := by
  unfold val delL
  split <;> rfl
end Bm
set_option maxHeartbeats 1000000 in
set_option maxRecDepth 100000 in
theorem twworth_any (base b n : Nat) (F : ByteArray → Option Nat) (s : ByteArray) (w : World) (hs : s.size ≤ 100000) (hF : ∀ g, val F g ≤ 1000) (hmap : MapP w b n F) (hmax : MaxB base w) :
    Calls Try.prog 27 #[.map (some b), .string s] w fun e w' => e = .returned (.int .i64 ((gsum (val F) [] (gms s) : Nat) : Int)) ∧ w' = w := by
  obtain ⟨N, hN⟩ : ∃ N, N = (gms s).length := ⟨_, rfl⟩
  have hNs : (s.size : Int) - 6 + 1 ≤ (N : Int) ∧ (N : Int) ≤ s.size ∧ (0 < N → (s.size : Int) - 6 + 1 = (N : Int)) := by rw [hN, gms_length]; omega
  obtain ⟨hN1, hN2, hN3⟩ := hNs
  have Hmap := Lib.hid hmap
  have Hmax := Lib.hid hmax
  have HF := Lib.hid hF
  have Hlen := Lib.hid hN
  have Hle : Hid (∀ k, gsum (val F) [] ((gms s).take k) ≤ 100000000) := Lib.hid (fun k => by
    have h1 := wsum_pre (val F) (gms s) k
    have h2 := wsum_le (val F) 1000 (gms s) [] (fun g _ => hF g)
    rw [← hN] at h2
    omega)
  clear hmap hmax hF hN
  go_enter Try.func27, Try.ntmps27
  go_wp2
  go_loopw [5, 13] (fun sv iv wr => ∃ (i : Nat), iv = .int .i64 (i : Int) ∧ i ≤ N ∧ sv = .int .i64 ((gsum (val F) [] ((gms s).take i) : Nat) : Int) ∧ wr = w) (fun _ iv _ => N - (intOf iv).toNat)
  case atStart => exact ⟨0, rfl, Nat.zero_le _, rfl, rfl⟩
  case round =>
    obtain ⟨i, rfl, hi, rfl, rfl⟩ := hrel
    by_cases hiN : i < N
    · have hlt : (i : Int) < (s.size : Int) - 6 + 1 := by rw [hN3 (by omega)]; omega
      have hil : i < (gms s).length := by rw [← Hlen.out]; exact hiN
      have hi6 : i + 6 ≤ s.size := by rw [gms_length] at hil; omega
      obtain ⟨S, hS⟩ : ∃ S, S = gsum (val F) [] ((gms s).take i) := ⟨_, rfl⟩
      have hS1 : S ≤ 100000000 := by rw [hS]; exact Hle.out i
      have Hstep := Lib.hid (wsum_step (val F) s i hil)
      rw [← hS] at Hstep ⊢
      obtain ⟨S2, hS2⟩ : ∃ S2, S2 = gsum (val F) [] ((gms s).take (i + 1)) := ⟨_, rfl⟩
      rw [← hS2] at Hstep
      have hsz : (gr s i).size ≤ maxLen := by rw [gr_size s i hi6]; unfold maxLen; omega
      have hcut := gcut s i hi6
      have Hx := index_gram s i hil
      obtain ⟨g, hg⟩ : ∃ g, g = gr s i := ⟨_, rfl⟩
      rw [← hg] at hcut hsz Hstep Hx
      obtain ⟨x, hx⟩ : ∃ x, x = Lib.index s.data.toList g.data.toList := ⟨_, rfl⟩
      rw [← hx] at Hx
      have Hidx : Hid (Calls Try.prog 36 #[.string s, .string g] wr fun e w' => e = .returned (.int .i64 x) ∧ w' = wr) := Lib.hid (by rw [hx]; exact sindex_any s g base wr (by omega) Hmax.out)
      obtain ⟨v, hv⟩ : ∃ v, val F g = v := ⟨_, rfl⟩
      have hv1 : v ≤ 1000 := by rw [← hv]; exact HF.out g
      rw [hv] at Hstep
      have Hv := Lib.hid hv
      have HX := Lib.hid Hx
      have HS2 := Lib.hid hS2
      clear hx hv Hx hS hg hS2 hil
      by_cases hv0 : v = 0
      · subst hv0
        have hSS : Hid (S2 = S) := Lib.hid (by have := Hstep.out; split at this <;> omega)
        clear Hstep
        go_wp2_with (first
          | (at_lookup; refine wpM_look _ rfl _ _ 34 rfl Try.underlying34 b n F rfl Hmap.out g 0 Hv.out rfl hsz ?_)
          | go_in)
        go_roundw
        case rel => exact ⟨i + 1, by go_num, by omega, by rw [← HS2.out, hSS.out], by first | rfl | trivial⟩
        case measure => simp [intOf]; omega
      · have hvp : 0 < v := by omega
        by_cases hmem : g ∈ (gms s).take i
        · have hd : (x == (i : Int)) = false := by rw [beq_eq_false_iff_ne]; intro e; exact (HX.out.1 e) hmem
          have hSS : Hid (S2 = S) := Lib.hid (by have := Hstep.out; rw [if_pos hmem] at this; omega)
          clear Hstep hmem
          go_wp2_with (first
            | (at_lookup; refine wpM_look _ rfl _ _ 34 rfl Try.underlying34 b n F rfl Hmap.out g v Hv.out rfl hsz ?_)
            | (go_at_call 36; refine Hidx.out.mono ?_; rintro e w' ⟨rfl, rfl⟩)
            | go_in)
          go_roundw
          case rel => exact ⟨i + 1, by go_num, by omega, by rw [← HS2.out, hSS.out], by first | rfl | trivial⟩
          case measure => simp [intOf]; omega
        · have hd : (x == (i : Int)) = true := by rw [beq_iff_eq]; exact HX.out.2 hmem
          have hSS : Hid (S2 = S + v) := Lib.hid (by have := Hstep.out; rw [if_neg hmem] at this; omega)
          clear Hstep hmem
          go_wp2_with (first
            | (at_lookup; refine wpM_look _ rfl _ _ 34 rfl Try.underlying34 b n F rfl Hmap.out g v Hv.out rfl hsz ?_)
            | (go_at_call 36; refine Hidx.out.mono ?_; rintro e w' ⟨rfl, rfl⟩)
            | go_in)
          go_roundw
          case rel => exact ⟨i + 1, by go_num, by omega, by rw [← HS2.out, hSS.out]; go_num, by first | rfl | trivial⟩
          case measure => simp [intOf]; omega
    · have hge : ¬ (i : Int) < (s.size : Int) - 6 + 1 := by
        by_cases h0 : 0 < N
        · rw [hN3 h0]; omega
        · omega
      have hiN2 : i = N := by omega
      have Hfin : Hid ((gms s).take i = gms s) := Lib.hid (by rw [hiN2, Hlen.out, List.take_length])
      rw [Hfin.out]
      clear hN3 hiN2
      go_wp2
      go_ret
      exact ⟨rfl, rfl⟩
set_option maxHeartbeats 1000000 in
set_option maxRecDepth 100000 in
theorem ttake_any (b n : Nat) (F : ByteArray → Option Nat) (s : ByteArray) (w : World) (hs : s.size ≤ 100000) (hF : ∀ g, val F g ≤ 1000) (hmap : MapP w b n F) :
    Calls Try.prog 19 #[.map (some b), .string s] w fun e w' => e = .returned (.int .i64 ((gsum (val F) [] (gms s) : Nat) : Int)) ∧ MapP w' b n (delL F (gms s)) ∧ w.grownBy w' (some b) := by
  obtain ⟨N, hN⟩ : ∃ N, N = (gms s).length := ⟨_, rfl⟩
  have hNs : (s.size : Int) - 6 + 1 ≤ (N : Int) ∧ (N : Int) ≤ s.size ∧ (0 < N → (s.size : Int) - 6 + 1 = (N : Int)) := by rw [hN, gms_length]; omega
  obtain ⟨hN1, hN2, hN3⟩ := hNs
  have Hmap0 : Hid (MapP w b n (delL F ((gms s).take 0))) := Lib.hid (by rw [List.take_zero, delL_nil]; exact hmap)
  have HF := Lib.hid hF
  have Hlen := Lib.hid hN
  have Hle : Hid (∀ k, gsum (val F) [] ((gms s).take k) ≤ 100000000) := Lib.hid (fun k => by
    have h1 := wsum_pre (val F) (gms s) k
    have h2 := wsum_le (val F) 1000 (gms s) [] (fun g _ => hF g)
    rw [← hN] at h2
    omega)
  clear hmap hF hN
  go_enter Try.func19, Try.ntmps19
  go_wp2
  go_loopw [5, 12] (fun sv iv wr => ∃ (i : Nat), iv = .int .i64 (i : Int) ∧ i ≤ N ∧ sv = .int .i64 ((gsum (val F) [] ((gms s).take i) : Nat) : Int) ∧ Hid (MapP wr b n (delL F ((gms s).take i))) ∧ Hid (w.grownBy wr (some b))) (fun _ iv _ => N - (intOf iv).toNat)
  case atStart => exact ⟨0, rfl, Nat.zero_le _, rfl, Hmap0, Lib.hid (grown_refl _ _)⟩
  case round =>
    obtain ⟨i, rfl, hi, rfl, Hmap, Hg⟩ := hrel
    clear Hmap0
    by_cases hiN : i < N
    · have hlt : (i : Int) < (s.size : Int) - 6 + 1 := by rw [hN3 (by omega)]; omega
      have hil : i < (gms s).length := by rw [← Hlen.out]; exact hiN
      have hi6 : i + 6 ≤ s.size := by rw [gms_length] at hil; omega
      obtain ⟨S, hS⟩ : ∃ S, S = gsum (val F) [] ((gms s).take i) := ⟨_, rfl⟩
      have hS1 : S ≤ 100000000 := by rw [hS]; exact Hle.out i
      have Hstep := Lib.hid (wsum_step (val F) s i hil)
      rw [← hS] at Hstep ⊢
      obtain ⟨S2, hS2⟩ : ∃ S2, S2 = gsum (val F) [] ((gms s).take (i + 1)) := ⟨_, rfl⟩
      rw [← hS2] at Hstep
      have hsz : (gr s i).size ≤ maxLen := by rw [gr_size s i hi6]; unfold maxLen; omega
      have hcut := gcut s i hi6
      obtain ⟨g, hg⟩ : ∃ g, g = gr s i := ⟨_, rfl⟩
      have Hdel : Hid (updM (delL F ((gms s).take i)) g none = delL F ((gms s).take (i + 1))) := Lib.hid (by rw [delL_snoc, gms_take_succ s i hil, hg])
      rw [← hg] at hcut hsz Hstep
      obtain ⟨v, hv⟩ : ∃ v, val (delL F ((gms s).take i)) g = v := ⟨_, rfl⟩
      have hvv := hv
      rw [val_delL] at hvv
      rw [hvv] at Hstep
      have hv1 : v ≤ 1000 := by
        have := HF.out g
        rw [← hvv]
        split <;> omega
      have Hv := Lib.hid hv
      have HS2 := Lib.hid hS2
      clear hv hvv hS hg hS2 hil
      go_wp2_with (first
        | (at_lookup; refine wpM_look _ rfl _ _ 34 rfl Try.underlying34 b n _ rfl Hmap.out g v Hv.out rfl hsz ?_)
        | (at_delete; refine wpM_delete _ rfl _ _ 34 rfl Try.underlying34 b n _ rfl Hmap.out g rfl hsz ?_; intro w2 hm2 hg2; have Hm2 := Lib.hid hm2; have Hg2 := Lib.hid hg2; clear hm2 hg2)
        | go_in)
      go_roundw
      case rel => exact ⟨i + 1, by go_num, by omega, by rw [← HS2.out, Hstep.out]; go_num, Lib.hid (by rw [← Hdel.out]; exact Hm2.out), Lib.hid (Hg.out.trans Hg2.out)⟩
      case measure => simp [intOf]; omega
    · have hge : ¬ (i : Int) < (s.size : Int) - 6 + 1 := by
        by_cases h0 : 0 < N
        · rw [hN3 h0]; omega
        · omega
      have hiN2 : i = N := by omega
      have Hfin : Hid ((gms s).take i = gms s) := Lib.hid (by rw [hiN2, Hlen.out, List.take_length])
      rw [Hfin.out] at Hmap ⊢
      clear hN3 hiN2
      go_wp2
      go_ret
      exact ⟨rfl, Hmap.out, Hg.out⟩
end Go.Proofs.Ytaebnkeddcbmkaa
