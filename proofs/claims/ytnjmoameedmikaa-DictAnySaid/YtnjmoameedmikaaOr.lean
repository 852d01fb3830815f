/-
  The reference of layer 20 (dict), each by its walk: Bytes, Decode. Conditions: as each theorem's premises say (up to ten million bytes).
-/
import Derived.Test.YtnjmoameedmikaaOm
import Derived.Test.YtnjmoameedmikaaSc
import Derived.Test.YtnjmoameedmikaaCs
namespace Go.Proofs.Ytnjmoameedmikaa
open Go.RowKit

set_option maxHeartbeats 1000000 in
set_option maxRecDepth 100000 in
theorem dtrbytes_any (l : List Nat) (w : World) (hl : l.length ≤ 10000000) (hlt : ∀ x ∈ l, x < 256) :
    Calls Try.prog 9 #[.string (strOf l)] w fun e w' => e = .returned (.string (strOf (Bm.dictB l))) ∧ Below w.heap.size w w' := by
  have Hof := Lib.hid (fun W => gof_any l W (by omega) hlt)
  have Hfix := Lib.hid (fun W => ffixed_any (Bm.sumOf l) 8 W (Bm.sumOf_lt l))
  have hfx : fx 8 = 8 := rfl
  rw [hfx] at Hfix
  have Htext := Lib.hid (fun W => ftext_any l W hl)
  have h10 := Bm.grp_ten l.length (by omega)
  have hb8 := Bm.bytesOf_length (Bm.sumOf l) 8
  have hs0 : strOf [80, 68] = ⟨#[80, 68]⟩ := rfl
  have ha1 := fun W => str_add [80, 68] (Bm.bytesOf (Bm.sumOf l) 8) (by rw [hb8]; simp) W
  have ha2 := fun W => str_add ([80, 68] ++ Bm.bytesOf (Bm.sumOf l) 8) (Bm.grp l.length ++ l) (by rw [List.length_append, List.length_append, hb8]; simp; omega) W
  rw [show [80, 68] ++ Bm.bytesOf (Bm.sumOf l) 8 ++ (Bm.grp l.length ++ l) = Bm.dictB l from rfl] at ha2
  rw [hs0] at ha1
  clear hs0 hfx hb8 h10 hlt
  generalize strOf (Bm.dictB l) = s4 at *
  generalize strOf ([80, 68] ++ Bm.bytesOf (Bm.sumOf l) 8) = s3 at *
  generalize strOf (Bm.bytesOf (Bm.sumOf l) 8) = s2 at *
  generalize strOf (Bm.grp l.length ++ l) = s1 at *
  generalize strOf l = s at *
  generalize Bm.sumOf l = v at *
  go_enter Try.func9, Try.ntmps9
  go_wp2_with fail
  refine (Hof.out _).mono ?_
  rintro e w1 ⟨rfl, rfl⟩
  go_wp2_with fail
  refine (Hfix.out _).mono ?_
  rintro e w2 ⟨rfl, hb2⟩
  have Hb2 := Lib.hid hb2
  clear hb2
  go_wp2_with fail
  refine (Htext.out _).mono ?_
  rintro e w3 ⟨rfl, hb3⟩
  have Hb3 := Lib.hid (Hb2.out.trans (hb3.mono Hb2.out.size))
  clear hb3 Hb2
  go_wp2
  go_ret
  exact ⟨rfl, Hb3.out⟩

set_option maxHeartbeats 1000000 in
set_option maxRecDepth 100000 in
theorem dtrdec_short (s : List Nat) (w : World) (hb : s.length < 10) :
    Calls Try.prog 12 #[.string (strOf s)] w fun e w' => e = .returned (.tuple #[.string (strOf []), .int .i64 3]) ∧ Below w.heap.size w w' := by
  have hsz := strOf_size s
  have d1 : decide ((s.length : Int) < 10) = true := decide_eq_true (by omega)
  have hs0 : strOf [] = ⟨#[]⟩ := rfl
  rw [hs0]
  generalize strOf s = str at *
  generalize s.length = n at *
  go_enter Try.func12, Try.ntmps12
  go_wp2
  go_ret2
  exact ⟨rfl, Below.refl _ _⟩
set_option maxHeartbeats 1000000 in
set_option maxRecDepth 100000 in
theorem dtrdec_sign (s : List Nat) (w : World) (hlt : ∀ x ∈ s, x < 256) (h10 : 10 ≤ s.length) (hb : s.take 2 ≠ [80, 68]) :
    Calls Try.prog 12 #[.string (strOf s)] w fun e w' => e = .returned (.tuple #[.string (strOf []), .int .i64 3]) ∧ Below w.heap.size w w' := by
  have hsz := strOf_size s
  have d1 : decide ((s.length : Int) < 10) = false := decide_eq_false (by omega)
  have hto : ∀ W : World, (Instr.slice 9 (.string (strOf s)) none (some (.int .i64 2)) none).run Try.prog W = .ok (.string (strOf (s.take 2))) W := fun W => str_to s 2 (by omega) W
  have heq : ((strOf (s.take 2)).toList == (strOf [80, 68]).toList) = decide (s.take 2 = [80, 68]) := strOf_beq _ _ (take_lt hlt 2) (by decide)
  have hs1 : (strOf [80, 68]).toList = [80, 68] := by rw [strOf_toList]; rfl
  rw [hs1, decide_eq_false hb] at heq
  have hs0 : strOf [] = ⟨#[]⟩ := rfl
  rw [hs0]
  clear hb hlt hs0 hs1
  generalize strOf (s.take 2) = s2 at *
  generalize strOf s = str at *
  generalize s.length = n at *
  go_enter Try.func12, Try.ntmps12
  go_wp2
  go_ret2
  exact ⟨rfl, Below.refl _ _⟩
set_option maxHeartbeats 1000000 in
set_option maxRecDepth 100000 in
theorem dtrdec_in (s : List Nat) (v n k : Nat) (w : World) (hl : s.length ≤ 10000000) (hlt : ∀ x ∈ s, x < 256) (h10 : 10 ≤ s.length) (hb : s.take 2 = [80, 68]) (hf : Bm.firstG (s.drop 10) = (n, k)) (hv : Bm.valB ((s.take 10).drop 2) = v) :
    Calls Try.prog 12 #[.string (strOf s)] w fun e w' => e = .returned (if k = 0 then .tuple #[.string (strOf []), .int .i64 3] else .tuple #[.string (strOf (Bm.dictT v n (s.drop (10 + k))).1), .int .i64 ((Bm.dictT v n (s.drop (10 + k))).2 : Int)]) ∧ Below w.heap.size w w' := by
  have hsz := strOf_size s
  have d1 : decide ((s.length : Int) < 10) = false := decide_eq_false (by omega)
  have hto : ∀ W : World, (Instr.slice 9 (.string (strOf s)) none (some (.int .i64 2)) none).run Try.prog W = .ok (.string (strOf (s.take 2))) W := fun W => str_to s 2 (by omega) W
  have heq : ((strOf (s.take 2)).toList == (strOf [80, 68]).toList) = decide (s.take 2 = [80, 68]) := strOf_beq _ _ (take_lt hlt 2) (by decide)
  have hs1 : (strOf [80, 68]).toList = [80, 68] := by rw [strOf_toList]; rfl
  rw [hs1, decide_eq_true hb] at heq
  have hs0 : strOf [] = ⟨#[]⟩ := rfl
  rw [hs0]
  have hfrom : ∀ W : World, (Instr.slice 9 (.string (strOf s)) (some (.int .i64 10)) none none).run Try.prog W = .ok (.string (strOf (s.drop 10))) W := fun W => str_from s 10 (by omega) W
  have Hfirst := Lib.hid (fun W => ffirst_any (s.drop 10) W (by rw [List.length_drop]; omega) (drop_lt hlt 10))
  rw [hf] at Hfirst
  dsimp only at Hfirst
  by_cases hk : k = 0
  · subst hk
    rw [if_pos rfl]
    clear hb hlt hs0 hs1 hf hv hl
    generalize strOf (s.take 2) = s2 at *
    generalize strOf (s.drop 10) = s3 at *
    generalize strOf s = str at *
    generalize s.length = L at *
    go_enter Try.func12, Try.ntmps12
    go_wp2_with fail
    refine (Hfirst.out _).mono ?_
    rintro e w1 ⟨rfl, hb1⟩
    go_wp2
    go_ret2
    exact ⟨rfl, hb1⟩
  rw [if_neg hk]
  obtain ⟨hn64, htk, hkl⟩ := Bm.firstG_some _ n k (by omega) hf
  rw [List.length_drop] at hkl
  have hke : ((k : Int) == 0) = false := by rw [beq_eq_false_iff_ne]; omega
  by_cases h256 : 256 < n
  · have ht : Bm.dictT v n (s.drop (10 + k)) = ([], 5) := if_pos h256
    rw [ht]
    dsimp only
    rw [hs0]
    have d2 : decide (256 < n) = true := decide_eq_true h256
    clear hb hlt hs0 hs1 hf hv hl htk hn64 ht hk
    generalize strOf (s.take 2) = s2 at *
    generalize strOf (s.drop 10) = s3 at *
    generalize strOf s = str at *
    generalize s.length = L at *
    go_enter Try.func12, Try.ntmps12
    go_wp2_with fail
    refine (Hfirst.out _).mono ?_
    rintro e w1 ⟨rfl, hb1⟩
    go_wp2
    go_ret2
    exact ⟨rfl, hb1⟩
  have d2 : decide (256 < n) = false := decide_eq_false h256
  have hw : IntKind.i64.wrap (n : Int) = (n : Int) := by rw [IntWalk.i64_in _ (by omega)]
  have hfr2 : ∀ W : World, (Instr.slice 9 (.string (strOf s)) (some (.int .i64 (10 + (k : Int)))) none none).run Try.prog W = .ok (.string (strOf (s.drop (10 + k)))) W := fun W => str_from s (10 + k) (by omega) W
  have htl : ∀ x ∈ s.drop (10 + k), x < 256 := drop_lt hlt _
  have htL : (s.drop (10 + k)).length ≤ 10000000 := by rw [List.length_drop]; omega
  have hszt := strOf_size (s.drop (10 + k))
  have Hof := Lib.hid (fun W => gof_any (s.drop (10 + k)) W (by omega) htl)
  generalize s.drop (10 + k) = t at *
  by_cases hlen : t.length = n
  · have hmid : ∀ W : World, (Instr.slice 9 (.string (strOf s)) (some (.int .i64 2)) (some (.int .i64 10)) none).run Try.prog W = .ok (.string (strOf ((s.take 10).drop 2))) W := fun W => str_mid s 2 10 (by omega) (by omega) W
    have Hval := Lib.hid (fun W => fvalue_any ((s.take 10).drop 2) W (by rw [List.length_drop, List.length_take]; omega) (drop_lt (take_lt hlt 10) 2))
    rw [hv] at Hval
    have hle : ((t.length : Int) == (n : Int)) = true := by rw [hlen]; simp
    by_cases hsum : v = Bm.sumOf t
    · have ht : Bm.dictT v n t = (t, 0) := by
        unfold Bm.dictT
        rw [if_neg h256, if_neg (by simpa using hlen), if_neg (by simpa using hsum)]
      rw [ht]
      dsimp only
      have he2 : ((v : Int) == (Bm.sumOf t : Int)) = true := by rw [← hsum]; simp
      clear hb hlt hs0 hs1 hf hv htk hn64 ht hk hsum htl
      generalize strOf (s.take 2) = s2 at *
      generalize strOf (s.drop 10) = s3 at *
      generalize strOf ((s.take 10).drop 2) = s4 at *
      generalize strOf s = str at *
      generalize s.length = L at *
      generalize strOf t = st at *
      generalize Bm.sumOf t = sm at *
      generalize t.length = tl at *
      go_enter Try.func12, Try.ntmps12
      go_wp2_with fail
      refine (Hfirst.out _).mono ?_
      rintro e w1 ⟨rfl, hb1⟩
      go_wp2_with fail
      refine (Hval.out _).mono ?_
      rintro e w2 ⟨rfl, rfl⟩
      go_wp2_with fail
      refine (Hof.out _).mono ?_
      rintro e w2 ⟨rfl, rfl⟩
      go_wp2
      go_ret2
      exact ⟨rfl, hb1⟩
    · have ht : Bm.dictT v n t = ([], 4) := by
        unfold Bm.dictT
        rw [if_neg h256, if_neg (by simpa using hlen), if_pos hsum]
      rw [ht]
      dsimp only
      rw [hs0]
      have he2 : ((v : Int) == (Bm.sumOf t : Int)) = false := by rw [beq_eq_false_iff_ne]; omega
      clear hb hlt hs0 hs1 hf hv htk hn64 ht hk hsum htl
      generalize strOf (s.take 2) = s2 at *
      generalize strOf (s.drop 10) = s3 at *
      generalize strOf ((s.take 10).drop 2) = s4 at *
      generalize strOf s = str at *
      generalize s.length = L at *
      generalize strOf t = st at *
      generalize Bm.sumOf t = sm at *
      generalize t.length = tl at *
      go_enter Try.func12, Try.ntmps12
      go_wp2_with fail
      refine (Hfirst.out _).mono ?_
      rintro e w1 ⟨rfl, hb1⟩
      go_wp2_with fail
      refine (Hval.out _).mono ?_
      rintro e w2 ⟨rfl, rfl⟩
      go_wp2_with fail
      refine (Hof.out _).mono ?_
      rintro e w2 ⟨rfl, rfl⟩
      go_wp2
      go_ret2
      exact ⟨rfl, hb1⟩
  · have ht : Bm.dictT v n t = ([], 3) := by
      unfold Bm.dictT
      rw [if_neg h256, if_pos hlen]
    rw [ht]
    dsimp only
    rw [hs0]
    have hle : ((t.length : Int) == (n : Int)) = false := by rw [beq_eq_false_iff_ne]; omega
    clear hb hlt hs0 hs1 hf hv htk hn64 ht hk hlen htl
    generalize strOf (s.take 2) = s2 at *
    generalize strOf (s.drop 10) = s3 at *
    generalize strOf s = str at *
    generalize s.length = L at *
    generalize strOf t = st at *
    generalize t.length = tl at *
    go_enter Try.func12, Try.ntmps12
    go_wp2_with fail
    refine (Hfirst.out _).mono ?_
    rintro e w1 ⟨rfl, hb1⟩
    go_wp2
    go_ret2
    exact ⟨rfl, hb1⟩
theorem dtrdec_any (s : List Nat) (w : World) (hl : s.length ≤ 10000000) (hlt : ∀ x ∈ s, x < 256) :
    Calls Try.prog 12 #[.string (strOf s)] w fun e w' => e = .returned (.tuple #[.string (strOf (Bm.dictD s).1), .int .i64 ((Bm.dictD s).2 : Int)]) ∧ Below w.heap.size w w' := by
  unfold Bm.dictD
  by_cases h1 : s.length < 10
  · rw [if_pos (Or.inl h1)]; exact dtrdec_short s w h1
  · by_cases h2 : s.take 2 = [80, 68]
    · obtain ⟨n, k, hf⟩ : ∃ n k, Bm.firstG (s.drop 10) = (n, k) := ⟨_, _, rfl⟩
      have H := dtrdec_in s _ n k w hl hlt (by omega) h2 hf rfl
      rw [hf]
      dsimp only
      by_cases h3 : k = 0
      · rw [if_pos (Or.inr (Or.inr h3))]; rw [if_pos h3] at H; exact H
      · rw [if_neg (by rintro (h | h | h); exact h1 h; exact h h2; exact h3 h), List.drop_drop]; rw [if_neg h3] at H; exact H
    · rw [if_pos (Or.inr (Or.inl h2))]; exact dtrdec_sign s w hlt (by omega) h2
end Go.Proofs.Ytnjmoameedmikaa
