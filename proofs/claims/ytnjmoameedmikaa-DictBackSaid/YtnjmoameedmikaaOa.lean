/-
  Layer 20 (dict), the program's calls, each by its walk: Name, Encode, head, Decode. Conditions: as each theorem's premises say (texts of up to ten million bytes).
-/
import Derived.Test.YtnjmoameedmikaaOm
import Derived.Test.YtnjmoameedmikaaSc
import Derived.Test.YtnjmoameedmikaaCe
import Derived.Test.YtnjmoameedmikaaCh
import Derived.Test.YtnjmoameedmikaaCg
import Derived.Test.YtnjmoameedmikaaEg
namespace Go.Proofs.Ytnjmoameedmikaa
open Go.RowKit

set_option maxHeartbeats 400000 in
set_option maxRecDepth 100000 in
theorem dtname_any (l : List Nat) (w : World) (hl : l.length ≤ 1000000000) (hlt : ∀ x ∈ l, x < 256) :
    Calls Try.prog 10 #[.string (strOf l)] w fun e w' => e = .returned (.int .u64 (Bm.sumOf l : Int)) ∧ Below w.heap.size w w' := by
  have H := Lib.hid (sof_any l w hl hlt)
  clear hlt
  generalize strOf l = s at *
  generalize Bm.sumOf l = v at *
  go_enter Try.func10, Try.ntmps10
  go_wp2_with fail
  refine H.out.mono ?_
  rintro e w1 ⟨rfl, hb⟩
  go_wp2
  go_ret
  exact ⟨rfl, hb⟩

set_option maxHeartbeats 400000 in
set_option maxRecDepth 100000 in
theorem dtenc_long (l : List Nat) (w : World) (hl : 256 < l.length) :
    Calls Try.prog 7 #[.string (strOf l)] w fun e w' => e = .returned (.tuple #[.string (strOf []), .int .i64 5]) ∧ Below w.heap.size w w' := by
  have hsz := strOf_size l
  have d1 : decide ((256 : Int) < (l.length : Int)) = true := decide_eq_true (by omega)
  have hs0 : strOf [] = ⟨#[]⟩ := rfl
  rw [hs0]
  generalize strOf l = s at *
  generalize l.length = n at *
  go_enter Try.func7, Try.ntmps7
  go_wp2
  go_ret2
  exact ⟨rfl, Below.refl _ _⟩
set_option maxHeartbeats 1000000 in
set_option maxRecDepth 100000 in
theorem dtenc_some (l : List Nat) (w : World) (hl : l.length ≤ 256) (hlt : ∀ x ∈ l, x < 256) :
    Calls Try.prog 7 #[.string (strOf l)] w fun e w' => e = .returned (.tuple #[.string (strOf (Bm.dictB l)), .int .i64 0]) ∧ Below w.heap.size w w' := by
  have hsz := strOf_size l
  have d1 : decide ((256 : Int) < (l.length : Int)) = false := decide_eq_false (by omega)
  have hs0 : strOf [80, 68] = ⟨#[80, 68]⟩ := rfl
  obtain ⟨b, hb⟩ : ∃ b, b = w.heap.size := ⟨_, rfl⟩
  have hnew := CW.new w
  rw [← hb] at hnew ⊢
  have Hb := Lib.hid hb
  have Hnew := Lib.hid hnew
  have Hraw := Lib.hid (fun W (h : CW W b []) => wraw_any b [] [80, 68] W (by decide) h)
  rw [hs0, List.nil_append] at Hraw
  have Hname := Lib.hid (fun W => dtname_any l W (by omega) hlt)
  have Hfix := Lib.hid (fun W h => wfixed_any b (Bm.sumOf l) 8 [80, 68] W (by decide) (by decide) (Bm.sumOf_lt l) (by decide) h)
  have Htext := Lib.hid (fun W h => wtext_any b ([80, 68] ++ Bm.bytesOf (Bm.sumOf l) (fx 8)) l W (by rw [List.length_append, Bm.bytesOf_length, show fx 8 = 8 from rfl]; simp) (by omega) h)
  have hB := Bm.dictB_lt l hlt (by omega)
  have hBl := Bm.dictN_len (Bm.sumOf l) l
  have h10 := Bm.grp_ten l.length (by omega)
  have Hstr := Lib.hid (fun W h => wstr_any b (Bm.dictB l) W (by unfold Bm.dictB; omega) hB h)
  have Hd := Lib.hid (show [80, 68] ++ Bm.bytesOf (Bm.sumOf l) (fx 8) ++ (Bm.grp l.length ++ l) = Bm.dictB l from rfl)
  rw [Hd.out] at Htext
  clear hb hnew hlt hB hBl h10 hs0 Hd
  generalize strOf (Bm.dictB l) = sD at *
  generalize Bm.dictB l = D at *
  generalize [80, 68] ++ Bm.bytesOf (Bm.sumOf l) (fx 8) = D2 at *
  generalize strOf l = s at *
  generalize Bm.sumOf l = v at *
  go_enter Try.func7, Try.ntmps7
  go_wp2_with fail
  rw [← Hb.out]
  refine (Hraw.out _ Hnew.out).mono ?_
  rintro e w1 ⟨rfl, hc1, hg1⟩
  have Hc1 := Lib.hid hc1
  have Hg1 := Lib.hid (below_grown (B := b) (grown_trans (grown_below ((Below.refl w.heap.size w).alloc (Nat.le_refl _) _) _) hg1) (Nat.le_refl _) (by rw [Hb.out]; exact Nat.le_refl _))
  clear hc1 hg1 Hraw Hnew
  go_wp2_with fail
  refine (Hname.out _).mono ?_
  rintro e w2 ⟨rfl, hb2⟩
  have Hc2 := Lib.hid (Hc1.out.below hb2)
  have Hg2 := Lib.hid (Hg1.out.trans (hb2.mono (by rw [Hb.out]; exact Hg1.out.size)))
  clear hb2 Hc1 Hg1 Hname
  go_wp2_with fail
  refine (Hfix.out _ Hc2.out).mono ?_
  rintro e w3 ⟨rfl, hc3, hg3⟩
  have Hc3 := Lib.hid hc3
  have Hg3 := Lib.hid (Hg2.out.trans (below_grown hg3 (Nat.le_refl _) (Nat.le_of_lt Hc2.out.lt)))
  clear hc3 hg3 Hc2 Hg2 Hfix
  go_wp2_with fail
  refine (Htext.out _ Hc3.out).mono ?_
  rintro e w4 ⟨rfl, hc4, hg4⟩
  have Hc4 := Lib.hid hc4
  have Hg4 := Lib.hid (Hg3.out.trans (below_grown hg4 (Nat.le_refl _) (Nat.le_of_lt Hc3.out.lt)))
  clear hc4 hg4 Hc3 Hg3 Htext
  go_wp2_with fail
  refine (Hstr.out _ Hc4.out).mono ?_
  rintro e w5 ⟨rfl, hb5⟩
  have Hg5 := Lib.hid (Hg4.out.trans (hb5.mono (Nat.le_of_lt Hc4.out.lt)))
  clear hb5 Hg4
  go_wp2
  go_ret2
  exact ⟨rfl, Hg5.out⟩
theorem dtenc_any (l : List Nat) (w : World) (hlt : ∀ x ∈ l, x < 256) :
    Calls Try.prog 7 #[.string (strOf l)] w fun e w' => e = .returned (if l.length ≤ 256 then .tuple #[.string (strOf (Bm.dictB l)), .int .i64 0] else .tuple #[.string (strOf []), .int .i64 5]) ∧ Below w.heap.size w w' := by
  by_cases h : l.length ≤ 256
  · rw [if_pos h]; exact dtenc_some l w h hlt
  · rw [if_neg h]; exact dtenc_long l w (by omega)

/-- What head answers of a Reader, and what is left of it. -/
def dthd (s : List Nat) : Nat × Nat × Bool × Left :=
  let a := rawS 2 (some s)
  let b := rawS 8 a.2
  let c := groupS b.2
  (Bm.valB b.1, c.1, decide (a.1 = [80, 68]) && c.2.isSome, c.2)
set_option maxHeartbeats 1000000 in
set_option maxRecDepth 100000 in
theorem dthead_any (b : Nat) (s : List Nat) (w : World) (hl : s.length ≤ 10000000) (hlt : ∀ x ∈ s, x < 256) (h : CR w b (some s)) :
    Calls Try.prog 18 #[.pointer (some ⟨b, 0, none⟩)] w fun e w' => e = .returned (.tuple #[.int .u64 ((dthd s).1 : Int), .int .u64 ((dthd s).2.1 : Int), .bool (dthd s).2.2.1]) ∧ CR w' b (dthd s).2.2.2 ∧ w.grownBy w' (some b) := by
  have ok0 : OkL (some s) := ⟨hlt, by omega⟩
  have ok1 := ok_raw (n := 2) ok0
  have ok2 := ok_raw (n := 8) ok1.1
  have Hraw := Lib.hid (rraw_any b (some s) 2 w h)
  have Hfix := Lib.hid (fun W h => rfixed_any b (rawS 2 (some s)).2 8 W (by decide) (by decide) ok1.1 h)
  have Hgrp := Lib.hid (fun W h => rgroup_any b (rawS 8 (rawS 2 (some s)).2).2 W ok2.1 h)
  have Hbad := Lib.hid (fun W h => rbad_any b (groupS (rawS 8 (rawS 2 (some s)).2).2).2 W h)
  have heq : ((strOf (rawS 2 (some s)).1).toList == (strOf [80, 68]).toList) = decide ((rawS 2 (some s)).1 = [80, 68]) := strOf_beq _ _ ok1.2.1 (by decide)
  have hs0 : (strOf [80, 68]).toList = [80, 68] := by rw [strOf_toList]; rfl
  rw [hs0] at heq
  have hfx : fx 8 = 8 := rfl
  rw [hfx] at Hfix
  rw [show (2 : Int).toNat = 2 from rfl] at Hraw
  unfold dthd
  dsimp only
  generalize decide ((rawS 2 (some s)).1 = [80, 68]) = eq at *
  generalize hA : rawS 2 (some s) = A at *
  generalize hB : rawS 8 A.2 = B at *
  generalize hC : groupS B.2 = C at *
  clear ok0 ok1 ok2 hlt hl hA hB hC hs0 hfx h
  obtain ⟨A1, A2⟩ := A
  obtain ⟨B1, B2⟩ := B
  obtain ⟨C1, C2⟩ := C
  dsimp only at *
  generalize strOf A1 = sA at *
  generalize Bm.valB B1 = v at *
  obtain ⟨ok, hok⟩ : ∃ ok, ok = (eq && C2.isSome) := ⟨_, rfl⟩
  rw [← hok]
  have Hok := Lib.hid hok
  clear hok
  go_enter Try.func18, Try.ntmps18
  go_wp2_with fail
  refine Hraw.out.mono ?_
  rintro e w1 ⟨rfl, hc1, hg1⟩
  have Hc1 := Lib.hid hc1
  have Hg1 := Lib.hid hg1
  clear hc1 hg1 Hraw
  go_wp2_with fail
  refine (Hfix.out _ Hc1.out).mono ?_
  rintro e w2 ⟨rfl, hc2, hg2⟩
  have Hc2 := Lib.hid hc2
  have Hg2 := Lib.hid (grown_trans Hg1.out hg2)
  clear hc2 hg2 Hfix Hc1 Hg1
  go_wp2_with fail
  refine (Hgrp.out _ Hc2.out).mono ?_
  rintro e w3 ⟨rfl, hc3, hg3⟩
  have Hc3 := Lib.hid hc3
  have Hg3 := Lib.hid (grown_trans Hg2.out hg3)
  clear hc3 hg3 Hgrp Hc2 Hg2
  have hco : C2.isNone = !C2.isSome := by cases C2 <;> rfl
  cases eq
  · go_wp2
    go_ret3
    exact ⟨by rw [Hok.out]; rfl, Hc3.out, Hg3.out⟩
  · go_wp2_with fail
    refine (Hbad.out _ Hc3.out).mono ?_
    rintro e w4 ⟨rfl, rfl⟩
    have Ho := Lib.hid (Hok.out.trans (Bool.true_and _))
    rw [hco]
    clear hco Hok Hbad
    generalize C2.isSome = c at *
    go_wp2
    go_ret3
    exact ⟨by rw [Ho.out]; cases c <;> rfl, Hc3.out, Hg3.out⟩

set_option maxHeartbeats 1000000 in
set_option maxRecDepth 100000 in
theorem dtdec_none (s : List Nat) (w : World) (hl : s.length ≤ 10000000) (hlt : ∀ x ∈ s, x < 256) (hn : (dthd s).2.2.1 = false) :
    Calls Try.prog 8 #[.string (strOf s)] w fun e w' => e = .returned (.tuple #[.string (strOf []), .int .i64 3]) ∧ Below w.heap.size w w' := by
  have Hnew := Lib.hid (cnew_any s w)
  have Hhead := Lib.hid (fun W b h => dthead_any b s W hl hlt h)
  rw [hn] at Hhead
  have hs0 : strOf [] = ⟨#[]⟩ := rfl
  rw [hs0]
  clear hn hs0
  generalize strOf s = str at *
  obtain ⟨b, hb⟩ : ∃ b, b = w.heap.size := ⟨_, rfl⟩
  rw [← hb] at Hnew ⊢
  have Hb := Lib.hid hb
  clear hb
  go_enter Try.func8, Try.ntmps8
  go_wp2_with fail
  refine Hnew.out.mono ?_
  rintro e w1 ⟨rfl, hc1, hb1⟩
  have Hc1 := Lib.hid hc1
  have Hg1 := Lib.hid hb1
  clear hc1 hb1 Hnew
  go_wp2_with fail
  refine (Hhead.out _ _ Hc1.out).mono ?_
  rintro e w2 ⟨rfl, hc2, hg2⟩
  have Hg2 := Lib.hid (Hg1.out.trans (below_grown hg2 (Nat.le_refl _) (Nat.le_of_lt Hc1.out.lt)))
  clear hc2 hg2 Hhead Hc1 Hg1
  go_wp2
  go_ret2
  exact ⟨rfl, Hg2.out⟩
set_option maxHeartbeats 1000000 in
set_option maxRecDepth 100000 in
theorem dtdec_long (s : List Nat) (w : World) (hl : s.length ≤ 10000000) (hlt : ∀ x ∈ s, x < 256) (hn : (dthd s).2.2.1 = true) (hg : 256 < (dthd s).2.1) :
    Calls Try.prog 8 #[.string (strOf s)] w fun e w' => e = .returned (.tuple #[.string (strOf []), .int .i64 5]) ∧ Below w.heap.size w w' := by
  have Hnew := Lib.hid (cnew_any s w)
  have Hhead := Lib.hid (fun W b h => dthead_any b s W hl hlt h)
  rw [hn] at Hhead
  have hs0 : strOf [] = ⟨#[]⟩ := rfl
  rw [hs0]
  generalize (dthd s).2.1 = n at *
  have d1 : decide (256 < n) = true := decide_eq_true (by omega)
  clear hn hs0
  generalize strOf s = str at *
  obtain ⟨b, hb⟩ : ∃ b, b = w.heap.size := ⟨_, rfl⟩
  rw [← hb] at Hnew ⊢
  have Hb := Lib.hid hb
  clear hb
  go_enter Try.func8, Try.ntmps8
  go_wp2_with fail
  refine Hnew.out.mono ?_
  rintro e w1 ⟨rfl, hc1, hb1⟩
  have Hc1 := Lib.hid hc1
  have Hg1 := Lib.hid hb1
  clear hc1 hb1 Hnew
  go_wp2_with fail
  refine (Hhead.out _ _ Hc1.out).mono ?_
  rintro e w2 ⟨rfl, hc2, hg2⟩
  have Hg2 := Lib.hid (Hg1.out.trans (below_grown hg2 (Nat.le_refl _) (Nat.le_of_lt Hc1.out.lt)))
  clear hc2 hg2 Hhead Hc1 Hg1
  go_wp2
  go_ret2
  exact ⟨rfl, Hg2.out⟩
set_option maxHeartbeats 1000000 in
set_option maxRecDepth 100000 in
theorem dtdec_few (s t : List Nat) (n : Nat) (w : World) (hl : s.length ≤ 10000000) (hlt : ∀ x ∈ s, x < 256) (hn : (dthd s).2.2.1 = true) (hL : (dthd s).2.2.2 = some t) (hg : (dthd s).2.1 = n) (hn1 : n ≤ 256) (hne : t.length ≠ n) :
    Calls Try.prog 8 #[.string (strOf s)] w fun e w' => e = .returned (.tuple #[.string (strOf []), .int .i64 3]) ∧ Below w.heap.size w w' := by
  have Hnew := Lib.hid (cnew_any s w)
  have Hhead := Lib.hid (fun W b h => dthead_any b s W hl hlt h)
  rw [hn, hL, hg] at Hhead
  have Hraw := Lib.hid (fun W b h => rraw_any b (some t) (n : Int) W h)
  rw [Int.toNat_natCast] at Hraw
  have Hdone := Lib.hid (fun W b h => rdone_any b (rawS n (some t)).2 W h)
  have hd : decide ((rawS n (some t)).2 = some []) = false := by
    refine decide_eq_false ?_
    show ¬ (if n ≤ t.length then (t.take n, some (t.drop n)) else (([] : List Nat), none)).2 = some []
    split
    · intro e
      dsimp only at e
      injection e with e
      have := congrArg List.length e
      rw [List.length_drop, List.length_nil] at this
      omega
    · simp
  rw [hd] at Hdone
  have hs0 : strOf [] = ⟨#[]⟩ := rfl
  rw [hs0]
  have d1 : decide (256 < n) = false := decide_eq_false (by omega)
  have hw : IntKind.i64.wrap (n : Int) = (n : Int) := by rw [IntWalk.i64_in _ (by omega)]
  clear hn hs0 hg hd hL hne hlt
  generalize strOf (rawS n (some t)).1 = s1 at *
  generalize (rawS n (some t)).2 = L2 at *
  generalize strOf s = str at *
  obtain ⟨b, hb⟩ : ∃ b, b = w.heap.size := ⟨_, rfl⟩
  rw [← hb] at Hnew ⊢
  have Hb := Lib.hid hb
  clear hb
  go_enter Try.func8, Try.ntmps8
  go_wp2_with fail
  refine Hnew.out.mono ?_
  rintro e w1 ⟨rfl, hc1, hb1⟩
  have Hc1 := Lib.hid hc1
  have Hg1 := Lib.hid hb1
  clear hc1 hb1 Hnew
  go_wp2_with fail
  refine (Hhead.out _ _ Hc1.out).mono ?_
  rintro e w2 ⟨rfl, hc2, hg2⟩
  have Hc2 := Lib.hid hc2
  have Hg2 := Lib.hid (Hg1.out.trans (below_grown hg2 (Nat.le_refl _) (Nat.le_of_lt Hc1.out.lt)))
  clear hc2 hg2 Hhead Hc1 Hg1
  go_wp2_with fail
  refine (Hraw.out _ _ Hc2.out).mono ?_
  rintro e w3 ⟨rfl, hc3, hg3⟩
  have Hc3 := Lib.hid hc3
  have Hg3 := Lib.hid (Hg2.out.trans (below_grown hg3 (Nat.le_refl _) (Nat.le_of_lt Hc2.out.lt)))
  clear hc3 hg3 Hraw Hc2 Hg2
  go_wp2_with fail
  refine (Hdone.out _ _ Hc3.out).mono ?_
  rintro e w4 ⟨rfl, rfl⟩
  go_wp2
  go_ret2
  exact ⟨rfl, Hg3.out⟩
set_option maxHeartbeats 1000000 in
set_option maxRecDepth 100000 in
theorem dtdec_all (s t : List Nat) (n v : Nat) (w : World) (hl : s.length ≤ 10000000) (hlt : ∀ x ∈ s, x < 256) (hn : (dthd s).2.2.1 = true) (hL : (dthd s).2.2.2 = some t) (hg : (dthd s).2.1 = n) (hv : (dthd s).1 = v) (hn1 : n ≤ 256) (hne : t.length = n) (ht : ∀ x ∈ t, x < 256) :
    Calls Try.prog 8 #[.string (strOf s)] w fun e w' => e = .returned (if v = Bm.sumOf t then .tuple #[.string (strOf t), .int .i64 0] else .tuple #[.string (strOf []), .int .i64 4]) ∧ Below w.heap.size w w' := by
  have Hnew := Lib.hid (cnew_any s w)
  have Hhead := Lib.hid (fun W b h => dthead_any b s W hl hlt h)
  rw [hn, hL, hg, hv] at Hhead
  have Hraw := Lib.hid (fun W b h => rraw_any b (some t) (n : Int) W h)
  rw [Int.toNat_natCast] at Hraw
  have hr : rawS n (some t) = (t, some []) := by
    show (if n ≤ t.length then (t.take n, some (t.drop n)) else (([] : List Nat), none)) = (t, some [])
    rw [if_pos (by omega), ← hne, List.take_length, List.drop_length]
  rw [hr] at Hraw
  dsimp only at Hraw
  have Hdone := Lib.hid (fun W b h => rdone_any b (some []) W h)
  have hd : decide (some ([] : List Nat) = some []) = true := decide_eq_true rfl
  rw [hd] at Hdone
  have Hname := Lib.hid (fun W => dtname_any t W (by omega) ht)
  have Hcl := Lib.hid (fun W => sclone_any (strOf t) W (by rw [strOf_size]; omega))
  have hs0 : strOf [] = ⟨#[]⟩ := rfl
  rw [hs0]
  have d1 : decide (256 < n) = false := decide_eq_false (by omega)
  have hw : IntKind.i64.wrap (n : Int) = (n : Int) := by rw [IntWalk.i64_in _ (by omega)]
  have heq : ((Bm.sumOf t : Int) == (v : Int)) = decide (v = Bm.sumOf t) := by
    by_cases h : v = Bm.sumOf t
    · rw [decide_eq_true h, h]; simp
    · rw [decide_eq_false h, beq_eq_false_iff_ne]; omega
  obtain ⟨res, hres⟩ : ∃ r, r = (if v = Bm.sumOf t then Value.tuple #[.string (strOf t), .int .i64 0] else .tuple #[.string ⟨#[]⟩, .int .i64 4]) := ⟨_, rfl⟩
  rw [← hres]
  have Hy := Lib.hid (fun (h : v = Bm.sumOf t) => hres.trans (if_pos h))
  have Hno := Lib.hid (fun (h : ¬ v = Bm.sumOf t) => hres.trans (if_neg h))
  clear hn hs0 hg hd hL hne hlt hv hr ht hres
  generalize strOf t = s1 at *
  generalize strOf s = str at *
  obtain ⟨c, hc⟩ : ∃ c, decide (v = Bm.sumOf t) = c := ⟨_, rfl⟩
  have dP : (c = true → v = Bm.sumOf t) ∧ (c = false → ¬ v = Bm.sumOf t) := by subst hc; exact ⟨of_decide_eq_true, of_decide_eq_false⟩
  rw [hc] at heq
  have HP := Lib.hid dP
  clear dP hc
  generalize Bm.sumOf t = sm at *
  obtain ⟨b, hb⟩ : ∃ b, b = w.heap.size := ⟨_, rfl⟩
  rw [← hb] at Hnew ⊢
  have Hb := Lib.hid hb
  clear hb
  go_enter Try.func8, Try.ntmps8
  go_wp2_with fail
  refine Hnew.out.mono ?_
  rintro e w1 ⟨rfl, hc1, hb1⟩
  have Hc1 := Lib.hid hc1
  have Hg1 := Lib.hid hb1
  clear hc1 hb1 Hnew
  go_wp2_with fail
  refine (Hhead.out _ _ Hc1.out).mono ?_
  rintro e w2 ⟨rfl, hc2, hg2⟩
  have Hc2 := Lib.hid hc2
  have Hg2 := Lib.hid (Hg1.out.trans (below_grown hg2 (Nat.le_refl _) (Nat.le_of_lt Hc1.out.lt)))
  clear hc2 hg2 Hhead Hc1 Hg1
  go_wp2_with fail
  refine (Hraw.out _ _ Hc2.out).mono ?_
  rintro e w3 ⟨rfl, hc3, hg3⟩
  have Hc3 := Lib.hid hc3
  have Hg3 := Lib.hid (Hg2.out.trans (below_grown hg3 (Nat.le_refl _) (Nat.le_of_lt Hc2.out.lt)))
  clear hc3 hg3 Hraw Hc2 Hg2
  go_wp2_with fail
  refine (Hdone.out _ _ Hc3.out).mono ?_
  rintro e w4 ⟨rfl, rfl⟩
  go_wp2_with fail
  refine (Hname.out _).mono ?_
  rintro e w5 ⟨rfl, hb5⟩
  have Hg5 := Lib.hid (Hg3.out.trans (hb5.mono (Nat.le_of_lt Hc3.out.lt)))
  have Hs := Lib.hid (Nat.le_trans (Nat.le_of_lt Hc3.out.lt) hb5.size)
  clear hb5 Hg3
  cases c
  · go_wp2
    go_ret2
    exact ⟨(congrArg Ending.returned (Hno.out (HP.out.2 trivial))).symm, Hg5.out⟩
  · go_wp2_with fail
    refine (Hcl.out _).mono ?_
    rintro e w6 ⟨rfl, hb6⟩
    have Hg6 := Lib.hid (Hg5.out.trans (hb6.mono Hs.out))
    clear hb6
    go_wp2
    go_ret2
    exact ⟨(congrArg Ending.returned (Hy.out (HP.out.1 trivial))).symm, Hg6.out⟩
/-- The head, by the mathematics. -/
theorem dthd_math (s : List Nat) : Bm.dictD s = if (dthd s).2.2.1 = true then Bm.dictT (dthd s).1 (dthd s).2.1 ((dthd s).2.2.2.getD []) else ([], 3) := by
  unfold Bm.dictD
  by_cases h2 : 2 ≤ s.length
  · have e2 : rawS 2 (some s) = (s.take 2, some (s.drop 2)) := if_pos h2
    by_cases h8 : 8 ≤ (s.drop 2).length
    · have e8 : rawS 8 (some (s.drop 2)) = ((s.drop 2).take 8, some ((s.drop 2).drop 8)) := if_pos h8
      have t1 : (s.drop 2).take 8 = (s.take 10).drop 2 := by rw [List.drop_take]
      have t2 : (s.drop 2).drop 8 = s.drop 10 := by rw [List.drop_drop]
      rw [t1, t2] at e8
      rw [List.length_drop] at h8
      by_cases hk : 0 < (Bm.firstG (s.drop 10)).2
      · have eg : groupS (some (s.drop 10)) = ((Bm.firstG (s.drop 10)).1, some ((s.drop 10).drop (Bm.firstG (s.drop 10)).2)) := if_pos hk
        have ed : dthd s = (Bm.valB ((s.take 10).drop 2), (Bm.firstG (s.drop 10)).1, decide (s.take 2 = [80, 68]) && true, some ((s.drop 10).drop (Bm.firstG (s.drop 10)).2)) := by
          unfold dthd; dsimp only; rw [e2]; dsimp only; rw [e8]; dsimp only; rw [eg]; rfl
        rw [ed]
        dsimp only
        by_cases hp : s.take 2 = [80, 68]
        · rw [if_neg (by rintro (h | h | h); omega; exact h hp; omega), if_pos (by rw [decide_eq_true hp]; rfl)]
          rfl
        · rw [if_pos (Or.inr (Or.inl hp)), if_neg (by rw [decide_eq_false hp]; simp)]
      · have eg : groupS (some (s.drop 10)) = (0, none) := if_neg hk
        have ed : (dthd s).2.2.1 = false := by
          unfold dthd; dsimp only; rw [e2]; dsimp only; rw [e8]; dsimp only; rw [eg]; exact Bool.and_false _
        rw [ed, if_pos (Or.inr (Or.inr (by omega))), if_neg (by simp)]
    · have e8 : rawS 8 (some (s.drop 2)) = ([], none) := if_neg h8
      rw [List.length_drop] at h8
      have ed : (dthd s).2.2.1 = false := by
        unfold dthd; dsimp only; rw [e2]; dsimp only; rw [e8]; exact Bool.and_false _
      rw [ed, if_pos (Or.inl (by omega)), if_neg (by simp)]
  · have e2 : rawS 2 (some s) = ([], none) := if_neg h2
    have ed : (dthd s).2.2.1 = false := by
      unfold dthd; dsimp only; rw [e2]; exact Bool.and_false _
    rw [ed, if_pos (Or.inl (by omega)), if_neg (by simp)]
theorem dthd_left (s : List Nat) (h : (dthd s).2.2.1 = true) (hlt : ∀ x ∈ s, x < 256) (hl : s.length ≤ 100000000) : ∃ t, (dthd s).2.2.2 = some t ∧ (∀ x ∈ t, x < 256) := by
  have ok0 : OkL (some s) := ⟨hlt, hl⟩
  have ok1 := ok_raw (n := 2) ok0
  have ok2 := ok_raw (n := 8) ok1.1
  have ok3 := ok_group ok2.1
  unfold dthd at h ⊢
  dsimp only at h ⊢
  generalize groupS (rawS 8 (rawS 2 (some s)).2).2 = C at *
  rcases C with ⟨c1, _ | t⟩
  · simp at h
  · exact ⟨t, rfl, ok3.1.1⟩
theorem dtdec_any (s : List Nat) (w : World) (hl : s.length ≤ 10000000) (hlt : ∀ x ∈ s, x < 256) :
    Calls Try.prog 8 #[.string (strOf s)] w fun e w' => e = .returned (.tuple #[.string (strOf (Bm.dictD s).1), .int .i64 ((Bm.dictD s).2 : Int)]) ∧ Below w.heap.size w w' := by
  rw [dthd_math s]
  by_cases h : (dthd s).2.2.1 = true
  · rw [if_pos h]
    obtain ⟨t, hL, ht⟩ := dthd_left s h hlt (by omega)
    rw [hL, Option.getD_some]
    unfold Bm.dictT
    by_cases h1 : 256 < (dthd s).2.1
    · rw [if_pos h1]; exact dtdec_long s w hl hlt h h1
    · rw [if_neg h1]
      by_cases h2 : t.length = (dthd s).2.1
      · rw [if_neg (by simpa using h2)]
        have H := dtdec_all s t _ _ w hl hlt h hL rfl rfl (by omega) h2 ht
        by_cases h3 : (dthd s).1 = Bm.sumOf t
        · rw [if_neg (by simpa using h3)]; rw [if_pos h3] at H; exact H
        · rw [if_pos h3]; rw [if_neg h3] at H; exact H
      · rw [if_pos h2]; exact dtdec_few s t _ w hl hlt h hL rfl (by omega) h2
  · rw [if_neg h]; exact dtdec_none s w hl hlt (by simpa using h)
end Go.Proofs.Ytnjmoameedmikaa
