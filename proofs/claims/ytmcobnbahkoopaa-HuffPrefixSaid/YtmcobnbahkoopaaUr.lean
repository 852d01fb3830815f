/-
  The reference of layer 9, by its walk: Right, Whole. Conditions: as each theorem's premises say.
-/
import Derived.Test.YtmcobnbahkoopaaUm
import Derived.Test.YtmcobnbahkoopaaNr
import Derived.Test.YtmcobnbahkoopaaNm
namespace Go.Proofs.Ytmcobnbahkoopaa
open Go.RowKit
namespace Bm
theorem all_take9 (p : Int → Prop) (l : List Int) (k : Nat) (h : k < l.length) (h0 : ∀ x ∈ l.take k, p x) (h1 : p l[k]) : ∀ x ∈ l.take (k + 1), p x := by
  rw [List.take_succ_eq_append_getElem h]
  intro x hx
  rcases List.mem_append.1 hx with h2 | h2
  · exact h0 x h2
  · rw [List.mem_singleton.1 h2]; exact h1
theorem ex_take9 (p : Int → Prop) (l : List Int) (k : Nat) (h : k < l.length) : (∃ x ∈ l.take (k + 1), p x) ↔ (∃ x ∈ l.take k, p x) ∨ p l[k] := by
  rw [List.take_succ_eq_append_getElem h]
  constructor
  · rintro ⟨x, hx, hp⟩
    rcases List.mem_append.1 hx with h2 | h2
    · exact .inl ⟨x, h2, hp⟩
    · rw [List.mem_singleton] at h2; subst h2; exact .inr hp
  · rintro (⟨x, hx, hp⟩ | hp)
    · exact ⟨x, List.mem_append_left _ hx, hp⟩
    · exact ⟨_, List.mem_append_right _ (List.mem_singleton.2 rfl), hp⟩
end Bm
theorem dec256 (n : Nat) (r : Bool) (h : decide (n ≤ 256) = r) : decide ((n : Int) ≤ 256) = r := by rw [← h, decide_eq_decide]; omega

set_option maxHeartbeats 1000000 in
set_option maxRecDepth 100000 in
theorem vright_any (A : Option Addr) (c : Nat) (l : List Int) (w : World) (hl : l.length ≤ 1000000000) (hr : Reads w A (i64z l)) :
    Calls Try.prog 20 #[.slice A l.length c] w fun e w' => e = .returned (.bool (decide (Bm.LenR l))) ∧ w = w' := by
  have Hr := Lib.hid hr
  obtain ⟨r, hres⟩ : ∃ r, r = decide (Bm.LenR l) := ⟨_, rfl⟩
  rw [← hres]
  have Hres := Lib.hid hres
  have Hno : Hid (¬ Bm.LenR l → false = r) := Lib.hid (fun h => by rw [hres, decide_eq_false h])
  clear hr hres
  go_enter Try.func20, Try.ntmps20
  go_wp2
  go_loop [3] (fun i => ∃ (k : Nat), k ≤ l.length ∧ i = .int .i64 (k : Int) ∧ Hid (∀ x ∈ l.take k, 0 ≤ x ∧ x ≤ 11)) (fun i => l.length - (intOf i).toNat)
  case atStart => exact ⟨0, by omega, rfl, Lib.hid (by simp)⟩
  case round =>
    obtain ⟨k, hk, rfl, hall⟩ := hrel
    by_cases hkl : k < l.length
    · obtain ⟨g, off, rfl, hc⟩ := reads_iz Hr.out (by omega)
      have c0 := hc k hkl
      have Ha := Lib.hid (Bm.all_take9 (fun x => 0 ≤ x ∧ x ≤ 11) l k hkl hall.out)
      have Hm := Lib.hid (List.getElem_mem hkl)
      clear hc hall
      generalize l[k] = z at c0 Ha Hm
      by_cases hz : z < 0
      · have Hf := Lib.hid (Hno.out (fun h => by have := (h.2 z Hm.out).1; omega))
        go_wp2
        go_ret
        exact ⟨congrArg (fun x => Ending.returned (Value.bool x)) Hf.out, rfl⟩
      by_cases hz2 : 11 < z
      · have Hf := Lib.hid (Hno.out (fun h => by have := (h.2 z Hm.out).2; omega))
        go_wp2
        go_ret
        exact ⟨congrArg (fun x => Ending.returned (Value.bool x)) Hf.out, rfl⟩
      have Hall2 := Lib.hid (Ha.out (by omega))
      clear Ha
      go_wp2
      go_round
      case rel => exact ⟨k + 1, by omega, by go_num, Hall2⟩
      case measure => simp [intOf]; omega
    · obtain rfl : k = l.length := by omega
      have hfin : decide (l.length ≤ 256) = r := by
        have h2 := hall.out
        rw [List.take_length] at h2
        rw [Hres.out, decide_eq_decide]
        exact ⟨fun b => ⟨b, h2⟩, fun h => h.1⟩
      have Hfin := Lib.hid hfin
      clear hfin hall Hres Hno Hr
      generalize l.length = n at *
      go_wp2
      go_ret
      exact ⟨congrArg (fun x => Ending.returned (Value.bool x)) (dec256 n r Hfin.out), rfl⟩
namespace Bm
theorem kr_take (l : List Nat) (k : Nat) (h : k < l.length) : krN (l.take (k + 1)) = krN (l.take k) + partL l[k] ∧ someN (l.take (k + 1)) = someN (l.take k) + if 0 < l[k] then 1 else 0 := by
  unfold krN someN
  rw [List.take_succ_eq_append_getElem h, List.map_append, List.sum_append_nat, List.countP_append, List.countP_singleton]
  simp
theorem part_le (n : Nat) : partL n ≤ 1024 := by
  unfold partL
  split
  · omega
  · exact Nat.pow_le_pow_right (n := 2) (j := 10) (by omega) (by omega)
theorem kr_le (l : List Nat) : krN l ≤ 1024 * l.length := by
  unfold krN
  induction l with
  | nil => simp
  | cons a l ih => have := part_le a; rw [List.map_cons, List.sum_cons, List.length_cons]; omega
theorem some_le (l : List Nat) : someN l ≤ l.length := List.countP_le_length
end Bm

set_option maxHeartbeats 1000000 in
set_option maxRecDepth 100000 in
theorem vwhole_any (A : Option Addr) (c : Nat) (l : List Int) (w : World) (hl : l.length ≤ 1000000000) (hr : Reads w A (i64z l)) :
    Calls Try.prog 11 #[.slice A l.length c] w fun e w' => e = .returned (.bool (decide (Bm.WholeI l))) ∧ w = w' := by
  have Hri := Lib.hid (vright_any A c l w hl hr)
  by_cases hR : Bm.LenR l
  · rw [decide_eq_true hR] at Hri
    obtain ⟨e1, h11, elen⟩ := Bm.lenR_nat l hR
    have h256 := hR.1
    have hW : Bm.WholeI l ↔ (Bm.krN (l.map Int.toNat) = 2048 ∨ (Bm.someN (l.map Int.toNat) = 1 ∧ Bm.krN (l.map Int.toNat) = 1024)) := by
      unfold Bm.WholeI Bm.WholeN
      exact ⟨fun h => h.2.2.2, fun h => ⟨hR, by omega, h11, h⟩⟩
    have hd : decide (Bm.WholeI l) = decide (Bm.krN (l.map Int.toNat) = 2048 ∨ (Bm.someN (l.map Int.toNat) = 1 ∧ Bm.krN (l.map Int.toNat) = 1024)) := decide_eq_decide.2 hW
    rw [hd]
    have hr2 : Reads w A (i64s (l.map Int.toNat)) := by rw [← i64z_nat, ← e1]; exact hr
    generalize l.map Int.toNat = ls at *
    clear hd hW hR e1 hr
    have Hr := Lib.hid hr2
    have H11 := Lib.hid h11
    rw [← elen] at Hri ⊢
    have hls : ls.length ≤ 256 := by omega
    clear hr2 h11 elen h256 hl
    obtain ⟨r, hres⟩ : ∃ r, r = decide (Bm.krN ls = 2048 ∨ (Bm.someN ls = 1 ∧ Bm.krN ls = 1024)) := ⟨_, rfl⟩
    rw [← hres]
    have Hres := Lib.hid hres
    clear hres
    go_enter Try.func11, Try.ntmps11
    go_wp2_with fail
    refine Hri.out.mono ?_
    rintro e w' ⟨rfl, rfl⟩
    clear Hri
    go_wp2
    go_loop [3, 4, 5] (fun s t i => ∃ (k : Nat), k ≤ ls.length ∧ i = .int .i64 (k : Int) ∧ s = .int .i64 (Bm.krN (ls.take k) : Int) ∧ t = .int .i64 (Bm.someN (ls.take k) : Int)) (fun _ _ i => ls.length - (intOf i).toNat)
    case atStart => exact ⟨0, by omega, rfl, rfl, rfl⟩
    case round =>
      obtain ⟨k, hk, rfl, rfl, rfl⟩ := hrel
      by_cases hkl : k < ls.length
      · obtain ⟨g, off, rfl, hc⟩ : ∃ g off, A = some ⟨g, off, none⟩ ∧ w.cell? ⟨g, off + k, none⟩ = some (.int .i64 (ls[k] : Int)) := by
          obtain ⟨g, off, e, hc⟩ := Hr.out (by intro e; have := congrArg List.length e; rw [i64s_length, List.length_nil] at this; omega)
          refine ⟨g, off, e, ?_⟩
          have h1 := hc k (by rw [i64s_length]; exact hkl)
          rw [i64s_get? ls k hkl] at h1
          exact h1
        have Hst := Lib.hid (Bm.kr_take ls k hkl)
        have hkr := Bm.kr_le (ls.take k)
        have hso := Bm.some_le (ls.take k)
        rw [List.length_take, Nat.min_eq_left (by omega)] at hkr hso
        have h11 := H11.out ls[k] (List.getElem_mem hkl)
        have hpl := Bm.part_le ls[k]
        have Hsz : Hid (0 < ls[k] → Calls Try.prog 26 #[.int .i64 (11 - (ls[k] : Int))] w fun e w' => e = .returned (.int .i64 (Bm.partL ls[k] : Int)) ∧ w = w') := Lib.hid (fun h0 => by
          have h1 := hsize_any (11 - (ls[k] : Int)) w (by omega)
          rw [show (11 - (ls[k] : Int)).toNat = 11 - ls[k] by omega] at h1
          unfold Bm.partL
          rw [if_neg (by omega)]
          exact h1)
        have Hp0 : Hid (ls[k] = 0 → Bm.partL ls[k] = 0) := Lib.hid (fun h => by unfold Bm.partL; rw [if_pos h])
        generalize Bm.krN (ls.take k) = K at *
        generalize Bm.someN (ls.take k) = M at *
        generalize Bm.partL ls[k] = P at *
        generalize ls[k] = x at *
        by_cases hx : 0 < x
        · have Hsz2 := Lib.hid (Hsz.out hx)
          clear Hsz Hp0
          go_wp2_with fail
          refine Hsz2.out.mono ?_
          rintro e w' ⟨rfl, rfl⟩
          go_wp2
          go_round
          case rel => exact ⟨k + 1, by omega, by go_num, by rw [Hst.out.1]; go_num, by rw [Hst.out.2, if_pos hx]; go_num⟩
          case measure => simp [intOf]; omega
        · have hP0 := Hp0.out (by omega)
          subst hP0
          clear Hsz Hp0
          go_wp2
          go_round
          case rel => exact ⟨k + 1, by omega, by go_num, by rw [Hst.out.1]; go_num, by rw [Hst.out.2, if_neg hx]; go_num⟩
          case measure => simp [intOf]; omega
      · obtain rfl : k = ls.length := by omega
        rw [List.take_length]
        clear Hr H11
        generalize Bm.krN ls = K at *
        generalize Bm.someN ls = M at *
        by_cases h1 : K = 2048
        · have d1 : ((K : Int) == 2048) = true := by rw [h1]; rfl
          have Hf : Hid (true = r) := Lib.hid (by rw [Hres.out, decide_eq_true (.inl h1)])
          clear h1 Hres
          go_wp2
          go_ret
          exact ⟨congrArg (fun x => Ending.returned (Value.bool x)) Hf.out, rfl⟩
        · have d1 : ((K : Int) == 2048) = false := by rw [beq_eq_false_iff_ne]; omega
          by_cases h2 : M = 1
          · have d2 : ((M : Int) == 1) = true := by rw [h2]; rfl
            have Hf : Hid (((K : Int) == 1024) = r) := Lib.hid (by
              rw [Hres.out, Bool.eq_iff_iff, beq_iff_eq, decide_eq_true_iff]
              omega)
            clear h1 h2 Hres
            go_wp2
            go_ret
            exact ⟨congrArg (fun x => Ending.returned (Value.bool x)) Hf.out, rfl⟩
          · have d2 : ((M : Int) == 1) = false := by rw [beq_eq_false_iff_ne]; omega
            have Hf : Hid (false = r) := Lib.hid (by rw [Hres.out, decide_eq_false (by omega)])
            clear h1 h2 Hres
            go_wp2
            go_ret
            exact ⟨congrArg (fun x => Ending.returned (Value.bool x)) Hf.out, rfl⟩
  · rw [decide_eq_false hR] at Hri
    have hf : decide (Bm.WholeI l) = false := decide_eq_false (fun h => hR h.1)
    rw [hf]
    clear hr hf
    go_enter Try.func11, Try.ntmps11
    go_wp2_with fail
    refine Hri.out.mono ?_
    rintro e w' ⟨rfl, rfl⟩
    go_wp2
    go_ret
    exact ⟨rfl, rfl⟩
end Go.Proofs.Ytmcobnbahkoopaa
