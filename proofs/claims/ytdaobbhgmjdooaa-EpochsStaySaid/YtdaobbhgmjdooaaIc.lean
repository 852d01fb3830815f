/-
  Layer 21 (epochs), by their walks: All; slices.IndexFunc over dictionaries; drop. Conditions: as each theorem's premises say.
-/
import Derived.Test.YtdaobbhgmjdooaaIb
import Derived.Laws.CopyOwn
import Derived.Deep.RegionLaw
namespace Go.Proofs.Ytdaobbhgmjdooaa
open Go.RowKit

/-- Epochs, the first k of them laid. -/
def flE (l : List Bm.Dic) (k : Nat) : List Nat := (l.take k).map (·.e) ++ List.replicate (l.length - k) 0
theorem flE_zero (l : List Bm.Dic) : flE l 0 = List.replicate l.length 0 := by simp [flE]
theorem flE_all (l : List Bm.Dic) : flE l l.length = l.map (·.e) := by simp [flE]
theorem flE_length (l : List Bm.Dic) (k : Nat) (h : k ≤ l.length) : (flE l k).length = l.length := by simp [flE]; omega
theorem flE_next (l : List Bm.Dic) (k : Nat) (h : k < l.length) : (flE l k).set k l[k].e = flE l (k + 1) := by
  have hl : ((l.take k).map (·.e)).length = k := by simp; omega
  unfold flE
  rw [List.set_append_right _ _ (by omega), hl, Nat.sub_self, show l.length - k = (l.length - (k + 1)) + 1 by omega, List.replicate_succ, List.set_cons_zero, List.take_succ_eq_append_getElem h, List.map_append, List.append_assoc]
  rfl
set_option maxHeartbeats 1000000 in
set_option maxRecDepth 100000 in
theorem eall_any (p : Option Addr) (m : Nat) (l : List Bm.Dic) (w : World) (h : SP w p m l) :
    Calls Try.prog 17 #[.pointer p] w fun e w' => ∃ g, e = .returned (.slice (some ⟨g, 0, none⟩) l.length l.length) ∧ w.heap.size ≤ g ∧ Row w' g 3 (i64s (l.map (·.e))) ∧ Below w.heap.size w w' := by
  have Hth := Lib.hid (fun W hW => ethere_any p m l W hW)
  have h8 := h.small.1
  have H := Lib.hid h
  clear h
  generalize hc : thC p = c at *
  clear hc
  obtain ⟨i0, hi, hz0, hz1, hz2⟩ := info_parts info_in
  obtain ⟨g, hg⟩ : ∃ g, g = w.heap.size := ⟨_, rfl⟩
  have Hg := Lib.hid hg
  clear hg
  go_enter Try.func17, Try.ntmps17
  go_wp2_with fail
  refine (Hth.out w H.out).mono ?_
  rintro e w1 ⟨rfl, q, rfl⟩
  go_wp2_with (at_make; refine wpList_make_full _ rfl _ _ 29 rfl w.heap.size 3 i0 (.int .i64 0) 1 Try.underlying29 hi hz0 hz1 .i64 .i64 _ _ l.length rfl rfl ?c1 ?c1 ?c2 ?c3 ?c4 ?_)
  case c1 => rfl
  case c2 => rw [hz2]; omega
  case c3 => unfold maxLen; omega
  case c4 => exact Nat.le_refl _
  intro w2 hown2 hg2
  have hb2 : Below w.heap.size w w2 := below_of_grown ⟨hg2.os, hg2.tape, hg2.output, hg2.size, hg2.block⟩
  have hr2 := row_of_ownI hown2
  rw [← flE_zero] at hr2
  have hr2' : Row w2 g 3 (i64s (flE l 0)) := by rw [Hg.out]; exact hr2
  rw [← Hg.out]
  have Hb2 := Lib.hid hb2
  have Hr2 := Lib.hid hr2'
  clear hown2 hg2 hb2 hr2 hr2' hi hz0 hz1 hz2
  have Hth2 := Lib.hid (Hth.out w2 (H.out.below Hb2.out))
  clear Hth
  go_wp2_with fail
  refine Hth2.out.mono ?_
  rintro e w3 ⟨rfl, q2, rfl⟩
  clear Hth2
  go_wp2
  go_loopw [4, 5, 13] (fun _ _ i wr => ∃ k : Nat, k ≤ l.length ∧ i = .int .i64 (k : Int) ∧ Hid (Row wr g 3 (i64s (flE l k))) ∧ Hid (Below w.heap.size w wr)) (fun _ _ i _ => l.length - (intOf i).toNat)
  case atStart => exact ⟨0, Nat.zero_le _, rfl, Lib.hid (Hr2.out.keep rfl), Lib.hid ⟨Hb2.out.os, Hb2.out.tape, Hb2.out.output, Hb2.out.size, Hb2.out.block⟩⟩
  case round =>
    obtain ⟨k, hk, rfl, hrow, hbel⟩ := hrel
    clear Hr2 Hb2
    by_cases hkl : k < l.length
    · obtain ⟨b, rfl, hS⟩ := (H.out.below hbel.out).store (by omega)
      obtain ⟨c0, c1, c2⟩ := hS.cd k hkl
      have Hnx := Lib.hid (flE_next l k hkl)
      have gc := (hrow.out.cell k).trans (i64s_get? _ k (by rw [flE_length l k (by omega)]; exact hkl))
      have gf := hrow.out.free k
      have hgl := hrow.out.lt
      have hkI : (k : Int) < (l.length : Int) := by omega
      clear hS H
      generalize l[k] = d at *
      generalize (flE l k)[k]'_ = s0 at gc
      go_wp2
      go_roundw
      case rel =>
        refine ⟨k + 1, by omega, by go_num, Lib.hid ?_, Lib.hid ((hbel.out.setCell (p := ⟨g, k, none⟩) (by show w.heap.size ≤ g; rw [Hg.out]; exact Nat.le_refl _) _).alloc (by have := hbel.out.size; simpa [World.setCell] using this) _)⟩
        rw [← Hnx.out]
        have h5 := (hrow.out.set_ k (.int .i64 (d.e : Int))).alloc (.cells #[.int .i64 (d.e : Int), .string d.t, .int .i64 (d.h : Int)] 51)
        have h6 : i64s ((flE l k).set k d.e) = (i64s (flE l k)).set k (.int .i64 (d.e : Int)) := by simp [i64s, List.map_set]
        rw [h6]
        exact h5
      case measure => simp [intOf]; omega
    · obtain rfl : k = l.length := by omega
      rw [flE_all] at hrow
      go_wp2
      go_ret
      exact ⟨g, rfl, by rw [Hg.out]; exact Nat.le_refl _, hrow.out, hbel.out⟩
set_option maxHeartbeats 400000 in
set_option maxRecDepth 100000 in
theorem edropf_any (e h : Nat) (t : ByteArray) (w : World) :
    Calls Try.prog 25 #[.agg #[.int .i64 (e : Int), .string t, .int .i64 (h : Int)]] w fun en w' => en = .returned (.bool (decide (h = 0))) ∧ Below w.heap.size w w' := by
  have Hd : Hid (((h : Int) == 0) = decide (h = 0)) := Lib.hid (by
    by_cases h0 : h = 0
    · rw [decide_eq_true h0, beq_iff_eq]; omega
    · rw [decide_eq_false h0, beq_eq_false_iff_ne]; omega)
  go_enter Try.func25, Try.ntmps25
  go_wp2
  go_ret
  exact ⟨congrArg (fun x => Ending.returned (Value.bool x)) Hd.out, (Below.refl _ _).alloc (Nat.le_refl _) _⟩
theorem ent_edropf : ∀ args w, (callFunc 25 args).run Try.prog w = .ok (.enter 25 args) w := enters_of Try.func25 (by kernel_rfl) rfl
/-- The first dictionary of n that isn't held, or none. -/
def IdxD (l : List Bm.Dic) (n : Nat) (r : Int) : Prop := (∃ (i : Nat) (hi : i < l.length), i < n ∧ r = (i : Int) ∧ l[i].h = 0 ∧ ∀ j (hj : j < l.length), j < i → l[j].h ≠ 0) ∨ (r = -1 ∧ ∀ j (hj : j < l.length), j < n → l[j].h ≠ 0)
set_option maxHeartbeats 1000000 in
set_option maxRecDepth 100000 in
theorem eindexf_any (b m n c : Nat) (l : List Bm.Dic) (w : World) (hn : n ≤ l.length) (h : SG w b m l) :
    Calls Try.prog 24 #[.slice (some ⟨b, 0, none⟩) n c, .func (.func 25) #[] #[]] w fun e w' => ∃ r : Int, e = .returned (.int .i64 r) ∧ IdxD l n r ∧ Below w.heap.size w w' := by
  have h8 := h.small.1
  have H := Lib.hid h
  clear h
  have ec := ent_edropf
  go_enter Try.func24, Try.ntmps24
  go_wp2
  go_loopw [5, 8] (fun _ i wr => ∃ k : Nat, k ≤ n ∧ i = .int .i64 (k : Int) ∧ Hid (∀ j (hj : j < l.length), j < k → l[j].h ≠ 0) ∧ Hid (Below w.heap.size w wr)) (fun _ i _ => n - (intOf i).toNat)
  case atStart => exact ⟨0, Nat.zero_le _, rfl, Lib.hid fun j _ hj => absurd hj (Nat.not_lt_zero _), Lib.hid (Below.refl _ _)⟩
  case round =>
    obtain ⟨k, hk, rfl, hall, hbel⟩ := hrel
    by_cases hkn : k < n
    · have hkl : k < l.length := by omega
      obtain ⟨c0, c1, c2⟩ := (H.out.below hbel.out).cd k hkl
      have hkI : (k : Int) < (n : Int) := by omega
      have Hc := Lib.hid (edropf_any l[k].e l[k].h l[k].t wr)
      by_cases h0 : l[k].h = 0
      · have Hix : Hid (IdxD l n (k : Int)) := Lib.hid (Or.inl ⟨k, hkl, hkn, rfl, h0, hall.out⟩)
        rw [decide_eq_true h0] at Hc
        clear h0 H hall
        generalize l[k] = d at *
        go_wp2_with fail
        refine Hc.out.mono ?_
        rintro e w2 ⟨rfl, hb2⟩
        go_wp2
        go_ret
        exact ⟨_, rfl, Hix.out, hbel.out.trans (hb2.mono hbel.out.size)⟩
      · have Hall : Hid (∀ j (hj : j < l.length), j < k + 1 → l[j].h ≠ 0) := Lib.hid fun j hj hjk => by
          by_cases e : j = k
          · subst e; exact h0
          · exact hall.out j hj (by omega)
        rw [decide_eq_false h0] at Hc
        clear h0 H hall
        generalize l[k] = d at *
        go_wp2_with fail
        refine Hc.out.mono ?_
        rintro e w2 ⟨rfl, hb2⟩
        have Hb2 := Lib.hid (hbel.out.trans (hb2.mono hbel.out.size))
        clear hb2 c0 c1 c2
        go_wp2
        go_roundw
        case rel => exact ⟨k + 1, by omega, by go_num, Hall, Hb2⟩
        case measure => simp [intOf]; omega
    · obtain rfl : k = n := by omega
      go_wp2
      go_ret
      exact ⟨_, rfl, Or.inr ⟨rfl, hall.out⟩, hbel.out⟩
end Go.Proofs.Ytdaobbhgmjdooaa
