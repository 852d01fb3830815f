/-
  CountBytes (layer 5): the law's function by its walk: true for any bytes. Premises: what Of, Symbols, Log, Share answer.
-/
import Derived.Test.YtlfcgdgafkkdfaaNk
import Derived.Test.YtlfcgdgafkkdfaaNs
namespace Go.Proofs.Ytlfcgdgafkkdfaa
open Go.RowKit
namespace Bm
/-- Counts of bytes, as ints. -/
def countsI (bs : List Nat) : List Int := (countsOf bs).map fun n : Nat => (n : Int)
theorem countsI_length (bs : List Nat) : (countsI bs).length = topB bs := by simp [countsI, countsOf]
theorem countsI_mem (bs : List Nat) (x : Int) (h : x ∈ countsI bs) : 0 ≤ x ∧ x ≤ bs.length := by
  unfold countsI countsOf at h
  rw [List.map_map, List.mem_map] at h
  obtain ⟨s, _, rfl⟩ := h
  have := List.count_le_length (a := s) (l := bs)
  exact ⟨Int.natCast_nonneg _, by simp only [Function.comp_apply]; omega⟩
theorem countsI_right (bs : List Nat) (hlt : ∀ x ∈ bs, x < 256) (hl : bs.length ≤ 1048576) (h0 : 0 < bs.length) : Right (countsI bs) := by
  refine ⟨by rw [countsI_length]; exact topB_le bs hlt, fun x hx => by have := countsI_mem bs x hx; omega, ?_⟩
  obtain ⟨b, hb⟩ : ∃ b, b ∈ bs := by
    cases bs with
    | nil => simp at h0
    | cons b bs => exact ⟨b, List.mem_cons_self⟩
  refine ⟨((bs.count b : Nat) : Int), ?_, ?_⟩
  · unfold countsI countsOf
    rw [List.map_map, List.mem_map]
    exact ⟨b, List.mem_range.2 (topB_mem bs b hb), rfl⟩
  · have := List.count_pos_iff.2 hb
    omega
theorem countsI_share (bs : List Nat) (hlt : ∀ x ∈ bs, x < 256) (hl : bs.length ≤ 1048576) : ShareOk (countsI bs) (logA (countsI bs) : Int) ↔ 0 < bs.length := by
  constructor
  · rintro ⟨⟨_, _, x, hx, h0⟩, _⟩
    have := countsI_mem bs x hx
    omega
  · intro h0
    have hr := countsI_right bs hlt hl h0
    have hs := symN_le (countsI bs)
    rw [countsI_length] at hs
    have ht := topB_le bs hlt
    have h1 := logM_ok (symN (countsI bs)) ((countsI bs).sum.toNat / 8) (by omega)
    unfold logA
    rw [if_pos hr]
    exact ⟨hr, by omega, by omega, by rw [Int.toNat_natCast]; exact h1.2.2⟩
end Bm

set_option maxHeartbeats 400000 in
theorem cbytes_long (hsh : CShare) (hsy : CSymbols) (A : Option Addr) (n c : Nat) (w : World) (h : 400 < n) (hm : n ≤ 9223372036854775807) : Calls Try.prog 3 #[.slice A n c] w fun e w' => e = .returned (.bool true) ∧ Below w.heap.size w w' := by
  have Haw := Lib.hid (nawake_of hsh hsy)
  clear hsh hsy
  go_enter Try.func3, Try.ntmps3
  go_wp2_with fail
  refine (Haw.out w).mono ?_
  rintro e w1 ⟨rfl, hb1⟩
  have Hb1 := Lib.hid hb1
  clear hb1
  go_wp2
  go_ret
  exact ⟨rfl, Hb1.out⟩

set_option maxHeartbeats 1000000 in
theorem cbytes_short (hof : COf) (hsy : CSymbols) (hlg : CLog) (hsh : CShare) (A : Option Addr) (c : Nat) (bs : List Nat) (w : World) (h : bs.length ≤ 400) (hlt : ∀ x ∈ bs, x < 256) (hr : Reads w A (u8s bs)) :
    Calls Try.prog 3 #[.slice A bs.length c] w fun e w' => e = .returned (.bool true) ∧ Below w.heap.size w w' := by
  have Haw := Lib.hid (nawake_of hsh hsy)
  obtain ⟨l, hl⟩ : ∃ l, l = Bm.countsI bs := ⟨_, rfl⟩
  have hll : l.length = Bm.topB bs := by rw [hl]; exact Bm.countsI_length bs
  have hT := Bm.topB_le bs hlt
  have hli : i64s (Bm.countsOf bs) = i64z l := by rw [hl]; unfold Bm.countsI; rw [i64z_nat]
  have hok : ∀ x ∈ l, Bm.IntOk x := fun x hx => by
    rw [hl] at hx
    have := Bm.countsI_mem bs x hx
    unfold Bm.IntOk; omega
  have hlog : Bm.IntOk (Bm.logA l : Int) := by
    unfold Bm.IntOk Bm.logA
    split
    · have h1 := Bm.logM_ok (Bm.symN l) (l.sum.toNat / 8) (by have := Bm.symN_le l; omega)
      omega
    · omega
  have hiff := Bm.countsI_share bs hlt (by omega)
  rw [← hl] at hiff
  have Hof : Hid (∀ W, Below w.heap.size w W → Calls Try.prog 6 #[.slice A bs.length c] W fun e w' => ∃ A' c', e = .returned (.slice A' l.length c') ∧ Reads w' A' (i64z l) ∧ Below W.heap.size W w') := Lib.hid (fun W hb => by
    have h1 := hof A c bs W (by omega) hlt (reads_on hr hb)
    rw [hli, ← hll] at h1
    exact h1)
  have Hho : Hid (∀ W, Below w.heap.size w W → Calls Try.prog 8 #[.slice A bs.length c] W fun e w' => ∃ g, e = .returned (.slice (some ⟨g, 0, none⟩) l.length l.length) ∧ Reads w' (some ⟨g, 0, none⟩) (i64z l) ∧ Below W.heap.size W w') := Lib.hid (fun W hb => by
    have h1 := hof_any A c bs W (by omega) hlt (reads_on hr hb)
    rw [hli, ← hll] at h1
    exact h1.mono fun e w' ⟨g, he, _, hrow, hb⟩ => ⟨g, he, row_reads hrow, hb⟩)
  have Hsame : Hid (∀ A B c d W, Reads W A (i64z l) → Reads W B (i64z l) → Calls Try.prog 7 #[.slice A l.length c, .slice B l.length d] W fun e w' => e = .returned (.bool true) ∧ Below W.heap.size W w') := Lib.hid (fun A B c d W h1 h2 => by
    have h3 := nsame_any A B c d l l W (by omega) (by omega) h1 h2
    rw [decide_eq_true rfl] at h3
    exact h3)
  have Hsy : Hid (∀ A c W, Reads W A (i64z l) → Calls Try.prog 9 #[.slice A l.length c] W fun e w' => e = .returned (.int .i64 (Bm.symN l : Int)) ∧ Below W.heap.size W w') := Lib.hid (fun A c W h1 => hsy A c l W (by omega) h1)
  have Hhs : Hid (∀ A c W, Reads W A (i64z l) → Calls Try.prog 10 #[.slice A l.length c] W fun e w' => e = .returned (.int .i64 (Bm.symN l : Int)) ∧ W = w') := Lib.hid (fun A c W h1 => hsymbols_any A c l W (by omega) h1)
  have Hlg : Hid (∀ A c W, Reads W A (i64z l) → Calls Try.prog 12 #[.slice A l.length c] W fun e w' => e = .returned (.int .i64 (Bm.logA l : Int)) ∧ Below W.heap.size W w') := Lib.hid (fun A c W h1 => hlg A c l W (by omega) hok h1)
  have Hsh : Hid (∀ A c W, Reads W A (i64z l) → Calls Try.prog 11 #[.slice A l.length c, .int .i64 (Bm.logA l : Int)] W fun e w' => ∃ v, e = .returned (.tuple #[v, .bool (decide (0 < bs.length))]) ∧ Below W.heap.size W w') := Lib.hid (fun A c W h1 => by
    have h2 := hsh A c l _ W (by omega) hok hlog h1
    rw [show decide (Bm.ShareOk l (Bm.logA l : Int)) = decide (0 < bs.length) from decide_eq_decide.2 hiff] at h2
    exact h2.mono fun e w' ⟨A', c', he, _, hb⟩ => ⟨_, he, hb⟩)
  have hll2 : l.length ≤ 256 := by omega
  clear hof hsy hlg hsh hr hlt hli hok hlog hiff hll hl hT
  generalize Bm.symN l = sy at Hsy Hhs
  generalize Bm.logA l = lg at Hlg Hsh
  obtain ⟨ok, hok⟩ : ∃ ok, ok = decide (0 < bs.length) := ⟨_, rfl⟩
  rw [← hok] at Hsh
  have Hok : Hid ((ok == decide (0 < bs.length)) = true) := Lib.hid (by rw [hok]; simp)
  clear hok
  generalize bs.length = n at h Hof Hho Hok ⊢
  generalize l.length = m at Hof Hho Hsame Hsy Hhs Hlg Hsh hll2
  go_enter Try.func3, Try.ntmps3
  go_wp2_with fail
  refine (Haw.out w).mono ?_
  rintro e w1 ⟨rfl, hb1⟩
  have Hb1 := Lib.hid hb1
  clear hb1
  go_wp2_with fail
  refine (Hof.out w1 Hb1.out).mono ?_
  rintro e w2 ⟨A2, c2, rfl, hr2, hb2⟩
  have Hb2 := Lib.hid (Hb1.out.trans (hb2.mono Hb1.out.size))
  have Hr2 := Lib.hid hr2
  clear hb2 hr2 Hb1
  go_wp2_with fail
  refine (Hho.out w2 Hb2.out).mono ?_
  rintro e w3 ⟨g3, rfl, hr3, hb3⟩
  have Hb3 := Lib.hid (Hb2.out.trans (hb3.mono Hb2.out.size))
  have Hr23 := Lib.hid (reads_on Hr2.out hb3)
  have Hr3 := Lib.hid hr3
  clear hb3 hr3 Hb2 Hr2
  go_wp2_with fail
  refine (Hsame.out _ _ _ _ w3 Hr23.out Hr3.out).mono ?_
  rintro e w4 ⟨rfl, hb4⟩
  have Hb4 := Lib.hid (Hb3.out.trans (hb4.mono Hb3.out.size))
  have Hr4 := Lib.hid (reads_on Hr23.out hb4)
  clear hb4 Hb3 Hr23 Hr3
  go_wp2_with fail
  refine (Hsy.out _ _ w4 Hr4.out).mono ?_
  rintro e w5 ⟨rfl, hb5⟩
  have Hb5 := Lib.hid (Hb4.out.trans (hb5.mono Hb4.out.size))
  have Hr5 := Lib.hid (reads_on Hr4.out hb5)
  clear hb5 Hb4 Hr4
  go_wp2_with fail
  refine (Hhs.out _ _ w5 Hr5.out).mono ?_
  rintro e w' ⟨rfl, rfl⟩
  go_wp2_with fail
  refine (Hlg.out _ _ w5 Hr5.out).mono ?_
  rintro e w6 ⟨rfl, hb6⟩
  have Hb6 := Lib.hid (Hb5.out.trans (hb6.mono Hb5.out.size))
  have Hr6 := Lib.hid (reads_on Hr5.out hb6)
  clear hb6 Hb5 Hr5
  go_wp2_with fail
  refine (Hsh.out _ _ w6 Hr6.out).mono ?_
  rintro e w7 ⟨v, rfl, hb7⟩
  have Hb7 := Lib.hid (Hb6.out.trans (hb7.mono Hb6.out.size))
  clear hb7 Hb6 Hr6
  go_wp2
  go_ret
  exact ⟨congrArg (fun x => Ending.returned (Value.bool x)) Hok.out, Hb7.out⟩
end Go.Proofs.Ytlfcgdgafkkdfaa
