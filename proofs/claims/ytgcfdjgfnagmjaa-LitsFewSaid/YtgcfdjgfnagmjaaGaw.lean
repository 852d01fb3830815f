/-
  The program's layer 15 (lits), by its walk: inCode. Conditions: as each theorem's premises say (up to ten thousand bytes).
  The program's layer 15 (lits), by its walk: Encode. Conditions: as the theorem's premises say (up to ten thousand bytes).
-/
import Derived.Test.YtgcfdjgfnagmjaaGao
import Derived.Test.YtgcfdjgfnagmjaaGaq
import Derived.Test.YtgcfdjgfnagmjaaGav
import Derived.Deep.RegionHeld3
namespace Go.Proofs.Ytgcfdjgfnagmjaa
open Go.RowKit
namespace Bm
theorem top_in : ∀ bs : List Nat, 0 < topB bs → ∃ b ∈ bs, topB bs = b + 1
  | [], h => by simp [topB] at h
  | b :: bs, _ => by
    by_cases h : topB bs ≤ b + 1
    · exact ⟨b, List.mem_cons_self, by rw [topB, Nat.max_eq_left h]⟩
    · obtain ⟨x, hx, e⟩ := top_in bs (by omega)
      exact ⟨x, List.mem_cons_of_mem _ hx, by rw [topB, Nat.max_eq_right (by omega), e]⟩
theorem counts_pos (s : List Nat) (b : Nat) (h : b ∈ s) : 0 < (countsOf s)[b]?.getD 0 := by
  unfold countsOf
  rw [List.getElem?_map, List.getElem?_range (topB_mem s b h)]
  exact List.count_pos_iff.2 h
theorem counts_len (s : List Nat) : (countsOf s).length = topB s := by simp [countsOf]
theorem counts_back (s : List Nat) : (countsI s).map Int.toNat = countsOf s := by
  unfold countsI
  rw [List.map_map]
  conv => rhs; rw [← List.map_id (countsOf s)]
  exact List.map_congr_left fun x _ => rfl
theorem good_short (s ls : List Nat) (h : GoodN (countsOf s) ls) (h0 : 0 < s.length) : shortL ls = ls := by
  have hl := h.len
  rw [counts_len] at hl
  obtain ⟨x, hx⟩ : ∃ x, x ∈ s := by
    cases s with
    | nil => simp at h0
    | cons x s => exact ⟨x, List.mem_cons_self⟩
  have := topB_mem s x hx
  obtain ⟨b, hb, e⟩ := top_in s (by omega)
  have hp := h.fit b (by rw [counts_len]; omega) (counts_pos s b hb)
  refine short_full ls ?_
  rw [show ls.length - 1 = b by omega]
  omega
theorem good_pos (s ls : List Nat) (h : GoodN (countsOf s) ls) : ∀ b ∈ s, 0 < ls[b]?.getD 0 := fun b hb => h.fit b (by rw [counts_len]; exact topB_mem s b hb) (counts_pos s b hb)
theorem codeLen_le15 (ls bs : List Nat) (h : ∀ x ∈ ls, x ≤ 11) : codeLen ls bs ≤ 11 * bs.length := by
  unfold codeLen
  induction bs with
  | nil => simp
  | cons b bs ih =>
    have h3 := get_le h b
    rw [List.map_cons, List.sum_cons, List.length_cons]
    omega
/-- Lengths of a text's counts, and the text in code by these. -/
def CodeP (s ls c : List Nat) : Prop := WholeN ls ∧ shortL ls = ls ∧ encT ls s = some c ∧ c.length ≤ 100000 ∧ ∀ x ∈ c, x < 256
theorem code_of (s ls : List Nat) (h : GoodN (countsOf s) ls) (h0 : 0 < s.length) (hs : s.length ≤ 10000) : ∃ c, CodeP s ls c := by
  obtain ⟨t, ht⟩ := encS_some ls s (good_pos s ls h)
  have htl := encS_length ls s t ht
  have hcl := codeLen_le15 ls s h.whole.2.1
  refine ⟨packS t, h.whole, good_short s ls h h0, by rw [encT, ht]; rfl, by rw [packS_length]; omega, packS_lt t⟩
end Bm

theorem hcodes_nat (A : Option Addr) (c : Nat) (ls : List Nat) (w : World) (hW : Bm.WholeN ls) (hr : Reads w A (i64s ls)) :
    Calls Try.prog 48 #[.slice A ls.length c] w fun e w' => ∃ g, e = .returned (.tuple #[.slice (some ⟨g, 0, none⟩) ls.length ls.length, .bool true]) ∧ Reads w' (some ⟨g, 0, none⟩) (i64s (Bm.codesN ls)) ∧ w.heap.size ≤ g ∧ Below w.heap.size w w' := by
  have hl := hW.1
  have h := hcodes_yes A c (ls.map fun n : Nat => (n : Int)) w (by rw [List.length_map]; omega) (by rw [i64z_nat]; exact hr) ((whole_nat ls).2 hW)
  rw [List.length_map, map_back] at h
  exact h
theorem ltab_nat (A : Option Addr) (c : Nat) (ls : List Nat) (w : World) (hW : Bm.WholeN ls) (hc : ls.length ≤ c) (hr : Reads w A (i64s ls)) :
    Calls Try.prog 25 #[.slice A ls.length c] w fun e w' => e = .returned (.tuple #[.string (strOf (Bm.tableL (Bm.shortL ls))), .bool true]) ∧ Below w.heap.size w w' := by
  have hl := hW.1
  have h := ltab_is w A c (ls.map fun n : Nat => (n : Int)) (by rw [List.length_map]; omega) (by rw [List.length_map]; exact hc) (fun x hx => by
    obtain ⟨n, hn, rfl⟩ := List.mem_map.1 hx
    have := hW.2.1 n hn
    constructor <;> omega) (by rw [i64z_nat]; exact hr)
  rw [List.length_map, map_back, if_pos ((whole_nat ls).2 hW)] at h
  exact h
theorem ulen_nat (A : Option Addr) (c : Nat) (s : List Nat) (w : World) (h0 : 0 < s.length) (hs : s.length ≤ 10000) (hlt : ∀ x ∈ s, x < 256) (hr : Reads w A (i64s (Bm.countsOf s))) :
    Calls Try.prog 24 #[.slice A (Bm.topB s) c] w fun e w' => ∃ B d ls, e = .returned (.tuple #[.slice B (Bm.topB s) d, .bool true]) ∧ Bm.topB s ≤ d ∧ ls.length = Bm.topB s ∧ Reads w' B (i64s ls) ∧ (∃ c, Bm.CodeP s ls c) ∧ Below w.heap.size w w' := by
  have ht := Bm.topB_le s hlt
  have h1 := ulen_is w A c (Bm.countsI s) (by rw [Bm.countsI_length]; omega) (fun x hx => by have := Bm.countsI_mem s x hx; constructor <;> omega) (by unfold Bm.countsI; rw [i64z_nat]; exact hr) (Bm.countsI_right s hlt (by omega) h0)
  rw [Bm.countsI_length, Bm.counts_back] at h1
  refine h1.mono ?_
  rintro e w' ⟨B, d, ls, rfl, hd, hrd, hg, hb⟩
  exact ⟨B, d, ls, rfl, hd, by rw [hg.len, Bm.counts_len], hrd, Bm.code_of s ls hg h0 hs, hb⟩

set_option maxHeartbeats 2000000 in
set_option maxRecDepth 100000 in
theorem lin_any (A : Option Addr) (c : Nat) (s : List Nat) (w : World) (h0 : 0 < s.length) (hs : s.length ≤ 10000) (hlt : ∀ x ∈ s, x < 256) (hr : Reads w A (i64s (Bm.countsOf s))) :
    Calls Try.prog 14 #[.string (strOf s), .slice A (Bm.topB s) c] w fun e w' => (∃ ls c, Bm.CodeP s ls c ∧ e = .returned (.tuple #[.string (strOf (Bm.codedL ls c s)), .bool true])) ∧ Below w.heap.size w w' := by
  have Hl := Lib.hid (ulen_nat A c s w h0 hs hlt hr)
  have hcv := fun W => conv_back W s hlt
  have Hcv := Lib.hid hcv
  have Hsec0 : ∀ W, Calls Try.prog 11 #[.int .u64 2, .string (strOf s)] W _ := fun W => lsec_any 2 s W (by decide) (by omega)
  have Hsec := Lib.hid Hsec0
  have Hlt := Lib.hid hlt
  have Hs := Lib.hid hs
  clear hr hlt hcv Hsec0 h0 hs
  go_enter Try.func14, Try.ntmps14
  go_wp2_with fail
  refine Hl.out.mono ?_
  rintro e w1 ⟨B, d, ls, rfl, hd, hll, hrd, ⟨cd, hcd⟩, hb1⟩
  have Hll := Lib.hid hll
  have htab := ltab_nat B d ls w1 hcd.1 (by omega) hrd
  rw [hcd.2.1, hll] at htab
  have Htab := Lib.hid htab
  have Hrd := Lib.hid hrd
  have Hcd := Lib.hid hcd
  have Hb1 := Lib.hid hb1
  clear hrd hcd hb1 htab hll Hl hd
  go_wp2_with fail
  refine Htab.out.mono ?_
  rintro e w2 ⟨rfl, hb2⟩
  obtain ⟨w3, cap, hconv, hcell, hb3⟩ := Hcv.out w2
  have hrs : Reads w3 (some ⟨w2.heap.size, 0, none⟩) (u8s s) := fun _ => ⟨_, _, rfl, fun j hj => by
    rw [u8s_length] at hj
    rw [Nat.zero_add, hcell j hj, u8s_get? s j hj]⟩
  have hrl := reads_on (reads_on Hrd.out hb2) hb3
  have henc := lenc_yes B (some ⟨w2.heap.size, 0, none⟩) d cap ls s w3 Hcd.out.1 Hs.out Hlt.out hrl hrs (hcodes_nat B d ls w3 Hcd.out.1 hrl)
  rw [Hcd.out.2.2.1, Hll.out] at henc
  unfold strV at henc
  dsimp only at henc
  have Henc := Lib.hid henc
  have Hb3 := Lib.hid (Hb1.out.trans ((hb2.trans (hb3.mono hb2.size)).mono Hb1.out.size))
  clear hb2 hb3 hrs hrl henc hcell Hb1 Htab Hrd Hcv Hll
  have hcl := Hcd.out.2.2.2.1
  have htl : (Bm.tableL ls).length ≤ 200 := by
    rw [Bm.tableL_length]
    have := Hcd.out.1.1
    omega
  have hten := Bm.grp_ten s.length (by have := Hs.out; omega)
  have Hraw := Lib.hid (fun W b h => wraw_any b (2 :: Bm.grp s.length) (Bm.tableL ls) W (by rw [List.length_cons]; omega) h)
  have Htext := Lib.hid (fun W b h => wtext_any b (2 :: Bm.grp s.length ++ Bm.tableL ls) cd W (by rw [List.length_append, List.length_cons]; omega) (by omega) h)
  have htc := Bm.grp_ten cd.length (by omega)
  have e0 : 2 :: Bm.grp s.length ++ Bm.tableL ls ++ (Bm.grp cd.length ++ cd) = Bm.codedL ls cd s := by
    unfold Bm.codedL
    simp only [List.cons_append, List.append_assoc]
  have hall : ∀ x ∈ Bm.codedL ls cd s, x < 256 := by
    have hls := Hcd.out.1
    refine Bm.sec_lt 2 _ _ (by decide) (by have := Hs.out; omega) (append_lt (Bm.tableL_lt ls hls.2.1 hls.1) (append_lt (Bm.grp_lt _ (by omega)) Hcd.out.2.2.2.2))
  have hlen : (Bm.codedL ls cd s).length ≤ 1000000 := by
    unfold Bm.codedL
    simp only [List.length_cons, List.length_append]
    omega
  rw [e0] at Htext
  have Hstr := Lib.hid (fun W b h => wstr_any b (Bm.codedL ls cd s) W (by omega) hall h)
  clear e0 hall hlen hcl htl hten htc Hs Hlt
  go_wp2_with fail
  refine Henc.out.mono ?_
  rintro e w4 ⟨rfl, hb4⟩
  have Hb4 := Lib.hid (Hb3.out.trans (hb4.mono Hb3.out.size))
  clear hb4 Hb3 Henc
  go_wp2_with fail
  refine (Hsec.out w4).mono ?_
  rintro e w5 ⟨rfl, hc5, hb5⟩
  have Hb5 := Lib.hid (Hb4.out.trans (hb5.mono Hb4.out.size))
  have Hle := Lib.hid Hb4.out.size
  have Hr5 := Lib.hid (Hraw.out w5 _ hc5)
  clear hc5 hb5 Hb4 Hraw Hsec
  generalize w4.heap.size = b at *
  go_wp2_with fail
  refine Hr5.out.mono ?_
  rintro e w6 ⟨rfl, hc6, hg6⟩
  have Hb6 := Lib.hid (Hb5.out.trans (below_grown hg6 Hle.out Hb5.out.size))
  have Ht6 := Lib.hid (Htext.out w6 _ hc6)
  clear hc6 hg6 Hb5 Hr5 Htext
  go_wp2_with fail
  refine Ht6.out.mono ?_
  rintro e w7 ⟨rfl, hc7, hg7⟩
  have Hb7 := Lib.hid (Hb6.out.trans (below_grown hg7 Hle.out Hb6.out.size))
  have Hs7 := Lib.hid (Hstr.out w7 _ hc7)
  clear hc7 hg7 Hb6 Ht6 Hstr
  go_wp2_with fail
  refine Hs7.out.mono ?_
  rintro e w8 ⟨rfl, hb8⟩
  have Hb8 := Lib.hid (Hb7.out.trans (hb8.mono Hb7.out.size))
  clear hb8 Hb7 Hs7
  go_wp2
  go_ret2
  exact ⟨⟨ls, cd, Hcd.out, rfl⟩, Hb8.out⟩
set_option maxHeartbeats 1000000 in
set_option maxRecDepth 100000 in
theorem lin_none (A : Option Addr) (c : Nat) (s : ByteArray) (w : World) :
    Calls Try.prog 14 #[.string s, .slice A 0 c] w fun e w' => e = .returned (.tuple #[.string (strOf []), .bool false]) ∧ Below w.heap.size w w' := by
  have h : Calls Try.prog 24 #[.slice A 0 c] w _ := ulen_no A c [] w (by unfold maxLen; simp) (fun h => absurd rfl h) (by rintro ⟨_, _, x, hx, _⟩; simp at hx)
  have H := Lib.hid h
  clear h
  go_enter Try.func14, Try.ntmps14
  go_wp2_with fail
  refine H.out.mono ?_
  rintro e w' ⟨rfl, rfl⟩
  go_wp2
  go_ret2
  exact ⟨rfl, Below.refl _ _⟩
end Go.Proofs.Ytgcfdjgfnagmjaa

namespace Go.Proofs.Ytgcfdjgfnagmjaa
open Go.RowKit

theorem nsyms_nat (A : Option Addr) (c : Nat) (s : List Nat) (w : World) (hlt : ∀ x ∈ s, x < 256) (hr : Reads w A (i64s (Bm.countsOf s))) :
    Calls Try.prog 10 #[.slice A (Bm.topB s) c] w fun e w' => e = .returned (.int .i64 (Bm.symN (Bm.countsI s) : Int)) ∧ Below w.heap.size w w' := by
  have ht := Bm.topB_le s hlt
  have h := nsymbols_is A c (Bm.countsI s) w (by rw [Bm.countsI_length]; omega) (by unfold Bm.countsI; rw [i64z_nat]; exact hr)
  rw [Bm.countsI_length] at h
  exact h
theorem lsec_ex (k : Nat) (s : List Nat) (w : World) (hk : k < 256) (hs : s.length ≤ 10000000) :
    Calls Try.prog 11 #[.int .u64 (k : Int), .string (strOf s)] w fun e w' => ∃ b, e = .returned (.pointer (some ⟨b, 0, none⟩)) ∧ CW w' b (k :: Bm.grp s.length) ∧ w.heap.size ≤ b ∧ Below w.heap.size w w' :=
  (lsec_any k s w hk hs).mono fun _ _ ⟨h1, h2, h3⟩ => ⟨_, h1, h2, Nat.le_refl _, h3⟩
set_option maxHeartbeats 2000000 in
set_option maxRecDepth 100000 in
theorem lsenc_alike (s : List Nat) (w : World) (hs : s.length ≤ 10000) (hlt : ∀ x ∈ s, x < 256) (h1 : Bm.symN (Bm.countsI s) = 1) :
    Calls Try.prog 5 #[.string (strOf s)] w fun e w' => e = .returned (.string (strOf (Bm.alikeL s))) ∧ Below w.heap.size w w' := by
  obtain ⟨x, hx, h0⟩ := Bm.one_alike s h1
  obtain ⟨w1, cap, hconv, hcell, hb1⟩ := conv_back w s hlt
  have hrs : Reads w1 (some ⟨w.heap.size, 0, none⟩) (u8s s) := fun _ => ⟨_, _, rfl, fun j hj => by
    rw [u8s_length] at hj
    rw [Nat.zero_add, hcell j hj, u8s_get? s j hj]⟩
  have Hof := Lib.hid (nof_is (some ⟨w.heap.size, 0, none⟩) cap s w1 (by omega) hlt hrs)
  have hsy := fun A c W h => nsyms_nat A c s W hlt h
  rw [h1] at hsy
  have Hsy := Lib.hid hsy
  have Hsec0 : ∀ W, Calls Try.prog 11 #[.int .u64 1, .string (strOf s)] W _ := fun W => lsec_ex 1 s W (by decide) (by omega)
  have Hsec := Lib.hid Hsec0
  have hten := Bm.grp_ten s.length (by omega)
  have ht1 : (s.take 1).length ≤ 1 := by rw [List.length_take]; omega
  have Hraw := Lib.hid (fun W b h => wraw_any b (1 :: Bm.grp s.length) (s.take 1) W (by rw [List.length_cons]; omega) h)
  have Hstr := Lib.hid (fun W b h => wstr_any b ((1 :: Bm.grp s.length) ++ s.take 1) W (by rw [List.length_append, List.length_cons]; omega) (Bm.sec_lt 1 s.length (s.take 1) (by decide) (by omega) (take_lt hlt 1)) h)
  have e0 : (1 :: Bm.grp s.length) ++ s.take 1 = Bm.alikeL s := rfl
  rw [e0] at Hraw Hstr
  have hcut : ∀ W : World, (Instr.slice 9 (.string (strOf s)) none (some (.int .i64 1)) none).run Try.prog W = .ok (.string (strOf (s.take 1))) W := fun W => str_to s 1 (by omega) W
  have hsz := strOf_size s
  have Hb1 := Lib.hid hb1
  clear hx hcell hrs hsy Hsec0 hten ht1 e0 h1 hlt hb1
  generalize Bm.alikeL s = E at *
  generalize strOf (s.take 1) = s1 at *
  generalize strOf s = str at *
  go_enter Try.func5, Try.ntmps5
  go_wp2_with fail
  refine Hof.out.mono ?_
  rintro e w2 ⟨A, c, rfl, hr2, hb2⟩
  have Hb2 := Lib.hid (Hb1.out.trans (hb2.mono Hb1.out.size))
  have Hs2 := Lib.hid (Hsy.out A c w2 hr2)
  clear hr2 hb2 Hb1 Hof Hsy hconv
  go_wp2_with fail
  refine Hs2.out.mono ?_
  rintro e w3 ⟨rfl, hb3⟩
  have Hb3 := Lib.hid (Hb2.out.trans (hb3.mono Hb2.out.size))
  clear hb3 Hb2 Hs2
  go_upto_region 3 with fail
  refine wp_region_held_drew (S := (fun _ : World => True)) (by kernel_rfl) (by trivial) (fun hHeld => ?_)
  refine wpAnyH_take (i := 0) (oi := { dst := some 13, op := Go.Op.move (Go.Operand.tmp 0), type := 9, pos := "lits.go:30", after := #[], guard := none }) (v := ?_) rfl (by kernel_rfl) (by kernel_rfl) (by kernel_rfl) (fun _ _ _ h => h) (Or.inl ⟨by rfl, ?_⟩) (by assumption) ?_
  rotate_left
  · (intro w hSw; (try dsimp only at hSw); go_simp; (try with_reducible rfl))
  try simp only [Act.put, List.setIfInBounds_toArray, List.set_cons_zero, List.set_cons_succ]
  refine wpAnyH_take (i := 2) (oi := { dst := some 15, op := Go.Op.move (Go.Operand.tmp 0), type := 9, pos := "lits.go:30", after := #[], guard := none }) (v := ?_) rfl (by kernel_rfl) (by kernel_rfl) (by kernel_rfl) (fun _ _ _ h => h) (Or.inl ⟨by rfl, ?_⟩) (by assumption) ?_
  rotate_left
  · (intro w hSw; (try dsimp only at hSw); go_simp; (try with_reducible rfl))
  try simp only [Act.put, List.setIfInBounds_toArray, List.set_cons_zero, List.set_cons_succ]
  refine wpAnyH_take (i := 3) (oi := { dst := some 16, op := Go.Op.slice 9 (Go.Operand.tmp 15) none (some (Go.Operand.const (Go.Value.int Go.IntKind.i64 1))) none, type := 9, pos := "lits.go:30", after := #[{ on := 2, ground := Go.Ground.data }], guard := none }) (v := ?_) rfl (by kernel_rfl) (by kernel_rfl) (by kernel_rfl) (fun _ _ _ h => h) (Or.inl ⟨by rfl, ?_⟩) (by assumption) ?_
  rotate_left
  · (intro w hSw; (try dsimp only at hSw); go_simp; (try with_reducible rfl))
  try simp only [Act.put, List.setIfInBounds_toArray, List.set_cons_zero, List.set_cons_succ]
  refine wpAnyH_ready (rs := [1]) (by kernel_rfl) (by simp) ?_
  refine AllReadyH.cons (o := { dst := some 14, op := Go.Op.call { callee := Go.Callee.value (Go.Operand.func 11), args := #[Go.Operand.const (Go.Value.int Go.IntKind.u64 1), Go.Operand.tmp 13], argTypes := #[36, 9] }, type := 34, pos := "lits.go:30", after := #[{ on := 0, ground := Go.Ground.data }], guard := none }) rfl (fun K hK => ?_) AllReadyH.nil
  go_simp
  (go_at_call 11; refine (Hsec.out _).mono ?_; rintro e w4 ⟨b, rfl, hc4, hbb, hb4⟩; have HX := Lib.hid (Hb3.out.drew.trans (hb4.mono Hb3.out.size)); have HB := Lib.hid (Nat.le_trans Hb3.out.drew.size hbb); have HC := Lib.hid hc4; clear hc4 hb4 hbb)
  go_simp
  refine hK.out _ _ (by trivial) (fun hHeld => ?_)
  clear hK K
  try simp only [Act.put, List.setIfInBounds_toArray, List.set_cons_zero, List.set_cons_succ]
  refine wpAnyH_ready (rs := [4]) (by kernel_rfl) (by simp) ?_
  refine AllReadyH.cons (o := { dst := some 17, op := Go.Op.call { callee := Go.Callee.value (Go.Operand.func 12), args := #[Go.Operand.tmp 14, Go.Operand.tmp 16], argTypes := #[34, 9] }, type := 34, pos := "lits.go:30", after := #[{ on := 1, ground := Go.Ground.data }, { on := 3, ground := Go.Ground.data }, { on := 1, ground := Go.Ground.chain }], guard := none }) rfl (fun K hK => ?_) AllReadyH.nil
  go_simp
  (go_at_call 12; refine (Hraw.out _ _ HC.out).mono ?_; rintro e w5 ⟨rfl, hc5, hg5⟩; have HY := Lib.hid (HX.out.trans (below_grown hg5 HB.out HX.out.size)); have HD := Lib.hid hc5; clear hc5 hg5)
  go_simp
  refine hK.out _ _ (by trivial) (fun hHeld => ?_)
  clear hK K
  try simp only [Act.put, List.setIfInBounds_toArray, List.set_cons_zero, List.set_cons_succ]
  refine wpAnyH_ready (rs := [5]) (by kernel_rfl) (by simp) ?_
  refine AllReadyH.cons (o := { dst := some 18, op := Go.Op.call { callee := Go.Callee.value (Go.Operand.func 13), args := #[Go.Operand.tmp 17], argTypes := #[34] }, type := 9, pos := "lits.go:30", after := #[{ on := 4, ground := Go.Ground.data }, { on := 4, ground := Go.Ground.chain }], guard := none }) rfl (fun K hK => ?_) AllReadyH.nil
  go_simp
  (go_at_call 13; refine (Hstr.out _ _ HD.out).mono ?_; rintro e w6 ⟨rfl, hb6⟩; have HZ := Lib.hid (HY.out.trans (hb6.mono HY.out.size)); clear hb6)
  go_simp
  refine hK.out _ _ (by trivial) (fun hHeld => ?_)
  clear hK K
  try simp only [Act.put, List.setIfInBounds_toArray, List.set_cons_zero, List.set_cons_succ]
  refine wpAnyH_take (i := 6) (oi := { dst := some 2, op := Go.Op.assign (Go.Operand.tmp 18), type := 9, pos := "lits.go:30", after := #[{ on := 5, ground := Go.Ground.data }, { on := 5, ground := Go.Ground.chain }, { on := 0, ground := Go.Ground.phase }, { on := 1, ground := Go.Ground.phase }, { on := 2, ground := Go.Ground.phase }, { on := 3, ground := Go.Ground.phase }, { on := 4, ground := Go.Ground.phase }, { on := 5, ground := Go.Ground.phase }], guard := none }) (v := ?_) rfl (by kernel_rfl) (by kernel_rfl) (by kernel_rfl) (fun _ _ _ h => h) (Or.inl ⟨by rfl, ?_⟩) (by assumption) ?_
  rotate_left
  · (intro w hSw; (try dsimp only at hSw); go_simp; (try with_reducible rfl))
  try simp only [Act.put, List.setIfInBounds_toArray, List.set_cons_zero, List.set_cons_succ]
  refine wpAnyH_done (by kernel_rfl) ?_ _
  go_wp2
  go_ret
  exact ⟨rfl, HZ.out⟩
set_option maxHeartbeats 2000000 in
set_option maxRecDepth 100000 in
theorem lsenc_other (s : List Nat) (w : World) (hs : s.length ≤ 10000) (hlt : ∀ x ∈ s, x < 256) (h1 : Bm.symN (Bm.countsI s) ≠ 1) :
    Calls Try.prog 5 #[.string (strOf s)] w fun e w' => (∃ E, Bm.SecP s E ∧ e = .returned (.string (strOf E))) ∧ Below w.heap.size w w' := by
  obtain ⟨w1, cap, hconv, hcell, hb1⟩ := conv_back w s hlt
  have hrs : Reads w1 (some ⟨w.heap.size, 0, none⟩) (u8s s) := fun _ => ⟨_, _, rfl, fun j hj => by
    rw [u8s_length] at hj
    rw [Nat.zero_add, hcell j hj, u8s_get? s j hj]⟩
  have Hof := Lib.hid (nof_is (some ⟨w.heap.size, 0, none⟩) cap s w1 (by omega) hlt hrs)
  obtain ⟨m, hm⟩ : ∃ m, m = Bm.symN (Bm.countsI s) := ⟨_, rfl⟩
  have hsy := fun A c W h => nsyms_nat A c s W hlt h
  rw [← hm] at h1 hsy
  have Hsy := Lib.hid hsy
  have dm : ((m : Int) == 1) = false := by rw [beq_eq_false_iff_ne]; omega
  have Hraw := Lib.hid (fun W => lraw_any s W (by omega) hlt)
  have HpR := Lib.hid (Bm.sec_raw s hlt (by omega))
  have Hb1 := Lib.hid hb1
  have hin : (s = [] ∧ Bm.topB s = 0) ∨ 0 < s.length := by
    cases s with
    | nil => exact .inl ⟨rfl, rfl⟩
    | cons x s => exact .inr (by simp)
  have Hin := Lib.hid (fun A c W h0 h => lin_any A c s W h0 hs hlt h)
  have Hno := Lib.hid (fun A c W => lin_none A c (strOf s) W)
  have Hs := Lib.hid hs
  clear hcell hrs hsy hb1 hlt hm hs
  go_enter Try.func5, Try.ntmps5
  go_wp2_with fail
  refine Hof.out.mono ?_
  rintro e w2 ⟨A, c, rfl, hr2, hb2⟩
  have Hb2 := Lib.hid (Hb1.out.trans (hb2.mono Hb1.out.size))
  have Hs2 := Lib.hid (Hsy.out A c w2 hr2)
  have Hr2 := Lib.hid hr2
  clear hr2 hb2 Hb1 Hof Hsy hconv
  go_wp2_with fail
  refine Hs2.out.mono ?_
  rintro e w3 ⟨rfl, hb3⟩
  have Hb3 := Lib.hid (Hb2.out.trans (hb3.mono Hb2.out.size))
  have Hr3 := Lib.hid (reads_on Hr2.out hb3)
  clear hb3 Hb2 Hs2 Hr2 h1
  go_wp2_with fail
  refine (Hraw.out w3).mono ?_
  rintro e w4 ⟨rfl, hb4⟩
  have Hb4 := Lib.hid (Hb3.out.trans (hb4.mono Hb3.out.size))
  have Hr4 := Lib.hid (reads_on Hr3.out hb4)
  clear hb4 Hb3 Hraw Hr3
  have hsR := strOf_size (Bm.rawL s)
  have Hend : Hid (∃ E', Bm.SecP s E' ∧ strOf (Bm.rawL s) = strOf E') := Lib.hid ⟨Bm.rawL s, HpR.out, rfl⟩
  clear HpR
  generalize hlR : (Bm.rawL s).length = lR at hsR
  have HlR := Lib.hid hlR
  clear hlR
  generalize strOf (Bm.rawL s) = sR at *
  rcases hin with ⟨_, ht⟩ | h0
  · rw [ht]
    have Hn4 := Lib.hid (Hno.out A c w4)
    clear Hin Hno Hr4 ht Hs HlR
    generalize strOf s = str at *
    have es : (strOf []).size = 0 := strOf_size []
    generalize strOf [] = sN at *
    go_wp2_with fail
    refine Hn4.out.mono ?_
    rintro e w5 ⟨rfl, hb5⟩
    have Hb5 := Lib.hid (Hb4.out.trans (hb5.mono Hb4.out.size))
    clear hb5 Hb4 Hn4
    obtain ⟨E', h1, h2⟩ := Hend.out
    have H1 := Lib.hid h1
    have H2 := Lib.hid h2
    clear h1 h2 Hend
    go_wp2
    go_ret
    exact ⟨⟨E', H1.out, congrArg (fun x => Ending.returned (Value.string x)) H2.out⟩, Hb5.out⟩
  · have Hi4 := Lib.hid (Hin.out A c w4 h0 Hr4.out)
    clear Hin Hno Hr4
    go_wp2_with fail
    refine Hi4.out.mono ?_
    rintro e w5 ⟨⟨ls, cd, hcd, rfl⟩, hb5⟩
    have Hb5 := Lib.hid (Hb4.out.trans (hb5.mono Hb4.out.size))
    have Hcd := Lib.hid hcd
    have hsE := strOf_size (Bm.codedL ls cd s)
    clear hb5 Hb4 Hi4 hcd
    by_cases hl : (Bm.codedL ls cd s).length < lR
    · have HpE := Lib.hid (Bm.sec_coded ls cd s (by have := Hs.out; omega) Hcd.out.1 Hcd.out.2.1 Hcd.out.2.2.1 (by have := Hcd.out.2.2.2.1; omega) Hcd.out.2.2.2.2 (by rw [HlR.out]; exact hl))
      have d1 : decide (((Bm.codedL ls cd s).length : Int) < (lR : Int)) = true := decide_eq_true (by omega)
      have d2 : decide ((Bm.codedL ls cd s).length < lR) = true := decide_eq_true hl
      clear hl Hcd Hs HlR Hend
      generalize Bm.codedL ls cd s = E at *
      have H2 := Lib.hid (rfl : strOf E = strOf E)
      generalize hE : strOf E = sE at hsE H2 ⊢
      have H3 := Lib.hid hE.symm
      clear hE H2
      generalize E.length = lE at *
      go_wp2
      go_ret
      exact ⟨⟨E, HpE.out, congrArg (fun x => Ending.returned (Value.string x)) H3.out⟩, Hb5.out⟩
    · have d1 : decide (((Bm.codedL ls cd s).length : Int) < (lR : Int)) = false := decide_eq_false (by omega)
      have d2 : decide ((Bm.codedL ls cd s).length < lR) = false := decide_eq_false hl
      clear hl Hcd Hs HlR
      generalize strOf (Bm.codedL ls cd s) = sE at *
      generalize (Bm.codedL ls cd s).length = lE at *
      obtain ⟨E', h1, h2⟩ := Hend.out
      have H1 := Lib.hid h1
      have H2 := Lib.hid h2
      clear h1 h2 Hend
      go_wp2
      go_ret
      exact ⟨⟨E', H1.out, congrArg (fun x => Ending.returned (Value.string x)) H2.out⟩, Hb5.out⟩
/-- What Encode answers: a section, of kind 1 where one symbol comes. -/
theorem lsenc_any (s : List Nat) (w : World) (hs : s.length ≤ 10000) (hlt : ∀ x ∈ s, x < 256) :
    Calls Try.prog 5 #[.string (strOf s)] w fun e w' => (∃ E, Bm.SecP s E ∧ e = .returned (.string (strOf E))) ∧ Below w.heap.size w w' := by
  by_cases h1 : Bm.symN (Bm.countsI s) = 1
  · exact (lsenc_alike s w hs hlt h1).mono fun e w' ⟨he, hb⟩ => ⟨⟨_, Bm.sec_alike s hlt (by omega) h1, he⟩, hb⟩
  · exact lsenc_other s w hs hlt h1
end Go.Proofs.Ytgcfdjgfnagmjaa
