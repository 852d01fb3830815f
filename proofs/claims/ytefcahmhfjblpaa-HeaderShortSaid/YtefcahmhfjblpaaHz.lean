/-
  HeaderShort (layer 8): the law's function by its walk: true for any numbers, any log, any byte. Premises: what the calls of layer 8 answer.
-/
import Derived.Test.YtefcahmhfjblpaaHk
import Derived.Test.YtefcahmhfjblpaaAm
import Derived.Test.YtefcahmhfjblpaaFa
import Derived.Test.YtefcahmhfjblpaaSt
import Derived.Test.YtefcahmhfjblpaaRg
namespace Go.Proofs.Ytefcahmhfjblpaa
open Go.RowKit

set_option maxHeartbeats 400000 in
set_option maxRecDepth 100000 in
theorem hshort_long (hH : HdrOk) (A : Option Addr) (n c : Nat) (log : Int) (a : Nat) (w : World) (h : 200 < n) (hn : n ≤ 9223372036854775807) :
    Calls Try.prog 5 #[.slice A n c, .int .i64 log, .int .u8 (a : Int)] w fun e w' => e = .returned (.bool true) ∧ Below w.heap.size w w' := by
  have Haw := Lib.hid (hawake_of hH)
  clear hH
  go_enter Try.func5, Try.ntmps5
  go_wp2_with fail
  refine (Haw.out w).mono ?_
  rintro e w1 ⟨rfl, hb1⟩
  have Hb1 := Lib.hid hb1
  clear hb1
  go_wp2
  go_ret
  exact ⟨rfl, Hb1.out⟩
set_option maxHeartbeats 400000 in
set_option maxRecDepth 100000 in
theorem hshort_unfair (hH : HdrOk) (A : Option Addr) (c : Nat) (l : List Int) (log : Int) (a : Nat) (w : World) (h : l.length ≤ 200) (hr : Reads w A (i64z l)) (hf : ¬ Bm.Fair l log) :
    Calls Try.prog 5 #[.slice A l.length c, .int .i64 log, .int .u8 (a : Int)] w fun e w' => e = .returned (.bool true) ∧ Below w.heap.size w w' := by
  have Haw := Lib.hid (hawake_of hH)
  have hfb : Bm.fairB l log = false := decide_eq_false hf
  have H2 : Hid (∀ W, Below w.heap.size w W → Calls Try.prog 9 #[.slice A l.length c, .int .i64 log] W fun e w' => e = .returned (.bool false) ∧ W = w') := Lib.hid (fun W hb => by
    have h1 := hfair_any A c l log W (by omega) (reads_on hr hb)
    rw [hfb] at h1
    exact h1)
  clear hH hr hf hfb
  generalize l.length = n at *
  go_enter Try.func5, Try.ntmps5
  go_wp2_with fail
  refine (Haw.out w).mono ?_
  rintro e w1 ⟨rfl, hb1⟩
  have Hb1 := Lib.hid hb1
  clear hb1
  go_wp2_with fail
  refine (H2.out w1 Hb1.out).mono ?_
  rintro e w' ⟨rfl, rfl⟩
  go_wp2
  go_ret
  exact ⟨rfl, Hb1.out⟩

theorem WS.notT {w : World} {b off N n : Nat} (h : WS w b off N n) : NotT w b 55 := by
  obtain ⟨p, rest, us, h0, h1, h2, f0, f1, f2, hn, hc, hw⟩ := h
  exact hn
theorem hshort_hdr (ls : List Nat) (lg m : Nat) (h : Bm.FairN ls lg) : Bm.hdrA (ls ++ List.replicate m 0) lg = Bm.hdrA ls lg := by
  unfold Bm.hdrA
  rw [Bm.hdr_more ls (2 ^ lg) m h.sum]

set_option maxHeartbeats 4000000 in
set_option maxRecDepth 100000 in
theorem hshort_fair (hH : HdrOk) (A : Option Addr) (c : Nat) (l : List Int) (log : Int) (a : Nat) (w : World) (h : l.length ≤ 200) (ha : a < 256) (hok : ∀ x ∈ l, Bm.IntOk x) (hlog : Bm.IntOk log) (hr : Reads w A (i64z l)) (hf : Bm.Fair l log) :
    Calls Try.prog 5 #[.slice A l.length c, .int .i64 log, .int .u8 (a : Int)] w fun e w' => e = .returned (.bool true) ∧ Below w.heap.size w w' := by
  obtain ⟨i0, hi, hz0, hz1, hz2⟩ := info_parts info_io
  have Haw := Lib.hid (hawake_of hH)
  have hfn := Bm.fair_n l log hf
  have hmap := Bm.fair_map l log hf
  have hls : i64s (l.map Int.toNat) = i64z l := by rw [← i64z_nat, hmap]
  have hlen : (l.map Int.toNat).length = l.length := by simp
  have hl9 : (log.toNat : Int) = log := by have := hf.1; omega
  have hfb : Bm.fairB l log = true := decide_eq_true hf
  have H2 : Hid (∀ W, Below w.heap.size w W → Calls Try.prog 9 #[.slice A l.length c, .int .i64 log] W fun e w' => e = .returned (.bool true) ∧ W = w') := Lib.hid (fun W hb => by
    have h1 := hfair_any A c l log W (by omega) (reads_on hr hb)
    rw [hfb] at h1
    exact h1)
  have H3 : Hid (∀ W b, WS W b 0 0 0 → Below w.heap.size w W → w.heap.size ≤ b → Calls Try.prog 8 #[.pointer (some ⟨b, 0, none⟩), .slice A l.length c, .int .i64 log] W fun e w' => e = .returned (.bool true) ∧ WS w' b 0 (Bm.hdrA (l.map Int.toNat) log.toNat).1 (Bm.hdrA (l.map Int.toNat) log.toNat).2 ∧ W.grownBy w' (some b)) := Lib.hid (fun W b hws hb hwb => (hH.put W b 0 0 0 A c l log (by omega) hws (by omega) hok hlog (reads_on hr hb) (fun a e h0 => by have := reads_lt hr a e h0; omega) hf).mono fun e w' ⟨he, hw', hg⟩ => ⟨he, by simpa using hw', hg⟩)
  have H7 : Hid (∀ W, Below w.heap.size w W → Calls Try.prog 8 #[.pointer none, .slice A l.length c, .int .i64 log] W fun e w' => e = .returned (.bool false) ∧ Below W.heap.size W w') := Lib.hid (fun W hb => hH.putNil W A c l log (by omega) hok hlog (reads_on hr hb))
  have hne : 0 < l.length := by
    rcases Nat.eq_zero_or_pos l.length with h0 | h0
    · have hP : 0 < 2 ^ log.toNat := Nat.two_pow_pos _
      have h1 := hfn.sum
      rw [List.eq_nil_of_length_eq_zero h0] at h1
      simp at h1
      omega
    · exact h0
  generalize hlsn : l.map Int.toNat = ls at *
  generalize hlgn : log.toNat = lg at *
  clear hlsn hlgn hfb hf hmap hok
  subst hl9
  obtain ⟨m, hm⟩ : ∃ m, m = a % 50 := ⟨_, rfl⟩
  have hm50 : m < 50 := by omega
  have hmi : (a : Int) % 50 = (m : Int) := by omega
  have hhd := hshort_hdr ls lg m hfn
  have hfn2 : Bm.FairN (ls ++ List.replicate m 0) lg := ⟨hfn.low, hfn.high, by rw [List.length_append, List.length_replicate]; omega, by rw [List.sum_append_nat]; simp [hfn.sum]⟩
  have hfair2 := Bm.fairN_fair _ _ hfn2
  have hml2 : ((ls ++ List.replicate m 0).map (fun n : Nat => (n : Int))).map Int.toNat = ls ++ List.replicate m 0 := by
    rw [List.map_map]
    conv => rhs; rw [← List.map_id (ls ++ List.replicate m 0)]
    apply List.map_congr_left
    intro x _
    rfl
  have hlen2 : (ls ++ List.replicate m 0).length = l.length + m := by rw [List.length_append, List.length_replicate, hlen]
  have hok2 : ∀ x ∈ (ls ++ List.replicate m 0).map (fun n : Nat => (n : Int)), Bm.IntOk x := fun x hx => by
    have := hfair2.2.2.2.1 x hx
    unfold Bm.IntOk; omega
  have H4 : Hid (∀ W b B d, WS W b 0 0 0 → Reads W B (i64s (ls ++ List.replicate m 0)) → (∀ a, B = some a → a.block < b) → Calls Try.prog 8 #[.pointer (some ⟨b, 0, none⟩), .slice B (l.length + m) d, .int .i64 (lg : Int)] W fun e w' => e = .returned (.bool true) ∧ WS w' b 0 (Bm.hdrA ls lg).1 (Bm.hdrA ls lg).2 ∧ W.grownBy w' (some b)) := Lib.hid (fun W b B d hws hrd hB => by
    have h1 := hH.put W b 0 0 0 B d _ (lg : Int) (by omega) hws (by rw [List.length_map, hlen2]; omega) hok2 hlog (by rw [i64z_nat]; exact hrd) (fun a e _ => Nat.ne_of_lt (hB a e)) hfair2
    rw [List.length_map, hlen2, hml2, Int.toNat_natCast, hhd] at h1
    exact h1.mono fun e w' ⟨he, hw', hg⟩ => ⟨he, by simpa using hw', hg⟩)
  have H5 : Hid (∀ W B d, Reads W B (i64s (ls ++ List.replicate m 0)) → Calls Try.prog 11 #[.slice B (l.length + m) d, .int .i64 (lg : Int)] W fun e w' => e = .returned (.int .i64 ((Bm.hdrA ls lg).2 : Int)) ∧ Below W.heap.size W w') := Lib.hid (fun W B d hrd => by
    have h1 := hH.size W B d _ (lg : Int) (by rw [List.length_map, hlen2]; omega) hok2 hlog (by rw [i64z_nat]; exact hrd)
    rw [List.length_map, hlen2, hml2, Int.toNat_natCast, hhd, if_pos hfair2] at h1
    exact h1)
  obtain ⟨hn3, hn9⟩ := Bm.hdrA_bits ls lg hfn
  have hlt := Bm.hdrA_lt ls lg hfn
  generalize (Bm.hdrA ls lg).1 = N at *
  generalize (Bm.hdrA ls lg).2 = k at *
  obtain ⟨L, hL⟩ : ∃ L, L = (k + 7) / 8 := ⟨_, rfl⟩
  obtain ⟨bs, hbs⟩ : ∃ bs, bs = Bm.bytesOf N L := ⟨_, rfl⟩
  have hbl : bs.length = L := by rw [hbs, Bm.bytesOf_length]
  have hb256 : ∀ x ∈ bs, x < 256 := by rw [hbs]; exact Bm.bytesOf_lt _ _
  have H6 : Hid (∀ W b, WS W b 0 N k → Calls Try.prog 10 #[.pointer (some ⟨b, 0, none⟩)] W fun e w' => e = .returned (.int .i64 (k : Int)) ∧ W = w') := Lib.hid (fun W b hws => len_any b 0 _ W hws.len_cell)
  have H10 : Hid (∀ W b, WS W b 0 N k → Calls Try.prog 13 #[.pointer (some ⟨b, 0, none⟩)] W fun e w' => ∃ g, e = .returned (.slice (some ⟨g, 0, none⟩) L L) ∧ Reads w' (some ⟨g, 0, none⟩) (u8s bs) ∧ Below W.heap.size W w') := Lib.hid (fun W b hws => by
    have h1 := bytes_any b 0 N k W (by omega) hws
    rw [← hL, ← hbs] at h1
    exact h1.mono fun e w' ⟨g, he, _, hrow, hb⟩ => ⟨g, he, row_reads hrow, hb⟩)
  have H11 : Hid (∀ W A' c', Reads W A' (u8s bs) → (convert 36 9 (.slice A' L c')).run Try.prog W = .ok (.string (strOf bs)) W) := Lib.hid (fun W A' c' hrd => by
    have h1 := conv_bytes W A' c' bs hb256 hrd
    rw [hbl] at h1
    exact h1)
  obtain ⟨gA, offA, hA, hcA⟩ : ∃ g off, A = some ⟨g, off, none⟩ ∧ ∀ W, Below w.heap.size w W → ∀ j u, (i64s ls)[j]? = some u → W.cell? ((⟨g, off, none⟩ : Addr).add j) = some u := by
    have hne2 : i64s ls ≠ [] := by intro e; have := congrArg List.length e; rw [i64s_length, hlen, List.length_nil] at this; omega
    rw [← hls] at hr
    obtain ⟨g, off, e, _⟩ := hr hne2
    subst e
    exact ⟨g, off, rfl, fun W hb => reads_news (reads_on hr hb)⟩
  subst hA
  have HcA := Lib.hid hcA
  have hil : (i64s ls).length = l.length * 1 := by rw [i64s_length, hlen, Nat.mul_one]
  have Hil := Lib.hid hil
  have Hmi := Lib.hid hmi
  have h200 : decide (200 < l.length) = false := decide_eq_false (by omega)
  clear hH hr hfn hls hlen hm hhd hfn2 hfair2 hml2 hlen2 hok2 hlt hbs hbl hb256 hcA hlog hil hmi hL
  generalize l.length = n at *
  go_enter Try.func5, Try.ntmps5
  go_wp2_with fail
  refine (Haw.out w).mono ?_
  rintro e w1 ⟨rfl, hb1⟩
  have Hb1 := Lib.hid hb1
  clear hb1
  go_wp2_with fail
  refine (H2.out w1 Hb1.out).mono ?_
  rintro e w' ⟨rfl, rfl⟩
  clear h200
  have hown0 : (w1.alloc (.cells #[] 3)).ownsRow w1.heap.size 3 1 (.slice (some ⟨w1.heap.size, 0, none⟩) 0 0) 0 (i64s []) := World.ownsRow_lit w1 #[] 0 (Nat.le_refl _) (by unfold maxLen; omega) rfl
  have Hown0 := Lib.hid hown0
  have hba0 : Below w1.heap.size w1 (w1.alloc (.cells #[] 3)) := (Below.refl _ _).alloc (Nat.le_refl _) _
  have Hba0 := Lib.hid hba0
  clear hown0 hba0
  go_wp2_with (first
    | (at_builtin
       refine wpList_append_own _ rfl _ _ 22 rfl w1.heap.size 3 i0 (.int .i64 0) 1 8 Try.underlying22 hi hz0 hz1 hz2 rfl (by decide) _ _ _ rfl Hown0.out ⟨gA, offA, none⟩ n c (i64s ls) rfl Hil.out (HcA.out _ (Hb1.out.trans (Hba0.out.mono Hb1.out.size))) (by intro u hu; simp [i64s] at hu; obtain ⟨a, _, rfl⟩ := hu; rfl) (by unfold maxLen; omega) (by omega) Hba0.out.size ?_
       intro u2 w2 hown2 hgr2 _
       have Hown2 : Hid (w2.ownsRow w1.heap.size 3 1 u2 n (i64s ls)) := Lib.hid (by simpa [i64s] using hown2)
       have Hb2 : Hid (Below w1.heap.size w1 w2) := Lib.hid (Hba0.out.grown hgr2 Hba0.out.size (fun q e => (Hown0.out.lt q e).1))
       clear hown2 hgr2)
    | (at_builtin
       refine wpList_append_make rfl _ _ rfl w1.heap.size i0 hi hz0 hz1 hz2 u2 n m ls rfl (congrArg (Value.int .u8) Hmi.out) Hown2.out (by omega) (by omega) Hb2.out.size ?_
       intro u3 w3 hown3 hgr3))
  have Hb3a : Hid (Below w1.heap.size w1 w3) := Lib.hid (Hb2.out.grown hgr3 Hb2.out.size (fun q e => (Hown2.out.lt q e).1))
  have Hb3 := Lib.hid (Hb1.out.trans (Hb3a.out.mono Hb1.out.size))
  obtain ⟨B3, d3, rfl, hrd3, hB3⟩ := own_reads hown3
  have HB3 : Hid (∀ a, B3 = some a → a.block < w3.heap.size) := Lib.hid (fun a e => (hB3 a e).2.1)
  clear hB3
  have Hrd3 := Lib.hid hrd3
  clear hown3 hgr3 Hown2 Hb2 Hb3a Hb1 hrd3
  obtain ⟨w4, b1, hw4, hbe1, hws4, hb4, hbl4⟩ := new_writer w3
  obtain ⟨w5, b2, hw5, hbe2, hws5, hb5, hbl5⟩ := new_writer w4
  have hne12 : b1 ≠ b2 := by omega
  have Hne12 := Lib.hid hne12
  have hs34 : w4.heap.size = w3.heap.size + 1 := by rw [hw4]; simp
  have Hbe2 : Hid (b2 = b1 + 1) := Lib.hid (by omega)
  have Hge1 : Hid (w3.heap.size ≤ b1) := Lib.hid (by omega)
  have Hge2 : Hid (w3.heap.size ≤ b2) := Lib.hid (by omega)
  have Hx5 := Lib.hid (hb4.trans (hb5.mono hb4.size))
  have Hw1 : Hid (WS w5 b1 0 0 0) := Lib.hid (hws4.below hb5)
  have Hw2 := Lib.hid hws5
  have Hw4 := Lib.hid hw4
  have Hw5 := Lib.hid hw5
  have Hbe1 := Lib.hid hbe1
  clear hw4 hbe1 hws4 hb4 hbl4 hw5 hbe2 hws5 hb5 hbl5 hne12 hs34
  go_upto_region 7 with fail
  rw [← Hbe1.out, ← Hw4.out, ← Hbe2.out, ← Hw5.out]
  go_wp2_with fail
  refine (H3.out w5 b1 Hw1.out (Hb3.out.trans (Hx5.out.mono Hb3.out.size)) (Nat.le_trans Hb3.out.size Hge1.out)).mono ?_
  rintro e w6 ⟨rfl, hws6, hg6⟩
  have Hx6 : Hid (Below w3.heap.size w3 w6) := Lib.hid (Hx5.out.grown hg6 Hx5.out.size (fun k e => by injection e with e; rw [← e]; exact Hge1.out))
  have Hv6 := Lib.hid hws6
  have Hw6 : Hid (WS w6 b2 0 0 0) := Lib.hid (Hw2.out.keep hg6 (fun e => Hne12.out (by injection e)) (fun g e => by injection e with e; rw [← e]; exact Hw1.out.notT))
  clear hws6 hg6 Hx5 Hw1 Hw2
  go_wp2_with fail
  refine (H4.out w6 b2 B3 d3 Hw6.out (reads_on Hrd3.out Hx6.out) (fun a e => Nat.lt_of_lt_of_le (HB3.out a e) Hge2.out)).mono ?_
  rintro e w7 ⟨rfl, hws7, hg7⟩
  have Hx7 : Hid (Below w3.heap.size w3 w7) := Lib.hid (Hx6.out.grown hg7 Hx6.out.size (fun k e => by injection e with e; rw [← e]; exact Hge2.out))
  have Hw7 := Lib.hid hws7
  have Hv7 : Hid (WS w7 b1 0 N k) := Lib.hid (Hv6.out.keep hg7 (fun e => Hne12.out (by injection e with e; exact e.symm)) (fun g e => by injection e with e; rw [← e]; exact Hw6.out.notT))
  clear hws7 hg7 Hx6 Hv6 Hw6
  have Hb7 := Lib.hid (Hb3.out.trans (Hx7.out.mono Hb3.out.size))
  have Hrd7 := Lib.hid (reads_on Hrd3.out Hx7.out)
  have hk3 : decide ((3 : Int) ≤ (k : Int)) = true := decide_eq_true (by omega)
  clear Hx7 Hb3 Hrd3 H3 H4 Haw H2 HcA
  go_wp2_with fail
  refine wp_region_held_drew (S := (fun W => Below w7.heap.size w7 W)) (by kernel_rfl) (by exact (Below.refl w7.heap.size w7).drew) (fun hHeld => ?_)
  refine wpAnyH_ready (rs := [0]) (by kernel_rfl) (by simp) ?_
  refine AllReadyH.cons (o := { dst := some 33, op := Go.Op.call { callee := Go.Callee.value (Go.Operand.func 13), args := #[Go.Operand.tmp 8], argTypes := #[27] }, type := 36, pos := "law.go:90", after := #[], guard := none }) rfl (fun K hK => ?_) AllReadyH.nil
  go_simp
  (go_at_call 13; refine (H10.out _ b1 (Hv7.out.below hHeld)).mono ?_; rintro e wA ⟨gA2, rfl, hrA, hbA⟩; have HrA := Lib.hid hrA; have HwA := Lib.hid (Below.trans (B := w7.heap.size) hHeld (hbA.mono (Below.size hHeld))); clear hbA hrA)
  go_simp
  refine hK.out _ _ (by exact HwA.out) (fun hHeld => ?_)
  clear hK K
  try simp only [Act.put, List.setIfInBounds_toArray, List.set_cons_zero, List.set_cons_succ]
  refine wpAnyH_turn (S' := (fun W => Below wA.heap.size wA W)) (by exact fun W hb => HwA.out.trans (hb.mono HwA.out.size)) _ _ _ _ ?_
  have hHeld : (fun W => Below wA.heap.size wA W) wA := by exact Below.refl _ _
  have hcA : ∀ W, Below wA.heap.size wA W → (convert 36 9 (.slice (some ⟨gA2, 0, none⟩) L L)).run Try.prog W = .ok (.string (strOf bs)) W := fun W hb => H11.out W _ L (reads_on HrA.out hb)
  refine wpAnyH_take (i := 1) (oi := { dst := some 34, op := Go.Op.convert 36 9 (Go.Operand.tmp 33), type := 9, pos := "law.go:90", after := #[{ on := 0, ground := Go.Ground.data }], guard := none }) (v := ?_) rfl (by kernel_rfl) (by kernel_rfl) (by kernel_rfl) (fun _ _ _ h => h) (Or.inl ⟨by rfl, ?_⟩) (by assumption) ?_
  rotate_left
  · (intro w hSw; (try dsimp only at hSw); go_simp; (try with_reducible rfl))
  try simp only [Act.put, List.setIfInBounds_toArray, List.set_cons_zero, List.set_cons_succ]
  clear hcA
  refine wpAnyH_ready (rs := [2]) (by kernel_rfl) (by simp) ?_
  refine AllReadyH.cons (o := { dst := some 35, op := Go.Op.call { callee := Go.Callee.value (Go.Operand.func 13), args := #[Go.Operand.tmp 9], argTypes := #[27] }, type := 36, pos := "law.go:90", after := #[{ on := 0, ground := Go.Ground.chain }], guard := none }) rfl (fun K hK => ?_) AllReadyH.nil
  go_simp
  (go_at_call 13; refine (H10.out _ b2 ((Hw7.out.below HwA.out).below hHeld)).mono ?_; rintro e wB ⟨gB2, rfl, hrB, hbB⟩; have HrB := Lib.hid hrB; have HwB := Lib.hid (Below.trans (B := wA.heap.size) hHeld (hbB.mono (Below.size hHeld))); clear hbB hrB)
  go_simp
  refine hK.out _ _ (by exact HwB.out) (fun hHeld => ?_)
  clear hK K
  try simp only [Act.put, List.setIfInBounds_toArray, List.set_cons_zero, List.set_cons_succ]
  refine wpAnyH_turn (S' := (fun W => Below wB.heap.size wB W)) (by exact fun W hb => HwB.out.trans (hb.mono HwB.out.size)) _ _ _ _ ?_
  have hHeld : (fun W => Below wB.heap.size wB W) wB := by exact Below.refl _ _
  have hcB : ∀ W, Below wB.heap.size wB W → (convert 36 9 (.slice (some ⟨gB2, 0, none⟩) L L)).run Try.prog W = .ok (.string (strOf bs)) W := fun W hb => H11.out W _ L (reads_on HrB.out hb)
  have HvB := Lib.hid ((Hv7.out.below HwA.out).below HwB.out)
  have HwsB := Lib.hid ((Hw7.out.below HwA.out).below HwB.out)
  refine wpAnyH_take (i := 3) (oi := { dst := some 36, op := Go.Op.convert 36 9 (Go.Operand.tmp 35), type := 9, pos := "law.go:90", after := #[{ on := 2, ground := Go.Ground.data }], guard := none }) (v := ?_) rfl (by kernel_rfl) (by kernel_rfl) (by kernel_rfl) (fun _ _ _ h => h) (Or.inl ⟨by rfl, ?_⟩) (by assumption) ?_
  rotate_left
  · (intro w hSw; (try dsimp only at hSw); go_simp; (try with_reducible rfl))
  try simp only [Act.put, List.setIfInBounds_toArray, List.set_cons_zero, List.set_cons_succ]
  clear hcB
  refine wpAnyH_take (i := 4) (oi := { dst := some 37, op := Go.Op.binOp Go.BinOp.eql 9 (Go.Operand.tmp 34) (Go.Operand.tmp 36) 9, type := 4, pos := "law.go:90", after := #[{ on := 1, ground := Go.Ground.data }, { on := 3, ground := Go.Ground.data }], guard := none }) (v := ?_) rfl (by kernel_rfl) (by kernel_rfl) (by kernel_rfl) (fun _ _ _ h => h) (Or.inl ⟨by rfl, ?_⟩) (by assumption) ?_
  rotate_left
  · (intro w hSw; (try dsimp only at hSw); go_simp; (try with_reducible rfl))
  try simp only [Act.put, List.setIfInBounds_toArray, List.set_cons_zero, List.set_cons_succ]
  refine wpAnyH_take (i := 5) (oi := { dst := some 38, op := Go.Op.move (Go.Operand.tmp 37), type := 4, pos := "law.go:90", after := #[{ on := 4, ground := Go.Ground.data }, { on := 2, ground := Go.Ground.chain }], guard := none }) (v := ?_) rfl (by kernel_rfl) (by kernel_rfl) (by kernel_rfl) (fun _ _ _ h => h) (Or.inl ⟨by rfl, ?_⟩) (by assumption) ?_
  rotate_left
  · (intro w hSw; (try dsimp only at hSw); go_simp; (try with_reducible rfl))
  try simp only [Act.put, List.setIfInBounds_toArray, List.set_cons_zero, List.set_cons_succ]
  refine wpAnyH_ready (rs := [6]) (by kernel_rfl) (by simp) ?_
  refine AllReadyH.cons (o := { dst := some 39, op := Go.Op.call { callee := Go.Callee.value (Go.Operand.func 10), args := #[Go.Operand.tmp 8], argTypes := #[27] }, type := 3, pos := "law.go:90", after := #[{ on := 5, ground := Go.Ground.chain }, { on := 5, ground := Go.Ground.guard }], guard := some (5, true) }) rfl (fun K hK => ?_) AllReadyH.nil
  go_simp
  (go_at_call 10; refine (H6.out _ b1 (HvB.out.below hHeld)).mono ?_; rintro e w' ⟨rfl, rfl⟩)
  go_simp
  refine hK.out _ _ (by exact hHeld) (fun hHeld => ?_)
  clear hK K
  try simp only [Act.put, List.setIfInBounds_toArray, List.set_cons_zero, List.set_cons_succ]
  refine wpAnyH_ready (rs := [7]) (by kernel_rfl) (by simp) ?_
  refine AllReadyH.cons (o := { dst := some 40, op := Go.Op.call { callee := Go.Callee.value (Go.Operand.func 10), args := #[Go.Operand.tmp 9], argTypes := #[27] }, type := 3, pos := "law.go:90", after := #[{ on := 6, ground := Go.Ground.chain }, { on := 5, ground := Go.Ground.guard }], guard := some (5, true) }) rfl (fun K hK => ?_) AllReadyH.nil
  go_simp
  (go_at_call 10; refine (H6.out _ b2 (HwsB.out.below hHeld)).mono ?_; rintro e w' ⟨rfl, rfl⟩)
  go_simp
  refine hK.out _ _ (by exact hHeld) (fun hHeld => ?_)
  clear hK K
  try simp only [Act.put, List.setIfInBounds_toArray, List.set_cons_zero, List.set_cons_succ]
  refine wpAnyH_take (i := 8) (oi := { dst := some 41, op := Go.Op.binOp Go.BinOp.eql 3 (Go.Operand.tmp 39) (Go.Operand.tmp 40) 3, type := 4, pos := "law.go:90", after := #[{ on := 6, ground := Go.Ground.data }, { on := 7, ground := Go.Ground.data }, { on := 5, ground := Go.Ground.guard }], guard := some (5, true) }) (v := ?_) rfl (by kernel_rfl) (by kernel_rfl) (by kernel_rfl) (fun _ _ _ h => h) (Or.inl ⟨by rfl, ?_⟩) (by assumption) ?_
  rotate_left
  · (intro w hSw; (try dsimp only at hSw); go_simp; (try with_reducible rfl))
  try simp only [Act.put, List.setIfInBounds_toArray, List.set_cons_zero, List.set_cons_succ]
  refine wpAnyH_take (i := 9) (oi := { dst := some 42, op := Go.Op.pick (Go.Operand.tmp 38) (Go.Operand.tmp 41) (Go.Operand.const (Go.Value.bool false)), type := 4, pos := "law.go:90", after := #[{ on := 5, ground := Go.Ground.data }, { on := 8, ground := Go.Ground.data }], guard := none }) (v := ?_) rfl (by kernel_rfl) (by kernel_rfl) (by kernel_rfl) (fun _ _ _ h => h) (Or.inl ⟨by rfl, ?_⟩) (by assumption) ?_
  rotate_left
  · (intro w hSw; (try dsimp only at hSw); go_simp; (try with_reducible rfl))
  try simp only [Act.put, List.setIfInBounds_toArray, List.set_cons_zero, List.set_cons_succ]
  refine wpAnyH_take (i := 10) (oi := { dst := some 43, op := Go.Op.move (Go.Operand.tmp 42), type := 4, pos := "law.go:90", after := #[{ on := 9, ground := Go.Ground.data }, { on := 7, ground := Go.Ground.chain }], guard := none }) (v := ?_) rfl (by kernel_rfl) (by kernel_rfl) (by kernel_rfl) (fun _ _ _ h => h) (Or.inl ⟨by rfl, ?_⟩) (by assumption) ?_
  rotate_left
  · (intro w hSw; (try dsimp only at hSw); go_simp; (try with_reducible rfl))
  try simp only [Act.put, List.setIfInBounds_toArray, List.set_cons_zero, List.set_cons_succ]
  refine wpAnyH_ready (rs := [11]) (by kernel_rfl) (by simp) ?_
  refine AllReadyH.cons (o := { dst := some 44, op := Go.Op.call { callee := Go.Callee.value (Go.Operand.func 10), args := #[Go.Operand.tmp 8], argTypes := #[27] }, type := 3, pos := "law.go:90", after := #[{ on := 10, ground := Go.Ground.chain }, { on := 10, ground := Go.Ground.guard }], guard := some (10, true) }) rfl (fun K hK => ?_) AllReadyH.nil
  go_simp
  (go_at_call 10; refine (H6.out _ b1 (HvB.out.below hHeld)).mono ?_; rintro e w' ⟨rfl, rfl⟩)
  go_simp
  refine hK.out _ _ (by exact hHeld) (fun hHeld => ?_)
  clear hK K
  try simp only [Act.put, List.setIfInBounds_toArray, List.set_cons_zero, List.set_cons_succ]
  refine wpAnyH_take (i := 12) (oi := { dst := some 45, op := Go.Op.binOp Go.BinOp.geq 3 (Go.Operand.tmp 44) (Go.Operand.const (Go.Value.int Go.IntKind.i64 3)) 3, type := 4, pos := "law.go:90", after := #[{ on := 11, ground := Go.Ground.data }, { on := 10, ground := Go.Ground.guard }], guard := some (10, true) }) (v := ?_) rfl (by kernel_rfl) (by kernel_rfl) (by kernel_rfl) (fun _ _ _ h => h) (Or.inl ⟨by rfl, ?_⟩) (by assumption) ?_
  rotate_left
  · (intro w hSw; (try dsimp only at hSw); go_simp; (try with_reducible rfl))
  try simp only [Act.put, List.setIfInBounds_toArray, List.set_cons_zero, List.set_cons_succ]
  refine wpAnyH_take (i := 13) (oi := { dst := some 46, op := Go.Op.pick (Go.Operand.tmp 43) (Go.Operand.tmp 45) (Go.Operand.const (Go.Value.bool false)), type := 4, pos := "law.go:90", after := #[{ on := 10, ground := Go.Ground.data }, { on := 12, ground := Go.Ground.data }], guard := none }) (v := ?_) rfl (by kernel_rfl) (by kernel_rfl) (by kernel_rfl) (fun _ _ _ h => h) (Or.inl ⟨by rfl, ?_⟩) (by assumption) ?_
  rotate_left
  · (intro w hSw; (try dsimp only at hSw); go_simp; (try with_reducible rfl))
  try simp only [Act.put, List.setIfInBounds_toArray, List.set_cons_zero, List.set_cons_succ]
  refine wpAnyH_take (i := 14) (oi := { dst := some 47, op := Go.Op.move (Go.Operand.tmp 46), type := 4, pos := "law.go:90", after := #[{ on := 13, ground := Go.Ground.data }, { on := 11, ground := Go.Ground.chain }], guard := none }) (v := ?_) rfl (by kernel_rfl) (by kernel_rfl) (by kernel_rfl) (fun _ _ _ h => h) (Or.inl ⟨by rfl, ?_⟩) (by assumption) ?_
  rotate_left
  · (intro w hSw; (try dsimp only at hSw); go_simp; (try with_reducible rfl))
  try simp only [Act.put, List.setIfInBounds_toArray, List.set_cons_zero, List.set_cons_succ]
  refine wpAnyH_take (i := 15) (oi := { dst := some 48, op := Go.Op.move (Go.Operand.tmp 7), type := 22, pos := "law.go:90", after := #[{ on := 14, ground := Go.Ground.guard }], guard := some (14, true) }) (v := ?_) rfl (by kernel_rfl) (by kernel_rfl) (by kernel_rfl) (fun _ _ _ h => h) (Or.inl ⟨by rfl, ?_⟩) (by assumption) ?_
  rotate_left
  · (intro w hSw; (try dsimp only at hSw); go_simp; (try with_reducible rfl))
  try simp only [Act.put, List.setIfInBounds_toArray, List.set_cons_zero, List.set_cons_succ]
  refine wpAnyH_take (i := 16) (oi := { dst := some 49, op := Go.Op.move (Go.Operand.tmp 1), type := 3, pos := "law.go:90", after := #[{ on := 14, ground := Go.Ground.guard }], guard := some (14, true) }) (v := ?_) rfl (by kernel_rfl) (by kernel_rfl) (by kernel_rfl) (fun _ _ _ h => h) (Or.inl ⟨by rfl, ?_⟩) (by assumption) ?_
  rotate_left
  · (intro w hSw; (try dsimp only at hSw); go_simp; (try with_reducible rfl))
  try simp only [Act.put, List.setIfInBounds_toArray, List.set_cons_zero, List.set_cons_succ]
  refine wpAnyH_ready (rs := [17]) (by kernel_rfl) (by simp) ?_
  refine AllReadyH.cons (o := { dst := some 50, op := Go.Op.call { callee := Go.Callee.value (Go.Operand.func 11), args := #[Go.Operand.tmp 48, Go.Operand.tmp 49], argTypes := #[22, 3] }, type := 3, pos := "law.go:90", after := #[{ on := 15, ground := Go.Ground.data }, { on := 16, ground := Go.Ground.data }, { on := 14, ground := Go.Ground.chain }, { on := 14, ground := Go.Ground.guard }], guard := some (14, true) }) rfl (fun K hK => ?_) AllReadyH.nil
  go_simp
  (go_at_call 11; refine (H5.out _ B3 d3 (reads_on (reads_on (reads_on Hrd7.out HwA.out) HwB.out) hHeld)).mono ?_; rintro e wC ⟨rfl, hbC⟩; have HwC := Lib.hid (Below.trans (B := wB.heap.size) hHeld (hbC.mono (Below.size hHeld))); clear hbC)
  go_simp
  refine hK.out _ _ (by exact HwC.out) (fun hHeld => ?_)
  clear hK K
  try simp only [Act.put, List.setIfInBounds_toArray, List.set_cons_zero, List.set_cons_succ]
  refine wpAnyH_ready (rs := [18]) (by kernel_rfl) (by simp) ?_
  refine AllReadyH.cons (o := { dst := some 51, op := Go.Op.call { callee := Go.Callee.value (Go.Operand.func 10), args := #[Go.Operand.tmp 8], argTypes := #[27] }, type := 3, pos := "law.go:90", after := #[{ on := 17, ground := Go.Ground.chain }, { on := 14, ground := Go.Ground.guard }], guard := some (14, true) }) rfl (fun K hK => ?_) AllReadyH.nil
  go_simp
  (go_at_call 10; refine (H6.out _ b1 (HvB.out.below HwC.out)).mono ?_; rintro e w' ⟨rfl, rfl⟩)
  go_simp
  refine hK.out _ _ (by exact HwC.out) (fun hHeld => ?_)
  clear hK K
  try simp only [Act.put, List.setIfInBounds_toArray, List.set_cons_zero, List.set_cons_succ]
  refine wpAnyH_take (i := 19) (oi := { dst := some 52, op := Go.Op.binOp Go.BinOp.eql 3 (Go.Operand.tmp 50) (Go.Operand.tmp 51) 3, type := 4, pos := "law.go:90", after := #[{ on := 17, ground := Go.Ground.data }, { on := 18, ground := Go.Ground.data }, { on := 14, ground := Go.Ground.guard }], guard := some (14, true) }) (v := ?_) rfl (by kernel_rfl) (by kernel_rfl) (by kernel_rfl) (fun _ _ _ h => h) (Or.inl ⟨by rfl, ?_⟩) (by assumption) ?_
  rotate_left
  · (intro w hSw; (try dsimp only at hSw); go_simp; (try with_reducible rfl))
  try simp only [Act.put, List.setIfInBounds_toArray, List.set_cons_zero, List.set_cons_succ]
  refine wpAnyH_take (i := 20) (oi := { dst := some 53, op := Go.Op.pick (Go.Operand.tmp 47) (Go.Operand.tmp 52) (Go.Operand.const (Go.Value.bool false)), type := 4, pos := "law.go:90", after := #[{ on := 14, ground := Go.Ground.data }, { on := 19, ground := Go.Ground.data }], guard := none }) (v := ?_) rfl (by kernel_rfl) (by kernel_rfl) (by kernel_rfl) (fun _ _ _ h => h) (Or.inl ⟨by rfl, ?_⟩) (by assumption) ?_
  rotate_left
  · (intro w hSw; (try dsimp only at hSw); go_simp; (try with_reducible rfl))
  try simp only [Act.put, List.setIfInBounds_toArray, List.set_cons_zero, List.set_cons_succ]
  refine wpAnyH_take (i := 21) (oi := { dst := some 54, op := Go.Op.move (Go.Operand.tmp 53), type := 4, pos := "law.go:90", after := #[{ on := 20, ground := Go.Ground.data }, { on := 18, ground := Go.Ground.chain }], guard := none }) (v := ?_) rfl (by kernel_rfl) (by kernel_rfl) (by kernel_rfl) (fun _ _ _ h => h) (Or.inl ⟨by rfl, ?_⟩) (by assumption) ?_
  rotate_left
  · (intro w hSw; (try dsimp only at hSw); go_simp; (try with_reducible rfl))
  try simp only [Act.put, List.setIfInBounds_toArray, List.set_cons_zero, List.set_cons_succ]
  refine wpAnyH_take (i := 22) (oi := { dst := some 55, op := Go.Op.move (Go.Operand.tmp 0), type := 22, pos := "law.go:90", after := #[{ on := 21, ground := Go.Ground.guard }], guard := some (21, true) }) (v := ?_) rfl (by kernel_rfl) (by kernel_rfl) (by kernel_rfl) (fun _ _ _ h => h) (Or.inl ⟨by rfl, ?_⟩) (by assumption) ?_
  rotate_left
  · (intro w hSw; (try dsimp only at hSw); go_simp; (try with_reducible rfl))
  try simp only [Act.put, List.setIfInBounds_toArray, List.set_cons_zero, List.set_cons_succ]
  refine wpAnyH_take (i := 23) (oi := { dst := some 56, op := Go.Op.move (Go.Operand.tmp 1), type := 3, pos := "law.go:90", after := #[{ on := 21, ground := Go.Ground.guard }], guard := some (21, true) }) (v := ?_) rfl (by kernel_rfl) (by kernel_rfl) (by kernel_rfl) (fun _ _ _ h => h) (Or.inl ⟨by rfl, ?_⟩) (by assumption) ?_
  rotate_left
  · (intro w hSw; (try dsimp only at hSw); go_simp; (try with_reducible rfl))
  try simp only [Act.put, List.setIfInBounds_toArray, List.set_cons_zero, List.set_cons_succ]
  refine wpAnyH_ready (rs := [24]) (by kernel_rfl) (by simp) ?_
  refine AllReadyH.cons (o := { dst := some 57, op := Go.Op.call { callee := Go.Callee.value (Go.Operand.func 8), args := #[Go.Operand.const (Go.Value.pointer none), Go.Operand.tmp 55, Go.Operand.tmp 56], argTypes := #[31, 22, 3] }, type := 4, pos := "law.go:90", after := #[{ on := 22, ground := Go.Ground.data }, { on := 23, ground := Go.Ground.data }, { on := 21, ground := Go.Ground.chain }, { on := 21, ground := Go.Ground.guard }], guard := some (21, true) }) rfl (fun K hK => ?_) AllReadyH.nil
  go_simp
  (go_at_call 8; refine (H7.out _ (Hb7.out.trans ((HwA.out.trans ((HwB.out.trans (HwC.out.mono HwB.out.size)).mono HwA.out.size)).mono Hb7.out.size))).mono ?_; rintro e wD ⟨rfl, hbD⟩; have HwD := Lib.hid (HwC.out.trans (hbD.mono HwC.out.size)); clear hbD)
  go_simp
  refine hK.out _ _ (by exact HwD.out) (fun hHeld => ?_)
  clear hK K
  try simp only [Act.put, List.setIfInBounds_toArray, List.set_cons_zero, List.set_cons_succ]
  refine wpAnyH_take (i := 25) (oi := { dst := some 58, op := Go.Op.unOp Go.UnOp.not 4 (Go.Operand.tmp 57), type := 4, pos := "law.go:90", after := #[{ on := 24, ground := Go.Ground.data }, { on := 21, ground := Go.Ground.guard }], guard := some (21, true) }) (v := ?_) rfl (by kernel_rfl) (by kernel_rfl) (by kernel_rfl) (fun _ _ _ h => h) (Or.inl ⟨by rfl, ?_⟩) (by assumption) ?_
  rotate_left
  · (intro w hSw; (try dsimp only at hSw); go_simp; (try with_reducible rfl))
  try simp only [Act.put, List.setIfInBounds_toArray, List.set_cons_zero, List.set_cons_succ]
  refine wpAnyH_take (i := 26) (oi := { dst := some 59, op := Go.Op.pick (Go.Operand.tmp 54) (Go.Operand.tmp 58) (Go.Operand.const (Go.Value.bool false)), type := 4, pos := "law.go:90", after := #[{ on := 21, ground := Go.Ground.data }, { on := 25, ground := Go.Ground.data }], guard := none }) (v := ?_) rfl (by kernel_rfl) (by kernel_rfl) (by kernel_rfl) (fun _ _ _ h => h) (Or.inl ⟨by rfl, ?_⟩) (by assumption) ?_
  rotate_left
  · (intro w hSw; (try dsimp only at hSw); go_simp; (try with_reducible rfl))
  try simp only [Act.put, List.setIfInBounds_toArray, List.set_cons_zero, List.set_cons_succ]
  refine wpAnyH_take (i := 27) (oi := { dst := some 6, op := Go.Op.assign (Go.Operand.tmp 59), type := 4, pos := "law.go:90", after := #[{ on := 26, ground := Go.Ground.data }, { on := 24, ground := Go.Ground.chain }, { on := 0, ground := Go.Ground.phase }, { on := 1, ground := Go.Ground.phase }, { on := 2, ground := Go.Ground.phase }, { on := 3, ground := Go.Ground.phase }, { on := 4, ground := Go.Ground.phase }, { on := 5, ground := Go.Ground.phase }, { on := 6, ground := Go.Ground.phase }, { on := 7, ground := Go.Ground.phase }, { on := 8, ground := Go.Ground.phase }, { on := 9, ground := Go.Ground.phase }, { on := 10, ground := Go.Ground.phase }, { on := 11, ground := Go.Ground.phase }, { on := 12, ground := Go.Ground.phase }, { on := 13, ground := Go.Ground.phase }, { on := 14, ground := Go.Ground.phase }, { on := 15, ground := Go.Ground.phase }, { on := 16, ground := Go.Ground.phase }, { on := 17, ground := Go.Ground.phase }, { on := 18, ground := Go.Ground.phase }, { on := 19, ground := Go.Ground.phase }, { on := 20, ground := Go.Ground.phase }, { on := 21, ground := Go.Ground.phase }, { on := 22, ground := Go.Ground.phase }, { on := 23, ground := Go.Ground.phase }, { on := 24, ground := Go.Ground.phase }, { on := 25, ground := Go.Ground.phase }, { on := 26, ground := Go.Ground.phase }], guard := none }) (v := ?_) rfl (by kernel_rfl) (by kernel_rfl) (by kernel_rfl) (fun _ _ _ h => h) (Or.inl ⟨by rfl, ?_⟩) (by assumption) ?_
  rotate_left
  · (intro w hSw; (try dsimp only at hSw); go_simp; (try with_reducible rfl))
  try simp only [Act.put, List.setIfInBounds_toArray, List.set_cons_zero, List.set_cons_succ]
  refine wpAnyH_done (by kernel_rfl) ?_ _
  go_wp2
  go_ret
  exact ⟨rfl, Hb7.out.trans ((HwA.out.trans ((HwB.out.trans (HwD.out.mono HwB.out.size)).mono HwA.out.size)).mono Hb7.out.size)⟩
end Go.Proofs.Ytefcahmhfjblpaa
