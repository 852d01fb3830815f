/-
  The reference of layer 10 (litcode), by its walk: Code, Encode. Conditions: as each theorem's premises say (up to a thousand lengths of 0 to 11, up to ten thousand bytes).
  The reference of layer 10 (litcode), by its walk: begins. Conditions: as the theorem's premises say.
-/
import Derived.Test.YtgkkbegkeliebaaGaf
import Derived.Test.YtgkkbegkeliebaaGac
import Derived.Test.YtgkkbegkeliebaaGae
import Derived.BigQuiet
import Derived.WalkSmall
import Derived.Deep.QuietTactic
namespace Go.Proofs.Ytgkkbegkeliebaa
open Go.RowKit

namespace Bm
theorem cbits_take (ls : List Nat) (s k : Nat) (h : k < ls[s]?.getD 0) : (cbits ls s).take (k + 1) = (cbits ls s).take k ++ [codeN9 ls s / 2 ^ (ls[s]?.getD 0 - 1 - k) % 2] := by
  have hk : k < (cbits ls s).length := by rw [cbits_length]; exact h
  rw [List.take_succ_eq_append_getElem hk, cbits_get]
theorem code_le (ls : List Nat) (s : Nat) : codeN9 ls s ≤ 1024 * ls.length := by
  unfold codeN9
  split
  · omega
  · exact Nat.le_trans (Nat.div_le_self _ _) (aheadQ_le ls s ls.length)
end Bm

set_option maxHeartbeats 1000000 in
set_option maxRecDepth 100000 in
theorem xcode_any (A : Option Addr) (c : Nat) (ls : List Nat) (s : Nat) (w : World) (hl : ls.length ≤ 1000) (h11 : ∀ x ∈ ls, x ≤ 11) (hs : s < ls.length) (hr : Reads w A (i64s ls)) :
    Calls Try.prog 36 #[.slice A ls.length c, .int .i64 (s : Int)] w fun e w' => ∃ u, e = .returned u ∧ w'.ownsRow w.heap.size 3 1 u (ls[s]?.getD 0) (i64s (Bm.cbits ls s)) ∧ Below w.heap.size w w' := by
  obtain ⟨i0, hi, hz0, hz1, hz2⟩ := info_parts info_in
  have Hc := Lib.hid (vcodes_any A c ls w hl h11 hr)
  have hcl := Bm.code_le ls s
  have hget : (i64s (Bm.codesN ls))[s]? = some (.int .i64 (Bm.codeN9 ls s : Int)) := by
    rw [i64s_get? _ _ (by unfold Bm.codesN; simpa using hs)]
    simp [Bm.codesN]
  have h11s : ls[s]?.getD 0 ≤ 11 := by
    rw [List.getElem?_eq_getElem hs, Option.getD_some]
    exact h11 _ (List.getElem_mem hs)
  obtain ⟨g0, off, rfl, hcell⟩ := reads_i9 hr (by omega)
  have hx : ∀ W, Below w.heap.size w W → W.cell? ⟨g0, off + s, none⟩ = some (.int .i64 (ls[s]?.getD 0 : Int)) := fun W hb => by
    have h1 := reads_on hr hb
    obtain ⟨g1, off1, e, hc1⟩ := reads_i9 h1 (by omega)
    injection e with e
    injection e with e1 e2
    subst e1 e2
    rw [hc1 s hs, List.getElem?_eq_getElem hs, Option.getD_some]
  have Hx := Lib.hid hx
  have Hget := Lib.hid hget
  have Hcb := Lib.hid (fun k h => Bm.cbits_take ls s k h)
  have hcn := Lib.hid (Bm.cbits_length ls s)
  clear hr hcell hget hx h11
  generalize Bm.codeN9 ls s = C at *
  generalize Bm.cbits ls s = cb at *
  generalize ls[s]?.getD 0 = n at *
  go_enter Try.func36, Try.ntmps36
  go_wp2_with fail
  refine Hc.out.mono ?_
  rintro e w1 ⟨g, rfl, hg, hrow, hb1⟩
  have d1 := (hrow.cell s).trans Hget.out
  have d2 := Hx.out w1 hb1
  have Hb1 := Lib.hid hb1
  clear hb1 hrow Hget Hx Hc
  go_wp2
  go_loopw [5, 7] (fun u i wr => ∃ k : Nat, k ≤ n ∧ i = .int .i64 ((n : Int) - 1 - (k : Int)) ∧ Hid (wr.ownsRow w.heap.size 3 1 u k (i64s (cb.take k))) ∧ Hid (Below w.heap.size w wr)) (fun _ i _ => (intOf i + 1).toNat)
  case atStart => exact ⟨0, by omega, by simp, Lib.hid (by rw [List.take_zero]; exact World.ownsRow_nil _ _ _ _), Hb1⟩
  case round =>
    obtain ⟨k, hk, rfl, hown, hbel⟩ := hrel
    by_cases hkn : k < n
    · obtain ⟨q, hq⟩ : ∃ q, n = q + k + 1 := ⟨n - k - 1, by omega⟩
      have e1 : (n : Int) - 1 - (k : Int) = (q : Int) := by omega
      rw [e1]
      have ht := Hcb.out k hkn
      rw [show n - 1 - k = q by omega] at ht
      have Hsz := Lib.hid (hsize_any (q : Int) wr (by omega))
      rw [Int.toNat_natCast] at Hsz
      have hP : 0 < 2 ^ q := Nat.two_pow_pos q
      have hP2 : 2 ^ q ≤ 2048 := by
        have h2 : 2 ^ q ≤ 2 ^ 11 := Nat.pow_le_pow_right (by omega) (by omega)
        have h3 : (2 : Nat) ^ 11 = 2048 := by decide
        omega
      have Hq := Lib.hid hq
      have Ht := Lib.hid ht
      clear ht hq
      generalize 2 ^ q = P at *
      have hd0 : (C : Int) / (P : Int) = ((C / P : Nat) : Int) := by simp
      have hd1 : C / P ≤ C := Nat.div_le_self _ _
      have hd2 : ((C / P : Nat) : Int) % 2 = ((C / P % 2 : Nat) : Int) := by omega
      have hPz : ((P : Int) == 0) = false := by rw [beq_eq_false_iff_ne]; omega
      have hd3 : C / P % 2 ≤ 1 := by omega
      generalize C / P % 2 = y at *
      generalize C / P = x at *
      go_wp2_with fail
      refine Hsz.out.mono ?_
      rintro e w' ⟨rfl, rfl⟩
      go_wp2_with (at_builtin; refine wpList_append_own _ rfl _ _ 22 rfl w.heap.size 3 i0 (.int .i64 0) 1 8 Try.underlying22 hi hz0 hz1 hz2 rfl (by decide) _ _ _ rfl (hown.out.alloc _) ⟨wr.heap.size, 0, none⟩ 1 1 [.int .i64 (y : Int)] rfl rfl ?c1 ?c2 ?c3 ?c4 ?c5 ?_)
      case c1 =>
        intro j u hj
        match j, hj with
        | 0, hj => simp at hj; subst hj; simp [Addr.add]
      case c2 => intro u hu; simp at hu; subst hu; rfl
      case c3 => unfold maxLen; omega
      case c4 => omega
      case c5 => have := hbel.out.size; simp; omega
      intro u' w2 hown2 hgr2 _
      have hbel2 : Below w.heap.size w w2 := (hbel.out.alloc hbel.out.size _).grown hgr2 (by have := hbel.out.size; simp; omega) (fun x e => (hown.out.lt x e).1)
      have e : i64s (cb.take k) ++ [Value.int .i64 (y : Int)] = i64s (cb.take (k + 1)) := by rw [Ht.out]; simp [i64s]
      rw [e] at hown2
      have Hown2 := Lib.hid hown2
      have Hbel2 := Lib.hid hbel2
      clear hown2 hbel2 hgr2 e hown hbel
      go_wp2
      go_roundw
      case rel => exact ⟨k + 1, by omega, by have hq := Hq.out; congr 1; omega, Hown2, Hbel2⟩
      case measure => simp [intOf]
    · obtain rfl : k = n := by omega
      have e1 : (k : Int) - 1 - (k : Int) = -1 := by omega
      rw [e1]
      go_wp2
      go_ret
      exact ⟨_, rfl, by have h := hown.out; rwa [List.take_of_length_le (by rw [hcn.out]; exact Nat.le_refl _)] at h, hbel.out⟩

/-- A string and true, or nothing and false. -/
def strV : Option (List Nat) → Value
  | none => .tuple #[.string (strOf []), .bool false]
  | some s => .tuple #[.string (strOf s), .bool true]
set_option maxHeartbeats 1000000 in
set_option maxRecDepth 100000 in
theorem xenc_any (A B : Option Addr) (c d : Nat) (ls bs : List Nat) (w : World) (hl : ls.length ≤ 256) (h11 : ∀ x ∈ ls, x ≤ 11) (hb : bs.length ≤ 10000) (hlt : ∀ x ∈ bs, x < 256) (hr : Reads w A (i64s ls)) (hs : Reads w B (u8s bs)) :
    Calls Try.prog 12 #[.slice A ls.length c, .slice B bs.length d] w fun e w' => e = .returned (strV (Bm.encT ls bs)) ∧ Below w.heap.size w w' := by
  obtain ⟨i0, hi, hz0, hz1, hz2⟩ := info_parts info_in
  have Hcode := Lib.hid (fun W s (hb : Below w.heap.size w W) (h : s < ls.length) => xcode_any A c ls s W (by omega) h11 h (reads_on hr hb))
  obtain ⟨res, hres⟩ : ∃ r, r = Bm.encT ls bs := ⟨_, rfl⟩
  rw [← hres]
  have Hres := Lib.hid hres
  have Hr := Lib.hid hr
  have Hs := Lib.hid hs
  have Hlt := Lib.hid hlt
  have H11 := Lib.hid h11
  clear hr hs hlt h11 hres
  go_enter Try.func12, Try.ntmps12
  go_wp2
  go_loopw [6, 7] (fun u i wr => ∃ (k : Nat) (l : List Nat), k ≤ bs.length ∧ i = .int .i64 (k : Int) ∧ l.length ≤ 11 * k ∧ Hid (Bm.encS ls (bs.take k) = some l) ∧ Hid (wr.ownsRow w.heap.size 3 1 u l.length (i64s l)) ∧ Hid (Below w.heap.size w wr)) (fun _ i _ => bs.length - (intOf i).toNat)
  case atStart => exact ⟨0, [], by omega, rfl, by simp, Lib.hid (by rw [List.take_zero]; rfl), Lib.hid (World.ownsRow_nil _ _ _ _), Lib.hid (Below.refl _ _)⟩
  case round =>
    obtain ⟨k, l, hk, rfl, hll, henc, hown, hbel⟩ := hrel
    by_cases hkb : k < bs.length
    · obtain ⟨g, off, rfl, hcell⟩ := reads_u8 (reads_on Hs.out hbel.out) (by intro e; rw [e] at hkb; simp at hkb)
      have hsn := Bm.encS_snoc ls bs[k] (bs.take k)
      rw [← List.take_succ_eq_append_getElem hkb, henc.out, Option.map_some] at hsn
      have hno : ls[bs[k]]?.getD 0 = 0 → res = none := fun h => by rw [Hres.out, Bm.encT, Bm.encS_none ls bs[k] h bs (List.getElem_mem hkb)]; rfl
      have h256 := Hlt.out bs[k] (List.getElem_mem hkb)
      have c0 := hcell k hkb
      have Hno := Lib.hid hno
      have Hsn := Lib.hid hsn
      clear hno hsn hcell
      generalize bs[k] = s at *
      by_cases hsl : s < ls.length
      · obtain ⟨g1, off1, rfl, hc1⟩ := reads_i9 (reads_on Hr.out hbel.out) (by omega)
        have c1 := hc1 s hsl
        have hle := H11.out ls[s] (List.getElem_mem hsl)
        have hge : ls[s]?.getD 0 = ls[s] := by rw [List.getElem?_eq_getElem hsl, Option.getD_some]
        have d1 : decide (ls.length ≤ s) = false := decide_eq_false (by omega)
        have Hcd := Lib.hid (Hcode.out wr s hbel.out hsl)
        rw [hge] at Hno Hsn Hcd
        have hcb := Lib.hid (Bm.cbits_length ls s)
        rw [hge] at hcb
        clear hc1 hge
        generalize ls[s] = n at *
        by_cases hn0 : n = 0
        · have Hx0 : Hid (res = none) := Lib.hid (Hno.out hn0)
          subst hn0
          clear Hno Hsn hown henc Hcd
          go_wp2
          go_ret2
          rw [Hx0.out]
          exact ⟨rfl, hbel.out⟩
        · have d2 : ((n : Int) == 0) = false := by rw [beq_eq_false_iff_ne]; omega
          have hsn := Hsn.out
          rw [if_pos (by omega)] at hsn
          have Hsn2 := Lib.hid hsn
          clear hsn Hsn Hno henc
          generalize Bm.cbits ls s = cb at *
          go_wp2_with fail
          refine Hcd.out.mono ?_
          rintro e w1 ⟨u1, rfl, ho1, hb1⟩
          have Hbw1 := Lib.hid (hbel.out.trans (hb1.mono hbel.out.size))
          have Hown1 := Lib.hid (own_below hown.out hb1)
          have Ho1 := Lib.hid ho1
          clear ho1 hb1 hown hbel Hcd
          go_wp2_with (at_builtin; refine wpList_append_two rfl _ _ 22 rfl w.heap.size 3 i0 (.int .i64 0) 1 8 Try.underlying22 hi hz0 hz1 hz2 rfl (by decide) _ l.length (i64s l) rfl Hown1.out _ n (i64s cb) rfl wr.heap.size Ho1.out ?c1 ?c2 ?c3 ?c4 ?_)
          case c1 => intro u hu; unfold i64s at hu; obtain ⟨x, _, rfl⟩ := List.mem_map.1 hu; rfl
          case c2 => unfold maxLen; omega
          case c3 => omega
          case c4 => exact Hbw1.out.size
          intro u' w2 hown2 hgr2
          have hbel2 : Below w.heap.size w w2 := Hbw1.out.grown hgr2 Hbw1.out.size (fun x e => (Hown1.out.lt x e).1)
          have hlen : l.length + n = (l ++ cb).length := by rw [List.length_append, hcb.out]
          rw [i64s_append, hlen] at hown2
          have Hown2 := Lib.hid hown2
          have Hbel2 := Lib.hid hbel2
          clear hown2 hbel2 hgr2 Hown1 Ho1 Hbw1 hlen
          go_wp2
          go_roundw
          case rel => exact ⟨k + 1, l ++ cb, by omega, by go_num, by rw [List.length_append, hcb.out]; omega, Hsn2, Hown2, Hbel2⟩
          case measure => simp [intOf]; omega
      · have d1 : decide (ls.length ≤ s) = true := decide_eq_true (by omega)
        have Hx0 : Hid (res = none) := Lib.hid (Hno.out (by rw [List.getElem?_eq_none (by omega)]; rfl))
        clear Hno Hsn hown henc
        go_wp2
        go_ret2
        rw [Hx0.out]
        exact ⟨rfl, hbel.out⟩
    · obtain rfl : k = bs.length := by omega
      have hx : res = some (Bm.packS l) := by
        have h := henc.out
        rw [List.take_of_length_le (Nat.le_refl _)] at h
        rw [Hres.out, Bm.encT, h]
        rfl
      have hl2 := Bm.encS_lt ls _ l henc.out
      have hbv := Bm.bits_bitsV l hl2
      have hlt2 := Bm.bitsV_lt l hl2
      obtain ⟨A1, cc1, rfl, hrd1, hA1⟩ := own_reads hown.out
      have hby := rbytes_any A1 l.length cc1 (Bm.bitsV l) wr (by omega) hlt2 (by rw [hbv]; exact hrd1) (fun a e _ => (hA1 a e).2.1)
      have Hby := Lib.hid hby
      have Hx := Lib.hid hx
      have hL : (l.length + 7) / 8 ≤ 20000 := by omega
      have hpl : (Bm.packS l).length = (l.length + 7) / 8 := Bm.packS_length l
      have hp256 := Bm.packS_lt l
      have hpk : Bm.bytesOf (Bm.bitsV l) ((l.length + 7) / 8) = Bm.packS l := rfl
      rw [hpk] at Hby
      clear hby hx hrd1 hA1 hown henc hlt2 hbv hl2 hpk
      go_wp2_with fail
      refine Hby.out.mono ?_
      rintro e w2 ⟨u2, rfl, ho2, hb2⟩
      obtain ⟨A2, c2, rfl, hrd2, _⟩ := own_reads ho2
      have hcv := conv_bytes w2 A2 c2 (Bm.packS l) hp256 hrd2
      rw [hpl] at hcv
      have Hb2 := Lib.hid (hbel.out.trans (hb2.mono hbel.out.size))
      clear ho2 hrd2 hb2 Hby
      generalize Bm.packS l = t at *
      go_wp2
      go_ret2
      rw [Hx.out]
      exact ⟨rfl, Hb2.out⟩
end Go.Proofs.Ytgkkbegkeliebaa

namespace Go.Proofs.Ytgkkbegkeliebaa
open Go.RowKit

theorem prefix_take (l cs : List Nat) (h : cs.length ≤ l.length) (k : Nat) (hk : k < cs.length) : l.take (k + 1) = cs.take (k + 1) ↔ l.take k = cs.take k ∧ l[k] = cs[k] := by
  rw [List.take_succ_eq_append_getElem hk, List.take_succ_eq_append_getElem (show k < l.length by omega)]
  constructor
  · intro e
    have h1 := List.append_inj' e rfl
    exact ⟨h1.1, by simpa using h1.2⟩
  · rintro ⟨h1, h2⟩
    rw [h1, h2]
theorem prefix_iff (l cs : List Nat) : cs <+: l ↔ cs.length ≤ l.length ∧ l.take cs.length = cs.take cs.length := by
  rw [List.take_length]
  constructor
  · rintro ⟨t, rfl⟩
    exact ⟨by simp, by rw [List.take_left']; rfl⟩
  · rintro ⟨_, h⟩
    exact ⟨l.drop cs.length, (congrArg (· ++ l.drop cs.length) h.symm).trans (List.take_append_drop cs.length l)⟩

set_option maxHeartbeats 1000000 in
set_option maxRecDepth 100000 in
theorem xbegins_any (A B : Option Addr) (c d : Nat) (l cs : List Nat) (w : World) (hl : l.length ≤ 1000000) (hcl : cs.length ≤ 1000000) (hr : Reads w A (i64s l)) (hs : Reads w B (i64s cs)) :
    Calls Try.prog 39 #[.slice A l.length c, .slice B cs.length d] w fun e w' => e = .returned (.bool (decide (cs <+: l))) ∧ ∃ m, w' = w.drewN m := by
  obtain ⟨r, hres⟩ : ∃ r, r = decide (cs <+: l) := ⟨_, rfl⟩
  rw [← hres]
  have Hres := Lib.hid hres
  have Hr := Lib.hid hr
  have Hs := Lib.hid hs
  clear hres hr hs
  by_cases hlen : l.length < cs.length
  · have d1 : decide (l.length < cs.length) = true := decide_eq_true hlen
    have hx : false = r := by rw [Hres.out]; exact (decide_eq_false (fun h => by have := ((prefix_iff l cs).1 h).1; omega)).symm
    have Hx := Lib.hid hx
    clear hx Hres
    go_enter Try.func39, Try.ntmps39
    go_wp2
    go_ret
    exact ⟨congrArg (fun x => Ending.returned (Value.bool x)) Hx.out, 0, rfl⟩
  · have d1 : decide (l.length < cs.length) = false := decide_eq_false hlen
    have Hno : Hid (∀ k, k < cs.length → l.take (k + 1) ≠ cs.take (k + 1) → false = r) := Lib.hid (fun k hk hne => by
      rw [Hres.out]
      refine (decide_eq_false (fun h => hne ?_)).symm
      have h2 := ((prefix_iff l cs).1 h).2
      have h3 := congrArg (List.take (k + 1)) h2
      rwa [List.take_take, List.take_take, Nat.min_eq_left (by omega)] at h3)
    have Hyes : Hid (l.take cs.length = cs.take cs.length → true = r) := Lib.hid (fun h => by rw [Hres.out]; exact (decide_eq_true ((prefix_iff l cs).2 ⟨by omega, h⟩)).symm)
    have Hst := Lib.hid (fun k hk => prefix_take l cs (by omega) k hk)
    clear Hres
    go_enter Try.func39, Try.ntmps39
    go_wp2
    go_loopw [5] (fun i wr => ∃ k m : Nat, k ≤ cs.length ∧ i = .int .i64 (k : Int) ∧ Hid (l.take k = cs.take k) ∧ Hid (wr = w.drewN m)) (fun i _ => cs.length - (intOf i).toNat)
    case atStart => exact ⟨0, 0, by omega, rfl, Lib.hid (by simp), Lib.hid rfl⟩
    case round =>
      obtain ⟨k, m, hk, rfl, ht, hw⟩ := hrel
      have hwr := hw.out
      subst hwr
      by_cases hkc : k < cs.length
      · have hb : Below w.heap.size w (w.drewN m) := below_drewN (Below.refl _ _) m
        obtain ⟨g, off, rfl, hc⟩ := reads_i9 Hr.out (by omega)
        obtain ⟨g1, off1, rfl, hc1⟩ := reads_i9 Hs.out (by omega)
        have k0 := hc k (by omega)
        have k1 := hc1 k hkc
        have hst := Hst.out k hkc
        have hno := Hno.out k hkc
        have hkl : k < l.length := by omega
        have Hst2 := Lib.hid hst
        have Hno2 := Lib.hid hno
        clear hc hc1 hst hno
        generalize l[k]'hkl = x at *
        generalize cs[k]'hkc = y at *
        by_cases hxy : x = y
        · subst hxy
          have hd : ((x : Int) != (x : Int)) = false := by simp
          have Ht2 := Lib.hid (Hst2.out.2 ⟨ht.out, rfl⟩)
          clear Hst2 Hno2
          go_wp2_with fail
          go_quiet (fail)
          go_wp2
          go_roundw
          case rel => exact ⟨k + 1, _, by omega, by go_num, Ht2, Lib.hid rfl⟩
          case measure => simp [intOf]; omega
        · have hd : ((x : Int) != (y : Int)) = true := by rw [bne_iff_ne]; omega
          have hx := Hno2.out (fun h => hxy (Hst2.out.1 h).2)
          have Hx := Lib.hid hx
          clear Hst2 Hno2 hx
          go_wp2_with fail
          go_quiet (fail)
          go_wp2
          go_ret
          exact ⟨congrArg (fun x => Ending.returned (Value.bool x)) Hx.out, _, World.drewN_drewN _ _ _⟩
      · obtain rfl : k = cs.length := by omega
        have hx := Hyes.out ht.out
        have Hx := Lib.hid hx
        clear hx
        go_wp2
        go_ret
        exact ⟨congrArg (fun x => Ending.returned (Value.bool x)) Hx.out, m, rfl⟩

end Go.Proofs.Ytgkkbegkeliebaa
