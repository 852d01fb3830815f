/-
  Layer 3 (cursor), the Writer, each by its walk: Group, Text. Conditions: as each theorem's premises say (up to a hundred million bytes).
-/
import Derived.Test.YtfopnbfaaikghaaCb
namespace Go.Proofs.Ytfopnbfaaikghaa
open Go.RowKit

theorem or_more (x : Nat) : bits .or .u8 ((x : Int) % 256) 128 = ((x % 128 + 128 : Nat) : Int) := by
  have e : (x : Int) % 256 = ((x % 256 : Nat) : Int) := by simp
  rw [e, show (128 : Int) = ((128 : Nat) : Int) from rfl, u8_or_nat _ _ (by omega) (by omega)]
  congr 1
  have h : ∀ y, y < 256 → y ||| 128 = y % 128 + 128 := by decide +kernel
  rw [h _ (by omega)]
  omega
theorem own_snoc {w : World} {base n b : Nat} {u : Value} {l : List Nat} (h : w.ownsRow base 5 1 u (n + 1) (u8s l ++ [.int .u8 (b : Int)])) : w.ownsRow base 5 1 u (n + 1) (u8s (l ++ [b])) := by
  have e : u8s (l ++ [b]) = u8s l ++ [.int .u8 (b : Int)] := by simp [u8s]
  rw [e]; exact h

set_option maxHeartbeats 1000000 in
set_option maxRecDepth 100000 in
theorem wgroup_gen (po : Option Addr) (v : Nat) (R : World → World → Prop) (w : World) (hv : v < 2 ^ 64)
    (hraw : ∀ w', Below w.heap.size w w' → Calls Try.prog 36 #[.pointer po, .string (strOf (Bm.grp v))] w' fun e w'' => e = .returned (.pointer po) ∧ R w' w'') :
    Calls Try.prog 35 #[.pointer po, .int .u64 (v : Int)] w fun e w' => e = .returned (.pointer po) ∧ ∃ w1, Below w.heap.size w w1 ∧ R w1 w' := by
  obtain ⟨i0, hi, hz0, hz1, hz2⟩ := info_parts info_u8
  have Hraw := Lib.hid hraw
  have Hv := Lib.hid hv
  clear hraw hv
  go_enter Try.func35, Try.ntmps35
  go_wp2_with (at_make; refine wpList_make_own _ rfl _ _ 64 rfl w.heap.size 5 i0 (.int .u8 0) 1 Try.underlying64 hi hz0 hz1 .i64 .i64 _ 10 rfl rfl ?c1 ?c2 ?c3 ?c4 ?_)
  case c1 => rfl
  case c2 => rw [hz2]; omega
  case c3 => unfold maxLen; omega
  case c4 => exact Nat.le_refl _
  intro w1 hown1 hg1
  have Hb1 := Lib.hid (below_of_grown hg1)
  have Hown1 := Lib.hid hown1
  clear hown1 hg1
  go_wp2
  go_loopw [1, 5] (fun x u wr => ∃ (y : Nat) (acc : List Nat), x = .int .u64 (y : Int) ∧ Hid (y < 2 ^ 64) ∧ Hid (acc ++ Bm.grp y = Bm.grp v) ∧ Hid (wr.ownsRow w.heap.size 5 1 u acc.length (u8s acc)) ∧ Hid (Below w.heap.size w wr)) (fun x _ _ => (intOf x).toNat)
  case atStart => exact ⟨v, [], rfl, by have := Hv.out; omega, by simp [Hid], Hown1.out, Hb1.out⟩
  case round =>
    obtain ⟨y, acc, rfl, hy, hacc, hown, hbel⟩ := hrel
    have hacc10 : acc.length ≤ 10 := by
      have h1 := congrArg List.length hacc.out
      rw [List.length_append] at h1
      have h2 := Bm.grp_ten v Hv.out
      omega
    by_cases hlt : 128 ≤ y
    · go_wp2_with (at_builtin; refine wpList_append_own _ rfl _ _ 64 rfl w.heap.size 5 i0 (.int .u8 0) 1 1 Try.underlying64 hi hz0 hz1 hz2 rfl (by decide) _ _ _ rfl (hown.out.alloc _) ⟨wr.heap.size, 0, none⟩ 1 1 [.int .u8 (bits .or .u8 ((y : Int) % 256) 128)] rfl rfl ?d1 ?d2 ?d3 ?d4 ?d5 ?_)
      case d1 =>
        intro j u hj
        match j, hj with
        | 0, hj => simp at hj; subst hj; simp [Addr.add]
      case d2 => intro u hu; simp at hu; subst hu; rfl
      case d3 => unfold maxLen; omega
      case d4 => omega
      case d5 => have := hbel.out.size; simp; omega
      intro u' w2 hown' hgrow _
      rw [or_more] at hown'
      have hb' : Below w.heap.size w w2 := (hbel.out.alloc hbel.out.size _).grown hgrow (by have := hbel.out.size; simp; omega) (fun q hq => (hown.out.lt q hq).1)
      have Hown := Lib.hid (own_snoc hown')
      have Hb := Lib.hid hb'
      clear hown' hb' hgrow hown hbel
      go_wp2
      go_roundw
      case rel => 
        refine ⟨y / 128, acc ++ [y % 128 + 128], by go_num, by have := hy.out; unfold Hid; omega, ?_, ?_, Hb⟩
        · unfold Hid
          rw [← hacc.out, Bm.grp_big y hlt hy.out, List.append_assoc]
          rfl
        · rw [List.length_append]; exact Hown
      case measure => simp [intOf]; omega
    · have hyB : y ≤ 127 := by omega
      have hfin : acc ++ [y] = Bm.grp v := by rw [← hacc.out, Bm.grp_small y (by omega)]
      have Hfin := Lib.hid hfin
      clear hfin hacc hlt
      go_wp2_with (at_builtin; refine wpList_append_own _ rfl _ _ 64 rfl w.heap.size 5 i0 (.int .u8 0) 1 1 Try.underlying64 hi hz0 hz1 hz2 rfl (by decide) _ _ _ rfl (hown.out.alloc _) ⟨wr.heap.size, 0, none⟩ 1 1 [.int .u8 (y : Int)] rfl rfl ?d1 ?d2 ?d3 ?d4 ?d5 ?_)
      case d1 =>
        intro j u hj
        match j, hj with
        | 0, hj => simp at hj; subst hj; simp [Addr.add]
      case d2 => intro u hu; simp at hu; subst hu; rfl
      case d3 => unfold maxLen; omega
      case d4 => omega
      case d5 => have := hbel.out.size; simp; omega
      intro u' w2 hown' hgrow _
      have hb' : Below w.heap.size w w2 := (hbel.out.alloc hbel.out.size _).grown hgrow (by have := hbel.out.size; simp; omega) (fun q hq => (hown.out.lt q hq).1)
      have hown2 := own_snoc hown'
      rw [Hfin.out] at hown2
      have hlen : acc.length + 1 = (Bm.grp v).length := by rw [← Hfin.out]; simp
      obtain ⟨A, c, rfl, hr, _⟩ := own_reads hown2
      have hconv := conv_bytes w2 A c (Bm.grp v) (Bm.grp_lt v Hv.out) hr
      rw [hlen]
      have Hb := Lib.hid hb'
      have Hlast := Lib.hid (Hraw.out w2 hb')
      clear hown' hb' hgrow hown hbel hown2 hr hlen hacc10 Hfin Hraw
      generalize strOf (Bm.grp v) = str at hconv Hlast
      generalize (Bm.grp v).length = len at hconv ⊢
      go_wp2_with fail
      refine Hlast.out.mono ?_
      rintro e w' ⟨rfl, hR⟩
      have HR := Lib.hid hR
      clear hR
      go_wp2
      go_ret
      exact ⟨rfl, w2, Hb.out, HR.out⟩

theorem wgroup_nil (v : Nat) (w : World) (hv : v < 2 ^ 64) : Calls Try.prog 35 #[.pointer none, .int .u64 (v : Int)] w fun e w' => e = .returned (.pointer none) ∧ Below w.heap.size w w' :=
  (wgroup_gen none v (fun w1 w' => w1 = w') w hv (fun w' _ => wraw_nil _ w')).mono fun e w' ⟨he, w1, hb, hw⟩ => by subst hw; exact ⟨he, hb⟩
theorem wgroup_any (b v : Nat) (bs : List Nat) (w : World) (hv : v < 2 ^ 64) (hl : bs.length ≤ 100000000) (h : CW w b bs) :
    Calls Try.prog 35 #[.pointer (some ⟨b, 0, none⟩), .int .u64 (v : Int)] w fun e w' => e = .returned (.pointer (some ⟨b, 0, none⟩)) ∧ CW w' b (bs ++ Bm.grp v) ∧ w.grownBy w' (some b) := by
  have h10 := Bm.grp_ten v hv
  exact (wgroup_gen (some ⟨b, 0, none⟩) v (fun w1 w' => CW w' b (bs ++ Bm.grp v) ∧ w1.grownBy w' (some b)) w hv (fun w' hb => wraw_any b bs _ w' (by omega) (h.below hb))).mono
    fun e w' ⟨he, w1, hb, hc, hg⟩ => ⟨he, hc, grown_trans (grown_below hb _) hg⟩

set_option maxHeartbeats 400000 in
set_option maxRecDepth 100000 in
theorem wtext_any (b : Nat) (bs s : List Nat) (w : World) (hl : bs.length ≤ 10000000) (hs : s.length ≤ 10000000) (h : CW w b bs) :
    Calls Try.prog 19 #[.pointer (some ⟨b, 0, none⟩), .string (strOf s)] w fun e w' => e = .returned (.pointer (some ⟨b, 0, none⟩)) ∧ CW w' b (bs ++ (Bm.grp s.length ++ s)) ∧ w.grownBy w' (some b) := by
  have h10 := Bm.grp_ten s.length (by omega)
  have Hg := Lib.hid (wgroup_any b s.length bs w (by omega) (by omega) h)
  have Hr := Lib.hid (fun w1 h1 => wraw_any b (bs ++ Bm.grp s.length) s w1 (by rw [List.length_append]; omega) h1)
  have hsz := strOf_size s
  clear h
  generalize strOf s = str at hsz Hr ⊢
  go_enter Try.func19, Try.ntmps19
  go_wp2_with fail
  refine Hg.out.mono ?_
  rintro e w1 ⟨rfl, hc, hg⟩
  have Hc := Lib.hid (Hr.out w1 hc)
  have Hg1 := Lib.hid hg
  clear hc hg
  go_wp2_with fail
  refine Hc.out.mono ?_
  rintro e w2 ⟨rfl, hc, hg⟩
  rw [List.append_assoc] at hc
  have Hc2 := Lib.hid hc
  have Hg2 := Lib.hid hg
  clear hc hg
  go_wp2
  go_ret
  exact ⟨rfl, Hc2.out, grown_trans Hg1.out Hg2.out⟩
end Go.Proofs.Ytfopnbfaaikghaa
