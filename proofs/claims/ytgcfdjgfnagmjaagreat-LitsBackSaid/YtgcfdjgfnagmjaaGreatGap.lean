/-
  The reference of layer 10 (litcode), by its walk: Decode. Conditions: as the theorem's premises say (whole lengths; up to a thousand bytes).
-/
import Derived.Test.YtgcfdjgfnagmjaaGreatGai
import Derived.Test.YtgcfdjgfnagmjaaGreatGah
import Derived.Test.YtgcfdjgfnagmjaaGreatGac
import Derived.Deep.DeepCutAuto
namespace Go.Proofs.YtgcfdjgfnagmjaaGreat
open Go.RowKit

/-- Bytes and true, or nothing and false. -/
def BytesQ (w' : World) (e : Ending) : Option (List Nat) → Prop
  | none => ∃ A c, e = .returned (.tuple #[.slice A 0 c, .bool false])
  | some bs => ∃ A c, e = .returned (.tuple #[.slice A bs.length c, .bool true]) ∧ bs.length ≤ c ∧ Reads w' A (u8s bs)
/-- The codes of the first q symbols, in an array. -/
def CTab (W : World) (g : Nat) (ls : List Nat) (q : Nat) : Prop := ∃ vs : List Value, Row W g 69 vs ∧ vs.length = 256 ∧
  ∀ j, j < q → 0 < ls[j]?.getD 0 → ∃ A c, vs[j]? = some (.slice A (ls[j]?.getD 0) c) ∧ (∀ a, A = some a → g < a.block) ∧ Reads W A (i64s (Bm.cbits ls j))
theorem CTab.below {W W' : World} {g q : Nat} {ls : List Nat} (h : CTab W g ls q) (hb : Below W.heap.size W W') : CTab W' g ls q := by
  obtain ⟨vs, h1, h2, h3⟩ := h
  refine ⟨vs, h1.keep (hb.block g h1.lt), h2, fun j hj h0 => ?_⟩
  obtain ⟨A, c, e, ha, hr⟩ := h3 j hj h0
  exact ⟨A, c, e, ha, reads_on hr hb⟩
theorem CTab.skip {W : World} {g q : Nat} {ls : List Nat} (h : CTab W g ls q) (h0 : ls[q]?.getD 0 = 0) : CTab W g ls (q + 1) := by
  obtain ⟨vs, h1, h2, h3⟩ := h
  refine ⟨vs, h1, h2, fun j hj hp => ?_⟩
  rcases Nat.lt_or_ge j q with e | e
  · exact h3 j e hp
  · obtain rfl : j = q := by omega
    omega
theorem CTab.set {W : World} {g q c : Nat} {ls : List Nat} {A : Option Addr} (h : CTab W g ls q) (hq : q < 256) (hA : ∀ a, A = some a → g < a.block) (hr : Reads W A (i64s (Bm.cbits ls q))) :
    CTab (W.setCell ⟨g, q, none⟩ (.slice A (ls[q]?.getD 0) c)) g ls (q + 1) := by
  obtain ⟨vs, h1, h2, h3⟩ := h
  refine ⟨vs.set q (.slice A (ls[q]?.getD 0) c), h1.set_ q _, by rw [List.length_set, h2], fun j hj hp => ?_⟩
  by_cases e : j = q
  · subst e
    exact ⟨A, c, by rw [List.getElem?_set_self (by omega)], hA, reads_far hr (fun a e => by have := hA a e; show a.block ≠ g; omega)⟩
  · obtain ⟨A', c', e', ha, hr'⟩ := h3 j (by omega) hp
    exact ⟨A', c', by rw [List.getElem?_set_ne (by omega)]; exact e', ha, reads_far hr' (fun a e => by have := ha a e; show a.block ≠ g; omega)⟩
theorem CTab.cell {W : World} {g q j : Nat} {ls : List Nat} (h : CTab W g ls q) (hj : j < q) (h0 : 0 < ls[j]?.getD 0) : ∃ A c, W.cell? ⟨g, j, none⟩ = some (.slice A (ls[j]?.getD 0) c) ∧ Reads W A (i64s (Bm.cbits ls j)) := by
  obtain ⟨vs, h1, h2, h3⟩ := h
  obtain ⟨A, c, e, _, hr⟩ := h3 j hj h0
  exact ⟨A, c, (h1.cell j).trans e, hr⟩
theorem CTab.any {W : World} {g q : Nat} {ls : List Nat} (h : CTab W g ls q) (hq : q < 256) : (∃ v, W.cell? ⟨g, q, none⟩ = some v) ∧ W.frozen? ⟨g, q, none⟩ = false ∧ g < W.heap.size := by
  obtain ⟨vs, h1, h2, _⟩ := h
  exact ⟨⟨vs[q]'(by omega), by rw [h1.cell q, List.getElem?_eq_getElem (by omega)]⟩, h1.free q, h1.lt⟩

set_option maxRecDepth 100000 in
theorem zero_a256 (W : World) : Sem.run Tryz.prog (zeroValue 69) W = .ok (.agg (Array.replicate 256 (.slice none 0 0))) W := by kernel_rfl

def metI : Option Nat → Int
  | none => -1
  | some k => (k : Int)
set_option maxHeartbeats 4000000 in
set_option maxRecDepth 100000 in
theorem xdec_any (A : Option Addr) (c n : Nat) (ls s : List Nat) (w : World) (hW : Bm.WholeN ls) (hn : n ≤ 100000) (hl : s.length ≤ 1000) (hs : ∀ x ∈ s, x < 256) (hr : Reads w A (i64s ls)) :
    Calls Tryz.prog 21 #[.slice A ls.length c, .string (strOf s), .int .i64 (n : Int)] w fun e w' => BytesQ w' e (Bm.decT ls s n) ∧ Below w.heap.size w w' := by
  obtain ⟨i0, hi, hz0, hz1, hz2⟩ := info_parts info_u8
  obtain ⟨hl256, h11, _⟩ := hW
  have hza := zero_a256
  obtain ⟨Z, hZ⟩ : ∃ Z, Z = Array.replicate 256 (Value.slice none 0 0) := ⟨_, rfl⟩
  rw [← hZ] at hza
  have Hcode := Lib.hid (fun W k (hb : Below w.heap.size w W) (h : k < ls.length) => xcode_any A c ls k W (by omega) h11 h (reads_on hr hb))
  have Hr := Lib.hid hr
  have H11 := Lib.hid h11
  have hrow : Row (w.alloc (.cells Z 69)) w.heap.size 69 (List.replicate 256 (Value.slice none 0 0)) := by
    rw [hZ, ← List.toArray_replicate]
    exact Row.new w _ _
  have hct : CTab (w.alloc (.cells Z 69)) w.heap.size ls 0 := ⟨_, hrow, by simp, fun j hj => by omega⟩
  have Hct := Lib.hid hct
  have Hal := Lib.hid ((Below.refl w.heap.size w).alloc (Nat.le_refl _) (.cells Z 69))
  clear hr h11 hZ hrow hct
  obtain ⟨res, hres⟩ : ∃ r, r = Bm.decT ls s n := ⟨_, rfl⟩
  rw [← hres]
  have Hres := Lib.hid hres
  clear hres
  go_enter Tryz.func21, Tryz.ntmps21
  go_wp2
  generalize w.alloc (.cells Z 69) = w1 at *
  go_loopw [9] (fun i wr => ∃ k : Nat, k ≤ ls.length ∧ i = .int .i64 (k : Int) ∧ Hid (CTab wr w.heap.size ls k) ∧ Hid (Below w.heap.size w wr)) (fun i _ => ls.length - (intOf i).toNat)
  case atStart => exact ⟨0, by omega, rfl, Hct, Hal⟩
  case round =>
    obtain ⟨k, hk, rfl, hct, hbel⟩ := hrel
    by_cases hkl : k < ls.length
    · obtain ⟨g1, off1, rfl, hc1⟩ := reads_i9 (reads_on Hr.out hbel.out) (by omega)
      have c1 := hc1 k hkl
      have hge : ls[k]?.getD 0 = ls[k] := by rw [List.getElem?_eq_getElem hkl, Option.getD_some]
      have Hcd := Lib.hid (Hcode.out wr k hbel.out hkl)
      have Hskip := Lib.hid (fun h => CTab.skip (q := k) hct.out h)
      have Hset := Lib.hid (fun W A c (h : CTab W w.heap.size ls k) => CTab.set (c := c) (A := A) h (by omega))
      rw [hge] at Hcd Hskip Hset
      clear hc1 hge
      generalize ls[k] = m at *
      by_cases hm : m = 0
      · have hsk := Lib.hid (Hskip.out hm)
        subst hm
        clear Hskip Hset hct Hcd
        go_wp2
        go_roundw
        case rel => exact ⟨k + 1, by omega, by go_num, hsk, hbel⟩
        case measure => simp [intOf]; omega
      · have hm0 : 0 < m := by omega
        clear Hskip
        go_wp2_with fail
        refine Hcd.out.mono ?_
        rintro e w2 ⟨u, rfl, ho, hb2⟩
        obtain ⟨A2, c2, rfl, hrd, hA2⟩ := own_reads ho
        have hct2 := hct.out.below hb2
        obtain ⟨⟨v0, d0⟩, f0, hg0⟩ := hct2.any (show k < 256 by omega)
        obtain ⟨_, _, hg1⟩ := hct.out.any (show k < 256 by omega)
        have Hct3 := Lib.hid (Hset.out w2 A2 c2 hct2 (fun a e => by have := (hA2 a e).1; omega) hrd)
        have Hb2 := Lib.hid ((hbel.out.trans (hb2.mono hbel.out.size)).setCell (p := ⟨w.heap.size, k, none⟩) (Nat.le_refl _) (.slice A2 m c2))
        clear ho hrd hA2 hct2 hb2 Hset Hcd hct hbel
        go_wp2
        go_roundw
        case rel => exact ⟨k + 1, by omega, by go_num, Hct3, Hb2⟩
        case measure => simp [intOf]; omega
    · obtain rfl : k = ls.length := by omega
      obtain ⟨w2, cap2, hcv, hcell, hb2⟩ := conv_back wr s hs
      have hrd2 : Reads w2 (some ⟨wr.heap.size, 0, none⟩) (u8s s) := fun _ => ⟨_, _, rfl, fun j hj => by
        rw [u8s_length] at hj
        rw [Nat.zero_add, hcell j hj, u8s_get? s j hj]⟩
      have hby := rbits_any (some ⟨wr.heap.size, 0, none⟩) cap2 s w2 (by omega) hs hrd2 (fun a e h0 => by injection e with e; subst e; exact cell_in (hcell 0 h0))
      have Hby := Lib.hid hby
      have Hb2 := Lib.hid (hbel.out.trans (hb2.mono hbel.out.size))
      have Hct2 := Lib.hid (hct.out.below hb2)
      have hl0 : (Bm.bitsOf (Bm.valB s) (8 * s.length)).length = 8 * s.length := Bm.bitsOf_length _ _
      have hres2 : res = (Bm.decS ls n (Bm.bitsOf (Bm.valB s) (8 * s.length))).bind Bm.decF := Hres.out
      have Hres2 := Lib.hid hres2
      clear hby hb2 hcell hrd2 hct hbel Hcode Hres hres2 Hct Hal
      generalize Bm.bitsOf (Bm.valB s) (8 * s.length) = l0 at *
      go_wp2_with fail
      refine Hby.out.mono ?_
      rintro e w3 ⟨u3, rfl, ho3, hb3⟩
      obtain ⟨A3, c3, rfl, hrd3, _⟩ := own_reads ho3
      obtain ⟨hc3a, hc3b⟩ := own_capA ho3
      have Hb3 := Lib.hid (Hb2.out.trans (hb3.mono Hb2.out.size))
      have Hct3 := Lib.hid (Hct2.out.below hb3)
      have Hrd3 := Lib.hid hrd3
      clear ho3 hb3 hrd3 Hb2 Hct2 Hby hcv
      go_wp2
      go_loopw [10, 11, 12, 13, 14] (fun lv ov iv _ _ wx => ∃ (i cl : Nat) (l acc : List Nat) (Al : Option Addr), i ≤ n ∧ iv = .int .i64 (i : Int) ∧ lv = .slice Al l.length cl ∧ l.length ≤ 8 * s.length ∧ l.length ≤ cl ∧ cl ≤ maxLen ∧ acc.length = i ∧ Hid (Reads w3 Al (i64s l)) ∧ Hid (wx.ownsRow w3.heap.size 5 1 ov i (u8s acc)) ∧ Hid (Below w3.heap.size w3 wx) ∧ Hid (res = ((Bm.decS ls (n - i) l).map fun t => (acc ++ t.1, t.2)).bind Bm.decF)) (fun _ _ iv _ _ _ => n - (intOf iv).toNat)
      case atStart => exact ⟨0, c3, l0, [], A3, by omega, rfl, by rw [hl0], by omega, by omega, hc3b, rfl, Hrd3, Lib.hid (World.ownsRow_nil _ _ _ _), Lib.hid (Below.refl _ _), Lib.hid (by rw [Hres2.out, Nat.sub_zero]; cases Bm.decS ls n l0 <;> rfl)⟩
      case round =>
        obtain ⟨i, cl, l, acc, Al, hi_n, rfl, rfl, hl8, hlc, hcm, hacc, hrd, hown, hbel, hrr⟩ := hrel
        rename World => wx
        clear Hrd3 Hres2
        by_cases hin : i < n
        · have hdec : Bm.decS ls (n - i) l = (Bm.metS ls l).bind fun k => (Bm.decS ls (n - (i + 1)) (l.drop (ls[k]?.getD 0))).map fun t => (k :: t.1, t.2) := by
            rw [show n - i = (n - (i + 1)) + 1 by omega, Bm.decS]
          rw [hdec] at hrr
          clear hdec
          have Hwx := Lib.hid (Hb3.out.trans (hbel.out.mono Hb3.out.size))
          have Hctx := Lib.hid (Hct3.out.below hbel.out)
          have Hrdx := Lib.hid (reads_on hrd.out hbel.out)
          go_wp2
          go_loopw [13, 14] (fun mv kv wy => ∃ (q m : Nat) (z : Int), q ≤ ls.length ∧ kv = .int .i64 (q : Int) ∧ mv = .int .i64 z ∧ -1 ≤ z ∧ z ≤ 256 ∧ Hid (z = metI (Bm.metTo ls l q)) ∧ Hid (wy = wx.drewN m)) (fun _ kv _ => ls.length - (intOf kv).toNat)
          case atStart => exact ⟨0, 0, -1, by omega, rfl, rfl, by omega, by omega, Lib.hid rfl, Lib.hid rfl⟩
          case round =>
            obtain ⟨q, m, z, hq, rfl, rfl, hz1m, hz256, hz, hw⟩ := hrel
            have hwy := hw.out
            subst hwy
            clear hw
            by_cases hql : q < ls.length
            · obtain ⟨g1, off1, rfl, hc1⟩ := reads_i9 (reads_on Hr.out Hwx.out) (by omega)
              have c1 := hc1 q hql
              have hge : ls[q]?.getD 0 = ls[q] := by rw [List.getElem?_eq_getElem hql, Option.getD_some]
              have hstep : Bm.metTo ls l (q + 1) = if 0 < ls[q] ∧ Bm.cbits ls q <+: l then some q else Bm.metTo ls l q := by rw [Bm.metTo, hge]
              have Hstep := Lib.hid hstep
              have hcell := fun h0 => Hctx.out.cell hql h0
              have hcbl := Bm.cbits_length ls q
              rw [hge] at hcell hcbl
              have hle := H11.out ls[q] (List.getElem_mem hql)
              clear hc1 hge hstep
              generalize Bm.cbits ls q = cb at *
              generalize ls[q] = mq at *
              by_cases hm : mq = 0
              · subst hm
                have hst := Hstep.out
                rw [if_neg (fun h => by omega)] at hst
                have Hst := Lib.hid hst
                clear hst Hstep hcell hcbl
                go_wp2
                go_roundw
                case rel => exact ⟨q + 1, m, z, by omega, by go_num, rfl, hz1m, hz256, Lib.hid (by rw [Hst.out]; exact hz.out), Lib.hid rfl⟩
                case measure => simp [intOf]; omega
              · have hm0 : 0 < mq := by omega
                obtain ⟨A5, c5, d5, hrd5⟩ := hcell hm0
                subst hcbl
                have Hbg := Lib.hid (fun W (hb : Below wx.heap.size wx W) => xbegins_any Al A5 cl c5 l cb W (by omega) (by omega) (reads_on Hrdx.out hb) (reads_on hrd5 hb))
                clear hcell hrd5
                go_wp2_with fail
                refine (Hbg.out _ (below_drewN (Below.refl _ _) m)).mono ?_
                rintro e wz ⟨rfl, m2, rfl⟩
                have hst := Hstep.out
                clear Hbg Hstep
                by_cases hp : cb <+: l
                · rw [if_pos ⟨hm0, hp⟩] at hst
                  have Hst := Lib.hid hst
                  have hdp : decide (cb <+: l) = true := decide_eq_true hp
                  rw [hdp]
                  clear hst hdp
                  go_wp2
                  go_roundw
                  case rel => exact ⟨q + 1, _, (q : Int), by omega, by go_num, rfl, by omega, by omega, Lib.hid (by rw [Hst.out]; rfl), Lib.hid rfl⟩
                  case measure => simp [intOf]; omega
                · rw [if_neg (fun h => hp h.2)] at hst
                  have Hst := Lib.hid hst
                  have hdp : decide (cb <+: l) = false := decide_eq_false hp
                  rw [hdp]
                  clear hst hdp
                  go_wp2
                  go_roundw
                  case rel => exact ⟨q + 1, _, z, by omega, by go_num, rfl, hz1m, hz256, Lib.hid (by rw [Hst.out]; exact hz.out), Lib.hid rfl⟩
                  case measure => simp [intOf]; omega
            · obtain rfl : q = ls.length := by omega
              have hb0 : Below wx.heap.size wx (wx.drewN m) := below_drewN (Below.refl _ _) m
              generalize wx.drewN m = wy at *
              have Hwy := Lib.hid (Hwx.out.trans (hb0.mono Hwx.out.size))
              have Hrr := hrr
              cases hms : Bm.metS ls l with
              | none =>
                have hzz : z = -1 := by rw [hz.out]; show metI (Bm.metS ls l) = -1; rw [hms]; rfl
                subst hzz
                have hx : res = none := by rw [hrr.out, hms]; rfl
                have Hx := Lib.hid hx
                clear hx hrr Hrr hms hz hown hrd Hctx Hrdx
                go_wp2
                go_ret2
                rw [Hx.out]
                exact ⟨⟨_, _, rfl⟩, Hwy.out⟩
              | some k =>
                obtain ⟨hkl, hk0, hkp⟩ := Bm.metTo_some ls l _ k hms
                have hzz : z = (k : Int) := by rw [hz.out]; show metI (Bm.metS ls l) = (k : Int); rw [hms]; rfl
                subst hzz
                rw [hms, Option.bind_some] at Hrr
                have hmk := hkp.length_le
                rw [Bm.cbits_length] at hmk
                obtain ⟨g1, off1, rfl, hc1⟩ := reads_i9 (reads_on Hr.out Hwy.out) (by omega)
                have hge : ls[k]?.getD 0 = ls[k] := by rw [List.getElem?_eq_getElem hkl, Option.getD_some]
                rw [hge] at Hrr hmk hk0
                have Hck := Lib.hid (fun W (hb : Below w.heap.size w W) => show W.cell? ⟨g1, off1 + k, none⟩ = some (.int .i64 (ls[k] : Int)) from by
                  obtain ⟨g2, off2, e, hc2⟩ := reads_i9 (reads_on Hr.out hb) (by omega)
                  injection e with e
                  injection e with e1 e2
                  subst e1 e2
                  exact hc2 k hkl)
                clear hrr hc1 hge hkp hms hz
                generalize ls[k] = mk at *
                have hwk : (k : Int) % 256 = (k : Int) := by omega
                have Howny := Lib.hid (own_below hown.out hb0)
                have Hbely := Lib.hid (hbel.out.trans (hb0.mono hbel.out.size))
                have Hcf := Lib.hid (fun W => cut_from Al l.length cl mk W hmk hlc)
                have Hbh := Lib.hid (reads_behind (c := cl) (q := mk) hrd.out hlc)
                have hdl : (l.drop mk).length = l.length - mk := List.length_drop ..
                have hk255 : k < 256 := by omega
                clear hown hbel Hrdx Hctx
                go_wp2_with (at_builtin; refine wpList_append_own _ rfl _ _ 35 rfl w3.heap.size 5 i0 (.int .u8 0) 1 1 Tryz.underlying35 hi hz0 hz1 hz2 rfl (by decide) _ _ _ rfl (Howny.out.alloc _) ⟨wy.heap.size, 0, none⟩ 1 1 [.int .u8 (k : Int)] rfl rfl ?d1 ?d2 ?d3 ?d4 ?d5 ?_)
                case d1 =>
                  intro j u hj
                  match j, hj with
                  | 0, hj => simp at hj; subst hj; simp [Addr.add]
                case d2 => intro u hu; simp at hu; subst hu; rfl
                case d3 => unfold maxLen; omega
                case d4 => omega
                case d5 => have := Hbely.out.size; simp; omega
                intro u' w7 hown7 hgr7 _
                have hbel7 : Below w3.heap.size w3 w7 := (Hbely.out.alloc Hbely.out.size _).grown hgr7 (by have := Hbely.out.size; simp; omega) (fun x e => (Howny.out.lt x e).1)
                have e : u8s acc ++ [Value.int .u8 (k : Int)] = u8s (acc ++ [k]) := by simp [u8s]
                rw [e] at hown7
                have Hown7 := Lib.hid hown7
                have Hbel7 := Lib.hid hbel7
                have hc17 := Hck.out w7 (Hb3.out.trans (hbel7.mono Hb3.out.size))
                have hcf := Hcf.out
                clear hown7 hgr7 hbel7 e Howny Hbely Hck
                go_wp2
                clear hcf
                go_roundw
                case rel =>
                  refine ⟨i + 1, cl - mk, l.drop mk, acc ++ [k], behindA Al cl mk, by omega, by go_num, by rw [hdl], by omega, by omega, by omega, by simp [hacc], Hbh, Hown7, Hbel7, Lib.hid ?_⟩
                  rw [Hrr.out]
                  cases Bm.decS ls (n - (i + 1)) (l.drop mk) with
                  | none => rfl
                  | some t => simp
                case measure => simp [intOf]; omega
        · obtain rfl : i = n := by omega
          rw [Nat.sub_self] at hrr
          have hrr2 : res = Bm.decF (acc, l) := by rw [hrr.out]; simp [Bm.decS]
          have Hrr := Lib.hid hrr2
          have Hwx := Lib.hid (Hb3.out.trans (hbel.out.mono Hb3.out.size))
          have Hrdx := Lib.hid (reads_on hrd.out hbel.out)
          obtain ⟨A9, c9, rfl, hrd9, _⟩ := own_reads hown.out
          have Hrd9 := Lib.hid hrd9
          have Hc9 := Lib.hid (own_capA hown.out).1
          clear hrr hrr2 hown hrd9
          go_wp2
          go_loopw [15] (fun jv wy => ∃ j : Nat, j ≤ l.length ∧ j ≤ 7 ∧ jv = .int .i64 (j : Int) ∧ Hid (∀ x ∈ l.take j, x = 0) ∧ Hid (wy = wx)) (fun jv _ => l.length - (intOf jv).toNat)
          case atStart => exact ⟨0, by omega, by omega, rfl, Lib.hid (by simp), Lib.hid rfl⟩
          case round =>
            obtain ⟨j, hjl, hj7, rfl, hz, hw⟩ := hrel
            have hwy := hw.out
            subst hwy
            clear hw
            by_cases hj : j < l.length
            · obtain ⟨g1, off1, rfl, hc1⟩ := reads_i9 Hrdx.out (by omega)
              have c1 := hc1 j hj
              have hno : ¬ (l.length ≤ 7 ∧ ∀ x ∈ l, x = 0) → res = none := fun h => by rw [Hrr.out, Bm.decF, if_neg h]
              have hmem := List.getElem_mem hj
              have htk : l[j] = 0 → ∀ x ∈ l.take (j + 1), x = 0 := fun h x hx => by
                rw [List.take_succ_eq_append_getElem hj] at hx
                rcases List.mem_append.1 hx with h1 | h1
                · exact hz.out x h1
                · rw [List.mem_singleton.1 h1]; exact h
              have Hno := Lib.hid (fun (h : l[j] ≠ 0) => hno (fun hh => h (hh.2 _ hmem)))
              have Hno7 := Lib.hid (fun (h : 7 ≤ j) => hno (fun hh => by omega))
              have Htk := Lib.hid htk
              clear hc1 hno hmem htk hz
              generalize l[j] = x at *
              by_cases hx0 : x = 0
              · subst hx0
                by_cases h7 : j = 7
                · subst h7
                  have Hx := Lib.hid (Hno7.out (by omega))
                  clear Hno Hno7 Htk
                  go_wp2
                  go_ret2
                  rw [Hx.out]
                  exact ⟨⟨_, _, rfl⟩, Hwx.out⟩
                · have Hz2 := Lib.hid (Htk.out rfl)
                  have d7 : decide (7 ≤ j) = false := decide_eq_false (by omega)
                  clear Hno Hno7 Htk
                  go_wp2
                  go_roundw
                  case rel => exact ⟨j + 1, by omega, by omega, by go_num, Hz2, Lib.hid (by first | rfl | trivial)⟩
                  case measure => simp [intOf]; omega
              · have dx : ((x : Int) == 0) = false := by rw [beq_eq_false_iff_ne]; omega
                have Hx := Lib.hid (Hno.out hx0)
                clear Hno Hno7 Htk
                go_wp2
                go_ret2
                rw [Hx.out]
                exact ⟨⟨_, _, rfl⟩, Hwx.out⟩
            · obtain rfl : j = l.length := by omega
              have hx : res = some acc := by
                have h := hz.out
                rw [List.take_of_length_le (Nat.le_refl _)] at h
                rw [Hrr.out, Bm.decF, if_pos ⟨hj7, h⟩]
              have Hx := Lib.hid hx
              have Hl := Lib.hid hacc
              clear hx hz hacc
              go_wp2
              go_ret2
              rw [Hx.out]
              exact ⟨⟨A9, c9, by rw [Hl.out]; rfl, by rw [Hl.out]; exact Hc9.out, Hrd9.out⟩, Hwx.out⟩
end Go.Proofs.YtgcfdjgfnagmjaaGreat
