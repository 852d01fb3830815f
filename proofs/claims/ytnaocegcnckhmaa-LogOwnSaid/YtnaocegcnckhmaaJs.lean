/-
  LogOwn (layer 26): the law's function by its walk: true for any slice of strings, any string and any int. Condition: each string of the slice within the row's own reach.
-/
import Derived.Test.YtnaocegcnckhmaaJq
import Derived.Test.YtnaocegcnckhmaaJp
import Derived.Test.YtnaocegcnckhmaaQf
namespace Go.Proofs.Ytnaocegcnckhmaa
open Go.RowKit

set_option maxHeartbeats 400000 in
set_option maxRecDepth 100000 in
theorem lgown_out (A : Option Addr) (L c : Nat) (s : ByteArray) (n : Int) (w : World) (hl : 20 < L) (hL : L ≤ 9223372036854775807) :
    Calls Try.prog 5 #[.slice A L c, .string s, .int .i64 n] w fun e w' => e = .returned (.bool true) ∧ Below w.heap.size w w' := by
  have Haw := Lib.hid (lgawake_any w)
  have hd : decide (20 < (L : Int)) = true := decide_eq_true (by omega)
  go_enter Try.func5, Try.ntmps5
  go_wp2_with fail
  refine Haw.out.mono ?_
  rintro e w1 ⟨rfl, hb1⟩
  have HB1 := Lib.hid hb1
  clear hb1
  go_wp2
  go_ret
  exact ⟨rfl, HB1.out⟩

/-- A contract that only draws, as one of Below. -/
theorem drew_below {P : Program} {f : FuncId} {args : Array Value} {w : World} {v : Value} (h : Calls P f args w fun e w' => e = .returned v ∧ ∃ q, w' = w.drewN q) : Calls P f args w fun e w' => e = .returned v ∧ Below w.heap.size w w' :=
  h.mono fun e w' ⟨he, q, hq⟩ => ⟨he, by rw [hq]; exact ⟨rfl, rfl, rfl, Nat.le_refl _, fun _ _ => rfl⟩⟩
theorem lgall_rd (p : Option Addr) (l : List ByteArray) (k : Nat) (w : World) (h : LP w p l k) :
    Calls Try.prog 19 #[.pointer p] w fun e w' => ∃ A c, e = .returned (.slice A l.length c) ∧ Reads w' A (strC l) ∧ Below w.heap.size w w' :=
  (lgall_any p l k w h).mono fun e w' ⟨u, he, ho, hb⟩ => by
    obtain ⟨A, c, rfl, _, _, hr⟩ := ho.reads
    exact ⟨A, c, he, hr, hb⟩
theorem lgold_rd (p : Option Addr) (l : List ByteArray) (k : Nat) (w : World) (h : LP w p l k) :
    Calls Try.prog 20 #[.pointer p] w fun e w' => ∃ A c, e = .returned (.slice A k c) ∧ Reads w' A (strC (l.take k)) ∧ Below w.heap.size w w' :=
  (lgold_any p l k w h).mono fun e w' ⟨u, he, ho, hb⟩ => by
    obtain ⟨A, c, rfl, _, _, hr⟩ := ho.reads
    have hk := h.small.2.1
    rw [List.length_take, Nat.min_eq_left hk] at he
    exact ⟨A, c, he, hr, hb⟩
/-- One of the strings that the call owns, and what becomes of them when it is written to. -/
theorem OwnS.at_ {w : World} {base n c j : Nat} {A : Option Addr} {z : List ByteArray} (h : OwnS w base (.slice A n c) z) (hj : j < z.length) :
    ∃ g, A = some ⟨g, 0, none⟩ ∧ base ≤ g ∧ g < w.heap.size ∧ w.cell? ⟨g, j, none⟩ = some (.string z[j]) ∧ w.frozen? ⟨g, j, none⟩ = false ∧ ∀ s, OwnS (w.setCell ⟨g, j, none⟩ (.string s)) base (.slice A n c) (z.set j s) := by
  rcases h.form with ⟨_, rfl⟩ | ⟨g, cap, post, hv, h0, h1, h2, h3, hr⟩
  · simp at hj
  · injection hv with e1 e2 e3
    subst e1 e2 e3
    have hl := strC_length z
    refine ⟨g, rfl, h0, hr.lt, ?_, hr.free j, fun s => ?_⟩
    · rw [hr.cell j, List.getElem?_append_left (by omega), strC_get? z j hj]
    · have e : z.length = (z.set j s).length := (List.length_set ..).symm
      rw [e]
      refine ownS_of_row (post := post) h0 h2 (by rw [List.length_set]; omega) ?_
      have h5 := hr.set_ j (.string s)
      rw [List.set_append_left _ _ (by omega), strC_set] at h5
      exact h5
/-- A block that is none of theirs is written to. -/
theorem OwnS.far {w : World} {base g j : Nat} {v u : Value} {l : List ByteArray} (h : OwnS w base v l) (hg : g < base) : OwnS (w.setCell ⟨g, j, none⟩ u) base v l :=
  h.keep fun _ _ hb hr => hr.keep (grown_set (grown_refl w (some g)) j u |>.block _ hr.lt (fun e => by injection e with e; omega))
theorem lgTr_half (l : List ByteArray) (m : Nat) (h : m ≤ l.length) : (Bm.lgTr l 0 (m : Int)).2 = m := by
  unfold Bm.lgTr
  split
  · rfl
  · show 0 = m; omega
set_option maxHeartbeats 2000000 in
set_option maxRecDepth 100000 in
theorem lgown_in (A : Option Addr) (c : Nat) (l : List ByteArray) (s : ByteArray) (n : Int) (w : World) (hl : l.length ≤ 20) (hr : Reads w A (strC l)) :
    Calls Try.prog 5 #[.slice A l.length c, .string s, .int .i64 n] w fun e w' => e = .returned (.bool true) ∧ Below w.heap.size w w' := by
  have Haw := Lib.hid (lgawake_any w)
  have hd : decide (20 < (l.length : Int)) = false := decide_eq_false (by omega)
  have Hr := Lib.hid hr
  have Hnew := Lib.hid (fun W => lgnew_any W)
  clear hr
  go_enter Try.func5, Try.ntmps5
  go_wp2_with fail
  refine Haw.out.mono ?_
  rintro e w1 ⟨rfl, hb1⟩
  have HB1 := Lib.hid hb1
  clear hb1 Haw
  go_wp2_with fail
  refine (Hnew.out w1).mono ?_
  rintro e w2 ⟨b, rfl, hr2, hb, hb2⟩
  have HR2 := Lib.hid hr2
  have Hb := Lib.hid (Nat.le_trans HB1.out.size hb)
  have HB2 := Lib.hid (HB1.out.trans (hb2.mono HB1.out.size))
  obtain ⟨base, hbase⟩ : ∃ base, base = w2.heap.size := ⟨_, rfl⟩
  have Hbb := Lib.hid (show b < base by rw [hbase]; exact hr2.lt)
  have Hwb := Lib.hid (show w.heap.size ≤ base by rw [hbase]; exact HB2.out.size)
  have Hle := Lib.hid (show base ≤ w2.heap.size by rw [hbase]; exact Nat.le_refl _)
  clear hr2 hb hb2 HB1 Hnew hd hbase
  go_wp2
  go_loopw [8, 10, 11, 12, 30] (fun v _ _ _ i wr => ∃ (k : Nat) (K : List ByteArray), k ≤ l.length ∧ K.length ≤ k ∧ i = .int .i64 (k : Int) ∧ Hid (LG wr b K 0) ∧ Hid (OwnS wr base v K) ∧ Hid (base ≤ wr.heap.size) ∧ Hid (Below w.heap.size w wr)) (fun _ _ _ _ i _ => l.length - (intOf i).toNat)
  case atStart => exact ⟨0, [], Nat.zero_le _, Nat.le_refl _, rfl, HR2, Lib.hid (ownS_nil _ _), Hle, HB2⟩
  case round =>
    obtain ⟨k, K, hk, hKk, rfl, hlg, hown, hle, hbel⟩ := hrel
    clear HR2 HB2 Hle
    by_cases hkl : k < l.length
    · obtain ⟨g, off, rfl, hcell⟩ := reads_str (reads_on Hr.out hbel.out) (by omega)
      have c0 := hcell k hkl
      have Happ := Lib.hid (lgappend_any b K 0 l[k] wr hlg.out)
      clear hcell
      generalize l[k] = x at *
      by_cases hx : 512 < x.size
      · rw [Bm.lgApp_long K x hx] at Happ
        obtain ⟨C, hrow, _⟩ := hlg.out
        have Hne := Lib.hid (ownS_ne hown.out hrow (by decide))
        clear hrow hx
        go_wp2_with fail
        refine Happ.out.mono ?_
        rintro e w4 ⟨rfl, hr4, hg4⟩
        have HR4 := Lib.hid hr4
        have HO4 := Lib.hid (show OwnS w4 base _ K from World.ownsRow.kept hown.out hg4 (Or.inr Hne.out))
        have HL4 := Lib.hid (Nat.le_trans hle.out hg4.size)
        have HB4 := Lib.hid (hbel.out.trans (below_grown hg4 Hb.out hbel.out.size))
        clear hr4 hg4 Happ hlg hbel c0 hown hle
        go_wp2
        go_roundw
        case rel => exact ⟨k + 1, K, by omega, by omega, by go_num, HR4, HO4, HL4, HB4⟩
        case measure => simp [intOf]; omega
      · rw [Bm.lgApp_yes K x hx (by omega)] at Happ
        obtain ⟨C, hrow, _⟩ := hlg.out
        have Hne := Lib.hid (ownS_ne hown.out hrow (by decide))
        clear hrow hx
        go_wp2_with fail
        refine Happ.out.mono ?_
        rintro e w4 ⟨rfl, hr4, hg4⟩
        have HR4 := Lib.hid hr4
        have HO4 := Lib.hid (show OwnS w4 base _ K from World.ownsRow.kept hown.out hg4 (Or.inr Hne.out))
        have HL4 := Lib.hid (Nat.le_trans hle.out hg4.size)
        have HB4 := Lib.hid (hbel.out.trans (below_grown hg4 Hb.out hbel.out.size))
        clear hr4 hg4 Happ hlg hbel c0 hown hle
        go_wp2_with (at_builtin; refine wpS_append x rfl _ _ rfl base _ K rfl HO4.out rfl (by omega) HL4.out ?_)
        intro v5 w5 hown5 hb5
        have HR5 := Lib.hid (HR4.out.keep (hb5.block b Hbb.out))
        have HO5 := Lib.hid hown5
        have HL5 := Lib.hid (Nat.le_trans HL4.out hb5.size)
        have HB5 := Lib.hid (HB4.out.trans (hb5.mono Hwb.out))
        clear hown5 hb5 HR4 HO4 HL4 HB4
        go_wp2
        go_roundw
        case rel => exact ⟨k + 1, K ++ [x], by omega, by rw [List.length_append, List.length_singleton]; omega, by go_num, HR5, HO5, HL5, HB5⟩
        case measure => simp [intOf]; omega
    · obtain rfl : k = l.length := by omega
      clear hkl hk
      obtain ⟨AK, cK, rfl, hKc, hKm, hKr⟩ := hown.out.reads
      have hK20 : K.length ≤ 20 := by omega
      obtain ⟨m, hm⟩ : ∃ m, m = K.length / 2 := ⟨_, rfl⟩
      have hmK : m ≤ K.length := by omega
      have hmI : (K.length : Int) / 2 = (m : Int) := by omega
      have Htr := Lib.hid (lgtrunc_any b K 0 (m : Int) wr hlg.out)
      have Hhalf := Lib.hid (lgTr_half K m hmK)
      obtain ⟨C, hrow, _⟩ := hlg.out
      have Hne := Lib.hid (ownS_ne hown.out hrow (by decide))
      clear hrow hm hKr
      go_wp2_with fail
      refine Htr.out.mono ?_
      rintro e w3 ⟨rfl, hr3, hg3⟩
      rw [Hhalf.out] at hr3
      have HR3 := Lib.hid hr3
      have HO3 := Lib.hid (show OwnS w3 base (.slice AK K.length cK) K from World.ownsRow.kept hown.out hg3 (Or.inr Hne.out))
      have HB3 := Lib.hid (hbel.out.trans (below_grown hg3 Hb.out hbel.out.size))
      have Hall := Lib.hid (lgall_any (some ⟨b, 0, none⟩) K m w3 hr3.some_)
      have Hold := Lib.hid (fun W h => lgold_any (some ⟨b, 0, none⟩) K m W h)
      clear hr3 hg3 hown hlg hbel hle Htr Hhalf Hne
      go_wp2_with fail
      refine Hall.out.mono ?_
      rintro e w4 ⟨u4, rfl, hown4, hb4⟩
      obtain ⟨A4, c4, rfl, _, _, _⟩ := hown4.reads
      have Ho := Lib.hid (Hold.out w4 (HR3.out.below hb4).some_)
      have Hga := Lib.hid (show ∀ g, A4 = some ⟨g, 0, none⟩ → g < w4.heap.size from fun g e => by
        subst e
        obtain ⟨_, cs, hr⟩ := hown4.block (b := g) (by simp [Value.ownBlock])
        exact hr.lt)
      have HO4 := Lib.hid hown4
      have HQ4 := Lib.hid hb4
      clear hown4 hb4 Hall Hold
      go_wp2_with fail
      refine Ho.out.mono ?_
      rintro e w5 ⟨u5, rfl, hown5, hb5⟩
      obtain ⟨A5, c5, rfl, _, _, _⟩ := hown5.reads
      have hmt : (K.take m).length = m := by rw [List.length_take]; omega
      rw [hmt] at hown5 ⊢
      obtain ⟨Z5, hZ5⟩ : ∃ Z5, Z5 = K.take m := ⟨_, rfl⟩
      rw [← hZ5] at hown5 hmt
      have HO45 := Lib.hid (HO4.out.below hb5)
      have HO5 := Lib.hid hown5
      have HZ5 := Lib.hid hmt
      have H34 := Lib.hid HQ4.out.size
      have HQ5 := Lib.hid (HQ4.out.trans (hb5.mono HQ4.out.size))
      clear hown5 hb5 Ho HO4 HQ4 hZ5 hmt
      go_wp2
      go_loopw [15, 58] (fun _ i wr => ∃ (j : Nat) (z : List ByteArray), j ≤ K.length ∧ i = .int .i64 (j : Int) ∧ Hid (z.length = K.length) ∧ Hid (OwnS wr w3.heap.size (.slice A4 K.length c4) z) ∧ Hid (OwnS wr w4.heap.size (.slice A5 m c5) Z5) ∧ Hid (Below w3.heap.size w3 wr)) (fun _ i _ => K.length - (intOf i).toNat)
      case atStart => exact ⟨0, K, Nat.zero_le _, rfl, Lib.hid rfl, HO45, HO5, HQ5⟩
      case round =>
        obtain ⟨j, z, hj, rfl, hz, ho4, ho5, hbel⟩ := hrel
        clear HO45 HO5 HQ5
        by_cases hjl : j < K.length
        · obtain ⟨g, e4, hg1, hg2, c0, f0, hset⟩ := ho4.out.at_ (j := j) (by rw [hz.out]; exact hjl)
          have Hg4 := Lib.hid (Hga.out g e4)
          subst e4
          have hjI : (j : Int) < (K.length : Int) := by omega
          have Hset := Lib.hid (hset s)
          have Hg1 := Lib.hid hg1
          clear hset hg1
          generalize z[j]'_ = s0 at c0
          go_wp2
          go_roundw
          case rel => exact ⟨j + 1, z.set j s, by omega, by go_num, Lib.hid (by rw [List.length_set]; exact hz.out), Hset, Lib.hid (ho5.out.far Hg4.out), Lib.hid (hbel.out.setCell (by exact Hg1.out) _)⟩
          case measure => simp [intOf]; omega
        · obtain rfl : j = K.length := by omega
          clear hjl hj ho4 hz
          go_wp2
          go_loopw [16, 68] (fun _ i wr => ∃ (j : Nat) (z : List ByteArray), j ≤ m ∧ i = .int .i64 (j : Int) ∧ Hid (z.length = m) ∧ Hid (OwnS wr w4.heap.size (.slice A5 m c5) z) ∧ Hid (Below w3.heap.size w3 wr)) (fun _ i _ => m - (intOf i).toNat)
          case atStart => exact ⟨0, Z5, Nat.zero_le _, rfl, HZ5, ho5, hbel⟩
          case round =>
            obtain ⟨j, z, hj, rfl, hz, ho, hbel2⟩ := hrel
            clear ho5 hbel
            by_cases hjl : j < m
            · obtain ⟨g, e5, hg1, hg2, c0, f0, hset⟩ := ho.out.at_ (j := j) (by rw [hz.out]; exact hjl)
              subst e5
              have hjI : (j : Int) < (m : Int) := by omega
              have Hset := Lib.hid (hset s)
              have Hg1 := Lib.hid (Nat.le_trans H34.out hg1)
              clear hset hg1
              generalize z[j]'_ = s0 at c0
              go_wp2
              go_roundw
              case rel => exact ⟨j + 1, z.set j s, by omega, by go_num, Lib.hid (by rw [List.length_set]; exact hz.out), Hset, Lib.hid (hbel2.out.setCell (by exact Hg1.out) _)⟩
              case measure => simp [intOf]; omega
            · obtain rfl : m = j := by omega
              clear hjl hj ho hz
              have HRE := Lib.hid (HR3.out.below hbel2.out)
              have HOE := Lib.hid (HO3.out.below hbel2.out)
              have HBE := Lib.hid (HB3.out.trans (hbel2.out.mono HB3.out.size))
              have hmt : (K.take m).length = m := by rw [List.length_take]; omega
              clear HR3 HO3 HB3 hbel2 H34 HZ5 Hga
              go_wp2_with fail
              refine (lgappend_nil s _).mono ?_
              rintro e w5 ⟨rfl, rfl⟩
              have HatN := Lib.hid (lgat_any none [] 0 n wr (LP.nobody wr))
              rw [Bm.lgAt_none [] 0 n (by simp)] at HatN
              go_wp2_with fail
              refine HatN.out.mono ?_
              rintro e w5 ⟨rfl, q5, rfl⟩
              clear HatN
              have HR6 := Lib.hid (show LG (wr.drewN q5) b K m from HRE.out.keep rfl)
              have HO6 := Lib.hid (show OwnS (wr.drewN q5) base (.slice AK K.length cK) K from HOE.out)
              have HB6 := Lib.hid (show Below w.heap.size w (wr.drewN q5) from ⟨HBE.out.os, HBE.out.tape, HBE.out.output, HBE.out.size, HBE.out.block⟩)
              clear HRE HOE HBE
              generalize wr.drewN q5 = w6 at *
              have hK1000 : K.length ≤ 1000 := by omega
              have hm1000 : (K.take m).length ≤ 1000 := by omega
              obtain ⟨AK', cK', eK, _, _, hKr⟩ := HO6.out.reads
              injection eK with e1 _ e3
              subst e1 e3
              have HKr := Lib.hid hKr
              have Hal := Lib.hid (fun W (hW : Below w6.heap.size w6 W) => lgall_rd (some ⟨b, 0, none⟩) K m W (HR6.out.below hW).some_)
              have Hol := Lib.hid (fun W (hW : Below w6.heap.size w6 W) => lgold_rd (some ⟨b, 0, none⟩) K m W (HR6.out.below hW).some_)
              have HalN := Lib.hid (fun W => lgall_rd none [] 0 W (LP.nobody W))
              have HolN := Lib.hid (fun W => lgold_rd none [] 0 W (LP.nobody W))
              have HtrN := Lib.hid (fun W => drew_below (lgtrunc_no none [] 0 n W (LP.nobody W) (by simp)))
              have HlenN := Lib.hid (fun W => drew_below (lglen_any none [] 0 W (LP.nobody W)))
              have HbaseN := Lib.hid (fun W => drew_below (lgbase_any none [] 0 W (LP.nobody W)))
              have HbyN := Lib.hid (fun W => drew_below (lgbytes_any none [] 0 W (LP.nobody W)))
              have Hs1 := Lib.hid (fun W A c (hA : Reads W A (strC K)) (hW : Below w6.heap.size w6 W) => drew_below (lgsame_any A AK c cK K W hK1000 hA (reads_on HKr.out hW)))
              have Hs2 := Lib.hid (fun W A c (hA : Reads W A (strC (K.take m))) (hW : Below w6.heap.size w6 W) => drew_below (lgsame_any A AK c cK (K.take m) W hm1000 hA (sreads_take (reads_on HKr.out hW))))
              rw [hmt] at Hs2
              have hcut := fun W => scut_to AK K.length cK m W hmK hKc
              clear hmt hK1000 hm1000 hKr
              have hwm : IntKind.i64.wrap (m : Int) = (m : Int) := IntWalk.i64_in _ (by omega)
              go_wp2_with fail
              go_region_held3 (fun W => Below w6.heap.size w6 W) (first | with_reducible assumption | exact (Below.refl w6.heap.size w6).drew) (first
                | (go_at_call 19; first
                    | ((with_reducible refine (Hal.out _ (by with_reducible assumption)).mono ?_); rintro e wX ⟨AX, cX, rfl, hrX, hbX⟩; have HX : Below w6.heap.size w6 wX := Below.trans (by with_reducible assumption) (hbX.mono (Below.size (by with_reducible assumption))); have HrX := Lib.hid hrX; clear hbX hrX)
                    | ((with_reducible refine (HalN.out _).mono ?_); rintro e wU ⟨AU, cU, rfl, _, hbU⟩; have HU : Below w6.heap.size w6 wU := Below.trans (by with_reducible assumption) (hbU.mono (Below.size (by with_reducible assumption))); clear hbU))
                | (go_at_call 20; first
                    | ((with_reducible refine (Hol.out _ (by with_reducible assumption)).mono ?_); rintro e wY ⟨AY, cY, rfl, hrY, hbY⟩; have HY : Below w6.heap.size w6 wY := Below.trans (by with_reducible assumption) (hbY.mono (Below.size (by with_reducible assumption))); have HrY := Lib.hid hrY; clear hbY hrY)
                    | ((with_reducible refine (HolN.out _).mono ?_); rintro e wV ⟨AV, cV, rfl, _, hbV⟩; have HV : Below w6.heap.size w6 wV := Below.trans (by with_reducible assumption) (hbV.mono (Below.size (by with_reducible assumption))); clear hbV))
                | (go_at_call 18; first
                    | ((with_reducible refine (Hs1.out _ _ _ HrX.out (by with_reducible assumption)).mono ?_); rintro e wS ⟨rfl, hbS⟩; have HS : Below w6.heap.size w6 wS := Below.trans (by with_reducible assumption) (hbS.mono (Below.size (by with_reducible assumption))); clear hbS)
                    | ((with_reducible refine (Hs2.out _ _ _ HrY.out (by with_reducible assumption)).mono ?_); rintro e wR ⟨rfl, hbR⟩; have HR : Below w6.heap.size w6 wR := Below.trans (by with_reducible assumption) (hbR.mono (Below.size (by with_reducible assumption))); clear hbR))
                | (go_at_call 10; (with_reducible refine (HtrN.out _).mono ?_); rintro e wT ⟨rfl, hbT⟩; have HT : Below w6.heap.size w6 wT := Below.trans (by with_reducible assumption) (hbT.mono (Below.size (by with_reducible assumption))); clear hbT)
                | (go_at_call 14; (with_reducible refine (HlenN.out _).mono ?_); rintro e wL ⟨rfl, hbL⟩; have HL : Below w6.heap.size w6 wL := Below.trans (by with_reducible assumption) (hbL.mono (Below.size (by with_reducible assumption))); clear hbL)
                | (go_at_call 15; (with_reducible refine (HbaseN.out _).mono ?_); rintro e wG ⟨rfl, hbG⟩; have HG : Below w6.heap.size w6 wG := Below.trans (by with_reducible assumption) (hbG.mono (Below.size (by with_reducible assumption))); clear hbG)
                | (go_at_call 16; (with_reducible refine (HbyN.out _).mono ?_); rintro e wZ ⟨rfl, hbZ⟩; have HZ : Below w6.heap.size w6 wZ := Below.trans (by with_reducible assumption) (hbZ.mono (Below.size (by with_reducible assumption))); clear hbZ))
              have HF := Lib.hid (HB6.out.trans (HV.mono HB6.out.size))
              clear HV
              go_wp2
              go_ret
              exact ⟨rfl, HF.out⟩
end Go.Proofs.Ytnaocegcnckhmaa
