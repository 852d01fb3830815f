/-
  BackSeals (layer 2), the statement's own walk: it returns true and changes nothing that was there. No condition beyond that the argument is a slice of pieces.
-/
import Derived.Test.YtllgbnolngenhaaYq
import Derived.Laws.AppendOwnNone
import Derived.Deep.DeepCutAuto
import Derived.Deep.LoopGhost
import Derived.RegionTactic
import Derived.Deep.RegionHeld3
namespace Go.Proofs.Ytllgbnolngenhaa
open Go.RowKit

set_option maxHeartbeats 400000 in
theorem kseals_long (A : Option Addr) (n c : Nat) (w : World) (h : 100 < n) (hn : n ≤ 9223372036854775807) :
    Calls Try.prog 3 #[.slice A n c] w fun e w' => e = .returned (.bool true) ∧ Below w.heap.size w w' := by
  go_enter Try.func3, Try.ntmps3
  go_wp2_with fail
  refine (kawake_any _).mono ?_
  rintro e w1 ⟨rfl, hb⟩
  go_wp2
  go_ret
  exact ⟨rfl, hb⟩

/-- What the first loop keeps: the bits that were put, as ints; the pieces; the Writer. -/
def SealRel (w wr : World) (bw k : Nat) (u u' : Value) (qs : List (Nat × Int)) (N n : Nat) : Prop :=
  qs.length ≤ k ∧ (∀ p ∈ qs, p.1 < 4294967296 ∧ 0 ≤ p.2 ∧ p.2 ≤ 32) ∧ enc qs qs.length = (N, n) ∧ wr.ownsRow (bw + 1) 3 1 u n (i64s (Bm.bitsOf N n)) ∧
  wr.ownsRow (bw + 1) 31 2 u' qs.length (pcells qs) ∧ WS wr bw 0 N n ∧ Below w.heap.size w wr ∧ bw < wr.heap.size
theorem SealRel.start {w wr : World} {bw : Nat} (hs : WS wr bw 0 0 0) (hb : Below w.heap.size w wr) (hl : bw < wr.heap.size) : SealRel w wr bw 0 (.slice none 0 0) (.slice none 0 0) [] 0 0 :=
  ⟨Nat.le_refl _, by simp, by simp [enc], World.ownsRow_nil _ _ _ _, World.ownsRow_nil _ _ _ _, hs, hb, hl⟩
theorem SealRel.bounds {w wr : World} {bw k N n : Nat} {u u' : Value} {qs : List (Nat × Int)} (h : SealRel w wr bw k u u' qs N n) : n ≤ 32 * k ∧ N < 2 ^ n := by
  have h1 := enc_le qs qs.length (Nat.le_refl _)
  have h2 := enc_lt qs qs.length (Nat.le_refl _)
  rw [h.2.2.1] at h1 h2
  have := h.1
  exact ⟨by simp only at h1; omega, h2⟩
/-- A piece that is refused. -/
theorem SealRel.skip {w wr : World} {bw k N n : Nat} {u u' : Value} {qs : List (Nat × Int)} (h : SealRel w wr bw k u u' qs N n) (o : Obj) : SealRel w (wr.alloc o) bw (k + 1) u u' qs N n := by
  obtain ⟨h1, h2, h3, h4, h5, h6, h7, h8⟩ := h
  exact ⟨by omega, h2, h3, h4.alloc o, h5.alloc o, h6.keep (row := none) (grown_alloc (grown_refl _ _) o) (by simp) (by simp), h7.alloc h7.size o, by simp; omega⟩

set_option maxRecDepth 100000 in
set_option maxHeartbeats 4000000 in
theorem kseals_short (A : Option Addr) (n c : Nat) (ps : List (Nat × Int)) (w : World) (h100 : n ≤ 100) (ha : ArgP w A n c ps) :
    Calls Try.prog 3 #[.slice A n c] w fun e w' => e = .returned (.bool true) ∧ Below w.heap.size w w' := by
  obtain ⟨i0, hi, hz0, hz1, hz2⟩ := info_parts info_int
  obtain ⟨j0, hj, hy0, hy1, hy2⟩ := info_parts info_p
  obtain ⟨hl, hps, hcells, hc, hcm⟩ := ha
  have Hl := Lib.hid hl
  have Hps := Lib.hid hps
  have Hcells := Lib.hid hcells
  clear hl hps hcells hc hcm
  go_enter Try.func3, Try.ntmps3
  go_wp2_with fail
  refine (kawake_any _).mono ?_
  rintro e w1 ⟨rfl, hb1⟩
  obtain ⟨bw, hbw⟩ : ∃ b, b = w1.heap.size := ⟨_, rfl⟩
  have hwb : w.heap.size ≤ bw := by rw [hbw]; exact hb1.size
  have hs0 : WS (w1.alloc (.cells #[.pointer none, .int .u64 0, .int .i64 0] 27)) bw 0 0 0 := by rw [hbw]; exact WS.new w1 27 notW
  have Hrel := Lib.hid (SealRel.start hs0 (hb1.alloc hb1.size (.cells #[.pointer none, .int .u64 0, .int .i64 0] 27)) (by rw [hbw]; simp))
  have Hbw := Lib.hid hbw
  clear hs0 hb1 hbw
  go_wp2
  rw [← Hbw.out]
  go_loopw [4, 5, 23] (fun u u' i wr => ∃ (k N0 n0 : Nat) (qs : List (Nat × Int)), k ≤ n ∧ i = .int .i64 (k : Int) ∧ Hid (SealRel w wr bw k u u' qs N0 n0)) (fun _ _ i _ => n - (intOf i).toNat)
  case atStart => exact ⟨0, 0, 0, [], Nat.zero_le _, rfl, Hrel⟩
  case round =>
    obtain ⟨k, N0, n0, qs, hk, rfl, hrel⟩ := hrel
    clear Hrel
    by_cases hlt : k < n
    · --L1
      obtain ⟨g, off, rfl, hg, hcl⟩ := Hcells.out (by omega)
      have hkl : k < ps.length := by rw [Hl.out]; exact hlt
      have hbel := hrel.out.2.2.2.2.2.2.1
      have hc0 := (hbel.cell (p := ⟨g, off + k * 2, none⟩) hg).trans (hcl k hkl).1
      have hc1 := (hbel.cell (p := ⟨g, off + k * 2 + 1, none⟩) hg).trans (hcl k hkl).2
      obtain ⟨hv, hz1', hz2'⟩ := Hps.out ps[k] (List.getElem_mem hkl)
      clear hcl hbel
      generalize ps[k].1 = v at hc0 hv
      generalize ps[k].2 = z at hc1 hz1' hz2'
      by_cases hbad : z < 0 ∨ 32 < z
      · have hbad' : z < 0 ∨ (0 ≤ z ∧ 32 < z) := by omega
        clear hbad
        rcases hbad' with hb | ⟨hb0, hb⟩
        all_goals
          have Hbad : Hid (z < 0 ∨ 32 < z) := by unfold Hid; omega
          have Hrel' := Lib.hid (hrel.out.skip (.cells #[.int .u32 (v : Int), .int .i64 z] 31))
          clear hrel
          go_wp2_with fail
          refine (put_false _ _ z _ Hbad.out).mono ?_
          rintro e w4 ⟨rfl, rfl⟩
          go_wp2
          go_roundw
          case rel => exact ⟨k + 1, N0, n0, qs, by omega, by go_num, Hrel'⟩
          case measure => simp [intOf]; omega
      · obtain ⟨q, rfl⟩ := Int.eq_ofNat_of_zero_le (show 0 ≤ z by omega)
        have hq : q ≤ 32 := by omega
        clear hbad hz1' hz2'
        obtain ⟨hnb, hN0⟩ := hrel.out.bounds
        obtain ⟨hqk, hqs, henc, hown, hkept, hws, hbel, hbl⟩ := hrel.out
        have hrel0 := hown
        have hput := put_true bw 0 N0 n0 v q (wr.alloc (.cells #[.int .u32 (v : Int), .int .i64 (q : Int)] 31)) (by omega) hv hq (hws.keep (row := none) (grown_alloc (grown_refl _ _) _) (by simp) (by simp))
        have Hput := Lib.hid hput
        have Hbox := Lib.hid (Row.new wr 31 [.int .u32 (v : Int), .int .i64 (q : Int)])
        have Hown1 := Lib.hid (hown.alloc (.cells #[.int .u32 (v : Int), .int .i64 (q : Int)] 31))
        have Hkept1 := Lib.hid (hkept.alloc (.cells #[.int .u32 (v : Int), .int .i64 (q : Int)] 31))
        have Hbel1 := Lib.hid (hbel.alloc hbel.size (.cells #[.int .u32 (v : Int), .int .i64 (q : Int)] 31))
        have Hqs := Lib.hid hqs
        have Henc := Lib.hid henc
        have HN0 := Lib.hid hN0
        clear hput hown hkept hbel hws hqs henc hN0 hrel
        have hqb : decide ((q : Int) ≤ 32) = true := by simp; omega
        go_wp2_with fail
        refine Hput.out.mono ?_
        rintro e w4 ⟨rfl, hws4, hg4⟩
        have hrow4 : Row w4 wr.heap.size 31 [.int .u32 (v : Int), .int .i64 (q : Int)] := Hbox.out.keep (hg4.block _ Hbox.out.lt (by intro e; injection e with e; omega))
        have d0 := hrow4.cell 0
        have d1 := hrow4.cell 1
        simp only [List.getElem?_cons_zero, List.getElem?_cons_succ] at d0 d1
        have hs4 := hg4.size
        simp only [World.size_alloc] at hs4
        have far : ∀ {e : TypeId} {s m : Nat} {xs : List Value} {u : Value}, (wr.alloc (.cells #[.int .u32 (v : Int), .int .i64 (q : Int)] 31)).ownsRow (bw + 1) e s u m xs → u.ownBlock = none ∨ u.ownBlock ≠ some bw := fun {e s m xs u} h => by
          rcases hob : u.ownBlock with _ | b
          · exact .inl rfl
          · refine .inr (fun e => ?_)
            injection e with e
            have := (h.lt b hob).1
            omega
        have Hown4 := Lib.hid (Hown1.out.kept hg4 (far Hown1.out))
        have Hkept4 := Lib.hid (Hkept1.out.kept hg4 (far Hkept1.out))
        have Hrow4 := Lib.hid hrow4
        have Hws4 := Lib.hid hws4
        have Hbel4 := Lib.hid (Hbel1.out.trans (below_grown hg4 hwb (by have := Hbel1.out.size; exact this)))
        clear Hput Hbox Hown1 Hkept1 Hbel1 hws4 hg4 hrow4 hc0 hc1 far
        go_wp2_with fail
        refine (rof_any v q _ hv hq).mono ?_
        rintro e w5 ⟨u5', rfl, hu5, hb5, hnil5⟩
        have hs5 := hb5.size
        have hrow5 := Hrow4.out.keep (hb5.block _ Hrow4.out.lt)
        have hown5 := ownK_below Hown4.out hb5
        have hkept5 := ownK_below Hkept4.out hb5
        have hws5 := Hws4.out.keep (grown_below hb5 none) (by simp) (by simp)
        have hbel5 := Hbel4.out.trans (hb5.mono Hbel4.out.size)
        have Hrow5 := Lib.hid hrow5
        have Hkept5 := Lib.hid hkept5
        have Hws5 := Lib.hid hws5
        have Hbel5 := Lib.hid hbel5
        have hlt4 : ∀ b, u4.ownBlock = some b → b < wr.heap.size := fun b e => (hrel0.lt b e).2
        have Hlt4 := Lib.hid hlt4
        clear Hown4 Hkept4 Hws4 Hbel4 Hrow4 hrow5 hkept5 hws5 hbel5 hb5 d0 d1 hnil5 hlt4 hrel0
        go_wp2_with (at_builtin; refine wpList_append_two rfl _ _ 28 rfl (bw + 1) 3 i0 (.int .i64 0) 1 8 Try.underlying28 hi hz0 hz1 hz2 rfl (by decide) _ _ _ rfl hown5 _ q _ rfl _ hu5 ?c2 ?c3 ?c4 ?c5 ?_)
        case c2 => intro y hy; simp [i64s] at hy; obtain ⟨a, _, rfl⟩ := hy; rfl
        case c3 => unfold maxLen; omega
        case c4 => omega
        case c5 => omega
        intro u6 w6 hown6 hgr6
        rw [i64s_append, Bm.bitsOf_append _ _ _ _ HN0.out] at hown6
        have hkept6 := Hkept5.out.kept hgr6 (own_apart Hkept5.out hown5 (by decide))
        have hws6 := Hws5.out.keep hgr6 (by
          intro e
          have := (hown5.lt bw e).1
          omega) (ownK_notT hown5 (by decide))
        have hbel6 := Hbel5.out.grown hgr6 Hbel5.out.size (fun b e => by have := (hown5.lt b e).1; omega)
        have hrow6 := Hrow5.out.keep (hgr6.block _ Hrow5.out.lt (fun e => by have := Hlt4.out _ e.symm; omega))
        have hs6 := hgr6.size
        have d0 := hrow6.cell 0
        have d1 := hrow6.cell 1
        simp only [List.getElem?_cons_zero, List.getElem?_cons_succ] at d0 d1
        have Hown6 := Lib.hid hown6
        have Hws6 := Lib.hid hws6
        have Hbel6 := Lib.hid hbel6
        clear hown6 hown5 hgr6 hws6 hbel6 hrow6 Hws5 Hbel5 Hkept5 Hrow5 Hlt4 hu5
        have Hkept6 := Lib.hid hkept6
        have Hs6 : bw + 1 ≤ w6.heap.size := by omega
        clear hkept6
        go_wp2_with (at_builtin; refine wpList_append_own _ rfl _ _ 22 rfl (bw + 1) 31 j0 (.agg #[.int .u32 0, .int .i64 0]) 2 16 Try.underlying22 hj hy0 hy1 hy2 rfl (by decide) _ _ _ rfl (Hkept6.out.alloc _) ⟨w6.heap.size, 0, none⟩ 1 1 [.int .u32 (v : Int), .int .i64 (q : Int)] rfl rfl ?e1 ?e2 ?e3 ?e4 ?e5 ?_)
        case e1 =>
          intro j u hj
          match j, hj with
          | 0, hj => simp at hj; subst hj; simp [Addr.add]
          | 1, hj => simp at hj; subst hj; simp [Addr.add]
        case e2 => intro u hu; simp at hu; rcases hu with rfl | rfl <;> rfl
        case e3 => unfold maxLen; omega
        case e4 => omega
        case e5 => simp; omega
        intro u7 w7 hkept7 hgr7 _
        have hpl : (qs ++ [(v, (q : Int))]).length = qs.length + 1 := by simp
        rw [pcells_snoc, ← hpl] at hkept7
        have hrel' : SealRel w w7 bw (k + 1) u6 u7 (qs ++ [(v, (q : Int))]) (N0 + v % 2 ^ q * 2 ^ n0) (n0 + q) := by
          refine ⟨by rw [hpl]; omega, ?_, ?_, (Hown6.out.alloc _).kept hgr7 ?_, hkept7, (Hws6.out.keep (row := none) (grown_alloc (grown_refl _ _) _) (by simp) (by simp)).keep hgr7 ?_ ?_, (Hbel6.out.alloc Hbel6.out.size _).grown hgr7 (by have := Hbel6.out.size; simp; omega) ?_, by have := hgr7.size; simp at this; omega⟩
          · intro p hp
            rcases List.mem_append.1 hp with hp | hp
            · exact Hqs.out p hp
            · obtain rfl := List.mem_singleton.1 hp
              exact ⟨hv, by simp; omega⟩
          · have h1 := enc_snoc qs v q hq
            rw [Henc.out] at h1
            exact h1
          · exact own_apart Hown6.out Hkept6.out (by decide)
          · intro e
            have := (Hkept6.out.lt bw e).1
            omega
          · exact ownK_notT (Hkept6.out.alloc _) (by decide)
          · intro b e
            have := (Hkept6.out.lt b e).1
            omega
        have Hrel' := Lib.hid hrel'
        clear hrel' hkept7 hgr7 hpl Hown6 Hkept6 Hws6 Hbel6 d0 d1
        go_wp2
        go_roundw
        case rel => exact ⟨k + 1, _, _, _, by omega, by go_num, Hrel'⟩
        case measure => simp [intOf]; omega
    · --L1E
      obtain rfl : k = n := by omega
      obtain ⟨hnb, hN0⟩ := hrel.out.bounds
      obtain ⟨hqk, hqs, henc, hown, hkept, hws, hbel, hbl⟩ := hrel.out
      have hn3200 : n0 ≤ 3200 := by omega
      have Hseal := Lib.hid (seal_any bw 0 N0 n0 wr (by omega) hN0 hws)
      obtain ⟨A1, c1, hform, _, _⟩ := own_reads hown
      obtain ⟨A5, c5, hform5⟩ := own_len hkept
      rw [hform] at hown ⊢
      rw [hform5] at hkept ⊢
      have HN0 := Lib.hid hN0
      have Hqs := Lib.hid hqs
      have Henc := Lib.hid henc
      have Hown := Lib.hid hown
      have Hkept := Lib.hid hkept
      have Hws := Lib.hid hws
      have Hbel := Lib.hid hbel
      clear hnb hN0 hqs henc hown hkept hws hbel hrel hform hform5
      go_wp2_with fail
      refine Hseal.out.mono ?_
      rintro e w2 ⟨gs, cs, rfl, hos, hb2⟩
      obtain ⟨hgs, hgsl, hcs, hcsm, hrs⟩ := own_place hos
      have hop := open_seal gs cs N0 n0 w2 (by omega) HN0.out hrs hgsl
      have Hop := Lib.hid hop
      have Hb2 := Lib.hid hb2
      have Hrs := Lib.hid hrs
      clear hos hop hb2 hrs hcs hcsm hgs Hseal
      go_wp2_with fail
      refine Hop.out.mono ?_
      rintro e w3 ⟨b, rfl, hts, hb3⟩
      have hlb := Bm.bytesOf_length (N0 + 2 ^ n0) (n0 / 8 + 1)
      have hbs := Bm.bytesOf_lt (N0 + 2 ^ n0) (n0 / 8 + 1)
      have hvb := Bm.valB_seal N0 n0 HN0.out
      generalize hbseq : Bm.bytesOf (N0 + 2 ^ n0) (n0 / 8 + 1) = bs at hlb hbs hvb hts
      generalize hL : n0 / 8 + 1 = L at hlb hbseq ⊢
      have hL401 : L ≤ 401 := by omega
      have hto : ∀ W, Below w3.heap.size w3 W → Below w2.heap.size w2 W := fun W hW => hb3.trans (hW.mono hb3.size)
      have hto2 : ∀ W, Below w3.heap.size w3 W → Below wr.heap.size wr W := fun W hW => Hb2.out.trans ((hto W hW).mono Hb2.out.size)
      have hgr : ∀ W, Below w3.heap.size w3 W → Reads W (some ⟨gs, 0, none⟩) (u8s bs) := fun W hW => by
        have h1 := Hrs.out
        rw [hL, hbseq] at h1
        exact reads_below h1 (hto W hW) (fun a e => by injection e with e; subst e; exact hgsl)
      have hcv : ∀ W, Below w3.heap.size w3 W → (convert 34 9 (.slice (some ⟨gs, 0, none⟩) L cs)).run Try.prog W = .ok (.string (strOf bs)) W := fun W hW => by
        have h1 := conv_bytes W (some ⟨gs, 0, none⟩) cs bs hbs (hgr W hW)
        rw [hlb] at h1
        exact h1
      have hle : ∀ W, Below w3.heap.size w3 W → Calls Try.prog 12 #[.pointer (some ⟨b, 0, none⟩)] W fun e w' => e = .returned (.int .i64 (n0 : Int)) ∧ W = w' := fun W hW => bleft_any _ b n0 bs W (hts.keep (grown_below hW none) (by simp))
      have hwsW : ∀ W, Below w3.heap.size w3 W → WS W bw 0 N0 n0 := fun W hW => Hws.out.keep (grown_below (hto2 W hW) none) (by simp) (by simp)
      have hln : ∀ W, Below w3.heap.size w3 W → Calls Try.prog 13 #[.pointer (some ⟨bw, 0, none⟩)] W fun e w' => e = .returned (.int .i64 (n0 : Int)) ∧ W = w' := fun W hW => len_any bw 0 _ W (hwsW W hW).len_cell
      have hse : ∀ W, Below w3.heap.size w3 W → Calls Try.prog 9 #[.pointer (some ⟨bw, 0, none⟩)] W fun e w' => ∃ g cap, e = .returned (.slice (some ⟨g, 0, none⟩) L cap) ∧ w'.ownsRow W.heap.size 5 1 (.slice (some ⟨g, 0, none⟩) L cap) L (u8s bs) ∧ Below W.heap.size W w' := fun W hW => by
        have h1 := seal_any bw 0 N0 n0 W (by omega) HN0.out (hwsW W hW)
        rw [hL, hbseq] at h1
        exact h1
      have hrl : ∀ W, Below w3.heap.size w3 W → Calls Try.prog 11 #[.slice A1 n0 c1] W fun e w' => ∃ u, e = .returned u ∧ w'.ownsRow W.heap.size 5 1 u L (u8s bs) ∧ Below W.heap.size W w' := fun W hW => by
        have h1 := rseal_own (by omega) HN0.out (ownK_below Hown.out (hto2 W hW))
        rw [hL, hbseq] at h1
        exact h1
      have hcu : ∀ W u base, W.ownsRow base 5 1 u L (u8s bs) → ∃ A c, u = .slice A L c ∧ (convert 34 9 (.slice A L c)).run Try.prog W = .ok (.string (strOf bs)) W := fun W u base h => by
        obtain ⟨A, c, e, h1, _⟩ := own_reads h
        have h2 := conv_bytes W A c bs hbs h1
        rw [hlb] at h2
        exact ⟨A, c, e, h2⟩
      have Hcv := Lib.hid hcv
      have Hle := Lib.hid hle
      have Hln := Lib.hid hln
      have Hse := Lib.hid hse
      have Hrl := Lib.hid hrl
      have Hcu := Lib.hid hcu
      have Hts := Lib.hid hts
      have Hb3 := Lib.hid hb3
      have Hlb := Lib.hid hlb
      have Hbs := Lib.hid hbs
      have Hvb := Lib.hid hvb
      have HL := Lib.hid hL
      clear hcv hle hln hse hrl hcu hts hb3 hlb hbs hvb hL hbseq hto hto2 hgr hwsW Hop Hrs Hws Hown
      go_upto_region 17 with fail
      go_cut [79] (fun s79 wx => s79 = .bool false ∧ Below w3.heap.size w3 wx)
      case first =>
        have hcv := Hcv.out
        refine wp_region_held_drew (S := (fun W => Below w3.heap.size w3 W)) (by kernel_rfl) (by exact (Below.refl w3.heap.size w3).drew) (fun hHeld => ?_)
        refine wpAnyH_take (i := 0) (oi := { dst := some 50, op := Go.Op.move (Go.Operand.tmp 8), type := 34, pos := "law.go:40", after := #[], guard := none }) (v := ?_) rfl (by kernel_rfl) (by kernel_rfl) (by kernel_rfl) (fun _ _ _ h => h) (Or.inl ⟨by rfl, ?_⟩) (by assumption) ?_
        rotate_left
        · (intro w hSw; (try dsimp only at hSw); go_simp; (try with_reducible rfl))
        try simp only [Act.put, List.setIfInBounds_toArray, List.set_cons_zero, List.set_cons_succ]
        refine wpAnyH_take (i := 1) (oi := { dst := some 51, op := Go.Op.convert 34 9 (Go.Operand.tmp 50), type := 9, pos := "law.go:40", after := #[{ on := 0, ground := Go.Ground.data }], guard := none }) (v := ?_) rfl (by kernel_rfl) (by kernel_rfl) (by kernel_rfl) (fun _ _ _ h => h) (Or.inl ⟨by rfl, ?_⟩) (by assumption) ?_
        rotate_left
        · (intro w hSw; (try dsimp only at hSw); go_simp; (try with_reducible rfl))
        try simp only [Act.put, List.setIfInBounds_toArray, List.set_cons_zero, List.set_cons_succ]
        refine wpAnyH_take (i := 2) (oi := { dst := some 52, op := Go.Op.move (Go.Operand.tmp 4), type := 28, pos := "law.go:40", after := #[], guard := none }) (v := ?_) rfl (by kernel_rfl) (by kernel_rfl) (by kernel_rfl) (fun _ _ _ h => h) (Or.inl ⟨by rfl, ?_⟩) (by assumption) ?_
        rotate_left
        · (intro w hSw; (try dsimp only at hSw); go_simp; (try with_reducible rfl))
        try simp only [Act.put, List.setIfInBounds_toArray, List.set_cons_zero, List.set_cons_succ]
        refine wpAnyH_ready (rs := [3]) (by kernel_rfl) (by simp) ?_
        refine AllReadyH.cons (o := { dst := some 53, op := Go.Op.call { callee := Go.Callee.value (Go.Operand.func 11), args := #[Go.Operand.tmp 52], argTypes := #[28] }, type := 34, pos := "law.go:40", after := #[{ on := 2, ground := Go.Ground.data }], guard := none }) rfl (fun K hK => ?_) AllReadyH.nil
        go_simp
        (go_at_call 11; refine (Hrl.out _ (Below.refl w3.heap.size w3).drew).mono ?_; rintro e wA ⟨uA, rfl, hoA, hbA⟩; obtain ⟨AA, cA, hfA, hcA⟩ := Hcu.out _ _ _ hoA; rw [hfA]; have HwA := Lib.hid ((Below.refl w3.heap.size w3).drew.trans hbA); clear hfA hoA hbA)
        go_simp
        refine hK.out _ _ (by exact HwA.out) (fun hHeld => ?_)
        clear hK K
        try simp only [Act.put, List.setIfInBounds_toArray, List.set_cons_zero, List.set_cons_succ]
        refine wpAnyH_ready (rs := [4]) (by kernel_rfl) (by simp) ?_
        refine AllReadyH.cons (o := { dst := some 54, op := Go.Op.convert 34 9 (Go.Operand.tmp 53), type := 9, pos := "law.go:40", after := #[{ on := 3, ground := Go.Ground.data }], guard := none }) rfl (fun K hK => ?_) AllReadyH.nil
        go_simp
        refine hK.out _ _ (by exact HwA.out) (fun hHeld => ?_)
        clear hK K
        try simp only [Act.put, List.setIfInBounds_toArray, List.set_cons_zero, List.set_cons_succ]
        refine wpAnyH_take (i := 5) (oi := { dst := some 55, op := Go.Op.binOp Go.BinOp.neq 9 (Go.Operand.tmp 51) (Go.Operand.tmp 54) 9, type := 4, pos := "law.go:40", after := #[{ on := 1, ground := Go.Ground.data }, { on := 4, ground := Go.Ground.data }], guard := none }) (v := ?_) rfl (by kernel_rfl) (by kernel_rfl) (by kernel_rfl) (fun _ _ _ h => h) (Or.inl ⟨by rfl, ?_⟩) (by assumption) ?_
        rotate_left
        · (intro w hSw; (try dsimp only at hSw); go_simp; (try with_reducible rfl))
        try simp only [Act.put, List.setIfInBounds_toArray, List.set_cons_zero, List.set_cons_succ]
        refine wpAnyH_take (i := 6) (oi := { dst := some 56, op := Go.Op.move (Go.Operand.tmp 55), type := 4, pos := "law.go:40", after := #[{ on := 5, ground := Go.Ground.data }, { on := 3, ground := Go.Ground.chain }], guard := none }) (v := ?_) rfl (by kernel_rfl) (by kernel_rfl) (by kernel_rfl) (fun _ _ _ h => h) (Or.inl ⟨by rfl, ?_⟩) (by assumption) ?_
        rotate_left
        · (intro w hSw; (try dsimp only at hSw); go_simp; (try with_reducible rfl))
        try simp only [Act.put, List.setIfInBounds_toArray, List.set_cons_zero, List.set_cons_succ]
        refine wpAnyH_take (i := 7) (oi := { dst := some 57, op := Go.Op.move (Go.Operand.tmp 10), type := 4, pos := "law.go:40", after := #[{ on := 6, ground := Go.Ground.guard }], guard := some (6, false) }) (v := ?_) rfl (by kernel_rfl) (by kernel_rfl) (by kernel_rfl) (fun _ _ _ h => h) (Or.inl ⟨by rfl, ?_⟩) (by assumption) ?_
        rotate_left
        · (intro w hSw; (try dsimp only at hSw); go_simp; (try with_reducible rfl))
        try simp only [Act.put, List.setIfInBounds_toArray, List.set_cons_zero, List.set_cons_succ]
        refine wpAnyH_take (i := 8) (oi := { dst := some 58, op := Go.Op.unOp Go.UnOp.not 4 (Go.Operand.tmp 57), type := 4, pos := "law.go:40", after := #[{ on := 7, ground := Go.Ground.data }, { on := 6, ground := Go.Ground.guard }], guard := some (6, false) }) (v := ?_) rfl (by kernel_rfl) (by kernel_rfl) (by kernel_rfl) (fun _ _ _ h => h) (Or.inl ⟨by rfl, ?_⟩) (by assumption) ?_
        rotate_left
        · (intro w hSw; (try dsimp only at hSw); go_simp; (try with_reducible rfl))
        try simp only [Act.put, List.setIfInBounds_toArray, List.set_cons_zero, List.set_cons_succ]
        refine wpAnyH_take (i := 9) (oi := { dst := some 59, op := Go.Op.pick (Go.Operand.tmp 56) (Go.Operand.const (Go.Value.bool true)) (Go.Operand.tmp 58), type := 4, pos := "law.go:40", after := #[{ on := 6, ground := Go.Ground.data }, { on := 8, ground := Go.Ground.data }], guard := none }) (v := ?_) rfl (by kernel_rfl) (by kernel_rfl) (by kernel_rfl) (fun _ _ _ h => h) (Or.inl ⟨by rfl, ?_⟩) (by assumption) ?_
        rotate_left
        · (intro w hSw; (try dsimp only at hSw); go_simp; (try with_reducible rfl))
        try simp only [Act.put, List.setIfInBounds_toArray, List.set_cons_zero, List.set_cons_succ]
        refine wpAnyH_take (i := 10) (oi := { dst := some 60, op := Go.Op.move (Go.Operand.tmp 59), type := 4, pos := "law.go:40", after := #[{ on := 9, ground := Go.Ground.data }, { on := 6, ground := Go.Ground.chain }], guard := none }) (v := ?_) rfl (by kernel_rfl) (by kernel_rfl) (by kernel_rfl) (fun _ _ _ h => h) (Or.inl ⟨by rfl, ?_⟩) (by assumption) ?_
        rotate_left
        · (intro w hSw; (try dsimp only at hSw); go_simp; (try with_reducible rfl))
        try simp only [Act.put, List.setIfInBounds_toArray, List.set_cons_zero, List.set_cons_succ]
        refine wpAnyH_take (i := 11) (oi := { dst := some 61, op := Go.Op.move (Go.Operand.tmp 9), type := 37, pos := "law.go:40", after := #[{ on := 10, ground := Go.Ground.guard }], guard := some (10, false) }) (v := ?_) rfl (by kernel_rfl) (by kernel_rfl) (by kernel_rfl) (fun _ _ _ h => h) (Or.inl ⟨by rfl, ?_⟩) (by assumption) ?_
        rotate_left
        · (intro w hSw; (try dsimp only at hSw); go_simp; (try with_reducible rfl))
        try simp only [Act.put, List.setIfInBounds_toArray, List.set_cons_zero, List.set_cons_succ]
        refine wpAnyH_take (i := 13) (oi := { dst := some 63, op := Go.Op.move (Go.Operand.tmp 4), type := 28, pos := "law.go:40", after := #[{ on := 10, ground := Go.Ground.guard }], guard := some (10, false) }) (v := ?_) rfl (by kernel_rfl) (by kernel_rfl) (by kernel_rfl) (fun _ _ _ h => h) (Or.inl ⟨by rfl, ?_⟩) (by assumption) ?_
        rotate_left
        · (intro w hSw; (try dsimp only at hSw); go_simp; (try with_reducible rfl))
        try simp only [Act.put, List.setIfInBounds_toArray, List.set_cons_zero, List.set_cons_succ]
        refine wpAnyH_take (i := 14) (oi := { dst := some 64, op := Go.Op.call { callee := Go.Callee.builtin Go.Builtin.len, args := #[Go.Operand.tmp 63], argTypes := #[28] }, type := 3, pos := "law.go:40", after := #[{ on := 13, ground := Go.Ground.data }, { on := 10, ground := Go.Ground.guard }], guard := some (10, false) }) (v := ?_) rfl (by kernel_rfl) (by kernel_rfl) (by kernel_rfl) (fun _ _ _ h => h) (Or.inl ⟨by rfl, ?_⟩) (by assumption) ?_
        rotate_left
        · (intro w hSw; (try dsimp only at hSw); go_simp; (try with_reducible rfl))
        try simp only [Act.put, List.setIfInBounds_toArray, List.set_cons_zero, List.set_cons_succ]
        refine wpAnyH_ready (rs := [12]) (by kernel_rfl) (by simp) ?_
        refine AllReadyH.cons (o := { dst := some 62, op := Go.Op.call { callee := Go.Callee.value (Go.Operand.func 12), args := #[Go.Operand.tmp 61], argTypes := #[37] }, type := 3, pos := "law.go:40", after := #[{ on := 11, ground := Go.Ground.data }, { on := 10, ground := Go.Ground.chain }, { on := 10, ground := Go.Ground.guard }], guard := some (10, false) }) rfl (fun K hK => ?_) AllReadyH.nil
        go_simp
        (go_at_call 12; refine (Hle.out _ HwA.out).mono ?_; rintro e w' ⟨rfl, rfl⟩)
        go_simp
        refine hK.out _ _ (by exact HwA.out) (fun hHeld => ?_)
        clear hK K
        try simp only [Act.put, List.setIfInBounds_toArray, List.set_cons_zero, List.set_cons_succ]
        refine wpAnyH_take (i := 15) (oi := { dst := some 65, op := Go.Op.binOp Go.BinOp.neq 3 (Go.Operand.tmp 62) (Go.Operand.tmp 64) 3, type := 4, pos := "law.go:40", after := #[{ on := 12, ground := Go.Ground.data }, { on := 14, ground := Go.Ground.data }, { on := 10, ground := Go.Ground.guard }], guard := some (10, false) }) (v := ?_) rfl (by kernel_rfl) (by kernel_rfl) (by kernel_rfl) (fun _ _ _ h => h) (Or.inl ⟨by rfl, ?_⟩) (by assumption) ?_
        rotate_left
        · (intro w hSw; (try dsimp only at hSw); go_simp; (try with_reducible rfl))
        try simp only [Act.put, List.setIfInBounds_toArray, List.set_cons_zero, List.set_cons_succ]
        refine wpAnyH_take (i := 16) (oi := { dst := some 66, op := Go.Op.pick (Go.Operand.tmp 60) (Go.Operand.const (Go.Value.bool true)) (Go.Operand.tmp 65), type := 4, pos := "law.go:40", after := #[{ on := 10, ground := Go.Ground.data }, { on := 15, ground := Go.Ground.data }], guard := none }) (v := ?_) rfl (by kernel_rfl) (by kernel_rfl) (by kernel_rfl) (fun _ _ _ h => h) (Or.inl ⟨by rfl, ?_⟩) (by assumption) ?_
        rotate_left
        · (intro w hSw; (try dsimp only at hSw); go_simp; (try with_reducible rfl))
        try simp only [Act.put, List.setIfInBounds_toArray, List.set_cons_zero, List.set_cons_succ]
        refine wpAnyH_take (i := 17) (oi := { dst := some 67, op := Go.Op.move (Go.Operand.tmp 66), type := 4, pos := "law.go:40", after := #[{ on := 16, ground := Go.Ground.data }, { on := 12, ground := Go.Ground.chain }], guard := none }) (v := ?_) rfl (by kernel_rfl) (by kernel_rfl) (by kernel_rfl) (fun _ _ _ h => h) (Or.inl ⟨by rfl, ?_⟩) (by assumption) ?_
        rotate_left
        · (intro w hSw; (try dsimp only at hSw); go_simp; (try with_reducible rfl))
        try simp only [Act.put, List.setIfInBounds_toArray, List.set_cons_zero, List.set_cons_succ]
        refine wpAnyH_take (i := 19) (oi := { dst := some 69, op := Go.Op.move (Go.Operand.tmp 4), type := 28, pos := "law.go:40", after := #[{ on := 17, ground := Go.Ground.guard }], guard := some (17, false) }) (v := ?_) rfl (by kernel_rfl) (by kernel_rfl) (by kernel_rfl) (fun _ _ _ h => h) (Or.inl ⟨by rfl, ?_⟩) (by assumption) ?_
        rotate_left
        · (intro w hSw; (try dsimp only at hSw); go_simp; (try with_reducible rfl))
        try simp only [Act.put, List.setIfInBounds_toArray, List.set_cons_zero, List.set_cons_succ]
        refine wpAnyH_take (i := 20) (oi := { dst := some 70, op := Go.Op.call { callee := Go.Callee.builtin Go.Builtin.len, args := #[Go.Operand.tmp 69], argTypes := #[28] }, type := 3, pos := "law.go:40", after := #[{ on := 19, ground := Go.Ground.data }, { on := 17, ground := Go.Ground.guard }], guard := some (17, false) }) (v := ?_) rfl (by kernel_rfl) (by kernel_rfl) (by kernel_rfl) (fun _ _ _ h => h) (Or.inl ⟨by rfl, ?_⟩) (by assumption) ?_
        rotate_left
        · (intro w hSw; (try dsimp only at hSw); go_simp; (try with_reducible rfl))
        try simp only [Act.put, List.setIfInBounds_toArray, List.set_cons_zero, List.set_cons_succ]
        refine wpAnyH_ready (rs := [18]) (by kernel_rfl) (by simp) ?_
        refine AllReadyH.cons (o := { dst := some 68, op := Go.Op.call { callee := Go.Callee.value (Go.Operand.func 13), args := #[Go.Operand.tmp 3], argTypes := #[27] }, type := 3, pos := "law.go:40", after := #[{ on := 17, ground := Go.Ground.chain }, { on := 17, ground := Go.Ground.guard }], guard := some (17, false) }) rfl (fun K hK => ?_) AllReadyH.nil
        go_simp
        (go_at_call 13; refine (Hln.out _ HwA.out).mono ?_; rintro e w' ⟨rfl, rfl⟩)
        go_simp
        refine hK.out _ _ (by exact HwA.out) (fun hHeld => ?_)
        clear hK K
        try simp only [Act.put, List.setIfInBounds_toArray, List.set_cons_zero, List.set_cons_succ]
        refine wpAnyH_take (i := 21) (oi := { dst := some 71, op := Go.Op.binOp Go.BinOp.neq 3 (Go.Operand.tmp 68) (Go.Operand.tmp 70) 3, type := 4, pos := "law.go:40", after := #[{ on := 18, ground := Go.Ground.data }, { on := 20, ground := Go.Ground.data }, { on := 17, ground := Go.Ground.guard }], guard := some (17, false) }) (v := ?_) rfl (by kernel_rfl) (by kernel_rfl) (by kernel_rfl) (fun _ _ _ h => h) (Or.inl ⟨by rfl, ?_⟩) (by assumption) ?_
        rotate_left
        · (intro w hSw; (try dsimp only at hSw); go_simp; (try with_reducible rfl))
        try simp only [Act.put, List.setIfInBounds_toArray, List.set_cons_zero, List.set_cons_succ]
        refine wpAnyH_take (i := 22) (oi := { dst := some 72, op := Go.Op.pick (Go.Operand.tmp 67) (Go.Operand.const (Go.Value.bool true)) (Go.Operand.tmp 71), type := 4, pos := "law.go:40", after := #[{ on := 17, ground := Go.Ground.data }, { on := 21, ground := Go.Ground.data }], guard := none }) (v := ?_) rfl (by kernel_rfl) (by kernel_rfl) (by kernel_rfl) (fun _ _ _ h => h) (Or.inl ⟨by rfl, ?_⟩) (by assumption) ?_
        rotate_left
        · (intro w hSw; (try dsimp only at hSw); go_simp; (try with_reducible rfl))
        try simp only [Act.put, List.setIfInBounds_toArray, List.set_cons_zero, List.set_cons_succ]
        refine wpAnyH_take (i := 23) (oi := { dst := some 73, op := Go.Op.move (Go.Operand.tmp 72), type := 4, pos := "law.go:40", after := #[{ on := 22, ground := Go.Ground.data }, { on := 18, ground := Go.Ground.chain }], guard := none }) (v := ?_) rfl (by kernel_rfl) (by kernel_rfl) (by kernel_rfl) (fun _ _ _ h => h) (Or.inl ⟨by rfl, ?_⟩) (by assumption) ?_
        rotate_left
        · (intro w hSw; (try dsimp only at hSw); go_simp; (try with_reducible rfl))
        try simp only [Act.put, List.setIfInBounds_toArray, List.set_cons_zero, List.set_cons_succ]
        refine wpAnyH_take (i := 26) (oi := { dst := some 76, op := Go.Op.move (Go.Operand.tmp 8), type := 34, pos := "law.go:40", after := #[{ on := 23, ground := Go.Ground.guard }], guard := some (23, false) }) (v := ?_) rfl (by kernel_rfl) (by kernel_rfl) (by kernel_rfl) (fun _ _ _ h => h) (Or.inl ⟨by rfl, ?_⟩) (by assumption) ?_
        rotate_left
        · (intro w hSw; (try dsimp only at hSw); go_simp; (try with_reducible rfl))
        try simp only [Act.put, List.setIfInBounds_toArray, List.set_cons_zero, List.set_cons_succ]
        refine wpAnyH_take (i := 27) (oi := { dst := some 77, op := Go.Op.convert 34 9 (Go.Operand.tmp 76), type := 9, pos := "law.go:40", after := #[{ on := 26, ground := Go.Ground.data }, { on := 23, ground := Go.Ground.guard }], guard := some (23, false) }) (v := ?_) rfl (by kernel_rfl) (by kernel_rfl) (by kernel_rfl) (fun _ _ _ h => h) (Or.inl ⟨by rfl, ?_⟩) (by assumption) ?_
        rotate_left
        · (intro w hSw; (try dsimp only at hSw); go_simp; (try with_reducible rfl))
        try simp only [Act.put, List.setIfInBounds_toArray, List.set_cons_zero, List.set_cons_succ]
        refine wpAnyH_ready (rs := [24]) (by kernel_rfl) (by simp) ?_
        refine AllReadyH.cons (o := { dst := some 74, op := Go.Op.call { callee := Go.Callee.value (Go.Operand.func 9), args := #[Go.Operand.tmp 3], argTypes := #[36] }, type := 34, pos := "law.go:40", after := #[{ on := 23, ground := Go.Ground.chain }, { on := 23, ground := Go.Ground.guard }], guard := some (23, false) }) rfl (fun K hK => ?_) AllReadyH.nil
        go_simp
        (go_at_call 9; refine (Hse.out _ HwA.out).mono ?_; rintro e wC ⟨gC, cC, rfl, hoC, hbC⟩; obtain ⟨AC, cC', hfC, hcC⟩ := Hcu.out _ _ _ hoC; injection hfC with e1 e2 e3; subst e1 e3; have HwC := Lib.hid (HwA.out.trans (hbC.mono HwA.out.size)); clear hoC hbC)
        go_simp
        refine hK.out _ _ (by exact HwC.out) (fun hHeld => ?_)
        clear hK K
        try simp only [Act.put, List.setIfInBounds_toArray, List.set_cons_zero, List.set_cons_succ]
        refine wpAnyH_ready (rs := [25]) (by kernel_rfl) (by simp) ?_
        refine AllReadyH.cons (o := { dst := some 75, op := Go.Op.convert 34 9 (Go.Operand.tmp 74), type := 9, pos := "law.go:40", after := #[{ on := 24, ground := Go.Ground.data }, { on := 23, ground := Go.Ground.guard }], guard := some (23, false) }) rfl (fun K hK => ?_) AllReadyH.nil
        go_simp
        refine hK.out _ _ (by exact HwC.out) (fun hHeld => ?_)
        clear hK K
        try simp only [Act.put, List.setIfInBounds_toArray, List.set_cons_zero, List.set_cons_succ]
        refine wpAnyH_take (i := 28) (oi := { dst := some 78, op := Go.Op.binOp Go.BinOp.neq 9 (Go.Operand.tmp 75) (Go.Operand.tmp 77) 9, type := 4, pos := "law.go:40", after := #[{ on := 25, ground := Go.Ground.data }, { on := 27, ground := Go.Ground.data }, { on := 23, ground := Go.Ground.guard }], guard := some (23, false) }) (v := ?_) rfl (by kernel_rfl) (by kernel_rfl) (by kernel_rfl) (fun _ _ _ h => h) (Or.inl ⟨by rfl, ?_⟩) (by assumption) ?_
        rotate_left
        · (intro w hSw; (try dsimp only at hSw); go_simp; (try with_reducible rfl))
        try simp only [Act.put, List.setIfInBounds_toArray, List.set_cons_zero, List.set_cons_succ]
        refine wpAnyH_take (i := 29) (oi := { dst := some 79, op := Go.Op.pick (Go.Operand.tmp 73) (Go.Operand.const (Go.Value.bool true)) (Go.Operand.tmp 78), type := 4, pos := "law.go:40", after := #[{ on := 23, ground := Go.Ground.data }, { on := 28, ground := Go.Ground.data }], guard := none }) (v := ?_) rfl (by kernel_rfl) (by kernel_rfl) (by kernel_rfl) (fun _ _ _ h => h) (Or.inl ⟨by rfl, ?_⟩) (by assumption) ?_
        rotate_left
        · (intro w hSw; (try dsimp only at hSw); go_simp; (try with_reducible rfl))
        try simp only [Act.put, List.setIfInBounds_toArray, List.set_cons_zero, List.set_cons_succ]
        refine wpAnyH_done (by kernel_rfl) ?_ _
        all_goals (go_wp2_with fail; go_meet; exact ⟨rfl, HwC.out⟩)
      case rest =>
        obtain ⟨rfl, hbc⟩ := hcut
        have hb2c : Below w2.heap.size w2 wc := Hb3.out.trans (hbc.mono Hb3.out.size)
        have htsc := Hts.out.keep (grown_below hbc none) (by simp)
        have hbb : w2.heap.size ≤ b := by
          obtain ⟨_, _, _, _, _, h, _⟩ := htsc
          exact h
        have Hb2c := Lib.hid hb2c
        have Htsc := Lib.hid htsc
        have hbwl : w.heap.size ≤ wr.heap.size := Hbel.out.size
        have hkc : ∀ j (hj : j < qs.length), ∃ g, Value.slice A5 qs.length c5 = .slice (some ⟨g, 0, none⟩) qs.length c5 ∧ g < w2.heap.size ∧ w2.cell? ⟨g, j * 2, none⟩ = some (.int .u32 (qs[j].1 : Int)) ∧ w2.cell? ⟨g, j * 2 + 1, none⟩ = some (.int .i64 qs[j].2) := fun j hj => by
          obtain ⟨g, cap, e, _, hgl, hcl⟩ := own_pieces Hkept.out (by omega)
          injection e with e1 e2 e3
          subst e1 e3
          obtain ⟨k0, k1⟩ := hcl j hj
          exact ⟨g, rfl, Nat.lt_of_lt_of_le hgl Hb2.out.size, (Hb2.out.cell (p := ⟨g, j * 2, none⟩) hgl).trans k0, (Hb2.out.cell (p := ⟨g, j * 2 + 1, none⟩) hgl).trans k1⟩
        have Hkc := Lib.hid hkc
        clear hbc hb2c htsc hkc Hts Hb3 Hcv Hle Hln Hse Hrl Hcu Hkept
        have hq100 : qs.length ≤ 100 := by omega
        go_wp2
        go_loopw [11] (fun i wr' => ∃ j : Nat, j ≤ qs.length ∧ i = .int .i64 ((j : Int) - 1) ∧ Hid (TS wr' w2.heap.size b bs (enc qs j).2) ∧ Hid (Below w2.heap.size w2 wr')) (fun i _ => (intOf i + 1).toNat)
        case atStart => exact ⟨qs.length, Nat.le_refl _, rfl, by rw [Henc.out]; exact Htsc, Hb2c⟩
        case round =>
          obtain ⟨j, hj, rfl, hts, hbl⟩ := hrel
          clear Htsc Hb2c
          rcases Nat.eq_zero_or_pos j with hj0 | hj0
          · subst hj0
            have h1 : Calls Try.prog 14 #[.pointer (some ⟨b, 0, none⟩), .int .i64 1] wr fun e w' => e = .returned (.tuple #[.int .u32 0, .bool false]) ∧ wr = w' := btk_few w2.heap.size b (enc qs 0).2 bs 1 wr (by omega) (by rw [enc_zero]; exact Nat.zero_lt_one) hts.out
            have h2 : Calls Try.prog 12 #[.pointer (some ⟨b, 0, none⟩)] wr fun e w' => e = .returned (.int .i64 0) ∧ wr = w' := by
              have h3 := bleft_any _ b _ bs wr hts.out
              rw [enc_zero] at h3
              exact h3
            have H1 := Lib.hid h1
            have H2 := Lib.hid h2
            clear h1 h2 hts Hkc
            go_wp2_with fail
            refine H1.out.mono ?_
            rintro e w7 ⟨rfl, rfl⟩
            go_wp2_with fail
            refine H2.out.mono ?_
            rintro e w7 ⟨rfl, rfl⟩
            go_wp2
            go_ret
            exact ⟨rfl, Hbel.out.trans ((Hb2.out.trans (hbl.out.mono Hb2.out.size)).mono hbwl)⟩
          · obtain ⟨j, rfl⟩ : ∃ i, j = i + 1 := ⟨j - 1, by omega⟩
            rw [show (((j + 1 : Nat) : Int) - 1) = (j : Int) by omega]
            have hjl : j < qs.length := by omega
            have hjz : (j : Int) < (qs.length : Int) := by omega
            obtain ⟨g, hf, hgl, k0, k1⟩ := Hkc.out j hjl
            injection hf with hf
            subst hf
            have c0 := (hbl.out.cell (p := ⟨g, j * 2, none⟩) hgl).trans k0
            have c1 := (hbl.out.cell (p := ⟨g, j * 2 + 1, none⟩) hgl).trans k1
            obtain ⟨hv, hz0, hz1⟩ := Hqs.out qs[j] (List.getElem_mem hjl)
            have henct := enc_take qs j hjl
            have hencp := enc_pos qs j hjl
            have henck := enc_ok qs j hjl
            rw [Henc.out] at henct hencp
            simp only at henct hencp
            generalize qs[j].1 = v at c0 hv henct henck
            generalize qs[j].2 = z at c1 hz0 hz1 henct hencp henck
            obtain ⟨q, rfl⟩ := Int.eq_ofNat_of_zero_le hz0
            have hq : q ≤ 32 := by omega
            have hP := hencp q rfl hq
            have hT := henct q rfl hq
            have hE := congrArg Prod.snd (henck q rfl hq)
            simp only at hE
            rw [hE] at hts
            generalize hpos : (enc qs j).2 = pos at hts hP hT
            have hlb := Hlb.out
            have hL := HL.out
            have hcall := btk_ok w2.heap.size b (pos + q) bs q wr (by omega) Hbs.out hq (by omega) (by omega) hts.out
            rw [Nat.add_sub_cancel, Hvb.out, Bm.seal_digit N0 n0 pos q hP, hT] at hcall
            generalize hy : v % 2 ^ q = y at hcall
            have Hcall := Lib.hid hcall
            have Hy := Lib.hid hy
            have Hpos := Lib.hid hpos
            have hqb : decide ((q : Int) ≤ 32) = true := by simp; omega
            clear hcall hy hpos hP hT hE henct hencp henck hts hz0 hz1 hlb hL k0 k1 Hkc
            go_wp2_with fail
            refine Hcall.out.mono ?_
            rintro e w7 ⟨rfl, hts7, hg7⟩
            have hbl7 := hbl.out.trans (below_grown hg7 hbb hbl.out.size)
            have hgb : g ≠ b := by omega
            have hgw : g < wr.heap.size := Nat.lt_of_lt_of_le hgl hbl.out.size
            have d0 := (World.cell?_of_block (a := ⟨g, j * 2, none⟩) (hg7.block g hgw (by intro e; injection e with e; exact hgb e))).trans c0
            have d1 := (World.cell?_of_block (a := ⟨g, j * 2 + 1, none⟩) (hg7.block g hgw (by intro e; injection e with e; exact hgb e))).trans c1
            have Hts7 := Lib.hid hts7
            have Hbl7 := Lib.hid hbl7
            clear hts7 hbl7 hg7 hbl Hcall c0 c1 hgw
            go_upto_region 23 with fail
            go_region_held3 (fun W => W.cell? ⟨g, j * 2, none⟩ = some (.int .u32 (v : Int)) ∧ W.cell? ⟨g, j * 2 + 1, none⟩ = some (.int .i64 (q : Int))) (first | exact ⟨k8, l8⟩ | exact ⟨d0, d1⟩) (first
              | (go_at_call 8; refine (rof_any v q _ hv hq).mono ?_; rintro e w8 ⟨u8', rfl, hu8, hb8, _⟩; obtain ⟨A8, c8, hf8, _, _, hrest8⟩ := own_rest hu8; rw [hf8]; have hnum := rnum_rest (c := c8) hrest8 (Nat.le_refl _) hq; rw [Hy.out] at hnum; have Hnum := Lib.hid hnum; have Hb8 := Lib.hid ((Below.refl w7.heap.size w7).drew.trans hb8); have k8 := (Hb8.out.cell (p := ⟨g, j * 2, none⟩) (Nat.lt_of_lt_of_le hgl Hbl7.out.size)).trans d0; have l8 := (Hb8.out.cell (p := ⟨g, j * 2 + 1, none⟩) (Nat.lt_of_lt_of_le hgl Hbl7.out.size)).trans d1; clear hnum hf8 hrest8 hu8 hb8)
              | (go_at_call 15; refine Hnum.out.mono ?_; rintro e w9 ⟨rfl, rfl⟩))
            go_wp2
            go_roundw
            case rel => exact ⟨j, by omega, by go_num, by rw [Hpos.out]; exact Lib.hid (Hts7.out.keep (grown_below Hb8.out none) (by simp)), Lib.hid (Hbl7.out.trans (Hb8.out.mono Hbl7.out.size))⟩
            case measure => simp [intOf]
end Go.Proofs.Ytllgbnolngenhaa
