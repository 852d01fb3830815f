/-
  BitsBack (layer 1), the statement's own walk: it returns true and changes nothing that was there. No condition beyond that the argument is a slice of pieces.
-/
import Derived.Test.YtmgicikfmnflbaaWc
import Derived.Test.YtmgicikfmnflbaaWi
import Derived.Laws.AppendOwnNone
import Derived.Deep.DeepCutAuto
import Derived.Deep.LoopGhost
namespace Go.Proofs.Ytmgicikfmnflbaa
open Go.RowKit

theorem own_notT {w : World} {base : Nat} {v : Value} {n : Nat} {xs : List Value} (h : w.ownsRow base 3 1 v n xs) : ∀ g, v.ownBlock = some g → NotT w g 51 := by
  intro g hg
  rcases h.2 with ⟨rfl, _⟩ | ⟨g', cap, cur, rfl, _, hh, _⟩
  · simp [Value.ownBlock] at hg
  · have e : g' = g := by simpa [Value.ownBlock] using hg
    subst e
    exact ⟨_, _, _, hh, by decide⟩

set_option maxHeartbeats 400000 in
theorem back_long (A : Option Addr) (n c : Nat) (w : World) (h : 100 < n) (hn : n ≤ 9223372036854775807) :
    Calls Try.prog 3 #[.slice A n c] w fun e w' => e = .returned (.bool true) ∧ Below w.heap.size w w' := by
  go_enter Try.func3, Try.ntmps3
  go_wp2_with fail
  refine (awake_any _).mono ?_
  rintro e w1 ⟨rfl, hb⟩
  go_wp2
  go_ret
  exact ⟨rfl, hb⟩

theorem WS.len_cell {w : World} {b off N n : Nat} (h : WS w b off N n) : w.cell? ⟨b, off + 2, none⟩ = some (.int .i64 (n : Int)) := by
  obtain ⟨p, rest, us, h0, h1, h2, _⟩ := h
  exact h2
theorem reads_below {w W : World} {A : Option Addr} {xs : List Value} (h : Reads w A xs) (hb : Below w.heap.size w W) (hA : ∀ a, A = some a → a.block < w.heap.size) : Reads W A xs := fun hne => by
  obtain ⟨g, off, e, hc⟩ := h hne
  have hg : g < w.heap.size := hA _ e
  exact ⟨g, off, e, fun j hj => (hb.cell (p := ⟨g, off + j, none⟩) hg).trans (hc j hj)⟩

set_option maxRecDepth 100000 in
set_option maxHeartbeats 4000000 in
theorem back_short (A : Option Addr) (n c : Nat) (ps : List (Nat × Int)) (w : World) (h100 : n ≤ 100) (ha : ArgP w A n c ps) :
    Calls Try.prog 3 #[.slice A n c] w fun e w' => e = .returned (.bool true) ∧ Below w.heap.size w w' := by
  obtain ⟨i0, hi, hz0, hz1, hz2⟩ := info_parts info_int
  obtain ⟨hl, hps, hcells, hc, hcm⟩ := ha
  have Hl := Lib.hid hl
  have Hps := Lib.hid hps
  have Hcells := Lib.hid hcells
  clear hl hps hcells hc hcm
  go_enter Try.func3, Try.ntmps3
  go_wp2_with fail
  refine (awake_any _).mono ?_
  rintro e w1 ⟨rfl, hb1⟩
  obtain ⟨bw, hbw⟩ : ∃ b, b = w1.heap.size := ⟨_, rfl⟩
  have hwb : w.heap.size ≤ bw := by rw [hbw]; exact hb1.size
  have hs0 : WS (w1.alloc (.cells #[.pointer none, .int .u64 0, .int .i64 0] 27)) bw 0 0 0 := by rw [hbw]; exact WS.new w1 27 notW
  have Hs0 := Lib.hid hs0
  have Hb1 := Lib.hid (hb1.alloc hb1.size (.cells #[.pointer none, .int .u64 0, .int .i64 0] 27))
  have Hbw := Lib.hid hbw
  clear hs0 hb1 hbw
  go_wp2
  rw [← Hbw.out]
  go_loopw [4, 20] (fun u i wr => ∃ k : Nat, k ≤ n ∧ i = .int .i64 (k : Int) ∧ Hid (wr.ownsRow (bw + 1) 3 1 u (enc ps k).2 (i64s (Bm.bitsOf (enc ps k).1 (enc ps k).2))) ∧ Hid (WS wr bw 0 (enc ps k).1 (enc ps k).2) ∧ Hid (Below w.heap.size w wr) ∧ bw < wr.heap.size) (fun _ i _ => n - (intOf i).toNat)
  case atStart =>
    refine ⟨0, Nat.zero_le _, rfl, ?_, ?_, Hb1, ?_⟩
    · rw [enc_zero]; exact World.ownsRow_nil _ _ _ _
    · rw [enc_zero]; exact Hs0
    · rw [Hbw.out]; simp
  case round =>
    obtain ⟨k, hk, rfl, hown, hws, hbel, hbl⟩ := hrel
    clear Hb1 Hs0
    by_cases hlt : k < n
    · obtain ⟨g, off, rfl, hg, hcl⟩ := Hcells.out (by omega)
      have hkl : k < ps.length := by rw [Hl.out]; exact hlt
      have hc0 := (hbel.out.cell (p := ⟨g, off + k * 2, none⟩) hg).trans (hcl k hkl).1
      have hc1 := (hbel.out.cell (p := ⟨g, off + k * 2 + 1, none⟩) hg).trans (hcl k hkl).2
      obtain ⟨hv, hz1', hz2'⟩ := Hps.out ps[k] (List.getElem_mem hkl)
      clear hcl
      generalize hpv : ps[k].1 = v at hc0 hv
      generalize hpz : ps[k].2 = z at hc1 hz1' hz2'
      have Hpv := Lib.hid hpv
      have Hpz := Lib.hid hpz
      clear hpv hpz
      by_cases hbad : z < 0 ∨ 32 < z
      · have hbad' : z < 0 ∨ (0 ≤ z ∧ 32 < z) := by omega
        clear hbad
        rcases hbad' with hb | ⟨hb0, hb⟩
        all_goals
          have Hbad : Hid (z < 0 ∨ 32 < z) := by unfold Hid; omega
          go_wp2_with fail
          refine (put_false _ _ z _ Hbad.out).mono ?_
          rintro e w4 ⟨rfl, rfl⟩
          have Hown4 := Lib.hid (hown.out.alloc (.cells #[.int .u32 (v : Int), .int .i64 z] 31))
          have Hws4 := Lib.hid (hws.out.keep (row := none) (grown_alloc (grown_refl _ _) (.cells #[.int .u32 (v : Int), .int .i64 z] 31)) (by simp) (by simp))
          have Hbel4 := Lib.hid (hbel.out.alloc hbel.out.size (.cells #[.int .u32 (v : Int), .int .i64 z] 31))
          have Henc := Lib.hid (enc_bad ps k hkl (by rw [Hpz.out]; exact Hbad.out))
          clear hown hws hbel
          go_wp2
          go_roundw
          case rel => exact ⟨k + 1, by omega, by go_num, by rw [Henc.out]; exact Hown4, by rw [Henc.out]; exact Hws4, Hbel4, by simp; omega⟩
          case measure => simp [intOf]; omega
      · obtain ⟨q, rfl⟩ := Int.eq_ofNat_of_zero_le (show 0 ≤ z by omega)
        have hq : q ≤ 32 := by omega
        clear hbad hz1' hz2'
        have hencle := enc_le ps k (by omega)
        have henclt := enc_lt ps k (by omega)
        have henc := enc_ok ps k hkl q Hpz.out hq
        rw [Hpv.out] at henc
        have Henc := Lib.hid henc
        clear henc
        generalize hen : enc ps k = en at hown hws hencle henclt Henc
        obtain ⟨N0, n0⟩ := en
        simp only at hencle henclt Henc
        have hput := put_true bw 0 N0 n0 v q (wr.alloc (.cells #[.int .u32 (v : Int), .int .i64 (q : Int)] 31)) (by omega) hv hq (hws.out.keep (row := none) (grown_alloc (grown_refl _ _) _) (by simp) (by simp))
        have Hput := Lib.hid hput
        have hbox := Row.new wr 31 [.int .u32 (v : Int), .int .i64 (q : Int)]
        have Hbox := Lib.hid hbox
        have Hown1 := Lib.hid (hown.out.alloc (.cells #[.int .u32 (v : Int), .int .i64 (q : Int)] 31))
        have Hbel1 := Lib.hid (hbel.out.alloc hbel.out.size (.cells #[.int .u32 (v : Int), .int .i64 (q : Int)] 31))
        have Hen := Lib.hid hen
        have Henclt := Lib.hid henclt
        clear hput hbox hown hbel hws hen henclt
        have hqb : decide ((q : Int) ≤ 32) = true := by simp; omega
        go_wp2_with fail
        refine Hput.out.mono ?_
        rintro e w4 ⟨rfl, hws4, hg4⟩
        have hrow4 : Row w4 wr.heap.size 31 [.int .u32 (v : Int), .int .i64 (q : Int)] := Hbox.out.keep (hg4.block _ Hbox.out.lt (by intro e; injection e with e; omega))
        have d0 := hrow4.cell 0
        have d1 := hrow4.cell 1
        simp only [List.getElem?_cons_zero, List.getElem?_cons_succ] at d0 d1
        have hs4 := hg4.size
        simp only [World.size_alloc] at hs4
        have Hown4 := Lib.hid (Hown1.out.kept hg4 (by
          rcases hob : u4.ownBlock with _ | b
          · exact .inl rfl
          · refine .inr (fun e => ?_)
            injection e with e
            have := (Hown1.out.lt b hob).1
            omega))
        have Hws4 := Lib.hid hws4
        have Hbel4 := Lib.hid (Hbel1.out.trans (below_grown hg4 hwb (by have := Hbel1.out.size; exact this)))
        clear Hput Hbox Hown1 Hbel1 hws4 hg4 hrow4 hc0 hc1
        go_wp2_with fail
        refine (rof_any v q _ hv hq).mono ?_
        rintro e w5 ⟨u5, rfl, hu5, hb5, hnil5⟩
        have hown5 := own_below Hown4.out hb5
        have Hws5 := Lib.hid (Hws4.out.keep (grown_below hb5 none) (by simp) (by simp))
        have Hbel5 := Lib.hid (Hbel4.out.trans (hb5.mono Hbel4.out.size))
        have hs5 := hb5.size
        clear Hown4 Hws4 Hbel4 hb5 d0 d1
        rcases Nat.eq_zero_or_pos q with hq0 | hq0
        · obtain rfl := hnil5 hq0
          have henc0 : enc ps (k + 1) = (N0, n0) := by rw [Henc.out, hq0]; simp [Nat.mod_one]
          have Henc0 := Lib.hid henc0
          clear henc0 hnil5 hu5 hq0
          go_wp2_with (at_builtin; refine wpList_append_own_none rfl _ _ 28 rfl (bw + 1) 3 i0 1 Try.underlying28 hi _ _ _ rfl hown5 rfl ?_)
          have Hown5 := Lib.hid hown5
          clear hown5
          go_wp2
          go_roundw
          case rel => exact ⟨k + 1, by omega, by go_num, by rw [Henc0.out]; exact Hown5, by rw [Henc.out]; exact Hws5, Hbel5, by omega⟩
          case measure => simp [intOf]; omega
        · obtain ⟨g1, cap1, hform, _, _⟩ := own_form hu5 hq0
          have hnews : ∀ j y, (i64s (Bm.bitsOf v q))[j]? = some y → w5.cell? ((⟨g1, 0, none⟩ : Addr).add j) = some y := hu5.cells (by rw [hform]; rfl)
          rw [hform]
          have Hnews := Lib.hid hnews
          clear hform hu5 hnil5 hnews
          go_wp2_with (at_builtin; refine wpList_append_own _ rfl _ _ 28 rfl (bw + 1) 3 i0 (.int .i64 0) 1 8 Try.underlying28 hi hz0 hz1 hz2 rfl (by decide) _ _ _ rfl hown5 ⟨g1, 0, none⟩ q cap1 (i64s (Bm.bitsOf v q)) rfl ?c0 Hnews.out ?c2 ?c3 ?c4 ?c5 ?_)
          case c0 => simp [i64s_length, Bm.bitsOf_length]
          case c2 => intro y hy; simp [i64s] at hy; obtain ⟨a, _, rfl⟩ := hy; rfl
          case c3 => unfold maxLen; omega
          case c4 => omega
          case c5 => omega
          intro u6 w6 hown6 hgr6 _
          rw [i64s_append, Bm.bitsOf_append _ _ _ _ Henclt.out] at hown6
          have Hown6 := Lib.hid hown6
          have Hws6 := Lib.hid (Hws5.out.keep hgr6 (by
            intro e
            have := (hown5.lt bw e).1
            omega) (own_notT hown5))
          have Hbel6 := Lib.hid (Hbel5.out.grown hgr6 Hbel5.out.size (fun b e => by have := (hown5.lt b e).1; omega))
          have hs6 := hgr6.size
          clear hown6 hown5 hgr6 Hws5 Hbel5 Hnews
          go_wp2
          go_roundw
          case rel => exact ⟨k + 1, by omega, by go_num, by rw [Henc.out]; exact Hown6, by rw [Henc.out]; exact Hws6, Hbel6, by omega⟩
          case measure => simp [intOf]; omega
    · obtain rfl : k = n := by omega
      have hencle := enc_le ps k (by rw [Hl.out]; exact Nat.le_refl _)
      have henclt := enc_lt ps k (by rw [Hl.out]; exact Nat.le_refl _)
      generalize hen : enc ps k = en at hown hws hencle henclt
      obtain ⟨NN, nn⟩ := en
      simp only at hencle henclt hown hws
      have Hen := Lib.hid hen
      have Henclt := Lib.hid henclt
      have hn3200 : nn ≤ 3200 := by omega
      obtain ⟨A1, c1, hform, hrd1, hA1⟩ := own_reads hown.out
      rw [hform]
      have hlenw : Calls Try.prog 9 #[.pointer (some ⟨bw, 0, none⟩)] wr.drew fun e w' => e = .returned (.int .i64 (nn : Int)) ∧ wr.drew = w' := len_any bw 0 _ _ hws.out.drew.len_cell
      have hbytes := bytes_any bw 0 NN nn wr.drew (by omega) hws.out.drew
      obtain ⟨LL, hLL⟩ : ∃ L, L = (nn + 7) / 8 := ⟨_, rfl⟩
      rw [← hLL] at hbytes
      have hrb := fun (W : World) (hW : Below wr.heap.size wr W) => rbytes_any A1 nn c1 NN W (by omega) henclt (reads_below hrd1 hW (fun a e => (hA1 a e).2.1)) (fun a e _ => Nat.lt_of_lt_of_le (hA1 a e).2.1 hW.size)
      rw [← hLL] at hrb
      have hLs : LL ≤ 400 := by omega
      have HLL := Lib.hid hLL
      have Hlenw := Lib.hid hlenw
      have Hbytes := Lib.hid hbytes
      have Hrb := Lib.hid hrb
      have Hrd1 := Lib.hid hrd1
      clear hencle henclt hen hform hrd1 hA1 hlenw hbytes hLL hrb
      go_upto_region 16 with fail
      go_cut [59] (fun s59 wx => s59 = .bool false ∧ Below wr.heap.size wr wx)
      case first =>
        go_region_with (first | (go_at_call 9; refine Hlenw.out.mono ?_; rintro e w' ⟨rfl, rfl⟩) | (go_at_call 10; refine Hbytes.out.mono ?_; rintro e wB ⟨gB, rfl, hgB, hrowB, hbB⟩; have hcB := conv_bytes wB (some ⟨gB, 0, none⟩) LL (Bm.bytesOf NN LL) (Bm.bytesOf_lt _ _) (row_reads hrowB); rw [Bm.bytesOf_length] at hcB; have HrB := Lib.hid hrowB; have HbB := Lib.hid ((Below.refl wr.heap.size wr).drew.trans hbB); clear hrowB hbB hgB) | (go_at_call 11; refine (Hrb.out _ HbB.out).mono ?_; rintro e wC ⟨uC, rfl, hownC, hbC⟩; obtain ⟨AC, cC, hfC, hrdC, _⟩ := own_reads hownC; rw [hfC]; have hcC := conv_bytes wC AC cC (Bm.bytesOf NN LL) (Bm.bytesOf_lt _ _) hrdC; rw [Bm.bytesOf_length] at hcC; have hcB2 := conv_bytes wC (some ⟨gB, 0, none⟩) LL (Bm.bytesOf NN LL) (Bm.bytesOf_lt _ _) (reads_below (row_reads HrB.out) hbC (fun a e => by injection e with e; subst e; exact HrB.out.lt)); rw [Bm.bytesOf_length] at hcB2; have HbC := Lib.hid (HbB.out.trans (hbC.mono HbB.out.size)); clear hfC hownC hbC hrdC))
        all_goals (go_wp2_with fail; go_meet; exact ⟨rfl, HbC.out⟩)
      case rest =>
        obtain ⟨rfl, hbc⟩ := hcut
        have hwsc := hws.out.keep (grown_below hbc none) (by simp) (by simp)
        have Hbelc := Lib.hid (hbel.out.trans (hbc.mono hbel.out.size))
        have hby2 := bytes_any bw 0 NN nn wc (by omega) hwsc
        rw [← HLL.out] at hby2
        have Hby2 := Lib.hid hby2
        clear hbc hwsc hby2 hown hws hbel Hlenw Hbytes Hrb Hrd1
        go_wp2_with fail
        refine Hby2.out.mono ?_
        rintro e w5 ⟨gE, rfl, hgE, hrow5, hb5⟩
        have Hrd5 := Lib.hid (row_reads hrow5)
        have Hb5 := Lib.hid (Hbelc.out.trans (hb5.mono Hbelc.out.size))
        clear hgE hrow5 hb5 Hbelc Hby2
        go_wp2_with fail
        refine (newr_n (some ⟨gE, 0, none⟩) LL LL (Bm.bytesOf NN LL) w5 (Bm.bytesOf_length NN LL) (Bm.bytesOf_lt NN LL) Hrd5.out).mono ?_
        rintro e w6 ⟨rfl, hrs6, hb6⟩
        obtain ⟨rb, hrb⟩ : ∃ b, b = w5.heap.size := ⟨_, rfl⟩
        rw [← hrb] at hrs6 ⊢
        have hrl := hrs6.2.2.2
        have hwr : w.heap.size ≤ rb := by rw [hrb]; exact Hb5.out.size
        have Hrs6 := Lib.hid hrs6
        have Hb6 := Lib.hid (Hb5.out.trans (hb6.mono Hb5.out.size))
        clear hrs6 hb6 hrb Hb5 Hrd5
        go_wp2
        go_loopw [64] (fun i wr => ∃ j : Nat, j ≤ k ∧ i = .int .i64 (j : Int) ∧ Hid (RS wr rb 0 (Bm.bytesOf NN LL) (enc ps j).2) ∧ Hid (Below w.heap.size w wr) ∧ rb < wr.heap.size) (fun i _ => k - (intOf i).toNat)
        case atStart => exact ⟨0, Nat.zero_le _, rfl, by rw [enc_zero]; exact Hrs6, Hb6, hrl⟩
        case round =>
          obtain ⟨j, hj, rfl, hrs, hbel, hrbl⟩ := hrel
          clear Hrs6 Hb6 hrl
          by_cases hlt : j < k
          · obtain ⟨g, off, rfl, hg, hcl⟩ := Hcells.out (by omega)
            have hkl : j < ps.length := by rw [Hl.out]; exact hlt
            have hc0 := (hbel.out.cell (p := ⟨g, off + j * 2, none⟩) hg).trans (hcl j hkl).1
            have hc1 := (hbel.out.cell (p := ⟨g, off + j * 2 + 1, none⟩) hg).trans (hcl j hkl).2
            obtain ⟨hv, hz1', hz2'⟩ := Hps.out ps[j] (List.getElem_mem hkl)
            have henct := enc_take ps j hkl
            have hencp := enc_pos ps j hkl
            have henck := enc_ok ps j hkl
            rw [Hl.out, Hen.out] at henct hencp
            simp only at henct hencp
            clear hcl
            generalize hpv : ps[j].1 = v at hc0 hv henct henck
            generalize hpz : ps[j].2 = z at hc1 hz1' hz2' henct hencp henck
            have Hpz := Lib.hid hpz
            have Henct := Lib.hid henct
            have Hencp := Lib.hid hencp
            have Henck := Lib.hid henck
            clear hpv hpz henct hencp henck
            by_cases hbad : z < 0 ∨ 32 < z
            · have hbad' : z < 0 ∨ (0 ≤ z ∧ 32 < z) := by omega
              have Hbad := Lib.hid hbad
              clear hbad
              have Hrs1 := Lib.hid (hrs.out.keep (row := none) (grown_alloc (grown_refl _ _) (.cells #[.int .u32 (v : Int), .int .i64 z] 31)) (by simp))
              have Hbel1 := Lib.hid (hbel.out.alloc hbel.out.size (.cells #[.int .u32 (v : Int), .int .i64 z] 31))
              have Henc := Lib.hid (enc_bad ps j hkl (by rw [Hpz.out]; exact Hbad.out))
              clear hrs hbel
              rcases hbad' with hb | ⟨hb0, hb⟩
              all_goals
                go_wp2
                go_roundw
                case rel => exact ⟨j + 1, by omega, by go_num, by rw [Henc.out]; exact Hrs1, Hbel1, by simp; omega⟩
                case measure => simp [intOf]; omega
            · obtain ⟨q, rfl⟩ := Int.eq_ofNat_of_zero_le (show 0 ≤ z by omega)
              have hq : q ≤ 32 := by omega
              clear hbad hz1' hz2'
              have hE := Henck.out q rfl hq
              have hP := Hencp.out q rfl hq
              have hT := Henct.out q rfl hq
              generalize hps : (enc ps j).2 = pos at hrs hE hP hT
              have hNN : Bm.valB (Bm.bytesOf NN LL) = NN := by
                rw [Bm.valB_bytesOf, Bm.p256]
                refine Nat.mod_eq_of_lt (Nat.lt_of_lt_of_le Henclt.out (Nat.pow_le_pow_right (by omega) ?_))
                have := HLL.out
                omega
              have hcall := take_ok rb 0 (Bm.bytesOf NN LL) pos q (wr.alloc (.cells #[.int .u32 (v : Int), .int .i64 (q : Int)] 31)) (by rw [Bm.bytesOf_length]; omega) (Bm.bytesOf_lt _ _) hq (by rw [Bm.bytesOf_length]; have := HLL.out; omega) (hrs.out.keep (row := none) (grown_alloc (grown_refl _ _) _) (by simp))
              rw [hNN, hT] at hcall
              have hbox := Row.new wr 31 [.int .u32 (v : Int), .int .i64 (q : Int)]
              have Hbox := Lib.hid hbox
              generalize hy : v % 2 ^ q = y at hcall
              have Hy := Lib.hid hy
              have Hcall := Lib.hid hcall
              have Hbel1 := Lib.hid (hbel.out.alloc hbel.out.size (.cells #[.int .u32 (v : Int), .int .i64 (q : Int)] 31))
              have HE := Lib.hid hE
              have hqb : decide ((q : Int) ≤ 32) = true := by simp; omega
              clear hcall hE hP hT hps hNN hbel hrs hbox hy
              go_wp2_with fail
              refine Hcall.out.mono ?_
              rintro e w7 ⟨rfl, hrs7, hg7⟩
              have hrow7 : Row w7 wr.heap.size 31 [.int .u32 (v : Int), .int .i64 (q : Int)] := Hbox.out.keep (hg7.block _ Hbox.out.lt (by intro e; injection e with e; omega))
              have d0 := hrow7.cell 0
              have d1 := hrow7.cell 1
              simp only [List.getElem?_cons_zero, List.getElem?_cons_succ] at d0 d1
              have hs7 := hg7.size
              simp only [World.size_alloc] at hs7
              have Hrs7 := Lib.hid hrs7
              have Hbel7 := Lib.hid (Hbel1.out.trans (below_grown hg7 hwr (by have := Hbel1.out.size; exact this)))
              clear hrs7 hg7 hrow7 Hcall Hbox Hbel1 hc0 hc1
              go_wp2_with fail
              refine (rof_any v q _ hv hq).mono ?_
              rintro e w8 ⟨u8, rfl, hu8, hb8, _⟩
              obtain ⟨A8, c8, hf8, _, _, hrest8⟩ := own_rest hu8
              rw [hf8]
              have hnum := rnum_rest (c := c8) hrest8 (Nat.le_refl _) hq
              rw [Hy.out] at hnum
              have Hnum := Lib.hid hnum
              have Hrs8 := Lib.hid (Hrs7.out.keep (grown_below hb8 none) (by simp))
              have Hbel8 := Lib.hid (Hbel7.out.trans (hb8.mono Hbel7.out.size))
              have hs8 := hb8.size
              clear hnum hf8 hrest8 hu8 hb8 Hrs7 Hbel7 d0 d1
              go_wp2_with fail
              refine Hnum.out.mono ?_
              rintro e w9 ⟨rfl, rfl⟩
              go_wp2
              go_roundw
              case rel => exact ⟨j + 1, by omega, by go_num, by rw [HE.out]; exact Hrs8, Hbel8, by omega⟩
              case measure => simp [intOf]; omega
          · obtain rfl : j = k := by omega
            rw [Hen.out] at hrs
            have hleft := left_any rb 0 (Bm.bytesOf NN LL) nn _ (by rw [Bm.bytesOf_length]; omega) (by rw [Bm.bytesOf_length]; have := HLL.out; omega) hrs.out
            rw [Bm.bytesOf_length] at hleft
            have hx : ((8 * LL - nn : Nat) : Int) = (8 - (nn : Int) % 8) % 8 := by have := HLL.out; omega
            generalize 8 * LL - nn = x at hleft hx
            have Hx := Lib.hid hx
            have Hleft := Lib.hid hleft
            clear hleft hx hrs
            go_wp2_with fail
            refine Hleft.out.mono ?_
            rintro e w7 ⟨rfl, kk, rfl⟩
            go_wp2
            go_ret
            exact ⟨by simp [Hx.out], below_drewN hbel.out kk⟩
end Go.Proofs.Ytmgicikfmnflbaa
