/-
  The program's layer 16 (seqs): inCode, streams, Stream, by their walks. Conditions: as each theorem's premises say (1 to 700 codes below 28).
  The program's layer 16 (seqs): streams, Stream, by their walks. Conditions: as each theorem's premises say (1 to 700 codes below 28).
-/
import Derived.Test.YtbdciiiimdbmkaaGreatGae
import Derived.Test.YtbdciiiimdbmkaaGreatGan
import Derived.Test.YtbdciiiimdbmkaaGreatGaw
import Derived.Test.YtbdciiiimdbmkaaGreatGal
import Derived.Test.YtbdciiiimdbmkaaGreatGbe
import Derived.Test.YtbdciiiimdbmkaaGreatGbi
import Derived.Test.YtbdciiiimdbmkaaGreatGay
import Derived.Test.YtbdciiiimdbmkaaGreatGat
import Derived.Test.YtbdciiiimdbmkaaGreatGar
import Derived.Deep.RegionHeld3
import Derived.Deep.DeepCutAuto
import Derived.Deep.AppendLies
namespace Go.Proofs.YtbdciiiimdbmkaaGreat
open Go.RowKit

namespace Bm
theorem share_len (bs : List Nat) (hlt : ∀ x ∈ bs, x < 256) (hl : bs.length ≤ 1048576) (h0 : 0 < bs.length) : (shareA (countsI bs) (logA (countsI bs) : Int)).length = topB bs := by
  obtain ⟨hr, h5, h9, hs⟩ := (countsI_share bs hlt hl).2 h0
  have hp := right_nat (countsI bs) hr
  obtain ⟨cs, e1, e2, e3, _, _, e6, e7⟩ := hp
  unfold shareA
  rw [if_pos ⟨hr, h5, h9, hs⟩, Int.toNat_natCast, List.length_map, e2]
  rw [Int.toNat_natCast] at hs
  rw [(share_spec cs (2 ^ logA (countsI bs)) e7 (by rw [e6]; exact hs)).2.1, e3, countsI_length]
/-- The share of counts has no noughts at its end. -/
theorem share_short (bs ls : List Nat) (hlt : ∀ x ∈ bs, x < 256) (hl : bs.length ≤ 1048576) (h0 : 0 < bs.length) (hls : shareA (countsI bs) (logA (countsI bs) : Int) = ls.map (fun n : Nat => (n : Int))) (hpos : ∀ b ∈ bs, 0 < ls[b]?.getD 0) : shortL ls = ls := by
  have hlen := share_len bs hlt hl h0
  rw [hls, List.length_map] at hlen
  obtain ⟨b, hb, e⟩ := top_in bs (topB_pos bs (by intro e; rw [e] at h0; simp at h0))
  have hp := hpos b hb
  refine short_lastQ ls (fun hne => ?_)
  rw [List.getLast_eq_getElem]
  have hi : ls.length - 1 = b := by omega
  have hbl : b < ls.length := by omega
  rw [List.getElem?_eq_getElem hbl, Option.getD_some] at hp
  simp only [hi]
  exact hp
end Bm
theorem own_of_rowS {w : World} {base g : Nat} {ss : List (List Nat)} (h : Row w g 9 (strVq ss)) (hb : base ≤ g) (hm : ss.length ≤ 1000000000) : w.ownsRow base 9 1 (.slice (some ⟨g, 0, none⟩) ss.length ss.length) ss.length (strVq ss) :=
  ⟨by rw [strVq_length, Nat.mul_one], .inr ⟨g, ss.length, (strVq ss).toArray, rfl, hb, h, Nat.le_refl _, by unfold maxLen; omega, by simp [strVq_length], by rw [List.take_of_length_le (by simp [strVq_length])]⟩⟩
theorem info_str : (Tryz.prog.info? 9).map (fun i => (i.zero, i.size, i.bytes)) = some (some (.string ⟨#[]⟩), 1, 16) := by kernel_rfl
set_option maxHeartbeats 4000000 in
set_option maxRecDepth 100000 in
theorem qin_any (A B : Option Addr) (c d : Nat) (cs : List Nat) (w : World) (h0 : 0 < cs.length) (hl : cs.length ≤ 700) (h28 : ∀ x ∈ cs, x < 28) (hr : Reads w A (u8s cs)) (hrc : Reads w B (i64z (Bm.countsI cs))) :
    Calls Tryz.prog 63 #[.slice A cs.length c, .slice B (Bm.topB cs) d] w fun e w' => (∃ S, Bm.StrQ cs S ∧ e = .returned (.tuple #[.string (strOf S), .bool true])) ∧ Below w.heap.size w w' := by
  have hlt : ∀ x ∈ cs, x < 256 := fun x hx => by have := h28 x hx; omega
  obtain ⟨l, hll⟩ : ∃ l, l = Bm.countsI cs := ⟨_, rfl⟩
  have hlen : l.length = Bm.topB cs := by rw [hll]; exact Bm.countsI_length cs
  have hT1 := Bm.topB_le cs hlt
  have hok : ∀ x ∈ l, Bm.IntOk x := fun x hx => by
    rw [hll] at hx
    have := Bm.countsI_mem cs x hx
    unfold Bm.IntOk; omega
  have hiff := Bm.countsI_share cs hlt (by omega)
  obtain ⟨ls, hls, hfair, hpos, hls256⟩ := Bm.share_bytes cs hlt (by omega) h0
  have hshort := Bm.share_short cs ls hlt (by omega) h0 hls hpos
  rw [← hll] at hiff hls hfair hrc
  have hlgb : 5 ≤ Bm.logA l ∧ Bm.logA l ≤ 9 := by have := hfair.1; have := hfair.2.1; omega
  have hlog : Bm.IntOk (Bm.logA l : Int) := by unfold Bm.IntOk; omega
  have H2 := Lib.hid (nlog_is B d l w (by omega) hok hrc)
  have hsl : (Bm.shareA l (Bm.logA l : Int)).length = ls.length := by rw [hls, List.length_map]
  have hsi : i64z (Bm.shareA l (Bm.logA l : Int)) = i64s ls := by rw [hls, i64z_nat]
  have H3 : Hid (∀ W, Reads W B (i64z l) → Calls Tryz.prog 86 #[.slice B l.length d, .int .i64 (Bm.logA l : Int)] W fun e w' => ∃ A' c', e = .returned (.tuple #[.slice A' ls.length c', .bool true]) ∧ Reads w' A' (i64s ls) ∧ Below W.heap.size W w') := Lib.hid (fun W h1 => by
    have h2 := nshare_is B d l _ W (by omega) hok hlog h1
    rw [decide_eq_true (hiff.2 h0), hsl, hsi] at h2
    exact h2)
  rw [hls] at hfair
  have hfn := Bm.fair_n _ _ hfair
  have hlsn : (ls.map (fun n : Nat => (n : Int))).map Int.toNat = ls := by
    rw [List.map_map]
    conv => rhs; rw [← List.map_id ls]
    apply List.map_congr_left
    intro x _
    rfl
  rw [hlsn, Int.toNat_natCast] at hfn
  have hlsne : 0 < ls.length := by
    cases ls with
    | nil =>
      have h := hfn.sum
      have h2 := Nat.two_pow_pos (Bm.logA l)
      rw [List.sum_nil] at h
      omega
    | cons _ _ => simp
  have H4 : Hid (∀ A c W, Reads W A (i64s ls) → Calls Tryz.prog 88 #[.slice A ls.length c, .int .i64 (Bm.logA l : Int)] W fun e w' => ∃ p, e = .returned (.tuple #[.pointer (some p), .bool true]) ∧ STab w' p ls (Bm.logA l) ∧ Below W.heap.size W w') := Lib.hid (fun A c W h1 => by
    have h2 := tab_is.build A c (ls.map (fun n : Nat => (n : Int))) (Bm.logA l : Int) W (by rw [List.length_map]; omega) (fun x hx => by
      have := hfair.2.2.2.1 x hx
      unfold Bm.IntOk; omega) hlog (by rw [i64z_nat]; exact h1) hfair
    rw [List.length_map, hlsn, Int.toNat_natCast] at h2
    exact h2)
  have Hput : Hid (∀ W b A c, WS W b 0 0 0 → Reads W A (i64s ls) → (∀ a, A = some a → a.block ≠ b) → Calls Tryz.prog 87 #[.pointer (some ⟨b, 0, none⟩), .slice A ls.length c, .int .i64 (Bm.logA l : Int)] W fun e w' => e = .returned (.bool true) ∧ WS w' b 0 (Bm.hdrA ls (Bm.logA l)).1 (Bm.hdrA ls (Bm.logA l)).2 ∧ W.grownBy w' (some b)) := Lib.hid (fun W b A c hws h1 hA => by
    have h2 := hdput_put W b 0 0 0 A c (ls.map (fun n : Nat => (n : Int))) (Bm.logA l : Int) (by omega) hws (by rw [List.length_map]; omega) (fun x hx => by
      have := hfair.2.2.2.1 x hx
      unfold Bm.IntOk; omega) hlog (by rw [i64z_nat]; exact h1) (fun a e _ => hA a e) hfair
    rw [List.length_map, hlsn, Int.toNat_natCast, Nat.pow_zero, Nat.mul_one, Nat.zero_add, Nat.zero_add] at h2
    exact h2)
  obtain ⟨t, ht⟩ := Bm.enc_some ls (Bm.logA l) hfn cs hpos
  obtain ⟨N, k, hc⟩ : ∃ N k, Bm.codeN ls (Bm.logA l) cs = some (N, k) := ⟨_, _, by unfold Bm.codeN; rw [ht]; rfl⟩
  obtain ⟨hN, hk, _⟩ := Bm.code_lt ls (Bm.logA l) hfn cs N k hc
  have he : Bm.encB ls (Bm.logA l) cs = some (Bm.sealN N k) := by unfold Bm.encB; rw [hc]; rfl
  have hsl2 := Bm.sealN_length N k
  have hs256 := Bm.sealN_lt N k
  have hk9 : k ≤ 9 * 701 := Nat.le_trans hk (Nat.mul_le_mul hlgb.2 (by omega))
  have H6 : Hid (∀ W p, STab W p ls (Bm.logA l) → Reads W A (u8s cs) → Calls Tryz.prog 89 #[.pointer (some p), .slice A cs.length c] W fun e w' => (∃ A c, e = .returned (.tuple #[.slice A (Bm.sealN N k).length c, .bool true]) ∧ Reads w' A (u8s (Bm.sealN N k))) ∧ Below W.heap.size W w') := Lib.hid (fun W p ht hr => by
    have h1 := eenc_any W p ls (Bm.logA l) A c cs hfn ht (by omega) hlt hr
    rw [he] at h1
    exact h1)
  have hQ := Bm.str_coded cs ls (Bm.sealN N k) (Bm.logA l) h28 hfn hshort he (by omega) hs256 (by omega)
  have hb3 := Bm.hdrA_bits ls (Bm.logA l) hfn
  obtain ⟨hd, hhd⟩ : ∃ hd, hd = Bm.bytesOf (Bm.hdrA ls (Bm.logA l)).1 (((Bm.hdrA ls (Bm.logA l)).2 + 7) / 8) := ⟨_, rfl⟩
  have hhl : hd.length = ((Bm.hdrA ls (Bm.logA l)).2 + 7) / 8 := by rw [hhd, Bm.bytesOf_length]
  have hhlt : ∀ x ∈ hd, x < 256 := by rw [hhd]; exact Bm.bytesOf_lt _ _
  rw [← hhd] at hQ
  have Hby : Hid (∀ W b, WS W b 0 (Bm.hdrA ls (Bm.logA l)).1 (Bm.hdrA ls (Bm.logA l)).2 → Calls Tryz.prog 39 #[.pointer (some ⟨b, 0, none⟩)] W fun e w' => ∃ g, e = .returned (.slice (some ⟨g, 0, none⟩) hd.length hd.length) ∧ Reads w' (some ⟨g, 0, none⟩) (u8s hd) ∧ Below W.heap.size W w') := Lib.hid (fun W b h => by
    have h1 := bytes_any b 0 (Bm.hdrA ls (Bm.logA l)).1 (Bm.hdrA ls (Bm.logA l)).2 W (by omega) h
    rw [hhl, hhd]
    exact h1.mono fun e w' ⟨g, he, _, hrow, hb⟩ => ⟨g, he, row_reads hrow, hb⟩)
  have HQ := Lib.hid hQ
  have Hbeg := Lib.hid (fun W => zbegin_any 2 W (by omega))
  have Hcv1 := Lib.hid (fun W A c (h : Reads W A (u8s hd)) => conv_bytes W A c hd hhlt h)
  have Hcv2 := Lib.hid (fun W A c (h : Reads W A (u8s (Bm.sealN N k))) => conv_bytes W A c (Bm.sealN N k) hs256 h)
  have hg1 := Bm.grp_ten hd.length (by omega)
  have hg2 := Bm.grp_ten (Bm.sealN N k).length (by omega)
  have Htx1 := Lib.hid (fun W b (h : CW W b [2]) => wtext_any b [2] hd W (by simp) (by omega) h)
  have Htx2 := Lib.hid (fun W b (h : CW W b ([2] ++ (Bm.grp hd.length ++ hd))) => wtext_any b ([2] ++ (Bm.grp hd.length ++ hd)) (Bm.sealN N k) W (by simp; omega) (by omega) h)
  have e0 : ([2] ++ (Bm.grp hd.length ++ hd)) ++ (Bm.grp (Bm.sealN N k).length ++ Bm.sealN N k) = Bm.codedS hd (Bm.sealN N k) := by
    unfold Bm.codedS
    simp
  rw [e0] at Htx2
  have Hstr := Lib.hid (fun W b (h : CW W b (Bm.codedS hd (Bm.sealN N k))) => wstr_any b (Bm.codedS hd (Bm.sealN N k)) W (by simp [Bm.codedS]; omega) hQ.lt h)
  have Hr := Lib.hid hr
  have Hrc := Lib.hid hrc
  have Hkeep := Lib.hid (fun W W' p h hb => stab_keep W W' p ls (Bm.logA l) h hb)
  rw [← hlen]
  clear hll hT1 hok hiff hls hfair hpos hls256 hshort hlog hsl hsi hfn hlsn ht hc hN hk he hsl2 hs256 hQ hb3 hhd hhl hhlt hg1 hg2 e0 hr hrc hlt h28 hlen hk9 hlgb
  generalize Bm.sealN N k = sl at *
  generalize Bm.codedS hd sl = E at *
  generalize Bm.hdrA ls (Bm.logA l) = hda at *
  generalize Bm.logA l = lg at *
  generalize l.length = ln at *
  have Hls : Hid (i64s ls ≠ []) := Lib.hid (fun e => by rw [← List.length_eq_zero_iff, i64s_length] at e; omega)
  clear hlsne
  generalize ls.length = lsn at *
  generalize hcl : cs.length = m at *
  clear hcl
  go_enter Tryz.func63, Tryz.ntmps63
  go_wp2_with fail
  refine H2.out.mono ?_
  rintro e w1 ⟨rfl, hb1⟩
  have Hb1 := Lib.hid hb1
  have H3' := Lib.hid (H3.out w1 (reads_on Hrc.out hb1))
  clear hb1 H2 H3 Hrc
  go_wp2_with fail
  refine H3'.out.mono ?_
  rintro e w2 ⟨A2, c2, rfl, hr2, hb2⟩
  have Hb2 := Lib.hid (Hb1.out.trans (hb2.mono Hb1.out.size))
  obtain ⟨bw, hbw⟩ : ∃ bw, w2.heap.size = bw := ⟨_, rfl⟩
  have hal := (Below.refl w2.heap.size w2).alloc (Nat.le_refl _) (.cells #[.pointer none, .int .u64 0, .int .i64 0] 77)
  have hws := WS.new w2 77 (by decide)
  have hA2 : ∀ a, A2 = some a → a.block ≠ bw := fun a e => by
    obtain ⟨g, off, e2, hcell⟩ := hr2 Hls.out
    rw [e2] at e
    injection e with e
    subst e
    have h1 : 0 < (i64s ls).length := List.length_pos_iff.2 Hls.out
    have h2 := hcell 0 h1
    rw [List.getElem?_eq_getElem h1] at h2
    have h3 := World.block_lt_of_cell? w2 _ h2
    dsimp only at h3 ⊢
    omega
  have hr3 := reads_on hr2 hal
  have Hr3 := Lib.hid hr3
  have Hp := Lib.hid (Hput.out _ _ A2 c2 hws hr3 (by rw [hbw]; exact hA2))
  have Hbal := Lib.hid (Hb2.out.trans (hal.mono Hb2.out.size))
  have Hbw := Lib.hid hbw
  have HA2 := Lib.hid hA2
  have hle : w.heap.size ≤ bw := by rw [← hbw]; exact Hb2.out.size
  clear hr2 hb2 Hb1 H3' hal hws hA2 hr3 hbw Hput Hls
  go_wp2_with fail
  rw [Hbw.out] at Hp
  rw [Hbw.out]
  refine Hp.out.mono ?_
  rintro e w4 ⟨rfl, hws4, hg4⟩
  have Hb4 := Lib.hid (Hbal.out.grown hg4 Hbal.out.size (fun x e => by injection e with e; omega))
  have hr4 := reads_keep Hr3.out HA2.out hg4
  have Hbd4 := Lib.hid (H4.out A2 c2 w4 hr4)
  have Hws4 := Lib.hid hws4
  clear hws4 hg4 Hp Hbal hr4 Hr3 HA2 H4 Hbw Hb2
  go_wp2_with fail
  refine Hbd4.out.mono ?_
  rintro e w5 ⟨p, rfl, hst5, hb5⟩
  have Hb5 := Lib.hid (Hb4.out.trans (hb5.mono Hb4.out.size))
  have Hws5 := Lib.hid (Hws4.out.below hb5)
  have He5 := Lib.hid (H6.out w5 p hst5 (reads_on Hr.out Hb5.out))
  clear hst5 hb5 Hb4 Hws4 Hbd4 H6 Hr
  go_wp2_with fail
  refine He5.out.mono ?_
  rintro e w6 ⟨⟨A6, c6, rfl, hr6⟩, hb6⟩
  have Hb6 := Lib.hid (Hb5.out.trans (hb6.mono Hb5.out.size))
  have Hws6 := Lib.hid (Hws5.out.below hb6)
  have Hr6 := Lib.hid hr6
  clear hr6 hb6 Hb5 Hws5 He5
  have Hcv2' : Hid (∀ W, Below w6.heap.size w6 W → (convert 45 9 (.slice A6 sl.length c6)).run Tryz.prog W = .ok (.string (strOf sl)) W) := Lib.hid (fun W hb => Hcv2.out W A6 c6 (reads_on Hr6.out hb))
  have hcv2 := Hcv2'.out
  clear Hcv2 Hr6 Hcv2'
  generalize strOf sl = sls at *
  generalize strOf hd = shd at *
  have Hend : Hid (∃ S, Bm.StrQ cs S ∧ strOf E = strOf S) := Lib.hid ⟨E, HQ.out, rfl⟩
  clear HQ
  generalize strOf E = sE at *
  go_upto_region 9 with fail
  refine wp_region_held_drew (S := (fun W : World => Below w6.heap.size w6 W)) (by kernel_rfl) (by exact (Below.refl _ _).drew) (fun hHeld => ?_)
  refine wpAnyH_take (i := 4) (oi := { dst := some 43, op := Go.Op.move (Go.Operand.tmp 12), type := 45, pos := "stream.go:81", after := #[], guard := none }) (v := ?_) rfl (by kernel_rfl) (by kernel_rfl) (by kernel_rfl) (fun _ _ _ h => h) (Or.inl ⟨by rfl, ?_⟩) (by assumption) ?_
  rotate_left
  · (intro w hSw; (try dsimp only at hSw); go_simp; (try with_reducible rfl))
  try simp only [Act.put, List.setIfInBounds_toArray, List.set_cons_zero, List.set_cons_succ]
  refine wpAnyH_take (i := 5) (oi := { dst := some 44, op := Go.Op.convert 45 9 (Go.Operand.tmp 43), type := 9, pos := "stream.go:81", after := #[{ on := 4, ground := Go.Ground.data }], guard := none }) (v := ?_) rfl (by kernel_rfl) (by kernel_rfl) (by kernel_rfl) (fun _ _ _ h => h) (Or.inl ⟨by rfl, ?_⟩) (by assumption) ?_
  rotate_left
  · (intro w hSw; (try dsimp only at hSw); go_simp; (try with_reducible rfl))
  try simp only [Act.put, List.setIfInBounds_toArray, List.set_cons_zero, List.set_cons_succ]
  refine wpAnyH_ready (rs := [0]) (by kernel_rfl) (by simp) ?_
  refine AllReadyH.cons (o := { dst := some 39, op := Go.Op.call { callee := Go.Callee.value (Go.Operand.func 60), args := #[Go.Operand.const (Go.Value.int Go.IntKind.u64 2)], argTypes := #[44] }, type := 42, pos := "stream.go:81", after := #[], guard := none }) rfl (fun K hK => ?_) AllReadyH.nil
  go_simp
  (go_at_call 60; refine (Hbeg.out _).mono ?_; rintro e w7 ⟨b, rfl, hc7, hbb, hb7⟩; have HX := Lib.hid (hHeld.trans (hb7.mono hHeld.size)); have HB := Lib.hid (Nat.le_trans hHeld.size hbb); have HC := Lib.hid hc7; clear hc7 hb7 hbb)
  go_simp
  refine hK.out _ _ (by exact HX.out) (fun hHeld => ?_)
  clear hK K
  try simp only [Act.put, List.setIfInBounds_toArray, List.set_cons_zero, List.set_cons_succ]
  refine wpAnyH_ready (rs := [1]) (by kernel_rfl) (by simp) ?_
  refine AllReadyH.cons (o := { dst := some 40, op := Go.Op.call { callee := Go.Callee.value (Go.Operand.func 39), args := #[Go.Operand.tmp 9], argTypes := #[77] }, type := 45, pos := "stream.go:81", after := #[{ on := 0, ground := Go.Ground.chain }], guard := none }) rfl (fun K hK => ?_) AllReadyH.nil
  go_simp
  (go_at_call 39; refine (Hby.out _ _ (Hws6.out.below HX.out)).mono ?_; rintro e w8 ⟨g, rfl, hr8, hb8⟩; have HY := Lib.hid (HX.out.trans (hb8.mono HX.out.size)); have HD := Lib.hid (HC.out.below hb8); have HR := Lib.hid hr8; clear hr8 hb8 HX HC)
  go_simp
  refine hK.out _ _ (by exact HY.out) (fun hHeld => ?_)
  clear hK K
  try simp only [Act.put, List.setIfInBounds_toArray, List.set_cons_zero, List.set_cons_succ]
  have hcv1 := Hcv1.out w8 _ hd.length HR.out
  refine wpAnyH_ready (rs := [2]) (by kernel_rfl) (by simp) ?_
  refine AllReadyH.cons (o := { dst := some 41, op := Go.Op.convert 45 9 (Go.Operand.tmp 40), type := 9, pos := "stream.go:81", after := #[{ on := 1, ground := Go.Ground.data }], guard := none }) rfl (fun K hK => ?_) AllReadyH.nil
  go_simp
  refine hK.out _ _ (by exact HY.out) (fun hHeld => ?_)
  clear hK K
  try simp only [Act.put, List.setIfInBounds_toArray, List.set_cons_zero, List.set_cons_succ]
  refine wpAnyH_ready (rs := [3]) (by kernel_rfl) (by simp) ?_
  refine AllReadyH.cons (o := { dst := some 42, op := Go.Op.call { callee := Go.Callee.value (Go.Operand.func 18), args := #[Go.Operand.tmp 39, Go.Operand.tmp 41], argTypes := #[42, 9] }, type := 42, pos := "stream.go:81", after := #[{ on := 0, ground := Go.Ground.data }, { on := 2, ground := Go.Ground.data }, { on := 1, ground := Go.Ground.chain }], guard := none }) rfl (fun K hK => ?_) AllReadyH.nil
  go_simp
  (go_at_call 18; refine (Htx1.out _ _ HD.out).mono ?_; rintro e w9 ⟨rfl, hc9, hg9⟩; have HZ := Lib.hid (HY.out.trans (below_grown hg9 HB.out HY.out.size)); have HE := Lib.hid hc9; clear hc9 hg9)
  go_simp
  refine hK.out _ _ (by exact HZ.out) (fun hHeld => ?_)
  clear hK K
  try simp only [Act.put, List.setIfInBounds_toArray, List.set_cons_zero, List.set_cons_succ]
  refine wpAnyH_ready (rs := [6]) (by kernel_rfl) (by simp) ?_
  refine AllReadyH.cons (o := { dst := some 45, op := Go.Op.call { callee := Go.Callee.value (Go.Operand.func 18), args := #[Go.Operand.tmp 42, Go.Operand.tmp 44], argTypes := #[42, 9] }, type := 42, pos := "stream.go:81", after := #[{ on := 3, ground := Go.Ground.data }, { on := 5, ground := Go.Ground.data }, { on := 3, ground := Go.Ground.chain }], guard := none }) rfl (fun K hK => ?_) AllReadyH.nil
  go_simp
  (go_at_call 18; refine (Htx2.out _ _ HE.out).mono ?_; rintro e w10 ⟨rfl, hc10, hg10⟩; have HU := Lib.hid (HZ.out.trans (below_grown hg10 HB.out HZ.out.size)); have HF := Lib.hid hc10; clear hc10 hg10)
  go_simp
  refine hK.out _ _ (by exact HU.out) (fun hHeld => ?_)
  clear hK K
  try simp only [Act.put, List.setIfInBounds_toArray, List.set_cons_zero, List.set_cons_succ]
  refine wpAnyH_ready (rs := [7]) (by kernel_rfl) (by simp) ?_
  refine AllReadyH.cons (o := { dst := some 46, op := Go.Op.call { callee := Go.Callee.value (Go.Operand.func 14), args := #[Go.Operand.tmp 45], argTypes := #[42] }, type := 9, pos := "stream.go:81", after := #[{ on := 6, ground := Go.Ground.data }, { on := 6, ground := Go.Ground.chain }], guard := none }) rfl (fun K hK => ?_) AllReadyH.nil
  go_simp
  (go_at_call 14; refine (Hstr.out _ _ HF.out).mono ?_; rintro e w11 ⟨rfl, hb11⟩; have HV := Lib.hid (HU.out.trans (hb11.mono HU.out.size)); clear hb11)
  go_simp
  refine hK.out _ _ (by exact HV.out) (fun hHeld => ?_)
  clear hK K
  try simp only [Act.put, List.setIfInBounds_toArray, List.set_cons_zero, List.set_cons_succ]
  refine wpAnyH_take (i := 8) (oi := { dst := some 4, op := Go.Op.assign (Go.Operand.tmp 46), type := 9, pos := "stream.go:81", after := #[{ on := 7, ground := Go.Ground.data }, { on := 7, ground := Go.Ground.chain }, { on := 0, ground := Go.Ground.phase }, { on := 1, ground := Go.Ground.phase }, { on := 2, ground := Go.Ground.phase }, { on := 3, ground := Go.Ground.phase }, { on := 4, ground := Go.Ground.phase }, { on := 5, ground := Go.Ground.phase }, { on := 6, ground := Go.Ground.phase }, { on := 7, ground := Go.Ground.phase }], guard := none }) (v := ?_) rfl (by kernel_rfl) (by kernel_rfl) (by kernel_rfl) (fun _ _ _ h => h) (Or.inl ⟨by rfl, ?_⟩) (by assumption) ?_
  rotate_left
  · (intro w hSw; (try dsimp only at hSw); go_simp; (try with_reducible rfl))
  try simp only [Act.put, List.setIfInBounds_toArray, List.set_cons_zero, List.set_cons_succ]
  refine wpAnyH_take (i := 9) (oi := { dst := some 5, op := Go.Op.assign (Go.Operand.const (Go.Value.bool true)), type := 4, pos := "stream.go:81", after := #[{ on := 8, ground := Go.Ground.chain }, { on := 0, ground := Go.Ground.phase }, { on := 1, ground := Go.Ground.phase }, { on := 2, ground := Go.Ground.phase }, { on := 3, ground := Go.Ground.phase }, { on := 4, ground := Go.Ground.phase }, { on := 5, ground := Go.Ground.phase }, { on := 6, ground := Go.Ground.phase }, { on := 7, ground := Go.Ground.phase }, { on := 8, ground := Go.Ground.phase }], guard := none }) (v := ?_) rfl (by kernel_rfl) (by kernel_rfl) (by kernel_rfl) (fun _ _ _ h => h) (Or.inl ⟨by rfl, ?_⟩) (by assumption) ?_
  rotate_left
  · (intro w hSw; (try dsimp only at hSw); go_simp; (try with_reducible rfl))
  try simp only [Act.put, List.setIfInBounds_toArray, List.set_cons_zero, List.set_cons_succ]
  refine wpAnyH_done (by kernel_rfl) ?_ _
  go_wp2
  go_ret2
  obtain ⟨S, hS1, hS2⟩ := Hend.out
  exact ⟨⟨S, hS1, by rw [← hS2]; rfl⟩, Hb6.out.trans (HV.out.mono Hb6.out.size)⟩
end Go.Proofs.YtbdciiiimdbmkaaGreat

namespace Go.Proofs.YtbdciiiimdbmkaaGreat
open Go.RowKit

theorem cut8 (A : Option Addr) (L c q : Nat) (W : World) (h : q ≤ L) (hc : L ≤ c) : (Instr.slice 45 (.slice A L c) none (some (.int .i64 (q : Int))) none).run Tryz.prog W = .ok (.slice A q c) W := by
  have h1 : q ≤ c := by omega
  go_simp
theorem reads_take {w : World} {A : Option Addr} {l : List Nat} (k : Nat) (h : Reads w A (u8s l)) : Reads w A (u8s (l.take k)) := fun hne => by
  have h0 : l.take k ≠ [] := by intro e; rw [e] at hne; exact hne rfl
  obtain ⟨g, off, e, hc⟩ := h (by intro e; have : l = [] := by simpa [u8s] using e
                                  rw [this] at h0; simp at h0)
  refine ⟨g, off, e, fun j hj => ?_⟩
  rw [u8s_length, List.length_take] at hj
  rw [hc j (by rw [u8s_length]; omega), u8s_get? l j (by omega), u8s_get? (l.take k) j (by rw [List.length_take]; omega), List.getElem_take]
theorem reads_keepR {w w' : World} {A : Option Addr} {xs : List Value} {row : Option Nat} (h : Reads w A xs) (hA : ∀ a, A = some a → row ≠ some a.block) (hg : w.grownBy w' row) : Reads w' A xs := fun hne => by
  obtain ⟨g, off, rfl, hc⟩ := h hne
  have hgb := hA _ rfl
  refine ⟨g, off, rfl, fun j hj => ?_⟩
  have h1 := hc j hj
  have hlt : j < xs.length := hj
  rw [List.getElem?_eq_getElem hlt] at h1 ⊢
  have h2 := World.block_lt_of_cell? w _ h1
  exact (World.cell?_of_block (a := ⟨g, off + j, none⟩) (hg.block g h2 (fun e => hgb e.symm))).trans h1
set_option maxHeartbeats 1000000 in
set_option maxRecDepth 100000 in
theorem qstreams_any (A : Option Addr) (c : Nat) (cs : List Nat) (w : World) (h0 : 0 < cs.length) (hl : cs.length ≤ 700) (hc : cs.length ≤ c) (h28 : ∀ x ∈ cs, x < 28) (hr : Reads w A (u8s cs)) :
    Calls Tryz.prog 41 #[.slice A cs.length c] w fun e w' => (∃ A' c' ss, e = .returned (.slice A' ss.length c') ∧ Reads w' A' (strVq ss) ∧ (∀ s ∈ ss, Bm.StrQ cs s) ∧ ss[0]? = some (Bm.plainL cs) ∧ ss.length ≤ 3) ∧ Below w.heap.size w w' := by
  obtain ⟨i0, hi, hz0, hz1, hz2⟩ := info_parts info_str
  have hlt : ∀ x ∈ cs, x < 256 := fun x hx => by have := h28 x hx; omega
  have hT1 := Bm.topB_le cs hlt
  have Hcv : Hid (∀ W, Below w.heap.size w W → (convert 45 9 (.slice A cs.length c)).run Tryz.prog W = .ok (.string (strOf cs)) W) := Lib.hid (fun W hb => conv_bytes W A c cs hlt (reads_on hr hb))
  have ht1 : (cs.take 1).length = 1 := by rw [List.length_take]; omega
  have Hcv1 : Hid (∀ W, Below w.heap.size w W → (convert 45 9 (.slice A 1 c)).run Tryz.prog W = .ok (.string (strOf (cs.take 1))) W) := Lib.hid (fun W hb => by
    have h := conv_bytes W A c (cs.take 1) (take_lt hlt 1) (reads_take 1 (reads_on hr hb))
    rw [ht1] at h
    exact h)
  have Hsl : Hid (∀ W, (Instr.slice 45 (.slice A cs.length c) none (some (.int .i64 1)) none).run Tryz.prog W = .ok (.slice A 1 c) W) := Lib.hid (fun W => cut8 A cs.length c 1 W (by omega) hc)
  have Hbeg0 := Lib.hid (fun W => zbegin_any 0 W (by omega))
  have Hbeg1 := Lib.hid (fun W => zbegin_any 1 W (by omega))
  have Hraw0 := Lib.hid (fun W b (h : CW W b [0]) => wraw_any b [0] cs W (by simp; omega) h)
  have Hraw1 := Lib.hid (fun W b (h : CW W b [1]) => wraw_any b [1] (cs.take 1) W (by simp; omega) h)
  have e0 : [0] ++ cs = Bm.plainL cs := rfl
  have e1 : [1] ++ cs.take 1 = Bm.alikeS cs := rfl
  have Hq0 := Lib.hid (Bm.str_plain cs h28)
  have hp256 : ∀ x ∈ Bm.plainL cs, x < 256 := Hq0.out.lt
  have ha256 : ∀ x ∈ Bm.alikeS cs, x < 256 := fun x hx => by
    rcases List.mem_cons.1 hx with rfl | hx
    · omega
    · exact take_lt hlt 1 x hx
  rw [e0] at Hraw0
  rw [e1] at Hraw1
  have Hstr0 := Lib.hid (fun W b (h : CW W b (Bm.plainL cs)) => wstr_any b (Bm.plainL cs) W (by simp [Bm.plainL]; omega) hp256 h)
  have Hstr1 := Lib.hid (fun W b (h : CW W b (Bm.alikeS cs)) => wstr_any b (Bm.alikeS cs) W (by simp [Bm.alikeS]; omega) ha256 h)
  have Hq1 := Lib.hid (fun h => Bm.str_alike cs h28 h)
  have Hof := Lib.hid (fun W (hb : Below w.heap.size w W) => nof_far A c cs W (by omega) hlt (reads_on hr hb))
  have Hsy := Lib.hid (fun A c W h => nsyms_nat A c cs W hlt h)
  have Hin := Lib.hid (fun B d W (hb : Below w.heap.size w W) (h : Reads W B (i64s (Bm.countsOf cs))) => qin_any A B c d cs W h0 hl h28 (reads_on hr hb) (by unfold Bm.countsI; rw [i64z_nat]; exact h))
  have hcv := Hcv.out
  clear h28 hr hlt hT1 e0 e1 hp256 ha256 ht1 Hcv
  go_enter Tryz.func41, Tryz.ntmps41
  go_upto_region 1 with fail
  refine wp_region_held_drew (S := (fun W : World => Below w.heap.size w W)) (by kernel_rfl) (by exact (Below.refl _ _).drew) (fun hHeld => ?_)
  refine wpAnyH_take (i := 1) (oi := { dst := some 8, op := Go.Op.move (Go.Operand.tmp 0), type := 45, pos := "stream.go:52", after := #[], guard := none }) (v := ?_) rfl (by kernel_rfl) (by kernel_rfl) (by kernel_rfl) (fun _ _ _ h => h) (Or.inl ⟨by rfl, ?_⟩) (by assumption) ?_
  rotate_left
  · (intro w hSw; (try dsimp only at hSw); go_simp; (try with_reducible rfl))
  try simp only [Act.put, List.setIfInBounds_toArray, List.set_cons_zero, List.set_cons_succ]
  refine wpAnyH_take (i := 2) (oi := { dst := some 9, op := Go.Op.convert 45 9 (Go.Operand.tmp 8), type := 9, pos := "stream.go:52", after := #[{ on := 1, ground := Go.Ground.data }], guard := none }) (v := ?_) rfl (by kernel_rfl) (by kernel_rfl) (by kernel_rfl) (fun _ _ _ h => h) (Or.inl ⟨by rfl, ?_⟩) (by assumption) ?_
  rotate_left
  · (intro w hSw; (try dsimp only at hSw); go_simp; (try with_reducible rfl))
  try simp only [Act.put, List.setIfInBounds_toArray, List.set_cons_zero, List.set_cons_succ]
  refine wpAnyH_ready (rs := [0]) (by kernel_rfl) (by simp) ?_
  refine AllReadyH.cons (o := { dst := some 7, op := Go.Op.call { callee := Go.Callee.value (Go.Operand.func 60), args := #[Go.Operand.const (Go.Value.int Go.IntKind.u64 0)], argTypes := #[44] }, type := 42, pos := "stream.go:52", after := #[], guard := none }) rfl (fun K hK => ?_) AllReadyH.nil
  go_simp
  (go_at_call 60; refine (Hbeg0.out _).mono ?_; rintro e w7 ⟨b, rfl, hc7, hbb, hb7⟩; have HX := Lib.hid (hHeld.trans (hb7.mono hHeld.size)); have HB := Lib.hid (Nat.le_trans hHeld.size hbb); have HC := Lib.hid hc7; clear hc7 hb7 hbb)
  go_simp
  refine hK.out _ _ (by exact HX.out) (fun hHeld => ?_)
  clear hK K
  try simp only [Act.put, List.setIfInBounds_toArray, List.set_cons_zero, List.set_cons_succ]
  refine wpAnyH_ready (rs := [3]) (by kernel_rfl) (by simp) ?_
  refine AllReadyH.cons (o := { dst := some 10, op := Go.Op.call { callee := Go.Callee.value (Go.Operand.func 16), args := #[Go.Operand.tmp 7, Go.Operand.tmp 9], argTypes := #[42, 9] }, type := 42, pos := "stream.go:52", after := #[{ on := 0, ground := Go.Ground.data }, { on := 2, ground := Go.Ground.data }, { on := 0, ground := Go.Ground.chain }], guard := none }) rfl (fun K hK => ?_) AllReadyH.nil
  go_simp
  (go_at_call 16; refine (Hraw0.out _ _ HC.out).mono ?_; rintro e w9 ⟨rfl, hc9, hg9⟩; have HZ := Lib.hid (HX.out.trans (below_grown hg9 HB.out HX.out.size)); have HE := Lib.hid hc9; clear hc9 hg9)
  go_simp
  refine hK.out _ _ (by exact HZ.out) (fun hHeld => ?_)
  clear hK K
  try simp only [Act.put, List.setIfInBounds_toArray, List.set_cons_zero, List.set_cons_succ]
  refine wpAnyH_ready (rs := [4]) (by kernel_rfl) (by simp) ?_
  refine AllReadyH.cons (o := { dst := some 11, op := Go.Op.call { callee := Go.Callee.value (Go.Operand.func 14), args := #[Go.Operand.tmp 10], argTypes := #[42] }, type := 9, pos := "stream.go:52", after := #[{ on := 3, ground := Go.Ground.data }, { on := 3, ground := Go.Ground.chain }], guard := none }) rfl (fun K hK => ?_) AllReadyH.nil
  go_simp
  (go_at_call 14; refine (Hstr0.out _ _ HE.out).mono ?_; rintro e w11 ⟨rfl, hb11⟩; have HV := Lib.hid (HZ.out.trans (hb11.mono HZ.out.size)); clear hb11)
  go_simp
  refine hK.out _ _ (by exact HV.out) (fun hHeld => ?_)
  clear hK K
  try simp only [Act.put, List.setIfInBounds_toArray, List.set_cons_zero, List.set_cons_succ]
  refine wpAnyH_ready (rs := [5]) (by kernel_rfl) (by simp) ?_
  refine AllReadyH.cons (o := { dst := some 12, op := Go.Op.buildSlice 87 1 #[(0, Go.Operand.tmp 11)], type := 87, pos := "stream.go:52", after := #[{ on := 4, ground := Go.Ground.data }], guard := none }) rfl (fun K hK => ?_) AllReadyH.nil
  go_simp
  refine hK.out _ _ (by exact HV.out.alloc HV.out.size _) (fun hHeld => ?_)
  clear hK K
  try simp only [Act.put, List.setIfInBounds_toArray, List.set_cons_zero, List.set_cons_succ]
  refine wpAnyH_take (i := 6) (oi := { dst := some 3, op := Go.Op.assign (Go.Operand.tmp 12), type := 87, pos := "stream.go:52", after := #[{ on := 5, ground := Go.Ground.data }, { on := 4, ground := Go.Ground.chain }, { on := 0, ground := Go.Ground.phase }, { on := 1, ground := Go.Ground.phase }, { on := 2, ground := Go.Ground.phase }, { on := 3, ground := Go.Ground.phase }, { on := 4, ground := Go.Ground.phase }, { on := 5, ground := Go.Ground.phase }], guard := none }) (v := ?_) rfl (by kernel_rfl) (by kernel_rfl) (by kernel_rfl) (fun _ _ _ h => h) (Or.inl ⟨by rfl, ?_⟩) (by assumption) ?_
  rotate_left
  · (intro w hSw; (try dsimp only at hSw); go_simp; (try with_reducible rfl))
  try simp only [Act.put, List.setIfInBounds_toArray, List.set_cons_zero, List.set_cons_succ]
  refine wpAnyH_done (by kernel_rfl) ?_ _
  have hrow := Row.new w11 9 (strVq [Bm.plainL cs])
  have hown := own_of_rowS hrow HV.out.size (by simp)
  have hb12 := HV.out.alloc HV.out.size (.cells #[.string (strOf (Bm.plainL cs))] 9)
  have e9 : w11.alloc (.cells (strVq [Bm.plainL cs]).toArray 9) = w11.alloc (.cells #[.string (strOf (Bm.plainL cs))] 9) := rfl
  rw [e9] at hown
  obtain ⟨u, hu⟩ : ∃ u, u = Value.slice (some ⟨w11.heap.size, 0, none⟩) 1 1 := ⟨_, rfl⟩
  have hown2 : (w11.alloc (.cells #[.string (strOf (Bm.plainL cs))] 9)).ownsRow w.heap.size 9 1 u 1 (strVq [Bm.plainL cs]) := by rw [hu]; exact hown
  have Hown := Lib.hid hown2
  have Hb12 := Lib.hid hb12
  rw [← hu]
  clear hrow hown hb12 e9 hu hown2 HX HB HC HZ HE HV Hbeg0 Hraw0 Hstr0 hHeld
  generalize w11.alloc (.cells #[.string (strOf (Bm.plainL cs))] 9) = wA at *
  clear hcv
  go_wp2_with fail
  refine (Hof.out wA Hb12.out).mono ?_
  rintro e w2 ⟨B, d, rfl, ⟨hr2, hB⟩, hb2⟩
  have HU : Hid (∀ a q, B = some a → u.ownBlock = some q → q ≠ a.block) := Lib.hid (fun a q e1 e2 e3 => by
    have h1 := hB a e1
    have h2 := (Hown.out.lt q e2).2
    omega)
  clear hB
  have Hb2 := Lib.hid (Hb12.out.trans (hb2.mono Hb12.out.size))
  have Hown2 := Lib.hid (own_below Hown.out hb2)
  have Hs2 := Lib.hid (Hsy.out B d w2 hr2)
  have Hr2 := Lib.hid hr2
  clear hr2 hb2 Hb12 Hown Hof Hsy
  go_wp2_with fail
  refine Hs2.out.mono ?_
  rintro e w3 ⟨rfl, hb3⟩
  have Hb3 := Lib.hid (Hb2.out.trans (hb3.mono Hb2.out.size))
  have Hr3 := Lib.hid (reads_on Hr2.out hb3)
  have Hown3 := Lib.hid (own_below Hown2.out hb3)
  clear hb3 Hb2 Hs2 Hr2 Hown2
  have Hin' := Hin
  clear Hin
  by_cases h1 : Bm.symN (Bm.countsI cs) = 1
  case' pos =>
    have hQ1 := Hq1.out h1
    rw [h1]
    have HQ1 := Lib.hid hQ1
    clear h1 hQ1 Hq1
    have hcv1 := Hcv1.out
    have hsl := Hsl.out
    clear Hcv1 Hsl
    go_upto_region 4 with fail
    refine wp_region_held_drew (S := (fun W : World => Below w.heap.size w W)) (by kernel_rfl) (by exact Hb3.out.drew) (fun hHeld => ?_)
    refine wpAnyH_take (i := 0) (oi := { dst := some 18, op := Go.Op.move (Go.Operand.tmp 3), type := 87, pos := "stream.go:55", after := #[], guard := none }) (v := ?_) rfl (by kernel_rfl) (by kernel_rfl) (by kernel_rfl) (fun _ _ _ h => h) (Or.inl ⟨by rfl, ?_⟩) (by assumption) ?_
    rotate_left
    · (intro w hSw; (try dsimp only at hSw); go_simp; (try with_reducible rfl))
    try simp only [Act.put, List.setIfInBounds_toArray, List.set_cons_zero, List.set_cons_succ]
    refine wpAnyH_take (i := 2) (oi := { dst := some 20, op := Go.Op.move (Go.Operand.tmp 0), type := 45, pos := "stream.go:55", after := #[], guard := none }) (v := ?_) rfl (by kernel_rfl) (by kernel_rfl) (by kernel_rfl) (fun _ _ _ h => h) (Or.inl ⟨by rfl, ?_⟩) (by assumption) ?_
    rotate_left
    · (intro w hSw; (try dsimp only at hSw); go_simp; (try with_reducible rfl))
    try simp only [Act.put, List.setIfInBounds_toArray, List.set_cons_zero, List.set_cons_succ]
    refine wpAnyH_take (i := 3) (oi := { dst := some 21, op := Go.Op.slice 45 (Go.Operand.tmp 20) none (some (Go.Operand.const (Go.Value.int Go.IntKind.i64 1))) none, type := 45, pos := "stream.go:55", after := #[{ on := 2, ground := Go.Ground.data }], guard := none }) (v := ?_) rfl (by kernel_rfl) (by kernel_rfl) (by kernel_rfl) (fun _ _ _ h => h) (Or.inl ⟨by rfl, ?_⟩) (by assumption) ?_
    rotate_left
    · (intro w hSw; (try dsimp only at hSw); go_simp; (try with_reducible rfl))
    try simp only [Act.put, List.setIfInBounds_toArray, List.set_cons_zero, List.set_cons_succ]
    refine wpAnyH_take (i := 4) (oi := { dst := some 22, op := Go.Op.convert 45 9 (Go.Operand.tmp 21), type := 9, pos := "stream.go:55", after := #[{ on := 3, ground := Go.Ground.data }], guard := none }) (v := ?_) rfl (by kernel_rfl) (by kernel_rfl) (by kernel_rfl) (fun _ _ _ h => h) (Or.inl ⟨by rfl, ?_⟩) (by assumption) ?_
    rotate_left
    · (intro w hSw; (try dsimp only at hSw); go_simp; (try with_reducible rfl))
    try simp only [Act.put, List.setIfInBounds_toArray, List.set_cons_zero, List.set_cons_succ]
    refine wpAnyH_ready (rs := [1]) (by kernel_rfl) (by simp) ?_
    refine AllReadyH.cons (o := { dst := some 19, op := Go.Op.call { callee := Go.Callee.value (Go.Operand.func 60), args := #[Go.Operand.const (Go.Value.int Go.IntKind.u64 1)], argTypes := #[44] }, type := 42, pos := "stream.go:55", after := #[], guard := none }) rfl (fun K hK => ?_) AllReadyH.nil
    go_simp
    (go_at_call 60; refine (Hbeg1.out _).mono ?_; rintro e w7 ⟨b, rfl, hc7, hbb, hb7⟩; have HX := Lib.hid ((Below.refl w3.heap.size w3).drew.trans (hb7.mono (Nat.le_refl _))); have HB := Lib.hid hbb; have HC := Lib.hid hc7; clear hc7 hb7 hbb)
    go_simp
    refine hK.out _ _ (by exact Hb3.out.trans (HX.out.mono Hb3.out.size)) (fun hHeld => ?_)
    clear hK K
    try simp only [Act.put, List.setIfInBounds_toArray, List.set_cons_zero, List.set_cons_succ]
    refine wpAnyH_ready (rs := [5]) (by kernel_rfl) (by simp) ?_
    refine AllReadyH.cons (o := { dst := some 23, op := Go.Op.call { callee := Go.Callee.value (Go.Operand.func 16), args := #[Go.Operand.tmp 19, Go.Operand.tmp 22], argTypes := #[42, 9] }, type := 42, pos := "stream.go:55", after := #[{ on := 1, ground := Go.Ground.data }, { on := 4, ground := Go.Ground.data }, { on := 1, ground := Go.Ground.chain }], guard := none }) rfl (fun K hK => ?_) AllReadyH.nil
    go_simp
    (go_at_call 16; refine (Hraw1.out _ _ HC.out).mono ?_; rintro e w9 ⟨rfl, hc9, hg9⟩; have HZ := Lib.hid (HX.out.trans (below_grown hg9 HB.out HX.out.size)); have HE := Lib.hid hc9; clear hc9 hg9)
    go_simp
    refine hK.out _ _ (by exact Hb3.out.trans (HZ.out.mono Hb3.out.size)) (fun hHeld => ?_)
    clear hK K
    try simp only [Act.put, List.setIfInBounds_toArray, List.set_cons_zero, List.set_cons_succ]
    refine wpAnyH_ready (rs := [6]) (by kernel_rfl) (by simp) ?_
    refine AllReadyH.cons (o := { dst := some 24, op := Go.Op.call { callee := Go.Callee.value (Go.Operand.func 14), args := #[Go.Operand.tmp 23], argTypes := #[42] }, type := 9, pos := "stream.go:55", after := #[{ on := 5, ground := Go.Ground.data }, { on := 5, ground := Go.Ground.chain }], guard := none }) rfl (fun K hK => ?_) AllReadyH.nil
    go_simp
    (go_at_call 14; refine (Hstr1.out _ _ HE.out).mono ?_; rintro e w11 ⟨rfl, hb11⟩; have HV := Lib.hid (HZ.out.trans (hb11.mono HZ.out.size)); clear hb11)
    go_simp
    refine hK.out _ _ (by exact Hb3.out.trans (HV.out.mono Hb3.out.size)) (fun hHeld => ?_)
    clear hK K
    try simp only [Act.put, List.setIfInBounds_toArray, List.set_cons_zero, List.set_cons_succ]
    refine wpAnyH_ready (rs := [7]) (by kernel_rfl) (by simp) ?_
    refine AllReadyH.cons (o := { dst := some 25, op := Go.Op.buildSlice 87 1 #[(0, Go.Operand.tmp 24)], type := 87, pos := "stream.go:55", after := #[{ on := 6, ground := Go.Ground.data }], guard := none }) rfl (fun K hK => ?_) AllReadyH.nil
    go_simp
    refine hK.out _ _ (by exact Hb3.out.trans ((HV.out.alloc HV.out.size _).mono Hb3.out.size)) (fun hHeld => ?_)
    clear hK K
    try simp only [Act.put, List.setIfInBounds_toArray, List.set_cons_zero, List.set_cons_succ]
    have Hbb := Lib.hid (HV.out.alloc HV.out.size (.cells #[.string (strOf (Bm.alikeS cs))] 9))
    have Hownb := Lib.hid (own_below Hown3.out Hbb.out)
    have Hnews := Lib.hid (World.news_of_block (heap_alloc_new w11 (.cells #[.string (strOf (Bm.alikeS cs))] 9)))
    refine wpAnyH_ready (rs := [8]) (by kernel_rfl) (by simp) ?_
    refine AllReadyH.cons (o := { dst := some 26, op := Go.Op.call { callee := Go.Callee.builtin Go.Builtin.append, args := #[Go.Operand.tmp 18, Go.Operand.tmp 25], argTypes := #[87, 87] }, type := 87, pos := "stream.go:55", after := #[{ on := 0, ground := Go.Ground.data }, { on := 7, ground := Go.Ground.data }, { on := 6, ground := Go.Ground.chain }], guard := none }) rfl (fun K hK => ?_) AllReadyH.nil
    (refine step_append_lies _ (by rfl) _ _ _ (by rfl) w.heap.size 9 i0 (.string ⟨#[]⟩) 1 16 Tryz.underlying87 hi hz0 hz1 hz2 rfl (by omega) u 1 (strVq [Bm.plainL cs]) (by rfl) Hownb.out ⟨w11.heap.size, 0, none⟩ 1 1 [.string (strOf (Bm.alikeS cs))] (by rfl) (by rfl) Hnews.out (by intro u hu; simp at hu; subst hu; rfl) (by omega) (by unfold maxLen; omega) (by omega) (by have := Hbb.out.size; have := Hb3.out.size; omega) _ rfl ?_; intro gN capN wN hoN hgN _ _; have HoN := Lib.hid hoN; have HbN := Lib.hid ((Hb3.out.trans (Hbb.out.mono Hb3.out.size)).grown hgN (by have := Hbb.out.size; have := Hb3.out.size; omega) (fun q e => (Hownb.out.lt q e).1)); have HRb := Lib.hid (reads_keepR (reads_on Hr3.out Hbb.out) (fun a e e2 => HU.out a _ e e2 rfl) hgN); clear hoN hgN)
    refine hK.out _ _ (by exact HbN.out) (fun hHeld => ?_)
    clear hK K
    try simp only [Act.put, List.setIfInBounds_toArray, List.set_cons_zero, List.set_cons_succ]
    refine wpAnyH_take (i := 9) (oi := { dst := some 3, op := Go.Op.assign (Go.Operand.tmp 26), type := 87, pos := "stream.go:55", after := #[{ on := 8, ground := Go.Ground.data }, { on := 8, ground := Go.Ground.chain }, { on := 0, ground := Go.Ground.phase }, { on := 1, ground := Go.Ground.phase }, { on := 2, ground := Go.Ground.phase }, { on := 3, ground := Go.Ground.phase }, { on := 4, ground := Go.Ground.phase }, { on := 5, ground := Go.Ground.phase }, { on := 6, ground := Go.Ground.phase }, { on := 7, ground := Go.Ground.phase }, { on := 8, ground := Go.Ground.phase }], guard := none }) (v := ?_) rfl (by kernel_rfl) (by kernel_rfl) (by kernel_rfl) (fun _ _ _ h => h) (Or.inl ⟨by rfl, ?_⟩) (by assumption) ?_
    rotate_left
    · (intro w hSw; (try dsimp only at hSw); go_simp; (try with_reducible rfl))
    try simp only [Act.put, List.setIfInBounds_toArray, List.set_cons_zero, List.set_cons_succ]
    refine wpAnyH_done (by kernel_rfl) ?_ _
    have hE : strVq [Bm.plainL cs] ++ [Value.string (strOf (Bm.alikeS cs))] = strVq [Bm.plainL cs, Bm.alikeS cs] := rfl
    have hown := HoN.out
    rw [hE] at hown
    obtain ⟨u2, hu2⟩ : ∃ u2, u2 = Value.slice (some ⟨gN, 0, none⟩) 2 capN := ⟨_, rfl⟩
    rw [show (1 + 1 : Nat) = 2 from rfl, ← hu2] at hown
    rw [← hu2]
    obtain ⟨ss, hss⟩ : ∃ ss, ss = [Bm.plainL cs, Bm.alikeS cs] := ⟨_, rfl⟩
    rw [← hss] at hown
    have HownT := Lib.hid hown
    have HssT : Hid ((∀ s ∈ ss, Bm.StrQ cs s) ∧ ss[0]? = some (Bm.plainL cs)) := Lib.hid (by
      rw [hss]
      refine ⟨fun s hs => ?_, by simp⟩
      simp at hs
      rcases hs with rfl | rfl
      · exact Hq0.out
      · exact HQ1.out)
    obtain ⟨k, hk⟩ : ∃ k, k = 2 := ⟨_, rfl⟩
    rw [← hk] at HownT
    have HkT : Hid (ss.length = k ∧ k ≤ 2) := Lib.hid (by rw [hss, hk]; exact ⟨rfl, Nat.le_refl _⟩)
    have HrT := HRb
    have HbT := HbN
    have hk2 : k ≤ 2 := by omega
    clear hE hown hu2 hss hk HRb HbN HoN Hbb Hownb Hnews HX HB HC HZ HE HV hHeld hcv1 hsl HQ1 Hq0 Hraw1 Hstr1 Hbeg1 Hr3 Hb3 Hown3 HU
    rename World => wT
  case' neg =>
    have hsy : (((Bm.symN (Bm.countsI cs) : Nat) : Int) == 1) = false := by rw [beq_eq_false_iff_ne]; omega
    generalize Bm.symN (Bm.countsI cs) = sy at *
    obtain ⟨ss, hss⟩ : ∃ ss, ss = [Bm.plainL cs] := ⟨_, rfl⟩
    have HssT : Hid ((∀ s ∈ ss, Bm.StrQ cs s) ∧ ss[0]? = some (Bm.plainL cs)) := Lib.hid (by
      rw [hss]
      refine ⟨fun s hs => ?_, by simp⟩
      simp at hs
      rw [hs]
      exact Hq0.out)
    obtain ⟨k, hk⟩ : ∃ k, k = 1 := ⟨_, rfl⟩
    have HownT : Hid (w3.ownsRow w.heap.size 9 1 u k (strVq ss)) := Lib.hid (by rw [hk, hss]; exact Hown3.out)
    have HkT : Hid (ss.length = k ∧ k ≤ 2) := Lib.hid (by rw [hss, hk]; exact ⟨rfl, by omega⟩)
    have HrT := Hr3
    have HbT := Hb3
    have hk2 : k ≤ 2 := by omega
    obtain ⟨u2, hu2⟩ : ∃ u2, u2 = u := ⟨_, rfl⟩
    rw [← hu2] at HownT ⊢
    clear hss hk hu2 Hq0 Hq1 Hraw1 Hstr1 Hbeg1 Hr3 Hb3 Hown3 HU h1 Hsl Hcv1
    rename World => wT
  all_goals
    have Hi4 := Lib.hid (Hin'.out B d wT HbT.out HrT.out)
    clear Hin' HrT
    go_wp2_with fail
    refine Hi4.out.mono ?_
    rintro e w5 ⟨⟨S, hS, rfl⟩, hb5⟩
    have Hb5 := Lib.hid (HbT.out.trans (hb5.mono HbT.out.size))
    have Hown5 := Lib.hid (own_below HownT.out hb5)
    have HS := Lib.hid hS
    have hs5 := Hb5.out.size
    clear hS hb5 HbT HownT Hi4
    go_wp2_with (at_builtin; refine wpList_append_own _ rfl _ _ 87 rfl w.heap.size 9 i0 (.string ⟨#[]⟩) 1 16 Tryz.underlying87 hi hz0 hz1 hz2 rfl (by decide) _ _ _ rfl (Hown5.out.alloc _) ⟨w5.heap.size, 0, none⟩ 1 1 [.string (strOf S)] rfl rfl ?d1 ?d2 ?d3 ?d4 ?d5 ?_)
    case d1 =>
      intro j u hj
      match j, hj with
      | 0, hj => simp at hj; subst hj; simp [Addr.add]
    case d2 => intro u hu; simp at hu; subst hu; rfl
    case d3 => unfold maxLen; omega
    case d4 => omega
    case d5 => simp; omega
    intro u' w7 hown7 hgr7 _
    have hbel7 : Below w.heap.size w w7 := (Hb5.out.alloc Hb5.out.size _).grown hgr7 (by simp; omega) (fun x e => (Hown5.out.lt x e).1)
    have e : strVq ss ++ [Value.string (strOf S)] = strVq (ss ++ [S]) := by simp [strVq]
    rw [e] at hown7
    obtain ⟨A', c', rfl, hrd, _⟩ := own_reads hown7
    have Hrd := Lib.hid hrd
    have Hb7 := Lib.hid hbel7
    clear hown7 hgr7 hbel7 e hrd Hown5
    go_wp2
    go_ret
    refine ⟨⟨A', c', ss ++ [S], by rw [List.length_append, HkT.out.1]; rfl, Hrd.out, fun s hs => ?_, (List.getElem?_append_left (List.getElem?_eq_some_iff.1 HssT.out.2).1).trans HssT.out.2, by rw [List.length_append, HkT.out.1]; simp; omega⟩, Hb7.out⟩
    rcases List.mem_append.1 hs with hs | hs
    · exact HssT.out.1 s hs
    · rw [List.mem_singleton.1 hs]; exact HS.out
set_option maxHeartbeats 1000000 in
set_option maxRecDepth 100000 in
/-- What Stream answers: a stream of these codes, no longer than they and one byte. -/
theorem qstr_any (A : Option Addr) (c : Nat) (cs : List Nat) (w : World) (h0 : 0 < cs.length) (hl : cs.length ≤ 700) (hc : cs.length ≤ c) (h28 : ∀ x ∈ cs, x < 28) (hr : Reads w A (u8s cs)) :
    Calls Tryz.prog 17 #[.slice A cs.length c] w fun e w' => (∃ S, Bm.StrP cs S ∧ e = .returned (.string (strOf S))) ∧ Below w.heap.size w w' := by
  have Hs := Lib.hid (qstreams_any A c cs w h0 hl hc h28 hr)
  have Hmin := Lib.hid (fun A c ss W h0 hl hr => zmin_any A c ss W h0 hl hr)
  clear hr h28
  generalize hm : cs.length = m at *
  have Hm := Lib.hid hm
  clear hm
  go_enter Tryz.func17, Tryz.ntmps17
  go_wp2_with fail
  refine Hs.out.mono ?_
  rintro e w2 ⟨⟨A', c', ss, rfl, hrd, hq, hp, hl3⟩, hb2⟩
  have Hb2 := Lib.hid hb2
  have Hq := Lib.hid (⟨hq, hp⟩ : _ ∧ _)
  have Hm2 := Lib.hid (Hmin.out A' c' ss w2 (List.getElem?_eq_some_iff.1 hp).1 (by omega) hrd)
  clear hrd hq hp hl3 hb2 Hs Hmin
  go_wp2_with fail
  refine Hm2.out.mono ?_
  rintro e w3 ⟨⟨S, hS, hmin, hfst, rfl⟩, rfl⟩
  have HS : Hid (Bm.StrP cs S) := Lib.hid ⟨Hq.out.1 S hS, by
    have := hmin _ (List.mem_of_getElem? Hq.out.2)
    simpa [Bm.plainL] using this, fun h => hfst _ Hq.out.2 (by rw [h]; rfl)⟩
  clear hS hmin hfst Hm2 Hq
  have Hend : Hid (∃ S', Bm.StrP cs S' ∧ strOf S = strOf S') := Lib.hid ⟨S, HS.out, rfl⟩
  generalize strOf S = sS at *
  go_wp2
  go_ret
  obtain ⟨S', h1, h2⟩ := Hend.out
  exact ⟨⟨S', h1, congrArg (fun x => Ending.returned (Value.string x)) h2⟩, Hb2.out⟩
end Go.Proofs.YtbdciiiimdbmkaaGreat
