/-
  The program's layer 19 (train): Pieces, by its walk: what is chosen is the document's. Conditions: as the theorem's premises say.
-/
import Derived.Test.YtaebnkeddcbmkaaGy
import Derived.Test.YtaebnkeddcbmkaaGu
import Derived.Test.YtaebnkeddcbmkaaEg
namespace Go.Proofs.Ytaebnkeddcbmkaa
open Go.RowKit Go.Maps Go.Proofs.Ytaebnkeddcbmkaa.Bm
namespace Bm
/-- The weights of records, some texts being taken. -/
def wT (B T : List ByteArray) : ByteArray → Option Nat := fun g => if tkn T g then none else wg0 B g
theorem wT_nil (B : List ByteArray) : wT B [] = wg0 B := by funext g; simp [wT, tkn]
theorem wT_snoc (B T : List ByteArray) (t : ByteArray) : delL (wT B T) (gms t) = wT B (T ++ [t]) := by
  funext g
  unfold delL wT
  rw [tkn_snoc]
  by_cases h : g ∈ gms t <;> simp [h]
theorem val_wT (B T : List ByteArray) (g : ByteArray) : val (wT B T) g = fvl B T g := by
  unfold fvl
  by_cases h : tkn T g = true
  · rw [if_pos h]; unfold val wT; rw [if_pos h]; rfl
  · rw [if_neg h, ← val_wg0]; unfold val wT; rw [if_neg h]
end Bm
theorem wor_wT (B T : List ByteArray) : wor (wT B T) = worthL B T := by
  funext t
  exact wsum_congr _ _ _ _ (fun g _ => val_wT B T g)
theorem PilQ.grownN {w w' : World} {base p g cap : Nat} {L : List Pce} {row : Option Nat} (h : PilQ w base p g cap L) (hg : w.grownBy w' row) (hr : ∀ b, row = some b → b ≠ p ∧ b ≠ g) : PilQ w' base p g cap L := by
  obtain ⟨_, _, hrow⟩ := h.row
  exact h.keepb (hg.block p h.var.lt (fun e => (hr p e.symm).1 rfl)) (hg.block g hrow.lt (fun e => (hr g e.symm).2 rfl))
theorem PilO.grownN {w w' : World} {base p : Nat} {L : List Pce} {row : Option Nat} (h : PilO w base p L) (hg : w.grownBy w' row) (hr : ∀ b t cs, row = some b → (t = 49 ∨ t = 39) → ¬ Row w b t cs) : PilO w' base p L := by
  obtain ⟨h1, g, cap, h2⟩ := h
  obtain ⟨post, _, hrow⟩ := h2.row
  exact ⟨h1, g, cap, h2.grownN hg (fun b e => ⟨fun e2 => by subst e2; exact hr b _ _ e (.inl rfl) h2.var, fun e2 => by subst e2; exact hr b _ _ e (.inr rfl) hrow⟩)⟩
theorem PilO.below {w w' : World} {base p : Nat} {L : List Pce} (h : PilO w base p L) (hb : Below w.heap.size w w') : PilO w' base p L := by
  obtain ⟨h1, g, cap, h2⟩ := h
  exact ⟨h1, g, cap, h2.below hb⟩
theorem row_one {w : World} {b : Nat} {t u : TypeId} {cs ds : List Value} (h : Row w b t cs) (h2 : Row w b u ds) : t = u := by
  unfold Row at h h2
  rw [h] at h2
  injection h2 with h2
  injection h2
theorem MapP.keptQ {w w' : World} {b n base : Nat} {F : ByteArray → Option Nat} (h : MapP w b n F) (hk : KeptQ base w w') : MapP w' b n F := h.keep (hk.blk b h.lt (fun t cs _ => h.noRow t cs))
/-- What is held in the rounds of Pieces. -/
def PcI (B3 p bw : Nat) (B : List ByteArray) (fin : List ByteArray) (w wr : World) (T : List ByteArray) (left : Nat) (v : Value) (L : List Pce) : Prop :=
  OwnS wr B3 v T ∧ MapP wr bw 100000 (wT B T) ∧ PilO wr B3 p L ∧ HInv (cnd B) (wor (wT B T)) L ∧ L.length ≤ 100000 ∧ (∃ f, left < f ∧ pcN B f left T = fin) ∧ Below w.heap.size w wr ∧ B3 ≤ wr.heap.size
theorem pc_end {B3 p bw left : Nat} {B fin T : List ByteArray} {w wr : World} {v : Value} {L : List Pce} (h : PcI B3 p bw B fin w wr T left v L) (he : (bst B T).2 = 0 ∨ left < (bst B T).1.size) : fin = T := by
  obtain ⟨_, _, _, _, _, ⟨f, _, h1⟩, _⟩ := h
  rw [← h1]
  exact pcN_end B f left T he
theorem tpieces_fin (B3 p bw : Nat) (B : List ByteArray) (fin : List ByteArray) (w wr : World) (T : List ByteArray) (left : Nat) (v : Value) (L : List Pce) (h : PcI B3 p bw B fin w wr T left v L) (hw : w.heap.size ≤ B3) (hT : fin = T) (w2 : World) (hk : KeptQ B3 wr w2) (o : Obj) : OwnS (w2.alloc o) w.heap.size v fin ∧ Below w.heap.size w (w2.alloc o) := by
  obtain ⟨h1, _, _, _, _, _, h2, h3⟩ := h
  subst hT
  have ha : Below w2.heap.size w2 (w2.alloc o) := (Below.refl _ _).alloc (Nat.le_refl _) o
  exact ⟨((h1.keptQ hk).below ha).low hw, (h2.trans (hk.bel.mono hw)).trans (ha.mono (Nat.le_trans (Nat.le_trans hw h3) hk.bel.size))⟩
set_option maxHeartbeats 1000000 in
set_option maxRecDepth 100000 in
theorem tpieces_any (A : Option Addr) (c : Nat) (R : List ByteArray) (sz : Int) (w : World) (hR : R.length ≤ 9223372036854775807) (hc : R.length ≤ c) (hs : ∀ s ∈ R, s.size ≤ 140737488351232) (hrd : Reads w A (strC R)) (hmax : MaxB w.heap.size w) :
    Calls Try.prog 8 #[.slice A R.length c, .int .i64 sz] w fun e w' => ∃ v, e = .returned v ∧ OwnS w' w.heap.size v (chosen (brt R) (min (max sz 0) 256).toNat) ∧ Below w.heap.size w w' := by
  obtain ⟨i0, hi, hz0, hz1, hz2⟩ := info_parts info_str1
  obtain ⟨q, hq⟩ : ∃ q, q = (min (max sz 0) 256).toNat := ⟨_, rfl⟩
  have hmm : min (max sz 0) 256 = (q : Int) := by omega
  have hq256 : q ≤ 256 := by omega
  rw [← hq]
  obtain ⟨fin, hfin⟩ : ∃ fin, fin = chosen (brt R) q := ⟨_, rfl⟩
  rw [← hfin]
  have Hfin : Hid (pcN (brt R) (q + 1) q [] = fin) := Lib.hid hfin.symm
  obtain ⟨B, hB⟩ : ∃ B, B = brt R := ⟨_, rfl⟩
  have hBl : B.length ≤ 64 := by rw [hB, brt_length]; omega
  have hBs : ∀ s ∈ B, s.size ≤ 512 := fun s h => brt_size R s (by rw [← hB]; exact h)
  have Hcnt := Lib.hid (tcounted_any A c R w hR hc hs hrd)
  rw [← hB] at Hcnt Hfin
  have HBs := Lib.hid hBs
  have HBl := Lib.hid hBl
  have Hmax := Lib.hid hmax
  have HF : Hid (∀ T g, val (wT B T) g ≤ 1000) := Lib.hid (fun T g => by
    rw [val_wT]
    have := fvl_le B T g
    omega)
  have HC : Hid (∀ t ∈ cnd B, t.size ≤ 16) := Lib.hid (fun t h => (cnd_size B t h).2)
  clear hR hc hs hrd hmax hq hfin hB hBs hBl
  go_enter Try.func8, Try.ntmps8
  go_wp2_with fail
  refine Hcnt.out.mono ?_
  rintro e w1 ⟨u, rfl, hu, hb1⟩
  obtain ⟨A1, c1, rfl, hc1, hc12, hr1⟩ := hu.reads
  have Hwg := Lib.hid (tweigh_any A1 c1 B w1 HBl.out HBs.out hr1)
  have Hu := Lib.hid hu
  have Hb1 := Lib.hid hb1
  have Hr1 := Lib.hid hr1
  clear hu hb1 hr1 Hcnt
  go_wp2_with fail
  refine Hwg.out.mono ?_
  rintro e w2 ⟨rfl, hm2, hb2⟩
  obtain ⟨bw, hbw⟩ : ∃ bw, bw = w1.heap.size := ⟨_, rfl⟩
  have Hbw : Hid (w.heap.size ≤ bw) := Lib.hid (by rw [hbw]; exact Hb1.out.size)
  rw [← hbw] at hm2 ⊢
  have Hb2 : Hid (Below w.heap.size w w2) := Lib.hid (Hb1.out.trans (hb2.mono Hb1.out.size))
  have Hm2 := Lib.hid hm2
  have Hmx2 : Hid (MaxB w2.heap.size w2) := Lib.hid ((Hmax.out.below Hb2.out).mono Hb2.out.size)
  have Hwo := Lib.hid (tworthy_any A1 c1 bw 100000 (wg0 B) B w2 HBl.out HBs.out (reads_on Hr1.out hb2) (fun g => by rw [← wT_nil B]; exact HF.out [] g) hm2 Hmx2.out)
  clear hm2 hb2 Hwg hbw
  go_wp2_with fail
  refine Hwo.out.mono ?_
  rintro e w3 ⟨rfl, ⟨L, g, cap, hh, hpl, hinv, hLl⟩, hb3⟩
  clear Hwo
  obtain ⟨B3, hB3⟩ : ∃ B3, B3 = w2.heap.size := ⟨_, rfl⟩
  rw [← hB3] at hpl hb3 ⊢
  obtain ⟨p, hp⟩ : ∃ p, p = B3 + 1 := ⟨_, rfl⟩
  rw [← hp] at hpl ⊢
  have Hw3 : Hid (w.heap.size ≤ B3) := Lib.hid (by rw [hB3]; exact Hb2.out.size)
  have HmxB : Hid (∀ W, Below w.heap.size w W → MaxB B3 W) := Lib.hid (fun W hW => (Hmax.out.below hW).mono Hw3.out)
  have HI0 : Hid (PcI B3 p bw B fin w w3 [] q (.slice none 0 0) L) := Lib.hid ⟨ownS_nil _ _, by rw [wT_nil]; exact (Hm2.out.below (hb3.mono (by rw [hB3]; exact Nat.le_refl _))), ⟨hh, g, cap, hpl⟩, by rw [wT_nil]; exact hinv, hLl, ⟨q + 1, Nat.lt_succ_self _, Hfin.out⟩, Hb2.out.trans (hb3.mono Hw3.out), by have := hb3.size; rw [← hB3] at this; exact this⟩
  clear hh hpl hinv hLl hb3 hB3 hp
  go_wp2
  clear hmm
  go_loopw [6, 8] (fun lv cv wr => ∃ (T : List ByteArray) (left : Nat) (L : List Pce), lv = .int .i64 (left : Int) ∧ T.length + left ≤ 256 ∧ Hid (PcI B3 p bw B fin w wr T left cv L)) (fun lv _ _ => (intOf lv).toNat)
  case atStart => exact ⟨[], q, L, rfl, by simpa using hq256, HI0⟩
  case round =>
    obtain ⟨T, left, L, rfl, hl256, HI⟩ := hrel
    clear HI0
    obtain ⟨hI1, hI2, hI3, hI4, hI5, hI6, hI7, hI8⟩ := HI.out
    obtain ⟨hh, g, cap, hpl⟩ := hI3
    have Hbest := Lib.hid (tbest_any B3 p bw 100000 g cap (wT B T) (cnd B) L wr hI8 hI5 HC.out (HF.out T) hh hpl hI4 hI2 (HmxB.out wr hI7))
    clear hI1 hI2 hI4 hI5 hI6 hI7 hI8 hh hpl
    go_wp2_with fail
    refine Hbest.out.mono ?_
    rintro e w4 ⟨hres, hk4⟩
    clear Hbest
    rcases hres with ⟨⟨t, a, o⟩, L', he, ha, hsc, hiv, hl', hpo⟩ | ⟨he, hsc⟩
    · rw [show pcV (t, a, o) = .agg #[.string t, .int .i64 (a : Int), .int .i64 (o : Int)] from rfl] at he
      subst he
      have ha : 0 < a := ha
      have hb : bst B T = (t, a) := by rw [wor_wT] at hsc; exact hsc
      have hts : 6 ≤ t.size ∧ t.size ≤ 16 := by
        have h1 := bst_size B T (by rw [hb]; exact ha)
        rw [hb] at h1
        exact h1
      have Hk4 := Lib.hid hk4
      by_cases hlt : left < t.size
      · have hfT : fin = T := pc_end HI.out (.inr (by rw [hb]; exact hlt))
        have Hend := Lib.hid (tpieces_fin B3 p bw B fin w wr T left _ L HI.out Hw3.out hfT w4 hk4 (.cells #[.string t, .int .i64 (a : Int), .int .i64 (o : Int)] 39))
        clear hsc hiv hl' hpo hb hk4 hfT
        go_wp2
        go_ret
        exact ⟨_, rfl, Hend.out.1, Hend.out.2⟩
      · have Hiv := Lib.hid hiv
        have Hpo := Lib.hid hpo
        have Hl' := Lib.hid hl'
        have Hb := Lib.hid hb
        obtain ⟨hI1, hI2, hI3, hI4, hI5, hI6, hI7, hI8⟩ := HI.out
        have h45 : Below w4.heap.size w4 (w4.alloc (.cells #[.string t, .int .i64 (a : Int), .int .i64 (o : Int)] 39)) := (Below.refl _ _).alloc (Nat.le_refl _) _
        have hm4 := hI2.keptQ hk4
        have Hbw4 : Hid (bw < w4.heap.size) := Lib.hid hm4.lt
        have hn5 : Row (w4.alloc (.cells #[.string t, .int .i64 (a : Int), .int .i64 (o : Int)] 39)) w4.heap.size 39 [.string t, .int .i64 (a : Int), .int .i64 (o : Int)] := Row.new w4 39 [.string t, .int .i64 (a : Int), .int .i64 (o : Int)]
        have Htake := Lib.hid (ttake_any bw 100000 (wT B T) t _ (by omega) (HF.out T) (hm4.below h45))
        have H45 := Lib.hid h45
        have Hn5 := Lib.hid hn5
        have Ho4 := Lib.hid (hI1.keptQ hk4)
        have Hb4 : Hid (Below w.heap.size w w4) := Lib.hid (hI7.trans (hk4.bel.mono Hw3.out))
        have Hs4 : Hid (B3 ≤ w4.heap.size) := Lib.hid (Nat.le_trans hI8 hk4.bel.size)
        have Hm4 := Lib.hid hm4
        clear hsc hiv hl' hpo hb hk4 hI1 hI2 hI3 hI4 hI5 hI6 hI7 hI8 hm4 h45 hn5
        go_wp2_with fail
        refine Htake.out.mono ?_
        rintro e w6 ⟨rfl, hm6, hg6⟩
        rw [wT_snoc] at hm6
        have hr6 := Hn5.out.keep (hg6.block w4.heap.size Hn5.out.lt (by intro e; injection e with e; have := Hbw4.out; omega))
        have k0 := hr6.cell 0
        simp only [List.getElem?_cons_zero] at k0
        have Hm6 := Lib.hid hm6
        have Hg6 := Lib.hid hg6
        have Hcl := Lib.hid (sclone_any t w6 (by omega))
        clear hm6 hg6 hr6 Htake
        go_wp2_with fail
        refine Hcl.out.mono ?_
        rintro e w7 ⟨rfl, hb7⟩
        have hg5 : (w4.alloc (.cells #[.string t, .int .i64 (a : Int), .int .i64 (o : Int)] 39)).grownBy w7 (some bw) := Hg6.out.trans (grown_below hb7 _)
        have Ho7 : Hid (OwnS w7 B3 u8 T) := Lib.hid ((Ho4.out.below H45.out).keep (fun g cs _ hr => hr.keep (hg5.block g hr.lt (by intro e; injection e with e; exact ((Hm4.out.below H45.out).ne hr) e.symm))))
        have Hm7 := Lib.hid (Hm6.out.below hb7)
        have Hp7 : Hid (PilO w7 B3 p L') := Lib.hid ((Hpo.out.below H45.out).grownN hg5 (fun b t cs e _ hr => by
          injection e with e
          subst e
          exact (Hm4.out.below H45.out).noRow t cs hr))
        have Hb7 : Hid (Below w.heap.size w w7) := Lib.hid ((Hb4.out.trans (H45.out.mono Hb4.out.size)).trans (below_grown hg5 Hbw.out (Nat.le_trans Hb4.out.size H45.out.size)))
        have Hs7 : Hid (B3 ≤ w7.heap.size) := Lib.hid (Nat.le_trans (Nat.le_trans Hs4.out H45.out.size) hg5.size)
        clear hb7 hg5 Hcl Hg6 Hm6 Ho4 Hb4 Hs4 Hm4 Hn5 H45 Hbw4 k0 Hpo
        go_wp2_with (at_builtin; refine wpList_append_lies _ rfl _ _ 22 rfl B3 9 i0 (.string ⟨#[]⟩) 1 16 Try.underlying22 hi hz0 hz1 hz2 rfl (by decide) _ _ _ rfl (Ho7.out.alloc _) ⟨w7.heap.size, 0, none⟩ 1 1 [.string t] rfl rfl ?d1 ?d2 (by decide) ?d3 ?d4 ?d5 _ rfl ?_)
        case d1 =>
          intro j u hj
          match j, hj with
          | 0, hj => simp at hj; subst hj; simp [Addr.add]
        case d2 => intro u hu; simp at hu; subst hu; rfl
        case d3 => unfold maxLen; omega
        case d4 => omega
        case d5 => simpa using Nat.le_trans Hs7.out (Nat.le_succ _)
        intro g8 cap8 w8 hown8 hgr8 hat8 hlt8
        have h78 : Below w7.heap.size w7 (w7.alloc (.cells #[.string t] 9)) := (Below.refl _ _).alloc (Nat.le_refl _) _
        have hrow : ∀ b, u8.ownBlock = some b → B3 ≤ b ∧ ∃ cs, Row (w7.alloc (.cells #[.string t] 9)) b 9 cs := fun b e => (Ho7.out.below h78).block e
        have hm8 : MapP w8 bw 100000 (wT B (T ++ [t])) := (Hm7.out.below h78).kept hgr8 (fun e => by
          obtain ⟨_, cs, hr⟩ := hrow bw e.symm
          exact (Hm7.out.below h78).noRow _ _ hr)
        have hp8 : PilO w8 B3 p L' := (Hp7.out.below h78).grownN hgr8 (fun b t' cs e ht hr => by
          obtain ⟨_, cs', hr'⟩ := hrow b e
          have h1 := row_one hr hr'
          rcases ht with ht | ht
          · rw [ht] at h1; exact absurd h1 (by decide)
          · rw [ht] at h1; exact absurd h1 (by decide))
        have ho8 : OwnS w8 B3 (.slice (some ⟨g8, 0, none⟩) (T.length + 1) cap8) (T ++ [t]) := by
          unfold OwnS
          rw [List.length_append, List.length_singleton]
          have e : strC (T ++ [t]) = strC T ++ [Value.string t] := by simp [strC]
          rw [e]
          exact hown8
        have hb8 : Below w.heap.size w w8 := (Hb7.out.trans (h78.mono Hb7.out.size)).grown hgr8 (Nat.le_trans Hb7.out.size h78.size) (fun b e => Nat.le_trans Hw3.out (hrow b e).1)
        have hiv8 : HInv (cnd B) (wor (wT B (T ++ [t]))) L' := by
          have h1 := Hiv.out
          rw [wor_wT] at h1 ⊢
          exact hinv_taken h1 (fun u => worth_snoc_le B T t u) (worth_snoc_self B T t)
        have hfx : ∃ f, left - t.size < f ∧ pcN B f (left - t.size) (T ++ [t]) = fin := by
          obtain ⟨_, _, _, _, _, ⟨f, hf, hpc⟩, _⟩ := HI.out
          obtain ⟨f', rfl⟩ : ∃ f', f = f' + 1 := ⟨f - 1, by omega⟩
          have hbs := Hb.out
          rw [pcN_step B f' left T (by rw [hbs]; show ¬ (a = 0 ∨ left < t.size); omega), hbs] at hpc
          exact ⟨f', by omega, hpc⟩
        have HI8 : Hid (PcI B3 p bw B fin w w8 (T ++ [t]) (left - t.size) (.slice (some ⟨g8, 0, none⟩) (T.length + 1) cap8) L') := Lib.hid ⟨ho8, hm8, hp8, hiv8, Hl'.out, hfx, hb8, Nat.le_trans (Nat.le_trans Hs7.out h78.size) hgr8.size⟩
        clear hown8 hgr8 hat8 hlt8 h78 hrow hm8 hp8 ho8 hb8 hiv8 hfx
        go_wp2
        go_roundw
        case rel => exact ⟨T ++ [t], left - t.size, L', by go_num, by rw [List.length_append, List.length_singleton]; omega, HI8⟩
        case measure => simp [intOf]; omega
    · rw [show pcV pce0 = .agg #[.string ⟨#[]⟩, .int .i64 0, .int .i64 0] from rfl] at he
      subst he
      have hfT : fin = T := pc_end HI.out (.inl (by rw [wor_wT] at hsc; show (scan _ _ _).2 = 0; rw [hsc]))
      have Hend := Lib.hid (tpieces_fin B3 p bw B fin w wr T left _ L HI.out Hw3.out hfT w4 hk4 (.cells #[.string ⟨#[]⟩, .int .i64 0, .int .i64 0] 39))
      clear hsc hk4 hfT
      go_wp2
      go_ret
      exact ⟨_, rfl, Hend.out.1, Hend.out.2⟩
end Go.Proofs.Ytaebnkeddcbmkaa
