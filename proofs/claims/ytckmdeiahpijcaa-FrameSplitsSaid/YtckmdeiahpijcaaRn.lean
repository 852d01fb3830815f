/-
  Layer 24 (frame): FrameSplits, by its walk: true for every text. Conditions: none.
-/
import Derived.Test.YtckmdeiahpijcaaRm
import Derived.Test.YtckmdeiahpijcaaRl
import Derived.Test.YtckmdeiahpijcaaRa
namespace Go.Proofs.Ytckmdeiahpijcaa
open Go.RowKit

/-- One frame more, behind frames that the call owns: at a step of a region that draws its order. -/
theorem stepFr_append {w : World} {ops : Array Oper} {o : Oper} {a : Act} {K : Act → World → Prop} {Q : Exit → Act → World → Prop} {E : Prop} (f : Bm.Frm) (hgd : o.guard = none) (s x : Operand)
    (ho : o.op = .call { callee := .builtin .append, args := #[s, x], argTypes := #[22, 22] }) (base : Nat) (v : Value) (T : List Bm.Frm) (hs : a.eval s = v)
    (hown : FrO w base v T) (g0 : Nat) (hx : a.eval x = .slice (some ⟨g0, 0, none⟩) 1 1) (hrow : Row w g0 30 (frL f)) (hl : T.length ≤ 1000000) (hb : base ≤ w.heap.size)
    (hK : ∀ v' w', FrO w' base v' (T ++ [f]) → Below base w w' → (∀ g, g < w.heap.size → v.ownBlock ≠ some g → w'.heap[g]? = w.heap[g]?) → K (a.put o.dst v') w') :
    if Region.wanted o (yielded ops a.tmps) = true then Oper.wp Try.prog o a w K Q else E := by
  obtain ⟨i0, hi, hz0, hz1, hz2⟩ := info_parts info_fr
  refine step_append_lies w hgd s x 22 ho base 30 i0 (.agg #[.int .i64 0, .string ⟨#[]⟩]) 2 24 Try.underlying22 hi hz0 hz1 hz2 rfl (by decide) v T.length (frC T) hs hown ⟨g0, 0, none⟩ 1 1 (frL f) hx rfl (fun j u hj => ?_) ?_ (by decide) (by unfold maxLen; omega) (by omega) hb _ rfl ?_
  · have h1 := hrow.cell j
    rw [hj] at h1
    have hadd : (⟨g0, 0, none⟩ : Addr).add j = ⟨g0, j, none⟩ := by unfold Addr.add; split <;> simp_all
    rw [hadd]
    exact h1
  · intro u hu; simp [frL] at hu; rcases hu with rfl | rfl <;> rfl
  · intro g8 cap8 w8 hown8 hgr8 _ _
    refine hK _ w8 ?_ ?_ ?_
    · unfold FrO
      rw [List.length_append, List.length_singleton, ← frC_snoc]
      exact hown8
    · refine (Below.refl base w).grown hgr8 hb (fun b e => ?_)
      obtain ⟨A, c, hv, _, _, _, hA⟩ := hown.reads
      rw [hv] at e
      rcases A with _ | ⟨g, off, z⟩
      · cases e
      · rcases hown.2 with ⟨h2, _⟩ | ⟨g2, cap2, cur2, h2, h3, _⟩
        · rw [hv] at h2; cases h2
        · rw [hv] at h2
          injection h2 with h2 _ _
          rw [h2] at e
          have : g2 = b := by simpa [Value.ownBlock] using e
          omega
    · intro g hg hne
      exact hgr8.block g hg (fun e => hne e.symm)
theorem splitS_lt : ∀ (k : Nat) (s : List Nat), (∀ x ∈ s, x < 256) → ∀ f ∈ (Bm.splitF k s).1, ∀ x ∈ f.2, x < 256 := by
  intro k
  induction k with
  | zero => intro s _ f hf; cases hf
  | succ k ih =>
    intro s hs f hf
    simp only [Bm.splitF] at hf
    split at hf
    · cases hf
    · split at hf
      · cases hf
      · rcases List.mem_cons.1 hf with rfl | hf
        · unfold Bm.firstF
          split
          · intro x hx; cases hx
          · split
            · intro x hx; cases hx
            · split
              · intro x hx; cases hx
              · split
                · intro x hx; cases hx
                · split
                  · intro x hx; cases hx
                  · split
                    · intro x hx; exact hs x (List.mem_of_mem_drop (List.mem_of_mem_take hx))
                    · intro x hx; cases hx
        · exact ih _ (fun x hx => hs x (List.mem_of_mem_drop hx)) f hf
set_option linter.unusedSimpArgs false in
set_option maxHeartbeats 2000000 in
set_option maxRecDepth 100000 in
theorem frsplits_any (s0 : ByteArray) (w : World) : Calls Try.prog 5 #[.string s0] w fun e w' => e = .returned (.bool true) ∧ Below w.heap.size w w' := by
  obtain ⟨s, rfl, hlt⟩ := of_string s0
  have Haw := Lib.hid (frawake_any w)
  have hsz := strOf_size s
  by_cases hlen : 200 < s.length
  · generalize strOf s = ts at *
    generalize s.length = L at *
    go_enter Try.func5, Try.ntmps5
    go_wp2_with fail
    refine Haw.out.mono ?_
    rintro e w1 ⟨rfl, hb1⟩
    have HB1 := Lib.hid hb1
    clear hb1 Haw
    go_wp2
    go_ret
    exact ⟨rfl, HB1.out⟩
  · have Hsp := Lib.hid (fun W => frsplit_any s W hlt (by omega))
    have Hlt := Lib.hid hlt
    have hlen2 : ¬ (200 : Int) < (s.length : Int) := by omega
    obtain ⟨SP, hSP⟩ : ∃ SP, SP = Bm.splitS s := ⟨_, rfl⟩
    rw [← hSP] at Hsp
    have HSP := Lib.hid hSP
    have HS : Hid (∀ f ∈ SP.1, ∀ x ∈ f.2, x < 256) := Lib.hid (by rw [hSP]; exact splitS_lt _ s hlt)
    clear hSP hlt
    obtain ⟨S1, S2, S3⟩ := SP
    dsimp only at Hsp HS
    go_enter Try.func5, Try.ntmps5
    go_wp2_with fail
    refine Haw.out.mono ?_
    rintro e w1 ⟨rfl, hb1⟩
    have HB1 := Lib.hid hb1
    clear hb1 Haw
    go_wp2_with fail
    refine (Hsp.out w1).mono ?_
    rintro e w2 ⟨v3, rfl, hfo2, hb2⟩
    have HB2 := Lib.hid (HB1.out.trans (hb2.mono HB1.out.size))
    obtain ⟨A, ca, rfl, ha1, ha2, hrd, hA⟩ := hfo2.reads
    have Hrd := Lib.hid hrd
    have HA := Lib.hid (fun g off e => (hA g off e).2.1)
    clear hfo2 hb2 hrd hA HB1 Hsp
    go_wp2
    go_loopw [0, 6] (fun x v wr => ∃ r : List Nat, x = .string (strOf r) ∧ Hid (∃ T, (S1, S2, S3) = (T ++ (Bm.splitS r).1, (Bm.splitS r).2) ∧ T.length + r.length ≤ 200 ∧ FrO wr w2.heap.size v T ∧ ∀ x ∈ r, x < 256) ∧ Hid (Below w2.heap.size w2 wr)) (fun x _ _ => txN x)
    case atStart => exact ⟨s, rfl, Lib.hid ⟨[], by rw [HSP.out]; rfl, by rw [List.length_nil]; omega, frO_nil _ _, Hlt.out⟩, Lib.hid (Below.refl _ _)⟩
    case round =>
      obtain ⟨r, rfl, HT, Hb⟩ := hrel
      obtain ⟨T, hSPr, hTl, hfo, hlt⟩ := HT.out
      have HSPr := Lib.hid hSPr
      have Hfo := Lib.hid hfo
      have Hlt2 := Lib.hid hlt
      clear HT hSPr hfo hlt hlen2
      have Hfst := Lib.hid (fun W => rffirst_any r W Hlt2.out (by omega))
      clear hsz hlen
      go_wp2_with fail
      refine (Hfst.out wr).mono ?_
      rintro e w3 ⟨rfl, hb3⟩
      obtain ⟨A', c', rfl, hc1, hc2, _, hA'⟩ := Hfo.out.reads
      have Hfo3 := Lib.hid (Hfo.out.below hb3)
      have Hlo : Hid (∀ g, (Value.slice A' T.length c').ownBlock = some g → g < w3.heap.size) := Lib.hid (fun g e => (Hfo3.out.lt g e).2)
      have HB3 := Lib.hid (Hb.out.trans (hb3.mono Hb.out.size))
      clear hb3 Hfst Hb Hfo hc1 hc2 hA'
      obtain ⟨⟨fk, fb⟩, n, er, hF⟩ : ∃ f n er, (f, n, er) = Bm.firstF r := ⟨_, _, _, rfl⟩
      rw [← hF]
      have HF := Lib.hid hF
      clear hF
      unfold frV
      dsimp only
      have hal : Below w3.heap.size w3 (w3.alloc (.cells #[.int .i64 fk, .string (strOf fb)] 30)) := (Below.refl _ _).alloc (Nat.le_refl _) _
      have Hfo4 := Lib.hid (Hfo3.out.below hal)
      have HB4 := Lib.hid (HB3.out.trans (hal.mono HB3.out.size))
      have Hrow4 : Hid (Row (w3.alloc (.cells #[.int .i64 fk, .string (strOf fb)] 30)) w3.heap.size 30 [.int .i64 fk, .string (strOf fb)]) := Lib.hid (Row.new w3 _ _)
      clear hal
      by_cases her : er = 0
      · have herI : ((er : Int) != 0) = false := by rw [her]; rfl
        by_cases hn : n = 0
        · have hnI : ((n : Int) == 0) = true := by rw [hn]; rfl
          have h1 := HSPr.out
          rw [Bm.splitS_left r (by rw [← HF.out]; exact her) (by rw [← HF.out]; exact hn), List.append_nil] at h1
          injection h1 with h1 h2
          injection h2 with h2 h3
          subst h1 h2 h3
          have hbeq : ((strOf S2).toList == (strOf S2).toList) = true := by simp
          have Hsame := Lib.hid (frsame_any A A' ca c' S1 S1 _ HS.out HS.out (by omega) (Hrd.out.below HB4.out HA.out) (by
            obtain ⟨A2, c2, e2, _, _, hr2, _⟩ := Hfo4.out.reads
            injection e2 with e2
            rw [e2]
            exact hr2))
          rw [show decide (S1 = S1) = true from decide_eq_true rfl] at Hsame
          clear her hn HSPr
          generalize strOf S2 = t2 at *
          go_wp2_with fail
          refine Hsame.out.mono ?_
          rintro e w5 ⟨rfl, hb5⟩
          have HB5 := Lib.hid (HB4.out.trans (hb5.mono HB4.out.size))
          clear hb5
          go_wp2
          go_ret
          exact ⟨rfl, HB2.out.trans (HB5.out.mono HB2.out.size)⟩
        · have hnI : ((n : Int) == 0) = false := by simp; omega
          have h1 := HSPr.out
          rw [Bm.splitS_on r (by rw [← HF.out]; exact her) (by rw [← HF.out]; exact hn), ← HF.out] at h1
          dsimp only at h1
          have Hsp2 : Hid ((S1, S2, S3) = ((T ++ [(fk, fb)]) ++ (Bm.splitS (r.drop n)).1, (Bm.splitS (r.drop n)).2)) := Lib.hid (by rw [h1, List.append_assoc]; rfl)
          have hne : r ≠ [] := fun e => by
            have h2 := HF.out
            rw [e, Bm.firstF_nil] at h2
            injection h2 with _ h2
            injection h2 with h2 _
            exact hn h2
          have hnl : n ≤ r.length ∧ 0 < n := by
            refine ⟨?_, by omega⟩
            have h2 := HF.out
            by_cases hb : Bm.badN r = 0
            · rw [Bm.firstF_ok r hne hb] at h2
              split at h2
              · injection h2 with _ h2; injection h2 with h2 _; omega
              · split at h2
                · injection h2 with _ h2; injection h2 with h2 _; omega
                · injection h2 with _ h2; injection h2 with h2 _; omega
            · obtain ⟨_, h3⟩ := Bm.firstF_bad r hne hb
              rw [← h2] at h3
              exact absurd h3 (by dsimp only; omega)
          have hrst := fun W => str_from r n hnl.1 W
          have Hsz2 : Hid ((strOf (r.drop n)).size < (strOf r).size) := Lib.hid (by rw [strOf_size, strOf_size, List.length_drop]; omega)
          have hTl2 : (T ++ [(fk, fb)]).length + (r.drop n).length ≤ 200 := by rw [List.length_append, List.length_singleton, List.length_drop]; omega
          have Hlt3 : Hid (∀ x ∈ r.drop n, x < 256) := Lib.hid (drop_lt Hlt2.out _)
          have hTb : T.length ≤ 1000000 := by omega
          clear h1 hne hnl HSPr her hn HF Hlt2
          generalize hr2 : r.drop n = r2 at *
          clear hr2
          generalize htr : strOf r = tr at *
          have Htr := Lib.hid htr
          generalize hts : strOf r2 = t2 at *
          have Hts := Lib.hid hts
          clear htr hts
          have Hlt7 : Hid (Below w2.heap.size w2 (w3.alloc (.cells #[.int .i64 fk, .string (strOf fb)] 30))) := HB4
          go_wp2_with fail
          generalize hw4 : w3.alloc (.cells #[.int .i64 fk, .string (strOf fb)] 30) = w4 at *
          generalize w3.heap.size = F3 at *
          have d0 := Hrow4.out.cell 0
          have d1 := Hrow4.out.cell 1
          simp only [List.getElem?_cons_zero, List.getElem?_cons_succ] at d0 d1
          clear hw4
          refine wp_region_held_drew (S := (fun W : World => W.cell? ⟨F3, 0, none⟩ = some (.int .i64 fk) ∧ W.cell? ⟨F3, 1, none⟩ = some (.string (strOf fb)))) (by kernel_rfl) (by exact ⟨d0, d1⟩) (fun hHeld => ?_)
          refine wpAnyH_take (i := 0) (oi := { dst := some 55, op := Go.Op.move (Go.Operand.tmp 6), type := 22, pos := "law.go:158", after := #[], guard := none }) (v := ?_) rfl (by kernel_rfl) (by kernel_rfl) (by kernel_rfl) (fun _ _ _ h => h) (Or.inl ⟨by rfl, ?_⟩) (by assumption) ?_
          rotate_left
          · (intro w hSw; (try dsimp only at hSw); go_simp; (try with_reducible rfl))
          try simp only [Act.put, List.setIfInBounds_toArray, List.set_cons_zero, List.set_cons_succ]
          refine wpAnyH_take (i := 1) (oi := { dst := some 56, op := Go.Op.load 30 (Go.Operand.tmp 7), type := 30, pos := "law.go:158", after := #[], guard := none }) (v := ?_) rfl (by kernel_rfl) (by kernel_rfl) (by kernel_rfl) (fun _ _ _ h => h) (Or.inl ⟨by rfl, ?_⟩) (by assumption) ?_
          rotate_left
          · (intro w hSw; (try dsimp only at hSw); go_simp; (try with_reducible rfl))
          try simp only [Act.put, List.setIfInBounds_toArray, List.set_cons_zero, List.set_cons_succ]
          refine wpAnyH_take (i := 4) (oi := { dst := some 59, op := Go.Op.move (Go.Operand.tmp 0), type := 9, pos := "law.go:158", after := #[], guard := none }) (v := ?_) rfl (by kernel_rfl) (by kernel_rfl) (by kernel_rfl) (fun _ _ _ h => h) (Or.inl ⟨by rfl, ?_⟩) (by assumption) ?_
          rotate_left
          · (intro w hSw; (try dsimp only at hSw); go_simp; (try with_reducible rfl))
          try simp only [Act.put, List.setIfInBounds_toArray, List.set_cons_zero, List.set_cons_succ]
          refine wpAnyH_take (i := 5) (oi := { dst := some 60, op := Go.Op.move (Go.Operand.tmp 8), type := 3, pos := "law.go:158", after := #[], guard := none }) (v := ?_) rfl (by kernel_rfl) (by kernel_rfl) (by kernel_rfl) (fun _ _ _ h => h) (Or.inl ⟨by rfl, ?_⟩) (by assumption) ?_
          rotate_left
          · (intro w hSw; (try dsimp only at hSw); go_simp; (try with_reducible rfl))
          try simp only [Act.put, List.setIfInBounds_toArray, List.set_cons_zero, List.set_cons_succ]
          refine wpAnyH_take (i := 6) (oi := { dst := some 61, op := Go.Op.slice 9 (Go.Operand.tmp 59) (some (Go.Operand.tmp 60)) none none, type := 9, pos := "law.go:158", after := #[{ on := 4, ground := Go.Ground.data }, { on := 5, ground := Go.Ground.data }], guard := none }) (v := ?_) rfl (by kernel_rfl) (by kernel_rfl) (by kernel_rfl) (fun _ _ _ h => h) (Or.inl ⟨by rfl, ?_⟩) (by assumption) ?_
          rotate_left
          · (intro w hSw; (try dsimp only at hSw); go_simp; (try with_reducible rfl))
          try simp only [Act.put, List.setIfInBounds_toArray, List.set_cons_zero, List.set_cons_succ]
          refine wpAnyH_ready (rs := [2]) (by kernel_rfl) (by simp) ?_
          refine AllReadyH.cons (o := { dst := some 57, op := Go.Op.buildSlice 22 1 #[(0, Go.Operand.tmp 56)], type := 22, pos := "law.go:158", after := #[{ on := 1, ground := Go.Ground.data }], guard := none }) rfl (fun K hK => ?_) AllReadyH.nil
          go_simp
          refine hK.out _ _ (by exact ⟨(Hrow4.out.alloc _).cell 0, (Hrow4.out.alloc _).cell 1⟩) (fun hHeld => ?_)
          clear hK K
          try simp only [Act.put, List.setIfInBounds_toArray, List.set_cons_zero, List.set_cons_succ]
          have Hfo5 := Lib.hid (Hfo4.out.below ((Below.refl w4.heap.size w4).alloc (Nat.le_refl _) (.cells #[.int .i64 fk, .string (strOf fb)] 30)))
          have HB5 := Lib.hid (HB4.out.alloc HB4.out.size (.cells #[.int .i64 fk, .string (strOf fb)] 30))
          refine wpAnyH_ready (rs := [3]) (by kernel_rfl) (by simp) ?_
          refine AllReadyH.cons (o := { dst := some 58, op := Go.Op.call { callee := Go.Callee.builtin Go.Builtin.append, args := #[Go.Operand.tmp 55, Go.Operand.tmp 57], argTypes := #[22, 22] }, type := 22, pos := "law.go:158", after := #[{ on := 0, ground := Go.Ground.data }, { on := 2, ground := Go.Ground.data }], guard := none }) rfl (fun K hK => ?_) AllReadyH.nil
          (refine stepFr_append (fk, fb) (by rfl) _ _ (by rfl) w2.heap.size _ T (by rfl) (Hfo5.out.drewN 1) w4.heap.size (by rfl) (Row.new w4 _ _) hTb HB5.out.size ?_; intro v5 w5 hfo6 hb6 hk6; have Hfo6 := Lib.hid hfo6; have HB6 := Lib.hid (HB5.out.trans (show Below w2.heap.size (w4.alloc (.cells #[.int .i64 fk, .string (strOf fb)] 30)) w5 from ⟨hb6.os, hb6.tape, hb6.output, hb6.size, hb6.block⟩)); have hr6 := hk6 F3 (by have := Hrow4.out.lt; simp; omega) (fun e => absurd (Hlo.out F3 e) (Nat.lt_irrefl _)); have Hr6 := Lib.hid (show Row w5 F3 30 [.int .i64 fk, .string (strOf fb)] from (Hrow4.out.alloc (.cells #[.int .i64 fk, .string (strOf fb)] 30)).keep hr6); clear hfo6 hb6 hk6 hr6)
          refine hK.out _ _ (by exact ⟨Hr6.out.cell 0, Hr6.out.cell 1⟩) (fun hHeld => ?_)
          clear hK K
          try simp only [Act.put, List.setIfInBounds_toArray, List.set_cons_zero, List.set_cons_succ]
          refine wpAnyH_take (i := 7) (oi := { dst := some 6, op := Go.Op.assign (Go.Operand.tmp 58), type := 22, pos := "law.go:158", after := #[{ on := 3, ground := Go.Ground.data }, { on := 3, ground := Go.Ground.chain }, { on := 0, ground := Go.Ground.phase }, { on := 1, ground := Go.Ground.phase }, { on := 2, ground := Go.Ground.phase }, { on := 3, ground := Go.Ground.phase }, { on := 4, ground := Go.Ground.textOnly Go.Departure.lateStores }, { on := 5, ground := Go.Ground.textOnly Go.Departure.lateStores }, { on := 6, ground := Go.Ground.textOnly Go.Departure.lateStoresUnsure }], guard := none }) (v := ?_) rfl (by kernel_rfl) (by kernel_rfl) (by kernel_rfl) (fun _ _ _ h => h) (Or.inl ⟨by rfl, ?_⟩) (by assumption) ?_
          rotate_left
          · (intro w hSw; (try dsimp only at hSw); go_simp; (try with_reducible rfl))
          try simp only [Act.put, List.setIfInBounds_toArray, List.set_cons_zero, List.set_cons_succ]
          refine wpAnyH_take (i := 8) (oi := { dst := some 0, op := Go.Op.assign (Go.Operand.tmp 61), type := 9, pos := "law.go:158", after := #[{ on := 6, ground := Go.Ground.data }, { on := 7, ground := Go.Ground.chain }, { on := 0, ground := Go.Ground.phase }, { on := 1, ground := Go.Ground.phase }, { on := 2, ground := Go.Ground.phase }, { on := 3, ground := Go.Ground.phase }, { on := 4, ground := Go.Ground.phase }, { on := 5, ground := Go.Ground.phase }, { on := 6, ground := Go.Ground.phase }, { on := 7, ground := Go.Ground.phase }], guard := none }) (v := ?_) rfl (by kernel_rfl) (by kernel_rfl) (by kernel_rfl) (fun _ _ _ h => h) (Or.inl ⟨by rfl, ?_⟩) (by assumption) ?_
          rotate_left
          · (intro w hSw; (try dsimp only at hSw); go_simp; (try with_reducible rfl))
          try simp only [Act.put, List.setIfInBounds_toArray, List.set_cons_zero, List.set_cons_succ]
          refine wpAnyH_done (by kernel_rfl) ?_ _
          clear hHeld
          go_wp2
          go_roundw
          case rel => exact ⟨r2, by rw [Hts.out], Lib.hid ⟨_, Hsp2.out, hTl2, Hfo6.out, Hlt3.out⟩, HB6⟩
          case measure =>
            show t2.size < (strOf r).size
            rw [Htr.out]
            exact Hsz2.out
      · have herI : ((er : Int) != 0) = true := by simp; omega
        have h1 := HSPr.out
        rw [Bm.splitS_bad r (by rw [← HF.out]; exact her), ← HF.out, List.append_nil] at h1
        injection h1 with h1 h2
        injection h2 with h2 h3
        dsimp only at h3
        subst h1 h2 h3
        have hemp2 : (strOf ([] : List Nat)).toList.isEmpty = true := by rw [emptyB]; rfl
        have heq : ((S3 : Int) == (S3 : Int)) = true := by simp
        have Hsame := Lib.hid (frsame_any A A' ca c' S1 S1 _ HS.out HS.out (by omega) (Hrd.out.below HB4.out HA.out) (by
          obtain ⟨A2, c2, e2, _, _, hr2, _⟩ := Hfo4.out.reads
          injection e2 with e2
          rw [e2]
          exact hr2))
        rw [show decide (S1 = S1) = true from decide_eq_true rfl] at Hsame
        clear her HSPr
        generalize strOf ([] : List Nat) = t2 at *
        go_wp2_with fail
        refine Hsame.out.mono ?_
        rintro e w5 ⟨rfl, hb5⟩
        have HB5 := Lib.hid (HB4.out.trans (hb5.mono HB4.out.size))
        clear hb5
        go_wp2
        go_ret
        exact ⟨rfl, HB2.out.trans (HB5.out.mono HB2.out.size)⟩
end Go.Proofs.Ytckmdeiahpijcaa
