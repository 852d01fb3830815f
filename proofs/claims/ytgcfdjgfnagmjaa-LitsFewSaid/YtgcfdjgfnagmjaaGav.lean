/-
  The program's layer 10 (litcode), by its walk: Encode. Conditions: as each theorem's premises say.
  The program's layer 10 (litcode), by its walk: Read. Conditions: as each theorem's premises say.
  The program's layer 10 (litcode): what Read answers, out of its walk. Conditions: as each theorem's premises say.
  The program's layer 10 (litcode), by its walk: Table. Conditions: as each theorem's premises say.
-/
import Derived.Test.YtgcfdjgfnagmjaaGau
import Derived.Test.YtgcfdjgfnagmjaaGag
import Derived.Test.YtgcfdjgfnagmjaaGah
import Derived.Test.YtgcfdjgfnagmjaaGad
import Derived.Test.YtgcfdjgfnagmjaaGac
import Derived.Test.YtgcfdjgfnagmjaaGan
import Derived.Deep.RegionHeld3
namespace Go.Proofs.Ytgcfdjgfnagmjaa
open Go.RowKit
/-- What huff.Codes answers of whole lengths. -/
theorem hcodes_yes (A : Option Addr) (c : Nat) (l : List Int) (w : World) (hl : l.length ≤ 1000000000) (hr : Reads w A (i64z l)) (hW : Bm.WholeI l) :
    Calls Try.prog 48 #[.slice A l.length c] w fun e w' => ∃ g, e = .returned (.tuple #[.slice (some ⟨g, 0, none⟩) l.length l.length, .bool true]) ∧ Reads w' (some ⟨g, 0, none⟩) (i64s (Bm.codesN (l.map Int.toNat))) ∧ w.heap.size ≤ g ∧ Below w.heap.size w w' := by
  have h := uwhole_any A c l w (by omega) hr
  rw [decide_eq_true hW] at h
  obtain ⟨e, h11, hln⟩ := Bm.lenR_nat l hW.1
  have hkr : Bm.krN (l.map Int.toNat) ≤ 2048 := by have := hW.2.2.2; omega
  have h1 := ucodes_yes A c (l.map Int.toNat) w (by have := hW.1.1; omega) h11 hkr (by rw [← i64z_nat, ← e]; exact hr) (by rw [hln]; exact h)
  rw [hln] at h1
  exact h1.mono fun e w' ⟨g, h1, h2, h3, h4⟩ => ⟨g, h1, row_reads h2, h3, h4⟩
theorem hcodes_no (A : Option Addr) (c : Nat) (l : List Int) (w : World) (hl : l.length ≤ 1000000000) (hr : Reads w A (i64z l)) (hW : ¬ Bm.WholeI l) :
    Calls Try.prog 48 #[.slice A l.length c] w fun e w' => e = .returned (.tuple #[.slice none 0 0, .bool false]) ∧ w = w' := ucodes_no A c l w (by omega) hr hW
namespace Bm
theorem enc_put (l cb : List Nat) (h : ∀ x ∈ cb, x < 2) : bitsV l + bitsV cb % 2 ^ cb.length * 2 ^ l.length = bitsV (l ++ cb) := by
  rw [bitsV_append, Nat.mod_eq_of_lt (bitsV_lt cb h)]
theorem enc_bytes (l : List Nat) : bytesOf (bitsV l) ((l.length + 7) / 8) = packS l := rfl
end Bm
set_option maxHeartbeats 1500000 in
set_option maxRecDepth 100000 in
theorem lenc_yes (A B : Option Addr) (c d : Nat) (ls bs : List Nat) (w : World) (hW : Bm.WholeN ls) (hbl : bs.length ≤ 10000) (hlt : ∀ x ∈ bs, x < 256) (hr : Reads w A (i64s ls)) (hs : Reads w B (u8s bs))
    (hcd : Calls Try.prog 48 #[.slice A ls.length c] w fun e w' => ∃ g, e = .returned (.tuple #[.slice (some ⟨g, 0, none⟩) ls.length ls.length, .bool true]) ∧ Reads w' (some ⟨g, 0, none⟩) (i64s (Bm.codesN ls)) ∧ w.heap.size ≤ g ∧ Below w.heap.size w w') :
    Calls Try.prog 26 #[.slice A ls.length c, .slice B bs.length d] w fun e w' => e = .returned (strV (Bm.encT ls bs)) ∧ Below w.heap.size w w' := by
  obtain ⟨res, hres⟩ : ∃ r, r = Bm.encT ls bs := ⟨_, rfl⟩
  rw [← hres]
  have Hres := Lib.hid hres
  have HW := Lib.hid hW
  have hl256 := hW.1
  have Hlt := Lib.hid hlt
  have Hr := Lib.hid hr
  have Hs := Lib.hid hs
  have Hcd := Lib.hid hcd
  have Hno : Hid (∀ k, k < bs.length → ls[bs[k]?.getD 0]?.getD 0 = 0 → res = none) := Lib.hid (fun k hk h0 => by
    rw [hres]
    unfold Bm.encT
    rw [List.getElem?_eq_getElem hk, Option.getD_some] at h0
    rw [Bm.encS_none ls bs[k] h0 bs (List.getElem_mem hk)]
    rfl)
  have Hput : Hid (∀ (W : World) (b N n v m : Nat), n ≤ 1000000000 → v < 4294967296 → m ≤ 32 → WS W b 0 N n → Calls Try.prog 46 #[.pointer (some ⟨b, 0, none⟩), .int .u32 (v : Int), .int .i64 (m : Int)] W fun e w' => e = .returned (.bool true) ∧ WS w' b 0 (N + v % 2 ^ m * 2 ^ n) (n + m) ∧ W.grownBy w' (some b)) := Lib.hid (fun W b N n v m h1 h2 h3 h4 => put_true b 0 N n v m W h1 h2 h3 h4)
  have Hfl := Lib.hid (fun n c W h1 h2 => litfl_any n c W h1 h2)
  clear hres hW hlt hr hs hcd
  go_enter Try.func26, Try.ntmps26
  go_wp2_with fail
  refine Hcd.out.mono ?_
  rintro e w1 ⟨gc, rfl, hrc, hgc, hb1⟩
  have Hrc := Lib.hid hrc
  have Hr1 := Lib.hid (reads_on Hr.out hb1)
  have Hs1 := Lib.hid (reads_on Hs.out hb1)
  have Hb1 := Lib.hid hb1
  have Hnew := Lib.hid (WS.new w1 80 (by decide))
  have Hal := Lib.hid ((Below.refl w1.heap.size w1).alloc (Nat.le_refl _) (.cells #[.pointer none, .int .u64 0, .int .i64 0] 80))
  clear hrc hb1 Hr Hs Hcd
  go_wp2
  go_loopw [20] (fun iv wr => ∃ (k : Nat) (acc : List Nat), k ≤ bs.length ∧ iv = .int .i64 (k : Int) ∧ acc.length ≤ 11 * k ∧ Hid (Bm.encS ls (bs.take k) = some acc) ∧ Hid (WS wr w1.heap.size 0 (Bm.bitsV acc) acc.length) ∧ Hid (Below w1.heap.size w1 wr)) (fun iv _ => bs.length - (intOf iv).toNat)
  case atStart => exact ⟨0, [], by omega, rfl, by simp, Lib.hid (by rw [List.take_zero]; rfl), Hnew, Hal⟩
  case round =>
    obtain ⟨k, acc, hk, rfl, hacc, henc, hws, hbel⟩ := hrel
    clear Hnew Hal
    by_cases hkl : k < bs.length
    · obtain ⟨gb, ob, rfl, hcb⟩ := reads_u8 (reads_on Hs1.out hbel.out) (by intro e; rw [e] at hkl; simp at hkl)
      have c0 := hcb k hkl
      have hno := Hno.out k hkl
      rw [List.getElem?_eq_getElem hkl, Option.getD_some] at hno
      have hbk := Hlt.out bs[k] (List.getElem_mem hkl)
      have htk : bs.take (k + 1) = bs.take k ++ [bs[k]] := List.take_succ_eq_append_getElem hkl
      have hen := Bm.encS_snoc ls bs[k] (bs.take k)
      rw [← htk, henc.out, Option.map_some] at hen
      have Hen := Lib.hid hen
      have Hno1 := Lib.hid hno
      clear hcb hno htk hen henc Hno
      generalize bs[k] = y at *
      by_cases hy : y < ls.length
      · obtain ⟨gl, ol, rfl, hcl⟩ := reads_i9 (reads_on Hr1.out hbel.out) (by omega)
        have c1 := hcl y hy
        have hge : ls[y]?.getD 0 = ls[y] := by rw [List.getElem?_eq_getElem hy, Option.getD_some]
        have h11 := HW.out.2.1 ls[y] (List.getElem_mem hy)
        have Hcw : Hid (∀ W, Below w1.heap.size w1 W → W.cell? ⟨gl, ol + y, none⟩ = some (.int .i64 (ls[y] : Int))) := Lib.hid (fun W hb => by
          obtain ⟨g2, off2, e, hc2⟩ := reads_i9 (reads_on Hr1.out hb) (by omega)
          injection e with e
          injection e with e1 e2
          subst e1 e2
          exact hc2 y hy)
        have Hcc : Hid (∀ W, Below w1.heap.size w1 W → W.cell? ⟨gc, y, none⟩ = some (.int .i64 (Bm.codeN9 ls y : Int))) := Lib.hid (fun W hb => by
          obtain ⟨g2, off2, e, hc2⟩ := reads_i9 (reads_on Hrc.out hb) (by rw [Bm.codes_length]; omega)
          injection e with e
          injection e with e1 e2
          subst e1 e2
          have := hc2 y (by rw [Bm.codes_length]; exact hy)
          rw [Bm.codes_get ls y hy, Nat.zero_add] at this
          exact this)
        have Hcd9 := Lib.hid (fun h => Bm.code_lt9 ls y hy HW.out h)
        have Hcbl := Lib.hid (Bm.cbits_length ls y)
        have Hcbt := Lib.hid (Bm.cbits_top ls y)
        have Hcb2 := Lib.hid (Bm.cbits_lt ls y)
        rw [hge] at Hno1 Hen Hcd9 Hcbl Hcbt
        clear hcl hge
        generalize hcbg : Bm.cbits ls y = cb at *
        generalize Bm.codeN9 ls y = cn at *
        generalize ls[y] = x at *
        clear hcbg
        by_cases hx : x = 0
        · have hrn : res = none := Hno1.out hx
          subst hx
          have Hrn := Lib.hid hrn
          have Hbb := Lib.hid (Hb1.out.trans (hbel.out.mono Hb1.out.size))
          clear hrn
          go_wp2
          go_ret2
          rw [Hrn.out]
          exact ⟨rfl, Hbb.out⟩
        · have hx0 : 0 < x := by omega
          have hen := Hen.out
          rw [if_pos hx0] at hen
          have Hen2 := Lib.hid hen
          have hcn := Hcd9.out hx0
          have hfl := Hfl.out x cn
          have hpt := Hput.out wr.drew w1.heap.size (Bm.bitsV acc) acc.length (Bm.bitsV cb) x (by omega) (by have := Bm.bitsV_lt cb Hcb2.out; rw [Hcbl.out] at this; exact Nat.lt_trans (Nat.lt_of_lt_of_le this (Nat.pow_le_pow_right (n := 2) (j := 11) (by omega) h11)) (by decide)) (by omega) hws.out.drew
          have hep := Bm.enc_put acc cb Hcb2.out
          rw [Hcbl.out] at hep
          rw [hep] at hpt
          rw [← Hcbt.out] at hfl
          have Hpt := Lib.hid hpt
          have Hfl2 := Lib.hid (fun W => hfl W h11 hcn)
          have hcl := Hcw.out
          have hcc := Hcc.out
          have Hlen : Hid ((acc ++ cb).length = acc.length + x) := Lib.hid (by rw [List.length_append, Hcbl.out])
          clear hen hpt hep hfl Hen Hno1 Hcd9 Hfl Hput hws Hcw Hcc Hcbl Hcbt Hcb2
          generalize Bm.bitsV cb = vb at *
          have hd1 : decide (ls.length ≤ y) = false := decide_eq_false (by omega)
          have hd2 : ((x : Int) == 0) = false := by rw [beq_eq_false_iff_ne]; omega
          go_wp2_with fail
          refine wp_region_held_drew (S := (fun W => Below w1.heap.size w1 W)) (by kernel_rfl) (by exact hbel.out.drew) (fun hHeld => ?_)
          refine wpAnyH_take (i := 0) (oi := { dst := some 36, op := Go.Op.move (Go.Operand.tmp 6), type := 30, pos := "litcode.go:64", after := #[], guard := none }) (v := ?_) rfl (by kernel_rfl) (by kernel_rfl) (by kernel_rfl) (fun _ _ _ h => h) (Or.inl ⟨by rfl, ?_⟩) (by assumption) ?_
          rotate_left
          · (intro w hSw; (try dsimp only at hSw); go_simp; (try with_reducible rfl))
          try simp only [Act.put, List.setIfInBounds_toArray, List.set_cons_zero, List.set_cons_succ]
          refine wpAnyH_take (i := 1) (oi := { dst := some 37, op := Go.Op.move (Go.Operand.tmp 10), type := 5, pos := "litcode.go:64", after := #[], guard := none }) (v := ?_) rfl (by kernel_rfl) (by kernel_rfl) (by kernel_rfl) (fun _ _ _ h => h) (Or.inl ⟨by rfl, ?_⟩) (by assumption) ?_
          rotate_left
          · (intro w hSw; (try dsimp only at hSw); go_simp; (try with_reducible rfl))
          try simp only [Act.put, List.setIfInBounds_toArray, List.set_cons_zero, List.set_cons_succ]
          refine wpAnyH_take (i := 2) (oi := { dst := some 38, op := Go.Op.indexAddr 30 (Go.Operand.tmp 36) (Go.Operand.tmp 37), type := 0, pos := "litcode.go:64", after := #[{ on := 0, ground := Go.Ground.data }, { on := 1, ground := Go.Ground.data }], guard := none }) (v := ?_) rfl (by kernel_rfl) (by kernel_rfl) (by kernel_rfl) (fun _ _ _ h => h) (Or.inl ⟨by rfl, ?_⟩) (by assumption) ?_
          rotate_left
          · (intro w hSw; (try dsimp only at hSw); go_simp; (try with_reducible rfl))
          try simp only [Act.put, List.setIfInBounds_toArray, List.set_cons_zero, List.set_cons_succ]
          refine wpAnyH_take (i := 3) (oi := { dst := some 39, op := Go.Op.load 3 (Go.Operand.tmp 38), type := 3, pos := "litcode.go:64", after := #[{ on := 2, ground := Go.Ground.data }], guard := none }) (v := ?_) rfl (by kernel_rfl) (by kernel_rfl) (by kernel_rfl) (fun _ _ _ h => h) (Or.inl ⟨by rfl, ?_⟩) (by assumption) ?_
          rotate_left
          · (intro w hSw; (try dsimp only at hSw); go_simp; (try with_reducible rfl))
          try simp only [Act.put, List.setIfInBounds_toArray, List.set_cons_zero, List.set_cons_succ]
          refine wpAnyH_take (i := 4) (oi := { dst := some 40, op := Go.Op.move (Go.Operand.tmp 0), type := 30, pos := "litcode.go:64", after := #[], guard := none }) (v := ?_) rfl (by kernel_rfl) (by kernel_rfl) (by kernel_rfl) (fun _ _ _ h => h) (Or.inl ⟨by rfl, ?_⟩) (by assumption) ?_
          rotate_left
          · (intro w hSw; (try dsimp only at hSw); go_simp; (try with_reducible rfl))
          try simp only [Act.put, List.setIfInBounds_toArray, List.set_cons_zero, List.set_cons_succ]
          refine wpAnyH_take (i := 5) (oi := { dst := some 41, op := Go.Op.move (Go.Operand.tmp 10), type := 5, pos := "litcode.go:64", after := #[], guard := none }) (v := ?_) rfl (by kernel_rfl) (by kernel_rfl) (by kernel_rfl) (fun _ _ _ h => h) (Or.inl ⟨by rfl, ?_⟩) (by assumption) ?_
          rotate_left
          · (intro w hSw; (try dsimp only at hSw); go_simp; (try with_reducible rfl))
          try simp only [Act.put, List.setIfInBounds_toArray, List.set_cons_zero, List.set_cons_succ]
          refine wpAnyH_take (i := 6) (oi := { dst := some 42, op := Go.Op.indexAddr 30 (Go.Operand.tmp 40) (Go.Operand.tmp 41), type := 0, pos := "litcode.go:64", after := #[{ on := 4, ground := Go.Ground.data }, { on := 5, ground := Go.Ground.data }], guard := none }) (v := ?_) rfl (by kernel_rfl) (by kernel_rfl) (by kernel_rfl) (fun _ _ _ h => h) (Or.inl ⟨by rfl, ?_⟩) (by assumption) ?_
          rotate_left
          · (intro w hSw; (try dsimp only at hSw); go_simp; (try with_reducible rfl))
          try simp only [Act.put, List.setIfInBounds_toArray, List.set_cons_zero, List.set_cons_succ]
          refine wpAnyH_take (i := 7) (oi := { dst := some 43, op := Go.Op.load 3 (Go.Operand.tmp 42), type := 3, pos := "litcode.go:64", after := #[{ on := 6, ground := Go.Ground.data }], guard := none }) (v := ?_) rfl (by kernel_rfl) (by kernel_rfl) (by kernel_rfl) (fun _ _ _ h => h) (Or.inl ⟨by rfl, ?_⟩) (by assumption) ?_
          rotate_left
          · (intro w hSw; (try dsimp only at hSw); go_simp; (try with_reducible rfl))
          try simp only [Act.put, List.setIfInBounds_toArray, List.set_cons_zero, List.set_cons_succ]
          refine wpAnyH_take (i := 9) (oi := { dst := some 45, op := Go.Op.move (Go.Operand.tmp 0), type := 30, pos := "litcode.go:64", after := #[], guard := none }) (v := ?_) rfl (by kernel_rfl) (by kernel_rfl) (by kernel_rfl) (fun _ _ _ h => h) (Or.inl ⟨by rfl, ?_⟩) (by assumption) ?_
          rotate_left
          · (intro w hSw; (try dsimp only at hSw); go_simp; (try with_reducible rfl))
          try simp only [Act.put, List.setIfInBounds_toArray, List.set_cons_zero, List.set_cons_succ]
          refine wpAnyH_take (i := 10) (oi := { dst := some 46, op := Go.Op.move (Go.Operand.tmp 10), type := 5, pos := "litcode.go:64", after := #[], guard := none }) (v := ?_) rfl (by kernel_rfl) (by kernel_rfl) (by kernel_rfl) (fun _ _ _ h => h) (Or.inl ⟨by rfl, ?_⟩) (by assumption) ?_
          rotate_left
          · (intro w hSw; (try dsimp only at hSw); go_simp; (try with_reducible rfl))
          try simp only [Act.put, List.setIfInBounds_toArray, List.set_cons_zero, List.set_cons_succ]
          refine wpAnyH_take (i := 11) (oi := { dst := some 47, op := Go.Op.indexAddr 30 (Go.Operand.tmp 45) (Go.Operand.tmp 46), type := 0, pos := "litcode.go:64", after := #[{ on := 9, ground := Go.Ground.data }, { on := 10, ground := Go.Ground.data }], guard := none }) (v := ?_) rfl (by kernel_rfl) (by kernel_rfl) (by kernel_rfl) (fun _ _ _ h => h) (Or.inl ⟨by rfl, ?_⟩) (by assumption) ?_
          rotate_left
          · (intro w hSw; (try dsimp only at hSw); go_simp; (try with_reducible rfl))
          try simp only [Act.put, List.setIfInBounds_toArray, List.set_cons_zero, List.set_cons_succ]
          refine wpAnyH_take (i := 12) (oi := { dst := some 48, op := Go.Op.load 3 (Go.Operand.tmp 47), type := 3, pos := "litcode.go:64", after := #[{ on := 11, ground := Go.Ground.data }], guard := none }) (v := ?_) rfl (by kernel_rfl) (by kernel_rfl) (by kernel_rfl) (fun _ _ _ h => h) (Or.inl ⟨by rfl, ?_⟩) (by assumption) ?_
          rotate_left
          · (intro w hSw; (try dsimp only at hSw); go_simp; (try with_reducible rfl))
          try simp only [Act.put, List.setIfInBounds_toArray, List.set_cons_zero, List.set_cons_succ]
          refine wpAnyH_ready (rs := [8]) (by kernel_rfl) (by simp) ?_
          refine AllReadyH.cons (o := { dst := some 44, op := Go.Op.call { callee := Go.Callee.value (Go.Operand.func 49), args := #[Go.Operand.tmp 39, Go.Operand.tmp 43], argTypes := #[3, 3] }, type := 82, pos := "litcode.go:64", after := #[{ on := 3, ground := Go.Ground.data }, { on := 7, ground := Go.Ground.data }], guard := none }) rfl (fun K hK => ?_) AllReadyH.nil
          go_simp
          (go_at_call 49; refine (Hfl2.out _).mono ?_; rintro e w' ⟨rfl, rfl⟩)
          go_simp
          refine hK.out _ _ (by with_reducible assumption) (fun hHeld => ?_)
          clear hK K
          try simp only [Act.put, List.setIfInBounds_toArray, List.set_cons_zero, List.set_cons_succ]
          refine wpAnyH_ready (rs := [13]) (by kernel_rfl) (by simp) ?_
          refine AllReadyH.cons (o := { dst := some 49, op := Go.Op.call { callee := Go.Callee.value (Go.Operand.func 46), args := #[Go.Operand.tmp 8, Go.Operand.tmp 44, Go.Operand.tmp 48], argTypes := #[80, 82, 3] }, type := 4, pos := "litcode.go:64", after := #[{ on := 8, ground := Go.Ground.data }, { on := 12, ground := Go.Ground.data }, { on := 8, ground := Go.Ground.chain }], guard := none }) rfl (fun K hK => ?_) AllReadyH.nil
          go_simp
          (go_at_call 46; refine Hpt.out.mono ?_; rintro e w3 ⟨rfl, hws3, hg3⟩; have Hws3 := Lib.hid hws3; have Hb3 : Hid (Below w1.heap.size w1 w3) := Lib.hid (hbel.out.drew.grown hg3 hbel.out.size (fun k e => by injection e with e; omega)); clear hws3 hg3 Hpt)
          go_simp
          refine hK.out _ _ (by exact Hb3.out) (fun hHeld => ?_)
          clear hK K
          try simp only [Act.put, List.setIfInBounds_toArray, List.set_cons_zero, List.set_cons_succ]
          refine wpAnyH_done (by kernel_rfl) ?_ _
          rw [← Hlen.out] at Hws3
          clear hcl hcc hd1 hd2
          go_wp2
          go_roundw
          case rel => exact ⟨k + 1, acc ++ cb, by omega, by go_num, by rw [Hlen.out]; omega, Hen2, Hws3, Hb3⟩
          case measure => simp [intOf]; omega
      · have hd1 : decide (ls.length ≤ y) = true := decide_eq_true (by omega)
        have hrn : res = none := Hno1.out (by rw [List.getElem?_eq_none (by omega)]; rfl)
        have Hrn := Lib.hid hrn
        have Hbb := Lib.hid (Hb1.out.trans (hbel.out.mono Hb1.out.size))
        clear hrn Hno1 Hen
        go_wp2
        go_ret2
        rw [Hrn.out]
        exact ⟨rfl, Hbb.out⟩
    · obtain rfl : k = bs.length := by omega
      rw [List.take_length] at henc
      have hrs : res = some (Bm.packS acc) := by rw [Hres.out, Bm.encT, henc.out, Option.map_some]
      have Hrs := Lib.hid hrs
      have hby := bytes_any w1.heap.size 0 _ _ wr (by omega) hws.out
      rw [Bm.enc_bytes, ← Bm.packS_length] at hby
      have Hby := Lib.hid hby
      have hlt2 := Bm.packS_lt acc
      have Hcv : Hid (∀ W A c, Reads W A (u8s (Bm.packS acc)) → (convert 32 9 (.slice A (Bm.packS acc).length c)).run Try.prog W = .ok (.string (strOf (Bm.packS acc))) W) := Lib.hid (fun W A c hrd => conv_bytes W A c _ hlt2 hrd)
      clear hrs hby hws henc hlt2 Hno Hput Hfl
      generalize Bm.packS acc = tb at *
      go_wp2_with fail
      refine Hby.out.mono ?_
      rintro e w4 ⟨g4, rfl, hg4, hr4, hb4⟩
      have hcv := Hcv.out w4 _ tb.length (row_reads hr4)
      have Hb4 := Lib.hid (Hb1.out.trans ((hbel.out.trans (hb4.mono hbel.out.size)).mono Hb1.out.size))
      clear hr4 hb4 hbel Hby Hcv
      go_wp2
      go_ret2
      rw [Hrs.out]
      exact ⟨rfl, Hb4.out⟩
theorem lenc_no (A B : Option Addr) (c d n m : Nat) (w : World)
    (hcd : Calls Try.prog 48 #[.slice A n c] w fun e w' => e = .returned (.tuple #[.slice none 0 0, .bool false]) ∧ w = w') :
    Calls Try.prog 26 #[.slice A n c, .slice B m d] w fun e w' => e = .returned (strV none) ∧ w = w' := by
  have H := Lib.hid hcd
  clear hcd
  go_enter Try.func26, Try.ntmps26
  go_wp2_with fail
  refine H.out.mono ?_
  rintro e w' ⟨rfl, rfl⟩
  clear H
  go_wp2
  go_ret2
  exact ⟨rfl, rfl⟩
theorem lenc_is : LEncOk := by
  intro w A B c d l bs hl hc hb hbl hbd hlt hr hs
  by_cases hW : Bm.WholeI l
  · rw [if_pos hW]
    have h := hcodes_yes A c l w hl hr hW
    obtain ⟨e, h11, hln⟩ := Bm.lenR_nat l hW.1
    have h1 := lenc_yes A B c d (l.map Int.toNat) bs w hW.2 hbl hlt (by rw [← i64z_nat, ← e]; exact hr) hs (by rw [hln]; exact h)
    rw [hln] at h1
    exact h1
  · rw [if_neg hW]
    exact (lenc_no A B c d l.length bs.length w (hcodes_no A c l w hl hr hW)).mono fun e w' ⟨h1, h2⟩ => ⟨h1, by rw [← h2]; exact Below.refl _ _⟩
end Go.Proofs.Ytgcfdjgfnagmjaa

namespace Go.Proofs.Ytgcfdjgfnagmjaa
open Go.RowKit
namespace Bm
theorem wholeI_nat (ls : List Nat) : WholeI (ls.map fun n : Nat => (n : Int)) ↔ WholeN ls := by
  have e : (ls.map fun n : Nat => (n : Int)).map Int.toNat = ls := by
    rw [List.map_map]
    conv => rhs; rw [← List.map_id ls]
    apply List.map_congr_left
    intro x _
    simp
  unfold WholeI
  rw [e]
  refine ⟨fun h => h.2, fun h => ⟨⟨by rw [List.length_map]; exact h.1, fun x hx => ?_⟩, h⟩⟩
  obtain ⟨y, hy, rfl⟩ := List.mem_map.1 hx
  have := h.2.1 y hy
  omega
/-- The first i values, noughts behind. -/
def rngTo (F : Nat → Nat) (n i : Nat) : List Nat := (List.range i).map F ++ List.replicate (n - i) 0
theorem rngTo_zero (F : Nat → Nat) (n : Nat) : rngTo F n 0 = List.replicate n 0 := by simp [rngTo]
theorem rngTo_all (F : Nat → Nat) (n : Nat) : rngTo F n n = (List.range n).map F := by simp [rngTo]
theorem rngTo_length (F : Nat → Nat) (n i : Nat) (h : i ≤ n) : (rngTo F n i).length = n := by simp [rngTo]; omega
theorem rngTo_next (F : Nat → Nat) (n i : Nat) (h : i < n) : rngTo F n (i + 1) = (rngTo F n i).set i (F i) := by
  unfold rngTo
  have h1 : ((List.range i).map F).length = i := by simp
  rw [List.set_append_right _ _ (by omega), h1, Nat.sub_self, List.range_succ, List.map_append, List.append_assoc]
  congr 1
  obtain ⟨m, hm⟩ : ∃ m, n - i = m + 1 := ⟨n - i - 1, by omega⟩
  rw [hm, show n - (i + 1) = m by omega, List.replicate_succ]
  simp
end Bm
set_option maxHeartbeats 4000000 in
set_option maxRecDepth 100000 in
theorem lread_walk (w : World) (b x k : Nat) (bs f rb l : List Nat) (st1 st2 : Left) (F P : Nat → Nat) (res : Option (List Nat × Nat)) (hx : x = Bm.valB f) (hx2 : x < 256) (hk : k = (x + 2) / 2) (hbs : ∀ y ∈ bs, y < 256) (hbl : bs.length ≤ 10000)
    (h1 : rawS 1 (some bs) = (f, st1)) (h2 : rawS k st1 = (rb, st2)) (hrb : ∀ y ∈ rb, y < 256) (hrl : rb.length ≤ 10000) (hl : l = (List.range (x + 1)).map F) (hF : ∀ i, F i < 16) (hP0 : P 0 = 0) (hPn : P (x + 1) ≤ 8 * rb.length)
    (hT : ∀ (W : World) (br i : Nat), i < x + 1 → RS W br 0 rb (P i) → Calls Try.prog 57 #[.pointer (some ⟨br, 0, none⟩), .int .i64 4] W fun e w' => (∃ ok, e = .returned (.tuple #[.int .u32 (F i : Int), .bool ok])) ∧ RS w' br 0 rb (P (i + 1)) ∧ W.grownBy w' (some br))
    (hr1 : ∀ t, st2 = some t → Bm.endB rb (P (x + 1)) → Bm.WholeN l → l[x]?.getD 0 ≠ 0 → ∃ q, res = some (l, q) ∧ bs.drop q = t)
    (hr0 : (st2 = none ∨ ¬ Bm.endB rb (P (x + 1)) ∨ ¬ Bm.WholeN l ∨ l[x]?.getD 0 = 0) → res = none)
    (hc : CR w b (some bs)) :
    Calls Try.prog 37 #[.pointer (some ⟨b, 0, none⟩)] w fun e w' => ReadP w' b bs e res ∧ w.grownBy w' (some b) := by
  obtain ⟨i0, hi, hz0, hz1, hz2⟩ := info_parts info_in
  have c0 := Row.cell hc 0
  have c1 := Row.cell hc 1
  simp only [rcells, List.getElem?_cons_zero, List.getElem?_cons_succ] at c0 c1
  have Hc := Lib.hid hc
  obtain ⟨w0, hw0⟩ : ∃ w0, w0 = w.alloc (.cells #[.string (strOf bs), .bool false] 45) := ⟨_, rfl⟩
  have hcr0 : CR w0 w.heap.size (some bs) := by rw [hw0]; exact Row.new w 45 _
  have hb0 : Below w.heap.size w w0 := by rw [hw0]; exact (Below.refl _ _).alloc (Nat.le_refl _) _
  have hfx := rfixed_any w.heap.size (some bs) 1 w0 (by omega) (by omega) ⟨hbs, by omega⟩ hcr0
  rw [show fx 1 = 1 from by decide, h1] at hfx
  dsimp only at hfx
  rw [← hx] at hfx
  have Hfx := Lib.hid hfx
  have Hraw : Hid (∀ (W : World) (z : Int), z = (k : Int) → CR W w.heap.size st1 → Calls Try.prog 18 #[.pointer (some ⟨w.heap.size, 0, none⟩), .int .i64 z] W fun e w' => e = .returned (.string (strOf rb)) ∧ CR w' w.heap.size st2 ∧ W.grownBy w' (some w.heap.size)) := Lib.hid (fun W z hz hcr => by
    have h := rraw_any w.heap.size st1 z W hcr
    rw [hz, Int.toNat_natCast, h2] at h
    rw [hz]
    exact h)
  have Hb0 := Lib.hid hb0
  have HT := Lib.hid hT
  have Hr1 := Lib.hid hr1
  have Hr0 := Lib.hid hr0
  have HF := Lib.hid hF
  have Hl := Lib.hid hl
  have Hrb := Lib.hid hrb
  have HP0 := Lib.hid hP0
  clear hc hcr0 hb0 hfx hx hT hr1 hr0 hF hl h1 h2 hrb hP0 hbs
  go_enter Try.func37, Try.ntmps37
  go_wp2_with fail
  rw [← hw0]
  clear hw0 c0 c1
  refine Hfx.out.mono ?_
  rintro e wa ⟨rfl, hcra, hga⟩
  have Hcra := Lib.hid hcra
  have Hba : Hid (Below w.heap.size w wa) := Lib.hid (Hb0.out.grown hga Hb0.out.size (fun k e => by injection e with e; omega))
  clear hcra hga Hfx Hb0
  go_wp2_with fail
  refine (Hraw.out _ _ (by omega) Hcra.out).mono ?_
  rintro e wb ⟨rfl, hcrb, hgb⟩
  obtain ⟨wc, cap, hconv, hcells, hbc⟩ := conv_back wb rb Hrb.out
  have hrdc : Reads wc (some ⟨wb.heap.size, 0, none⟩) (u8s rb) := fun _ => ⟨_, _, rfl, fun j hj => by
    rw [u8s_length] at hj
    rw [Nat.zero_add, hcells j hj, u8s_get? rb j hj]⟩
  have hbb : Below w.heap.size w wb := Hba.out.grown hgb Hba.out.size (fun k e => by injection e with e; omega)
  have hbc2 := hbb.trans (hbc.mono hbb.size)
  have Hcrc := Lib.hid (hcrb.below hbc)
  have Hnr := Lib.hid (newr_any (some ⟨wb.heap.size, 0, none⟩) cap rb wc Hrb.out hrdc)
  have Hbc := Lib.hid hbc2
  have hlw : w.heap.size < wc.heap.size := Nat.lt_of_lt_of_le hcrb.lt hbc.size
  clear hcrb hgb hcells hbc hrdc hbb hbc2 Hba Hcra Hraw
  go_wp2_with fail
  refine Hnr.out.mono ?_
  rintro e wd ⟨rfl, hrs, hbd⟩
  have Hrs := Lib.hid hrs
  have Hcrd := Lib.hid (Hcrc.out.below hbd)
  have Hbd := Lib.hid (Hbc.out.trans (hbd.mono Hbc.out.size))
  have hld : wc.heap.size < wd.heap.size := hrs.2.2.2
  clear hrs hbd Hcrc Hbc Hnr hconv
  go_wp2_with (at_make; refine wpList_make_full _ rfl _ _ 30 rfl w.heap.size 3 i0 (.int .i64 0) 1 Try.underlying30 hi hz0 hz1 .i64 .i64 _ _ (x + 1) rfl rfl ?c1 ?c1 ?c2 ?c3 ?c4 ?_)
  case c1 => omega
  case c2 => first | omega | (rw [hz2]; omega)
  case c3 => unfold maxLen; omega
  try case c4 => omega
  intro we howne hge
  have hbe := below_of_grown hge
  have hre := row_of_ownI howne
  have Hre := Lib.hid hre
  have Hrse := Lib.hid (Hrs.out.keep hge (by simp))
  have Hcre := Lib.hid (Hcrd.out.below hbe)
  have Hbe := Lib.hid (Hbd.out.trans (hbe.mono Hbd.out.size))
  clear howne hge hbe hre hi hz0 hz1 hz2 Hrs Hcrd Hbd
  generalize wd.heap.size = gl at *
  generalize wc.heap.size = br at *
  go_wp2
  go_loopw [29] (fun iv wr => ∃ i : Nat, i ≤ x + 1 ∧ iv = .int .i64 (i : Int) ∧ Hid (RS wr br 0 rb (P i)) ∧ Hid (Row wr gl 3 (i64s (Bm.rngTo F (x + 1) i))) ∧ Hid (CR wr w.heap.size st2) ∧ Hid (Below w.heap.size w wr)) (fun iv _ => x + 1 - (intOf iv).toNat)
  case atStart => exact ⟨0, by omega, rfl, Lib.hid (by rw [HP0.out]; exact Hrse.out), Lib.hid (by rw [Bm.rngTo_zero]; exact Hre.out), Hcre, Hbe⟩
  case round =>
    obtain ⟨i, hix, rfl, hrs, hrow, hcr, hbel⟩ := hrel
    clear Hrse Hre Hcre Hbe
    by_cases hi1 : i < x + 1
    · have htk := HT.out wr br i hi1 hrs.out
      have hF16 := HF.out i
      have hnx := Bm.rngTo_next F (x + 1) i hi1
      have hln := Bm.rngTo_length F (x + 1) i (by omega)
      have Htk := Lib.hid htk
      have Hset : Hid (∀ W, Row W gl 3 (i64s (Bm.rngTo F (x + 1) i)) → Row (W.setCell ⟨gl, i, none⟩ (.int .i64 (F i : Int))) gl 3 (i64s (Bm.rngTo F (x + 1) (i + 1)))) := Lib.hid (fun W h => by
        have h1 := h.set_ i (.int .i64 (F i : Int))
        rw [hnx, show i64s ((Bm.rngTo F (x + 1) i).set i (F i)) = (i64s (Bm.rngTo F (x + 1) i)).set i (.int .i64 (F i : Int)) by simp [i64s, List.map_set]]
        exact h1)
      have Hln := Lib.hid hln
      clear htk hnx hln
      generalize F i = v at *
      go_wp2_with fail
      refine Htk.out.mono ?_
      rintro e w2 ⟨⟨ok, rfl⟩, hrs2, hg2⟩
      have hrow2 : Row w2 gl 3 (i64s (Bm.rngTo F (x + 1) i)) := hrow.out.keep (hg2.block gl hrow.out.lt (fun e => by injection e with e; omega))
      have hcell : ∃ u, w2.cell? ⟨gl, i, none⟩ = some u := ⟨_, (hrow2.cell i).trans (List.getElem?_eq_getElem (by rw [i64s_length, Hln.out]; omega))⟩
      obtain ⟨u0, hcd⟩ := hcell
      have hfd : w2.frozen? ⟨gl, i, none⟩ = false := hrow2.free i
      have Hrow3 := Lib.hid (Hset.out w2 hrow2)
      have hcr2 : CR w2 w.heap.size st2 := hcr.out.keep hg2 (fun e => by injection e with e; omega)
      have hrs3 : RS (w2.setCell ⟨gl, i, none⟩ (.int .i64 (v : Int))) br 0 rb (P (i + 1)) := hrs2.keep (row := some gl) (grown_set (grown_refl w2 (some gl)) i _) (fun e => by injection e with e; omega)
      have Hrs3 := Lib.hid hrs3
      have Hcr3 : Hid (CR (w2.setCell ⟨gl, i, none⟩ (.int .i64 (v : Int))) w.heap.size st2) := Lib.hid (hcr2.keep (row := some gl) (grown_set (grown_refl w2 (some gl)) i _) (fun e => by injection e with e; omega))
      have hb2 : Below w.heap.size w w2 := hbel.out.grown hg2 hbel.out.size (fun k e => by injection e with e; omega)
      have Hb3 := Lib.hid (hb2.setCell (p := ⟨gl, i, none⟩) (by show w.heap.size ≤ gl; omega) (.int .i64 (v : Int)))
      clear hrow hrow2 hcr hcr2 hrs hrs2 hrs3 hg2 hbel hb2 Htk Hset Hln
      go_wp2
      go_roundw
      case rel => exact ⟨i + 1, by omega, by go_num, Hrs3, Hrow3, Hcr3, Hb3⟩
      case measure => simp [intOf]; omega
    · obtain rfl : i = x + 1 := by omega
      rw [Bm.rngTo_all, ← Hl.out] at hrow
      have hll : l.length = x + 1 := by rw [Hl.out]; simp
      clear HT HF HP0 Hl
      have Hbad := Lib.hid (rbad_any w.heap.size st2 wr hcr.out)
      cases st2 with
      | none =>
        have Hres := Lib.hid (Hr0.out (.inl rfl))
        clear Hr0 Hr1
        go_wp2_with fail
        refine Hbad.out.mono ?_
        rintro e w' ⟨rfl, rfl⟩
        go_wp2
        go_ret2
        rw [Hres.out]
        exact ⟨⟨_, _, rfl⟩, grown_below hbel.out _⟩
      | some t =>
        have Hend := Lib.hid (litend_any br rb (P (x + 1)) wr hrl Hrb.out hPn hrs.out)
        clear hrs
        by_cases hE : Bm.endB rb (P (x + 1))
        · rw [decide_eq_true hE] at Hend
          have Hwh : Hid (∀ W, Row W gl 3 (i64s l) → Calls Try.prog 44 #[.slice (some ⟨gl, 0, none⟩) (x + 1) (x + 1)] W fun e w' => e = .returned (.bool (decide (Bm.WholeN l))) ∧ W = w') := Lib.hid (fun W h => by
            have h1 := uwhole_any (some ⟨gl, 0, none⟩) (x + 1) (l.map fun n : Nat => (n : Int)) W (by rw [List.length_map]; omega) (by rw [i64z_nat]; exact row_reads h)
            rw [List.length_map, hll, decide_eq_decide.2 (Bm.wholeI_nat l)] at h1
            exact h1)
          by_cases hW : Bm.WholeN l
          · rw [decide_eq_true hW] at Hwh
            have hge : l[x]?.getD 0 = l[x] := by rw [List.getElem?_eq_getElem (by omega), Option.getD_some]
            have hr1 := Hr1.out t rfl hE hW
            have hr0 := fun h => Hr0.out (.inr (.inr (.inr h)))
            rw [hge] at hr1 hr0
            have Hq1 := Lib.hid hr1
            have Hq0 := Lib.hid hr0
            have Hcl : Hid (∀ W, Row W gl 3 (i64s l) → W.cell? ⟨gl, x, none⟩ = some (.int .i64 (l[x] : Int))) := Lib.hid (fun W h => by rw [h.cell x, i64s_get? l x (by omega)])
            clear hge hr1 hr0 Hr0 Hr1
            generalize l[x] = z at *
            go_wp2_with fail
            refine Hbad.out.mono ?_
            rintro e w' ⟨rfl, rfl⟩
            go_wp2_with fail
            refine Hend.out.mono ?_
            rintro e w2 ⟨rfl, hg2⟩
            have hb2 := hbel.out.grown hg2 hbel.out.size (fun k e => by injection e with e; omega)
            have hrow2 : Row w2 gl 3 (i64s l) := hrow.out.keep (hg2.block gl hrow.out.lt (fun e => by injection e with e; omega))
            have hcr2 : CR w2 w.heap.size (some t) := hcr.out.keep hg2 (fun e => by injection e with e; omega)
            have Hb2 := Lib.hid hb2
            have Hrow2 := Lib.hid hrow2
            have Hcr2 := Lib.hid hcr2
            have cz := Hcl.out w2 hrow2
            have d0 := Row.cell hcr2 0
            have d1 := Row.cell hcr2 1
            simp only [rcells, List.getElem?_cons_zero, List.getElem?_cons_succ] at d0 d1
            have hcb : CR w2 b (some bs) := Hc.out.below hb2
            have e0 := Row.cell hcb 0
            have e1 := Row.cell hcb 1
            simp only [rcells, List.getElem?_cons_zero, List.getElem?_cons_succ] at e0 e1
            have f0 := Row.free hcb 0
            have f1 := Row.free hcb 1
            have Hset : Hid (CR ((w2.setCell ⟨b, 0, none⟩ (.string (strOf t))).setCell ⟨b, 1, none⟩ (.bool false)) b (some t)) := Lib.hid (by
              have h := (Row.set_ hcb 0 (.string (strOf t))).set_ 1 (.bool false)
              exact h)
            have Hgs : Hid (w.grownBy ((w2.setCell ⟨b, 0, none⟩ (.string (strOf t))).setCell ⟨b, 1, none⟩ (.bool false)) (some b)) := Lib.hid (grown_set (grown_set (grown_below hb2 (some b)) 0 _) 1 _)
            have hbw : b < w.heap.size := Hc.out.lt
            have Hrd : Hid (Reads ((w2.setCell ⟨b, 0, none⟩ (.string (strOf t))).setCell ⟨b, 1, none⟩ (.bool false)) (some ⟨gl, 0, none⟩) (i64s l)) := Lib.hid (row_reads ((hrow2.far (p := ⟨b, 0, none⟩) (by show gl ≠ b; omega) _).far (p := ⟨b, 1, none⟩) (by show gl ≠ b; omega) _))
            have Hwh2 := Lib.hid (Hwh.out w2 hrow2)
            have hxi : (x : Int) + 1 - 1 = (x : Int) := by omega
            clear hg2 hb2 hrow2 hcr2 hcb hbel hrow hcr Hwh Hcl
            by_cases hz : z = 0
            · subst hz
              have Hres := Lib.hid (Hq0.out rfl)
              clear Hq0 Hq1 d0 d1 e0 e1 f0 f1
              go_wp2_with fail
              refine Hwh2.out.mono ?_
              rintro e w' ⟨rfl, rfl⟩
              go_wp2
              go_ret2
              rw [Hres.out]
              exact ⟨⟨_, _, rfl⟩, grown_below Hb2.out _⟩
            · have hd : ((z : Int) == 0) = false := by rw [beq_eq_false_iff_ne]; omega
              obtain ⟨q, hres, hdq⟩ := Hq1.out hz
              have Hres := Lib.hid hres
              have Hdq := Lib.hid hdq
              have Hll := Lib.hid hll
              clear Hq0 Hq1 hres hdq hll
              go_wp2_with fail
              refine Hwh2.out.mono ?_
              rintro e w' ⟨rfl, rfl⟩
              go_wp2
              go_ret2
              rw [Hres.out]
              exact ⟨⟨some ⟨gl, 0, none⟩, x + 1, by rw [Hll.out]; rfl, Hrd.out, by rw [Hdq.out]; exact Hset.out⟩, Hgs.out⟩
          · rw [decide_eq_false hW] at Hwh
            have Hres := Lib.hid (Hr0.out (.inr (.inr (.inl hW))))
            clear Hr0 Hr1
            go_wp2_with fail
            refine Hbad.out.mono ?_
            rintro e w' ⟨rfl, rfl⟩
            go_wp2_with fail
            refine Hend.out.mono ?_
            rintro e w2 ⟨rfl, hg2⟩
            have hrow2 : Row w2 gl 3 (i64s l) := hrow.out.keep (hg2.block gl hrow.out.lt (fun e => by injection e with e; omega))
            have Hwh2 := Lib.hid (Hwh.out w2 hrow2)
            have Hb2 := Lib.hid (hbel.out.grown hg2 hbel.out.size (fun k e => by injection e with e; omega))
            clear hg2 hrow2 Hwh
            go_wp2_with fail
            refine Hwh2.out.mono ?_
            rintro e w' ⟨rfl, rfl⟩
            go_wp2
            go_ret2
            rw [Hres.out]
            exact ⟨⟨_, _, rfl⟩, grown_below Hb2.out _⟩
        · rw [decide_eq_false hE] at Hend
          have Hres := Lib.hid (Hr0.out (.inr (.inl hE)))
          clear Hr0 Hr1
          go_wp2_with fail
          refine Hbad.out.mono ?_
          rintro e w' ⟨rfl, rfl⟩
          go_wp2_with fail
          refine Hend.out.mono ?_
          rintro e w2 ⟨rfl, hg2⟩
          have Hb2 := Lib.hid (hbel.out.grown hg2 hbel.out.size (fun k e => by injection e with e; omega))
          clear hg2
          go_wp2
          go_ret2
          rw [Hres.out]
          exact ⟨⟨_, _, rfl⟩, grown_below Hb2.out _⟩
end Go.Proofs.Ytgcfdjgfnagmjaa

namespace Go.Proofs.Ytgcfdjgfnagmjaa
open Go.RowKit
namespace Bm
theorem valB_at (s : List Nat) (h : ∀ x ∈ s, x < 256) (j : Nat) : valB s / 256 ^ j % 256 = s[j]?.getD 0 := by
  rcases Nat.lt_or_ge j s.length with hj | hj
  · have e := bytesOf_valB s h
    have h1 : (bytesOf (valB s) s.length)[j]? = s[j]? := by rw [e]
    rw [bytesOf_get? _ _ _ hj] at h1
    rw [← h1, Option.getD_some]
  · have hv := valB_lt s h
    have := Nat.pow_le_pow_right (n := 256) (by omega) hj
    rw [Nat.div_eq_of_lt (by omega), List.getElem?_eq_none hj]
    rfl
theorem nib_val (s : List Nat) (h : ∀ x ∈ s, x < 256) (i : Nat) : valB s / 2 ^ (4 * i) % 2 ^ 4 = if i % 2 = 1 then s[i / 2]?.getD 0 / 16 % 16 else s[i / 2]?.getD 0 % 16 := by
  have e := valB_at s h (i / 2)
  rw [p256] at e
  split
  · next ho =>
    rw [← e, show 4 * i = 8 * (i / 2) + 4 by omega, Nat.pow_add, ← Nat.div_div_eq_div_mul]
    omega
  · next ho =>
    rw [← e, show 4 * i = 8 * (i / 2) by omega]
    omega
theorem short_last : ∀ l : List Nat, 0 < (shortL l).length → (shortL l)[(shortL l).length - 1]?.getD 0 ≠ 0
  | [], h => by simp [shortL] at h
  | n :: l, h => by
    unfold shortL at h ⊢
    split
    · next h0 => rw [if_pos h0] at h; simp at h
    · next h0 =>
      rcases Nat.eq_zero_or_pos (shortL l).length with h1 | h1
      · have h2 := List.eq_nil_of_length_eq_zero h1
        rw [h2]
        have h3 : l.sum = 0 := by
          have := short_zero l h2
          have hz : ∀ l : List Nat, (∀ x ∈ l, x = 0) → l.sum = 0 := fun l => by
            induction l with
            | nil => simp
            | cons a l ih =>
              intro h
              rw [List.sum_cons, h a List.mem_cons_self, ih (fun x hx => h x (List.mem_cons_of_mem _ hx))]
          exact hz l this
        simp only [List.length_cons, List.length_nil, List.getElem?_cons_zero, Nat.zero_add, Nat.sub_self, Option.getD_some]
        omega
      · have ih := short_last l h1
        obtain ⟨q, hq⟩ : ∃ q, (shortL l).length = q + 1 := ⟨(shortL l).length - 1, by omega⟩
        rw [hq, Nat.add_sub_cancel] at ih
        rw [List.length_cons, hq, Nat.add_sub_cancel, List.getElem?_cons_succ]
        exact ih
theorem short_same (l : List Nat) (h : (shortL l).length = l.length) : shortL l = l := by
  obtain ⟨m, hm⟩ := short_split l
  have e := congrArg List.length hm
  rw [List.length_append, List.length_replicate] at e
  have hm0 : m = 0 := by omega
  subst hm0
  rw [List.replicate_zero, List.append_nil] at hm
  exact hm.symm
theorem short_full (l : List Nat) (h : l[l.length - 1]?.getD 0 ≠ 0) : shortL l = l := by
  have h0 : 0 < l.length := by
    rcases Nat.eq_zero_or_pos l.length with h1 | h1
    · rw [List.eq_nil_of_length_eq_zero h1] at h; simp at h
    · exact h1
  have := short_take l l.length (Nat.le_refl _) (fun j hj => by rw [List.getElem?_eq_none hj]; rfl) (.inr h)
  rwa [List.take_length] at this
section
variable (y : Nat) (rest rb : List Nat) (hy : y < 256) (hb : ∀ x ∈ y :: rest, x < 256) (hk : (y + 2) / 2 ≤ rest.length) (hrb : rb = rest.take ((y + 2) / 2))
include hrb in
theorem rb_at (j : Nat) (hj : j < (y + 2) / 2) : rb[j]?.getD 0 = (y :: rest)[1 + j]?.getD 0 := by
  rw [hrb, List.getElem?_take_of_lt hj, Nat.add_comm, List.getElem?_cons_succ]
include hk hrb in
theorem rb_len : rb.length = (y + 2) / 2 := by rw [hrb, List.length_take]; omega
include hb hrb in
theorem rb_lt : ∀ x ∈ rb, x < 256 := fun x hx => hb x (List.mem_cons_of_mem _ (List.mem_of_mem_take (by rw [← hrb]; exact hx)))
include hb hrb in
theorem nib_is (i : Nat) (hi : i < y + 1) : valB rb / 2 ^ (4 * i) % 2 ^ 4 = nibAt (y :: rest) i := by
  rw [nib_val rb (rb_lt y rest rb hb hrb), nibAt, rb_at y rest rb hrb (i / 2) (by omega)]
include hb hrb in
theorem nibs_is : (List.range (y + 1)).map (fun i => valB rb / 2 ^ (4 * i) % 2 ^ 4) = nibs (y :: rest) (y + 1) := by
  unfold nibs
  apply List.map_congr_left
  intro i hi
  exact nib_is y rest rb hb hrb i (List.mem_range.1 hi)
theorem nibs_at (i : Nat) (hi : i < y + 1) : (nibs (y :: rest) (y + 1))[i]?.getD 0 = nibAt (y :: rest) i := by
  unfold nibs
  rw [List.getElem?_map, List.getElem?_range hi]
  rfl
include hb hk hrb in
theorem end_is : endB rb (4 * (y + 1)) ↔ (y % 2 = 0 → rb[y / 2]?.getD 0 / 16 = 0) := by
  have hl := rb_len y rest rb hk hrb
  have hlt := rb_lt y rest rb hb hrb
  have hm : rb[y / 2]?.getD 0 < 256 := by
    rcases h : rb[y / 2]? with _ | v
    · simp
    · exact hlt v (List.mem_of_getElem? h)
  rw [left_end rb hlt _ (by omega), hl]
  by_cases he : y % 2 = 0
  · have e := nib_val rb hlt (y + 1)
    rw [if_pos (by omega), show (y + 1) / 2 = y / 2 by omega] at e
    rw [show 8 * ((y + 2) / 2) - 4 * (y + 1) = 4 by omega, e]
    constructor
    · intro h _
      omega
    · intro h
      have := h he
      omega
  · rw [show 8 * ((y + 2) / 2) - 4 * (y + 1) = 0 by omega]
    constructor
    · intro _ h
      omega
    · intro _
      exact ⟨by omega, by rw [Nat.pow_zero, Nat.mod_one]⟩
include hb hk hrb in
theorem tab_is10 : tableL (nibs (y :: rest) (y + 1)) = (y :: rest).take (1 + (y + 2) / 2) ↔ endB rb (4 * (y + 1)) := by
  rw [end_is y rest rb hb hk hrb]
  have hl := rb_len y rest rb hk hrb
  have hlt := rb_lt y rest rb hb hrb
  have hn := nibs_length (y :: rest) (y + 1)
  have ht : (y :: rest).take (1 + (y + 2) / 2) = y :: rb := by rw [Nat.add_comm, List.take_succ_cons, hrb]
  have hlt2 : ∀ j : Nat, rb[j]?.getD 0 < 256 := fun j => by
    rcases h : rb[j]? with _ | v
    · simp
    · exact hlt v (List.mem_of_getElem? h)
  have hpair : ∀ j : Nat, j < (y + 2) / 2 → (pairAt (nibs (y :: rest) (y + 1)) j = rb[j]?.getD 0 ↔ (2 * j = y → rb[j]?.getD 0 / 16 = 0)) := fun j hj => by
    have e1 := nibs_at y rest (2 * j) (by omega)
    have n1 : nibAt (y :: rest) (2 * j) = rb[j]?.getD 0 % 16 := by
      rw [nibAt, if_neg (by omega), rb_at y rest rb hrb j hj, show 2 * j / 2 = j by omega]
    have := hlt2 j
    unfold pairAt
    rw [e1, n1]
    by_cases h2 : 2 * j = y
    · have e0 : (nibs (y :: rest) (y + 1))[2 * j + 1]?.getD 0 = 0 := by rw [List.getElem?_eq_none (by rw [hn]; omega), Option.getD_none]
      rw [e0]
      constructor
      · intro h _; omega
      · intro h; have := h h2; omega
    · have e2 := nibs_at y rest (2 * j + 1) (by omega)
      have n2 : nibAt (y :: rest) (2 * j + 1) = rb[j]?.getD 0 / 16 % 16 := by
        rw [nibAt, if_pos (by omega), rb_at y rest rb hrb j hj, show (2 * j + 1) / 2 = j by omega]
      rw [e2, n2]
      constructor
      · intro _ h; exact absurd h h2
      · intro _; omega
  rw [ht]
  unfold tableL
  rw [hn, Nat.add_sub_cancel, show (y + 1 + 1) / 2 = (y + 2) / 2 by omega]
  constructor
  · intro h he
    injection h with _ h
    have hj : y / 2 < (y + 2) / 2 := by omega
    have h1 : ((List.range ((y + 2) / 2)).map (pairAt (nibs (y :: rest) (y + 1))))[y / 2]? = rb[y / 2]? := by rw [h]
    rw [List.getElem?_map, List.getElem?_range hj, Option.map_some] at h1
    exact (hpair (y / 2) hj).1 (by rw [← h1, Option.getD_some]) (by omega)
  · intro h
    congr 1
    apply List.ext_getElem
    · rw [List.length_map, List.length_range, hl]
    · intro j h1 h2
      rw [List.length_map, List.length_range] at h1
      rw [List.getElem_map, List.getElem_range, (hpair j h1).2 (fun e => by rw [show j = y / 2 by omega]; exact h (by omega)), List.getElem?_eq_getElem h2, Option.getD_some]
include hb hk hrb in
theorem readL_yes (hE : endB rb (4 * (y + 1))) (hW : WholeN (nibs (y :: rest) (y + 1))) (hn : (nibs (y :: rest) (y + 1))[y]?.getD 0 ≠ 0) : readL (y :: rest) = some (nibs (y :: rest) (y + 1), 1 + (y + 2) / 2) := by
  have hl := nibs_length (y :: rest) (y + 1)
  have hs := short_full (nibs (y :: rest) (y + 1)) (by rw [hl, Nat.add_sub_cancel]; exact hn)
  unfold readL
  rw [List.getElem?_cons_zero, Option.getD_some, if_neg (by simp), if_neg (by rw [List.length_cons]; omega), hs, if_pos ⟨hW, (tab_is10 y rest rb hb hk hrb).2 hE⟩]
include hb hk hrb in
theorem readL_no (h : ¬ endB rb (4 * (y + 1)) ∨ ¬ WholeN (nibs (y :: rest) (y + 1)) ∨ (nibs (y :: rest) (y + 1))[y]?.getD 0 = 0) : readL (y :: rest) = none := by
  have hl := nibs_length (y :: rest) (y + 1)
  unfold readL
  rw [List.getElem?_cons_zero, Option.getD_some, if_neg (by simp), if_neg (by rw [List.length_cons]; omega)]
  split
  · next hc =>
    exfalso
    obtain ⟨hW, ht⟩ := hc
    have h0 := (whole_short _ hW).2
    have hh : (shortL (nibs (y :: rest) (y + 1))).length - 1 = y := by
      have := congrArg (fun l => l[0]?.getD 0) ht
      rw [Nat.add_comm 1, List.take_succ_cons] at this
      simpa [tableL] using this
    have hs := short_same (nibs (y :: rest) (y + 1)) (by rw [hl]; omega)
    rw [hs] at ht
    have hE := (tab_is10 y rest rb hb hk hrb).1 ht
    have hlast := short_last _ h0
    rw [hs, hl, Nat.add_sub_cancel] at hlast
    rcases h with h | h | h
    · exact h hE
    · exact h hW
    · exact hlast h
  · rfl
end
end Bm
theorem lread_few (w : World) (b x : Nat) (bs f : List Nat) (st1 : Left) (hx : x = Bm.valB f) (hx2 : x < 256) (hbs : ∀ y ∈ bs, y < 256) (hbl : bs.length ≤ 10000)
    (h1 : rawS 1 (some bs) = (f, st1)) (h2 : rawS ((x + 2) / 2) st1 = ([], none)) (hres : Bm.readL bs = none) (hc : CR w b (some bs)) :
    Calls Try.prog 37 #[.pointer (some ⟨b, 0, none⟩)] w fun e w' => ReadP w' b bs e (Bm.readL bs) ∧ w.grownBy w' (some b) := by
  refine lread_walk w b x ((x + 2) / 2) bs f [] ((List.range (x + 1)).map fun _ => 0) st1 none (fun _ => 0) (fun _ => 0) _ hx hx2 rfl hbs hbl h1 h2 (by simp) (by simp) rfl (fun _ => by omega) rfl (by simp) ?_ ?_ (fun _ => hres) hc
  · intro W br i _ hrs
    refine (take_few br 0 [] 0 4 W (by simp) (by simp) (by omega) (by simp) hrs).mono ?_
    rintro e w' ⟨rfl, k, rfl⟩
    exact ⟨⟨false, rfl⟩, hrs.drewN k, grown_drewN (grown_refl _ _) k⟩
  · intro t ht
    cases ht
theorem lread_is : LReadOk := by
  intro w b bs hl hb hc
  rcases bs with _ | ⟨y, rest⟩
  · exact lread_few w b 0 [] [] none rfl (by omega) hb hl rfl rfl rfl hc
  · have hy : y < 256 := hb y List.mem_cons_self
    have h1 : rawS 1 (some (y :: rest)) = ([y], some rest) := by simp [rawS]
    have hv : y = Bm.valB [y] := by simp [Bm.valB]
    by_cases hk : (y + 2) / 2 ≤ rest.length
    · have h2 : rawS ((y + 2) / 2) (some rest) = (rest.take ((y + 2) / 2), some (rest.drop ((y + 2) / 2))) := by exact if_pos hk
      obtain ⟨rb, hrb⟩ : ∃ rb, rb = rest.take ((y + 2) / 2) := ⟨_, rfl⟩
      have hrl := Bm.rb_len y rest rb hk hrb
      have hrt := Bm.rb_lt y rest rb hb hrb
      have hnb := Bm.nibs_is y rest rb hb hrb
      have hyes := Bm.readL_yes y rest rb hb hk hrb
      have hno := Bm.readL_no y rest rb hb hk hrb
      rw [← hrb] at h2
      refine lread_walk w b y ((y + 2) / 2) (y :: rest) [y] rb (Bm.nibs (y :: rest) (y + 1)) (some rest) (some (rest.drop ((y + 2) / 2))) (fun i => Bm.valB rb / 2 ^ (4 * i) % 2 ^ 4) (fun i => 4 * i) _ hv hy rfl hb hl h1 h2 hrt (by omega) hnb.symm (fun i => Nat.mod_lt _ (by decide)) rfl (by omega) ?_ ?_ ?_ hc
      · intro W br i hi hrs
        refine (take_ok br 0 rb (4 * i) 4 W (by omega) hrt (by omega) (by omega) hrs).mono ?_
        rintro e w' ⟨rfl, h3, h4⟩
        exact ⟨⟨true, rfl⟩, by rw [show 4 * (i + 1) = 4 * i + 4 by omega]; exact h3, h4⟩
      · intro t ht hE hW hn
        injection ht with ht
        exact ⟨_, hyes hE hW hn, by rw [Nat.add_comm, List.drop_succ_cons]; exact ht⟩
      · rintro (h | h)
        · cases h
        · exact hno h
    · have h2 : rawS ((y + 2) / 2) (some rest) = ([], none) := by exact if_neg hk
      refine lread_few w b y (y :: rest) [y] (some rest) hv hy hb hl h1 h2 ?_ hc
      unfold Bm.readL
      rw [List.getElem?_cons_zero, Option.getD_some, if_neg (by simp), if_pos (by rw [List.length_cons]; omega)]
end Go.Proofs.Ytgcfdjgfnagmjaa

namespace Go.Proofs.Ytgcfdjgfnagmjaa
open Go.RowKit
namespace Bm
/-- Half bytes as a number, the first one the lowest. -/
def nibV : List Nat → Nat
  | [] => 0
  | x :: l => x + 16 * nibV l
theorem nibV_snoc : ∀ (l : List Nat) (x : Nat), nibV (l ++ [x]) = nibV l + x * 16 ^ l.length
  | [], x => by simp [nibV]
  | y :: l, x => by
    rw [List.cons_append, nibV, nibV_snoc l x, nibV, List.length_cons, Nat.pow_succ, Nat.mul_add, ← Nat.mul_assoc 16 x, Nat.mul_comm 16 x, Nat.mul_assoc x 16, Nat.mul_comm 16 (16 ^ l.length)]
    omega
theorem nibV_at : ∀ (l : List Nat) (_ : ∀ x ∈ l, x < 16) (j : Nat), nibV l / 16 ^ j % 16 = l[j]?.getD 0
  | [], _, j => by simp [nibV]
  | x :: l, h, 0 => by
    have := h x List.mem_cons_self
    rw [nibV, List.getElem?_cons_zero, Option.getD_some, Nat.pow_zero]
    omega
  | x :: l, h, j + 1 => by
    have h0 := h x List.mem_cons_self
    rw [nibV, List.getElem?_cons_succ, ← nibV_at l (fun y hy => h y (List.mem_cons_of_mem _ hy)) j, Nat.pow_succ, Nat.mul_comm (16 ^ j), ← Nat.div_div_eq_div_mul, show (x + 16 * nibV l) / 16 = nibV l by omega]
theorem pow16 (k : Nat) : 256 ^ k = 16 ^ (2 * k) := by rw [Nat.pow_mul]
theorem table_bytes (l : List Nat) (h : ∀ x ∈ l, x < 16) (h0 : 0 < l.length) (h2 : l.length ≤ 256) : bytesOf (l.length - 1 + nibV l * 2 ^ 8) ((8 + 4 * l.length + 7) / 8) = tableL l := by
  apply List.ext_getElem
  · rw [bytesOf_length, tableL_length]
    omega
  · intro i h3 h4
    rw [tableL_length] at h4
    rw [bytesOf_get]
    cases i with
    | zero =>
      simp only [tableL, List.getElem_cons_zero, Nat.pow_zero]
      omega
    | succ k =>
      simp only [tableL, List.getElem_cons_succ, List.getElem_map, List.getElem_range]
      rw [Nat.pow_succ 256 k, Nat.mul_comm (256 ^ k), ← Nat.div_div_eq_div_mul, show (l.length - 1 + nibV l * 2 ^ 8) / 256 = nibV l by omega, pow16]
      unfold pairAt
      rw [← nibV_at l h (2 * k), ← nibV_at l h (2 * k + 1), Nat.pow_succ, ← Nat.div_div_eq_div_mul]
      omega
theorem nib_step (l : List Nat) (k : Nat) (hk : k < l.length) (h : l[k] < 16) (M : Nat) : M + nibV (l.take k) * 2 ^ 8 + l[k] % 2 ^ 4 * 2 ^ (8 + 4 * k) = M + nibV (l.take (k + 1)) * 2 ^ 8 := by
  have hl : (l.take k).length = k := by rw [List.length_take]; omega
  rw [List.take_succ_eq_append_getElem hk, nibV_snoc, hl, Nat.mod_eq_of_lt (by simpa using h), Nat.add_mul, Nat.pow_add, Nat.pow_mul, show (2 : Nat) ^ 4 = 16 by rfl, Nat.mul_comm (2 ^ 8), Nat.mul_assoc]
  omega
end Bm
set_option maxHeartbeats 1000000 in
set_option maxRecDepth 100000 in
theorem ltab_yes (A : Option Addr) (c : Nat) (ls : List Nat) (w : World) (hW : Bm.WholeN ls) (hc : ls.length ≤ c) (hr : Reads w A (i64s ls))
    (hwh : Calls Try.prog 44 #[.slice A ls.length c] w fun e w' => e = .returned (.bool true) ∧ w = w') :
    Calls Try.prog 25 #[.slice A ls.length c] w fun e w' => e = .returned (strV (some (Bm.tableL (Bm.shortL ls)))) ∧ Below w.heap.size w w' := by
  have Hsh := Lib.hid (litno_any A c ls w hW.1 hc hr)
  have Hwh := Lib.hid hwh
  obtain ⟨h1, h2⟩ := Bm.whole_short ls hW
  obtain ⟨m0, hm0⟩ := Bm.short_split ls
  have hrd : Reads w A (i64s (Bm.shortL ls)) := by
    have h := reads_take hr (Bm.shortL ls).length
    have e : ∀ l1 l2 : List Nat, (i64s (l1 ++ l2)).take l1.length = i64s l1 := fun l1 l2 => by rw [← i64s_append, ← i64s_length l1, List.take_left]
    have e2 := e (Bm.shortL ls) (List.replicate m0 0)
    rw [← hm0] at e2
    rwa [e2] at h
  clear hm0 hr hwh
  generalize Bm.shortL ls = l at *
  have hl2 := h1.1
  have H11 := Lib.hid h1.2.1
  have Htb := Lib.hid (Bm.table_bytes l (fun x hx => by have := h1.2.1 x hx; omega) h2 hl2)
  have Hlt := Lib.hid (Bm.tableL_lt l h1.2.1 hl2)
  have Hlen : Hid ((8 + 4 * l.length + 7) / 8 = (Bm.tableL l).length) := Lib.hid (by rw [Bm.tableL_length]; omega)
  generalize Bm.tableL l = tb at *
  have Hrd := Lib.hid hrd
  have hcu : IntKind.u32.wrap ((l.length : Int) - 1) = ((l.length - 1 : Nat) : Int) := by simp [IntKind.wrap, IntKind.bits, IntKind.signed]; omega
  have Hput : Hid (∀ (W : World) (b N n v m : Nat), n ≤ 1000000000 → v < 4294967296 → m ≤ 32 → WS W b 0 N n → Calls Try.prog 46 #[.pointer (some ⟨b, 0, none⟩), .int .u32 (v : Int), .int .i64 (m : Int)] W fun e w' => e = .returned (.bool true) ∧ WS w' b 0 (N + v % 2 ^ m * 2 ^ n) (n + m) ∧ W.grownBy w' (some b)) := Lib.hid (fun W b N n v m h1 h2 h3 h4 => put_true b 0 N n v m W h1 h2 h3 h4)
  have Hnew := Lib.hid (WS.new w 80 (by decide))
  have Hal := Lib.hid ((Below.refl w.heap.size w).alloc (Nat.le_refl _) (.cells #[.pointer none, .int .u64 0, .int .i64 0] 80))
  clear hrd h1 hW
  go_enter Try.func25, Try.ntmps25
  go_wp2_with fail
  refine Hwh.out.mono ?_
  rintro e w' ⟨rfl, rfl⟩
  clear Hwh
  go_wp2_with fail
  refine Hsh.out.mono ?_
  rintro e w' ⟨rfl, rfl⟩
  clear Hsh
  go_wp2_with fail
  refine (Hput.out _ w.heap.size 0 0 (l.length - 1) 8 (by omega) (by omega) (by omega) Hnew.out).mono ?_
  rintro e w2 ⟨rfl, hws, hg⟩
  rw [Nat.zero_add, Nat.zero_add, Nat.pow_zero, Nat.mul_one, Nat.mod_eq_of_lt (show l.length - 1 < 2 ^ 8 by omega)] at hws
  have Hws := Lib.hid hws
  have Hb2 : Hid (Below w.heap.size w w2) := Lib.hid (Hal.out.grown hg Hal.out.size (fun k e => by injection e with e; omega))
  clear hws hg Hnew Hal hcu
  go_wp2
  go_loopw [20] (fun iv wr => ∃ k : Nat, k ≤ l.length ∧ iv = .int .i64 (k : Int) ∧ Hid (WS wr w.heap.size 0 (l.length - 1 + Bm.nibV (l.take k) * 2 ^ 8) (8 + 4 * k)) ∧ Hid (Below w.heap.size w wr)) (fun iv _ => l.length - (intOf iv).toNat)
  case atStart => exact ⟨0, by omega, rfl, Lib.hid (by rw [List.take_zero, Bm.nibV, Nat.zero_mul]; exact Hws.out), Hb2⟩
  case round =>
    obtain ⟨k, hk, rfl, hws, hbel⟩ := hrel
    clear Hws Hb2
    by_cases hkl : k < l.length
    · obtain ⟨g, off, rfl, hc1⟩ := reads_i9 (reads_on Hrd.out hbel.out) (by omega)
      have c0 := hc1 k hkl
      have hx := H11.out l[k] (List.getElem_mem hkl)
      have hst := Bm.nib_step l k hkl (by omega) (l.length - 1)
      have Hp := Lib.hid (Hput.out wr w.heap.size _ (8 + 4 * k) l[k] 4 (by omega) (by omega) (by omega) hws.out)
      rw [hst] at Hp
      clear hc1 hst hws
      generalize l[k] = x at *
      have hcu : IntKind.u32.wrap (x : Int) = (x : Int) := by simp [IntKind.wrap, IntKind.bits, IntKind.signed]; omega
      go_wp2_with fail
      refine Hp.out.mono ?_
      rintro e w3 ⟨rfl, hws3, hg3⟩
      have Hws3 := Lib.hid hws3
      have Hb3 : Hid (Below w.heap.size w w3) := Lib.hid (hbel.out.grown hg3 hbel.out.size (fun k e => by injection e with e; omega))
      clear hws3 hg3 hbel Hp
      go_wp2
      go_roundw
      case rel => exact ⟨k + 1, by omega, by go_num, Hws3, Hb3⟩
      case measure => simp [intOf]; omega
    · obtain rfl : k = l.length := by omega
      rw [List.take_length] at hws
      have hby := bytes_any w.heap.size 0 _ _ wr (by omega) hws.out
      rw [Htb.out] at hby
      have Hby := Lib.hid hby
      rw [Hlen.out] at Hby
      have Hcv : Hid (∀ W A c, Reads W A (u8s tb) → (convert 32 9 (.slice A tb.length c)).run Try.prog W = .ok (.string (strOf tb)) W) := Lib.hid (fun W A c hrd => conv_bytes W A c _ Hlt.out hrd)
      clear hby hws Htb
      go_wp2_with fail
      refine Hby.out.mono ?_
      rintro e w4 ⟨g4, rfl, hg4, hr4, hb4⟩
      have hcv := Hcv.out w4 _ tb.length (row_reads hr4)
      have Hb4 := Lib.hid (hbel.out.trans (hb4.mono hbel.out.size))
      clear hr4 hb4 hbel Hby Hcv
      go_wp2
      go_ret2
      exact ⟨rfl, Hb4.out⟩
theorem ltab_no (A : Option Addr) (c : Nat) (l : List Int) (w : World)
    (hwh : Calls Try.prog 44 #[.slice A l.length c] w fun e w' => e = .returned (.bool false) ∧ w = w') :
    Calls Try.prog 25 #[.slice A l.length c] w fun e w' => e = .returned (strV none) ∧ w = w' := by
  have Hwh := Lib.hid hwh
  clear hwh
  go_enter Try.func25, Try.ntmps25
  go_wp2_with fail
  refine Hwh.out.mono ?_
  rintro e w' ⟨rfl, rfl⟩
  clear Hwh
  go_wp2
  go_ret2
  exact ⟨rfl, rfl⟩
theorem ltab_is : LTabOk := by
  intro w A c l hl hc hb hr
  have h := uwhole_any A c l w (by omega) hr
  by_cases hW : Bm.WholeI l
  · rw [if_pos hW]
    rw [decide_eq_true hW] at h
    obtain ⟨e, h11, hln⟩ := Bm.lenR_nat l hW.1
    have h1 := ltab_yes A c (l.map Int.toNat) w hW.2 (by omega) (by rw [← i64z_nat, ← e]; exact hr) (by rw [hln]; exact h)
    rw [hln] at h1
    exact h1
  · rw [if_neg hW]
    rw [decide_eq_false hW] at h
    exact (ltab_no A c l w h).mono fun e w' ⟨h1, h2⟩ => ⟨h1, by rw [← h2]; exact Below.refl _ _⟩
end Go.Proofs.Ytgcfdjgfnagmjaa
