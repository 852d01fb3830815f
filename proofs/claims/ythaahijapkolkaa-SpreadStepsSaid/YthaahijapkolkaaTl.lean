/-
  The program's layer 6 (spread): a table in memory; Size, Log, has, Cell, Next, by their walks. Conditions: as each theorem's premises say.
-/
import Derived.Test.YthaahijapkolkaaTe
import Derived.Test.YthaahijapkolkaaTh
import Derived.Test.YthaahijapkolkaaTf
import Derived.BigQuiet
import Derived.WalkSmall
import Derived.Deep.QuietTactic
namespace Go.Proofs.Ythaahijapkolkaa
open Go.RowKit
/-- A table of states lies at a place: its log, its cells, each symbol's states. -/
def STab (w : World) (p : Addr) (ls : List Nat) (log : Nat) : Prop := ∃ b gc gs : Nat, p = ⟨b, 0, none⟩ ∧
  Row w b 47 [.int .i64 (log : Int), .slice (some ⟨gc, 0, none⟩) (2 ^ log) (2 ^ log), .slice (some ⟨gs, 0, none⟩) ls.length ls.length] ∧
  Row w gc 29 (c3 (Bm.cellsM ls log)) ∧ ∃ vs : List Value, Row w gs 22 vs ∧ vs.length = ls.length ∧
    ∀ s, s < ls.length → ∃ A c, vs[s]? = some (.slice A (ls[s]?.getD 0) c) ∧ Reads w A (i64s (Bm.statesTo ls log (2 ^ log) s))
theorem stab_keep (w W : World) (p : Addr) (ls : List Nat) (log : Nat) (h : STab w p ls log) (hb : Below w.heap.size w W) : STab W p ls log := by
  obtain ⟨b, gc, gs, e, h1, h2, vs, h3, h4, h5⟩ := h
  refine ⟨b, gc, gs, e, row_below h1 hb, row_below h2 hb, vs, row_below h3 hb, h4, fun s hs => ?_⟩
  obtain ⟨A, c, h6, h7⟩ := h5 s hs
  exact ⟨A, c, h6, reads_on h7 hb⟩
theorem pow_fair (log : Nat) (h5 : 5 ≤ log) (h9 : log ≤ 9) : 32 ≤ 2 ^ log ∧ 2 ^ log ≤ 512 :=
  ⟨Nat.pow_le_pow_right (n := 2) (i := 5) (by omega) h5, Nat.pow_le_pow_right (n := 2) (j := 9) (by omega) h9⟩

set_option maxRecDepth 100000 in
theorem tsize_any (w : World) (p : Addr) (ls : List Nat) (log : Nat) (h : STab w p ls log) : Calls Try.prog 10 #[.pointer (some p)] w fun e w' => e = .returned (.int .i64 ((2 ^ log : Nat) : Int)) ∧ w = w' := by
  obtain ⟨b, gc, gs, rfl, h1, _⟩ := h
  have c1 := h1.cell 1
  simp only [List.getElem?_cons_succ, List.getElem?_cons_zero] at c1
  clear h1
  generalize 2 ^ log = S at *
  go_enter Try.func10, Try.ntmps10
  go_wp2
  go_ret
  exact ⟨rfl, rfl⟩
set_option maxRecDepth 100000 in
theorem tsize_nil (w : World) : Calls Try.prog 10 #[.pointer none] w fun e w' => e = .returned (.int .i64 0) ∧ w = w' := by
  go_enter Try.func10, Try.ntmps10
  go_wp2
  go_ret
  exact ⟨rfl, rfl⟩
set_option maxRecDepth 100000 in
theorem tlog_any (w : World) (p : Addr) (ls : List Nat) (log : Nat) (h : STab w p ls log) : Calls Try.prog 11 #[.pointer (some p)] w fun e w' => e = .returned (.int .i64 (log : Int)) ∧ w = w' := by
  obtain ⟨b, gc, gs, rfl, h1, _⟩ := h
  have c1 := h1.cell 0
  simp only [List.getElem?_cons_zero] at c1
  clear h1
  go_enter Try.func11, Try.ntmps11
  go_wp2
  go_ret
  exact ⟨rfl, rfl⟩
set_option maxRecDepth 100000 in
theorem tlog_nil (w : World) : Calls Try.prog 11 #[.pointer none] w fun e w' => e = .returned (.int .i64 0) ∧ w = w' := by
  go_enter Try.func11, Try.ntmps11
  go_wp2
  go_ret
  exact ⟨rfl, rfl⟩
set_option maxHeartbeats 400000 in
set_option maxRecDepth 100000 in
theorem thas_of (v : Value) (S : Nat) (st : Int) (w : World) (hsz : Calls Try.prog 10 #[v] w fun e w' => e = .returned (.int .i64 (S : Int)) ∧ w = w') :
    Calls Try.prog 20 #[v, .int .i64 st] w fun e w' => e = .returned (.bool (decide (0 ≤ st ∧ st < (S : Int)))) ∧ w = w' := by
  have Hsz := Lib.hid hsz
  clear hsz
  by_cases h0 : 0 ≤ st
  · have d0 : decide (0 ≤ st) = true := decide_eq_true h0
    have hd : decide (st < (S : Int)) = decide (0 ≤ st ∧ st < (S : Int)) := by simp [h0]
    have Hd := Lib.hid hd
    clear hd h0
    go_enter Try.func20, Try.ntmps20
    go_wp2_with fail
    refine Hsz.out.mono ?_
    rintro e w' ⟨rfl, rfl⟩
    go_wp2
    go_ret
    exact ⟨congrArg (fun x => Ending.returned (Value.bool x)) Hd.out, rfl⟩
  · have d0 : decide (0 ≤ st) = false := decide_eq_false h0
    rw [show decide (0 ≤ st ∧ st < (S : Int)) = false from decide_eq_false (fun h => h0 h.1)]
    clear Hsz
    go_enter Try.func20, Try.ntmps20
    go_wp2
    go_ret
    exact ⟨rfl, rfl⟩
set_option maxHeartbeats 400000 in
set_option maxRecDepth 100000 in
theorem tcell_nil (w : World) (st : Int) : Calls Try.prog 9 #[.pointer none, .int .i64 st] w fun e w' => e = .returned (.tuple #[.agg #[.int .u8 0, .int .i64 0, .int .i64 0], .bool false]) ∧ Below w.heap.size w w' := by
  have hh : ∀ W, Calls Try.prog 20 #[.pointer none, .int .i64 st] W fun e w' => e = .returned (.bool false) ∧ W = w' := fun W => by
    have h1 := thas_of (.pointer none) 0 st W (tsize_nil W)
    rw [decide_eq_false (by omega)] at h1
    exact h1
  have Hh := Lib.hid hh
  clear hh
  go_enter Try.func9, Try.ntmps9
  go_wp2_with fail
  refine (Hh.out _).mono ?_
  rintro e w' ⟨rfl, rfl⟩
  go_wp2
  refine bodyPost_ret (v := .tuple #[.agg #[.int .u8 0, .int .i64 0, .int .i64 0], .bool false]) (by simp [results, Try.results9, go_sem]) rfl ⟨rfl, ?_⟩
  exact (Below.refl _ _).alloc (Nat.le_refl _) _
set_option maxHeartbeats 1000000 in
set_option maxRecDepth 100000 in
theorem tcell_any (w : World) (p : Addr) (ls : List Nat) (log : Nat) (st : Int) (hf : Bm.FairN ls log) (h : STab w p ls log) :
    Calls Try.prog 9 #[.pointer (some p), .int .i64 st] w fun e w' => e = .returned (.tuple #[celV (Bm.cellA ls log st), .bool (decide (0 ≤ st ∧ st < ((2 ^ log : Nat) : Int)))]) ∧ Below w.heap.size w w' := by
  have hh := fun W (hW : STab W p ls log) => thas_of (.pointer (some p)) (2 ^ log) st W (tsize_any W p ls log hW)
  have Hh := Lib.hid (hh _ (stab_keep _ _ _ _ _ h ((Below.refl _ _).alloc (Nat.le_refl w.heap.size) (.cells #[.int .u8 0, .int .i64 0, .int .i64 0] 29))))
  have hP := pow_fair log hf.low hf.high
  clear hh
  obtain ⟨b, gc, gs, rfl, h1, h2, _⟩ := h
  have c1 := h1.cell 1
  simp only [List.getElem?_cons_succ, List.getElem?_cons_zero] at c1
  have hlt := h1.lt
  have hlt2 := h2.lt
  by_cases hst : 0 ≤ st ∧ st < ((2 ^ log : Nat) : Int)
  · obtain ⟨i, rfl⟩ := Int.eq_ofNat_of_zero_le hst.1
    have hi : i < 2 ^ log := by omega
    have hil : i < (Bm.cellsM ls log).length := by rw [Bm.cellsM_length]; exact hi
    obtain ⟨e0, e1, e2⟩ := c3_get (Bm.cellsM ls log) i hil
    rw [Bm.cellsM_get] at e0 e1 e2
    have k0 := (h2.cell (i * 3)).trans e0
    have k1 := (h2.cell (i * 3 + 1)).trans e1
    have k2 := (h2.cell (i * 3 + 2)).trans e2
    dsimp only at k0 k1 k2
    have hA : celV (Bm.cellA ls log (i : Int)) = .agg #[.int .u8 (Bm.symAt ls log i : Int), .int .i64 (Bm.bitsAt ls log i : Int), .int .i64 (Bm.baseAt ls log i : Int)] := by
      unfold Bm.cellA celV
      rw [if_pos hst, Int.toNat_natCast]
    rw [decide_eq_true hst] at Hh ⊢
    rw [hA]
    clear hA e0 e1 e2 hil h1 h2 hst hf
    generalize Bm.symAt ls log i = x at *
    generalize Bm.bitsAt ls log i = y at *
    generalize Bm.baseAt ls log i = z at *
    generalize 2 ^ log = S at *
    go_enter Try.func9, Try.ntmps9
    go_wp2_with fail
    refine Hh.out.mono ?_
    rintro e w' ⟨rfl, rfl⟩
    go_wp2
    refine bodyPost_ret (v := .tuple #[.agg #[.int .u8 (x : Int), .int .i64 (y : Int), .int .i64 (z : Int)], .bool true]) (by simp [results, Try.results9, go_sem]) rfl ⟨rfl, ?_⟩
    exact (Below.refl _ _).alloc (Nat.le_refl _) _
  · have hA : celV (Bm.cellA ls log st) = .agg #[.int .u8 0, .int .i64 0, .int .i64 0] := by
      unfold Bm.cellA celV
      rw [if_neg hst]
      rfl
    rw [decide_eq_false hst] at Hh ⊢
    rw [hA]
    clear hA h1 h2 hst hf c1
    go_enter Try.func9, Try.ntmps9
    go_wp2_with fail
    refine Hh.out.mono ?_
    rintro e w' ⟨rfl, rfl⟩
    go_wp2
    refine bodyPost_ret (v := .tuple #[.agg #[.int .u8 0, .int .i64 0, .int .i64 0], .bool false]) (by simp [results, Try.results9, go_sem]) rfl ⟨rfl, ?_⟩
    exact (Below.refl _ _).alloc (Nat.le_refl _) _

set_option maxHeartbeats 1000000 in
set_option maxRecDepth 100000 in
theorem tnext_any (w : World) (p : Addr) (ls : List Nat) (log : Nat) (st more : Int) (hf : Bm.FairN ls log) (h : STab w p ls log) :
    Calls Try.prog 15 #[.pointer (some p), .int .i64 st, .int .i64 more] w fun e w' => e = .returned (.tuple #[.int .i64 (Bm.nextA ls log st more), .bool (Bm.nextB ls log st more)]) ∧ Below w.heap.size w w' := by
  have Hc := Lib.hid (tcell_any w p ls log st hf h)
  have hP := pow_fair log hf.low hf.high
  by_cases hst : 0 ≤ st ∧ st < ((2 ^ log : Nat) : Int)
  · have hA : celV (Bm.cellA ls log st) = .agg #[.int .u8 (Bm.symAt ls log st.toNat : Int), .int .i64 (Bm.bitsAt ls log st.toNat : Int), .int .i64 (Bm.baseAt ls log st.toNat : Int)] := by
      unfold Bm.cellA celV
      rw [if_pos hst]
    have hi : st.toNat < 2 ^ log := by omega
    have hbs := Bm.base_at ls log st.toNat hf hi
    have hb9 := Bm.bits_at ls log st.toNat hf hi
    have hl9 := hf.high
    have hnB : Bm.nextB ls log st more = decide (0 ≤ more ∧ more < ((2 ^ Bm.bitsAt ls log st.toNat : Nat) : Int)) := by
      unfold Bm.nextB
      rw [decide_eq_decide]
      exact ⟨fun h => h.2.2, fun h => ⟨hst.1, hst.2, h⟩⟩
    have hnA : Bm.nextA ls log st more = if 0 ≤ more ∧ more < ((2 ^ Bm.bitsAt ls log st.toNat : Nat) : Int) then (Bm.baseAt ls log st.toNat : Int) + more else 0 := by
      unfold Bm.nextA
      rw [hnB]
      simp only [decide_eq_true_eq]
    rw [hA, decide_eq_true hst] at Hc
    rw [hnA, hnB]
    clear hA hnA hnB hst hi hf h
    have hS : (2 : Int) ^ Bm.bitsAt ls log st.toNat = ((2 ^ Bm.bitsAt ls log st.toNat : Nat) : Int) := by simp
    have hpos : 0 < 2 ^ Bm.bitsAt ls log st.toNat := Nat.pow_pos (by omega)
    generalize Bm.symAt ls log st.toNat = x at *
    generalize Bm.bitsAt ls log st.toNat = y at *
    generalize Bm.baseAt ls log st.toNat = z at *
    generalize 2 ^ y = Y at *
    have hz512 : z ≤ 512 := Nat.le_trans (Nat.le_trans (Nat.le_add_right _ _) hbs) hP.2
    have hY512 : Y ≤ 512 := Nat.le_trans (Nat.le_trans (Nat.le_add_left _ _) hbs) hP.2
    have hw : IntKind.i64.wrap (Y : Int) = (Y : Int) := IntWalk.i64_in _ (by omega)
    clear hbs
    by_cases h0 : more < 0
    · have d0 : decide (more < 0) = true := decide_eq_true h0
      rw [if_neg (fun h => by omega), decide_eq_false (fun h => by omega)]
      go_enter Try.func15, Try.ntmps15
      go_wp2_with fail
      refine Hc.out.mono ?_
      rintro e w1 ⟨rfl, hb⟩
      go_wp2
      go_ret2
      exact ⟨rfl, hb.alloc hb.size _⟩
    · have d0 : decide (more < 0) = false := decide_eq_false h0
      by_cases h1 : (Y : Int) ≤ more
      · have d1 : decide ((Y : Int) ≤ more) = true := decide_eq_true h1
        rw [if_neg (fun h => by omega), decide_eq_false (fun h => by omega)]
        go_enter Try.func15, Try.ntmps15
        go_wp2_with fail
        refine Hc.out.mono ?_
        rintro e w1 ⟨rfl, hb⟩
        go_wp2
        go_ret2
        exact ⟨rfl, hb.alloc hb.size _⟩
      · have d1 : decide ((Y : Int) ≤ more) = false := decide_eq_false h1
        rw [if_pos ⟨by omega, by omega⟩, decide_eq_true ⟨by omega, by omega⟩]
        go_enter Try.func15, Try.ntmps15
        go_wp2_with fail
        refine Hc.out.mono ?_
        rintro e w1 ⟨rfl, hb⟩
        go_wp2
        go_ret2
        exact ⟨rfl, hb.alloc hb.size _⟩
  · have hA : celV (Bm.cellA ls log st) = .agg #[.int .u8 0, .int .i64 0, .int .i64 0] := by
      unfold Bm.cellA celV
      rw [if_neg hst]
      rfl
    have hnB : Bm.nextB ls log st more = false := decide_eq_false (fun h => hst ⟨h.1, h.2.1⟩)
    have hnA : Bm.nextA ls log st more = 0 := by
      unfold Bm.nextA
      rw [hnB]
      rfl
    rw [hA, decide_eq_false hst] at Hc
    rw [hnA, hnB]
    clear hA hnA hnB hst hf h
    go_enter Try.func15, Try.ntmps15
    go_wp2_with fail
    refine Hc.out.mono ?_
    rintro e w1 ⟨rfl, hb⟩
    go_wp2
    go_ret2
    exact ⟨rfl, hb.alloc hb.size _⟩
end Go.Proofs.Ythaahijapkolkaa
