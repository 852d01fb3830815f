/-
  Layer 8 (header): a Writer where a Reader is written; the laws' awake, by its walk: true. Premises: what the calls of layer 8 answer.
  The reference of layer 2 (back): Seal, Open, each by its walk. Conditions: as each theorem's premises say (up to a hundred thousand bits).
  The program's layer 7 (fse), by its walk: code, over whatever put makes of the bits. Conditions: as each theorem's premises say (up to ten thousand symbols).
-/
import Derived.Test.YtbdciiiimdbmkaaGreatGap
import Derived.Test.YtbdciiiimdbmkaaGreatGaf
import Derived.Test.YtbdciiiimdbmkaaGreatGak
import Derived.Test.YtbdciiiimdbmkaaGreatGas
import Derived.Test.YtbdciiiimdbmkaaGreatGaq
import Derived.Test.YtbdciiiimdbmkaaGreatGaw
import Derived.Deep.DeepCutAuto
import Derived.Laws.AppendOwnNone
import Derived.Deep.RegionHeld3
namespace Go.Proofs.YtbdciiiimdbmkaaGreat
open Go.RowKit

theorem Chain.keepR {w w' : World} {br : Nat} {s : ByteArray} (hr : w.cell? ⟨br, 0, none⟩ = some (.string s)) (hg : w.grownBy w' (some br)) : ∀ (us : List Nat) (p : Option Addr), Chain w p us → Chain w' p us
  | [], _, h => h
  | u :: us, _, ⟨g, q, hp, hrow, hc⟩ => by
    have hne : g ≠ br := by
      rintro rfl
      have h1 := hrow.cell 0
      rw [hr] at h1
      simp at h1
    exact ⟨g, q, hp, hrow.keep (hg.block g hrow.lt (fun e => hne (by injection e))), Chain.keepR hr hg us q hc⟩
/-- A Writer stays as it is where a Reader is written. -/
theorem WS.keepR {w w' : World} {b N n br pos : Nat} {bs : List Nat} (h : WS w b 0 N n) (hr : RS w br 0 bs pos) (hg : w.grownBy w' (some br)) : WS w' b 0 N n := by
  obtain ⟨p, rest, us, h0, h1, h2, f0, f1, f2, hn, hc, hw⟩ := h
  have hne : b ≠ br := by
    rintro rfl
    rw [hr.1] at h0
    cases h0
  have hl := hg.block b hn.lt (fun e => hne (by injection e))
  exact ⟨p, rest, us, (World.cell?_of_block hl).trans h0, (World.cell?_of_block hl).trans h1, (World.cell?_of_block hl).trans h2, (World.frozen?_of_block hl).trans f0, (World.frozen?_of_block hl).trans f1,
    (World.frozen?_of_block hl).trans f2, hn.keep hl, Chain.keepR hr.1 hg us p hc, hw⟩
theorem WS.below {w w' : World} {b off N n : Nat} (h : WS w b off N n) (hb : Below w.heap.size w w') : WS w' b off N n := h.keep (row := none) (grown_below hb none) (by simp) (by simp)
theorem RS.below {w w' : World} {b off pos : Nat} {bs : List Nat} (h : RS w b off bs pos) (hb : Below w.heap.size w w') : RS w' b off bs pos := h.keep (row := none) (grown_below hb none) (by simp)

/-- A new Writer. -/
theorem new_writer (w : World) : ∃ w0 b, w0 = w.alloc (.cells #[.pointer none, .int .u64 0, .int .i64 0] 77) ∧ b = w.heap.size ∧ WS w0 b 0 0 0 ∧ Below w.heap.size w w0 ∧ b < w0.heap.size :=
  ⟨_, _, rfl, rfl, WS.new w 77 notW, (Below.refl _ _).alloc (Nat.le_refl _) _, by simp⟩

theorem hdr_248 : Bm.hdrA [24, 8] 5 = (4288, 13) := by decide +kernel
theorem take_248 : Bm.takeA (Bm.valB (Bm.bytesOf 4288 2) / 2 ^ 0) (8 * 2 - 0) = some ([24, 8], 5, 3) := by decide +kernel
theorem fair_h248 : Bm.Fair [24, 8] 5 := by decide
end Go.Proofs.YtbdciiiimdbmkaaGreat

namespace Go.Proofs.YtbdciiiimdbmkaaGreat
open Go.RowKit

theorem i64s_snoc (l : List Nat) : i64s l ++ [Value.int .i64 1] = i64s (l ++ [1]) := by simp [i64s]
end Go.Proofs.YtbdciiiimdbmkaaGreat

namespace Go.Proofs.YtbdciiiimdbmkaaGreat
open Go.RowKit Go.Shelf
attribute [local go_sem] Oper.semAt_some

/-- Block r is neither b nor a word of a Writer. -/
def Aside (W : World) (b r : Nat) : Prop := r ≠ b ∧ ∀ cs, ¬ Row W r 108 cs

theorem aside_of_box {W : World} {b r : Nat} {t : TypeId} {v : Value} (h : Boxed W r t v) (ht : t ≠ 108) (hr : r ≠ b) : Aside W b r := ⟨hr, fun cs hc => by
  unfold Row at hc
  unfold Boxed at h
  rw [h] at hc
  simp only [Option.some.injEq, Obj.cells.injEq] at hc
  exact ht hc.2.1⟩
theorem aside_of_obj {W : World} {b r : Nat} {o : Obj} (h : W.heap[r]? = some o) (ho : o.isCells = false) (hr : r ≠ b) : Aside W b r := ⟨hr, fun cs hc => by
  unfold Row at hc
  rw [hc] at h
  injection h with h
  subst h
  cases ho⟩

/-- What code answers, over what put makes of the bits. -/
def CodeA (PI : Nat → Nat → World → Prop) (log : Nat) (w' : World) (e : Ending) : Option (Nat × Nat × Nat) → Prop
  | none => e = .returned (.bool false)
  | some (N, n, st) => e = .returned (.bool true) ∧ PI (N + st * 2 ^ n) (n + log) w'

/-- Between two rounds of code's loop: its boxes, what put has made, the state. -/
def CodeI (PI : Nat → Nat → World → Prop) (pf : Nat) (cap : Value) (p : Addr) (ls : List Nat) (log : Nat) (w0 : World) (B0 : Nat) (pre : List PB) (W : World) : Prop :=
  ((Boxed W B0 138 (.pointer (some p)) ∧ Boxed W (B0 + 1) 159 (.func (.func pf) #[] #[cap]) ∧ Boxed W (B0 + 2) 4 (.bool false)) ∧
    ∃ N n st, Bm.encR ls log (PB.syms pre).reverse = some (N, n, st) ∧ Boxed W (B0 + 3) 3 (.int .i64 (st : Int)) ∧ PI N n W) ∧ Below w0.heap.size w0 W ∧ B0 + 5 ≤ W.heap.size
def CodeX (ls : List Nat) (log : Nat) (w0 : World) (B0 : Nat) (c : Code) (pre : List PB) (W : World) : Prop :=
  (c = .ret ∧ Bm.encR ls log (PB.syms pre).reverse = none ∧ Boxed W (B0 + 2) 4 (.bool false)) ∧ Below w0.heap.size w0 W

theorem boxed_far {W W' : World} {B : Nat} {t : TypeId} {v : Value} {row : Option Nat} (h : Boxed W B t v) (hg : W.grownBy W' row) (hr : ∀ r, row = some r → B ≠ r) : Boxed W' B t v :=
  h.kept hg (fun e => hr B e.symm rfl)
theorem codeI_own {PI : Nat → Nat → World → Prop} {pf : Nat} {cap : Value} {p : Addr} {ls : List Nat} {log : Nat} {w0 : World} {B0 b : Nat} (hB : w0.heap.size ≤ B0) (hb : b < B0)
    (hkeep : ∀ N n W W' row, PI N n W → W.grownBy W' row → (∀ r, row = some r → Aside W b r) → PI N n W') : OwnFrom (B0 + 5) (CodeI PI pf cap p ls log w0 B0) := by
  rintro pre W W' row ⟨⟨⟨h1, h2, h3⟩, N, n, st, h4, h5, h6⟩, h7, h8⟩ hg hr
  have hlt : ∀ r, row = some r → B0 + 5 ≤ r := fun r e => (hr r e).1
  refine ⟨⟨⟨boxed_far h1 hg fun r e => by have := hlt r e; omega, boxed_far h2 hg fun r e => by have := hlt r e; omega, boxed_far h3 hg fun r e => by have := hlt r e; omega⟩, N, n, st, h4, boxed_far h5 hg fun r e => by have := hlt r e; omega, hkeep _ _ _ _ _ h6 hg fun r e => ?_⟩, h7.grown hg h7.size fun r e => by have := hlt r e; omega, Nat.le_trans h8 hg.size⟩
  obtain ⟨hr1, o, ho, hc⟩ := hr r e
  exact aside_of_obj ho hc (by omega)
theorem codeX_own {ls : List Nat} {log : Nat} {w0 : World} {B0 : Nat} (hB : w0.heap.size ≤ B0) (c : Code) : OwnFrom (B0 + 5) (CodeX ls log w0 B0 c) := by
  rintro pre W W' row ⟨⟨h1, h2, h3⟩, h7⟩ hg hr
  have hlt : ∀ r, row = some r → B0 + 5 ≤ r := fun r e => (hr r e).1
  exact ⟨⟨h1, h2, boxed_far h3 hg fun r e => by have := hlt r e; omega⟩, h7.grown hg h7.size fun r e => by have := hlt r e; omega⟩

theorem backA_nat (ls : List Nat) (log st s : Nat) (h : st < 2 ^ log) : Bm.backA ls log (st : Int) s = (Bm.backP ls log st s).map fun p => (p, st - Bm.baseAt ls log p, Bm.bitsAt ls log p) := by
  unfold Bm.backA
  rw [if_pos ⟨by omega, by omega⟩, Int.toNat_natCast]
theorem keepB_below {n₀ Bs : Nat} {A B : World} (h : Below A.heap.size A B) (hn : n₀ ≤ A.heap.size) (hb : Bs < A.heap.size) : KeepB n₀ Bs A B := ⟨h.mono hn, h.block Bs hb⟩
theorem keepB_grown {n₀ Bs b : Nat} {A B : World} (h : A.grownBy B (some b)) (hn : n₀ ≤ A.heap.size) (hnb : n₀ ≤ b) (hb : Bs < A.heap.size) (hne : Bs ≠ b) : KeepB n₀ Bs A B :=
  ⟨below_grown h hnb hn, h.block Bs hb (fun e => by injection e with e; exact hne e)⟩
theorem syms_rev (pre : List PB) (x : PB) : (PB.syms (pre ++ [x])).reverse = (x.2 : Nat) :: (PB.syms pre).reverse := by rw [PB.syms_snoc, List.reverse_append]; rfl

set_option maxRecDepth 100000 in
set_option maxHeartbeats 2000000 in
theorem ecode_in (pf : Nat) (cap : Value) (PI : Nat → Nat → World → Prop) (b : Nat) (p : Addr) (ls : List Nat) (log : Nat) (A : Option Addr) (c : Nat) (syms : List Nat) (w0 w : World)
    (hent : ∀ args w, (callFunc pf args).run Tryz.prog w = .ok (.enter pf args) w)
    (hkeep : ∀ N n W W' row, PI N n W → W.grownBy W' row → (∀ r, row = some r → Aside W b r) → PI N n W')
    (hput : ∀ (W : World) (N n v k : Nat), v < 2 ^ k → k ≤ 9 → n ≤ 100000 → PI N n W → Calls Tryz.prog pf #[.int .i64 (v : Int), .int .i64 (k : Int), cap] W fun e w' => (∃ v, e = .returned v) ∧ PI (N + v * 2 ^ n) (n + k) w' ∧ W.grownBy w' (some b))
    (hf : Bm.FairN ls log) (ht : STab w0 p ls log) (hs : syms.length ≤ 10000) (hlt : ∀ x ∈ syms, x < 256) (hr : Reads w0 A (u8s syms)) (hw : Below w0.heap.size w0 w) (hb : w0.heap.size ≤ b) (hb2 : b < w.heap.size) (h0 : PI 0 0 w) :
    Calls Tryz.prog 107 #[.pointer (some p), .slice A syms.length c, .func (.func pf) #[] #[cap]] w fun e w' => CodeA PI log w' e (Bm.encR ls log syms) ∧ Below w0.heap.size w0 w' := by
  have hsz := fun W (hW : Below w0.heap.size w0 W) => tsize_any W p ls log (stab_keep _ _ _ _ _ ht hW)
  have hbk := fun W (hW : Below w0.heap.size w0 W) st s hs => tback_any W p ls log st s hf (stab_keep _ _ _ _ _ ht hW) hs
  have hlg := fun W (hW : Below w0.heap.size w0 W) => tlog_any W p ls log (stab_keep _ _ _ _ _ ht hW)
  have Hsz := Lib.hid hsz
  have Hbk := Lib.hid hbk
  have Hlg := Lib.hid hlg
  have hP := pow_fair log hf.low hf.high
  have Hf := Lib.hid hf
  have Hput := Lib.hid hput
  have Hlt := Lib.hid hlt
  have Hr := Lib.hid hr
  clear hsz hbk hlg hput hf hlt hr ht
  have hB0 := hw.size
  obtain ⟨W1, hW1⟩ : ∃ W1, W1 = ((w.alloc (.cells #[.pointer (some p)] 138)).alloc (.cells #[.func (.func pf) #[] #[cap]] 159)).alloc (.cells #[.bool false] 4) := ⟨_, rfl⟩
  have HW1 := Lib.hid hW1
  have hs1 : W1.heap.size = w.heap.size + 3 := by rw [hW1]; simp
  have b1 : Boxed W1 w.heap.size 138 (.pointer (some p)) := by rw [hW1]; exact ((Boxed.new w _ _).alloc _).alloc _
  have b2 : Boxed W1 (w.heap.size + 1) 159 (.func (.func pf) #[] #[cap]) := by
    rw [hW1]
    have h := Boxed.new (w.alloc (.cells #[.pointer (some p)] 138)) 159 (.func (.func pf) #[] #[cap])
    rw [World.size_alloc] at h
    exact h.alloc _
  have b3 : Boxed W1 (w.heap.size + 2) 4 (.bool false) := by
    rw [hW1]
    have h := Boxed.new ((w.alloc (.cells #[.pointer (some p)] 138)).alloc (.cells #[.func (.func pf) #[] #[cap]] 159)) 4 (.bool false)
    rw [World.size_alloc, World.size_alloc] at h
    exact h
  have hg1 : w.grownBy W1 none := by rw [hW1]; exact grown_alloc (grown_alloc (grown_alloc (grown_refl _ _) _) _) _
  have hw1 : Below w0.heap.size w0 W1 := hw.grown hg1 hw.size (by simp)
  have p1 : PI 0 0 W1 := hkeep _ _ _ _ _ h0 hg1 (by simp)
  have c1 := b1.cell
  have c2 := b2.cell
  have c3 := b3.cell
  have f3 := b3.frozen
  have z1 := Lib.hid (Hsz.out W1 hw1)
  have Hdz : Hid ((((2 ^ log : Nat) : Int) == 0) = false) := Lib.hid (by rw [beq_eq_false_iff_ne]; omega)
  clear hW1
  refine (callsIn_wide (n := 4)).1 ?_
  refine callsIn_of_wp_marks Tryz.func107 rfl trivial ?_ rfl
  simp only [Tryz.ntmps107, List.size_toArray, List.length_cons, List.length_nil, Nat.reduceAdd, Nat.reduceSub, Array.replicate_succ, Array.replicate_zero, List.push_toArray, List.append_toArray, List.nil_append, List.cons_append]
  gi_wp2_with fail
  rw [← HW1.out]
  refine ⟨trivial, (callsIn_wide.2 z1.out).mono ?_⟩
  rintro e w' ⟨rfl, rfl⟩
  have dz := Hdz.out
  generalize 2 ^ log = S at *
  gi_wp2_with fail
  refine ⟨trivial, (backward_in Fence.wide 3 trivial rfl A syms.length c _).mono ?_⟩
  rintro e w' ⟨rfl, hW3⟩
  obtain ⟨W3, hW3e⟩ : ∃ W3, W3 = w' := ⟨_, rfl⟩
  have hs2 : (W1.alloc (.cells #[.int .i64 0] 3)).heap.size = w.heap.size + 4 := by rw [World.size_alloc, hs1]
  have hs3 : w'.heap.size = w.heap.size + 5 := by rw [hW3, World.size_alloc, hs2]
  have hg3 : W1.grownBy w' none := by rw [hW3]; exact grown_alloc (grown_alloc (grown_refl _ _) _) _
  have d1 := boxed_far b1 hg3 (by simp)
  have d2 := boxed_far b2 hg3 (by simp)
  have d3 := boxed_far b3 hg3 (by simp)
  have d4 : Boxed w' (w.heap.size + 3) 3 (.int .i64 0) := by
    have h := Boxed.new W1 3 (.int .i64 0)
    rw [hs1] at h
    rw [hW3]
    exact h.alloc _
  have d5 : Boxed w' (w.heap.size + 4) 45 (.slice A syms.length c) := by
    have h := Boxed.new (W1.alloc (.cells #[.int .i64 0] 3)) 45 (.slice A syms.length c)
    rw [hs2] at h
    rw [hW3]
    exact h
  have hw3 : Below w0.heap.size w0 w' := hw1.grown hg3 hw1.size (by simp)
  have p3 : PI 0 0 w' := hkeep _ _ _ _ _ p1 hg3 (by simp)
  rw [hs2]
  clear hW3e hW3 hg3 c1 c2 c3 f3 b1 b2 b3 p1 z1 hg1 HW1
  gi_wp2_with fail
  refine wpIn_rangeFunc_ownG (N := syms.length) (w0 := w') rfl (by omega) (gf := 126) (lb := #[.pointer (some ⟨w.heap.size + 4, 0, none⟩)]) rfl trivial (enters_of Tryz.func126 (by kernel_rfl) rfl)
    (backward_stops Fence.wide 3 trivial rfl (by omega) (w.heap.size + 4) c A syms Hlt.out (by omega) w0 w' hw3 (by omega) d5.cell Hr.out) (fun h k => KeepB.t h k) (KeepB.b (by omega) (by omega)) (Below.refl _ _) (fun _ => rfl)
    (CodeI PI pf cap p ls log w0 w.heap.size) (CodeX ls log w0 w.heap.size)
    (by rw [hs3]; exact codeI_own hB0 hb2 hkeep) (fun c => by rw [hs3]; exact codeX_own hB0 c)
    ⟨⟨⟨d1, d2, d3⟩, 0, 0, 0, rfl, d4, p3⟩, hw3, by omega⟩
    (fun x => { tmps := #[.pointer (some p), .slice A syms.length c, .func (.func pf) #[] #[cap], .pointer (some ⟨w.heap.size, 0, none⟩), undef, .pointer (some ⟨w.heap.size + 1, 0, none⟩), .pointer (some ⟨w.heap.size + 1 + 1, 0, none⟩), .pointer (some ⟨w.heap.size + 3, 0, none⟩), undef, .int .u8 ((x.2 : Nat) : Int), undef, undef, undef, undef, .pointer (some p), .int .i64 (S : Int), .bool false, .slice A syms.length c, .func (.func 126) #[] #[.pointer (some ⟨w.heap.size + 4, 0, none⟩)], .int .i64 (x.1 : Int), .int .u8 ((x.2 : Nat) : Int), undef, undef, undef, undef, undef, undef, undef, undef, undef, undef, undef, undef, undef, undef, undef, undef, undef, undef, undef, undef, undef], defers := [] }) ?assign ?body ?done ?stop
  case assign =>
    intro l x W K hK
    unfold PB.enc
    gi_wp2
    exact hK
  case body =>
    rintro l pre x W ⟨⟨⟨h1, h2, h3⟩, N, n, st, h4, h5, h6⟩, h7, h8⟩ hlen
    rw [hs3]
    obtain ⟨hN, hst, hnl, _⟩ := Bm.enc_ok ls log Hf.out _ N n st h4
    rw [List.length_reverse, PB.syms_length] at hnl
    have h9 := Hf.out.high
    have hn9 : n ≤ 90000 := by
      have h1 : log * pre.length ≤ 9 * 10000 := Nat.mul_le_mul h9 (by omega)
      omega
    have hrev := syms_rev pre x
    have hBk := Hbk.out W h7 (st : Int) (x.2 : Nat) x.2.isLt
    rw [backA_nat ls log st _ hst] at hBk
    have c1 := h1.cell
    have c4 := h5.cell
    cases hbp : Bm.backP ls log st (x.2 : Nat) with
    | none =>
      have henc : Bm.encR ls log (PB.syms (pre ++ [x])).reverse = none := by
        rw [hrev]
        simp only [Bm.encR]
        rw [h4, Option.bind_some]
        dsimp only
        rw [hbp]
        rfl
      rw [hbp, Option.map_none] at hBk
      unfold backT at hBk
      dsimp only at hBk
      have HB := Lib.hid hBk
      clear hBk
      gi_wp2_with fail
      refine ⟨trivial, (CallsIn.inRound l (callsIn_wide.2 HB.out)).mono ?_⟩
      rintro e W4 ⟨rfl, hb4⟩
      have hg4 := grown_below hb4 none
      have b3 := boxed_far h3 hg4 (by simp)
      have c3 := b3.cell
      have f3 := b3.frozen
      have hs4 := hb4.size
      have hg5 := grownBy_setCell' W4 (w.heap.size + 2) (.bool false)
      have Hout : Hid (KeepsFrom (w.heap.size + 5) W (W4.setCell ⟨w.heap.size + 2, 0, none⟩ (.bool false)) ∧ CodeX ls log w0 w.heap.size .ret (pre ++ [x]) (W4.setCell ⟨w.heap.size + 2, 0, none⟩ (.bool false))) := Lib.hid
        ⟨(KeepsFrom.of_grownBy hg4 (by simp)).trans (KeepsFrom.of_grownBy hg5 (fun j e => by injection e with e; omega)),
          ⟨rfl, henc, b3.set _⟩, (h7.grown hg4 h7.size (by simp)).grown hg5 (by omega) (fun k e => by injection e with e; omega)⟩
      clear hb4 hg4 b3 hg5 henc
      gi_wp2
      exact Hout.out
    | some q =>
      have henc : Bm.encR ls log (PB.syms (pre ++ [x])).reverse = some (N + (st - Bm.baseAt ls log q) * 2 ^ n, n + Bm.bitsAt ls log q, q) := by
        rw [hrev]
        simp only [Bm.encR]
        rw [h4, Option.bind_some]
        dsimp only
        rw [hbp]
        rfl
      obtain ⟨hq, hl1, hl2, hl3⟩ := Bm.back_leads ls log st _ q hbp
      have hbits := Bm.bits_at ls log q Hf.out hq
      have hv : st - Bm.baseAt ls log q < 2 ^ Bm.bitsAt ls log q := by
        generalize 2 ^ Bm.bitsAt ls log q = P at hl3 ⊢
        omega
      rw [hbp, Option.map_some] at hBk
      unfold backT at hBk
      dsimp only at hBk
      have HB := Lib.hid hBk
      clear hBk hl1 hl2 hl3
      generalize st - Bm.baseAt ls log q = v at *
      generalize Bm.bitsAt ls log q = k at *
      gi_wp2_with fail
      refine ⟨trivial, (CallsIn.inRound l (callsIn_wide.2 HB.out)).mono ?_⟩
      rintro e W4 ⟨rfl, hb4⟩
      have hg4 := grown_below hb4 none
      have hs4 := hb4.size
      have b1 := boxed_far h1 hg4 (by simp)
      have b2 := boxed_far h2 hg4 (by simp)
      have b3 := boxed_far h3 hg4 (by simp)
      have b4 := boxed_far h5 hg4 (by simp)
      have c2 := b2.cell
      have p4 := hkeep _ _ _ _ _ h6 hg4 (by simp)
      have HP := Lib.hid (Hput.out W4 N n v k hv (by omega) (by omega) p4)
      clear c1 c4
      gi_wp2_with fail
      refine ⟨trivial, (CallsIn.inRound l (callsIn_wide.2 HP.out)).mono ?_⟩
      rintro e W5 ⟨⟨r5, rfl⟩, p5, hg5⟩
      have hs5 := hg5.size
      have e1 := boxed_far b1 hg5 (fun r e => by injection e with e; omega)
      have e2 := boxed_far b2 hg5 (fun r e => by injection e with e; omega)
      have e3 := boxed_far b3 hg5 (fun r e => by injection e with e; omega)
      have e4 := boxed_far b4 hg5 (fun r e => by injection e with e; omega)
      have c4 := e4.cell
      have f4 := e4.frozen
      have hg6 := grownBy_setCell' W5 (w.heap.size + 3) (.int .i64 (q : Int))
      have hs6 := hg6.size
      have Hout : Hid (KeepsFrom (w.heap.size + 5) W (W5.setCell ⟨w.heap.size + 3, 0, none⟩ (.int .i64 (q : Int))) ∧ KeepB w0.heap.size (w.heap.size + 4) W (W5.setCell ⟨w.heap.size + 3, 0, none⟩ (.int .i64 (q : Int))) ∧
          CodeI PI pf cap p ls log w0 w.heap.size (pre ++ [x]) (W5.setCell ⟨w.heap.size + 3, 0, none⟩ (.int .i64 (q : Int)))) := Lib.hid (by
        refine ⟨((KeepsFrom.of_grownBy hg4 (by simp)).trans (KeepsFrom.of_grownBy hg5 (fun j e => by injection e with e; omega))).trans (KeepsFrom.of_grownBy hg6 (fun j e => by injection e with e; omega)),
          ((keepB_below hb4 (by omega) (by omega)).t (keepB_grown hg5 (by omega) hb (by omega) (by omega))).t (keepB_grown hg6 (by omega) (by omega) (by omega) (by omega)), ⟨⟨?_, ?_, ?_⟩, _, _, q, henc, e4.set _, ?_⟩, ?_, by omega⟩
        · exact boxed_far e1 hg6 (fun r e => by injection e with e; omega)
        · exact boxed_far e2 hg6 (fun r e => by injection e with e; omega)
        · exact boxed_far e3 hg6 (fun r e => by injection e with e; omega)
        · exact hkeep _ _ _ _ _ p5 hg6 (fun r e => by injection e with e; subst e; exact aside_of_box e4 (by decide) (by omega))
        · exact ((h7.grown hg4 h7.size (by simp)).grown hg5 (by omega) (fun k e => by injection e with e; omega)).grown hg6 (by omega) (fun k e => by injection e with e; omega))
      clear hb4 hg4 hg5 hg6 henc b1 b2 b3 b4 e1 e2 e3 e4 c2
      gi_wp2
      exact Hout.out
  case done =>
    rintro D ys W hD hys ⟨⟨⟨h1, h2, h3⟩, N, n, st, h4, h5, h6⟩, h7, h8⟩ hK
    rw [hys, List.reverse_reverse] at h4
    obtain ⟨hN, hst, hnl, _⟩ := Bm.enc_ok ls log Hf.out _ N n st h4
    have h9 := Hf.out.high
    have hn9 : n ≤ 90000 := by
      have h1 : log * syms.length ≤ 9 * 10000 := Nat.mul_le_mul h9 (by omega)
      omega
    have c1 := h1.cell
    have c2 := h2.cell
    have c4 := h5.cell
    have hL := Lib.hid (Hlg.out W h7)
    have HP := Lib.hid (Hput.out W N n st log hst h9 (by omega) h6)
    gi_wp2
    refine wpIn_wide.2 ?_
    have p6 : PI N n W.drew := hkeep _ _ _ _ _ h6 (grown_drew (grown_refl _ none)) (by simp)
    have HL := Lib.hid (Hlg.out W.drew h7.drew)
    have HP := Lib.hid (Hput.out W.drew N n st log hst h9 (by omega) p6)
    go_region_held3 (fun W' => W'.cell? ⟨w.heap.size, 0, none⟩ = some (.pointer (some p)) ∧ W'.cell? ⟨w.heap.size + 1, 0, none⟩ = some (.func (.func pf) #[] #[cap]) ∧ W'.cell? ⟨w.heap.size + 3, 0, none⟩ = some (.int .i64 (st : Int))) (first | exact ⟨c1, c2, c4⟩ | exact ⟨d1, d2, d4⟩) (first
      | (go_at_call 116; (with_reducible refine HL.out.mono ?_); rintro e w' ⟨rfl, rfl⟩)
      | ((with_reducible refine HP.out.mono ?_); rintro e W9 ⟨⟨r9, rfl⟩, p9, hg9⟩; have e1 := Lib.hid (boxed_far h1 (W := W.drew) hg9 (fun r e => by injection e with e; omega)); have e2 := Lib.hid (boxed_far h2 (W := W.drew) hg9 (fun r e => by injection e with e; omega)); have e3 := Lib.hid (boxed_far h3 (W := W.drew) hg9 (fun r e => by injection e with e; omega)); have e4 := Lib.hid (boxed_far h5 (W := W.drew) hg9 (fun r e => by injection e with e; omega)); have d1 := e1.out.cell; have d2 := e2.out.cell; have d4 := e4.out.cell))
    have hd9 : W9.heap.size ≥ W.heap.size := hg9.size
    have hK9 : W9.heap[D]? = some (.deferred (some [])) := (hg9.block D (Array.getElem?_eq_some_iff.1 hK).1 (fun e => by injection e with e; omega)).trans hK
    have hg10 := grownBy_setCell' W9 (w.heap.size + 2) (.bool true)
    have hK10 : (W9.setCell ⟨w.heap.size + 2, 0, none⟩ (.bool true)).heap[D]? = some (.deferred (some [])) := (hg10.block D (Array.getElem?_eq_some_iff.1 hK9).1 (fun e => by injection e with e; omega)).trans hK9
    have p10 := hkeep _ _ _ _ _ p9 hg10 (fun r e => by injection e with e; subst e; exact aside_of_box e3.out (by decide) (by omega))
    have hb10 : Below w0.heap.size w0 (W9.setCell ⟨w.heap.size + 2, 0, none⟩ (.bool true)) := ((h7.drew.grown hg9 h7.size (fun k e => by injection e with e; omega)).grown hg10 (Nat.le_trans h7.size hd9) (fun k e => by injection e with e; omega))
    have c3 := e3.out.cell
    have f3 := e3.out.frozen
    have hc5 := cell_kept (e3.out.set (.bool true)).cell (grownBy_putObj' _ D (.deferred none)) (fun r e => by cases e; exact ⟨_, hK10, rfl⟩)
    have HK10 := Lib.hid hK10
    have Hc5 := Lib.hid hc5
    have Hb10 := Lib.hid hb10
    have P10 := Lib.hid p10
    clear hK9 hK10 hc5 hg10 hg9 p10 p9 hb10 d1 d2 d4 c1 c2 c4
    gi_wp2
    refine ⟨by simp, .inl ⟨_, _, rfl, run_takeDeferred HK10.out, ?_⟩⟩
    have hc5 := Hc5.out
    refine ⟨.bool true, ?_, ?_, Hb10.out.trans (belowK_b (w := w) (by omega) _ D _ _ (by omega) HK10.out rfl rfl)⟩
    · simp [results, Tryz.f107, go_sem, hc5]
    · rw [h4]
      exact ⟨rfl, hkeep _ _ _ _ _ P10.out (grownBy_putObj' _ D (.deferred none)) (fun r e => by cases e; exact aside_of_obj HK10.out rfl (by omega))⟩
  case stop =>
    rintro D c pre W hD hpre ⟨⟨rfl, h2, h3⟩, h7⟩ hK
    have henc : Bm.encR ls log syms = none := by
      obtain ⟨t, ht⟩ := hpre
      have h := congrArg List.reverse ht
      rw [List.reverse_append, List.reverse_reverse] at h
      rw [← h]
      exact enc_append_none ls log _ h2 _
    gi_wp2
    refine ⟨by simp, .inl ⟨_, _, rfl, run_takeDeferred hK, ?_⟩⟩
    have hc5 := cell_kept h3.cell (grownBy_putObj' _ D (.deferred none)) (fun r e => by cases e; exact ⟨_, hK, rfl⟩)
    refine ⟨.bool false, ?_, by rw [henc]; rfl, h7.trans (belowK_b (w := w) (by omega) _ D _ _ (by omega) hK rfl rfl)⟩
    simp [results, Tryz.f107, go_sem, hc5]
end Go.Proofs.YtbdciiiimdbmkaaGreat
